import PyProof.Rows.All
import Wide.All
import OpenK.AllK
import Wide.FinOn
import Open.SpecLaws
import KE.OsGo
import KE.DataMinKey
import KE.KDictPairs
import KE.KDictZip
import PyProof.MaxThree
import HandS.ForSpec
import HandS.Comp
import HandS.Dict
import HandS.Iter
import HandS.Conv
import HandS.More
import HandS.NoneIn
import HandS.Strs
import HandS.SetFor
import HandS.Zip
import HandS.WordsDict
import HandS.Codes
import HandS.Lambda
import HandS.SortKw
import HandS.Walk
import HandS.EndTab
import HandS.Spec
import PySem.Challenge.RW_smallertrades_s01_answers
set_option Elab.async false
set_option linter.all false
set_option maxRecDepth 100000
set_option maxHeartbeats 4000000
/-! # answers: at every line that the document lets, what is due -/
section
/-! # Nw: nets, flows, potentials. Plain Lean, no program. -/
namespace Nw

/-- the sum over the places below n -/
def sm : Nat → (Nat → Int) → Int
  | 0, _ => 0
  | n + 1, g => sm n g + g n

theorem sm_congr : ∀ {n : Nat} {g h : Nat → Int}, (∀ i, i < n → g i = h i) → sm n g = sm n h
  | 0, _, _, _ => rfl
  | n + 1, g, h, e => by
    show sm n g + g n = sm n h + h n
    rw [sm_congr (fun i hi => e i (by omega)), e n (by omega)]
theorem sm_add : ∀ (n : Nat) (g h : Nat → Int), sm n (fun i => g i + h i) = sm n g + sm n h
  | 0, _, _ => rfl
  | n + 1, g, h => by
    show sm n (fun i => g i + h i) + (g n + h n) = (sm n g + g n) + (sm n h + h n)
    rw [sm_add n g h]
    omega
theorem sm_sub : ∀ (n : Nat) (g h : Nat → Int), sm n (fun i => g i - h i) = sm n g - sm n h
  | 0, _, _ => rfl
  | n + 1, g, h => by
    show sm n (fun i => g i - h i) + (g n - h n) = (sm n g + g n) - (sm n h + h n)
    rw [sm_sub n g h]
    omega
theorem sm_mul : ∀ (n : Nat) (c : Int) (g : Nat → Int), sm n (fun i => c * g i) = c * sm n g
  | 0, c, _ => (Int.mul_zero c).symm
  | n + 1, c, g => by
    show sm n (fun i => c * g i) + c * g n = c * (sm n g + g n)
    rw [sm_mul n c g, Int.mul_add]
theorem sm_le : ∀ {n : Nat} {g h : Nat → Int}, (∀ i, i < n → g i ≤ h i) → sm n g ≤ sm n h
  | 0, _, _, _ => Int.le_refl _
  | n + 1, g, h, e => by
    show sm n g + g n ≤ sm n h + h n
    have e1 := sm_le (n := n) (fun i hi => e i (by omega))
    have e2 := e n (by omega)
    omega
theorem sm_zero {n : Nat} {g : Nat → Int} (e : ∀ i, i < n → g i = 0) : sm n g = 0 := by
  rw [sm_congr e]
  induction n with
  | zero => rfl
  | succ n ih =>
    show sm n (fun _ => 0) + 0 = 0
    rw [ih (fun i hi => e i (by omega))]
    rfl
theorem sm_nonneg {n : Nat} {g : Nat → Int} (e : ∀ i, i < n → 0 ≤ g i) : 0 ≤ sm n g := by
  have h := sm_le (n := n) (g := fun _ => 0) (h := g) e
  rwa [sm_zero (fun _ _ => rfl)] at h
theorem sm_nonpos {n : Nat} {g : Nat → Int} (e : ∀ i, i < n → g i ≤ 0) : sm n g ≤ 0 := by
  have h := sm_le (n := n) (g := g) (h := fun _ => 0) e
  rwa [sm_zero (fun _ _ => rfl)] at h
/-- two sums, one below the other place by place and equal: equal place by place -/
theorem sm_eq_each : ∀ {n : Nat} {g h : Nat → Int}, (∀ i, i < n → g i ≤ h i) → sm n h ≤ sm n g → ∀ i, i < n → g i = h i
  | 0, _, _, _, _, i, hi => by omega
  | n + 1, g, h, e, k, i, hi => by
    have k' : sm n h + h n ≤ sm n g + g n := k
    have e1 := sm_le (n := n) (g := g) (h := h) (fun i hi => e i (by omega))
    have e2 := e n (by omega)
    by_cases c : i = n
    · subst c
      omega
    · exact sm_eq_each (n := n) (fun i hi => e i (by omega)) (by omega) i (by omega)
/-- a place alone is at most the sum of what is nowhere below 0 -/
theorem sm_ge_one : ∀ {n : Nat} {g : Nat → Int}, (∀ i, i < n → 0 ≤ g i) → ∀ i, i < n → g i ≤ sm n g
  | 0, _, _, i, hi => by omega
  | n + 1, g, e, i, hi => by
    show g i ≤ sm n g + g n
    have e2 := e n (by omega)
    by_cases c : i = n
    · subst c
      have := sm_nonneg (n := i) (g := g) (fun j hj => e j (by omega))
      omega
    · have := sm_ge_one (n := n) (g := g) (fun i hi => e i (by omega)) i (by omega)
      omega
theorem sm_swap : ∀ (n m : Nat) (g : Nat → Nat → Int), sm n (fun i => sm m (fun j => g i j)) = sm m (fun j => sm n (fun i => g i j))
  | 0, m, g => by
    show (0 : Int) = sm m (fun _ => 0)
    rw [sm_zero (fun _ _ => rfl)]
  | n + 1, m, g => by
    show sm n (fun i => sm m (fun j => g i j)) + sm m (fun j => g n j) = sm m (fun j => sm n (fun i => g i j) + g n j)
    rw [sm_swap n m g, sm_add]

/-- 1 where it holds, else 0 -/
def ind (p : Bool) : Int := if p = true then 1 else 0
theorem ind_true : ind true = 1 := rfl
theorem ind_false : ind false = 0 := rfl
theorem ind_pos {p : Bool} (h : p = true) : ind p = 1 := if_pos h
theorem ind_neg {p : Bool} (h : p = false) : ind p = 0 := by rw [h] <;> rfl
theorem ind_cases (p : Bool) : ind p = 0 ∨ ind p = 1 := by cases p <;> simp [ind]

/-- what a function is worth at one place, as a sum -/
theorem sm_pick : ∀ {n : Nat} (q : Nat → Int) (x : Nat), x < n → sm n (fun m => q m * ind (x == m)) = q x
  | 0, _, x, h => by omega
  | n + 1, q, x, h => by
    show sm n (fun m => q m * ind (x == m)) + q n * ind (x == n) = q x
    by_cases c : x = n
    · subst c
      rw [sm_zero, ind_pos (by simp)]
      · omega
      · intro i hi
        rw [ind_neg (by simp; omega)]
        omega
    · rw [sm_pick q x (by omega), ind_neg (by simp [c])]
      omega

structure Net where
  n : Nat
  a : Nat → Nat
  b : Nat → Nat
  r : Nat → Int

/-- what goes out of a vertex less what comes in -/
def net (N : Net) (f : Nat → Int) (m : Nat) : Int := sm N.n fun i => (ind (N.a i == m) - ind (N.b i == m)) * f i
def Fits (N : Net) (f : Nat → Int) : Prop := ∀ i, i < N.n → 0 ≤ f i ∧ f i ≤ N.r i
structure Red (N : Net) (f : Nat → Int) : Prop where
  fits : Fits N f
  even : ∀ m, net N f m = 0
def tot (N : Net) (f : Nat → Int) : Int := sm N.n f
def worth (N : Net) (p : Nat → Int) (i : Nat) : Int := 1 + (p (N.a i) - p (N.b i))
def top0 (x : Int) : Int := if 0 < x then x else 0
def bound (N : Net) (p : Nat → Int) : Int := sm N.n fun i => N.r i * top0 (worth N p i)
def Tight (N : Net) (f p : Nat → Int) : Prop := ∀ i, i < N.n → (f i < N.r i → worth N p i ≤ 0) ∧ (0 < f i → 0 ≤ worth N p i)
def Opt (N : Net) (f : Nat → Int) : Prop := Red N f ∧ ∀ g, Red N g → tot N g ≤ tot N f

theorem net_congr {N : Net} {f g : Nat → Int} (e : ∀ i, i < N.n → f i = g i) (m : Nat) : net N f m = net N g m :=
  sm_congr fun i hi => by rw [e i hi]
theorem net_sub (N : Net) (f g : Nat → Int) (m : Nat) : net N (fun i => f i - g i) m = net N f m - net N g m := by
  unfold net
  rw [← sm_sub]
  exact sm_congr fun i _ => by rw [Int.mul_sub]
theorem net_add (N : Net) (f g : Nat → Int) (m : Nat) : net N (fun i => f i + g i) m = net N f m + net N g m := by
  unfold net
  rw [← sm_add]
  exact sm_congr fun i _ => by rw [Int.mul_add]
theorem net_mul (N : Net) (c : Int) (f : Nat → Int) (m : Nat) : net N (fun i => c * f i) m = c * net N f m := by
  unfold net
  rw [← sm_mul]
  exact sm_congr fun i _ => by rw [← Int.mul_assoc, ← Int.mul_assoc, Int.mul_comm c]
theorem net_zero (N : Net) (m : Nat) : net N (fun _ => 0) m = 0 := sm_zero fun i _ => by rw [Int.mul_zero]

/-- a bound above all vertices -/
theorem exists_above : ∀ (n : Nat) (g : Nat → Nat), ∃ M, ∀ i, i < n → g i < M
  | 0, _ => ⟨0, fun i hi => by omega⟩
  | n + 1, g => by
    obtain ⟨M, h⟩ := exists_above n g
    refine ⟨M + g n + 1, fun i hi => ?_⟩
    by_cases c : i = n
    · subst c
      omega
    · have := h i (by omega)
      omega
theorem exists_aboveI : ∀ (n : Nat) (g : Nat → Int), ∃ M, ∀ i, i < n → g i ≤ M
  | 0, _ => ⟨0, fun i hi => by omega⟩
  | n + 1, g => by
    obtain ⟨M, h⟩ := exists_aboveI n g
    by_cases k : M ≤ g n
    · refine ⟨g n, fun i hi => ?_⟩
      by_cases c : i = n
      · subst c
        omega
      · have := h i (by omega)
        omega
    · refine ⟨M, fun i hi => ?_⟩
      by_cases c : i = n
      · subst c
        omega
      · exact h i (by omega)
theorem above_all (N : Net) : ∃ M, ∀ i, i < N.n → N.a i < M ∧ N.b i < M := by
  obtain ⟨A, hA⟩ := exists_above N.n N.a
  obtain ⟨B, hB⟩ := exists_above N.n N.b
  exact ⟨A + B, fun i hi => ⟨by have := hA i hi; omega, by have := hB i hi; omega⟩⟩

/-- a function of the vertices along the places: summed by the vertices' nets -/
theorem sm_nets {N : Net} {M : Nat} (h : ∀ i, i < N.n → N.a i < M ∧ N.b i < M) (q f : Nat → Int) :
    sm M (fun m => q m * net N f m) = sm N.n (fun i => (q (N.a i) - q (N.b i)) * f i) := by
  have e1 : sm M (fun m => q m * net N f m) = sm M (fun m => sm N.n fun i => q m * ((ind (N.a i == m) - ind (N.b i == m)) * f i)) :=
    sm_congr fun m _ => (sm_mul N.n (q m) _).symm
  rw [e1, sm_swap]
  refine sm_congr fun i hi => ?_
  have e2 : sm M (fun m => q m * ((ind (N.a i == m) - ind (N.b i == m)) * f i)) = sm M (fun m => f i * (q m * ind (N.a i == m)) - f i * (q m * ind (N.b i == m))) := by
    refine sm_congr fun m _ => ?_
    rw [Int.sub_mul, Int.mul_sub]
    congr 1
    · rw [← Int.mul_assoc, Int.mul_comm]
    · rw [← Int.mul_assoc, Int.mul_comm]
  rw [e2, sm_sub, sm_mul, sm_mul, sm_pick q _ (h i hi).1, sm_pick q _ (h i hi).2, ← Int.mul_sub, Int.mul_comm]

theorem even_sum {N : Net} {f : Nat → Int} (h : ∀ m, net N f m = 0) (q : Nat → Int) : sm N.n (fun i => (q (N.a i) - q (N.b i)) * f i) = 0 := by
  obtain ⟨M, hM⟩ := above_all N
  rw [← sm_nets hM q f]
  exact sm_zero fun m _ => by rw [h m, Int.mul_zero]

/-! ## Duality -/
theorem tot_worth {N : Net} {f : Nat → Int} (h : Red N f) (p : Nat → Int) : tot N f = sm N.n (fun i => worth N p i * f i) := by
  have e := even_sum h.even p
  have e2 : sm N.n (fun i => worth N p i * f i) = sm N.n (fun i => f i + (p (N.a i) - p (N.b i)) * f i) :=
    sm_congr fun i _ => by
      unfold worth
      rw [Int.add_mul, Int.one_mul]
  rw [e2, sm_add, e]
  show sm N.n f = sm N.n f + 0
  omega
theorem top0_nonneg (x : Int) : 0 ≤ top0 x := by
  unfold top0
  split <;> omega
theorem le_top0 (x : Int) : x ≤ top0 x := by
  unfold top0
  split <;> omega
theorem worth_le {w f r : Int} (h0 : 0 ≤ f) (hr : f ≤ r) : w * f ≤ r * top0 w := by
  by_cases c : 0 < w
  · have e : top0 w = w := if_pos c
    rw [e, Int.mul_comm r]
    exact Int.mul_le_mul_of_nonneg_left hr (by omega)
  · have e : top0 w = 0 := if_neg c
    rw [e, Int.mul_zero]
    exact Int.mul_nonpos_of_nonpos_of_nonneg (by omega) h0
theorem worth_eq_iff {w f r : Int} (h0 : 0 ≤ f) (hr : f ≤ r) : w * f = r * top0 w ↔ (f < r → w ≤ 0) ∧ (0 < f → 0 ≤ w) := by
  by_cases c : 0 < w
  · have e : top0 w = w := if_pos c
    rw [e, Int.mul_comm r]
    constructor
    · intro k
      have k2 : f = r := Int.eq_of_mul_eq_mul_left (by omega) k
      constructor <;> intro _ <;> omega
    · intro ⟨k, _⟩
      have : f = r := by
        by_cases q : f < r
        · have := k q
          omega
        · omega
      rw [this]
  · have e : top0 w = 0 := if_neg c
    rw [e, Int.mul_zero]
    constructor
    · intro k
      have k2 := Int.mul_eq_zero.mp k
      constructor <;> intro _ <;> omega
    · intro ⟨_, k⟩
      by_cases q : 0 < f
      · have : w = 0 := by
          have := k q
          omega
        rw [this, Int.zero_mul]
      · have : f = 0 := by omega
        rw [this, Int.mul_zero]
theorem tot_le_bound {N : Net} {f : Nat → Int} (h : Red N f) (p : Nat → Int) : tot N f ≤ bound N p := by
  rw [tot_worth h p]
  exact sm_le fun i hi => worth_le (h.fits i hi).1 (h.fits i hi).2
theorem tot_eq_bound {N : Net} {f p : Nat → Int} (h : Red N f) : tot N f = bound N p ↔ Tight N f p := by
  rw [tot_worth h p]
  constructor
  · intro e i hi
    have := sm_eq_each (n := N.n) (g := fun i => worth N p i * f i) (h := fun i => N.r i * top0 (worth N p i)) (fun i hi => worth_le (h.fits i hi).1 (h.fits i hi).2) (Int.le_of_eq e.symm) i hi
    exact (worth_eq_iff (h.fits i hi).1 (h.fits i hi).2).mp this
  · intro t
    exact sm_congr fun i hi => (worth_eq_iff (h.fits i hi).1 (h.fits i hi).2).mpr (t i hi)
theorem opt_of_tight {N : Net} {f p : Nat → Int} (h : Red N f) (t : Tight N f p) : Opt N f :=
  ⟨h, fun g hg => by
    rw [tot_eq_bound h |>.mpr t]
    exact tot_le_bound hg p⟩
theorem tight_of_opt {N : Net} {f g p : Nat → Int} (h : Red N f) (t : Tight N f p) (hg : Opt N g) : Tight N g p := by
  rw [← tot_eq_bound hg.1]
  have e := (tot_eq_bound h).mpr t
  have e1 := hg.2 f h
  have e2 := tot_le_bound hg.1 p
  omega
theorem opt_tot {N : Net} {f g : Nat → Int} (hf : Opt N f) (hg : Opt N g) : tot N f = tot N g := by
  have e1 := hg.2 f hf.1
  have e2 := hf.2 g hg.1
  omega
theorem opt_of_tot {N : Net} {f g : Nat → Int} (hf : Opt N f) (hg : Red N g) (e : tot N f ≤ tot N g) : Opt N g :=
  ⟨hg, fun k hk => Int.le_trans (hf.2 k hk) e⟩

/-! ## Feasible potentials of what is left of a flow, forward steps at the cost c -/
def Feas (N : Net) (c : Int) (f d : Nat → Int) : Prop := ∀ i, i < N.n → (f i < N.r i → d (N.b i) ≤ d (N.a i) + c) ∧ (0 < f i → d (N.a i) + c ≤ d (N.b i))
theorem tight_of_feas {N : Net} {f d : Nat → Int} (h : Feas N (-1) f d) : Tight N f (fun m => - d m) := fun i hi => by
  have h1 := h i hi
  unfold worth
  dsimp only
  exact ⟨fun k => by have := h1.1 k; omega, fun k => by have := h1.2 k; omega⟩
theorem feas_of_tight {N : Net} {f p : Nat → Int} (h : Tight N f p) : Feas N (-1) f (fun m => - p m) := fun i hi => by
  have h1 := h i hi
  unfold worth at h1
  dsimp only
  exact ⟨fun k => by have := h1.1 k; omega, fun k => by have := h1.2 k; omega⟩
theorem tight_of_kept {N : Net} {k d : Nat → Int} (h : Feas N 1 k d) : Tight N (fun i => N.r i - k i) d := fun i hi => by
  have h1 := h i hi
  unfold worth
  dsimp only
  exact ⟨fun q => by have := h1.2 (by omega); omega, fun q => by have := h1.1 (by omega); omega⟩

/-! ## Steps and chains -/
/-- a step: a place, and whether it goes along (more of it) or back (less of it) -/
structure Stp where
  i : Nat
  s : Bool
def src (N : Net) (t : Stp) : Nat := if t.s = true then N.a t.i else N.b t.i
def dst (N : Net) (t : Stp) : Nat := if t.s = true then N.b t.i else N.a t.i
/-- the step is left by f -/
def Left (N : Net) (f : Nat → Int) (t : Stp) : Prop := t.i < N.n ∧ (t.s = true → f t.i < N.r t.i) ∧ (t.s = false → 0 < f t.i)
/-- how much of it can go -/
def cap (N : Net) (f : Nat → Int) (t : Stp) : Int := if t.s = true then N.r t.i - f t.i else f t.i
def cst (c : Int) (t : Stp) : Int := if t.s = true then c else -c
def sgn (t : Stp) : Int := if t.s = true then 1 else -1
def Chain (N : Net) : Nat → List Stp → Nat → Prop
  | u, [], v => u = v
  | u, t :: l, v => src N t = u ∧ Chain N (dst N t) l v
/-- what a unit along the chain adds at a place -/
def amt : List Stp → Nat → Int
  | [], _ => 0
  | t :: l, i => (if t.i = i then sgn t else 0) + amt l i
def shifted (f : Nat → Int) (l : List Stp) (x : Int) : Nat → Int := fun i => f i + x * amt l i

theorem chain_append {N : Net} : ∀ {u v w : Nat} {l k : List Stp}, Chain N u l v → Chain N v k w → Chain N u (l ++ k) w
  | _, _, _, [], _, h1, h2 => by
    have h : _ = _ := h1
    subst h
    exact h2
  | _, _, _, _ :: _, _, h1, h2 => ⟨h1.1, chain_append h1.2 h2⟩
theorem chain_split {N : Net} : ∀ {u w : Nat} {l k : List Stp}, Chain N u (l ++ k) w → ∃ v, Chain N u l v ∧ Chain N v k w
  | u, _, [], _, h => ⟨u, rfl, h⟩
  | _, _, _ :: _, _, h => by
    obtain ⟨v, h1, h2⟩ := chain_split h.2
    exact ⟨v, ⟨h.1, h1⟩, h2⟩

theorem amt_notin : ∀ {l : List Stp} {i : Nat}, (∀ t, t ∈ l → t.i ≠ i) → amt l i = 0
  | [], _, _ => rfl
  | t :: l, i, h => by
    show (if t.i = i then sgn t else 0) + amt l i = 0
    rw [if_neg (h t (by simp)), amt_notin fun t ht => h t (by simp [ht])]
    rfl
theorem amt_in : ∀ {l : List Stp} {t : Stp}, (l.map (·.i)).Nodup → t ∈ l → amt l t.i = sgn t
  | [], _, _, h => by cases h
  | a :: l, t, hn, h => by
    rw [List.map_cons, List.nodup_cons] at hn
    show (if a.i = t.i then sgn a else 0) + amt l t.i = sgn t
    rcases List.mem_cons.mp h with e | e
    · subst e
      rw [if_pos rfl, amt_notin]
      · omega
      · intro b hb eb
        exact hn.1 (by rw [← eb]; exact List.mem_map_of_mem hb)
    · rw [if_neg, amt_in hn.2 e]
      · omega
      · intro eb
        exact hn.1 (by rw [eb]; exact List.mem_map_of_mem e)

/-- one step's net -/
theorem net_one (N : Net) (t : Stp) (ht : t.i < N.n) (m : Nat) : net N (fun i => if t.i = i then sgn t else 0) m = ind (src N t == m) - ind (dst N t == m) := by
  have e : net N (fun i => if t.i = i then sgn t else 0) m = sm N.n (fun i => ((ind (N.a i == m) - ind (N.b i == m)) * sgn t) * ind (t.i == i)) := by
    refine sm_congr fun i _ => ?_
    dsimp only
    by_cases c : t.i = i
    · rw [if_pos c, ind_pos (p := t.i == i) (by simp [c]), Int.mul_one]
    · rw [if_neg c, ind_neg (p := t.i == i) (by simp [c]), Int.mul_zero, Int.mul_zero]
  rw [e, sm_pick _ _ ht]
  obtain ⟨i, s⟩ := t
  cases s
  · show _ * (-1 : Int) = ind (N.b i == m) - ind (N.a i == m)
    dsimp only
    omega
  · show _ * (1 : Int) = ind (N.a i == m) - ind (N.b i == m)
    dsimp only
    omega
theorem net_amt {N : Net} : ∀ {l : List Stp} {u v : Nat}, (∀ t, t ∈ l → t.i < N.n) → Chain N u l v → ∀ m, net N (amt l) m = ind (u == m) - ind (v == m)
  | [], u, v, _, h, m => by
    have e : u = v := h
    subst e
    rw [Int.sub_self]
    exact net_zero N m
  | t :: l, u, v, hl, h, m => by
    have e : net N (amt (t :: l)) m = net N (fun i => if t.i = i then sgn t else 0) m + net N (amt l) m := net_add N _ _ m
    rw [e, net_one N t (hl t (by simp)), net_amt (fun t ht => hl t (by simp [ht])) h.2 m, h.1]
    omega
theorem net_shifted {N : Net} {f : Nat → Int} {l : List Stp} {u v : Nat} {x : Int} (hl : ∀ t, t ∈ l → t.i < N.n) (h : Chain N u l v) (m : Nat) :
    net N (shifted f l x) m = net N f m + x * (ind (u == m) - ind (v == m)) := by
  unfold shifted
  rw [net_add, net_mul, net_amt hl h m]

/-- a chain along which something counts up has each place once -/
theorem up_all {N : Net} {t : Nat → Int} : ∀ {l : List Stp} {u v : Nat}, Chain N u l v → (∀ q, q ∈ l → t (dst N q) = t (src N q) + 1) → (∀ q, q ∈ l → t u ≤ t (src N q)) ∧ t v = t u + l.length
  | [], u, v, h, _ => by
    have e : u = v := h
    subst e
    exact ⟨fun q hq => (nomatch hq), by simp⟩
  | a :: l, u, v, h, k => by
    have ih := up_all h.2 (fun q hq => k q (by simp [hq]))
    have e := k a (by simp)
    rw [h.1] at e
    constructor
    · intro q hq
      rcases List.mem_cons.mp hq with c | c
      · subst c
        rw [h.1]
        omega
      · have := ih.1 q c
        omega
    · rw [ih.2, e, List.length_cons]
      omega
theorem nodup_of_up {N : Net} {t : Nat → Int} : ∀ {l : List Stp} {u v : Nat}, Chain N u l v → (∀ q, q ∈ l → t (dst N q) = t (src N q) + 1) → (l.map (·.i)).Nodup
  | [], _, _, _, _ => by simp
  | a :: l, u, v, h, k => by
    rw [List.map_cons, List.nodup_cons]
    refine ⟨fun hin => ?_, nodup_of_up h.2 (fun q hq => k q (by simp [hq]))⟩
    obtain ⟨q, hq, e⟩ := List.mem_map.mp hin
    have up := (up_all h.2 (fun q hq => k q (by simp [hq]))).1 q hq
    have ka := k a (by simp)
    have kq := k q (by simp [hq])
    obtain ⟨i, s⟩ := a
    obtain ⟨j, s'⟩ := q
    dsimp only at e
    subst e
    cases s <;> cases s' <;> simp only [src, dst, if_true, if_false, Bool.false_eq_true] at up ka kq <;> omega

/-! ## The vertices of a chain -/
def verts (N : Net) : Nat → List Stp → List Nat
  | u, [] => [u]
  | u, t :: l => u :: verts N (dst N t) l
theorem verts_len (N : Net) : ∀ (u : Nat) (l : List Stp), (verts N u l).length = l.length + 1
  | _, [] => rfl
  | u, t :: l => by
    show (verts N (dst N t) l).length + 1 = l.length + 1 + 1
    rw [verts_len N (dst N t) l]
theorem verts_up {N : Net} {t : Nat → Int} : ∀ {l : List Stp} {u v : Nat}, Chain N u l v → (∀ q, q ∈ l → t (dst N q) = t (src N q) + 1) → ∀ x, x ∈ verts N u l → t u ≤ t x
  | [], u, _, _, _, x, hx => by
    have e : x = u := by simpa [verts] using hx
    subst e
    omega
  | a :: l, u, v, h, k, x, hx => by
    have e := k a (by simp)
    rw [h.1] at e
    rcases List.mem_cons.mp hx with c | c
    · subst c
      omega
    · have := verts_up h.2 (fun q hq => k q (by simp [hq])) x c
      omega
theorem verts_nodup {N : Net} {t : Nat → Int} : ∀ {l : List Stp} {u v : Nat}, Chain N u l v → (∀ q, q ∈ l → t (dst N q) = t (src N q) + 1) → (verts N u l).Nodup
  | [], _, _, _, _ => by simp [verts]
  | a :: l, u, v, h, k => by
    show (u :: verts N (dst N a) l).Nodup
    rw [List.nodup_cons]
    have e := k a (by simp)
    rw [h.1] at e
    refine ⟨fun hin => ?_, verts_nodup h.2 (fun q hq => k q (by simp [hq]))⟩
    have := verts_up h.2 (fun q hq => k q (by simp [hq])) u hin
    omega
theorem verts_sub {N : Net} {ms : List Nat} : ∀ {l : List Stp} {u : Nat}, u ∈ ms → (∀ q, q ∈ l → dst N q ∈ ms) → ∀ x, x ∈ verts N u l → x ∈ ms
  | [], u, hu, _, x, hx => by
    have e : x = u := by simpa [verts] using hx
    subst e
    exact hu
  | a :: l, u, hu, k, x, hx => by
    rcases List.mem_cons.mp hx with c | c
    · subst c
      exact hu
    · exact verts_sub (k a (by simp)) (fun q hq => k q (by simp [hq])) x c
/-- the pigeons -/
theorem nodup_len : ∀ {l ms : List Nat}, l.Nodup → (∀ x, x ∈ l → x ∈ ms) → l.length ≤ ms.length
  | [], _, _, _ => Nat.zero_le _
  | a :: l, ms, hn, h => by
    rw [List.nodup_cons] at hn
    have ha := h a (by simp)
    have := nodup_len (l := l) (ms := ms.erase a) hn.2 (fun x hx => by
      have hne : x ≠ a := fun e => hn.1 (e ▸ hx)
      exact (List.mem_erase_of_ne hne).mpr (h x (by simp [hx])))
    rw [List.length_erase_of_mem ha] at this
    have hp := List.length_pos_of_mem ha
    rw [List.length_cons]
    omega

/-! ## Pushing along a tight chain -/
theorem fits_shifted {N : Net} {f : Nat → Int} {l : List Stp} {x : Int} (hf : Fits N f) (hn : (l.map (·.i)).Nodup) (h0 : 0 ≤ x) (hx : ∀ t, t ∈ l → x ≤ cap N f t) : Fits N (shifted f l x) := fun i hi => by
  unfold shifted
  by_cases c : ∃ t, t ∈ l ∧ t.i = i
  · obtain ⟨t, ht, e⟩ := c
    subst e
    rw [amt_in hn ht]
    have := hx t ht
    have hf1 := hf t.i hi
    obtain ⟨j, s⟩ := t
    cases s
    · have e : x * sgn ⟨j, false⟩ = -x := by show x * (-1) = -x; omega
      have e2 : cap N f ⟨j, false⟩ = f j := rfl
      rw [e]
      rw [e2] at this
      dsimp only at *
      omega
    · have e : x * sgn ⟨j, true⟩ = x := by show x * 1 = x; omega
      have e2 : cap N f ⟨j, true⟩ = N.r j - f j := rfl
      rw [e]
      rw [e2] at this
      dsimp only at *
      omega
  · rw [amt_notin (fun t ht e => c ⟨t, ht, e⟩), Int.mul_zero, Int.add_zero]
    exact hf i hi
theorem feas_shifted {N : Net} {c : Int} {f d : Nat → Int} {l : List Stp} {x : Int} (h : Feas N c f d) (ht : ∀ t, t ∈ l → d (N.b t.i) = d (N.a t.i) + c) : Feas N c (shifted f l x) d := fun i hi => by
  by_cases k : ∃ t, t ∈ l ∧ t.i = i
  · obtain ⟨t, htl, e⟩ := k
    have := ht t htl
    rw [e] at this
    constructor <;> intro _ <;> omega
  · have e : shifted f l x i = f i := by
      unfold shifted
      rw [amt_notin (fun t ht e => k ⟨t, ht, e⟩), Int.mul_zero, Int.add_zero]
    rw [e]
    exact h i hi

/-! ## The cut -/
/-- Where a set of vertices holds someone who is to send on, and nothing that is left leaves it, it holds someone who is to get: f's nets differ from g's. -/
theorem cut_le {N : Net} {f g : Nat → Int} (hg : Fits N g) (R : Nat → Bool)
    (hout : ∀ i, i < N.n → R (N.a i) = true → R (N.b i) = false → N.r i ≤ f i) (hin : ∀ i, i < N.n → R (N.b i) = true → R (N.a i) = false → f i ≤ 0) (M : Nat) (hM : ∀ i, i < N.n → N.a i < M ∧ N.b i < M) :
    sm M (fun m => ind (R m) * (net N g m - net N f m)) ≤ 0 := by
  have e : sm M (fun m => ind (R m) * (net N g m - net N f m)) = sm M (fun m => ind (R m) * net N (fun i => g i - f i) m) := sm_congr fun m _ => by rw [net_sub]
  rw [e, sm_nets hM]
  refine sm_nonpos fun i hi => ?_
  have hgi := hg i hi
  cases ra : R (N.a i) <;> cases rb : R (N.b i) <;> dsimp only [ind] <;> simp
  · have := hin i hi rb ra
    omega
  · have := hout i hi ra rb
    omega
end Nw
end

section
/-! # The specification's ways are best ways -/
namespace Nw
open Vbchad (Arc Way wayTo better setWay relaxed ways bestWay)

/-- less cost, or as much and no more steps -/
def Le2 (c k c' k' : Int) : Prop := c < c' ∨ (c = c' ∧ k ≤ k')
theorem Le2.rfl' {c k : Int} : Le2 c k c k := Or.inr ⟨rfl, Int.le_refl _⟩
theorem Le2.trans {a b c d e f : Int} (h1 : Le2 a b c d) (h2 : Le2 c d e f) : Le2 a b e f := by
  unfold Le2 at *
  omega
theorem Le2.add {a b c d x y : Int} (h1 : Le2 a b c d) : Le2 (a + x) (b + y) (c + x) (d + y) := by
  unfold Le2 at *
  omega

/-- a chain of arcs, the last first -/
def RChain (s : Nat) : List Arc → Nat → Prop
  | [], v => s = v
  | a :: l, v => a.last = v ∧ RChain s l a.first
def acost : List Arc → Int
  | [] => 0
  | a :: l => acost l + a.cost
theorem acost_append : ∀ (l k : List Arc), acost (l ++ k) = acost l + acost k
  | [], k => by simp [acost]
  | a :: l, k => by
    show acost (l ++ k) + a.cost = acost l + a.cost + acost k
    rw [acost_append l k]
    omega
theorem rchain_split {s v : Nat} : ∀ {l k : List Arc} , RChain s (l ++ k) v → ∃ x, RChain s k x ∧ RChain x l v
  | [], k, h => ⟨v, h, rfl⟩
  | a :: l, k, h => by
    obtain ⟨x, h1, h2⟩ := rchain_split (l := l) (k := k) h.2
    exact ⟨x, h1, h.1, h2⟩
theorem rchain_join {s x : Nat} : ∀ {l k : List Arc} {v : Nat}, RChain s k x → RChain x l v → RChain s (l ++ k) v
  | [], k, v, h1, h2 => by
    have e : x = v := h2
    subst e
    exact h1
  | a :: l, k, v, h1, h2 => ⟨h2.1, rchain_join h1 h2.2⟩
def rverts (s : Nat) : List Arc → List Nat
  | [] => [s]
  | a :: l => a.last :: rverts s l
theorem rverts_len (s : Nat) : ∀ l : List Arc, (rverts s l).length = l.length + 1
  | [] => rfl
  | a :: l => by
    show (rverts s l).length + 1 = l.length + 1 + 1
    rw [rverts_len s l]
theorem rverts_head {s v : Nat} : ∀ {l : List Arc}, RChain s l v → v ∈ rverts s l
  | [], h => by
    have e : s = v := h
    subst e
    simp [rverts]
  | a :: l, h => by
    rw [← h.1]
    simp [rverts]
theorem rverts_sub {s : Nat} {ms : List Nat} : ∀ {l : List Arc}, s ∈ ms → (∀ a, a ∈ l → a.last ∈ ms) → ∀ x, x ∈ rverts s l → x ∈ ms
  | [], hs, _, x, hx => by
    have e : x = s := by simpa [rverts] using hx
    subst e
    exact hs
  | a :: l, hs, h, x, hx => by
    rcases List.mem_cons.mp hx with c | c
    · subst c
      exact h a (by simp)
    · exact rverts_sub hs (fun b hb => h b (by simp [hb])) x c
/-- a chain is cut at a vertex that it passes -/
theorem rverts_cut {s : Nat} : ∀ {l : List Arc} {v x : Nat}, RChain s l v → x ∈ rverts s l → ∃ pre suf, l = pre ++ suf ∧ RChain s suf x ∧ RChain x pre v
  | [], v, x, h, hx => by
    have e : x = s := by simpa [rverts] using hx
    subst e
    exact ⟨[], [], rfl, rfl, h⟩
  | a :: l, v, x, h, hx => by
    rcases List.mem_cons.mp hx with c | c
    · subst c
      exact ⟨[], a :: l, rfl, ⟨rfl, h.2⟩, h.1⟩
    · obtain ⟨pre, suf, e, h1, h2⟩ := rverts_cut h.2 c
      exact ⟨a :: pre, suf, by rw [e] <;> rfl, h1, h.1, h2⟩
theorem rverts_suf_nodup {s : Nat} : ∀ {pre suf : List Arc}, (rverts s (pre ++ suf)).Nodup → (rverts s suf).Nodup
  | [], _, h => h
  | a :: pre, suf, h => by
    have h' : (a.last :: rverts s (pre ++ suf)).Nodup := h
    rw [List.nodup_cons] at h'
    exact rverts_suf_nodup h'.2

/-- potentials that no arc of a list gains on -/
def Pot (arcs : List Arc) (d : Nat → Int) : Prop := ∀ a, a ∈ arcs → d a.last ≤ d a.first + a.cost
theorem rchain_pot {arcs : List Arc} {d : Nat → Int} (h : Pot arcs d) {s : Nat} : ∀ {l : List Arc} {v : Nat}, (∀ a, a ∈ l → a ∈ arcs) → RChain s l v → d v ≤ d s + acost l
  | [], v, _, r => by
    have e : s = v := r
    subst e
    show d s ≤ d s + 0
    omega
  | a :: l, v, hl, r => by
    have h1 := rchain_pot h (fun b hb => hl b (by simp [hb])) r.2
    have h2 := h a (hl a (by simp))
    rw [r.1] at h2
    show d v ≤ d s + (acost l + a.cost)
    omega
/-- a chain made simple -/
theorem shorten {arcs : List Arc} {d : Nat → Int} (h : Pot arcs d) {s : Nat} : ∀ {l : List Arc} {v : Nat}, (∀ a, a ∈ l → a ∈ arcs) → RChain s l v →
    ∃ l', (∀ a, a ∈ l' → a ∈ arcs) ∧ RChain s l' v ∧ (rverts s l').Nodup ∧ Le2 (acost l') l'.length (acost l) l.length
  | [], v, hl, r => ⟨[], hl, r, by simp [rverts], Le2.rfl'⟩
  | a :: l, v, hl, r => by
    obtain ⟨l', h1, h2, h3, h4⟩ := shorten h (fun b hb => hl b (by simp [hb])) r.2
    have ha : a ∈ arcs := hl a (by simp)
    by_cases c : a.last ∈ rverts s l'
    · obtain ⟨pre, suf, e, q1, q2⟩ := rverts_cut h2 c
      subst e
      refine ⟨suf, fun b hb => h1 b (by simp [hb]), by rw [← r.1]; exact q1, rverts_suf_nodup h3, ?_⟩
      have k := rchain_pot h (s := a.last) (l := pre) (fun b hb => h1 b (by simp [hb])) q2
      have k2 := h a ha
      rw [acost_append] at h4
      rw [List.length_append] at h4
      have e1 : acost (a :: l) = acost l + a.cost := rfl
      have e2 : (a :: l).length = l.length + 1 := rfl
      rw [e1, e2]
      unfold Le2 at *
      omega
    · refine ⟨a :: l', fun b hb => ?_, ⟨r.1, h2⟩, List.nodup_cons.mpr ⟨c, h3⟩, ?_⟩
      · rcases List.mem_cons.mp hb with e | e
        · rw [e]
          exact ha
        · exact h1 b e
      · have e1 : acost (a :: l) = acost l + a.cost := rfl
        have e2 : acost (a :: l') = acost l' + a.cost := rfl
        rw [e1, e2]
        have := h4.add (x := a.cost) (y := 1)
        simpa using this

/-- the way known to m is as good as this -/
def Known (ws : List Way) (m : Nat) (c k : Int) : Prop := ∃ w, wayTo ws m = some w ∧ Le2 w.cost w.steps.length c k
theorem Known.le {ws : List Way} {m : Nat} {c k c' k' : Int} (h : Known ws m c k) (e : Le2 c k c' k') : Known ws m c' k' := by
  obtain ⟨w, h1, h2⟩ := h
  exact ⟨w, h1, h2.trans e⟩
theorem wayTo_goal {ws : List Way} {m : Nat} {w : Way} (h : wayTo ws m = some w) : w.goal = m := by
  have := List.find?_some h
  simpa using this
theorem wayTo_set (w : Way) (ws : List Way) (m : Nat) : wayTo (setWay w ws) m = if m = w.goal then some w else wayTo ws m := by
  unfold setWay wayTo
  rw [List.find?_cons]
  by_cases c : m = w.goal
  · rw [if_pos c]
    have e : (w.goal == m) = true := by simp [c]
    rw [e]
  · rw [if_neg c]
    have e : (w.goal == m) = false := by simp; omega
    rw [e]
    dsimp only
    rw [List.find?_filter]
    congr 1
    funext x
    by_cases k : x.goal = m
    · simp [k, c]
    · simp [k]
theorem better_iff {c : Int} {n : Nat} {x : Way} : better c n (some x) = true ↔ (c < x.cost ∨ (c = x.cost ∧ n < x.steps.length)) := by
  unfold better
  simp
/-- one arc tried -/
def tryArc (l : List Way) (a : Arc) : List Way := match wayTo l a.first with
  | none => l
  | some w => if better (w.cost + a.cost) (w.steps.length + 1) (wayTo l a.last) = true then setWay ⟨a.last, w.cost + a.cost, a :: w.steps⟩ l else l
theorem relaxed_eq (arcs : List Arc) (ws : List Way) : relaxed arcs ws = arcs.foldl tryArc ws := rfl
theorem try_keeps {ws : List Way} {a : Arc} {m : Nat} {c k : Int} (h : Known ws m c k) : Known (tryArc ws a) m c k := by
  obtain ⟨x, h1, h2⟩ := h
  unfold tryArc
  split
  · exact ⟨x, h1, h2⟩
  · rename_i w hw
    split
    · rename_i hb
      by_cases e : m = a.last
      · subst e
        rw [h1, better_iff] at hb
        refine ⟨⟨a.last, w.cost + a.cost, a :: w.steps⟩, by rw [wayTo_set, if_pos rfl], ?_⟩
        have hl : (a :: w.steps).length = w.steps.length + 1 := rfl
        rw [hl]
        dsimp only
        unfold Le2 at *
        omega
      · exact ⟨x, by rw [wayTo_set, if_neg e]; exact h1, h2⟩
    · exact ⟨x, h1, h2⟩
theorem try_does {ws : List Way} {a : Arc} {c k : Int} (h : Known ws a.first c k) : Known (tryArc ws a) a.last (c + a.cost) (k + 1) := by
  obtain ⟨w, h1, h2⟩ := h
  unfold tryArc
  rw [h1]
  dsimp only
  split
  · refine ⟨⟨a.last, w.cost + a.cost, a :: w.steps⟩, by rw [wayTo_set, if_pos rfl], ?_⟩
    have hl : (a :: w.steps).length = w.steps.length + 1 := rfl
    rw [hl]
    exact h2.add
  · rename_i hb
    cases e : wayTo ws a.last with
    | none =>
      rw [e] at hb
      exact absurd rfl hb
    | some x =>
      rw [e, better_iff] at hb
      refine ⟨x, e, ?_⟩
      unfold Le2 at *
      omega
theorem fold_keeps {m : Nat} {c k : Int} : ∀ (arcs : List Arc) {ws : List Way}, Known ws m c k → Known (arcs.foldl tryArc ws) m c k
  | [], _, h => h
  | a :: l, ws, h => fold_keeps l (try_keeps h)
theorem fold_does {c k : Int} {a : Arc} : ∀ (arcs : List Arc) {ws : List Way}, a ∈ arcs → Known ws a.first c k → Known (arcs.foldl tryArc ws) a.last (c + a.cost) (k + 1)
  | b :: l, ws, hm, h => by
    rcases List.mem_cons.mp hm with e | e
    · subst e
      exact fold_keeps l (try_does h)
    · exact fold_does l e (try_keeps h)
theorem ways_walk {arcs : List Arc} {S : List Nat} {s : Nat} (hs : s ∈ S) : ∀ (k : Nat) {l : List Arc} {v : Nat}, (∀ a, a ∈ l → a ∈ arcs) → RChain s l v → l.length ≤ k → Known (ways arcs S k) v (acost l) l.length
  | 0, [], v, _, r, _ => by
    have e : s = v := r
    subst e
    have hf : ∃ w, wayTo (S.map fun m => (⟨m, 0, []⟩ : Way)) s = some w ∧ w.cost = 0 ∧ w.steps.length = 0 := by
      cases e : wayTo (S.map fun m => (⟨m, 0, []⟩ : Way)) s with
      | none =>
        have := List.find?_eq_none.mp e ⟨s, 0, []⟩ (List.mem_map.mpr ⟨s, hs, rfl⟩)
        simp at this
      | some w =>
        have := List.mem_of_find?_eq_some e
        obtain ⟨m, _, rfl⟩ := List.mem_map.mp this
        exact ⟨_, rfl, rfl, rfl⟩
    obtain ⟨w, h1, h2, h3⟩ := hf
    refine ⟨w, h1, ?_⟩
    rw [h2, h3]
    exact Le2.rfl'
  | 0, a :: l, v, _, _, h => by simp at h
  | k + 1, [], v, hl, r, _ => by
    have := ways_walk hs k hl r (by simp)
    exact fold_keeps arcs this
  | k + 1, a :: l, v, hl, r, h => by
    have ih := ways_walk hs k (l := l) (v := a.first) (fun b hb => hl b (by simp [hb])) r.2 (by simp at h; omega)
    have := fold_does arcs (hl a (by simp)) ih
    rw [← r.1]
    have e : ((a :: l).length : Int) = (l.length : Int) + 1 := by simp
    rw [e]
    exact this
/-- what is known is a chain -/
def Sound (arcs : List Arc) (S : List Nat) (ws : List Way) : Prop := ∀ m w, wayTo ws m = some w → ∃ s, s ∈ S ∧ RChain s w.steps m ∧ (∀ a, a ∈ w.steps → a ∈ arcs) ∧ w.cost = acost w.steps
theorem try_sound {arcs : List Arc} {S : List Nat} {ws : List Way} {a : Arc} (ha : a ∈ arcs) (h : Sound arcs S ws) : Sound arcs S (tryArc ws a) := by
  unfold tryArc
  split
  · exact h
  · rename_i w hw
    split
    · intro m x hx
      rw [wayTo_set] at hx
      split at hx
      · rename_i e
        have e2 := Option.some.inj hx
        subst e2
        obtain ⟨s, h1, h2, h3, h4⟩ := h _ _ hw
        refine ⟨s, h1, ⟨e.symm, h2⟩, fun b hb => ?_, ?_⟩
        · rcases List.mem_cons.mp hb with q | q
          · rw [q]
            exact ha
          · exact h3 b q
        · show w.cost + a.cost = acost w.steps + a.cost
          rw [h4]
      · exact h m x hx
    · exact h
theorem fold_sound {arcs : List Arc} {S : List Nat} : ∀ (l : List Arc) {ws : List Way}, (∀ a, a ∈ l → a ∈ arcs) → Sound arcs S ws → Sound arcs S (l.foldl tryArc ws)
  | [], _, _, h => h
  | a :: l, ws, hl, h => fold_sound l (fun b hb => hl b (by simp [hb])) (try_sound (hl a (by simp)) h)
theorem ways_sound (arcs : List Arc) (S : List Nat) : ∀ k, Sound arcs S (ways arcs S k)
  | 0 => fun m w h => by
    have hm := List.mem_of_find?_eq_some h
    have hg := wayTo_goal h
    obtain ⟨s, hs, e⟩ := List.mem_map.mp hm
    subst e
    refine ⟨s, hs, hg, fun a ha => by simp at ha, rfl⟩
  | k + 1 => fold_sound arcs (fun _ h => h) (ways_sound arcs S k)

/-- **What the ways are behind as many rounds as vertices.** -/
structure Best (arcs : List Arc) (S : List Nat) (ws : List Way) : Prop where
  start : ∀ s, s ∈ S → ∃ w, wayTo ws s = some w ∧ w.cost ≤ 0
  stable : ∀ a, a ∈ arcs → ∀ w, wayTo ws a.first = some w → ∃ w', wayTo ws a.last = some w' ∧ w'.cost ≤ w.cost + a.cost
  chain : ∀ m w, wayTo ws m = some w → ∃ s, s ∈ S ∧ RChain s w.steps m ∧ (∀ a, a ∈ w.steps → a ∈ arcs) ∧
    ∀ a, a ∈ w.steps → ∃ w1 w2, wayTo ws a.first = some w1 ∧ wayTo ws a.last = some w2 ∧ w2.cost = w1.cost + a.cost ∧ w2.steps.length = w1.steps.length + 1

theorem ways_best {arcs : List Arc} {S ms : List Nat} {d : Nat → Int} (hd : Pot arcs d) (hS : ∀ s, s ∈ S → s ∈ ms) (hA : ∀ a, a ∈ arcs → a.last ∈ ms) : Best arcs S (ways arcs S ms.length) := by
  -- every chain is known
  have all : ∀ s, s ∈ S → ∀ l v, (∀ a, a ∈ l → a ∈ arcs) → RChain s l v → Known (ways arcs S ms.length) v (acost l) l.length := by
    intro s hs l v hl r
    obtain ⟨l', h1, h2, h3, h4⟩ := shorten hd hl r
    have hn := nodup_len h3 (fun x hx => rverts_sub (hS s hs) (fun a ha => hA a (h1 a ha)) x hx)
    rw [rverts_len] at hn
    exact (ways_walk hs ms.length h1 h2 (by omega)).le h4
  have so := ways_sound arcs S ms.length
  -- one step more
  have more : ∀ a, a ∈ arcs → ∀ w, wayTo (ways arcs S ms.length) a.first = some w → Known (ways arcs S ms.length) a.last (w.cost + a.cost) (w.steps.length + 1) := by
    intro a ha w hw
    obtain ⟨s, h1, h2, h3, h4⟩ := so _ _ hw
    have := all s h1 (a :: w.steps) a.last (fun b hb => by
      rcases List.mem_cons.mp hb with q | q
      · rw [q]
        exact ha
      · exact h3 b q) ⟨rfl, h2⟩
    rw [h4]
    simpa [acost] using this
  -- from what is known on along a chain
  have on : ∀ l x v w, (∀ a, a ∈ l → a ∈ arcs) → RChain x l v → wayTo (ways arcs S ms.length) x = some w → Known (ways arcs S ms.length) v (w.cost + acost l) (w.steps.length + l.length) := by
    intro l
    induction l with
    | nil =>
      intro x v w _ r hw
      have e : x = v := r
      subst e
      refine ⟨w, hw, ?_⟩
      show Le2 _ _ (w.cost + 0) _
      unfold Le2
      simp
    | cons a l ih =>
      intro x v w hl r hw
      obtain ⟨w1, q1, q2⟩ := ih x a.first w (fun b hb => hl b (by simp [hb])) r.2 hw
      obtain ⟨w2, q3, q4⟩ := more a (hl a (by simp)) w1 q1
      rw [r.1] at q3
      refine ⟨w2, q3, ?_⟩
      show Le2 _ _ (w.cost + (acost l + a.cost)) _
      have e : (a :: l).length = l.length + 1 := rfl
      rw [e]
      unfold Le2 at *
      omega
  refine ⟨fun s hs => ?_, fun a ha w hw => ?_, fun m w hw => ?_⟩
  · obtain ⟨w, h1, h2⟩ := all s hs [] s (fun a ha => by simp at ha) rfl
    refine ⟨w, h1, ?_⟩
    have h2' : Le2 w.cost w.steps.length 0 0 := h2
    unfold Le2 at h2'
    omega
  · obtain ⟨w', h1, h2⟩ := more a ha w hw
    refine ⟨w', h1, ?_⟩
    unfold Le2 at h2
    omega
  · obtain ⟨s, h1, h2, h3, h4⟩ := so m w hw
    refine ⟨s, h1, h2, h3, fun a ha => ?_⟩
    obtain ⟨pre, suf, e⟩ := List.append_of_mem ha
    rw [e] at h2 h3
    obtain ⟨x, r1, r2⟩ := rchain_split h2
    have r1l := r1.1
    subst r1l
    obtain ⟨w1, k1, k2⟩ := all s h1 suf a.first (fun b hb => h3 b (by simp [hb])) r1.2
    obtain ⟨w2, k3, k4⟩ := more a (h3 a (by simp)) w1 k1
    obtain ⟨w3, k5, k6⟩ := on pre a.last m w2 (fun b hb => h3 b (by simp [hb])) r2 k3
    rw [hw] at k5
    have e3 := Option.some.inj k5
    subst e3
    refine ⟨w1, w2, k1, k3, ?_⟩
    have ec : w.cost = acost pre + (acost suf + a.cost) := by
      rw [h4, e, acost_append]
      rfl
    have el : w.steps.length = pre.length + (suf.length + 1) := by
      rw [e, List.length_append]
      rfl
    rw [el, ec] at k6
    unfold Le2 at *
    omega

theorem bestWay_some {ws : List Way} : ∀ {l : List Nat} {w : Way}, bestWay ws l = some w → ∃ m, m ∈ l ∧ wayTo ws m = some w
  | [], w, h => by simp [bestWay] at h
  | m :: l, w, h => by
    unfold bestWay at h
    split at h
    · rename_i b _
      obtain ⟨x, h1, h2⟩ := bestWay_some h
      exact ⟨x, by simp [h1], h2⟩
    · rename_i w' e _
      exact ⟨m, by simp, by rw [e]; exact h⟩
    · rename_i w' b e e2
      split at h
      · exact ⟨m, by simp, by rw [e]; exact h⟩
      · obtain ⟨x, h1, h2⟩ := bestWay_some (l := l) (w := w) (by rw [e2]; exact h)
        exact ⟨x, by simp [h1], h2⟩
theorem bestWay_none {ws : List Way} : ∀ {l : List Nat}, bestWay ws l = none → ∀ m, m ∈ l → wayTo ws m = none
  | [], _, m, hm => by simp at hm
  | x :: l, h, m, hm => by
    unfold bestWay at h
    split at h
    · rename_i b e
      rcases List.mem_cons.mp hm with c | c
      · rw [c]
        exact e
      · exact bestWay_none h m c
    · simp at h
    · split at h <;> simp at h
end Nw
end

section
/-! # The specification's trades as a net -/
namespace Nw
open Vbchad (Trade Arc Way wayTo ways bestWay room rooms membersOf outOf into isReduction)

def t0 : Trade := ⟨0, 0, 0, 0, 0⟩
def tr (l : List Trade) (i : Nat) : Trade := l.getD i t0
def fl (f : List Nat) (i : Nat) : Int := ((f.getD i 0 : Nat) : Int)
def netOf (l : List Trade) : Net := ⟨l.length, fun i => (tr l i).from_, fun i => (tr l i).to, fun i => (room (tr l i) : Int)⟩

theorem tr_cons_zero (t : Trade) (l : List Trade) : tr (t :: l) 0 = t := rfl
theorem tr_cons_succ (t : Trade) (l : List Trade) (i : Nat) : tr (t :: l) (i + 1) = tr l i := rfl
theorem fl_cons_zero (k : Nat) (f : List Nat) : fl (k :: f) 0 = (k : Int) := rfl
theorem fl_cons_succ (k : Nat) (f : List Nat) (i : Nat) : fl (k :: f) (i + 1) = fl f i := rfl
theorem fl_nonneg (f : List Nat) (i : Nat) : 0 ≤ fl f i := Int.natCast_nonneg _
theorem tr_mem {l : List Trade} {i : Nat} (h : i < l.length) : tr l i ∈ l := by
  unfold tr
  rw [List.getD_eq_getElem?_getD, List.getElem?_eq_getElem h]
  exact List.getElem_mem h
theorem mem_tr {l : List Trade} {t : Trade} (h : t ∈ l) : ∃ i, i < l.length ∧ tr l i = t := by
  obtain ⟨i, hi, e⟩ := List.getElem_of_mem h
  refine ⟨i, hi, ?_⟩
  unfold tr
  rw [List.getD_eq_getElem?_getD, List.getElem?_eq_getElem hi]
  exact e

theorem sm_front : ∀ (n : Nat) (g : Nat → Int), sm (n + 1) g = g 0 + sm n (fun i => g (i + 1))
  | 0, g => by
    show 0 + g 0 = g 0 + 0
    omega
  | n + 1, g => by
    show sm (n + 1) g + g (n + 1) = g 0 + (sm n (fun i => g (i + 1)) + g (n + 1))
    rw [sm_front n g]
    omega
/-- a sum over trades beside numbers -/
theorem sum_zip (h : Trade → Nat → Nat) : ∀ (l : List Trade) (f : List Nat), f.length = l.length → ((Vbchad.sum ((l.zip f).map fun x => h x.1 x.2) : Nat) : Int) = sm l.length (fun i => (h (tr l i) (f.getD i 0) : Nat))
  | [], [], _ => rfl
  | [], _ :: _, e => by simp at e
  | _ :: _, [], e => by simp at e
  | t :: l, k :: f, e => by
    have ih := sum_zip h l f (by simpa using e)
    show ((h t k + Vbchad.sum ((l.zip f).map fun x => h x.1 x.2) : Nat) : Int) = _
    rw [List.length_cons, sm_front, Int.natCast_add, ih]
    rfl
theorem sum_sm : ∀ (f : List Nat), ((Vbchad.sum f : Nat) : Int) = sm f.length (fl f)
  | [] => rfl
  | k :: f => by
    show ((k + Vbchad.sum f : Nat) : Int) = _
    rw [List.length_cons, sm_front, Int.natCast_add, sum_sm f]
    rfl
theorem sum_map (h : Trade → Nat) : ∀ (l : List Trade), ((Vbchad.sum (l.map h) : Nat) : Int) = sm l.length (fun i => (h (tr l i) : Nat))
  | [] => rfl
  | t :: l => by
    show ((h t + Vbchad.sum (l.map h) : Nat) : Int) = _
    rw [List.length_cons, sm_front, Int.natCast_add, sum_map h l]
    rfl
theorem out_sm {l : List Trade} {f : List Nat} (e : f.length = l.length) (m : Nat) : (outOf l f m : Int) = sm l.length (fun i => ind ((netOf l).a i == m) * fl f i) := by
  unfold outOf
  rw [sum_zip (fun t k => if t.from_ = m then k else 0) l f e]
  refine sm_congr fun i _ => ?_
  by_cases c : (tr l i).from_ = m
  · rw [if_pos c, ind_pos (p := (netOf l).a i == m) (by simpa [netOf] using c), Int.one_mul]
    rfl
  · rw [if_neg c, ind_neg (p := (netOf l).a i == m) (by simpa [netOf] using c), Int.zero_mul]
    rfl
theorem into_sm {l : List Trade} {f : List Nat} (e : f.length = l.length) (m : Nat) : (into l f m : Int) = sm l.length (fun i => ind ((netOf l).b i == m) * fl f i) := by
  unfold into
  rw [sum_zip (fun t k => if t.to = m then k else 0) l f e]
  refine sm_congr fun i _ => ?_
  by_cases c : (tr l i).to = m
  · rw [if_pos c, ind_pos (p := (netOf l).b i == m) (by simpa [netOf] using c), Int.one_mul]
    rfl
  · rw [if_neg c, ind_neg (p := (netOf l).b i == m) (by simpa [netOf] using c), Int.zero_mul]
    rfl
theorem net_list {l : List Trade} {f : List Nat} (e : f.length = l.length) (m : Nat) : net (netOf l) (fl f) m = (outOf l f m : Int) - (into l f m : Int) := by
  rw [out_sm e, into_sm e, ← sm_sub]
  exact sm_congr fun i _ => Int.sub_mul _ _ _

/-! ## Members -/
theorem mem_number {v x : Nat} : ∀ {l : List Nat}, x ∈ Vbchad.number v l ↔ x = v ∨ x ∈ l
  | [] => by simp [Vbchad.number]
  | y :: l => by
    unfold Vbchad.number
    split
    · simp
    · split
      · rename_i h
        subst h
        simp
      · rw [List.mem_cons, mem_number, List.mem_cons]
        constructor
        · rintro (h | h | h)
          · exact Or.inr (Or.inl h)
          · exact Or.inl h
          · exact Or.inr (Or.inr h)
        · rintro (h | h | h)
          · exact Or.inr (Or.inl h)
          · exact Or.inl h
          · exact Or.inr (Or.inr h)
/-- rising, each once -/
def Rising : List Nat → Prop
  | [] => True
  | a :: l => (∀ x, x ∈ l → a < x) ∧ Rising l
theorem rising_number {v : Nat} : ∀ {l : List Nat}, Rising l → Rising (Vbchad.number v l)
  | [], _ => ⟨fun x hx => by simp at hx, trivial⟩
  | y :: l, h => by
    unfold Vbchad.number
    split
    · rename_i c
      refine ⟨fun x hx => ?_, h⟩
      rcases List.mem_cons.mp hx with e | e
      · omega
      · have := h.1 x e
        omega
    · split
      · exact h
      · refine ⟨fun x hx => ?_, rising_number h.2⟩
        rcases mem_number.mp hx with e | e
        · omega
        · exact h.1 x e
theorem rising_nodup : ∀ {l : List Nat}, Rising l → l.Nodup
  | [], _ => by simp
  | a :: l, h => List.nodup_cons.mpr ⟨fun hm => Nat.lt_irrefl _ (h.1 a hm), rising_nodup h.2⟩
theorem rising_ext : ∀ {l k : List Nat}, Rising l → Rising k → (∀ x, x ∈ l ↔ x ∈ k) → l = k
  | [], [], _, _, _ => rfl
  | [], a :: k, _, _, h => by
    have := (h a).mpr (by simp)
    simp at this
  | a :: l, [], _, _, h => by
    have := (h a).mp (by simp)
    simp at this
  | a :: l, b :: k, hl, hk, h => by
    have e : a = b := by
      have h1 := (h a).mp (by simp)
      have h2 := (h b).mpr (by simp)
      rcases List.mem_cons.mp h1 with c | c
      · exact c
      · rcases List.mem_cons.mp h2 with c2 | c2
        · exact c2.symm
        · have := hl.1 b c2
          have := hk.1 a c
          omega
    subst e
    rw [rising_ext hl.2 hk.2 (fun x => ?_)]
    have hx := h x
    rw [List.mem_cons, List.mem_cons] at hx
    constructor
    · intro hm
      rcases hx.mp (Or.inr hm) with c | c
      · have := hl.1 x hm
        omega
      · exact c
    · intro hm
      rcases hx.mpr (Or.inr hm) with c | c
      · have := hk.1 x hm
        omega
      · exact c
theorem rising_fold : ∀ (l : List Nat), Rising (l.foldr Vbchad.number [])
  | [] => trivial
  | a :: l => rising_number (rising_fold l)
theorem mem_fold {x : Nat} : ∀ {l : List Nat}, x ∈ l.foldr Vbchad.number [] ↔ x ∈ l
  | [] => by simp
  | a :: l => by
    rw [List.foldr_cons, mem_number, mem_fold, List.mem_cons]
theorem members_rising (l : List Trade) : Rising (membersOf l) := rising_fold _
theorem mem_members {l : List Trade} {m : Nat} : m ∈ membersOf l ↔ ∃ t, t ∈ l ∧ (t.from_ = m ∨ t.to = m) := by
  unfold membersOf
  rw [mem_fold, List.mem_flatMap]
  constructor
  · rintro ⟨t, h1, h2⟩
    refine ⟨t, h1, ?_⟩
    simp at h2
    omega
  · rintro ⟨t, h1, h2⟩
    refine ⟨t, h1, ?_⟩
    simp
    omega
theorem a_mem {l : List Trade} {i : Nat} (h : i < l.length) : (netOf l).a i ∈ membersOf l := mem_members.mpr ⟨tr l i, tr_mem h, Or.inl rfl⟩
theorem b_mem {l : List Trade} {i : Nat} (h : i < l.length) : (netOf l).b i ∈ membersOf l := mem_members.mpr ⟨tr l i, tr_mem h, Or.inr rfl⟩
theorem net_outside {l : List Trade} {m : Nat} (h : ¬ m ∈ membersOf l) (f : Nat → Int) : net (netOf l) f m = 0 := by
  refine sm_zero fun i hi => ?_
  have h1 := a_mem (l := l) (i := i) hi
  have h2 := b_mem (l := l) (i := i) hi
  rw [ind_neg (p := (netOf l).a i == m) (by simp; intro e; exact h (e ▸ h1)), ind_neg (p := (netOf l).b i == m) (by simp; intro e; exact h (e ▸ h2))]
  simp

theorem fits_list {l : List Trade} {f : List Nat} : Fits (netOf l) (fl f) ↔ ∀ i, i < l.length → f.getD i 0 ≤ room (tr l i) := by
  constructor
  · intro h i hi
    have := (h i hi).2
    exact Int.ofNat_le.mp this
  · intro h i hi
    exact ⟨fl_nonneg f i, Int.ofNat_le.mpr (h i hi)⟩
theorem all_zip {P : Trade → Nat → Bool} : ∀ {l : List Trade} {f : List Nat}, f.length = l.length → (((l.zip f).all fun x => P x.1 x.2) = true ↔ ∀ i, i < l.length → P (tr l i) (f.getD i 0) = true)
  | [], [], _ => by simp
  | [], _ :: _, e => by simp at e
  | _ :: _, [], e => by simp at e
  | t :: l, k :: f, e => by
    have ih := all_zip (P := P) (l := l) (f := f) (by simpa using e)
    rw [List.zip_cons_cons, List.all_cons, Bool.and_eq_true, ih]
    constructor
    · rintro ⟨h1, h2⟩ i hi
      cases i with
      | zero => exact h1
      | succ i => exact h2 i (by simpa using hi)
    · intro h
      exact ⟨h 0 (by simp), fun i hi => h (i + 1) (by simpa using hi)⟩
theorem red_iff {l : List Trade} {f : List Nat} : isReduction l f = true ↔ f.length = l.length ∧ Red (netOf l) (fl f) := by
  unfold isReduction
  rw [Bool.and_eq_true, Bool.and_eq_true, beq_iff_eq]
  constructor
  · rintro ⟨e, h1, h2⟩
    refine ⟨e, fits_list.mpr fun i hi => ?_, fun m => ?_⟩
    · have := (all_zip (P := fun t k => decide (k ≤ room t)) e).mp h1 i hi
      simpa using this
    · by_cases c : m ∈ membersOf l
      · have := List.all_eq_true.mp h2 m c
        rw [beq_iff_eq] at this
        rw [net_list e, this, Int.sub_self]
      · exact net_outside c _
  · rintro ⟨e, h1, h2⟩
    refine ⟨e, ?_, List.all_eq_true.mpr fun m _ => ?_⟩
    · refine (all_zip (P := fun t k => decide (k ≤ room t)) e).mpr fun i hi => ?_
      have := fits_list.mp h1 i hi
      simpa using this
    · have := h2 m
      rw [net_list e] at this
      rw [beq_iff_eq]
      omega
theorem zip_get {l : List Trade} {f : List Nat} (e : f.length = l.length) (i : Nat) : (l.zip f)[i]? = if i < l.length then some (tr l i, f.getD i 0) else none := by
  by_cases c : i < l.length
  · rw [if_pos c, List.getElem?_zip_eq_some.mpr ⟨?_, ?_⟩]
    · unfold tr
      rw [List.getD_eq_getElem?_getD, List.getElem?_eq_getElem c]
      rfl
    · rw [List.getD_eq_getElem?_getD, List.getElem?_eq_getElem (by omega)]
      rfl
  · rw [if_neg c, List.getElem?_eq_none]
    rw [List.length_zip]
    omega
theorem mem_zipIdx {l : List Trade} {f : List Nat} (e : f.length = l.length) {x : (Trade × Nat) × Nat} : x ∈ (l.zip f).zipIdx ↔ x.2 < l.length ∧ x.1 = (tr l x.2, f.getD x.2 0) := by
  rw [List.mem_zipIdx_iff_getElem?, zip_get e]
  by_cases c : x.2 < l.length
  · rw [if_pos c]
    constructor
    · intro h
      exact ⟨c, (Option.some.inj h).symm⟩
    · rintro ⟨_, h⟩
      rw [h]
  · rw [if_neg c]
    constructor
    · intro h
      cases h
    · rintro ⟨h, _⟩
      exact absurd h c
end Nw
end

section
/-! # The specification's greatest reduction is one of the greatest total -/
namespace Nw
open Vbchad (Trade Arc Way wayTo ways bestWay room rooms membersOf outOf into isReduction)

def stp (a : Arc) : Stp := ⟨a.place, a.along⟩
theorem chain_of_r {N : Net} {s : Nat} : ∀ {l : List Arc} {v : Nat}, (∀ a, a ∈ l → src N (stp a) = a.first ∧ dst N (stp a) = a.last) → RChain s l v → Chain N s (l.reverse.map stp) v
  | [], _, _, h => h
  | a :: l, v, k, h => by
    rw [List.reverse_cons, List.map_append]
    have ka := k a (by simp)
    exact chain_append (chain_of_r (fun b hb => k b (by simp [hb])) h.2) ⟨ka.1, by rw [ka.2]; exact h.1⟩
theorem mem_stp {l : List Arc} {q : Stp} : q ∈ l.reverse.map stp ↔ ∃ a, a ∈ l ∧ stp a = q := by
  rw [List.mem_map]
  constructor
  · rintro ⟨a, h, e⟩
    exact ⟨a, by simpa using h, e⟩
  · rintro ⟨a, h, e⟩
    exact ⟨a, by simpa using h, e⟩

theorem least_le (d : Nat) : ∀ (l : List Nat), Vbchad.least d l ≤ d ∧ ∀ x, x ∈ l → Vbchad.least d l ≤ x
  | [] => ⟨Nat.le_refl _, fun x hx => by simp at hx⟩
  | a :: l => by
    have ih := least_le d l
    have e : Vbchad.least d (a :: l) = min a (Vbchad.least d l) := rfl
    rw [e]
    constructor
    · have := ih.1
      omega
    · intro x hx
      rcases List.mem_cons.mp hx with c | c
      · subst c
        omega
      · have := ih.2 x c
        omega
theorem least_ge {b d : Nat} : ∀ {l : List Nat}, b ≤ d → (∀ x, x ∈ l → b ≤ x) → b ≤ Vbchad.least d l
  | [], h, _ => h
  | a :: l, h, k => by
    have ih := least_ge (l := l) h (fun x hx => k x (by simp [hx]))
    have e : Vbchad.least d (a :: l) = min a (Vbchad.least d l) := rfl
    have := k a (by simp)
    omega

/-- an arc over what is left of the numbers k -/
structure ArcFits (l : List Trade) (k : List Nat) (a : Arc) : Prop where
  lt : a.place < l.length
  along : a.along = true → a.first = (tr l a.place).from_ ∧ a.last = (tr l a.place).to ∧ a.most + k.getD a.place 0 = room (tr l a.place) ∧ 0 < a.most
  back : a.along = false → a.first = (tr l a.place).to ∧ a.last = (tr l a.place).from_ ∧ a.most = k.getD a.place 0 ∧ 0 < a.most
theorem ArcFits.ends {l : List Trade} {k : List Nat} {a : Arc} (h : ArcFits l k a) : src (netOf l) (stp a) = a.first ∧ dst (netOf l) (stp a) = a.last := by
  obtain ⟨p, al, f, la, mo, co⟩ := a
  cases al
  · have := h.back rfl
    exact ⟨this.1.symm, this.2.1.symm⟩
  · have := h.along rfl
    exact ⟨this.1.symm, this.2.1.symm⟩
theorem ArcFits.cap {l : List Trade} {k : List Nat} {a : Arc} (h : ArcFits l k a) : Nw.cap (netOf l) (fl k) (stp a) = a.most := by
  obtain ⟨p, al, f, la, mo, co⟩ := a
  cases al
  · have := (h.back rfl).2.2.1
    show fl k p = (mo : Int)
    dsimp only at this
    rw [this]
    rfl
  · have := (h.along rfl).2.2.1
    show (room (tr l p) : Int) - fl k p = (mo : Int)
    unfold fl
    dsimp only at this
    omega
theorem ArcFits.pos {l : List Trade} {k : List Nat} {a : Arc} (h : ArcFits l k a) : 0 < a.most := by
  cases e : a.along
  · exact (h.back e).2.2.2
  · exact (h.along e).2.2.2

theorem pushed_len (f : List Nat) (steps : List Arc) (x : Nat) : (Vbchad.pushed f steps x).length = f.length := by
  unfold Vbchad.pushed
  rw [List.length_map, List.length_zipIdx]
theorem pushed_get {f : List Nat} {steps : List Arc} {x i : Nat} (h : i < f.length) : (Vbchad.pushed f steps x).getD i 0 = match steps.find? fun a => a.place == i with
    | none => f.getD i 0
    | some a => if a.along = true then f.getD i 0 + x else f.getD i 0 - x := by
  unfold Vbchad.pushed
  rw [List.getD_eq_getElem?_getD, List.getElem?_map, List.getElem?_zipIdx, List.getElem?_eq_getElem h]
  have e : f.getD i 0 = f[i] := by
    rw [List.getD_eq_getElem?_getD, List.getElem?_eq_getElem h]
    rfl
  rw [e]
  simp only [Option.map_some, Option.getD_some, Nat.zero_add]
  rfl

theorem push_ok {l : List Trade} {k : List Nat} {steps : List Arc} {s v x : Nat} {T : Nat → Int} (hk : k.length = l.length) (hf : Fits (netOf l) (fl k))
    (ha : ∀ a, a ∈ steps → ArcFits l k a) (hr : RChain s steps v) (hT : ∀ a, a ∈ steps → T a.last = T a.first + 1) (hx : ∀ a, a ∈ steps → x ≤ a.most) :
    (∀ i, i < l.length → fl (Vbchad.pushed k steps x) i = shifted (fl k) (steps.reverse.map stp) x i) ∧ Fits (netOf l) (fl (Vbchad.pushed k steps x)) ∧
      (∀ m, net (netOf l) (fl (Vbchad.pushed k steps x)) m = net (netOf l) (fl k) m + x * (ind (s == m) - ind (v == m))) := by
  have hc := chain_of_r (N := netOf l) (fun a h => (ha a h).ends) hr
  have hup : ∀ q, q ∈ steps.reverse.map stp → T (dst (netOf l) q) = T (src (netOf l) q) + 1 := by
    intro q hq
    obtain ⟨a, h1, rfl⟩ := mem_stp.mp hq
    rw [(ha a h1).ends.1, (ha a h1).ends.2]
    exact hT a h1
  have hn := nodup_of_up hc hup
  have e : ∀ i, i < l.length → fl (Vbchad.pushed k steps x) i = shifted (fl k) (steps.reverse.map stp) x i := by
    intro i hi
    unfold shifted
    show (((Vbchad.pushed k steps x).getD i 0 : Nat) : Int) = _
    rw [pushed_get (by omega)]
    cases c : steps.find? fun a => a.place == i with
    | none =>
      dsimp only
      rw [amt_notin]
      · unfold fl
        omega
      · intro q hq eq
        obtain ⟨a, h1, rfl⟩ := mem_stp.mp hq
        have := List.find?_eq_none.mp c a h1
        exact this (by simpa [stp] using eq)
    | some a =>
      dsimp only
      have h1 := List.mem_of_find?_eq_some c
      have h2 : a.place = i := by simpa using List.find?_some c
      have h3 := amt_in hn (mem_stp.mpr ⟨a, h1, rfl⟩)
      have h4 : (stp a).i = i := h2
      rw [h4] at h3
      rw [h3]
      have h5 := hx a h1
      have h6 := ha a h1
      obtain ⟨p, al, f, la, mo, co⟩ := a
      cases al
      · have := (h6.back rfl).2.2.1
        dsimp only at this h2 h5
        subst h2
        show ((k.getD p 0 - x : Nat) : Int) = (k.getD p 0 : Int) + x * (-1)
        omega
      · show ((k.getD i 0 + x : Nat) : Int) = (k.getD i 0 : Int) + x * 1
        omega
  refine ⟨e, ?_, ?_⟩
  · intro i hi
    have := fits_shifted (x := (x : Int)) hf hn (by omega) (fun q hq => by
      obtain ⟨a, h1, rfl⟩ := mem_stp.mp hq
      rw [(ha a h1).cap]
      exact Int.ofNat_le.mpr (hx a h1)) i hi
    rw [e i hi]
    exact this
  · intro m
    rw [net_congr (N := netOf l) (g := shifted (fl k) (steps.reverse.map stp) x) e m]
    exact net_shifted (fun q hq => by
      obtain ⟨a, h1, rfl⟩ := mem_stp.mp hq
      exact (ha a h1).lt) hc m

theorem feas_extend {N : Net} {c : Int} {f d0 : Nat → Int} (h : Feas N c f d0) (R : Nat → Bool) (dist : Nat → Int)
    (h1 : ∀ i, i < N.n → f i < N.r i → R (N.a i) = true → R (N.b i) = true ∧ dist (N.b i) ≤ dist (N.a i) + c)
    (h2 : ∀ i, i < N.n → 0 < f i → R (N.b i) = true → R (N.a i) = true ∧ dist (N.a i) + c ≤ dist (N.b i)) :
    ∃ d, Feas N c f d ∧ ∀ v, R v = true → d v = dist v := by
  obtain ⟨K1, k1⟩ := exists_aboveI N.n (fun i => dist (N.b i) - d0 (N.a i) - c)
  obtain ⟨K2, k2⟩ := exists_aboveI N.n (fun i => dist (N.a i) + c - d0 (N.b i))
  obtain ⟨K, q1, q2⟩ : ∃ K, K1 ≤ K ∧ K2 ≤ K := by
    by_cases c : K1 ≤ K2
    · exact ⟨K2, c, Int.le_refl _⟩
    · exact ⟨K1, Int.le_refl _, by omega⟩
  refine ⟨fun v => if R v = true then dist v else d0 v + K, fun i hi => ⟨fun k => ?_, fun k => ?_⟩, fun v hv => if_pos hv⟩
  · have e1 := h1 i hi k
    have e2 := (h i hi).1 k
    have e3 := k1 i hi
    dsimp only at *
    cases ra : R (N.a i) <;> cases rb : R (N.b i) <;> simp only [ra, rb, if_true, Bool.false_eq_true, if_false] at e1 ⊢
    · omega
    · omega
    · exact absurd (e1 trivial).1 (by simp)
    · exact (e1 trivial).2
  · have e1 := h2 i hi k
    have e2 := (h i hi).2 k
    have e3 := k2 i hi
    dsimp only at *
    cases ra : R (N.a i) <;> cases rb : R (N.b i) <;> simp only [ra, rb, if_true, Bool.false_eq_true, if_false] at e1 ⊢
    · omega
    · exact absurd (e1 trivial).1 (by simp)
    · omega
    · exact (e1 trivial).2

/-! ## What is kept -/
theorem keep_arc {l : List Trade} {k : List Nat} (e : k.length = l.length) {a : Arc} (h : a ∈ Vbchad.keepArcs l k) : ArcFits l k a ∧ a.cost = (if a.along = true then 1 else -1) := by
  unfold Vbchad.keepArcs at h
  obtain ⟨x, h1, h2⟩ := List.mem_flatMap.mp h
  obtain ⟨q1, q2⟩ := (mem_zipIdx e).mp h1
  obtain ⟨x1, i⟩ := x
  dsimp only at q1 q2 h2
  subst q2
  rcases List.mem_append.mp h2 with c | c
  · split at c
    · rename_i lt
      have e2 := List.mem_singleton.mp c
      subst e2
      dsimp only at lt
      exact ⟨⟨q1, fun _ => ⟨rfl, rfl, (by dsimp only; omega), (by dsimp only; omega)⟩, fun f => by cases f⟩, rfl⟩
    · simp at c
  · split at c
    · rename_i lt
      have e2 := List.mem_singleton.mp c
      subst e2
      dsimp only at lt
      exact ⟨⟨q1, fun f => (by cases f), fun _ => ⟨rfl, rfl, rfl, lt⟩⟩, rfl⟩
    · simp at c
theorem keep_along {l : List Trade} {k : List Nat} (e : k.length = l.length) {i : Nat} (hi : i < l.length) (h : k.getD i 0 < room (tr l i)) :
    (⟨i, true, (tr l i).from_, (tr l i).to, room (tr l i) - k.getD i 0, 1⟩ : Arc) ∈ Vbchad.keepArcs l k := by
  unfold Vbchad.keepArcs
  refine List.mem_flatMap.mpr ⟨((tr l i, k.getD i 0), i), (mem_zipIdx e).mpr ⟨hi, rfl⟩, ?_⟩
  dsimp only
  rw [if_pos h]
  simp
theorem keep_back {l : List Trade} {k : List Nat} (e : k.length = l.length) {i : Nat} (hi : i < l.length) (h : 0 < k.getD i 0) :
    (⟨i, false, (tr l i).to, (tr l i).from_, k.getD i 0, -1⟩ : Arc) ∈ Vbchad.keepArcs l k := by
  unfold Vbchad.keepArcs
  refine List.mem_flatMap.mpr ⟨((tr l i, k.getD i 0), i), (mem_zipIdx e).mpr ⟨hi, rfl⟩, ?_⟩
  dsimp only
  rw [if_pos h]
  simp

structure Kept (l : List Trade) (k : List Nat) : Prop where
  len : k.length = l.length
  fits : Fits (netOf l) (fl k)
  feas : ∃ d, Feas (netOf l) 1 (fl k) d
/-- what a member has still to send on (above 0) or to get -/
def dfc (l : List Trade) (k : List Nat) (m : Nat) : Int := net (netOf l) (netOf l).r m - net (netOf l) (fl k) m
theorem rooms_len (l : List Trade) : (rooms l).length = l.length := List.length_map _
theorem fl_rooms {l : List Trade} {i : Nat} (h : i < l.length) : fl (rooms l) i = (netOf l).r i := by
  unfold fl rooms
  rw [List.getD_eq_getElem?_getD, List.getElem?_map, List.getElem?_eq_getElem h]
  show _ = (room (tr l i) : Int)
  unfold tr
  rw [List.getD_eq_getElem?_getD, List.getElem?_eq_getElem h]
  rfl
theorem lacks_eq {l : List Trade} {k : List Nat} (e : k.length = l.length) (m : Nat) : Vbchad.lacks l k m = dfc l k m := by
  unfold Vbchad.lacks dfc
  rw [net_list e, ← net_congr (N := netOf l) (fun i hi => fl_rooms hi), net_list (rooms_len l)]
theorem dfc_outside {l : List Trade} {k : List Nat} {m : Nat} (h : ¬ m ∈ membersOf l) : dfc l k m = 0 := by
  unfold dfc
  rw [net_outside h, net_outside h]
  rfl
def meas (l : List Trade) (M : Nat) (k : List Nat) : Int := sm M (fun m => top0 (dfc l k m))
/-- no one to send on: no one to get -/
theorem dfc_all_zero {l : List Trade} {k : List Nat} (h : ∀ m, dfc l k m ≤ 0) (m : Nat) : dfc l k m = 0 := by
  obtain ⟨M, hM⟩ := above_all (netOf l)
  by_cases c : m < M
  · have e := sm_nets hM (fun _ => 1) (fun i => (netOf l).r i - fl k i)
    have e2 : sm (netOf l).n (fun i => ((1 : Int) - 1) * ((netOf l).r i - fl k i)) = 0 := sm_zero fun i _ => by
      rw [Int.sub_self, Int.zero_mul]
    have e3 : sm M (fun m => (1 : Int) * net (netOf l) (fun i => (netOf l).r i - fl k i) m) = sm M (dfc l k) := sm_congr fun m _ => by
      rw [Int.one_mul, net_sub]
      rfl
    rw [e3] at e
    exact sm_eq_each (n := M) (g := dfc l k) (h := fun _ => 0) (fun m _ => h m) (by rw [e, e2, sm_zero (fun _ _ => rfl)]; exact Int.le_refl _) m c
  · refine dfc_outside fun hm => ?_
    obtain ⟨t, h1, h2⟩ := mem_members.mp hm
    obtain ⟨i, hi, e⟩ := mem_tr h1
    have := hM i hi
    have ea : (netOf l).a i = t.from_ := by rw [← e] <;> rfl
    have eb : (netOf l).b i = t.to := by rw [← e] <;> rfl
    omega

theorem top0_of_nonneg {x : Int} (h : 0 ≤ x) : top0 x = x := by
  unfold top0
  split <;> omega
theorem top0_of_nonpos {x : Int} (h : x ≤ 0) : top0 x = 0 := by
  unfold top0
  split <;> omega
/-- one round of keep: done, or less is lacked -/
theorem keep_round {l : List Trade} {k : List Nat} (h : Kept l k) (M : Nat) (hM : ∀ m, m ∈ membersOf l → m < M) (hab : ∀ t, t ∈ l → t.from_ ≠ t.to → True) (n : Nat) :
    (Vbchad.keep l (n + 1) k = k ∧ ∀ m, dfc l k m = 0) ∨ ∃ k', Vbchad.keep l (n + 1) k = Vbchad.keep l n k' ∧ Kept l k' ∧ meas l M k' + 1 ≤ meas l M k := by
  obtain ⟨d0, hd0⟩ := h.feas
  have hpot : Pot (Vbchad.keepArcs l k) d0 := by
    intro a ha
    obtain ⟨q1, q2⟩ := keep_arc h.len ha
    obtain ⟨p, al, f, la, mo, co⟩ := a
    have := hd0 p q1.lt
    cases al
    · have q := q1.back rfl
      dsimp only at *
      rw [q.1, q.2.1, q2]
      have h2 := this.2 (by unfold fl; omega)
      have ea : (netOf l).a p = (tr l p).from_ := rfl
      have eb : (netOf l).b p = (tr l p).to := rfl
      rw [ea, eb] at h2
      simp
      omega
    · have q := q1.along rfl
      dsimp only at *
      rw [q.1, q.2.1, q2]
      have er : (netOf l).r p = (room (tr l p) : Int) := rfl
      have h2 := this.1 (by rw [er]; unfold fl; omega)
      have ea : (netOf l).a p = (tr l p).from_ := rfl
      have eb : (netOf l).b p = (tr l p).to := rfl
      rw [ea, eb] at h2
      simp
      omega
  have hlast : ∀ a, a ∈ Vbchad.keepArcs l k → a.last ∈ membersOf l := by
    intro a ha
    obtain ⟨q1, _⟩ := keep_arc h.len ha
    cases e : a.along
    · rw [(q1.back e).2.1]
      exact a_mem q1.lt
    · rw [(q1.along e).2.1]
      exact b_mem q1.lt
  have B := ways_best (S := (membersOf l).filter fun m => decide (0 < Vbchad.lacks l k m)) (ms := membersOf l) hpot (fun s hs => (List.mem_filter.mp hs).1) hlast
  let ws := ways (Vbchad.keepArcs l k) ((membersOf l).filter fun m => decide (0 < Vbchad.lacks l k m)) (membersOf l).length
  have hB : Best (Vbchad.keepArcs l k) ((membersOf l).filter fun m => decide (0 < Vbchad.lacks l k m)) ws := B
  let R : Nat → Bool := fun m => (wayTo ws m).isSome
  let dist : Nat → Int := fun m => match wayTo ws m with
    | some w => w.cost
    | none => 0
  let T : Nat → Int := fun m => match wayTo ws m with
    | some w => (w.steps.length : Int)
    | none => 0
  have hR : ∀ m w, wayTo ws m = some w → R m = true ∧ dist m = w.cost ∧ T m = (w.steps.length : Int) := by
    intro m w e
    refine ⟨?_, ?_, ?_⟩
    · show (wayTo ws m).isSome = true
      rw [e] <;> rfl
    · show (match wayTo ws m with
        | some w => w.cost
        | none => 0) = w.cost
      rw [e]
    · show (match wayTo ws m with
        | some w => (w.steps.length : Int)
        | none => 0) = (w.steps.length : Int)
      rw [e]
  have hR2 : ∀ m, R m = true → ∃ w, wayTo ws m = some w := fun m e => Option.isSome_iff_exists.mp e
  have st1 : ∀ i, i < (netOf l).n → fl k i < (netOf l).r i → R ((netOf l).a i) = true → R ((netOf l).b i) = true ∧ dist ((netOf l).b i) ≤ dist ((netOf l).a i) + 1 := by
    intro i hi q r
    obtain ⟨w, hw⟩ := hR2 _ r
    have er : (netOf l).r i = (room (tr l i) : Int) := rfl
    rw [er] at q
    obtain ⟨w', h1, h2⟩ := hB.stable _ (keep_along h.len hi (by unfold fl at q; omega)) w hw
    rw [(hR _ _ hw).2.1]
    have := hR _ _ h1
    exact ⟨this.1, by rw [show dist ((netOf l).b i) = w'.cost from this.2.1]; exact h2⟩
  have st2 : ∀ i, i < (netOf l).n → 0 < fl k i → R ((netOf l).b i) = true → R ((netOf l).a i) = true ∧ dist ((netOf l).a i) + 1 ≤ dist ((netOf l).b i) := by
    intro i hi q r
    obtain ⟨w, hw⟩ := hR2 _ r
    obtain ⟨w', h1, h2⟩ := hB.stable _ (keep_back h.len hi (by unfold fl at q; omega)) w hw
    rw [(hR _ _ hw).2.1]
    have := hR _ _ h1
    refine ⟨this.1, ?_⟩
    rw [show dist ((netOf l).a i) = w'.cost from this.2.1]
    dsimp only at h2
    omega
  obtain ⟨d, hd, hdR⟩ := feas_extend hd0 R dist st1 st2
  have hN : ∀ i, i < (netOf l).n → (netOf l).a i < M ∧ (netOf l).b i < M := fun i hi => ⟨hM _ (a_mem hi), hM _ (b_mem hi)⟩
  have ek : Vbchad.keep l (n + 1) k = match bestWay ws ((membersOf l).filter fun m => decide (Vbchad.lacks l k m < 0)) with
      | none => k
      | some w => Vbchad.keep l n (Vbchad.pushed k w.steps (Vbchad.least (Vbchad.lacks l k (match w.steps.getLast? with
        | some a => a.first
        | none => w.goal)).toNat ((-(Vbchad.lacks l k w.goal)).toNat :: w.steps.map fun a => a.most))) := rfl
  rw [ek]
  cases bw : bestWay ws ((membersOf l).filter fun m => decide (Vbchad.lacks l k m < 0)) with
  | none =>
    refine Or.inl ⟨rfl, dfc_all_zero fun m => ?_⟩
    by_cases hm : m ∈ membersOf l
    · by_cases c : 0 < dfc l k m
      · exfalso
        have cut := cut_le (N := netOf l) (f := fl k) (g := (netOf l).r) (fun i _ => ⟨Int.natCast_nonneg _, Int.le_refl _⟩) R
          (fun i hi ra rb => by
            by_cases q : fl k i < (netOf l).r i
            · have := (st1 i hi q ra).1
              rw [rb] at this
              cases this
            · omega)
          (fun i hi rb ra => by
            by_cases q : 0 < fl k i
            · have := (st2 i hi q rb).1
              rw [ra] at this
              cases this
            · omega) M hN
        have nn : ∀ x, x < M → 0 ≤ ind (R x) * (net (netOf l) (netOf l).r x - net (netOf l) (fl k) x) := by
          intro x _
          cases r : R x
          · rw [ind_false, Int.zero_mul]
            exact Int.le_refl _
          · rw [ind_true, Int.one_mul]
            show 0 ≤ dfc l k x
            by_cases mx : x ∈ membersOf l
            · by_cases lt : dfc l k x < 0
              · have := bestWay_none bw x (List.mem_filter.mpr ⟨mx, by rw [lacks_eq h.len]; simpa using lt⟩)
                obtain ⟨w, hw⟩ := hR2 x r
                rw [this] at hw
                cases hw
              · omega
            · rw [dfc_outside mx]
              exact Int.le_refl _
        have one := sm_ge_one nn m (hM m hm)
        obtain ⟨w, hw, _⟩ := hB.start m (List.mem_filter.mpr ⟨hm, by rw [lacks_eq h.len]; simpa using c⟩)
        rw [(hR m w hw).1, ind_true, Int.one_mul] at one
        have one' : dfc l k m ≤ _ := one
        omega
      · omega
    · rw [dfc_outside hm]
      exact Int.le_refl _
  | some w =>
    refine Or.inr ⟨_, rfl, ?_⟩
    obtain ⟨v, hv, hw⟩ := bestWay_some bw
    have gv : w.goal = v := wayTo_goal hw
    obtain ⟨hv1, hv2⟩ := List.mem_filter.mp hv
    rw [lacks_eq h.len] at hv2
    have hv3 : dfc l k v < 0 := by simpa using hv2
    obtain ⟨s, hs, hr, hin, htight⟩ := hB.chain v w hw
    obtain ⟨hs1, hs2⟩ := List.mem_filter.mp hs
    rw [lacks_eq h.len] at hs2
    have hs3 : 0 < dfc l k s := by simpa using hs2
    have eo : (match w.steps.getLast? with
        | some a => a.first
        | none => w.goal) = s := by
      have aux : ∀ (L : List Arc) (z : Nat), RChain s L z → (match L.getLast? with
          | some a => a.first
          | none => z) = s := by
        intro L
        induction L with
        | nil =>
          intro z q
          have e : s = z := q
          exact e.symm
        | cons a L ih =>
          intro z q
          cases L with
          | nil =>
            have e : s = a.first := q.2
            exact e.symm
          | cons b L =>
            have := ih a.first q.2
            rw [List.getLast?_cons_cons]
            have h2 : ((b :: L).getLast?).isSome = true := by simp
            obtain ⟨c, hc⟩ := Option.isSome_iff_exists.mp h2
            rw [hc] at this ⊢
            exact this
      rw [gv]
      exact aux w.steps v hr
    rw [eo, gv, lacks_eq h.len, lacks_eq h.len]
    generalize hx : Vbchad.least (dfc l k s).toNat ((-dfc l k v).toNat :: w.steps.map fun a => a.most) = x
    have le := least_le (dfc l k s).toNat ((-dfc l k v).toNat :: w.steps.map fun a => a.most)
    rw [hx] at le
    have x1 : x ≤ (dfc l k s).toNat := le.1
    have x2 : x ≤ (-dfc l k v).toNat := le.2 _ (by simp)
    have x3 : ∀ a, a ∈ w.steps → x ≤ a.most := fun a ha => le.2 _ (List.mem_cons_of_mem _ (List.mem_map.mpr ⟨a, ha, rfl⟩))
    have x4 : 1 ≤ x := by
      rw [← hx]
      refine least_ge (by omega) fun y hy => ?_
      rcases List.mem_cons.mp hy with e | e
      · omega
      · obtain ⟨a, ha, e2⟩ := List.mem_map.mp e
        have := (keep_arc h.len (hin a ha)).1.pos
        omega
    have hT : ∀ a, a ∈ w.steps → T a.last = T a.first + 1 := by
      intro a ha
      obtain ⟨w1, w2, k1, k2, k3, k4⟩ := htight a ha
      rw [(hR _ _ k1).2.2, (hR _ _ k2).2.2, k4]
      rfl
    have hdt : ∀ a, a ∈ w.steps → d a.last = d a.first + a.cost := by
      intro a ha
      obtain ⟨w1, w2, k1, k2, k3, k4⟩ := htight a ha
      have r1 := hR _ _ k1
      have r2 := hR _ _ k2
      rw [hdR _ r1.1, hdR _ r2.1, r1.2.1, r2.2.1, k3]
    obtain ⟨p1, p2, p3⟩ := push_ok (x := x) h.len h.fits (fun a ha => (keep_arc h.len (hin a ha)).1) hr hT x3
    refine ⟨⟨by rw [pushed_len]; exact h.len, p2, d, ?_⟩, ?_⟩
    · have fs := feas_shifted (x := (x : Int)) (l := w.steps.reverse.map stp) hd (fun q hq => by
        obtain ⟨a, ha, rfl⟩ := mem_stp.mp hq
        obtain ⟨q1, q2⟩ := keep_arc h.len (hin a ha)
        have := hdt a ha
        obtain ⟨p, al, f, la, mo, co⟩ := a
        cases al
        · have q := q1.back rfl
          dsimp only at *
          rw [q.1, q.2.1, q2] at this
          show d (tr l p).to = d (tr l p).from_ + 1
          simp at this
          omega
        · have q := q1.along rfl
          dsimp only at *
          rw [q.1, q.2.1, q2] at this
          show d (tr l p).to = d (tr l p).from_ + 1
          simpa using this)
      intro i hi
      rw [p1 i hi]
      exact fs i hi
    · have hne : s ≠ v := fun e => by
        rw [e] at hs3
        omega
      have ds : dfc l (Vbchad.pushed k w.steps x) s = dfc l k s - x := by
        unfold dfc
        rw [p3 s, ind_pos (p := s == s) (by simp), ind_neg (p := v == s) (by simp; omega)]
        omega
      have dv : dfc l (Vbchad.pushed k w.steps x) v = dfc l k v + x := by
        unfold dfc
        rw [p3 v, ind_pos (p := v == v) (by simp), ind_neg (p := s == v) (by simp; omega)]
        omega
      have dm : ∀ m, m ≠ s → m ≠ v → dfc l (Vbchad.pushed k w.steps x) m = dfc l k m := by
        intro m h1 h2
        unfold dfc
        rw [p3 m, ind_neg (p := v == m) (by simp; omega), ind_neg (p := s == m) (by simp; omega)]
        omega
      have le1 : ∀ m, top0 (dfc l (Vbchad.pushed k w.steps x) m) ≤ top0 (dfc l k m) - (if s = m then (x : Int) else 0) := by
        intro m
        by_cases c1 : m = s
        · subst c1
          rw [ds, if_pos rfl, top0_of_nonneg (by omega), top0_of_nonneg (by omega)]
          exact Int.le_refl _
        · rw [if_neg (fun e => c1 e.symm)]
          by_cases c2 : m = v
          · subst c2
            rw [dv, top0_of_nonpos (by omega), top0_of_nonpos (by omega)]
            exact Int.le_refl _
          · rw [dm m c1 c2]
            omega
      have le2 := sm_le (n := M) (fun m _ => le1 m)
      rw [sm_sub] at le2
      have e3 : sm M (fun m => if s = m then (x : Int) else 0) = x := by
        refine Eq.trans (sm_congr fun m _ => ?_) (sm_pick (n := M) (fun _ => (x : Int)) s (hM s hs1))
        by_cases c : s = m
        · rw [if_pos c, ind_pos (p := s == m) (by simp [c]), Int.mul_one]
        · rw [if_neg c, ind_neg (p := s == m) (by simp [c]), Int.mul_zero]
      rw [e3] at le2
      have le2' : meas l M (Vbchad.pushed k w.steps x) ≤ meas l M k - x := le2
      omega

theorem keep_all {l : List Trade} (M : Nat) (hM : ∀ m, m ∈ membersOf l → m < M) : ∀ (n : Nat) (k : List Nat), Kept l k → meas l M k ≤ n → Kept l (Vbchad.keep l n k) ∧ ∀ m, dfc l (Vbchad.keep l n k) m = 0
  | 0, k, h, hn => by
    refine ⟨h, dfc_all_zero fun m => ?_⟩
    show dfc l k m ≤ 0
    by_cases hm : m ∈ membersOf l
    · have := sm_ge_one (n := M) (g := fun m => top0 (dfc l k m)) (fun m _ => top0_nonneg _) m (hM m hm)
      have := le_top0 (dfc l k m)
      have hn' : sm M (fun m => top0 (dfc l k m)) ≤ (0 : Nat) := hn
      omega
    · rw [dfc_outside hm]
      exact Int.le_refl _
  | n + 1, k, h, hn => by
    rcases keep_round h M hM (fun _ _ _ => trivial) n with ⟨e, z⟩ | ⟨k', e, h', lt⟩
    · rw [e]
      exact ⟨h, z⟩
    · rw [e]
      exact keep_all M hM n k' h' (by omega)

theorem members_above (l : List Trade) : ∃ M, (∀ m, m ∈ membersOf l → m < M) := by
  obtain ⟨M, hM⟩ := above_all (netOf l)
  refine ⟨M, fun m hm => ?_⟩
  obtain ⟨t, h1, h2⟩ := mem_members.mp hm
  obtain ⟨i, hi, e⟩ := mem_tr h1
  have := hM i hi
  have ea : (netOf l).a i = t.from_ := by rw [← e] <;> rfl
  have eb : (netOf l).b i = t.to := by rw [← e] <;> rfl
  omega

theorem zeros_get {α : Type} (l : List α) (i : Nat) : (l.map fun _ => (0 : Nat)).getD i 0 = 0 := by
  rw [List.getD_eq_getElem?_getD, List.getElem?_map]
  cases l[i]? <;> rfl

theorem leastKept_ok (l : List Trade) : Kept l (Vbchad.leastKept l) ∧ ∀ m, dfc l (Vbchad.leastKept l) m = 0 := by
  obtain ⟨M, hM⟩ := members_above l
  have hN : ∀ i, i < (netOf l).n → (netOf l).a i < M ∧ (netOf l).b i < M := fun i hi => ⟨hM _ (a_mem hi), hM _ (b_mem hi)⟩
  have z : ∀ i, fl (l.map fun _ => 0) i = 0 := fun i => by
    unfold fl
    rw [zeros_get]
    rfl
  unfold Vbchad.leastKept
  refine keep_all M hM _ _ ⟨List.length_map _, fun i _ => ?_, fun v => 0, fun i hi => ?_⟩ ?_
  · rw [z]
    exact ⟨Int.le_refl _, Int.natCast_nonneg _⟩
  · rw [z]
    exact ⟨fun _ => by show (0 : Int) ≤ 0 + 1; omega, fun k => by omega⟩
  · have e1 : ∀ m, dfc l (l.map fun _ => 0) m = net (netOf l) (netOf l).r m := by
      intro m
      unfold dfc
      rw [net_congr (N := netOf l) (g := fun _ => 0) (fun i _ => z i), net_zero]
      omega
    have e2 : ∀ m, top0 (dfc l (l.map fun _ => 0) m) ≤ sm l.length (fun i => ind ((netOf l).a i == m) * (netOf l).r i) := by
      intro m
      rw [e1]
      have nn : 0 ≤ sm l.length (fun i => ind ((netOf l).a i == m) * (netOf l).r i) := sm_nonneg fun i _ => by
        rcases ind_cases ((netOf l).a i == m) with c | c <;> rw [c]
        · omega
        · rw [Int.one_mul]
          exact Int.natCast_nonneg _
      have le : net (netOf l) (netOf l).r m ≤ sm l.length (fun i => ind ((netOf l).a i == m) * (netOf l).r i) := sm_le fun i _ => by
        have hr : (0 : Int) ≤ (netOf l).r i := Int.natCast_nonneg _
        rcases ind_cases ((netOf l).a i == m) with c | c <;> rcases ind_cases ((netOf l).b i == m) with c' | c' <;> rw [c, c'] <;> omega
      unfold top0
      split <;> omega
    have e3 := sm_le (n := M) (fun m _ => e2 m)
    rw [sm_swap] at e3
    have e4 : sm M (fun j => sm l.length (fun i => ind ((netOf l).a i == j) * (netOf l).r i)) = sm l.length (netOf l).r := by
      rw [sm_swap]
      refine sm_congr fun i hi => ?_
      exact Eq.trans (sm_congr fun m _ => Int.mul_comm _ _) (sm_pick (n := M) (fun _ => (netOf l).r i) ((netOf l).a i) (hN i hi).1)
    have e5 : ((Vbchad.sum (rooms l) : Nat) : Int) = sm l.length (netOf l).r := by
      rw [sum_sm, rooms_len]
      exact sm_congr fun i hi => fl_rooms hi
    have e6 : meas l M (l.map fun _ => 0) ≤ sm l.length (netOf l).r := by
      rw [← e4]
      exact sm_le (n := M) (fun m _ => e2 m)
    rw [Int.natCast_add, e5]
    omega

theorem greatest_len (l : List Trade) : (Vbchad.someGreatest l).length = l.length := by
  unfold Vbchad.someGreatest
  rw [List.length_map, List.length_zip, (leastKept_ok l).1.len]
  omega
theorem greatest_fl {l : List Trade} {i : Nat} (h : i < l.length) : fl (Vbchad.someGreatest l) i = (netOf l).r i - fl (Vbchad.leastKept l) i := by
  have K := (leastKept_ok l).1
  have f := (K.fits i h).2
  have e : (Vbchad.someGreatest l).getD i 0 = room (tr l i) - (Vbchad.leastKept l).getD i 0 := by
    unfold Vbchad.someGreatest
    rw [List.getD_eq_getElem?_getD, List.getElem?_map, zip_get K.len, if_pos h]
    rfl
  have er : (netOf l).r i = (room (tr l i) : Int) := rfl
  rw [er] at f ⊢
  unfold fl at f ⊢
  rw [e]
  omega
/-- **A reduction, and potentials that prove it.** -/
theorem greatest_tight (l : List Trade) : Red (netOf l) (fl (Vbchad.someGreatest l)) ∧ ∃ p, Tight (netOf l) (fl (Vbchad.someGreatest l)) p := by
  obtain ⟨K, z⟩ := leastKept_ok l
  obtain ⟨d, hd⟩ := K.feas
  have e : ∀ i, i < (netOf l).n → fl (Vbchad.someGreatest l) i = (netOf l).r i - fl (Vbchad.leastKept l) i := fun i hi => greatest_fl hi
  refine ⟨⟨fun i hi => ?_, fun m => ?_⟩, d, fun i hi => ?_⟩
  · rw [e i hi]
    have := K.fits i hi
    omega
  · rw [net_congr (N := netOf l) e, net_sub]
    exact z m
  · rw [e i hi]
    exact tight_of_kept hd i hi
theorem greatest_opt (l : List Trade) : Opt (netOf l) (fl (Vbchad.someGreatest l)) := by
  obtain ⟨h, p, hp⟩ := greatest_tight l
  exact opt_of_tight h hp
theorem greatestOf_eq (l : List Trade) : (Vbchad.greatestOf l : Int) = tot (netOf l) (fl (Vbchad.someGreatest l)) := by
  unfold Vbchad.greatestOf
  rw [sum_sm, greatest_len]
  rfl
end Nw
end

section
/-! # The specification's potentials are the least ones that prove the greatest total -/
namespace Nw
open Vbchad (Trade Arc Way wayTo ways bestWay room rooms membersOf outOf into isReduction potentialOf worthOf)

theorem potentialOf_map (h : Nat → Int) (m : Nat) : ∀ (ms : List Nat), potentialOf ms (ms.map h) m = if m ∈ ms then h m else 0
  | [] => by simp [potentialOf]
  | a :: ms => by
    have ih := potentialOf_map h m ms
    unfold potentialOf at ih ⊢
    rw [List.map_cons, List.zip_cons_cons, List.find?_cons]
    by_cases c : a = m
    · subst c
      simp
    · have e : ((a, h a).1 == m) = false := by simp [c]
      rw [e]
      dsimp only
      rw [ih]
      have e2 : (m ∈ a :: ms) ↔ m ∈ ms := by
        rw [List.mem_cons]
        constructor
        · rintro (q | q)
          · exact absurd q.symm c
          · exact q
        · exact Or.inr
      by_cases c2 : m ∈ ms
      · rw [if_pos c2, if_pos (e2.mpr c2)]
      · rw [if_neg c2, if_neg (fun q => c2 (e2.mp q))]

/-- one trade's turn in a round -/
def rturn (P : Nat → Int) (m : Nat) (q : Int) (x : Trade × Nat) : Int :=
  let q := if x.1.to = m ∧ x.2 < room x.1 then max q (P x.1.from_ + 1) else q
  if x.1.from_ = m ∧ 0 < x.2 then max q (P x.1.to - 1) else q
def rs (l : List Trade) (f : List Nat) (P : Nat → Int) (m : Nat) : Int := (l.zip f).foldl (rturn P m) (P m)
theorem raised_eq (l : List Trade) (f : List Nat) (ms : List Nat) (p : List Int) : Vbchad.raised l f ms p = ms.map (rs l f (potentialOf ms p)) := rfl
theorem rturn_ge (P : Nat → Int) (m : Nat) (q : Int) (x : Trade × Nat) : q ≤ rturn P m q x ∧ (x.1.to = m → x.2 < room x.1 → P x.1.from_ + 1 ≤ rturn P m q x) ∧ (x.1.from_ = m → 0 < x.2 → P x.1.to - 1 ≤ rturn P m q x) := by
  unfold rturn
  dsimp only
  by_cases c1 : x.1.to = m ∧ x.2 < room x.1
  · rw [if_pos c1]
    by_cases c2 : x.1.from_ = m ∧ 0 < x.2
    · rw [if_pos c2]
      refine ⟨by omega, fun _ _ => by omega, fun _ _ => by omega⟩
    · rw [if_neg c2]
      refine ⟨by omega, fun _ _ => by omega, fun h1 h2 => absurd ⟨h1, h2⟩ c2⟩
  · rw [if_neg c1]
    by_cases c2 : x.1.from_ = m ∧ 0 < x.2
    · rw [if_pos c2]
      refine ⟨by omega, fun h1 h2 => absurd ⟨h1, h2⟩ c1, fun _ _ => by omega⟩
    · rw [if_neg c2]
      refine ⟨by omega, fun h1 h2 => absurd ⟨h1, h2⟩ c1, fun h1 h2 => absurd ⟨h1, h2⟩ c2⟩
theorem rturn_is (P : Nat → Int) (m : Nat) (q : Int) (x : Trade × Nat) : rturn P m q x = q ∨ (x.1.to = m ∧ x.2 < room x.1 ∧ rturn P m q x = P x.1.from_ + 1) ∨ (x.1.from_ = m ∧ 0 < x.2 ∧ rturn P m q x = P x.1.to - 1) := by
  unfold rturn
  dsimp only
  by_cases c1 : x.1.to = m ∧ x.2 < room x.1
  · rw [if_pos c1]
    by_cases c2 : x.1.from_ = m ∧ 0 < x.2
    · rw [if_pos c2]
      have h1 := c1.1
      have h2 := c1.2
      have h3 := c2.1
      have h4 := c2.2
      omega
    · rw [if_neg c2]
      have h1 := c1.1
      have h2 := c1.2
      omega
  · rw [if_neg c1]
    by_cases c2 : x.1.from_ = m ∧ 0 < x.2
    · rw [if_pos c2]
      have h3 := c2.1
      have h4 := c2.2
      omega
    · rw [if_neg c2]
      exact Or.inl rfl
theorem rfold_ge (P : Nat → Int) (m : Nat) : ∀ (L : List (Trade × Nat)) (q : Int), q ≤ L.foldl (rturn P m) q ∧ ∀ x, x ∈ L → (x.1.to = m → x.2 < room x.1 → P x.1.from_ + 1 ≤ L.foldl (rturn P m) q) ∧ (x.1.from_ = m → 0 < x.2 → P x.1.to - 1 ≤ L.foldl (rturn P m) q)
  | [], q => ⟨Int.le_refl _, fun x hx => by simp at hx⟩
  | y :: L, q => by
    have ih := rfold_ge P m L (rturn P m q y)
    have h := rturn_ge P m q y
    rw [List.foldl_cons]
    refine ⟨Int.le_trans h.1 ih.1, fun x hx => ?_⟩
    rcases List.mem_cons.mp hx with c | c
    · subst c
      exact ⟨fun h1 h2 => Int.le_trans (h.2.1 h1 h2) ih.1, fun h1 h2 => Int.le_trans (h.2.2 h1 h2) ih.1⟩
    · exact ih.2 x c
theorem rfold_is (P : Nat → Int) (m : Nat) : ∀ (L : List (Trade × Nat)) (q : Int), L.foldl (rturn P m) q = q ∨ ∃ x, x ∈ L ∧ ((x.1.to = m ∧ x.2 < room x.1 ∧ L.foldl (rturn P m) q = P x.1.from_ + 1) ∨ (x.1.from_ = m ∧ 0 < x.2 ∧ L.foldl (rturn P m) q = P x.1.to - 1))
  | [], q => Or.inl rfl
  | y :: L, q => by
    rw [List.foldl_cons]
    rcases rfold_is P m L (rturn P m q y) with e | ⟨x, h1, h2⟩
    · rw [e]
      rcases rturn_is P m q y with c | c
      · exact Or.inl c
      · exact Or.inr ⟨y, by simp, c⟩
    · exact Or.inr ⟨x, by simp [h1], h2⟩

/-- what is left of f, an unit more of the number gaining one -/
def resArcs (l : List Trade) (f : List Nat) : List Arc := (Vbchad.keepArcs l f).map fun a => { a with cost := -a.cost }
theorem res_along {l : List Trade} {k : List Nat} (e : k.length = l.length) {i : Nat} (hi : i < l.length) (h : k.getD i 0 < room (tr l i)) :
    ∃ a, a ∈ resArcs l k ∧ a.first = (tr l i).from_ ∧ a.last = (tr l i).to ∧ a.cost = -1 :=
  ⟨_, List.mem_map.mpr ⟨_, keep_along e hi h, rfl⟩, rfl, rfl, rfl⟩
theorem res_back {l : List Trade} {k : List Nat} (e : k.length = l.length) {i : Nat} (hi : i < l.length) (h : 0 < k.getD i 0) :
    ∃ a, a ∈ resArcs l k ∧ a.first = (tr l i).to ∧ a.last = (tr l i).from_ ∧ a.cost = 1 :=
  ⟨_, List.mem_map.mpr ⟨_, keep_back e hi h, rfl⟩, rfl, rfl, rfl⟩
theorem res_arc {l : List Trade} {k : List Nat} (e : k.length = l.length) {a : Arc} (h : a ∈ resArcs l k) : ∃ i, i < l.length ∧
    ((a.first = (tr l i).from_ ∧ a.last = (tr l i).to ∧ k.getD i 0 < room (tr l i) ∧ a.cost = -1) ∨ (a.first = (tr l i).to ∧ a.last = (tr l i).from_ ∧ 0 < k.getD i 0 ∧ a.cost = 1)) := by
  obtain ⟨b, hb, rfl⟩ := List.mem_map.mp h
  obtain ⟨q1, q2⟩ := keep_arc e hb
  refine ⟨b.place, q1.lt, ?_⟩
  cases c : b.along
  · have := q1.back c
    rw [c] at q2
    refine Or.inr ⟨this.1, this.2.1, by omega, ?_⟩
    show -b.cost = 1
    rw [q2] <;> rfl
  · have := q1.along c
    rw [c] at q2
    refine Or.inl ⟨this.1, this.2.1, by omega, ?_⟩
    show -b.cost = -1
    rw [q2] <;> rfl
theorem res_pot {l : List Trade} {k : List Nat} (e : k.length = l.length) {p : Nat → Int} (h : Tight (netOf l) (fl k) p) : Pot (resArcs l k) (fun m => - p m) := by
  intro a ha
  obtain ⟨i, hi, c | c⟩ := res_arc e ha
  · have := (h i hi).1 (by show ((k.getD i 0 : Nat) : Int) < (room (tr l i) : Int); omega)
    unfold worth at this
    rw [c.1, c.2.1, c.2.2.2]
    have ea : (netOf l).a i = (tr l i).from_ := rfl
    have eb : (netOf l).b i = (tr l i).to := rfl
    rw [ea, eb] at this
    dsimp only
    omega
  · have := (h i hi).2 (by show (0 : Int) < ((k.getD i 0 : Nat) : Int); omega)
    unfold worth at this
    rw [c.1, c.2.1, c.2.2.2]
    have ea : (netOf l).a i = (tr l i).from_ := rfl
    have eb : (netOf l).b i = (tr l i).to := rfl
    rw [ea, eb] at this
    dsimp only
    omega
theorem tight_of_res {l : List Trade} {k : List Nat} (e : k.length = l.length) {p : Nat → Int} (h : ∀ a, a ∈ resArcs l k → p a.first - a.cost ≤ p a.last) : Tight (netOf l) (fl k) p := by
  intro i hi
  constructor
  · intro q
    have q' : ((k.getD i 0 : Nat) : Int) < (room (tr l i) : Int) := q
    obtain ⟨a, ha, h1, h2, h3⟩ := res_along e hi (by omega)
    have := h a ha
    rw [h1, h2, h3] at this
    show 1 + (p (tr l i).from_ - p (tr l i).to) ≤ 0
    omega
  · intro q
    have q' : (0 : Int) < ((k.getD i 0 : Nat) : Int) := q
    obtain ⟨a, ha, h1, h2, h3⟩ := res_back e hi (by omega)
    have := h a ha
    rw [h1, h2, h3] at this
    show 0 ≤ 1 + (p (tr l i).from_ - p (tr l i).to)
    omega
theorem res_last {l : List Trade} {k : List Nat} (e : k.length = l.length) {a : Arc} (h : a ∈ resArcs l k) : a.last ∈ membersOf l ∧ a.first ∈ membersOf l := by
  obtain ⟨i, hi, c | c⟩ := res_arc e h
  · rw [c.1, c.2.1]
    exact ⟨b_mem hi, a_mem hi⟩
  · rw [c.1, c.2.1]
    exact ⟨a_mem hi, b_mem hi⟩

/-- the rounds, as functions of a member -/
def Pk (l : List Trade) (f : List Nat) : Nat → Nat → Int
  | 0, _ => 0
  | k + 1, m => if m ∈ membersOf l then rs l f (Pk l f k) m else 0
theorem Pk_outside {l : List Trade} {f : List Nat} {m : Nat} (h : ¬ m ∈ membersOf l) : ∀ k, Pk l f k m = 0
  | 0 => rfl
  | k + 1 => if_neg h
theorem pot_Pk (l : List Trade) (f : List Nat) (k : Nat) : potentialOf (membersOf l) ((membersOf l).map (Pk l f k)) = Pk l f k := by
  funext m
  rw [potentialOf_map]
  by_cases c : m ∈ membersOf l
  · rw [if_pos c]
  · rw [if_neg c, Pk_outside c]
theorem raised_Pk (l : List Trade) (f : List Nat) (k : Nat) : Vbchad.raised l f (membersOf l) ((membersOf l).map (Pk l f k)) = (membersOf l).map (Pk l f (k + 1)) := by
  rw [raised_eq, pot_Pk]
  exact List.map_congr_left fun m hm => (if_pos hm).symm
theorem raise_Pk (l : List Trade) (f : List Nat) : ∀ (n k : Nat), Vbchad.raise l f (membersOf l) n ((membersOf l).map (Pk l f k)) = (membersOf l).map (Pk l f (k + n))
  | 0, k => rfl
  | n + 1, k => by
    show Vbchad.raise l f (membersOf l) n (Vbchad.raised l f (membersOf l) ((membersOf l).map (Pk l f k))) = _
    rw [raised_Pk, raise_Pk l f n (k + 1), show k + 1 + n = k + (n + 1) by omega]
theorem rs_ge {l : List Trade} {f : List Nat} (P : Nat → Int) (m : Nat) : P m ≤ rs l f P m := (rfold_ge P m (l.zip f) (P m)).1
theorem zip_mem {l : List Trade} {f : List Nat} (e : f.length = l.length) {x : Trade × Nat} : x ∈ l.zip f ↔ ∃ i, i < l.length ∧ x = (tr l i, f.getD i 0) := by
  constructor
  · intro h
    obtain ⟨i, hi⟩ := List.mem_iff_getElem?.mp h
    rw [zip_get e] at hi
    by_cases c : i < l.length
    · rw [if_pos c] at hi
      exact ⟨i, c, (Option.some.inj hi).symm⟩
    · rw [if_neg c] at hi
      cases hi
  · rintro ⟨i, h1, h2⟩
    refine List.mem_iff_getElem?.mpr ⟨i, ?_⟩
    rw [zip_get e, if_pos h1, h2]
theorem rs_arc {l : List Trade} {f : List Nat} (e : f.length = l.length) (P : Nat → Int) {a : Arc} (h : a ∈ resArcs l f) : P a.first - a.cost ≤ rs l f P a.last := by
  obtain ⟨i, hi, c | c⟩ := res_arc e h
  · have := ((rfold_ge P a.last (l.zip f) (P a.last)).2 _ ((zip_mem e).mpr ⟨i, hi, rfl⟩)).1 c.2.1.symm c.2.2.1
    dsimp only at this
    rw [c.1, c.2.2.2]
    exact this
  · have := ((rfold_ge P a.last (l.zip f) (P a.last)).2 _ ((zip_mem e).mpr ⟨i, hi, rfl⟩)).2 c.2.1.symm c.2.2.1
    dsimp only at this
    rw [c.1, c.2.2.2]
    exact this
theorem rs_is {l : List Trade} {f : List Nat} (e : f.length = l.length) (P : Nat → Int) (m : Nat) : rs l f P m = P m ∨ ∃ a, a ∈ resArcs l f ∧ a.last = m ∧ rs l f P m = P a.first - a.cost := by
  rcases rfold_is P m (l.zip f) (P m) with h | ⟨x, h1, h2⟩
  · exact Or.inl h
  · obtain ⟨i, hi, rfl⟩ := (zip_mem e).mp h1
    dsimp only at h2
    rcases h2 with ⟨q1, q2, q3⟩ | ⟨q1, q2, q3⟩
    · obtain ⟨a, ha, k1, k2, k3⟩ := res_along e hi q2
      refine Or.inr ⟨a, ha, by rw [k2]; exact q1, ?_⟩
      rw [k1, k3]
      exact q3
    · obtain ⟨a, ha, k1, k2, k3⟩ := res_back e hi q2
      refine Or.inr ⟨a, ha, by rw [k2]; exact q1, ?_⟩
      rw [k1, k3]
      exact q3
theorem Pk_walk {l : List Trade} {f : List Nat} (e : f.length = l.length) {s : Nat} (hs : s ∈ membersOf l) : ∀ (k : Nat) {c : List Arc} {v : Nat}, (∀ a, a ∈ c → a ∈ resArcs l f) → RChain s c v → c.length ≤ k → - acost c ≤ Pk l f k v
  | 0, [], v, _, _, _ => Int.le_refl _
  | 0, a :: c, v, _, _, h => by simp at h
  | k + 1, [], v, hc, r, _ => by
    have ih := Pk_walk e hs k hc r (by simp)
    have ev : s = v := r
    subst ev
    show _ ≤ (if s ∈ membersOf l then rs l f (Pk l f k) s else 0)
    rw [if_pos hs]
    exact Int.le_trans ih (rs_ge _ _)
  | k + 1, a :: c, v, hc, r, h => by
    have ih := Pk_walk e hs k (c := c) (v := a.first) (fun b hb => hc b (by simp [hb])) r.2 (by simp at h; omega)
    have ha := hc a (by simp)
    have h2 := rs_arc e (Pk l f k) ha
    rw [← r.1]
    show -(acost c + a.cost) ≤ (if a.last ∈ membersOf l then rs l f (Pk l f k) a.last else 0)
    rw [if_pos (res_last e ha).1]
    omega
theorem Pk_is {l : List Trade} {f : List Nat} (e : f.length = l.length) : ∀ (k : Nat) {v : Nat}, v ∈ membersOf l → ∃ s c, s ∈ membersOf l ∧ (∀ a, a ∈ c → a ∈ resArcs l f) ∧ RChain s c v ∧ Pk l f k v = - acost c
  | 0, v, hv => ⟨v, [], hv, fun a ha => by simp at ha, rfl, rfl⟩
  | k + 1, v, hv => by
    have ee : Pk l f (k + 1) v = rs l f (Pk l f k) v := if_pos hv
    rcases rs_is e (Pk l f k) v with q | ⟨a, h1, h2, h3⟩
    · obtain ⟨s, c, k1, k2, k3, k4⟩ := Pk_is e k hv
      exact ⟨s, c, k1, k2, k3, by rw [ee, q, k4]⟩
    · obtain ⟨s, c, k1, k2, k3, k4⟩ := Pk_is e k (res_last e h1).2
      refine ⟨s, a :: c, k1, fun b hb => ?_, ⟨h2, k3⟩, ?_⟩
      · rcases List.mem_cons.mp hb with q | q
        · rw [q]
          exact h1
        · exact k2 b q
      · rw [ee, h3, k4]
        show - acost c - a.cost = -(acost c + a.cost)
        omega

/-- the least potentials from 0 on that prove a flow -/
structure LeastPot (N : Net) (ms : List Nat) (f p : Nat → Int) : Prop where
  nonneg : ∀ m, m ∈ ms → 0 ≤ p m
  tight : Tight N f p
  least : ∀ q, (∀ m, m ∈ ms → 0 ≤ q m) → Tight N f q → ∀ m, m ∈ ms → p m ≤ q m
theorem LeastPot.unique {N : Net} {ms : List Nat} {f g p q : Nat → Int} (hf : Opt N f) (hg : Opt N g) (hp : LeastPot N ms f p) (hq : LeastPot N ms g q) : ∀ m, m ∈ ms → p m = q m := by
  intro m hm
  have h1 := hp.least q hq.nonneg (tight_of_opt hg.1 hq.tight hf) m hm
  have h2 := hq.least p hp.nonneg (tight_of_opt hf.1 hp.tight hg) m hm
  omega

theorem Pk_least {l : List Trade} {f : List Nat} (e : f.length = l.length) (h : ∃ p, Tight (netOf l) (fl f) p) : LeastPot (netOf l) (membersOf l) (fl f) (Pk l f (membersOf l).length) := by
  obtain ⟨p0, h0⟩ := h
  have pot := res_pot e h0
  refine ⟨fun m hm => ?_, tight_of_res e fun a ha => ?_, fun q hq ht m hm => ?_⟩
  · have := Pk_walk e hm (membersOf l).length (c := []) (v := m) (fun a ha => by simp at ha) rfl (by simp)
    simpa [acost] using this
  · obtain ⟨s, c, k1, k2, k3, k4⟩ := Pk_is e (membersOf l).length (res_last e ha).2
    obtain ⟨c', q1, q2, q3, q4⟩ := shorten pot (l := a :: c) (v := a.last) (fun b hb => by
      rcases List.mem_cons.mp hb with q | q
      · rw [q]
        exact ha
      · exact k2 b q) ⟨rfl, k3⟩
    have hn := nodup_len q3 (fun x hx => rverts_sub k1 (fun b hb => (res_last e (q1 b hb)).1) x hx)
    rw [rverts_len] at hn
    have h3 := Pk_walk e k1 (membersOf l).length q1 q2 (by omega)
    have e1 : acost (a :: c) = acost c + a.cost := rfl
    rw [e1] at q4
    unfold Le2 at q4
    rw [k4]
    omega
  · obtain ⟨s, c, k1, k2, k3, k4⟩ := Pk_is e (membersOf l).length hm
    have := rchain_pot (res_pot e ht) k2 k3
    have h0 := hq s k1
    rw [k4]
    omega

/-- the potentials that are told, as a function of the member -/
def toldPot (l : List Trade) : Nat → Int := Pk l (Vbchad.someGreatest l) (membersOf l).length
theorem potentials_eq (l : List Trade) : Vbchad.potentials l = (membersOf l).map (toldPot l) := by
  have := raise_Pk l (Vbchad.someGreatest l) (membersOf l).length 0
  rw [Nat.zero_add] at this
  exact this
theorem potentialOf_told (l : List Trade) : potentialOf (membersOf l) (Vbchad.potentials l) = toldPot l := by
  rw [potentials_eq]
  exact pot_Pk l _ _
theorem toldPot_least (l : List Trade) : LeastPot (netOf l) (membersOf l) (fl (Vbchad.someGreatest l)) (toldPot l) := Pk_least (greatest_len l) (greatest_tight l).2
theorem worthOf_eq (l : List Trade) (i : Nat) : worthOf (membersOf l) (Vbchad.potentials l) (tr l i) = worth (netOf l) (toldPot l) i := by
  unfold worthOf
  rw [potentialOf_told]
  rfl
end Nw
end

section
/-! # The reduction that the specification tells is the lexicographic greatest -/
namespace Nw
open Vbchad (Trade Arc Way wayTo ways bestWay room rooms membersOf outOf into isReduction potentialOf worthOf)

/-- of the greatest total, and of these each number in turn as great as can be -/
structure LexMax (N : Net) (f : Nat → Int) : Prop where
  opt : Opt N f
  lex : ∀ g, Opt N g → ∀ i, i < N.n → (∀ j, j < i → g j = f j) → g i ≤ f i
theorem LexMax.unique {N : Net} {f g : Nat → Int} (hf : LexMax N f) (hg : LexMax N g) : ∀ i, i < N.n → f i = g i := by
  intro i
  induction i using Nat.strongRecOn with
  | ind i ih =>
    intro hi
    have h1 := hf.lex g hg.opt i hi (fun j hj => (ih j hj (by omega)).symm)
    have h2 := hg.lex f hf.opt i hi (fun j hj => ih j hj (by omega))
    omega

/-- the places before j are as great as can be -/
structure LexTo (N : Net) (p : Nat → Int) (j : Nat) (f : Nat → Int) : Prop where
  red : Red N f
  tight : Tight N f p
  lex : ∀ k, k < j → k < N.n → ∀ g, Red N g → Tight N g p → (∀ i, i < k → g i = f i) → g k ≤ f k
theorem LexTo.done {N : Net} {p f : Nat → Int} (h : LexTo N p N.n f) : LexMax N f :=
  ⟨opt_of_tight h.red h.tight, fun g hg i hi e => h.lex i hi hi g hg.1 (tight_of_opt h.red h.tight hg) e⟩
/-- a place that isn't free has the same number in all of the greatest total -/
theorem bound_place {N : Net} {p f g : Nat → Int} (hf : Red N f) (tf : Tight N f p) (hg : Red N g) (tg : Tight N g p) {i : Nat} (hi : i < N.n) (h : worth N p i ≠ 0) : g i = f i := by
  have a1 := tf i hi
  have a2 := tg i hi
  have b1 := hf.fits i hi
  have b2 := hg.fits i hi
  by_cases c1 : f i < N.r i
  · have := a1.1 c1
    by_cases c2 : 0 < f i
    · have := a1.2 c2
      omega
    · by_cases c3 : 0 < g i
      · have := a2.2 c3
        omega
      · omega
  · by_cases c2 : g i < N.r i
    · have := a2.1 c2
      by_cases c3 : 0 < f i
      · have := a1.2 c3
        omega
      · omega
    · omega
theorem LexTo.skip {N : Net} {p f : Nat → Int} {j : Nat} (h : LexTo N p j f) (w : worth N p j ≠ 0) : LexTo N p (j + 1) f :=
  ⟨h.red, h.tight, fun k hk hn g hg tg e => by
    by_cases c : k = j
    · subst c
      rw [bound_place h.red h.tight hg tg hn w]
      exact Int.le_refl _
    · exact h.lex k (by omega) hn g hg tg e⟩
/-- the place i can't be greater: at its room, or a set that holds its end, not its start, and that nothing free and left leaves -/
def Stuck (N : Net) (p f : Nat → Int) (i : Nat) : Prop := N.r i ≤ f i ∨ ∃ R : Nat → Bool, R (N.b i) = true ∧ R (N.a i) = false ∧
  ∀ j, i < j → j < N.n → worth N p j = 0 → (R (N.a j) = true → R (N.b j) = false → N.r j ≤ f j) ∧ (R (N.b j) = true → R (N.a j) = false → f j ≤ 0)
theorem stuck_le {N : Net} {p f g : Nat → Int} (hf : Red N f) (tf : Tight N f p) (hg : Red N g) (tg : Tight N g p) {i : Nat} (hi : i < N.n) (h : Stuck N p f i) (e : ∀ j, j < i → g j = f j) : g i ≤ f i := by
  rcases h with h | ⟨R, h1, h2, h3⟩
  · have := (hg.fits i hi).2
    omega
  · by_cases c : g i ≤ f i
    · exact c
    · exfalso
      have ev : ∀ m, net N (fun i => g i - f i) m = 0 := fun m => by rw [net_sub, hg.even, hf.even] <;> rfl
      have s0 := even_sum ev (fun m => ind (R m))
      have np : ∀ j, j < N.n → (ind (R (N.a j)) - ind (R (N.b j))) * (g j - f j) ≤ 0 := by
        intro j hj
        by_cases c1 : j < i
        · rw [e j c1]
          simp
        · by_cases c2 : j = i
          · subst c2
            rw [h1, h2, ind_true, ind_false]
            omega
          · by_cases w : worth N p j = 0
            · have h4 := h3 j (by omega) hj w
              have b1 := hf.fits j hj
              have b2 := hg.fits j hj
              cases ra : R (N.a j) <;> cases rb : R (N.b j)
              · simp
              · have := h4.2 rb ra
                rw [ind_true, ind_false]
                omega
              · have := h4.1 ra rb
                rw [ind_true, ind_false]
                omega
              · simp
            · rw [bound_place hf tf hg tg hj w]
              simp
      have each := sm_eq_each (n := N.n) (g := fun j => (ind (R (N.a j)) - ind (R (N.b j))) * (g j - f j)) (h := fun _ => 0) np (by
        rw [sm_zero (fun _ _ => rfl)]
        exact Int.le_of_eq s0.symm) i hi
      rw [h1, h2, ind_true, ind_false] at each
      omega
theorem LexTo.grow {N : Net} {p f f' : Nat → Int} {j : Nat} (h : LexTo N p j f) (hf : Red N f') (tf : Tight N f' p) (e : ∀ k, k < j → f' k = f k) (s : Stuck N p f' j) : LexTo N p (j + 1) f' :=
  ⟨hf, tf, fun k hk hn g hg tg eg => by
    by_cases c : k = j
    · subst c
      exact stuck_le hf tf hg tg hn s eg
    · rw [e k (by omega)]
      exact h.lex k (by omega) hn g hg tg (fun i hi => by rw [eg i hi, e i (by omega)])⟩

/-! ## The specification's growing -/
theorem free_arc {l : List Trade} {f : List Nat} (e : f.length = l.length) {ms : List Nat} {p : List Int} {i : Nat} {a : Arc} (h : a ∈ Vbchad.freeArcs l f ms p i) : ArcFits l f a ∧ i < a.place ∧ worthOf ms p (tr l a.place) = 0 ∧ a.cost = 0 := by
  unfold Vbchad.freeArcs at h
  obtain ⟨x, h1, h2⟩ := List.mem_flatMap.mp h
  obtain ⟨q1, q2⟩ := (mem_zipIdx e).mp h1
  obtain ⟨x1, j⟩ := x
  dsimp only at q1 q2 h2
  subst q2
  split at h2
  · simp at h2
  · rename_i hc
    dsimp only at hc
    have hw : worthOf ms p (tr l j) = 0 := by
      by_cases c : worthOf ms p (tr l j) = 0
      · exact c
      · exact absurd (Or.inr c) hc
    have hj : i < j := by omega
    rcases List.mem_append.mp h2 with c | c
    · split at c
      · rename_i lt
        have e2 := List.mem_singleton.mp c
        subst e2
        dsimp only at lt
        exact ⟨⟨q1, fun _ => ⟨rfl, rfl, (by dsimp only; omega), (by dsimp only; omega)⟩, fun f => by cases f⟩, hj, hw, rfl⟩
      · simp at c
    · split at c
      · rename_i lt
        have e2 := List.mem_singleton.mp c
        subst e2
        dsimp only at lt
        exact ⟨⟨q1, fun f => (by cases f), fun _ => ⟨rfl, rfl, rfl, lt⟩⟩, hj, hw, rfl⟩
      · simp at c
theorem free_along {l : List Trade} {f : List Nat} (e : f.length = l.length) {ms : List Nat} {p : List Int} {i j : Nat} (hi : i < j) (hj : j < l.length) (hw : worthOf ms p (tr l j) = 0) (h : f.getD j 0 < room (tr l j)) :
    (⟨j, true, (tr l j).from_, (tr l j).to, room (tr l j) - f.getD j 0, 0⟩ : Arc) ∈ Vbchad.freeArcs l f ms p i := by
  unfold Vbchad.freeArcs
  refine List.mem_flatMap.mpr ⟨((tr l j, f.getD j 0), j), (mem_zipIdx e).mpr ⟨hj, rfl⟩, ?_⟩
  dsimp only
  rw [if_neg (by rintro (c | c) <;> omega), if_pos h]
  simp
theorem free_back {l : List Trade} {f : List Nat} (e : f.length = l.length) {ms : List Nat} {p : List Int} {i j : Nat} (hi : i < j) (hj : j < l.length) (hw : worthOf ms p (tr l j) = 0) (h : 0 < f.getD j 0) :
    (⟨j, false, (tr l j).to, (tr l j).from_, f.getD j 0, 0⟩ : Arc) ∈ Vbchad.freeArcs l f ms p i := by
  unfold Vbchad.freeArcs
  refine List.mem_flatMap.mpr ⟨((tr l j, f.getD j 0), j), (mem_zipIdx e).mpr ⟨hj, rfl⟩, ?_⟩
  dsimp only
  rw [if_neg (by rintro (c | c) <;> omega), if_pos h]
  simp

theorem set_get {f : List Nat} {i v : Nat} (h : i < f.length) (j : Nat) : (f.set i v).getD j 0 = if j = i then v else f.getD j 0 := by
  rw [List.getD_eq_getElem?_getD, List.getElem?_set]
  by_cases c : i = j
  · subst c
    rw [if_pos rfl, if_pos h, if_pos rfl]
    rfl
  · rw [if_neg c, if_neg (fun e => c e.symm), List.getD_eq_getElem?_getD]

/-- what grown leaves -/
structure Grown (l : List Trade) (p : Nat → Int) (i : Nat) (f f' : List Nat) : Prop where
  len : f'.length = l.length
  red : Red (netOf l) (fl f')
  tight : Tight (netOf l) (fl f') p
  same : ∀ k, k < i → fl f' k = fl f k
  stuck : Stuck (netOf l) p (fl f') i

theorem grown_ok {l : List Trade} {p : List Int} {P : Nat → Int} (hP : potentialOf (membersOf l) p = P) {i : Nat} (hi : i < l.length) (hw : worth (netOf l) P i = 0) :
    ∀ (n : Nat) (f : List Nat), f.length = l.length → Red (netOf l) (fl f) → Tight (netOf l) (fl f) P → room (tr l i) < n + f.getD i 0 → Grown l P i f (Vbchad.grown l (membersOf l) p i (tr l i) n f)
  | 0, f, hf, hr, ht, hn => by
    have := fits_list.mp hr.fits i hi
    omega
  | n + 1, f, hf, hr, ht, hn => by
    have hwo : ∀ j, worthOf (membersOf l) p (tr l j) = worth (netOf l) P j := fun j => by
      unfold worthOf
      rw [hP]
      rfl
    have hfi := fits_list.mp hr.fits i hi
    by_cases c0 : room (tr l i) ≤ f.getD i 0
    · have eg : Vbchad.grown l (membersOf l) p i (tr l i) (n + 1) f = f := if_pos c0
      rw [eg]
      exact ⟨hf, hr, ht, fun _ _ => rfl, Or.inl (Int.ofNat_le.mpr c0)⟩
    · have hpot : Pot (Vbchad.freeArcs l f (membersOf l) p i) (fun _ => 0) := by
        intro a ha
        rw [(free_arc hf ha).2.2.2]
        exact Int.le_refl _
      have hlast : ∀ a, a ∈ Vbchad.freeArcs l f (membersOf l) p i → a.last ∈ membersOf l := by
        intro a ha
        have q1 := (free_arc hf ha).1
        cases e : a.along
        · rw [(q1.back e).2.1]
          exact a_mem q1.lt
        · rw [(q1.along e).2.1]
          exact b_mem q1.lt
      have B := ways_best (S := [(tr l i).to]) (ms := membersOf l) hpot (fun s hs => by
        rw [List.mem_singleton.mp hs]
        exact b_mem hi) hlast
      generalize hws : ways (Vbchad.freeArcs l f (membersOf l) p i) [(tr l i).to] (membersOf l).length = ws at B
      cases cw : wayTo ws (tr l i).from_ with
      | none =>
        have eg : Vbchad.grown l (membersOf l) p i (tr l i) (n + 1) f = f := by
          have : Vbchad.grown l (membersOf l) p i (tr l i) (n + 1) f = if room (tr l i) ≤ f.getD i 0 then f else match wayTo (ways (Vbchad.freeArcs l f (membersOf l) p i) [(tr l i).to] (membersOf l).length) (tr l i).from_ with
              | none => f
              | some w => Vbchad.grown l (membersOf l) p i (tr l i) n ((Vbchad.pushed f w.steps (Vbchad.least (room (tr l i) - f.getD i 0) (w.steps.map fun a => a.most))).set i (f.getD i 0 + Vbchad.least (room (tr l i) - f.getD i 0) (w.steps.map fun a => a.most))) := rfl
          rw [this, if_neg c0, hws, cw]
        rw [eg]
        refine ⟨hf, hr, ht, fun _ _ => rfl, Or.inr ⟨fun m => (wayTo ws m).isSome, ?_, ?_, ?_⟩⟩
        · obtain ⟨w, hw, _⟩ := B.start (tr l i).to (by simp)
          show (wayTo ws (tr l i).to).isSome = true
          rw [hw] <;> rfl
        · show (wayTo ws (tr l i).from_).isSome = false
          rw [cw] <;> rfl
        · intro j hj hjn wj
          rw [← hwo] at wj
          constructor
          · intro ra rb
            by_cases q : f.getD j 0 < room (tr l j)
            · obtain ⟨w, hw⟩ := Option.isSome_iff_exists.mp ra
              obtain ⟨w', h1, _⟩ := B.stable _ (free_along hf hj hjn wj q) w hw
              have rb' : (wayTo ws (tr l j).to).isSome = false := rb
              dsimp only at h1
              rw [h1] at rb'
              cases rb'
            · show (room (tr l j) : Int) ≤ ((f.getD j 0 : Nat) : Int)
              omega
          · intro rb ra
            by_cases q : 0 < f.getD j 0
            · obtain ⟨w, hw⟩ := Option.isSome_iff_exists.mp rb
              obtain ⟨w', h1, _⟩ := B.stable _ (free_back hf hj hjn wj q) w hw
              have ra' : (wayTo ws (tr l j).from_).isSome = false := ra
              dsimp only at h1
              rw [h1] at ra'
              cases ra'
            · show ((f.getD j 0 : Nat) : Int) ≤ 0
              omega
      | some w =>
        obtain ⟨s, hs, hchain, hin, htight⟩ := B.chain _ w cw
        have es := List.mem_singleton.mp hs
        subst es
        generalize hx : Vbchad.least (room (tr l i) - f.getD i 0) (w.steps.map fun a => a.most) = x
        have eg : Vbchad.grown l (membersOf l) p i (tr l i) (n + 1) f = Vbchad.grown l (membersOf l) p i (tr l i) n ((Vbchad.pushed f w.steps x).set i (f.getD i 0 + x)) := by
          have : Vbchad.grown l (membersOf l) p i (tr l i) (n + 1) f = if room (tr l i) ≤ f.getD i 0 then f else match wayTo (ways (Vbchad.freeArcs l f (membersOf l) p i) [(tr l i).to] (membersOf l).length) (tr l i).from_ with
              | none => f
              | some w => Vbchad.grown l (membersOf l) p i (tr l i) n ((Vbchad.pushed f w.steps (Vbchad.least (room (tr l i) - f.getD i 0) (w.steps.map fun a => a.most))).set i (f.getD i 0 + Vbchad.least (room (tr l i) - f.getD i 0) (w.steps.map fun a => a.most))) := rfl
          rw [this, if_neg c0, hws, cw]
          dsimp only
          rw [hx]
        rw [eg]
        have le := least_le (room (tr l i) - f.getD i 0) (w.steps.map fun a => a.most)
        rw [hx] at le
        have x3 : ∀ a, a ∈ w.steps → x ≤ a.most := fun a ha => le.2 _ (List.mem_map.mpr ⟨a, ha, rfl⟩)
        have x4 : 1 ≤ x := by
          rw [← hx]
          refine least_ge (by omega) fun y hy => ?_
          obtain ⟨a, ha, e2⟩ := List.mem_map.mp hy
          have := (free_arc hf (hin a ha)).1.pos
          omega
        obtain ⟨T, hT⟩ : ∃ T : Nat → Int, ∀ a, a ∈ w.steps → T a.last = T a.first + 1 := by
          refine ⟨fun m => match wayTo ws m with
            | some w => (w.steps.length : Int)
            | none => 0, fun a ha => ?_⟩
          obtain ⟨w1, w2, k1, k2, k3, k4⟩ := htight a ha
          dsimp only
          rw [k1, k2]
          dsimp only
          rw [k4]
          rfl
        obtain ⟨p1, p2, p3⟩ := push_ok (x := x) hf hr.fits (fun a ha => (free_arc hf (hin a ha)).1) hchain hT x3
        have plen : (Vbchad.pushed f w.steps x).length = l.length := by rw [pushed_len]; exact hf
        have off : ∀ j, (∀ a, a ∈ w.steps → a.place ≠ j) → j < l.length → fl (Vbchad.pushed f w.steps x) j = fl f j := by
          intro j hj hjl
          rw [p1 j hjl]
          unfold shifted
          rw [amt_notin, Int.mul_zero, Int.add_zero]
          intro q hq
          obtain ⟨a, ha, rfl⟩ := mem_stp.mp hq
          exact hj a ha
        have hge : ∀ j, j ≤ i → ∀ a, a ∈ w.steps → a.place ≠ j := fun j hj a ha => by
          have := (free_arc hf (hin a ha)).2.1
          omega
        have fi := off i (hge i (Nat.le_refl _)) hi
        have get : ∀ j, fl ((Vbchad.pushed f w.steps x).set i (f.getD i 0 + x)) j = fl (Vbchad.pushed f w.steps x) j + x * (if (⟨i, true⟩ : Stp).i = j then sgn ⟨i, true⟩ else 0) := by
          intro j
          have sg : sgn ⟨i, true⟩ = 1 := rfl
          rw [sg]
          dsimp only
          show (((((Vbchad.pushed f w.steps x).set i (f.getD i 0 + x))).getD j 0 : Nat) : Int) = _
          rw [set_get (by omega)]
          by_cases c : j = i
          · subst c
            rw [if_pos rfl, if_pos rfl, fi]
            unfold fl
            omega
          · rw [if_neg c, if_neg (fun e => c e.symm)]
            unfold fl
            omega
        have fits' : Fits (netOf l) (fl ((Vbchad.pushed f w.steps x).set i (f.getD i 0 + x))) := by
          refine fits_list.mpr fun j hj => ?_
          rw [set_get (by omega)]
          by_cases c : j = i
          · subst c
            rw [if_pos rfl]
            have := le.1
            omega
          · rw [if_neg c]
            exact fits_list.mp p2 j hj
        have red' : Red (netOf l) (fl ((Vbchad.pushed f w.steps x).set i (f.getD i 0 + x))) := by
          refine ⟨fits', fun m => ?_⟩
          rw [net_congr (N := netOf l) (g := fun j => fl (Vbchad.pushed f w.steps x) j + x * (if (⟨i, true⟩ : Stp).i = j then sgn ⟨i, true⟩ else 0)) (fun j _ => get j) m, net_add, net_mul, net_one _ _ hi, p3 m, hr.even m]
          have e1 : src (netOf l) ⟨i, true⟩ = (tr l i).from_ := rfl
          have e2 : dst (netOf l) ⟨i, true⟩ = (tr l i).to := rfl
          rw [e1, e2, Int.mul_sub, Int.mul_sub]
          omega
        have tight' : Tight (netOf l) (fl ((Vbchad.pushed f w.steps x).set i (f.getD i 0 + x))) P := by
          intro j hj
          by_cases c : worth (netOf l) P j = 0
          · rw [c]
            exact ⟨fun _ => Int.le_refl _, fun _ => Int.le_refl _⟩
          · have hne : i ≠ j := fun e => c (e ▸ hw)
            have : fl ((Vbchad.pushed f w.steps x).set i (f.getD i 0 + x)) j = fl f j := by
              rw [get j]
              dsimp only
              rw [if_neg hne, Int.mul_zero, Int.add_zero]
              refine off j (fun a ha e => c ?_) hj
              have := (free_arc hf (hin a ha)).2.2.1
              rw [hwo, e] at this
              exact this
            rw [this]
            exact ht j hj
        have lset : ((Vbchad.pushed f w.steps x).set i (f.getD i 0 + x)).length = l.length := by rw [List.length_set]; exact plen
        have ih := grown_ok hP hi hw n _ lset red' tight' (by
          rw [set_get (by omega), if_pos rfl]
          omega)
        refine ⟨ih.len, ih.red, ih.tight, fun k hk => ?_, ih.stuck⟩
        rw [ih.same k hk, get k]
        dsimp only
        rw [if_neg (by omega), Int.mul_zero, Int.add_zero]
        exact off k (hge k (by omega)) (by omega)

theorem drop_zipIdx {l : List Trade} {j : Nat} (h : j < l.length) : (l.drop j).zipIdx j = (tr l j, j) :: (l.drop (j + 1)).zipIdx (j + 1) := by
  rw [List.drop_eq_getElem_cons h, List.zipIdx_cons]
  congr 2
  unfold tr
  rw [List.getD_eq_getElem?_getD, List.getElem?_eq_getElem h]
  rfl
theorem toldFrom_ok {l : List Trade} {p : List Int} {P : Nat → Int} (hP : potentialOf (membersOf l) p = P) : ∀ (d j : Nat) (f : List Nat), j + d = l.length → f.length = l.length → LexTo (netOf l) P j (fl f) →
    (Vbchad.toldFrom l (membersOf l) p ((l.drop j).zipIdx j) f).length = l.length ∧ LexTo (netOf l) P l.length (fl (Vbchad.toldFrom l (membersOf l) p ((l.drop j).zipIdx j) f))
  | 0, j, f, e, hf, h => by
    have ej : j = l.length := by omega
    subst ej
    rw [List.drop_length]
    exact ⟨hf, h⟩
  | d + 1, j, f, e, hf, h => by
    have hj : j < l.length := by omega
    have hwo : worthOf (membersOf l) p (tr l j) = worth (netOf l) P j := by
      unfold worthOf
      rw [hP]
      rfl
    rw [drop_zipIdx hj]
    show (Vbchad.toldFrom l (membersOf l) p ((l.drop (j + 1)).zipIdx (j + 1)) (if worthOf (membersOf l) p (tr l j) = 0 then Vbchad.grown l (membersOf l) p j (tr l j) (room (tr l j) + 1) f else f)).length = l.length ∧ LexTo _ _ _ (fl (Vbchad.toldFrom l (membersOf l) p ((l.drop (j + 1)).zipIdx (j + 1)) (if worthOf (membersOf l) p (tr l j) = 0 then Vbchad.grown l (membersOf l) p j (tr l j) (room (tr l j) + 1) f else f)))
    by_cases c : worthOf (membersOf l) p (tr l j) = 0
    · rw [if_pos c]
      have G := grown_ok hP hj (by rw [← hwo]; exact c) (room (tr l j) + 1) f hf h.red h.tight (by omega)
      exact toldFrom_ok hP d (j + 1) _ (by omega) G.len (h.grow G.red G.tight G.same G.stuck)
    · rw [if_neg c]
      exact toldFrom_ok hP d (j + 1) f (by omega) hf (h.skip (by rw [← hwo]; exact c))
/-- **The reduction that's told.** -/
theorem told_lex (l : List Trade) : (Vbchad.told l).length = l.length ∧ LexMax (netOf l) (fl (Vbchad.told l)) := by
  have T := toldPot_least l
  have := toldFrom_ok (l := l) (potentialOf_told l) l.length 0 (Vbchad.someGreatest l) (by omega) (greatest_len l) ⟨(greatest_tight l).1, T.tight, fun k hk => by omega⟩
  rw [List.drop_zero] at this
  exact ⟨this.1, LexTo.done this.2⟩
end Nw
end

section
/-! # The program's own algorithm: shortest ways by labels, shifts along them. No program text here. -/
namespace Nw
open Vbchad (Trade room rooms membersOf isReduction)

/-! ## Numbers as a list of whole numbers -/
def gl (ns : List Int) (i : Nat) : Int := ns.getD i 0
theorem gl_set {ns : List Int} {i : Nat} {v : Int} (h : i < ns.length) (j : Nat) : gl (ns.set i v) j = if j = i then v else gl ns j := by
  unfold gl
  rw [List.getD_eq_getElem?_getD, List.getElem?_set]
  by_cases c : i = j
  · subst c
    rw [if_pos rfl, if_pos h, if_pos rfl]
    rfl
  · rw [if_neg c, if_neg (fun e => c e.symm), List.getD_eq_getElem?_getD]
theorem gl_get {ns : List Int} {i : Nat} (h : i < ns.length) : ns[i]? = some (gl ns i) := by
  unfold gl
  rw [List.getD_eq_getElem?_getD, List.getElem?_eq_getElem h]
  rfl
theorem gl_out {ns : List Int} {i : Nat} (h : ns.length ≤ i) : gl ns i = 0 := by
  unfold gl
  rw [List.getD_eq_getElem?_getD, List.getElem?_eq_none h]
  rfl
theorem gl_fl (f : List Nat) : gl (f.map fun (x : Nat) => (x : Int)) = fl f := by
  funext i
  unfold gl fl
  rw [List.getD_eq_getElem?_getD, List.getElem?_map, List.getD_eq_getElem?_getD]
  cases f[i]? <;> rfl

/-! ## Moves -/
/-- a move's length: 64 for each unit of the total that it costs, and one more -/
def len (q : Stp) : Int := if q.s = true then -63 else 65
theorem len_eq (q : Stp) : len q = 64 * cst (-1) q + 1 := by
  unfold len cst
  split <;> omega
/-- potentials that no move gains on -/
def Pos (N : Net) (mv : List Stp) (d : Nat → Int) : Prop := ∀ q, q ∈ mv → d (dst N q) ≤ d (src N q) + cst (-1) q
def fu {α : Type} (f : Nat → α) (m : Nat) (x : α) : Nat → α := fun k => if k = m then x else f k
theorem fu_same {α : Type} {f : Nat → α} {m : Nat} {x : α} : fu f m x m = x := if_pos rfl
theorem fu_ne {α : Type} {f : Nat → α} {m k : Nat} {x : α} (h : k ≠ m) : fu f m x k = f k := if_neg h
def addk (ks : List Nat) (m : Nat) : List Nat := if m ∈ ks then ks else ks ++ [m]
theorem mem_addk {ks : List Nat} {m k : Nat} : k ∈ addk ks m ↔ k = m ∨ k ∈ ks := by
  unfold addk
  split
  · rename_i h
    constructor
    · exact Or.inr
    · rintro (e | e)
      · rw [e]
        exact h
      · exact e
  · rw [List.mem_append, List.mem_singleton]
    constructor
    · rintro (e | e)
      · exact Or.inr e
      · exact Or.inl e
    · rintro (e | e)
      · exact Or.inr e
      · exact Or.inl e
theorem nodup_addk {ks : List Nat} {m : Nat} (h : ks.Nodup) : (addk ks m).Nodup := by
  unfold addk
  split
  · exact h
  · rename_i hn
    rw [List.nodup_append]
    refine ⟨h, by simp, fun a ha b hb e => ?_⟩
    rw [List.mem_singleton] at hb
    exact hn (by rw [← hb, ← e]; exact ha)
theorem addk_in {ks : List Nat} {m : Nat} (h : m ∈ ks) : addk ks m = ks := if_pos h
theorem addk_out {ks : List Nat} {m : Nat} (h : ¬ m ∈ ks) : addk ks m = ks ++ [m] := if_neg h
theorem len_addk {ks : List Nat} {m : Nat} : (addk ks m).length = if m ∈ ks then ks.length else ks.length + 1 := by
  unfold addk
  split
  · rfl
  · rw [List.length_append]
    rfl

/-- labels, last moves, whether something changed -/
structure Bf where
  ks : List Nat
  L : Nat → Int
  ps : List Nat
  P : Nat → Stp
  ch : Bool
def relax (N : Net) (t : Bf) (q : Stp) : Bf :=
  if src N q ∈ t.ks then
    if ¬ dst N q ∈ t.ks ∨ t.L (src N q) + len q < t.L (dst N q) then
      ⟨addk t.ks (dst N q), fu t.L (dst N q) (t.L (src N q) + len q), addk t.ps (dst N q), fu t.P (dst N q) q, true⟩
    else t
  else t
def StableAt (N : Net) (t : Bf) (q : Stp) : Prop := src N q ∈ t.ks → dst N q ∈ t.ks ∧ t.L (dst N q) ≤ t.L (src N q) + len q
/-- what holds all along -/
structure BfOk (N : Net) (ms : List Nat) (mv : List Stp) (S : List Nat) (d : Nat → Int) (c0 : Int) (t : Bf) : Prop where
  nd : t.ks.Nodup
  sub : ∀ m, m ∈ t.ks → m ∈ ms
  start : ∀ s, s ∈ S → s ∈ t.ks ∧ t.L s ≤ 0
  pred : ∀ m, m ∈ t.ps → t.P m ∈ mv ∧ dst N (t.P m) = m ∧ src N (t.P m) ∈ t.ks ∧ m ∈ t.ks ∧ t.L (src N (t.P m)) + len (t.P m) ≤ t.L m
  root : ∀ m, m ∈ t.ks → ¬ m ∈ t.ps → m ∈ S ∧ t.L m = 0
  low : ∀ m, m ∈ t.ks → 64 * d m + c0 ≤ t.L m
  up : ∀ m, m ∈ t.ks → t.L m + 65 ≤ 65 * t.ks.length
  ndp : t.ps.Nodup
/-- the labels with a top for what isn't reached -/
def lab (B : Int) (t : Bf) (m : Nat) : Int := if m ∈ t.ks then t.L m else B
def mu (ms : List Nat) (d : Nat → Int) (c0 B : Int) (t : Bf) : Nat := (ms.map fun m => (lab B t m - (64 * d m + c0)).toNat).sum
theorem sum_le_of : ∀ {ms : List Nat} {f g : Nat → Nat}, (∀ m, m ∈ ms → f m ≤ g m) → (ms.map f).sum ≤ (ms.map g).sum
  | [], _, _, _ => Nat.le_refl _
  | a :: ms, f, g, h => by
    rw [List.map_cons, List.map_cons, List.sum_cons, List.sum_cons]
    have h1 := h a (by simp)
    have h2 := sum_le_of (ms := ms) (f := f) (g := g) (fun m hm => h m (by simp [hm]))
    omega
theorem sum_lt_of : ∀ {ms : List Nat} {f g : Nat → Nat} {x : Nat}, (∀ m, m ∈ ms → f m ≤ g m) → x ∈ ms → f x < g x → (ms.map f).sum < (ms.map g).sum
  | [], _, _, _, _, hx, _ => by simp at hx
  | a :: ms, f, g, x, h, hx, hl => by
    rw [List.map_cons, List.map_cons, List.sum_cons, List.sum_cons]
    have h1 := h a (by simp)
    have h2 := sum_le_of (ms := ms) (f := f) (g := g) (fun m hm => h m (by simp [hm]))
    rcases List.mem_cons.mp hx with e | e
    · subst e
      omega
    · have := sum_lt_of (ms := ms) (f := f) (g := g) (fun m hm => h m (by simp [hm])) e hl
      omega
section
variable {N : Net} {ms : List Nat} {mv : List Stp} {S : List Nat} {d : Nat → Int} {c0 : Int}
theorem relax_out {t : Bf} {q : Stp} (h : ¬ src N q ∈ t.ks) : relax N t q = t := if_neg h
theorem relax_keep {t : Bf} {q : Stp} (h : src N q ∈ t.ks) (h2 : dst N q ∈ t.ks) (h3 : ¬ t.L (src N q) + len q < t.L (dst N q)) : relax N t q = t := by
  unfold relax
  rw [if_pos h, if_neg]
  rintro (c | c)
  · exact c h2
  · exact h3 c
theorem relax_set {t : Bf} {q : Stp} (h : src N q ∈ t.ks) (h2 : ¬ dst N q ∈ t.ks ∨ t.L (src N q) + len q < t.L (dst N q)) :
    relax N t q = ⟨addk t.ks (dst N q), fu t.L (dst N q) (t.L (src N q) + len q), addk t.ps (dst N q), fu t.P (dst N q) q, true⟩ := by
  unfold relax
  rw [if_pos h, if_pos h2]
/-- a move tried: nothing changes and it is stable, or a label falls -/
theorem relax_ok (hp : Pos N mv d) (hm : ∀ q, q ∈ mv → dst N q ∈ ms) {t : Bf} {q : Stp} (hq : q ∈ mv) (h : BfOk N ms mv S d c0 t) :
    (relax N t q = t ∧ StableAt N t q) ∨ ((relax N t q).ch = true ∧ BfOk N ms mv S d c0 (relax N t q) ∧ mu ms d c0 (65 * ms.length) (relax N t q) < mu ms d c0 (65 * ms.length) t) := by
  by_cases c1 : src N q ∈ t.ks
  · by_cases c2 : ¬ dst N q ∈ t.ks ∨ t.L (src N q) + len q < t.L (dst N q)
    · refine Or.inr ?_
      have hpos := hp q hq
      have hlen := len_eq q
      have hlow := h.low _ c1
      have hne : src N q ≠ dst N q := by
        intro e
        rw [e] at c1 hpos c2 hlow
        rcases c2 with c | c
        · exact c c1
        · omega
      rw [relax_set c1 c2]
      refine ⟨rfl, ?_, ?_⟩
      · refine ⟨nodup_addk h.nd, fun m hmm => ?_, fun s hs => ?_, fun m hmm => ?_, fun m hmm hn => ?_, fun m hmm => ?_, fun m hmm => ?_, nodup_addk h.ndp⟩
        · rcases mem_addk.mp hmm with e | e
          · rw [e]
            exact hm q hq
          · exact h.sub m e
        · have hst := h.start s hs
          refine ⟨mem_addk.mpr (Or.inr hst.1), ?_⟩
          by_cases e : s = dst N q
          · subst e
            show fu t.L (dst N q) _ (dst N q) ≤ 0
            rw [fu_same]
            rcases c2 with c | c
            · exact absurd hst.1 c
            · omega
          · show fu t.L (dst N q) _ s ≤ 0
            rw [fu_ne e]
            exact hst.2
        · dsimp only
          by_cases e : m = dst N q
          · subst e
            rw [fu_same, fu_same, fu_ne hne]
            exact ⟨hq, rfl, mem_addk.mpr (Or.inr c1), mem_addk.mpr (Or.inl rfl), Int.le_refl _⟩
          · rw [fu_ne e, fu_ne e]
            have hmm' : m ∈ t.ps := (mem_addk.mp hmm).resolve_left e
            obtain ⟨a1, a2, a3, a4, a5⟩ := h.pred m hmm'
            refine ⟨a1, a2, mem_addk.mpr (Or.inr a3), mem_addk.mpr (Or.inr a4), ?_⟩
            by_cases e2 : src N (t.P m) = dst N q
            · rw [e2, fu_same]
              rw [e2] at a5 a3
              rcases c2 with c | c
              · exact absurd a3 c
              · omega
            · rw [fu_ne e2]
              exact a5
        · have e : m ≠ dst N q := fun e => hn (mem_addk.mpr (Or.inl e))
          show m ∈ S ∧ fu t.L (dst N q) _ m = 0
          rw [fu_ne e]
          exact h.root m ((mem_addk.mp hmm).resolve_left e) fun c => hn (mem_addk.mpr (Or.inr c))
        · show 64 * d m + c0 ≤ fu t.L (dst N q) _ m
          by_cases e : m = dst N q
          · subst e
            rw [fu_same]
            omega
          · rw [fu_ne e]
            exact h.low m ((mem_addk.mp hmm).resolve_left e)
        · show fu t.L (dst N q) _ m + 65 ≤ 65 * ((addk t.ks (dst N q)).length : Nat)
          have hup := h.up _ c1
          have hle : len q ≤ 65 := by
            unfold len
            split <;> omega
          rw [len_addk]
          by_cases e : m = dst N q
          · subst e
            rw [fu_same]
            split
            · rename_i hin
              have := h.up _ hin
              rcases c2 with c | c
              · exact absurd hin c
              · omega
            · omega
          · rw [fu_ne e]
            have := h.up m ((mem_addk.mp hmm).resolve_left e)
            split <;> omega
      · have hB : ∀ m, m ∈ t.ks → t.L m + 65 ≤ 65 * ms.length := fun m hmm => by
          have h1 := h.up m hmm
          have h2 := nodup_len h.nd h.sub
          omega
        have hin := hm q hq
        have key : lab (65 * ms.length) ⟨addk t.ks (dst N q), fu t.L (dst N q) (t.L (src N q) + len q), addk t.ps (dst N q), fu t.P (dst N q) q, true⟩ (dst N q) = t.L (src N q) + len q := by
          unfold lab
          dsimp only
          rw [if_pos (mem_addk.mpr (Or.inl rfl)), fu_same]
        have lt : t.L (src N q) + len q < lab (65 * ms.length) t (dst N q) := by
          unfold lab
          have := hB _ c1
          have hle : len q ≤ 65 := by
            unfold len
            split <;> omega
          split
          · rename_i hi
            rcases c2 with c | c
            · exact absurd hi c
            · exact c
          · have h1 := h.up _ c1
            have h2 : (t.ks ++ [dst N q]).length ≤ ms.length := by
              rename_i hi
              have hnd := nodup_addk (m := dst N q) h.nd
              rw [addk_out hi] at hnd
              refine nodup_len hnd fun x hx => ?_
              rcases List.mem_append.mp hx with c | c
              · exact h.sub x c
              · rw [List.mem_singleton.mp c]
                exact hin
            rw [List.length_append] at h2
            have h3 : [dst N q].length = 1 := rfl
            omega
        refine sum_lt_of (x := dst N q) (fun m hmm => ?_) hin ?_
        · by_cases e : m = dst N q
          · subst e
            rw [key]
            omega
          · have e2 : lab (65 * ms.length) ⟨addk t.ks (dst N q), fu t.L (dst N q) (t.L (src N q) + len q), addk t.ps (dst N q), fu t.P (dst N q) q, true⟩ m = lab (65 * ms.length) t m := by
              unfold lab
              dsimp only
              rw [fu_ne e]
              by_cases c : m ∈ t.ks
              · rw [if_pos c, if_pos (mem_addk.mpr (Or.inr c))]
              · rw [if_neg c, if_neg fun z => ((mem_addk.mp z).elim e c)]
            rw [e2]
            exact Nat.le_refl _
        · rw [key]
          have := h.low _ c1
          omega
    · refine Or.inl ⟨relax_keep c1 ?_ fun c => c2 (Or.inr c), fun _ => ⟨?_, ?_⟩⟩
      · by_cases c : dst N q ∈ t.ks
        · exact c
        · exact absurd (Or.inl c) c2
      · by_cases c : dst N q ∈ t.ks
        · exact c
        · exact absurd (Or.inl c) c2
      · by_cases c : t.L (dst N q) ≤ t.L (src N q) + len q
        · exact c
        · exact absurd (Or.inr (by omega)) c2
  · exact Or.inl ⟨relax_out c1, fun c => absurd c c1⟩
theorem relax_ch {t : Bf} {q : Stp} (h : t.ch = true) : (relax N t q).ch = true := by
  unfold relax
  split
  · split
    · rfl
    · exact h
  · exact h
theorem fold_ch : ∀ {l : List Stp} {t : Bf}, t.ch = true → (l.foldl (relax N) t).ch = true
  | [], _, h => h
  | q :: l, t, h => fold_ch (l := l) (relax_ch h)
/-- a pass over some of the moves -/
theorem pass_ok (hp : Pos N mv d) (hm : ∀ q, q ∈ mv → dst N q ∈ ms) : ∀ {l : List Stp} {t : Bf}, (∀ q, q ∈ l → q ∈ mv) → BfOk N ms mv S d c0 t →
    BfOk N ms mv S d c0 (l.foldl (relax N) t) ∧ ((l.foldl (relax N) t = t ∧ ∀ q, q ∈ l → StableAt N t q) ∨ ((l.foldl (relax N) t).ch = true ∧ mu ms d c0 (65 * ms.length) (l.foldl (relax N) t) < mu ms d c0 (65 * ms.length) t))
  | [], t, _, h => ⟨h, Or.inl ⟨rfl, fun q hq => by simp at hq⟩⟩
  | q :: l, t, hl, h => by
    rw [List.foldl_cons]
    rcases relax_ok hp hm (hl q (by simp)) h with ⟨e, st⟩ | ⟨e1, e2, e3⟩
    · rw [e]
      obtain ⟨a, b⟩ := pass_ok hp hm (l := l) (t := t) (fun x hx => hl x (by simp [hx])) h
      refine ⟨a, ?_⟩
      rcases b with ⟨b1, b2⟩ | b
      · refine Or.inl ⟨b1, fun x hx => ?_⟩
        rcases List.mem_cons.mp hx with c | c
        · rw [c]
          exact st
        · exact b2 x c
      · exact Or.inr b
    · obtain ⟨a, b⟩ := pass_ok hp hm (l := l) (t := relax N t q) (fun x hx => hl x (by simp [hx])) e2
      refine ⟨a, Or.inr ⟨fold_ch e1, ?_⟩⟩
      rcases b with ⟨b1, _⟩ | ⟨_, b2⟩
      · rw [b1]
        exact e3
      · omega
/-- the start -/
def bf0 (S : List Nat) : Bf := ⟨S.foldl addk [], fun _ => 0, [], fun _ => ⟨0, true⟩, true⟩
theorem mem_foldk : ∀ {S ks : List Nat} {m : Nat}, m ∈ S.foldl addk ks ↔ m ∈ ks ∨ m ∈ S
  | [], ks, m => by simp
  | a :: S, ks, m => by
    rw [List.foldl_cons, mem_foldk, mem_addk, List.mem_cons]
    constructor
    · rintro ((h | h) | h)
      · exact Or.inr (Or.inl h)
      · exact Or.inl h
      · exact Or.inr (Or.inr h)
    · rintro (h | h | h)
      · exact Or.inl (Or.inr h)
      · exact Or.inl (Or.inl h)
      · exact Or.inr h
theorem nodup_foldk : ∀ {S ks : List Nat}, ks.Nodup → (S.foldl addk ks).Nodup
  | [], _, h => h
  | _ :: S, _, h => nodup_foldk (S := S) (nodup_addk h)
theorem exists_belowL : ∀ (l : List Nat) (g : Nat → Int), ∃ c, ∀ s, s ∈ l → c ≤ g s
  | [], _ => ⟨0, fun s hs => by simp at hs⟩
  | a :: l, g => by
    obtain ⟨c, h⟩ := exists_belowL l g
    refine ⟨min c (g a), fun s hs => ?_⟩
    rcases List.mem_cons.mp hs with e | e
    · rw [e]
      omega
    · have := h s e
      omega
theorem bf0_ok (hS : ∀ s, s ∈ S → s ∈ ms) (hc : ∀ s, s ∈ S → c0 ≤ -(64 * d s)) : BfOk N ms mv S d c0 (bf0 S) := by
  have hk : ∀ m, m ∈ (bf0 S).ks → m ∈ S := fun m hm => by
    rcases mem_foldk.mp hm with e | e
    · simp at e
    · exact e
  refine ⟨nodup_foldk (by simp), fun m hm => hS m (hk m hm), fun s hs => ⟨mem_foldk.mpr (Or.inr hs), Int.le_refl _⟩, fun m hm => by simp [bf0] at hm, fun m hm _ => ⟨hk m hm, rfl⟩, fun m hm => ?_, fun m hm => ?_, by simp [bf0]⟩
  · show 64 * d m + c0 ≤ 0
    have := hc m (hk m hm)
    omega
  · show (0 : Int) + 65 ≤ 65 * ((bf0 S).ks.length : Nat)
    have := List.length_pos_of_mem hm
    omega

/-! ## What shortest ways are -/
structure Short (N : Net) (ms : List Nat) (mv : List Stp) (S : List Nat) (t : Bf) : Prop where
  nd : t.ks.Nodup
  ndp : t.ps.Nodup
  sub : ∀ m, m ∈ t.ks → m ∈ ms
  start : ∀ s, s ∈ S → s ∈ t.ks ∧ t.L s ≤ 0
  stable : ∀ q, q ∈ mv → StableAt N t q
  pred : ∀ m, m ∈ t.ps → t.P m ∈ mv ∧ dst N (t.P m) = m ∧ src N (t.P m) ∈ t.ks ∧ m ∈ t.ks ∧ t.L m = t.L (src N (t.P m)) + len (t.P m)
  root : ∀ m, m ∈ t.ks → ¬ m ∈ t.ps → m ∈ S ∧ t.L m = 0
theorem BfOk.short {t : Bf} (h : BfOk N ms mv S d c0 t) (hs : ∀ q, q ∈ mv → StableAt N t q) : Short N ms mv S t :=
  ⟨h.nd, h.ndp, h.sub, h.start, hs, fun m hm => by
    obtain ⟨a1, a2, a3, a4, a5⟩ := h.pred m hm
    refine ⟨a1, a2, a3, a4, ?_⟩
    have := (hs _ a1 a3).2
    rw [a2] at this
    omega, h.root⟩

/-- a way: a chain of tight moves from a start -/
structure WayOk (N : Net) (mv : List Stp) (S : List Nat) (t : Bf) (l : List Stp) (s m : Nat) : Prop where
  chain : Chain N s l m
  inn : ∀ q, q ∈ l → q ∈ mv ∧ src N q ∈ t.ks ∧ dst N q ∈ t.ks ∧ t.L (dst N q) = t.L (src N q) + len q
  root : s ∈ S ∧ t.L s = 0
theorem WayOk.ne {t : Bf} {l : List Stp} {s m : Nat} (w : WayOk N mv S t l s m) (h : ¬ m ∈ S) : l ≠ [] := fun e => by
  have c := w.chain
  rw [e] at c
  have c' : s = m := c
  rw [c'] at w
  exact h w.root.1
/-- one move more at the front -/
theorem phi_lt (hp : Pos N mv d) {t : Bf} (h : Short N ms mv S t) {m : Nat} (hm : m ∈ t.ps) : t.L (src N (t.P m)) - 64 * d (src N (t.P m)) < t.L m - 64 * d m := by
  obtain ⟨a1, a2, a3, a4, a5⟩ := h.pred m hm
  have := hp _ a1
  rw [a2] at this
  have := len_eq (t.P m)
  omega
theorem low_all {t : Bf} (d : Nat → Int) : ∃ c, ∀ m, m ∈ t.ks → c ≤ t.L m - 64 * d m := exists_belowL t.ks _
theorem way_exists (hp : Pos N mv d) {t : Bf} (h : Short N ms mv S t) (c : Int) (hc : ∀ m, m ∈ t.ks → c ≤ t.L m - 64 * d m) : ∀ (n : Nat) (m : Nat), m ∈ t.ks → t.L m - 64 * d m - c < n → ∃ s l, WayOk N mv S t l s m
  | 0, m, hm, hn => by
    have := hc m hm
    omega
  | n + 1, m, hm, hn => by
    by_cases k : m ∈ t.ps
    · have hl := phi_lt hp h k
      obtain ⟨a1, a2, a3, a4, a5⟩ := h.pred m k
      obtain ⟨s, l, w⟩ := way_exists hp h c hc n (src N (t.P m)) a3 (by omega)
      refine ⟨s, l ++ [t.P m], chain_append w.chain ⟨rfl, a2⟩, fun q hq => ?_, w.root⟩
      rcases List.mem_append.mp hq with e | e
      · exact w.inn q e
      · rw [List.mem_singleton.mp e, a2]
        exact ⟨a1, a3, a4, a5⟩
    · have hr := h.root m hm k
      exact ⟨m, [], rfl, fun q hq => by simp at hq, hr⟩
/-! chains along which something grows -/
theorem grow_all {T : Nat → Int} : ∀ {l : List Stp} {u v : Nat}, Chain N u l v → (∀ q, q ∈ l → T (src N q) < T (dst N q)) → ∀ q, q ∈ l → T u ≤ T (src N q)
  | [], _, _, _, _, q, hq => by simp at hq
  | a :: l, u, v, h, k, q, hq => by
    have e := k a (by simp)
    rw [h.1] at e
    rcases List.mem_cons.mp hq with c | c
    · rw [c, h.1]
      omega
    · have := grow_all h.2 (fun q hq => k q (by simp [hq])) q c
      omega
theorem nodup_of_grow {T : Nat → Int} : ∀ {l : List Stp} {u v : Nat}, Chain N u l v → (∀ q, q ∈ l → T (src N q) < T (dst N q)) → (l.map (·.i)).Nodup
  | [], _, _, _, _ => by simp
  | a :: l, u, v, h, k => by
    rw [List.map_cons, List.nodup_cons]
    refine ⟨fun hin => ?_, nodup_of_grow h.2 (fun q hq => k q (by simp [hq]))⟩
    obtain ⟨q, hq, e⟩ := List.mem_map.mp hin
    have up := grow_all h.2 (fun q hq => k q (by simp [hq])) q hq
    have ka := k a (by simp)
    have kq := k q (by simp [hq])
    obtain ⟨i, s⟩ := a
    obtain ⟨j, s'⟩ := q
    dsimp only at e
    subst e
    cases s <;> cases s' <;> simp only [src, dst, if_true, if_false, Bool.false_eq_true] at up ka kq <;> omega
theorem verts_ge {T : Nat → Int} : ∀ {l : List Stp} {u v : Nat}, Chain N u l v → (∀ q, q ∈ l → T (src N q) < T (dst N q)) → ∀ x, x ∈ verts N u l → T u ≤ T x
  | [], u, _, _, _, x, hx => by
    have e : x = u := by simpa [verts] using hx
    rw [e]
    exact Int.le_refl _
  | a :: l, u, v, h, k, x, hx => by
    have e := k a (by simp)
    rw [h.1] at e
    rcases List.mem_cons.mp hx with c | c
    · rw [c]
      exact Int.le_refl _
    · have := verts_ge h.2 (fun q hq => k q (by simp [hq])) x c
      omega
theorem verts_nodup_grow {T : Nat → Int} : ∀ {l : List Stp} {u v : Nat}, Chain N u l v → (∀ q, q ∈ l → T (src N q) < T (dst N q)) → (verts N u l).Nodup
  | [], _, _, _, _ => by simp [verts]
  | a :: l, u, v, h, k => by
    show (u :: verts N (dst N a) l).Nodup
    rw [List.nodup_cons]
    have e := k a (by simp)
    rw [h.1] at e
    refine ⟨fun hin => ?_, verts_nodup_grow h.2 (fun q hq => k q (by simp [hq]))⟩
    have := verts_ge h.2 (fun q hq => k q (by simp [hq])) u hin
    omega
theorem WayOk.grow (hp : Pos N mv d) {t : Bf} {l : List Stp} {s m : Nat} (w : WayOk N mv S t l s m) : ∀ q, q ∈ l → t.L (src N q) - 64 * d (src N q) < t.L (dst N q) - 64 * d (dst N q) := fun q hq => by
  obtain ⟨a1, a2, a3, a4⟩ := w.inn q hq
  have := hp q a1
  have := len_eq q
  omega
theorem WayOk.nodup (hp : Pos N mv d) {t : Bf} {l : List Stp} {s m : Nat} (w : WayOk N mv S t l s m) : (l.map (·.i)).Nodup :=
  nodup_of_grow (T := fun m => t.L m - 64 * d m) w.chain (w.grow hp)
theorem WayOk.len (hp : Pos N mv d) {t : Bf} (h : Short N ms mv S t) {l : List Stp} {s m : Nat} (w : WayOk N mv S t l s m) (hs : s ∈ ms) : l.length + 1 ≤ ms.length := by
  have := nodup_len (verts_nodup_grow (T := fun m => t.L m - 64 * d m) w.chain (w.grow hp)) (verts_sub hs fun q hq => h.sub _ (w.inn q hq).2.2.1)
  rw [verts_len] at this
  exact this
theorem chain_label {t : Bf} : ∀ {l : List Stp} {u v : Nat}, Chain N u l v → (∀ q, q ∈ l → t.L (dst N q) = t.L (src N q) + Nw.len q) → ∃ c : Int, t.L v = t.L u + (64 * c + l.length)
  | [], u, v, h, _ => by
    have e : u = v := h
    subst e
    refine ⟨0, ?_⟩
    show t.L u = t.L u + (64 * 0 + (0 : Nat))
    omega
  | a :: l, u, v, h, k => by
    obtain ⟨c, e⟩ := chain_label h.2 (fun q hq => k q (by simp [hq]))
    have e2 := k a (by simp)
    have e3 := len_eq a
    rw [h.1] at e2
    refine ⟨c + cst (-1) a, ?_⟩
    rw [e, e2, e3, List.length_cons]
    push_cast
    omega
/-- a label's rest by 64 is small: as many as the moves of a way -/
theorem label_mod (hp : Pos N mv d) {t : Bf} (h : Short N ms mv S t) (h12 : ms.length ≤ 12) {m : Nat} (hm : m ∈ t.ks) : t.L m % 64 ≤ 11 := by
  obtain ⟨c, hc⟩ := low_all (t := t) d
  obtain ⟨s, l, w⟩ := way_exists hp h c hc (t.L m - 64 * d m - c + 1).toNat m hm (by have := hc m hm; omega)
  have hs := h.sub s (h.start s w.root.1).1
  have hl := w.len hp h hs
  obtain ⟨k, e⟩ := chain_label w.chain fun q hq => (w.inn q hq).2.2.2
  rw [w.root.2] at e
  omega
/-- what a way to m costs the total -/
def dist (t : Bf) (m : Nat) : Int := t.L m / 64
theorem dist_stable (hp : Pos N mv d) {t : Bf} (h : Short N ms mv S t) (h12 : ms.length ≤ 12) {q : Stp} (hq : q ∈ mv) (hs : src N q ∈ t.ks) : dst N q ∈ t.ks ∧ dist t (dst N q) ≤ dist t (src N q) + cst (-1) q := by
  obtain ⟨a, b⟩ := h.stable q hq hs
  refine ⟨a, ?_⟩
  have m1 := label_mod hp h h12 hs
  have m2 := label_mod hp h h12 a
  have := len_eq q
  unfold dist
  omega
theorem dist_tight (hp : Pos N mv d) {t : Bf} (h : Short N ms mv S t) (h12 : ms.length ≤ 12) {q : Stp} (hs : src N q ∈ t.ks) (hd : dst N q ∈ t.ks) (e : t.L (dst N q) = t.L (src N q) + len q) : dist t (dst N q) = dist t (src N q) + cst (-1) q := by
  have m1 := label_mod hp h h12 hs
  have m2 := label_mod hp h h12 hd
  have := len_eq q
  unfold dist
  omega
end
end Nw
end

section
/-! # The program's own algorithm, round by round. No program text here. -/
namespace Nw
open Vbchad (Trade room rooms membersOf isReduction)

/-! ## Moves that are left -/
def movesOf (N : Net) (f : Nat → Int) (places : List Nat) : List Stp :=
  places.flatMap fun i => (if f i < N.r i then [⟨i, true⟩] else []) ++ (if 0 < f i then [⟨i, false⟩] else [])
theorem mem_moves {N : Net} {f : Nat → Int} {places : List Nat} {q : Stp} : q ∈ movesOf N f places ↔ q.i ∈ places ∧ ((q.s = true ∧ f q.i < N.r q.i) ∨ (q.s = false ∧ 0 < f q.i)) := by
  unfold movesOf
  rw [List.mem_flatMap]
  obtain ⟨j, s⟩ := q
  constructor
  · rintro ⟨i, hi, hq⟩
    rcases List.mem_append.mp hq with c | c
    · split at c
      · rename_i lt
        have e := List.mem_singleton.mp c
        injection e with e1 e2
        subst e1 e2
        exact ⟨hi, Or.inl ⟨rfl, lt⟩⟩
      · simp at c
    · split at c
      · rename_i lt
        have e := List.mem_singleton.mp c
        injection e with e1 e2
        subst e1 e2
        exact ⟨hi, Or.inr ⟨rfl, lt⟩⟩
      · simp at c
  · rintro ⟨hi, h⟩
    refine ⟨j, hi, List.mem_append.mpr ?_⟩
    dsimp only at h
    rcases h with ⟨e, lt⟩ | ⟨e, lt⟩
    · subst e
      exact Or.inl (by rw [if_pos lt]; simp)
    · subst e
      exact Or.inr (by rw [if_pos lt]; simp)
theorem cap_pos {N : Net} {f : Nat → Int} {places : List Nat} {q : Stp} (h : q ∈ movesOf N f places) : 1 ≤ cap N f q := by
  obtain ⟨_, c⟩ := mem_moves.mp h
  unfold cap
  rcases c with ⟨e, lt⟩ | ⟨e, lt⟩
  · rw [if_pos e]
    omega
  · rw [if_neg (by rw [e]; simp)]
    omega
theorem pos_of_feas {N : Net} {f d : Nat → Int} {places : List Nat} (hd : Feas N (-1) f d) (hp : ∀ i, i ∈ places → i < N.n) : Pos N (movesOf N f places) d := fun q hq => by
  obtain ⟨hi, c⟩ := mem_moves.mp hq
  have := hd q.i (hp _ hi)
  unfold src dst cst
  rcases c with ⟨e, lt⟩ | ⟨e, lt⟩
  · rw [if_pos e, if_pos e, if_pos e]
    exact this.1 lt
  · have ne : ¬ q.s = true := by rw [e]; simp
    rw [if_neg ne, if_neg ne, if_neg ne]
    have := this.2 lt
    omega
theorem moves_dst {l : List Trade} {f : Nat → Int} {places : List Nat} (hp : ∀ i, i ∈ places → i < l.length) {q : Stp} (h : q ∈ movesOf (netOf l) f places) : src (netOf l) q ∈ membersOf l ∧ dst (netOf l) q ∈ membersOf l := by
  obtain ⟨hi, _⟩ := mem_moves.mp h
  have hl := hp _ hi
  unfold src dst
  split
  · exact ⟨a_mem hl, b_mem hl⟩
  · exact ⟨b_mem hl, a_mem hl⟩

/-! ## Shifting along a way -/
theorem way_fits {N : Net} {f d : Nat → Int} {mv : List Stp} {S : List Nat} {t : Bf} {w : List Stp} {s m : Nat} {x : Int} (hp : Pos N mv d) (hf : Fits N f) (h : WayOk N mv S t w s m) (h0 : 0 ≤ x) (hx : ∀ q, q ∈ w → x ≤ cap N f q) : Fits N (shifted f w x) :=
  fits_shifted hf (h.nodup hp) h0 hx
theorem way_net {N : Net} {f : Nat → Int} {mv : List Stp} {S : List Nat} {t : Bf} {w : List Stp} {s e : Nat} {x : Int} (hn : ∀ q, q ∈ mv → q.i < N.n) (h : WayOk N mv S t w s e) (m : Nat) : net N (shifted f w x) m = net N f m + x * (ind (s == m) - ind (e == m)) :=
  net_shifted (fun q hq => hn q (h.inn q hq).1) h.chain m

/-! ## Evening out -/
/-- what a member has too much: the numbers of the trades to it less those of the trades from it -/
def over (N : Net) (f : Nat → Int) (m : Nat) : Int := - net N f m
theorem over_outside {l : List Trade} {f : Nat → Int} {m : Nat} (h : ¬ m ∈ membersOf l) : over (netOf l) f m = 0 := by
  unfold over
  rw [net_outside h]
  rfl
structure EvOk (l : List Trade) (f : Nat → Int) : Prop where
  fits : Fits (netOf l) f
  feas : ∃ d, Feas (netOf l) (-1) f d
theorem ev_start (l : List Trade) : EvOk l (netOf l).r := by
  refine ⟨fun i _ => ⟨Int.natCast_nonneg _, Int.le_refl _⟩, fun _ => 0, fun i _ => ⟨fun h => absurd h (Int.lt_irrefl _), fun _ => ?_⟩⟩
  show (0 : Int) + (-1) ≤ 0
  omega
section
variable {l : List Trade} {f : Nat → Int} {t : Bf} {S : List Nat}
abbrev allMoves (l : List Trade) (f : Nat → Int) : List Stp := movesOf (netOf l) f (List.range l.length)
theorem all_lt {l : List Trade} : ∀ i, i ∈ List.range l.length → i < l.length := fun _ h => List.mem_range.mp h
theorem mem_all {l : List Trade} {f : Nat → Int} {q : Stp} : q ∈ allMoves l f ↔ q.i < l.length ∧ ((q.s = true ∧ f q.i < (netOf l).r q.i) ∨ (q.s = false ∧ 0 < f q.i)) := by
  rw [mem_moves, List.mem_range]
theorem along_closed (h : Short (netOf l) (membersOf l) (allMoves l f) S t) {i : Nat} (hi : i < l.length) (lt : f i < (netOf l).r i) (ha : (netOf l).a i ∈ t.ks) : (netOf l).b i ∈ t.ks :=
  (h.stable ⟨i, true⟩ (mem_all.mpr ⟨hi, Or.inl ⟨rfl, lt⟩⟩) ha).1
theorem back_closed (h : Short (netOf l) (membersOf l) (allMoves l f) S t) {i : Nat} (hi : i < l.length) (lt : 0 < f i) (hb : (netOf l).b i ∈ t.ks) : (netOf l).a i ∈ t.ks :=
  (h.stable ⟨i, false⟩ (mem_all.mpr ⟨hi, Or.inr ⟨rfl, lt⟩⟩) hb).1
/-- while someone has too much, someone who lacks is reached -/
theorem even_end (hf : EvOk l f) (h : Short (netOf l) (membersOf l) (allMoves l f) S t) (hS : ∀ m, m ∈ S ↔ m ∈ membersOf l ∧ 0 < over (netOf l) f m) (hne : ∃ s, s ∈ S) : ∃ e, e ∈ membersOf l ∧ over (netOf l) f e < 0 ∧ e ∈ t.ks := by
  by_cases c : ∃ e, e ∈ membersOf l ∧ over (netOf l) f e < 0 ∧ e ∈ t.ks
  · exact c
  · exfalso
    obtain ⟨s, hs⟩ := hne
    obtain ⟨M0, hM0⟩ := above_all (netOf l)
    have hM : ∀ i, i < (netOf l).n → (netOf l).a i < M0 + s + 1 ∧ (netOf l).b i < M0 + s + 1 := fun i hi => by
      have := hM0 i hi
      omega
    have cut := cut_le (N := netOf l) (f := f) (g := fun _ => 0) (fun i hi => ⟨Int.le_refl _, by have := hf.fits i hi; show (0 : Int) ≤ _; omega⟩) (fun m => decide (m ∈ t.ks))
      (fun i hi ra rb => by
        have ra' := of_decide_eq_true ra
        have rb' := of_decide_eq_false rb
        by_cases lt : f i < (netOf l).r i
        · exact absurd (along_closed h hi lt ra') rb'
        · omega)
      (fun i hi rb ra => by
        have rb' := of_decide_eq_true rb
        have ra' := of_decide_eq_false ra
        by_cases lt : 0 < f i
        · exact absurd (back_closed h hi lt rb') ra'
        · omega) (M0 + s + 1) hM
    have nn : ∀ m, m < M0 + s + 1 → 0 ≤ ind (decide (m ∈ t.ks)) * (net (netOf l) (fun _ => 0) m - net (netOf l) f m) := fun m _ => by
      rw [net_zero]
      by_cases k : m ∈ t.ks
      · rw [ind_pos (decide_eq_true k)]
        have : ¬ over (netOf l) f m < 0 := fun lt => c ⟨m, h.sub m k, lt, k⟩
        unfold over at this
        omega
      · rw [ind_neg (decide_eq_false k)]
        omega
    have ge := sm_ge_one nn s (by omega)
    rw [net_zero, ind_pos (decide_eq_true (h.start s hs).1)] at ge
    have hp := ((hS s).mp hs).2
    unfold over at hp
    omega
/-- one shift: still feasible, the surplus passed on, and less of it -/
theorem even_shift (hf : EvOk l f) (h : Short (netOf l) (membersOf l) (allMoves l f) S t) (h12 : (membersOf l).length ≤ 12) (hS : ∀ m, m ∈ S ↔ m ∈ membersOf l ∧ 0 < over (netOf l) f m) {w : List Stp} {s e : Nat} (hw : WayOk (netOf l) (allMoves l f) S t w s e)
    (he : e ∈ membersOf l) (hel : over (netOf l) f e < 0) {x : Int} (h1 : 1 ≤ x) (hxs : x ≤ over (netOf l) f s) (hxe : x ≤ - over (netOf l) f e) (hx : ∀ q, q ∈ w → x ≤ cap (netOf l) f q) :
    EvOk l (shifted f w x) ∧ (∀ m, over (netOf l) (shifted f w x) m = if m = s then over (netOf l) f s - x else if m = e then over (netOf l) f e + x else over (netOf l) f m) ∧
      ((membersOf l).map fun m => (over (netOf l) (shifted f w x) m).toNat).sum < ((membersOf l).map fun m => (over (netOf l) f m).toNat).sum := by
  obtain ⟨d, hd⟩ := hf.feas
  have hp : Pos (netOf l) (allMoves l f) d := pos_of_feas hd all_lt
  have hs := (hS s).mp hw.root.1
  have hse : s ≠ e := fun z => by
    rw [z] at hs
    omega
  have ho : ∀ m, over (netOf l) (shifted f w x) m = if m = s then over (netOf l) f s - x else if m = e then over (netOf l) f e + x else over (netOf l) f m := fun m => by
    have := way_net (f := f) (x := x) (fun q hq => (mem_all.mp hq).1) hw m
    unfold over
    rw [this]
    by_cases c1 : m = s
    · subst c1
      rw [if_pos rfl, ind_pos (by simp), ind_neg (by simp; exact fun z => hse z.symm)]
      omega
    · rw [if_neg c1, ind_neg (by simp; exact fun z => c1 z.symm)]
      by_cases c2 : m = e
      · subst c2
        rw [if_pos rfl, ind_pos (by simp)]
        omega
      · rw [if_neg c2, ind_neg (by simp; exact fun z => c2 z.symm)]
        omega
  refine ⟨⟨way_fits hp hf.fits hw (by omega) hx, ?_⟩, ho, ?_⟩
  · obtain ⟨d', hd', ag⟩ := feas_extend hd (fun m => decide (m ∈ t.ks)) (dist t)
      (fun i hi lt ra => by
        have ra' := of_decide_eq_true ra
        obtain ⟨z1, z2⟩ := dist_stable hp h h12 (q := ⟨i, true⟩) (mem_all.mpr ⟨hi, Or.inl ⟨rfl, lt⟩⟩) ra'
        exact ⟨decide_eq_true z1, z2⟩)
      (fun i hi lt rb => by
        have rb' := of_decide_eq_true rb
        obtain ⟨z1, z2⟩ := dist_stable hp h h12 (q := ⟨i, false⟩) (mem_all.mpr ⟨hi, Or.inr ⟨rfl, lt⟩⟩) rb'
        refine ⟨decide_eq_true z1, ?_⟩
        have z2' : dist t ((netOf l).a i) ≤ dist t ((netOf l).b i) + -(-1) := z2
        omega)
    refine ⟨d', feas_shifted hd' fun q hq => ?_⟩
    obtain ⟨a1, a2, a3, a4⟩ := hw.inn q hq
    have ti := dist_tight hp h h12 a2 a3 a4
    rw [← ag _ (decide_eq_true a2), ← ag _ (decide_eq_true a3)] at ti
    obtain ⟨i, sg⟩ := q
    cases sg
    · have ti' : d' ((netOf l).a i) = d' ((netOf l).b i) + -(-1) := ti
      show d' ((netOf l).b i) = d' ((netOf l).a i) + (-1)
      omega
    · exact ti
  · refine sum_lt_of (x := s) (fun m _ => ?_) hs.1 ?_
    · rw [ho m]
      by_cases c1 : m = s
      · rw [if_pos c1, c1]
        omega
      · rw [if_neg c1]
        by_cases c2 : m = e
        · rw [if_pos c2, c2]
          omega
        · rw [if_neg c2]
          exact Nat.le_refl _
    · rw [ho s, if_pos rfl]
      omega
/-- nobody has too much: all is even -/
theorem even_done (hf : EvOk l f) (h : ∀ m, m ∈ membersOf l → over (netOf l) f m ≤ 0) : Red (netOf l) f ∧ ∃ p, Tight (netOf l) f p := by
  obtain ⟨d, hd⟩ := hf.feas
  refine ⟨⟨hf.fits, fun m => ?_⟩, _, tight_of_feas hd⟩
  by_cases hm : m ∈ membersOf l
  · obtain ⟨M0, hM0⟩ := above_all (netOf l)
    have hM : ∀ i, i < (netOf l).n → (netOf l).a i < M0 + m + 1 ∧ (netOf l).b i < M0 + m + 1 := fun i hi => by
      have := hM0 i hi
      omega
    have e := sm_nets hM (fun _ => 1) f
    have e2 : sm (netOf l).n (fun i => ((1 : Int) - 1) * f i) = 0 := sm_zero fun i _ => by
      rw [Int.sub_self, Int.zero_mul]
    rw [e2] at e
    have nn : ∀ k, k < M0 + m + 1 → (0 : Int) ≤ (1 : Int) * net (netOf l) f k := fun k _ => by
      by_cases hk : k ∈ membersOf l
      · have := h k hk
        unfold over at this
        omega
      · rw [net_outside hk]
        omega
    have ge := sm_eq_each (n := M0 + m + 1) (g := fun _ => 0) (h := fun k => (1 : Int) * net (netOf l) f k) nn (by
      rw [e, sm_zero fun _ _ => rfl]
      exact Int.le_refl _) m (by omega)
    omega
  · exact net_outside hm f

/-! ## Potentials -/
theorem short_least (ht : ∃ p, Tight (netOf l) f p) (h : Short (netOf l) (membersOf l) (allMoves l f) S t) (h12 : (membersOf l).length ≤ 12) (hS : ∀ m, m ∈ S ↔ m ∈ membersOf l) : LeastPot (netOf l) (membersOf l) f (fun m => - dist t m) := by
  obtain ⟨p0, hp0⟩ := ht
  have hd := feas_of_tight hp0
  have hp : Pos (netOf l) (allMoves l f) (fun m => - p0 m) := pos_of_feas hd all_lt
  have key : ∀ m, m ∈ membersOf l → m ∈ t.ks ∧ t.L m ≤ 0 := fun m hm => h.start m ((hS m).mpr hm)
  refine ⟨fun m hm => ?_, fun i hi => ⟨fun lt => ?_, fun lt => ?_⟩, fun q hq tq m hm => ?_⟩
  · have := (key m hm).2
    unfold dist
    omega
  · have ha := key _ (a_mem hi)
    obtain ⟨_, z⟩ := dist_stable hp h h12 (q := ⟨i, true⟩) (mem_all.mpr ⟨hi, Or.inl ⟨rfl, lt⟩⟩) ha.1
    have z' : dist t ((netOf l).b i) ≤ dist t ((netOf l).a i) + (-1) := z
    show 1 + (- dist t ((netOf l).a i) - - dist t ((netOf l).b i)) ≤ 0
    omega
  · have hb := key _ (b_mem hi)
    obtain ⟨_, z⟩ := dist_stable hp h h12 (q := ⟨i, false⟩) (mem_all.mpr ⟨hi, Or.inr ⟨rfl, lt⟩⟩) hb.1
    have z' : dist t ((netOf l).a i) ≤ dist t ((netOf l).b i) + -(-1) := z
    show 0 ≤ 1 + (- dist t ((netOf l).a i) - - dist t ((netOf l).b i))
    omega
  · obtain ⟨c, hc⟩ := low_all (t := t) (fun m => - p0 m)
    obtain ⟨s, w, hw⟩ := way_exists hp h c hc (t.L m - 64 * (- p0 m) - c + 1).toNat m (key m hm).1 (by have := hc m (key m hm).1; omega)
    have hs : s ∈ membersOf l := (hS s).mp hw.root.1
    -- along the way q grows by as much at least
    have go : ∀ {w : List Stp} {u v : Nat}, Chain (netOf l) u w v → (∀ x, x ∈ w → x ∈ allMoves l f ∧ dist t (dst (netOf l) x) = dist t (src (netOf l) x) + cst (-1) x) → q u + dist t u ≤ q v + dist t v := by
      intro w
      induction w with
      | nil =>
        intro u v hc _
        have e : u = v := hc
        rw [e]
        exact Int.le_refl _
      | cons x w ih =>
        intro u v hc k
        have h1 := ih hc.2 (fun y hy => k y (by simp [hy]))
        obtain ⟨k1, k2⟩ := k x (by simp)
        rw [hc.1] at k2
        obtain ⟨i, sg⟩ := x
        obtain ⟨hi, cs⟩ := mem_all.mp k1
        have tw := tq i hi
        unfold worth at tw
        cases sg
        · have e1 : (netOf l).b i = u := hc.1
          have k2' : dist t ((netOf l).a i) = dist t u + -(-1) := k2
          have h1' : q ((netOf l).a i) + dist t ((netOf l).a i) ≤ q v + dist t v := h1
          have lt : 0 < f i := by
            rcases cs with ⟨z, _⟩ | ⟨_, z⟩
            · cases z
            · exact z
          have := tw.2 lt
          rw [e1] at this
          omega
        · have e1 : (netOf l).a i = u := hc.1
          have k2' : dist t ((netOf l).b i) = dist t u + (-1) := k2
          have h1' : q ((netOf l).b i) + dist t ((netOf l).b i) ≤ q v + dist t v := h1
          have lt : f i < (netOf l).r i := by
            rcases cs with ⟨_, z⟩ | ⟨z, _⟩
            · exact z
            · cases z
          have := tw.1 lt
          rw [e1] at this
          omega
    have g := go hw.chain fun x hx => by
      obtain ⟨a1, a2, a3, a4⟩ := hw.inn x hx
      exact ⟨a1, dist_tight hp h h12 a2 a3 a4⟩
    have e0 : dist t s = 0 := by
      unfold dist
      rw [hw.root.2]
      rfl
    have := hq s hs
    show - dist t m ≤ q m
    omega
end

/-! ## Raising a number -/
section
variable {l : List Trade} {f P : Nat → Int} {t : Bf} {i : Nat} {places : List Nat}
theorem free_pos (hp : ∀ j, j ∈ places ↔ i < j ∧ j < l.length ∧ worth (netOf l) P j = 0) : Pos (netOf l) (movesOf (netOf l) f places) (fun m => - P m) := fun q hq => by
  obtain ⟨hi, c⟩ := mem_moves.mp hq
  have w := ((hp _).mp hi).2.2
  unfold worth at w
  obtain ⟨j, sg⟩ := q
  cases sg
  · show - P ((netOf l).a j) ≤ - P ((netOf l).b j) + -(-1)
    dsimp only at w
    omega
  · show - P ((netOf l).b j) ≤ - P ((netOf l).a j) + (-1)
    dsimp only at w
    omega
theorem raise_stuck (hi : i < l.length) (hp : ∀ j, j ∈ places ↔ i < j ∧ j < l.length ∧ worth (netOf l) P j = 0) (h : Short (netOf l) (membersOf l) (movesOf (netOf l) f places) [(netOf l).b i] t) (hn : ¬ (netOf l).a i ∈ t.ks) : Stuck (netOf l) P f i := by
  refine Or.inr ⟨fun m => decide (m ∈ t.ks), decide_eq_true (h.start _ (by simp)).1, decide_eq_false hn, fun j hj hjn wj => ⟨fun ra rb => ?_, fun rb ra => ?_⟩⟩
  · have ra' := of_decide_eq_true ra
    have rb' := of_decide_eq_false rb
    by_cases lt : f j < (netOf l).r j
    · exact absurd (h.stable ⟨j, true⟩ (mem_moves.mpr ⟨(hp j).mpr ⟨hj, hjn, wj⟩, Or.inl ⟨rfl, lt⟩⟩) ra').1 rb'
    · omega
  · have rb' := of_decide_eq_true rb
    have ra' := of_decide_eq_false ra
    by_cases lt : 0 < f j
    · exact absurd (h.stable ⟨j, false⟩ (mem_moves.mpr ⟨(hp j).mpr ⟨hj, hjn, wj⟩, Or.inr ⟨rfl, lt⟩⟩) rb').1 ra'
    · omega
/-- one shift around a ring through the place -/
theorem raise_shift (hi : i < l.length) (hw : worth (netOf l) P i = 0) (hp : ∀ j, j ∈ places ↔ i < j ∧ j < l.length ∧ worth (netOf l) P j = 0) (hr : Red (netOf l) f) (ht : Tight (netOf l) f P)
    {w : List Stp} (hway : WayOk (netOf l) (movesOf (netOf l) f places) [(netOf l).b i] t w ((netOf l).b i) ((netOf l).a i)) {x : Int} (h1 : 0 ≤ x) (hxi : x ≤ (netOf l).r i - f i) (hx : ∀ q, q ∈ w → x ≤ cap (netOf l) f q) (g : Nat → Int)
    (hg : ∀ j, g j = if j = i then shifted f w x j + x else shifted f w x j) :
    Red (netOf l) g ∧ Tight (netOf l) g P ∧ (∀ j, j < i → g j = f j) ∧ g i = f i + x ∧ shifted f w x i = f i := by
  have pos := free_pos (f := f) hp
  have hin : ∀ q, q ∈ w → i < q.i ∧ q.i < l.length ∧ worth (netOf l) P q.i = 0 := fun q hq => (hp _).mp (mem_moves.mp (hway.inn q hq).1).1
  have low : ∀ j, j ≤ i → shifted f w x j = f j := fun j hj => by
    unfold shifted
    rw [amt_notin, Int.mul_zero, Int.add_zero]
    intro q hq e
    have := (hin q hq).1
    omega
  have ft := way_fits pos hr.fits hway h1 hx
  have hgi : g i = f i + x := by
    rw [hg, if_pos rfl, low i (Nat.le_refl _)]
  refine ⟨⟨fun j hj => ?_, fun m => ?_⟩, fun j hj => ?_, fun j hj => ?_, hgi, low i (Nat.le_refl _)⟩
  · by_cases c : j = i
    · rw [c, hgi]
      have := hr.fits i hi
      omega
    · rw [hg, if_neg c]
      exact ft j hj
  · have e1 := way_net (f := f) (x := x) (fun q hq => ((hp _).mp (mem_moves.mp hq).1).2.1) hway m
    have e2 : net (netOf l) g m = net (netOf l) (shifted f w x) m + net (netOf l) (fun j => x * (if (⟨i, true⟩ : Stp).i = j then sgn ⟨i, true⟩ else 0)) m := by
      rw [← net_add]
      refine net_congr (fun j _ => ?_) m
      rw [hg]
      by_cases c : j = i
      · subst c
        rw [if_pos rfl, if_pos rfl]
        show shifted f w x j + x = shifted f w x j + x * 1
        omega
      · rw [if_neg c, if_neg (fun z => c z.symm)]
        omega
    rw [e2, e1, hr.even, net_mul, net_one (netOf l) ⟨i, true⟩ hi m]
    show 0 + x * (ind ((netOf l).b i == m) - ind ((netOf l).a i == m)) + x * (ind ((netOf l).a i == m) - ind ((netOf l).b i == m)) = 0
    rw [← Int.neg_sub (ind ((netOf l).a i == m)), Int.mul_neg]
    omega
  · by_cases c : worth (netOf l) P j = 0
    · rw [c]
      exact ⟨fun _ => Int.le_refl _, fun _ => Int.le_refl _⟩
    · have e : g j = f j := by
        rw [hg, if_neg (fun z => c (by rw [z]; exact hw))]
        unfold shifted
        rw [amt_notin, Int.mul_zero, Int.add_zero]
        intro q hq e
        exact c (by rw [← e]; exact (hin q hq).2.2)
      rw [e]
      exact ht j hj
  · rw [hg, if_neg (by omega)]
    exact low j (by omega)
theorem LexTo.skips {N : Net} {p f : Nat → Int} {j : Nat} (h : LexTo N p j f) : ∀ (n : Nat), (∀ k, j ≤ k → k < j + n → worth N p k ≠ 0) → LexTo N p (j + n) f
  | 0, _ => h
  | n + 1, hk => (LexTo.skips h n fun k h1 h2 => hk k h1 (by omega)).skip (hk (j + n) (by omega) (by omega))
end

/-! ## The lists -/
def shiftL (ns : List Int) (w : List Stp) (x : Int) : List Int := w.foldl (fun ns q => ns.set q.i (gl ns q.i + sgn q * x)) ns
theorem shiftL_len : ∀ (w : List Stp) (ns : List Int) (x : Int), (shiftL ns w x).length = ns.length
  | [], _, _ => rfl
  | q :: w, ns, x => by
    show (shiftL (ns.set q.i (gl ns q.i + sgn q * x)) w x).length = ns.length
    rw [shiftL_len w, List.length_set]
theorem shiftL_gl : ∀ (w : List Stp) (ns : List Int) (x : Int), (∀ q, q ∈ w → q.i < ns.length) → gl (shiftL ns w x) = shifted (gl ns) w x
  | [], ns, x, _ => by
    funext j
    show gl ns j = gl ns j + x * 0
    omega
  | q :: w, ns, x, h => by
    have ih := shiftL_gl w (ns.set q.i (gl ns q.i + sgn q * x)) x (fun a ha => by rw [List.length_set]; exact h a (by simp [ha]))
    show gl (shiftL (ns.set q.i (gl ns q.i + sgn q * x)) w x) = _
    rw [ih]
    funext j
    unfold shifted
    rw [gl_set (h q (by simp))]
    show (if j = q.i then gl ns q.i + sgn q * x else gl ns j) + x * amt w j = gl ns j + x * ((if q.i = j then sgn q else 0) + amt w j)
    rw [Int.mul_add]
    by_cases c : j = q.i
    · subst c
      rw [if_pos rfl, if_pos rfl, Int.mul_comm]
      omega
    · rw [if_neg c, if_neg (fun z => c z.symm)]
      omega
theorem ext_gl {a b : List Int} (hl : a.length = b.length) (h : ∀ i, i < a.length → gl a i = gl b i) : a = b := by
  refine List.ext_getElem? fun i => ?_
  by_cases c : i < a.length
  · rw [gl_get c, gl_get (by omega), h i c]
  · rw [List.getElem?_eq_none (by omega), List.getElem?_eq_none (by omega)]
/-- **The list that is lexicographic greatest is what the specification tells.** -/
theorem told_of_lex {l : List Trade} {ns : List Int} (hl : ns.length = l.length) (h : LexMax (netOf l) (gl ns)) : ns = (Vbchad.told l).map fun (x : Nat) => (x : Int) := by
  obtain ⟨h1, h2⟩ := told_lex l
  refine ext_gl (by rw [List.length_map]; omega) fun i hi => ?_
  rw [gl_fl]
  exact LexMax.unique h h2 i (by show i < l.length; omega)
/-- the sum of an optimal list is the greatest total -/
theorem sum_gl : ∀ (ns : List Int), ns.sum = sm ns.length (gl ns)
  | [] => rfl
  | a :: ns => by
    rw [List.sum_cons, sum_gl ns, List.length_cons, sm_front]
    rfl
theorem sum_opt {l : List Trade} {ns : List Int} (hl : ns.length = l.length) (h : Opt (netOf l) (gl ns)) : ns.sum = (Vbchad.greatestOf l : Int) := by
  rw [greatestOf_eq, sum_gl, hl]
  exact opt_tot h (greatest_opt l)
end Nw
end

section
/-! # Rules that the layer lacks for this program -/
namespace Vb
open PySem PySem.Spec PyProof.Rows L2
/-! ## Calls -/
section
variable {P : Program} {w : World} {K : PySem.W.Frag} {mg : Str → Option Value} {base : Heap}
/-- what the top has of a def: its text, its name, how its arguments bind -/
def DefAt (K : PySem.W.Frag) (mg : Str → Option Value) (x : Str) (st : Stmt) (ps : List Str) : Prop := ∃ f fd, Fun K x x st f fd ∧ mg x = some (.ref f) ∧ Binds K fd ps []
/-- .. of a method -/
def MethAt (K : PySem.W.Frag) (C : Addr) (m qual : Str) (st : Stmt) (ps : List Str) : Prop := ∃ f fd, Fun K m qual st f fd ∧ Meth K C m f ∧ Binds K fd ps []
/-- .. of a class that may be made -/
def MakeAt (K : PySem.W.Frag) (mg : Str → Option Value) (x : Str) (C : Addr) (qual : Str) (st : Stmt) (ps : List Str) : Prop := ∃ f fd, Fun K "__init__" qual st f fd ∧ Mk K C f ∧ mg x = some (.ref C) ∧ Binds K fd ps []
/-- a def called by its name keeps the promise sp -/
def Cal (P : Program) (w : World) (K : PySem.W.Frag) (mg : Str → Option Value) (base : Heap) (k : Nat) (x : Str) (sp : Sp) : Prop :=
  ∃ (f : Addr) (fd : FuncData) (ps : List Str), FnOk P w K mg base CX0 k f fd ps sp ∧ mg x = some (.ref f) ∧ PySem.W.keepIn K (.ref f) = true ∧ Binds K fd ps []
/-- .. by its address -/
def CalAt (P : Program) (w : World) (K : PySem.W.Frag) (mg : Str → Option Value) (base : Heap) (k : Nat) (f : Addr) (sp : Sp) : Prop :=
  ∃ (fd : FuncData) (ps : List Str), FnOk P w K mg base CX0 k f fd ps sp ∧ PySem.W.keepIn K (.ref f) = true ∧ Binds K fd ps []
def Met (P : Program) (w : World) (K : PySem.W.Frag) (mg : Str → Option Value) (base : Heap) (k : Nat) (C : Addr) (m : Str) (sp : Sp) : Prop :=
  ∃ (f : Addr) (fd : FuncData) (ps : List Str), Cls K C ∧ Meth K C m f ∧ FnOk P w K mg base CX0 k f fd ps sp ∧ Binds K fd ps []
def Mak (P : Program) (w : World) (K : PySem.W.Frag) (mg : Str → Option Value) (base : Heap) (k : Nat) (x : Str) (C : Addr) (sp : Sp) : Prop :=
  ∃ (f : Addr) (fd : FuncData) (ps : List Str), Mk K C f ∧ FnOk P w K mg base CX0 k f fd ps sp ∧ mg x = some (.ref C) ∧ Binds K fd ps []
theorem cal_of {x : Str} {st : Stmt} {N ps : List Str} {k : Nat} {sp : Sp} (D : DefAt K mg x st ps) (S : FnScope N ps (defScope st)) (len : ∀ vs H Q E, sp vs H Q E → vs.length = ps.length)
    (hbody : ∀ (f : Addr) (cdv : Value) (A : Around) (outer : List Env) (s : Shared) (H : Hp) (vs : List V) (Q : VK) (E : XK), PySem.W.codeIn K cdv x = true → Room k (A.deeper (envOfC x (defScope st) s.heap.objs.size f cdv)) → sp vs H Q E →
      ∃ t, PSs (cxOf CX0 P w K mg base N x (defScope st) f cdv A outer s H E).nox (defBody st) t ∧ t { nx := fun _ H' => Q .non H', rt := Q } (start N vs) H) : Cal P w K mg base (k + 1) x sp := by
  obtain ⟨f, fd, F, m, b⟩ := D
  obtain ⟨oc, od, kV, doc, pm, an, cdv, ct, osl, rfl, lk, hcd⟩ := F.ex
  refine ⟨f, _, ps, fn_of lk hcd S len fun A outer s H vs Q E hr hsp => ?_, m, F.kp, b⟩
  obtain ⟨t, h, q⟩ := hbody f cdv A outer s H vs Q E hcd hr hsp
  exact ⟨t, h.nox, q⟩
theorem met_of {m qual : Str} {C : Addr} {st : Stmt} {N ps : List Str} {k : Nat} {sp : Sp} (c : Cls K C) (D : MethAt K C m qual st ps) (S : FnScope N ps (defScope st)) (len : ∀ vs H Q E, sp vs H Q E → vs.length = ps.length)
    (hbody : ∀ (f : Addr) (cdv : Value) (A : Around) (outer : List Env) (s : Shared) (H : Hp) (vs : List V) (Q : VK) (E : XK), Room k (A.deeper (envOfC qual (defScope st) s.heap.objs.size f cdv)) → sp vs H Q E →
      ∃ t, PSs (cxOf CX0 P w K mg base N qual (defScope st) f cdv A outer s H E).nox (defBody st) t ∧ t { nx := fun _ H' => Q .non H', rt := Q } (start N vs) H) : Met P w K mg base (k + 1) C m sp := by
  obtain ⟨f, fd, F, me, b⟩ := D
  exact ⟨f, fd, ps, c, me, F.ok S len (hbody f), b⟩
theorem mak_of {x qual : Str} {C : Addr} {st : Stmt} {N ps : List Str} {k : Nat} {sp : Sp} (D : MakeAt K mg x C qual st ps) (S : FnScope N ps (defScope st)) (len : ∀ vs H Q E, sp vs H Q E → vs.length = ps.length)
    (hbody : ∀ (f : Addr) (cdv : Value) (A : Around) (outer : List Env) (s : Shared) (H : Hp) (vs : List V) (Q : VK) (E : XK), Room k (A.deeper (envOfC qual (defScope st) s.heap.objs.size f cdv)) → sp vs H Q E →
      ∃ t, PSs (cxOf CX0 P w K mg base N qual (defScope st) f cdv A outer s H E).nox (defBody st) t ∧ t { nx := fun _ H' => Q .non H', rt := Q } (start N vs) H) : Mak P w K mg base (k + 1) x C sp := by
  obtain ⟨f, fd, F, M, m, b⟩ := D
  exact ⟨f, fd, ps, M, F.ok S len (hbody f), m, b⟩
theorem Cal.imp {k : Nat} {x : Str} {sp sp' : Sp} (c : Cal P w K mg base k x sp) (h : ∀ vs H Q E, sp' vs H Q E → sp vs H Q E) : Cal P w K mg base k x sp' := by
  obtain ⟨f, fd, ps, F, r⟩ := c
  exact ⟨f, fd, ps, F.imp h, r⟩
end
section
variable {X : Cx} {k j : Nat} {C : Addr} {x m : Str} {sp : Sp} {p pos apos : Pos} {e o : Expr} {es : List Expr} {ta : TE} {t : TA}
def tCl (sp : Sp) (t : TA) : TE := fun σ H Q => t σ H fun vs H1 => sp vs H1 Q E0
def tMt (C : Addr) (m : Str) (sp : Sp) (ta : TE) (t : TA) : TE := fun σ H Q => ta σ H fun x H1 => ∃ a dx fs, x = .ref a ∧ H1 a = some (.ins C dx fs) ∧ fs.lookup m = none ∧ t σ H1 fun vs H2 => sp (x :: vs) H2 Q E0
def tMk (C : Addr) (sp : Sp) (t : TA) : TE := fun σ H Q => t σ H fun vs H1 => ∀ x dx, H1 x = none → H1 dx = none → dx ≠ x → sp (.ref x :: vs) (upd (upd H1 dx (.own x)) x (.ins C dx [])) (fun v H2 => v = .non ∧ Q (.ref x) H2) E0
theorem tCl_eq (sp : Sp) (t : TA) : tCall sp [] E0 t = tCl sp t := by
  unfold tCall tCl
  funext σ H Q
  simp only [List.append_nil]
theorem tMt_eq (C : Addr) (m : Str) (sp : Sp) (ta : TE) (t : TA) : tMeth C m sp [] E0 ta t = tMt C m sp ta t := by
  unfold tMeth tMt
  funext σ H Q
  simp only [List.append_nil]
theorem tMk_eq (C : Addr) (sp : Sp) (t : TA) : tMake C sp [] E0 t = tMk C sp t := by
  unfold tMake tMk
  funext σ H Q
  simp only [List.append_nil]
theorem pe_c (c : Cal X.prog X.w X.K X.mg X.base k x sp) (hr : Room j X.A) (hk : k ≤ j) (hg : Gl X x) (ha : PA X (e :: es) t)
    (hdb : (x == ("__debug__" : Str)) = false := by decide) (he : starEach (e :: es) X.env = (false, eval e X.env) :: starEach es X.env := by rfl) (hpl : (backTo pos (starEach es X.env)).any (·.1) = false := by rfl) :
    PE X (.Call (.Name x p) (e :: es) [] pos) (tCl sp t) := by
  obtain ⟨f, fd, ps, F, hm, kp, b⟩ := c
  rw [← tCl_eq]
  exact pe_call F (hr.mono hk) hg hm kp b .nil pass0 ha hdb he hpl
theorem pe_mk (c : Mak X.prog X.w X.K X.mg X.base k x C sp) (hr : Room j X.A) (hk : k + 1 ≤ j) (hg : Gl X x) (ha : PA X (e :: es) t)
    (hdb : (x == ("__debug__" : Str)) = false := by decide) (he : starEach (e :: es) X.env = (false, eval e X.env) :: starEach es X.env := by rfl) (hpl : (backTo pos (starEach es X.env)).any (·.1) = false := by rfl) :
    PE X (.Call (.Name x p) (e :: es) [] pos) (tMk C sp t) := by
  obtain ⟨f, fd, ps, M, F, hm, b⟩ := c
  rw [← tMk_eq]
  exact pe_make M F (hr.mono hk) hg hm b .nil pass0 ha hdb he hpl
theorem pe_mk0 (c : Mak X.prog X.w X.K X.mg X.base k x C sp) (hr : Room j X.A) (hk : k + 1 ≤ j) (hg : Gl X x) (hdb : (x == ("__debug__" : Str)) = false := by decide) : PE X (.Call (.Name x p) [] [] pos) (tMk C sp tNil) := by
  obtain ⟨f, fd, ps, M, F, hm, b⟩ := c
  rw [← tMk_eq]
  exact pe_make0 M F (hr.mono hk) hg hm b .nil pass0 hdb
theorem pe_mt {pl : Sem Bool} (c : Met X.prog X.w X.K X.mg X.base k C m sp) (hr : Room j X.A) (hk : k ≤ j) (he : PE X o ta) (ha : PA X (e :: es) t)
    (hst : starEach (e :: es) X.env = (false, eval e X.env) :: starEach es X.env := by rfl) (hpl : (backTo pos (starEach es X.env)).any (·.1) = false := by rfl)
    (ht : eval (.Call (.Attribute o m apos) (e :: es) [] pos) X.env = (do
      let ov ← eval o X.env
      standAt apos.atName
      let (f, first) ← holding [ov] (getMethod ov m pl)
      callWith pos f first (backTo pos (starEach (e :: es) X.env)) (backToKw pos (keywordEach [] X.env))) := by rfl) :
    PE X (.Call (.Attribute o m apos) (e :: es) [] pos) (tMt C m sp ta t) := by
  obtain ⟨f, fd, ps, hc, hm, F, b⟩ := c
  rw [← tMt_eq]
  exact pe_meth (pl := pl) he hc hm F (hr.mono hk) b .nil pass0 ha hst hpl ht
theorem pe_mt0 {pl : Sem Bool} (c : Met X.prog X.w X.K X.mg X.base k C m sp) (hr : Room j X.A) (hk : k ≤ j) (he : PE X o ta)
    (ht : eval (.Call (.Attribute o m apos) [] [] pos) X.env = (do
      let ov ← eval o X.env
      standAt apos.atName
      let (f, first) ← holding [ov] (getMethod ov m pl)
      callWith pos f first (backTo pos (starEach [] X.env)) (backToKw pos (keywordEach [] X.env))) := by rfl) :
    PE X (.Call (.Attribute o m apos) [] [] pos) (tMt C m sp ta tNil) := by
  obtain ⟨f, fd, ps, hc, hm, F, b⟩ := c
  rw [← tMt_eq]
  exact pe_meth0 (pl := pl) he hc hm F (hr.mono hk) b .nil pass0 ht
/-- a constant of the module -/
theorem pe_gc {v : V} (hg : Gl X x) (h : ∃ u, X.mg x = some u ∧ RelV v u) (hd : (x == ("__debug__" : Str)) = false := by decide) : PE X (.Name x pos) (tC v) := by
  obtain ⟨u, hm, r⟩ := h
  exact pe_glob hg hm r hd
/-- a call of an expression's value -/
def tCallE (X : Cx) (k : Nat) (tf : TE) (t : TA) : TE := fun σ H Q => tf σ H fun y H1 => ∃ f sp, y = .ref f ∧ CalAt X.prog X.w X.K X.mg X.base k f sp ∧ t σ H1 fun vs H2 => sp vs H2 Q E0
theorem pe_callE {fe : Expr} {tf : TE} (hr : Room k X.A) (hf : PE X fe tf) (ha : PA X (e :: es) t)
    (ht : eval (.Call fe (e :: es) [] pos) X.env = (do callWith pos (← eval fe X.env) [] (backTo pos (starEach (e :: es) X.env)) (backToKw pos (keywordEach [] X.env))) := by rfl)
    (he : starEach (e :: es) X.env = (false, eval e X.env) :: starEach es X.env := by rfl) (hpl : (backTo pos (starEach es X.env)).any (·.1) = false := by rfl) : PE X (.Call fe (e :: es) [] pos) (tCallE X k tf t) := by
  refine ⟨fun pins s σ H Q I h => ?_⟩
  refine Call_ (thn (hf.run pins s σ H _ I h) fun u s1 ⟨y, H1, I1, ry, f, sp, ey, ⟨fd, ps, F, kp, b⟩, q⟩ => ?_) ht
  subst ey
  obtain rfl : u = Value.ref f := ry
  refine PySem.W.callWith_K (first := []) (h₀ := X.base) I.ok.mod.kin kp (thn (ha.run pos pins s1 σ H1 _ I1 q) fun us s2 ⟨vs, H2, I2, r, q2⟩ => ⟨I2.kIn, ?_⟩) he hpl
  exact run_fn (dvs := []) (ds := []) (us := us) (vs := vs) F hr b .nil (pass0 (X := X)) I2 r (by rw [List.append_nil]; exact q2)
end
/-! ## Lists and numbers -/
section
variable {X : Cx}
theorem get_list : PGet X (fun o i H Q => ∃ p xs k v, o = .ref p ∧ i = .int k ∧ 0 ≤ k ∧ SqL X.K H p xs ∧ xs[k.toNat]? = some v ∧ Q v H) := by
  intro pins s σ H o i ov iv Q I ro ri h
  obtain ⟨p, xs, k, v, rfl, rfl, h0, hq, hx, q⟩ := h
  cases ro
  obtain ⟨t, rfl⟩ := ri
  obtain ⟨its, r, pl, hz⟩ := I.list hq
  obtain ⟨u, hu, ru⟩ := r.get hx
  have hlt := (List.getElem?_eq_some_iff.mp hx).1
  have hn := line63
  exact wpAny_getItem_list pl.isList h0 (by omega) (by simpa using hu) ⟨v, H, I, ru, q⟩
theorem truth_ints {prog : Program} {w : World} {A : Around} {its : List Value} {ns : List Int} (e : IntsAre its ns) :
    TruthOf prog w A (fun i v => its.toArray[i]? = some v) (fun i => ns.getD i 0 != 0) := fun i v s Q E hv hq => by
  have hv' : its[i]? = some v := by simpa using hv
  have hi : i < ns.length := by
    have := (List.getElem?_eq_some_iff.mp hv').1
    rw [e.length] at this
    exact this
  obtain ⟨t, ht⟩ := e.int_at i v hv'
  subst ht
  have hq' : Q (ns.getD i 0 != 0) s := hq
  exact truthy_int hq'
theorem any_rangeI : ∀ ns : List Int, (List.range ns.length).any (fun i => ns.getD i 0 != 0) = ns.any (· != 0)
  | [] => rfl
  | b :: bs => by
    rw [List.length_cons, List.range_succ_eq_map, List.any_cons, List.any_map, List.any_cons, ← any_rangeI bs]
    all_goals rfl
/-- any(xs) of a list of whole numbers -/
theorem cr_anyI (hc : X.calm = true) : CallR X (.builtin "any") (fun vs H Q => ∃ (a : Addr) (ns : List Int), vs = [V.ref a] ∧ SqL X.K H a (ns.map V.int) ∧ Q (.bl (ns.any (· != 0))) H) := by
  intro pins s σ H vs us Q I r h
  obtain ⟨a, ns, rfl, hs, q⟩ := h
  obtain ⟨its, rv, hl, _⟩ := I.list hs
  rw [Vals.ref1 r]
  have hi := rv.ints
  refine call_any_walk (iter_any hl.isList fun s₂ e2 st hne => ?_)
  subst e2
  refine ⟨_, _, _, _, _, _, _, rfl, Walks.list (A := X.A.in1) (I.ok.hd hc) _ a hne its.toArray, st, truth_ints hi, fun h' tk hk => ?_⟩
  refine ⟨.bl _, H, I.kept fun b o eo => hk b o (fun hmem => ?_) (Heap.get?_push_of_some _ eo), ?_, q⟩
  · have e1 := List.mem_singleton.mp hmem
    exact absurd (e1 ▸ Heap.lt_size eo) (Nat.lt_irrefl _)
  · show Value.bool _ = Value.bool _
    rw [← any_rangeI, List.size_toArray, hi.length]
theorem call_min3 (hc : X.calm = true) : CallR X (.builtin "min") (fun xs H Q => ∃ i j k, xs = [.int i, .int j, .int k] ∧ Q (.int (min i (min j k))) H) := by
  intro pins s σ H xs us Q I r h
  obtain ⟨i, j, k, rfl, q⟩ := h
  cases r with
  | cons r1 r =>
    cases r with
    | cons r2 r =>
      cases r with
      | cons r3 r =>
        cases r
        obtain ⟨t1, rfl⟩ := r1
        obtain ⟨t2, rfl⟩ := r2
        obtain ⟨t3, rfl⟩ := r3
        refine min_three_ints (I.ok.hd hc) fun h' tk hk => ?_
        have I2 : Inv X pins σ H { s with heap := h', toks := tk } := I.kept hk
        have e : ∀ t1 t2 t3 : Tok, ∃ t, (if j < i then (if k < j then Value.int k t3 else Value.int j t2) else (if k < i then Value.int k t3 else Value.int i t1)) = Value.int (min i (min j k)) t := by
          intro t1 t2 t3
          by_cases c1 : j < i
          · by_cases c2 : k < j
            · rw [if_pos c1, if_pos c2]
              exact ⟨t3, congrArg (Value.int · t3) (by omega)⟩
            · rw [if_pos c1, if_neg c2]
              exact ⟨t2, congrArg (Value.int · t2) (by omega)⟩
          · by_cases c2 : k < i
            · rw [if_neg c1, if_pos c2]
              exact ⟨t3, congrArg (Value.int · t3) (by omega)⟩
            · rw [if_neg c1, if_neg c2]
              exact ⟨t1, congrArg (Value.int · t1) (by omega)⟩
        exact ⟨.int _, H, I2, e _ _ _, q⟩
/-- dict(zip(xs, ys)) of two lists of one length, the keys whole numbers that differ -/
def tDictZip (K : PySem.W.Frag) (t : TA) : TE := fun σ H Q => t σ H fun vs H1 => ∃ (a b : Addr) (ns : List Int) (ys : List V), vs = [.ref a, .ref b] ∧ SqL K H1 a (ns.map V.int) ∧ SqL K H1 b ys ∧ ns.length = ys.length ∧ ns.Nodup ∧
  ∀ p, H1 p = none → Q (.ref p) (upd H1 p (.dK ((ns.map Sum.inl).zip ys)))
theorem kv_zip {P : Program} {w : World} : ∀ {ns : List Int} {ys : List V} {us ws : List Value}, IntsAre us ns → Vals ys ws → ns.length = ys.length → KV ((ns.map (Sum.inl (β := Str))).zip ys) ((ns.map Sum.inl).zip ws)
  | [], ys, us, ws, _, _, _ => .nil
  | n :: ns, [], us, ws, _, _, h => by simp at h
  | n :: ns, y :: ys, us, ws, hu, hv, h => by
    cases hv with
    | cons r1 r2 =>
      cases hu with
      | cons _ _ hu => exact .cons ⟨rfl, r1⟩ (kv_zip (P := P) (w := w) hu r2 (by simpa using h))
theorem pe_dictZip {e1 e2 : Expr} {t : TA} {p p2 q pos : Pos} (hc : X.calm = true) (hg : Gl X "dict") (hm : X.mg "dict" = none) (hg2 : Gl X "zip") (hm2 : X.mg "zip" = none) (ha : PA X [e1, e2] t)
    (he : starEach [.Call (.Name "zip" p2) [e1, e2] [] q] X.env = [(false, eval (.Call (.Name "zip" p2) [e1, e2] [] q) X.env)] := by rfl)
    (hs : starEach [e1, e2] X.env = (false, eval e1 X.env) :: starEach [e2] X.env := by rfl) (hpl : (backTo q (starEach [e2] X.env)).any (·.1) = false := by rfl) :
    PE X (.Call (.Name "dict" p) [.Call (.Name "zip" p2) [e1, e2] [] q] [] pos) (tDictZip X.K t) := by
  refine ⟨fun pins s σ H Q I h => ?_⟩
  refine Call_ (ld_blt I hg hm boot_dict (PyProof.Rows.callWith_type1 (args_cons ?_ he) he rfl))
  refine Call_ (ld_blt I hg2 hm2 PyProof.Rows.boot_zip (PyProof.Rows.callWith_type1 (thn (ha.run q pins s σ H _ I h) fun us s1 ⟨vs, H1, I1, r1, q1⟩ => ?_) hs hpl))
  obtain ⟨a, b, ns, ys, ev, hqa, hqb, hlen, hnd, q1⟩ := q1
  subst ev
  cases r1 with
  | cons r r1 =>
    cases r1 with
    | cons r' r1 =>
      cases r1
      cases r
      cases r'
      obtain ⟨its, rv, pl, hz⟩ := I1.list hqa
      obtain ⟨its2, rv2, pl2, hz2⟩ := I1.list hqb
      have hi := rv.ints
      refine call_zip_2 pl.isList pl2.isList fun h' hzip hTI hTO h1 h2 hsz hk => ?_
      have I2 : Inv X pins σ H1 { s1 with heap := h' } := I1.kept (t' := s1.toks) hk
      have l1 : its.length = ns.length := by rw [hi.length]
      have l2 : its2.length = ns.length := by rw [← rv2.length, hlen]
      refine args_nil ?_
      have keepL : ∀ {c : Addr} {xs : Array Value}, s1.heap.IsList c xs → h'.IsList c xs := fun {c xs} ⟨o, e, d⟩ => ⟨o, hk _ _ e, d⟩
      have l3 : its.toArray.size = ns.length := by rw [List.size_toArray, l1]
      have l4 : its2.toArray.size = ns.length := by rw [List.size_toArray, l2]
      have hnd2 : (((ns.map (Sum.inl (β := Str))).zip its2).map (·.1)).Nodup := by
        rw [List.map_fst_zip (by rw [List.length_map]; omega)]
        exact List.pairwise_map.mpr (List.Pairwise.imp (fun h e => h (Sum.inl.inj e)) hnd)
      refine PySem.call_dict_pairs (knd := mixKind X.prog X.w) (kvs := (ns.map (Sum.inl (β := Str))).zip its2) (PairArg.zip (s1.heap.objs.size + 4) (s1.heap.objs.size + 2) (s1.heap.objs.size + 3) s1.heap.objs.size (s1.heap.objs.size + 1) a b (PySem.W.ktu_apart s1.heap.objs.size a b pl.lt pl2.lt) its.toArray its2.toArray) (I.ok.hd hc)
        ⟨hzip, hTI, ⟨_, _, hTO⟩, h1, h2, keepL pl.isList, keepL pl2.isList⟩ ⟨?_, fun i key v hkv => ?_⟩ ?_ fun h'' tk hd hk2 => ?_
      · rw [List.length_zip, List.length_map, l3, l4, l2]
      · obtain ⟨k1, k2⟩ := hkv
        have k1' : its[i]? = some key := by simpa using k1
        have k2' : its2[i]? = some v := by simpa using k2
        have hlt : i < ns.length := by
          have := (List.getElem?_eq_some_iff.mp k1').1
          omega
        obtain ⟨tt, ek⟩ := hi.int_at i key k1'
        refine ⟨Sum.inl ns[i], List.getElem?_zip_eq_some.mpr ⟨by rw [List.getElem?_map, List.getElem?_eq_getElem hlt]; rfl, k2'⟩, ?_⟩
        rw [ek, List.getD_eq_getElem?_getD, List.getElem?_eq_getElem hlt]
        exact mixKind_int _ _ _ _
      · rw [l3, l4, Nat.min_self]
        rw [List.length_map] at hz
        exact hz
      · rw [merged_nil_of_nodup _ hnd2] at hd
        have hd' : h''.DictOf (mixKind X.prog X.w) h'.objs.size ((ns.map (Sum.inl (β := Str))).zip its2) := hd
        have hsz' : s1.heap.objs.size ≤ h'.objs.size := by omega
        have hm : (h'.objs.size == sysModules) = false := beq_eq_false_iff_ne.mpr (Nat.ne_of_gt (Nat.lt_of_lt_of_le I1.big hsz'))
        have kall : ∀ b u, s1.heap.get? b = some u → h''.get? b = some u := fun b u e => by
          have hb := Heap.lt_size e
          refine hk2 b u (fun hmem => ?_) (hk b u e)
          have e' : b = s1.heap.objs.size + 4 ∨ b = s1.heap.objs.size + 3 ∨ b = s1.heap.objs.size ∨ b = s1.heap.objs.size + 1 := by simpa using hmem
          rcases e' with e' | e' | e' | e' <;> (rw [e'] at hb; first | exact absurd hb (Nat.lt_irrefl _) | exact absurd hb (Nat.not_lt.mpr (Nat.le_add_right _ _)))
        have hlen' : ((ns.map (Sum.inl (β := Str))).zip ys).length ≤ sizeLine := by
          rw [List.length_zip, List.length_map, ← hlen, Nat.min_self]
          rw [List.length_map] at hz
          exact hz
        exact ⟨.ref h'.objs.size, upd H1 h'.objs.size (.dK ((ns.map Sum.inl).zip ys)), I1.laid (t' := tk) kall hsz' (show ObjOk X.prog X.w _ _ _ (.dK _) from ⟨hlen', hm, _, kv_zip (P := X.prog) (w := X.w) hi rv2 hlen, hd'⟩), rfl, q1 _ (I1.hok.fresh hsz')⟩
end
end Vb
end

section
namespace Vb
open PySem PySem.Spec PyProof.Rows L2
section
variable {P : Program} {w : World} {A : Around} {E : Value → Shared → Prop} {s : Shared}
abbrev emptySet (w : World) : Obj := { cls := .type "set", dict := none, data := .set #[] 0 (.fresh 0 0 (!w.params.followText "set-order")) }
/-- set(xs) of a list of whole numbers, what it holds known -/
theorem set_of_list {l : Addr} {xs : Array Value} (ns : List Int) {Q : Value → Shared → Prop} (hh : A.handled = none) (hl : s.heap.IsList l xs) (hi : IntsAre xs.toList ns) (hb : ns.length + 1 < scanBound)
    (h : ∀ (h' : Heap) (tk c : Nat), SetR w h' s.heap.objs.size (fun j => decide (j ∈ ns)) c → (∀ b o, s.heap.get? b = some o → h'.get? b = some o) → Q (.ref s.heap.objs.size) { s with heap := h', toks := tk }) :
    wpAny (model P w) A (call (.type "set") [.ref l]) Q E s := by
  have tc := F.called_set
  obtain ⟨c, tl, mro⟩ := tc.mro
  refine wpAny_call (codeAny_of_tree (?_ : wpAny _ _ (callAny (.type "set") _) _ _ _))
  refine wpAny_pure ⟨Code.quiet_builtin _ (by decide +kernel), codeAny_builtin F.entry_type_call ?_⟩
  rw [Around.under_plain (weight_type_call_type "set" [.ref l] []) rfl]
  have t1 := tc.made; have t2 := tc.sub; have t3 := tc.notType; have t4 := tc.canCreate; have t5 := F.typeCall_set_1 (.ref l)
  repeat (any_goals (first | with_reducible assumption | wp_step))
  refine codeAny_mono (code_set_led1 (E := E) (.ref l) (Q₁ := fun o z => o = .ref s.heap.objs.size ∧ z = { s with heap := s.heap.push (emptySet w) }) ⟨rfl, rfl⟩) fun r z hr => ?_
  rcases r with er | (_ | _ | _ | obj)
  · exact hr
  · exact hr.elim
  · exact hr.elim
  · exact hr.elim
  obtain ⟨rfl, rfl⟩ := hr
  have gS : (s.heap.push (emptySet w)).get? s.heap.objs.size = some (emptySet w) := Heap.get?_push_size _ rfl
  have tS : Shared.TypeIs { s with heap := s.heap.push (emptySet w) } (.ref s.heap.objs.size) "set" := ⟨_, gS, rfl⟩
  have size1 : (s.heap.push (emptySet w)).objs.size = s.heap.objs.size + 1 := Heap.size_push ..
  have len : xs.size = ns.length := by rw [← Array.length_toList, hi.length]
  have at_ : ∀ (i : Nat) (v : Value), xs[i]? = some v → ∃ k t, ns[i]? = some k ∧ v = .int k t := fun i v hv => by
    have lt : i < ns.length := len ▸ (Array.getElem?_eq_some_iff.mp hv).1
    obtain ⟨t, e⟩ := hi.int_at i v (by rw [Array.getElem?_toList]; exact hv)
    exact ⟨ns[i], t, List.getElem?_eq_getElem lt, by rw [e, List.getD_eq_getElem?_getD, List.getElem?_eq_getElem lt] <;> rfl⟩
  obtain ⟨⟨cls, dd, dat, sl⟩, ol, oc, n, od⟩ := id hl
  simp only at oc od
  subst oc od
  have ol1 := Heap.get?_push_of_some (emptySet w) ol
  have sub1 := F.sub_list_set
  have sub2 := F.sub_list_frozenset
  have neD : (Value.type "list" == Value.type "dict") = false := by decide
  have hl1 : (s.heap.push (emptySet w)).IsList l xs := ⟨_, ol1, rfl, n, rfl⟩
  have t6 := tc.init.lookup; have t7 := tc.init.bind (.ref s.heap.objs.size)
  repeat (any_goals (first | with_reducible assumption | wp_step))
  refine codeAny_mono (codeAny_call_builtin (R := wants (fun r z => r = .none ∧ ∃ h' tk c, z = { s with heap := h', toks := tk } ∧ SetR w h' s.heap.objs.size (fun j => decide (j ∈ ns)) c ∧ (∀ b o, s.heap.get? b = some o → h'.get? b = some o)) E)
    tc.init.plain F.entry_set_init (check_set_init_1 tS ?_)) fun r z hr => ?_
  · unfold Builtin.«set.__init__» noKeywords Builtin.Frozenset.updateFrom
    generalize it_ : pyIter = PI
    wp_walk
    subst it_
    have lt : l < s.heap.objs.size := Heap.lt_size ol
    have hh3 : A.in1.in1.in1.handled = none := by simp [hh]
    have off : s.heap.objs.size ∉ [(s.heap.push (emptySet w)).objs.size, l] := by
      rw [size1, List.mem_cons, List.mem_singleton]
      exact fun z => z.elim (Nat.ne_of_lt (Nat.lt_succ_self _)) (Nat.ne_of_gt lt)
    refine wpAny_pyIter_list hl1 (wpAny_bind (wpAny_runValue (set_update_ints ((Walks.list hh3 _ l (by rw [size1]; exact Nat.ne_of_lt (Nat.lt_succ_of_lt lt)) xs).toS) s.heap.objs.size off ns len hb at_ (xs.size - 0) 0 _ rfl (Nat.zero_le _)
      ⟨⟨_, Heap.get?_push_size _ rfl, rfl, rfl⟩, hl1.push _⟩ ⟨0, Nat.le_refl 0, setR_new_at (Heap.get?_push_of_some _ gS)⟩ fun z c' mv _ sr => ?_)))
    obtain ⟨h', g2, d2, k2, o2⟩ := z
    obtain rfl : g2 = s.gens := mv.gens
    obtain rfl : d2 = s.drawn := mv.drawn
    obtain rfl : o2 = s.os := mv.os
    refine wpAny_pure (wpAny_pure (⟨rfl, h', k2, c', rfl, sr, fun b o e => ?_⟩ : _ ∧ _))
    have hb0 := Heap.lt_size e
    refine mv.heap b o (fun hm => ?_) (Heap.get?_push_of_some _ (Heap.get?_push_of_some _ e))
    rw [size1, List.mem_cons, List.mem_singleton] at hm
    exact hm.elim (Nat.ne_of_lt hb0) (Nat.ne_of_lt (Nat.lt_succ_of_lt hb0))
  · rcases r with er | (_ | _ | _ | r)
    · exact hr
    · exact hr.elim
    · exact hr.elim
    · exact hr.elim
    · obtain ⟨rfl, h', k2, c', rfl, sr, kp⟩ := hr
      repeat (any_goals (first | with_reducible assumption | wp_step))
      exact h _ _ _ sr kp
end
section
variable {X : Cx}
/-- set(xs) of a list of whole numbers, as a value -/
theorem call_setL (hc : X.calm = true) : CallR X (.type "set") (fun xs H Q => ∃ (p : Addr) (ns : List Int), xs = [.ref p] ∧ SqL X.K H p (ns.map V.int) ∧ ns.length ≤ 1000 ∧
    ∀ (q : Addr) (c : Nat), H q = none → Q (.ref q) (upd H q (SetO X.w q (fun j => decide (j ∈ ns)) c))) := by
  intro pins s σ H xs us Q I r h
  obtain ⟨p, ns, rfl, hs, hl, q⟩ := h
  obtain ⟨its, rv, pl, _⟩ := I.list hs
  rw [Vals.ref1 r]
  refine set_of_list ns (I.ok.hd hc) pl.isList rv.ints (by unfold scanBound; omega) fun h' tk c sr kp => ?_
  exact ⟨.ref _, upd H s.heap.objs.size (SetO X.w s.heap.objs.size (fun j => decide (j ∈ ns)) c), I.laid (t' := tk) kp (Nat.le_refl _) (setO_new sr), rfl, q _ c (I.hok.fresh (Nat.le_refl _))⟩
end
section
variable {X : Cx}
/-- how many a set has -/
theorem setR_card {w : World} {h : Heap} {a : Addr} {ns : List Int} {c : Nat} (R : SetR w h a (fun j => decide (j ∈ ns)) c) : ∃ ks : List Int, ks.Nodup ∧ (∀ k, k ∈ ks ↔ k ∈ ns) ∧ ks.length = c := by
  obtain ⟨o, es, ep, t, ho, hex, hd, g, nd, hm, hb, hf, hn, hr, hl⟩ := R
  refine ⟨es.toList.map keyOf, nd, fun k => ?_, by rw [List.length_map, Array.length_toList, hn]⟩
  rw [← hm k, decide_eq_true_eq]
theorem call_lenS : CallR X (.builtin "len") (fun xs H Q => ∃ (a : Addr) (ns : List Int) (c : Nat), xs = [V.ref a] ∧ H a = some (SetO X.w a (fun j => decide (j ∈ ns)) c) ∧ ∀ ks : List Int, ks.Nodup → (∀ k, k ∈ ks ↔ k ∈ ns) → ks.length = c → Q (.int (c : Nat)) H) := by
  intro pins s σ H xs us Q I r h
  obtain ⟨a, ns, c, rfl, ha, q⟩ := h
  obtain ⟨u, rfl, ru⟩ := vals1 r
  cases ru
  have R := setO_get I ha
  obtain ⟨ks, k1, k2, k3⟩ := setR_card R
  obtain ⟨o, es, ep, t, ho, hex, hd, g, nd, hm, hb, hf, hn, hr, hl⟩ := R
  exact call_len_set ho hex hd hf (by unfold scanBound at hb; omega) ⟨.int (c : Nat), H, I.tok _, ⟨_, by rw [hn]⟩, q ks k1 k2 k3⟩
end
end Vb
end

section
/-! # min(xs, key=lambda m: d[m]) -/
namespace Vb
open PySem PySem.Spec PyProof.Rows L2 LamX
/-- one parameter y, no other name of its own: captured ones and globals -/
structure LamS1 (sc scope : Scope) (y : Str) : Prop where
  kind : scope.kind = .function
  co : scope.isCoroutine = false
  gen : scope.isGenerator = false
  own : ∀ z ∈ scope.names, z.2 ≠ .cell
  one : ∀ z ∈ scope.names, z.2 = .local → z.1 = y
  par : scope.names.lookup y = some .local
  free : ∀ z ∈ scope.names, z.2 = .free → sc.names.lookup z.1 = some .cell ∨ sc.names.lookup z.1 = some .free
section
variable {X : Cx} {pins : List (Addr × Obj)} {σ : L2.St} {H HZ : Hp} {s s1 : Shared} {y : Str}
theorem LamS1.has {scope : Scope} (L : LamS1 X.env.scope scope y) (ok : X.Ok) : ∀ z ∈ scope.names, z.2 = .free → ∃ c, X.env.cells.lookup z.1 = some c := fun z hz e =>
  (L.free z hz e).elim (fun k => ok.has _ (.inl k)) (fun k => ok.has _ (.inr k))
/-- the lambda's frame, its parameter in the slot j -/
theorem lam_start1 {A : Around} {outer : List Env} {E : XK} {scope : Scope} {f c' : Addr} {h₁ : Heap} {tk : Nat} {j : Nat} {v : V} {u : Value} (I : Inv X pins σ H s) (L : LamS1 X.env.scope scope y) (nd : X.N.Nodup) (hj : X.N[j]? = some y) (ru : RelV v u)
    (e0 : Env0 X.prog X.w X.K X.mg X.base A outer s1 HZ) (hd : A.handled = none)
    (un : Un (frs X.stack) [] H HZ s.heap s1.heap) (hns : h₁.Ns s1.heap.objs.size fun z => ([(y, u)] : List (Str × Value)).reverse.lookup z) (kp : ∀ b o, s1.heap.get? b = some o → h₁.get? b = some o) :
    Inv (lamCx X A outer s1 HZ E scope f c') [] (σ.set j (some v)) HZ { s1 with heap := h₁, toks := tk } := by
  have hfree := L.has I.ok
  have back : ∀ {z c}, (cloFrom X.env.cells scope.names []).lookup z = some c → X.env.cells.lookup z = some c := fun {z c} e => by
    rcases cloFrom_mem (PySem.mem_of_lookup e) with hm | ⟨h1, h2⟩
    · cases hm
    · obtain ⟨c1, hc⟩ := hfree _ h1 rfl
      have hc2 : X.env.cells.lookup z = some c1 := hc
      rw [hc2] at h2
      rw [hc2, h2]
      rfl
  have there : ∀ {z}, scope.names.lookup z = some .free → ∃ c, (cloFrom X.env.cells scope.names []).lookup z = some c := fun {z} hl =>
    mem_lookup (cloFrom_has (cells := X.env.cells) (acc := []) (PySem.mem_of_lookup hl : (z, NameKind.free) ∈ scope.names))
  have cellK : ∀ {c : Addr} {v : Option Value}, H c = none → s.heap.IsCell c v → h₁.IsCell c v := fun {c v} n ⟨o, ho, hdd⟩ => by
    obtain ⟨sl, q⟩ := un.any ho n (by simp)
    exact ⟨_, kp _ _ q, hdd⟩
  have noEx : ∀ b : Addr, b ∉ (lamCx X A outer s1 HZ E scope f c').ex := fun b z => (nomatch (show b ∈ ([] : List Addr) from z))
  refine ⟨⟨e0.mod, L.kind, rfl, rfl, Nat.le_refl _, fun a b c e1 e2 => I.ok.inj a b c (back e1) (back e2), fun z hz => ?_, fun z c q _ => ?_, fun _ => hd, Around.frames_deeper e0.frames, .inr ⟨rfl, rfl⟩, fun b z => absurd z (noEx b), e0.bs, e0.bsz, fun b _ _ => noEx b, fun b z => absurd z (noEx b), e0.funs, e0.frf⟩,
    rfl, e0.bare, Un.kept kp, ⟨_, hns, fun i z v' e1 e2 e3 => ?_⟩, fun z c e => ?_, e0.hok.fresh (Nat.le_refl _), fun z c e => ?_, fun q hq => (nomatch (show q ∈ ([] : List (Addr × Obj)) from hq)), e0.hok.kept kp, by rw [List.length_set]; exact I.len⟩
  · have hz : scope.names.lookup z = some .cell ∨ scope.names.lookup z = some .free := hz
    rcases hz with hz | hz
    · exact absurd rfl (L.own _ (PySem.mem_of_lookup hz))
    · exact there hz
  · exact Bool.noConfusion (show false = true from q)
  · have e3 : Vis scope z := e3
    have e1 : X.N[i]? = some z := e1
    rcases e3 with k | k | k
    · have hy : z = y := L.one _ (PySem.mem_of_lookup k) rfl
      subst hy
      have hij := nodup_ix nd e1 hj
      subst hij
      have hlt := (List.getElem?_eq_some_iff.mp e1).1
      rw [List.getElem?_set_self (by rw [I.len]; exact hlt)] at e2
      obtain rfl := Option.some.inj (Option.some.inj e2)
      exact ⟨u, ru, .inl ⟨k, by show List.lookup z [(z, u)] = some u; simp [List.lookup]⟩⟩
    · exact absurd rfl (L.own _ (PySem.mem_of_lookup k))
    · have hij : j ≠ i := fun q => by
        subst q
        rw [hj] at e1
        obtain rfl := Option.some.inj e1
        rw [L.par] at k
        cases k
      rw [List.getElem?_set_ne hij] at e2
      obtain ⟨m, hn, hl⟩ := I.loc
      have hvis : Vis X.env.scope z := (L.free _ (PySem.mem_of_lookup k) rfl).elim (fun k => .inr (.inl k)) (fun k => .inr (.inr k))
      obtain ⟨w', r, q⟩ := hl i z v' e1 e2 hvis
      obtain ⟨c2, h2⟩ := there k
      refine ⟨w', r, .inr ⟨.inr k, c2, h2, ?_⟩⟩
      have c1 := back h2
      rcases q with ⟨k', _⟩ | ⟨_, c3, e', q⟩
      · have k' : X.env.scope.names.lookup z = some .local := k'
        rcases L.free _ (PySem.mem_of_lookup k) rfl with k2 | k2 <;> rw [show X.env.scope.names.lookup z = _ from k2] at k' <;> cases k'
      · rw [c1] at e'
        obtain rfl := Option.some.inj e'
        exact cellK (I.freeC z _ c1) q
  · obtain ⟨w', q⟩ := I.cell z c (back e)
    exact ⟨w', cellK (I.freeC z c (back e)) q⟩
  · obtain ⟨v, o, ho, hdd⟩ := I.cell z c (back e)
    exact un.free c o ho (I.freeC z c (back e)) (by simp)
/-- the lambda called with one value, from anywhere -/
theorem lam_call {f c' : Addr} {pm ctv : Value} {params : Arguments} {body : Expr} {scope : Scope} {k j : Nat} {A : Around} {v z : V} {u : Value} {tb : TE} {Q : Value → Shared → Prop} {E : Value → Shared → Prop}
    (I : Inv X pins σ H s) (L : LamS1 X.env.scope scope y) (nd : X.N.Nodup) (hj : X.N[j]? = some y) (hf : s.heap.get? f = some (PySem.W.kla_obj "<lambda>" (X.env.qual ++ "<lambda>") params body scope (cloFrom X.env.cells scope.names []) pm c' ctv))
    (hc : H c' = some (CodeO c' (X.env.qual ++ "<lambda>"))) (hA : A.frames = some X.stack) (hr : Room (k + 1) A) (ru : RelV v u)
    (hbind : bindArgs (PySem.W.kla_fn "<lambda>" (X.env.qual ++ "<lambda>") params body scope (cloFrom X.env.cells scope.names []) pm (.ref c') ctv) ⟨[u], []⟩ = pure [(y, u)])
    (hbody : ∀ (f c' : Addr), Room k (A.deeper (lamEnv X scope s.heap.objs.size f c')) → PE (lamCx X A X.stack s H E0 scope f c') body tb)
    (ht : tb (σ.set j (some v)) H fun x H' => x = z ∧ H' = H)
    (h : ∀ (w' : Value) (s' : Shared), RelV z w' → s'.os = s.os → AllBare s'.gens → Un (frs X.stack) [] H H s.heap s'.heap → HOk X.prog X.w H s'.heap → Q w' s') :
    wpAny (model X.prog X.w) A (call (.ref f) [u]) Q E s := by
  have e0 : Env0 X.prog X.w X.K X.mg X.base A X.stack s H := ⟨hA, I.env0.mod, I.env0.bs, I.env0.bsz, I.env0.funs, I.env0.frf, I.env0.hok, I.env0.bare⟩
  obtain ⟨⟨oc, vs, t, hoc, hdc, hvc⟩, _, _⟩ := I.hok c' _ hc
  have rc : codeAny (model X.prog X.w) A (.call (.ref f) ⟨[u], []⟩) (CR (L2.CX X.prog X.w) X.stack X.prog X.w H s (fun x H' => x = z ∧ H' = H) E0) s := by
    refine PySem.W.kla_callFunE hr.depth hf rfl L.co L.gen rfl ⟨c', oc, vs, t, rfl, hoc, hdc, hvc⟩ ?_
    rw [hbind]
    refine wpAny_pure (wpAny_newFunctionEnv (fun z hz => L.own z hz) (fun z hz => ?_) (fun h₁ hns hsb => ⟨I.nolimit.fresh _ hsb, ?_⟩) L.kind)
    · rw [List.mem_singleton.mp hz]
      exact L.par
    · show codeAny _ _ (.expr body (lamEnv X scope s.heap.objs.size f c')) _ _
      have kp : ∀ b o, s.heap.get? b = some o → h₁.get? b = some o := fun b o e => hsb.extBut b o (Nat.ne_of_lt (Heap.lt_size e)) (Heap.get?_push_of_some _ e)
      have J : Inv (lamCx X A X.stack s H E0 scope f c') [] (σ.set j (some v)) H { s with heap := h₁, toks := s.toks + ([(y, u)] : List (Str × Value)).length } := lam_start1 I L nd hj ru e0 hr.hd Un.refl hns kp
      refine PySem.W.kla_codeExpr (wpAny_mono ((hbody f c' (hr.deeper _)).run [] _ _ H _ J ht) (fun x s' hq => ?_) fun e s' hq => hq)
      obtain ⟨w', H', J', rv, q⟩ := hq
      exact ⟨w', H', J'.os, J'.bare, J'.base, J'.hok, rv, q⟩
  refine wpAny_call (codeAny_mono rc fun r s' hq => ?_)
  cases r with
  | error e =>
    obtain ⟨_, _, _, _, _, _, _, _, _, _, _, _, z⟩ := (show L2.CX X.prog X.w X.stack H s E0 e s' from hq)
    exact z.elim
  | ok fl =>
    cases fl with
    | ret x =>
      obtain ⟨z', H', os, bare, un, hok, rv, rfl, rfl⟩ := hq
      exact h x s' rv os bare un hok
    | next => exact False.elim hq
    | brk => exact False.elim hq
    | cont => exact False.elim hq
end

section
variable {X : Cx}
theorem SqL.extN {K : PySem.W.Frag} {H H' : Hp} {a : Addr} {xs : List V} (h : SqL K H a xs) (e : ExtN H H') : SqL K H' a xs := by
  rcases h with (h | ⟨o, h⟩) | h
  · exact .inl (.inl (e _ _ h fun _ z => by cases z))
  · exact .inl (.inr ⟨o, e _ _ h fun _ z => by cases z⟩)
  · exact .inr h
/-- a list of whole numbers walked: the numbers are known, the tokens may turn -/
theorem walk_ints {prog : Program} {w : World} {A : Around} (hh : A.handled = none) (I a : Addr) (hne : a ≠ I) (ns : List Int) :
    WalksS prog w A I [I, a] [I] (fun x y => y = x) ns.length (fun i v => i < ns.length ∧ ∃ t, v = .int (ns.getD i 0) t) (fun i z => z.heap.IsListIter I a i ∧ ∃ items, z.heap.IsList a items ∧ IntsAre items.toList ns) where
  sub := fun b hb => by
    rw [List.mem_singleton.mp hb]
    exact List.mem_cons_self
  grefl := fun _ => rfl
  gtrans := fun _ _ _ h1 h2 => h2.trans h1
  frame := fun i z h' tk st _ hk => by
    obtain ⟨s1, items, ⟨o, s2, s4⟩, s3⟩ := st
    exact ⟨s1.at fun o e => hk I (by simp) o e, items, ⟨o, hk a (by simp) o s2, s4⟩, s3⟩
  item := fun i z Q E hi st hQ => by
    obtain ⟨s1, items, s2, s3⟩ := st
    have hl : items.size = ns.length := by rw [← Array.length_toList, s3.length]
    have hx : items[i]? = some items[i] := Array.getElem?_eq_getElem (by omega)
    obtain ⟨t, et⟩ := s3.int_at i items[i] (by rw [Array.getElem?_toList]; exact hx)
    refine wpAny_pyNext_list_item s1 s2 hx fun h' hit' hs' => ?_
    refine hQ _ _ ⟨hi, t, et⟩ ⟨hit', items, s2.extBut hs'.extBut hne, s3⟩ ⟨fun b o hb e => hs'.extBut b o (fun h => hb (by simp [h])) e, rfl, rfl, rfl, Nat.le_refl _⟩
  done := fun z Q E st hQ => by
    obtain ⟨s1, items, s2, s3⟩ := st
    have hl : items.size = ns.length := by rw [← Array.length_toList, s3.length]
    exact wpAny_pyNext_list_end hh s1 s2 (Array.getElem?_eq_none (by omega)) fun h' he' => hQ _ ⟨fun b o hb e => he' b o (fun h => hb (by simp [h])) e, rfl, rfl, rfl, Nat.le_refl _⟩
  self := fun i z Q E st hQ => wpAny_pyIter_listiter st.1 hQ
/-- the reading of min(te, key=lambda m: d[m]), d in the slot jx -/
def tMinLam (K : PySem.W.Frag) (T : List (Addr × Str)) (jx : Nat) (te : TE) : TE := fun σ H Q => te σ H fun x H1 => Tabs T H1 ∧ ∃ (a dd : Addr) (ns : List Int) (g : Int → Int) (kvs : List (Key × V)), x = .ref a ∧ SqL K H1 a (ns.map V.int) ∧ 0 < ns.length ∧
  σ[jx]? = some (some (.ref dd)) ∧ H1 dd = some (.dK kvs) ∧ (∀ n, n ∈ ns → valV kvs (.inl n) = some (.int (g n))) ∧ ∀ m H2, m ∈ ns → ExtN H1 H2 → Tabs T H2 → Q (.int m) H2
theorem pe_minLam {T : List (Addr × Str)} {c P : Addr} {x y : Str} {k j jx : Nat} {params : Arguments} {scope : Scope} {e : Expr} {te : TE} {p pos lpos kpos q1 q2 q3 : Pos} (hg : Gl X "min") (hm : X.mg "min" = none)
    (he : PE X e te) (hcalm : X.calm = true) (nd : X.N.Nodup) (hj : X.N[j]? = some y) (hjx : X.N[jx]? = some x) (hxj : jx ≠ j) (TB : TabB X.base X.mg c P) (hcode : X.env.code = .ref c) (hmT : (P, X.env.qual ++ "<lambda>") ∈ T) (hu : ∀ p ∈ T, p.1 = P → p.2 = X.env.qual ++ "<lambda>")
    (hr : Room (k + 2) X.A) (L : LamS1 X.env.scope scope y) (hvx : scope.names.lookup x = some .free) (hdef : defaultsOf params X.env = ([], []))
    (hbind : ∀ (q : Str) (cl : List (Str × Addr)) (pm cv ctv u : Value), bindArgs (PySem.W.kla_fn "<lambda>" q params (.Subscript (.Name x q1) (.Name y q2) q3) scope cl pm cv ctv) ⟨[u], []⟩ = pure [(y, u)])
    (hdx : (x == ("__debug__" : Str)) = false := by decide) (hcx : (x == ("__classdict__" : Str)) = false := by decide) (hdy : (y == ("__debug__" : Str)) = false := by decide) (hcy : (y == ("__classdict__" : Str)) = false := by decide)
    (hse : starEach [e] X.env = (false, eval e X.env) :: starEach [] X.env := by rfl) (hst : backTo pos (starEach [e] X.env) = (false, eval e X.env) :: backTo pos (starEach [] X.env) := by rfl) (hpl : (backTo pos (starEach [e] X.env)).any (·.1) = false := by rfl) :
    PE X (.Call (.Name "min" p) [e] [⟨some "key", .Lambda params (.Subscript (.Name x q1) (.Name y q2) q3) scope lpos, kpos⟩] pos) (tMinLam X.K T jx te) := by
  refine ⟨fun pins s σ H Q I h => ?_⟩
  refine wpAny_Call_Name_kw (ld_blt I hg hm PyProof.Rows.boot_min ?_)
  have ar := (pa_cons (X := X) he pa_nil hse).run pos pins s σ H (fun vs H1 => match vs with
    | [x] => Tabs T H1 ∧ ∃ (a dd : Addr) (ns : List Int) (g : Int → Int) (kvs : List (Key × V)), x = V.ref a ∧ SqL X.K H1 a (ns.map V.int) ∧ 0 < ns.length ∧
      σ[jx]? = some (some (.ref dd)) ∧ H1 dd = some (.dK kvs) ∧ (∀ n, n ∈ ns → valV kvs (.inl n) = some (.int (g n))) ∧ ∀ m H2, m ∈ ns → ExtN H1 H2 → Tabs T H2 → Q (.int m) H2
    | _ => False) I h
  refine PyProof.Rows.callWith_kw (thn ar fun us s1 ⟨vs, H1, I1, r1, hq⟩ => ?_) hst hpl
  cases r1 with
  | nil => exact hq.elim
  | cons ru r1 =>
    cases r1 with
    | cons _ _ => exact hq.elim
    | nil =>
      obtain ⟨hT, a, dd, ns, g, kvs, rfl, hq1, hpos, hσ, hdd, hval, hfin⟩ := hq
      cases ru
      have hfree := L.has I1.ok
      show wpAny _ _ (evalAll [do let v ← eval (.Lambda params (.Subscript (.Name x q1) (.Name y q2) q3) scope lpos) X.env; standAt pos; pure v]) _ _ s1
      refine wpAny_evalAll_cons (wpAny_bind (lam_make2 I1 TB hcode hmT hu hT hdef hfree fun f c' pm ctv H2 s2 I2 eN T2 hf hfn hfr hco => wpAny_bind (wpAny_standAt (wpAny_pure ?_))))
      refine wpAny_evalAll_nil ?_
      show wpAny _ _ (call (.builtin "min") [.ref a] [(Str.ofString "key", .ref f)]) _ _ s2
      have hq2 := SqL.extN hq1 eN
      have hdd2 : H2 dd = some (.dK kvs) := eN _ _ hdd fun _ z => by cases z
      obtain ⟨its, rv, pl, _⟩ := I2.list hq2
      have hi := rv.ints
      have hd0 := I.ok.hd hcalm
      have nofr : ∀ b, s2.heap.objs.size ≤ b → b ∉ frs X.stack := fun b hb z => by
        rcases List.mem_cons.mp (I2.stkSub _ z) with e | e
        · have h1 := I2.lt
          rw [← e] at h1
          exact Nat.lt_irrefl _ (Nat.lt_of_lt_of_le h1 hb)
        · exact I2.nofs hb e
      have nn : ∀ b, s2.heap.objs.size ≤ b → H2 b = none := fun b hb => I2.hok.fresh hb
      refine call_min_walkK (iter_any pl.isList fun z0 e0 st hne => ?_)
      have size0 : z0.heap.objs.size = s2.heap.objs.size + 1 := by
        rw [e0]
        exact Heap.size_push ..
      have keep0 : ∀ b o, s2.heap.get? b = some o → z0.heap.get? b = some o := fun b o e => by
        rw [e0]
        exact Heap.get?_push_of_some _ e
      have hfl := Heap.lt_size hf
      have I0 : Inv X pins σ H2 z0 := by
        rw [e0]
        exact I2.kept fun b o e => Heap.get?_push_of_some _ e
      refine ⟨s2.heap.objs.size, [s2.heap.objs.size, a], [s2.heap.objs.size], (fun x y => y = x), ns.length, _, _,
        fun z => Inv X pins σ H2 z ∧ z.heap.get? f = some (PySem.W.kla_obj "<lambda>" (X.env.qual ++ "<lambda>") params (.Subscript (.Name x q1) (.Name y q2) q3) scope (cloFrom X.env.cells scope.names []) pm c' ctv),
        fun i k _ => ∃ t, k = .int (g (ns.getD i 0)) t, fun i j => decide (g (ns.getD i 0) < g (ns.getD j 0)), rfl, walk_ints (A := X.A.in1) hd0 s2.heap.objs.size a hne ns, ⟨st.1, its.toArray, st.2, hi⟩, fun b hb => ?_, hpos, ?_, ⟨I0, keep0 _ _ hf⟩, ?_⟩
      · rw [List.mem_cons, List.mem_singleton] at hb
        rw [size0]
        rcases hb with hb | hb
        · rw [hb]
          exact Nat.lt_succ_self _
        · rw [hb]
          exact Nat.lt_succ_of_lt pl.lt
      · refine ⟨fun z z' hJ mv => ⟨?_, ?_⟩, fun i k z z' hV _ => hV, fun i v z o Q' E' hi' hP hJ hS hSo hk => ?_, fun i j ki kj z Q' E' _ hi' hj' hQ => ?_⟩
        · obtain ⟨h', g', d', t', o'⟩ := z'
          obtain rfl : g' = z.gens := mv.gens
          obtain rfl : d' = z.drawn := mv.drawn
          obtain rfl : o' = z.os := mv.os
          refine hJ.1.turnedL (ch := [z0.heap.objs.size, s2.heap.objs.size]) (fun b o hb e => mv.heap b o (by simpa using hb) e) fun b hb => ?_
          rw [List.mem_cons, List.mem_singleton] at hb
          have hge : s2.heap.objs.size ≤ b := by
            rcases hb with hb | hb
            · rw [hb, size0]
              exact Nat.le_succ _
            · rw [hb]
              exact Nat.le_refl _
          exact I2.fpOk hge (nn b hge)
        · refine mv.heap f _ (fun hb => ?_) hJ.2
          rw [List.mem_cons, List.mem_singleton] at hb
          rcases hb with hb | hb
          · rw [hb, size0] at hfl
            exact Nat.lt_irrefl _ (Nat.lt_of_succ_lt hfl)
          · rw [hb] at hfl
            exact Nat.lt_irrefl _ hfl
        · obtain ⟨hlt, t, rfl⟩ := hP
          obtain ⟨I3, hf3⟩ := hJ
          have hmem : ns.getD i 0 ∈ ns := by
            rw [List.getD_eq_getElem?_getD, List.getElem?_eq_getElem hlt]
            exact List.getElem_mem hlt
          refine lam_call (k := k) (v := .int (ns.getD i 0)) (z := .int (g (ns.getD i 0))) I3 L nd hj hf3 hco I3.env0.frames (hr.mono (by omega)).in1 ⟨t, rfl⟩ (hbind _ _ _ _ _ _)
            (fun f c' hr2 => pe_dget (hu_of hr2) (pe_var (i := jx) hjx (.inr (.inr hvx)) hdx hcx) (pe_var (i := j) hj (.inl L.par) hdy hcy) (fun _ _ => rfl)) ?_ fun w' s' rw' os bare un hok => ?_
          · refine ⟨.ref dd, ?_, .int (ns.getD i 0), ?_, dd, .int (g (ns.getD i 0)), rfl, ?_, rfl, rfl⟩
            · rw [List.getElem?_set_ne (Ne.symm hxj)]
              exact hσ
            · rw [List.getElem?_set_self]
              rw [I3.len]
              exact (List.getElem?_eq_some_iff.mp hj).1
            · have q := DGet.k (k := Sum.inl (ns.getD i 0)) hdd2
              rw [hval _ hmem] at q
              exact q
          · have I4 : Inv X pins σ H2 s' := I3.call' (ch := []) os un hok bare (fun b z => absurd z (by simp))
            have kp : ∀ b o, s2.heap.objs.size ≤ b ∨ b = f → z.heap.get? b = some o → s'.heap.get? b = some o := fun b o hb e => by
              rcases hb with hb | hb
              · exact un.keep b o e (nn b hb) (nofr b hb) (by simp)
              · rw [hb] at e ⊢
                exact un.keep f o e hfn hfr (by simp)
            obtain ⟨t', rfl⟩ := rw'
            obtain ⟨its', rv', pl', _⟩ := I4.list hq2
            refine hk _ s' ⟨I4, kp f _ (.inr rfl) hf3⟩ ⟨hS.1.at fun o e => kp _ o (.inl (Nat.le_refl _)) e, its'.toArray, pl'.isList, rv'.ints⟩ (kp _ _ (.inl (by rw [size0]; exact Nat.le_succ _)) hSo) ⟨t', rfl⟩ fun _ _ z => z
        · exact CmpOf.ints_lt (P := fun i k => ∃ t, k = .int (g (ns.getD i 0)) t) (fun i => g (ns.getD i 0)) (fun _ _ z => z) i j ki kj z Q' E' hi' hj' hQ
      · rintro v s' ⟨hlt, t, rfl⟩ ⟨I5, _⟩
        have hmem : ns.getD (argBest (fun i j => decide (g (ns.getD i 0) < g (ns.getD j 0))) (ns.length - 1)) 0 ∈ ns := by
          rw [List.getD_eq_getElem?_getD, List.getElem?_eq_getElem hlt]
          exact List.getElem_mem hlt
        exact ⟨.int _, H2, I5, ⟨t, rfl⟩, hfin _ H2 hmem eN T2⟩
end
end Vb
end

section
/-! # The text by places, and what the top has of it -/
namespace Vb
open PySem PySem.Spec PyProof.Rows L2
def topS (i : Nat) : Stmt := PySem.Challenge.pw_smallertrades_s01_answers.main.body.getD i (.Pass ⟨0, 0, 0, 0⟩)
abbrev s_within : Stmt := topS 9
theorem sc_within : FnScope ["number", "low", "high"] ["number", "low", "high"] (defScope s_within) := ⟨rfl, rfl, rfl, by decide +kernel, rfl, by decide +kernel, by decide +kernel⟩
abbrev s_numbers_for_trades : Stmt := topS 10
theorem sc_numbers_for_trades : FnScope ["house", "numbers", "number"] ["house", "numbers"] (defScope s_numbers_for_trades) := ⟨rfl, rfl, rfl, by decide +kernel, rfl, by decide +kernel, by decide +kernel⟩
abbrev s_potentials_for_members : Stmt := topS 11
theorem sc_potentials_for_members : FnScope ["house", "numbers", "fitting", "number"] ["house", "numbers"] (defScope s_potentials_for_members) := ⟨rfl, rfl, rfl, by decide +kernel, rfl, by decide +kernel, by decide +kernel⟩
abbrev s_answer_trade : Stmt := topS 12
theorem sc_answer_trade : FnScope ["house", "arguments", "key", "giver", "to", "amount", "least", "number"] ["house", "arguments"] (defScope s_answer_trade) := ⟨rfl, rfl, rfl, by decide +kernel, rfl, by decide +kernel, by decide +kernel⟩
abbrev s_answer_drop : Stmt := topS 13
theorem sc_answer_drop : FnScope ["house", "arguments", "key", "amount"] ["house", "arguments"] (defScope s_answer_drop) := ⟨rfl, rfl, rfl, by decide +kernel, rfl, by decide +kernel, by decide +kernel⟩
abbrev s_answer_floor : Stmt := topS 14
theorem sc_answer_floor : FnScope ["house", "arguments", "key", "least"] ["house", "arguments"] (defScope s_answer_floor) := ⟨rfl, rfl, rfl, by decide +kernel, rfl, by decide +kernel, by decide +kernel⟩
abbrev s_answer_take : Stmt := topS 15
theorem sc_answer_take : FnScope ["house", "arguments", "numbers"] ["house", "arguments"] (defScope s_answer_take) := ⟨rfl, rfl, rfl, by decide +kernel, rfl, by decide +kernel, by decide +kernel⟩
abbrev s_answer_apply : Stmt := topS 16
theorem sc_answer_apply : FnScope ["house", "arguments", "numbers", "greatest"] ["house", "arguments"] (defScope s_answer_apply) := ⟨rfl, rfl, rfl, by decide +kernel, rfl, by decide +kernel, by decide +kernel⟩
abbrev s_answer_net : Stmt := topS 17
theorem sc_answer_net : FnScope ["house", "arguments", "member", "given", "trade", "taken"] ["house", "arguments"] (defScope s_answer_net) := ⟨rfl, rfl, rfl, by decide +kernel, rfl, by decide +kernel, by decide +kernel⟩
abbrev s_answer_gross : Stmt := topS 18
theorem sc_answer_gross : FnScope ["house", "arguments", "trades", "trade"] ["house", "arguments"] (defScope s_answer_gross) := ⟨rfl, rfl, rfl, by decide +kernel, rfl, by decide +kernel, by decide +kernel⟩
abbrev s_answer_greatest : Stmt := topS 19
theorem sc_answer_greatest : FnScope ["house", "arguments"] ["house", "arguments"] (defScope s_answer_greatest) := ⟨rfl, rfl, rfl, by decide +kernel, rfl, by decide +kernel, by decide +kernel⟩
abbrev s_answer_told : Stmt := topS 20
theorem sc_answer_told : FnScope ["house", "arguments", "keys", "told", "key", "number"] ["house", "arguments"] (defScope s_answer_told) := ⟨rfl, rfl, rfl, by decide +kernel, rfl, by decide +kernel, by decide +kernel⟩
abbrev s_answer_isone : Stmt := topS 21
theorem sc_answer_isone : FnScope ["house", "arguments", "numbers"] ["house", "arguments"] (defScope s_answer_isone) := ⟨rfl, rfl, rfl, by decide +kernel, rfl, by decide +kernel, by decide +kernel⟩
abbrev s_answer_bound : Stmt := topS 22
theorem sc_answer_bound : FnScope ["house", "arguments", "potentials"] ["house", "arguments"] (defScope s_answer_bound) := ⟨rfl, rfl, rfl, by decide +kernel, rfl, by decide +kernel, by decide +kernel⟩
abbrev s_answer_potentials : Stmt := topS 23
theorem sc_answer_potentials : FnScope ["house", "arguments", "members", "potentials", "told", "member"] ["house", "arguments"] (defScope s_answer_potentials) := ⟨rfl, rfl, rfl, by decide +kernel, rfl, by decide +kernel, by decide +kernel⟩
abbrev s_answer_proves : Stmt := topS 24
theorem sc_answer_proves : FnScope ["house", "arguments", "potentials", "numbers"] ["house", "arguments"] (defScope s_answer_proves) := ⟨rfl, rfl, rfl, by decide +kernel, rfl, by decide +kernel, by decide +kernel⟩
abbrev s_answer_without : Stmt := topS 25
theorem sc_answer_without : FnScope ["house", "arguments", "key"] ["house", "arguments"] (defScope s_answer_without) := ⟨rfl, rfl, rfl, by decide +kernel, rfl, by decide +kernel, by decide +kernel⟩
abbrev s_answer_pairs : Stmt := topS 26
theorem sc_answer_pairs : FnScope ["house", "arguments", "members", "cancelled", "place", "one", "other"] ["house", "arguments"] (defScope s_answer_pairs) := ⟨rfl, rfl, rfl, by decide +kernel, rfl, by decide +kernel, by decide +kernel⟩
abbrev s_answer_worth : Stmt := topS 27
theorem sc_answer_worth : FnScope ["house", "arguments", "key"] ["house", "arguments"] (defScope s_answer_worth) := ⟨rfl, rfl, rfl, by decide +kernel, rfl, by decide +kernel, by decide +kernel⟩
abbrev s_answer_members : Stmt := topS 28
theorem sc_answer_members : FnScope ["house", "arguments", "members"] ["house", "arguments"] (defScope s_answer_members) := ⟨rfl, rfl, rfl, by decide +kernel, rfl, by decide +kernel, by decide +kernel⟩
abbrev s_answer_trades : Stmt := topS 29
theorem sc_answer_trades : FnScope ["house", "arguments", "told", "key", "trade"] ["house", "arguments"] (defScope s_answer_trades) := ⟨rfl, rfl, rfl, by decide +kernel, rfl, by decide +kernel, by decide +kernel⟩
abbrev s_answer_between : Stmt := topS 30
theorem sc_answer_between : FnScope ["house", "arguments", "one", "other", "amounts", "trade"] ["house", "arguments"] (defScope s_answer_between) := ⟨rfl, rfl, rfl, by decide +kernel, rfl, by decide +kernel, by decide +kernel⟩
abbrev s_shape_of : Stmt := topS 32
theorem sc_shape_of : FnScope ["number"] ["number"] (defScope s_shape_of) := ⟨rfl, rfl, rfl, by decide +kernel, rfl, by decide +kernel, by decide +kernel⟩
abbrev s_answer_call : Stmt := topS 33
theorem sc_answer_call : FnScope ["house", "number", "arguments"] ["house", "number", "arguments"] (defScope s_answer_call) := ⟨rfl, rfl, rfl, by decide +kernel, rfl, by decide +kernel, by decide +kernel⟩
abbrev s_moves_of : Stmt := topS 36
theorem sc_moves_of : FnScope ["trades", "numbers", "places", "moves", "place", "giver", "to", "room"] ["trades", "numbers", "places"] (defScope s_moves_of) := ⟨rfl, rfl, rfl, by decide +kernel, rfl, by decide +kernel, by decide +kernel⟩
abbrev s_shortest_ways : Stmt := topS 37
theorem sc_shortest_ways : FnScope ["moves", "starts", "lengths", "last_moves", "start", "changed", "move", "length"] ["moves", "starts"] (defScope s_shortest_ways) := ⟨rfl, rfl, rfl, by decide +kernel, rfl, by decide +kernel, by decide +kernel⟩
abbrev s_gain_of : Stmt := topS 38
theorem sc_gain_of : FnScope ["length"] ["length"] (defScope s_gain_of) := ⟨rfl, rfl, rfl, by decide +kernel, rfl, by decide +kernel, by decide +kernel⟩
abbrev s_way_to : Stmt := topS 39
theorem sc_way_to : FnScope ["member", "last_moves", "way", "move"] ["member", "last_moves"] (defScope s_way_to) := ⟨rfl, rfl, rfl, by decide +kernel, rfl, by decide +kernel, by decide +kernel⟩
abbrev s_leeway : Stmt := topS 40
theorem sc_leeway : FnScope ["trades", "numbers", "way", "sizes", "start", "end", "length", "place", "change"] ["trades", "numbers", "way"] (defScope s_leeway) := ⟨rfl, rfl, rfl, by decide +kernel, rfl, by decide +kernel, by decide +kernel⟩
abbrev s_shift : Stmt := topS 41
theorem sc_shift : FnScope ["numbers", "way", "size", "start", "end", "length", "place", "change"] ["numbers", "way", "size"] (defScope s_shift) := ⟨rfl, rfl, rfl, by decide +kernel, rfl, by decide +kernel, by decide +kernel⟩
abbrev s_members_of : Stmt := topS 43
theorem sc_members_of : FnScope ["trades", "named", "giver", "to", "room"] ["trades"] (defScope s_members_of) := ⟨rfl, rfl, rfl, by decide +kernel, rfl, by decide +kernel, by decide +kernel⟩
abbrev s_worth_of : Stmt := topS 44
theorem sc_worth_of : FnScope ["giver", "to", "potentials"] ["giver", "to", "potentials"] (defScope s_worth_of) := ⟨rfl, rfl, rfl, by decide +kernel, rfl, by decide +kernel, by decide +kernel⟩
abbrev s_bound_of : Stmt := topS 45
theorem sc_bound_of : FnScope ["trades", "potentials", "giver", "to", "room"] ["trades", "potentials"] (defScope s_bound_of) := ⟨rfl, rfl, rfl, by decide +kernel, rfl, by decide +kernel, by decide +kernel⟩
abbrev s_least_potentials : Stmt := topS 46
theorem sc_least_potentials : FnScope ["trades", "numbers", "lengths", "last_moves", "potentials", "member"] ["trades", "numbers"] (defScope s_least_potentials) := ⟨rfl, rfl, rfl, by decide +kernel, rfl, by decide +kernel, by decide +kernel⟩
abbrev s_told_reduction : Stmt := topS 48
theorem sc_told_reduction : FnScope ["trades", "numbers"] ["trades"] (defScope s_told_reduction) := ⟨rfl, rfl, rfl, by decide +kernel, rfl, by decide +kernel, by decide +kernel⟩
abbrev s_greatest_reduction : Stmt := topS 49
theorem sc_greatest_reduction : FnScope ["trades", "numbers", "giver", "to", "room"] ["trades"] (defScope s_greatest_reduction) := ⟨rfl, rfl, rfl, by decide +kernel, rfl, by decide +kernel, by decide +kernel⟩
abbrev s_is_reduction : Stmt := topS 50
theorem sc_is_reduction : FnScope ["trades", "numbers", "place", "number", "over", "member"] ["trades", "numbers"] (defScope s_is_reduction) := ⟨rfl, rfl, rfl, by decide +kernel, rfl, by decide +kernel, by decide +kernel⟩
abbrev s_overhangs : Stmt := topS 51
theorem sc_overhangs : FnScope ["trades", "numbers", "over", "place", "number", "giver", "to", "room"] ["trades", "numbers"] (defScope s_overhangs) := ⟨rfl, rfl, rfl, by decide +kernel, rfl, by decide +kernel, by decide +kernel⟩
abbrev s_even_out : Stmt := topS 52
theorem sc_even_out : FnScope ["trades", "numbers", "places", "over", "starts", "member", "lengths", "last_moves", "ends", "end", "way", "start", "size"] ["trades", "numbers"] (defScope s_even_out) := ⟨rfl, rfl, rfl, by decide +kernel, rfl, by decide +kernel, by decide +kernel⟩
abbrev s_prefer_low_keys : Stmt := topS 53
theorem sc_prefer_low_keys : FnScope ["trades", "numbers", "potentials", "free", "place", "trade", "other"] ["trades", "numbers"] (defScope s_prefer_low_keys) := ⟨rfl, rfl, rfl, by decide +kernel, rfl, by decide +kernel, by decide +kernel⟩
abbrev s_raise_number : Stmt := topS 54
theorem sc_raise_number : FnScope ["trades", "numbers", "place", "places", "giver", "to", "room", "lengths", "last_moves", "way", "size"] ["trades", "numbers", "place", "places"] (defScope s_raise_number) := ⟨rfl, rfl, rfl, by decide +kernel, rfl, by decide +kernel, by decide +kernel⟩
abbrev s_Trade_init : Stmt := inClass (topS 58) 0
theorem sc_Trade_init : FnScope ["self", "giver", "to", "amount", "least"] ["self", "giver", "to", "amount", "least"] (defScope s_Trade_init) := ⟨rfl, rfl, rfl, by decide +kernel, rfl, by decide +kernel, by decide +kernel⟩
abbrev s_room : Stmt := inClass (topS 58) 1
theorem sc_room : FnScope ["self"] ["self"] (defScope s_room) := ⟨rfl, rfl, rfl, by decide +kernel, rfl, by decide +kernel, by decide +kernel⟩
abbrev s_House_init : Stmt := inClass (topS 59) 0
theorem sc_House_init : FnScope ["self"] ["self"] (defScope s_House_init) := ⟨rfl, rfl, rfl, by decide +kernel, rfl, by decide +kernel, by decide +kernel⟩
abbrev s_has : Stmt := inClass (topS 59) 1
theorem sc_has : FnScope ["self", "key"] ["self", "key"] (defScope s_has) := ⟨rfl, rfl, rfl, by decide +kernel, rfl, by decide +kernel, by decide +kernel⟩
abbrev s_entry : Stmt := inClass (topS 59) 2
theorem sc_entry : FnScope ["self", "key"] ["self", "key"] (defScope s_entry) := ⟨rfl, rfl, rfl, by decide +kernel, rfl, by decide +kernel, by decide +kernel⟩
abbrev s_order : Stmt := inClass (topS 59) 3
theorem sc_order : FnScope ["self"] ["self"] (defScope s_order) := ⟨rfl, rfl, rfl, by decide +kernel, rfl, by decide +kernel, by decide +kernel⟩
abbrev s_listed : Stmt := inClass (topS 59) 4
theorem sc_listed : FnScope ["self", "key"] ["self"] (defScope s_listed) := ⟨rfl, rfl, rfl, by decide +kernel, rfl, by decide +kernel, by decide +kernel⟩
abbrev s_members : Stmt := inClass (topS 59) 5
theorem sc_members : FnScope ["self"] ["self"] (defScope s_members) := ⟨rfl, rfl, rfl, by decide +kernel, rfl, by decide +kernel, by decide +kernel⟩
abbrev s_takes_in : Stmt := inClass (topS 59) 6
theorem sc_takes_in : FnScope ["self", "giver", "to", "named"] ["self", "giver", "to"] (defScope s_takes_in) := ⟨rfl, rfl, rfl, by decide +kernel, rfl, by decide +kernel, by decide +kernel⟩
abbrev s_enter : Stmt := inClass (topS 59) 7
theorem sc_enter : FnScope ["self", "key", "giver", "to", "amount", "least"] ["self", "key", "giver", "to", "amount", "least"] (defScope s_enter) := ⟨rfl, rfl, rfl, by decide +kernel, rfl, by decide +kernel, by decide +kernel⟩
abbrev s_strike : Stmt := inClass (topS 59) 8
theorem sc_strike : FnScope ["self", "key"] ["self", "key"] (defScope s_strike) := ⟨rfl, rfl, rfl, by decide +kernel, rfl, by decide +kernel, by decide +kernel⟩
abbrev s_set_least : Stmt := inClass (topS 59) 9
theorem sc_set_least : FnScope ["self", "key", "least", "trade"] ["self", "key", "least"] (defScope s_set_least) := ⟨rfl, rfl, rfl, by decide +kernel, rfl, by decide +kernel, by decide +kernel⟩
abbrev s_lessen : Stmt := inClass (topS 59) 10
theorem sc_lessen : FnScope ["self", "numbers", "key", "number", "trade"] ["self", "numbers"] (defScope s_lessen) := ⟨rfl, rfl, rfl, by decide +kernel, rfl, by decide +kernel, by decide +kernel⟩
abbrev s_rooms : Stmt := inClass (topS 59) 11
theorem sc_rooms : FnScope ["self", "trade"] ["self"] (defScope s_rooms) := ⟨rfl, rfl, rfl, by decide +kernel, rfl, by decide +kernel, by decide +kernel⟩
abbrev s_reduction : Stmt := inClass (topS 59) 12
theorem sc_reduction : FnScope ["self"] ["self"] (defScope s_reduction) := ⟨rfl, rfl, rfl, by decide +kernel, rfl, by decide +kernel, by decide +kernel⟩
abbrev s_allows : Stmt := inClass (topS 59) 13
theorem sc_allows : FnScope ["self", "numbers"] ["self", "numbers"] (defScope s_allows) := ⟨rfl, rfl, rfl, by decide +kernel, rfl, by decide +kernel, by decide +kernel⟩
abbrev s_greatest_with : Stmt := inClass (topS 59) 14
theorem sc_greatest_with : FnScope ["self", "key", "room", "trades", "other", "trade"] ["self", "key", "room"] (defScope s_greatest_with) := ⟨rfl, rfl, rfl, by decide +kernel, rfl, by decide +kernel, by decide +kernel⟩
abbrev s_potentials : Stmt := inClass (topS 59) 15
theorem sc_potentials : FnScope ["self"] ["self"] (defScope s_potentials) := ⟨rfl, rfl, rfl, by decide +kernel, rfl, by decide +kernel, by decide +kernel⟩
abbrev s_bound : Stmt := inClass (topS 59) 16
theorem sc_bound : FnScope ["self", "potentials"] ["self", "potentials"] (defScope s_bound) := ⟨rfl, rfl, rfl, by decide +kernel, rfl, by decide +kernel, by decide +kernel⟩
abbrev s_worth : Stmt := inClass (topS 59) 17
theorem sc_worth : FnScope ["self", "key", "trade"] ["self", "key"] (defScope s_worth) := ⟨rfl, rfl, rfl, by decide +kernel, rfl, by decide +kernel, by decide +kernel⟩
abbrev s_room_between : Stmt := inClass (topS 59) 18
theorem sc_room_between : FnScope ["self", "giver", "to", "trade"] ["self", "giver", "to"] (defScope s_room_between) := ⟨rfl, rfl, rfl, by decide +kernel, rfl, by decide +kernel, by decide +kernel⟩
abbrev s_cancelled_between : Stmt := inClass (topS 59) 19
theorem sc_cancelled_between : FnScope ["self", "one", "other"] ["self", "one", "other"] (defScope s_cancelled_between) := ⟨rfl, rfl, rfl, by decide +kernel, rfl, by decide +kernel, by decide +kernel⟩
abbrev s_answers : Stmt := topS 61
theorem sc_answers : FnScope ["calls", "house", "given", "place", "number", "arguments", "told"] ["calls"] (defScope s_answers) := ⟨rfl, rfl, rfl, by decide +kernel, rfl, by decide +kernel, by decide +kernel⟩
abbrev s_read_arguments : Stmt := topS 62
theorem sc_read_arguments : FnScope ["calls", "place", "shape", "numbers", "lists", "behind", "arguments", "count", "first"] ["calls", "place", "shape"] (defScope s_read_arguments) := ⟨rfl, rfl, rfl, by decide +kernel, rfl, by decide +kernel, by decide +kernel⟩
/-- a def whose code object is told -/
def DefCode (K : PySem.W.Frag) (mg : Str → Option Value) (x : Str) (st : Stmt) (ps : List Str) (c : Addr) : Prop := ∃ f oc od kV doc pm an ct osl, K.lookup f = some ⟨oc, od, .func (PySem.W.fnOf x x (defArgs st) (defBody st) (defScope st) .none kV doc pm an (.ref c) ct), osl⟩ ∧ PySem.W.codeIn K (.ref c) x = true ∧ PySem.W.keepIn K (.ref f) = true ∧ mg x = some (.ref f) ∧ Binds K (PySem.W.fnOf x x (defArgs st) (defBody st) (defScope st) .none kV doc pm an (.ref c) ct) ps []
/-- what the top has of the constants and built-in names -/
structure Tb (mg : Str → Option Value) : Prop where
  m_len : mg "len" = none
  m_all : mg "all" = none
  m_any : mg "any" = none
  m_sum : mg "sum" = none
  m_min : mg "min" = none
  m_max : mg "max" = none
  m_sorted : mg "sorted" = none
  m_set : mg "set" = none
  m_list : mg "list" = none
  m_dict : mg "dict" = none
  m_range : mg "range" = none
  m_zip : mg "zip" = none
  m_enumerate : mg "enumerate" = none
  c_LOSS : ∃ u, mg "LOSS" = some u ∧ RelV (.int 64) u
  c_MOST_MEMBERS : ∃ u, mg "MOST_MEMBERS" = some u ∧ RelV (.int 12) u
  c_MOST_TRADES : ∃ u, mg "MOST_TRADES" = some u ∧ RelV (.int 40) u
  c_NO_REDUCTION : ∃ u, mg "NO_REDUCTION" = some u ∧ RelV (.int (-6)) u
  c_OUT_OF_RANGE : ∃ u, mg "OUT_OF_RANGE" = some u ∧ RelV (.int (-1)) u
  c_UNFIT : ∃ u, mg "UNFIT" = some u ∧ RelV (.int (-3)) u
  c_KEY_TAKEN : ∃ u, mg "KEY_TAKEN" = some u ∧ RelV (.int (-2)) u
  c_FARTHEST_POTENTIAL : ∃ u, mg "FARTHEST_POTENTIAL" = some u ∧ RelV (.int 1000000) u
  c_NO_PLACE : ∃ u, mg "NO_PLACE" = some u ∧ RelV (.int (-9)) u
  c_NOT_THERE : ∃ u, mg "NOT_THERE" = some u ∧ RelV (.int (-4)) u
  c_MOST : ∃ u, mg "MOST" = some u ∧ RelV (.int 1000000000) u
/-- what the top has of the classes -/
structure Tc (K : PySem.W.Frag) (mg : Str → Option Value) (TC HC : Addr) : Prop extends Tb mg where
  clT : Cls K TC
  clH : Cls K HC
  nT_giver : NoAttr K TC "giver"
  nT_to : NoAttr K TC "to"
  nT_amount : NoAttr K TC "amount"
  nT_least : NoAttr K TC "least"
  nH_book : NoAttr K HC "book"
  nH_kept : NoAttr K HC "kept"
end Vb
end

section
/-! # How the data lie in the heap -/
namespace Vb
open PySem PySem.Spec PyProof.Rows L2 Nw
/-! ## Heaps -/
theorem same_upd {H : Hp} {p : Addr} {o : HO} (h : H p = none) : Same H (upd H p o) := fun b x e => by
  rw [upd_ne (ne_of_none e h)]
  exact e
/-- all but what stands at l -/
def But (l : Addr) (H H' : Hp) : Prop := ∀ b o, H b = some o → b ≠ l → H' b = some o
theorem But.refl (l : Addr) (H : Hp) : But l H H := fun _ _ e _ => e
theorem But.trans {l : Addr} {H H1 H2 : Hp} (a : But l H H1) (b : But l H1 H2) : But l H H2 := fun c o e n => b c o (a c o e n) n
theorem Same.but {l : Addr} {H H' : Hp} (a : Same H H') : But l H H' := fun c o e _ => a c o e
theorem But.upd {l : Addr} {H H' : Hp} {o : HO} (a : But l H H') : But l H (upd H' l o) := fun c q e n => by
  rw [upd_ne n]
  exact a c q e n
/-- what is new stays apart: from H on all stands, l was free -/
theorem But.same {l : Addr} {H H1 H2 : Hp} (a : Same H H1) (n : H l = none) (b : But l H1 H2) : Same H H2 := fun c o e => b c o (a c o e) (ne_of_none e n)
/-- lists, tuples, locked things: what methods of the house never touch -/
def Flat : HO → Prop
  | .lst _ => True
  | .tup _ => True
  | .frz _ _ => True
  | .ext _ => True
  | _ => False
/-! ## Dicts with natural keys -/
def dkL (ks : List Nat) (g : Nat → V) : List (Key × V) := ks.map fun (m : Nat) => ((Sum.inl (m : Int) : Key), g m)
theorem dkL_nil (g : Nat → V) : dkL [] g = [] := rfl
theorem dkL_len (ks : List Nat) (g : Nat → V) : (dkL ks g).length = ks.length := List.length_map _
theorem dkL_congr {ks : List Nat} {g h : Nat → V} (e : ∀ m, m ∈ ks → g m = h m) : dkL ks g = dkL ks h := List.map_congr_left fun m hm => by rw [e m hm]
theorem key_eq {a b : Nat} : ((Sum.inl (a : Int) : Key) = Sum.inl (b : Int)) ↔ a = b := ⟨fun h => Int.ofNat.inj (Sum.inl.inj h), fun h => by rw [h]⟩
theorem valV_dk (g : Nat → V) (m : Nat) : ∀ ks : List Nat, valV (dkL ks g) (.inl (m : Int)) = if m ∈ ks then some (g m) else none
  | [] => rfl
  | a :: ks => by
    show valV ((Sum.inl (a : Int), g a) :: dkL ks g) _ = _
    by_cases c : a = m
    · subst c
      rw [valV_pos rfl, if_pos List.mem_cons_self]
    · rw [valV_neg fun e => c (key_eq.mp e), valV_dk g m ks]
      by_cases k : m ∈ ks
      · rw [if_pos k, if_pos (List.mem_cons_of_mem _ k)]
      · rw [if_neg k, if_neg fun z => (List.mem_cons.mp z).elim (fun z => c z.symm) k]
theorem valV_in_ {ks : List Nat} {g : Nat → V} {m : Nat} (h : m ∈ ks) : valV (dkL ks g) (.inl (m : Int)) = some (g m) := by rw [valV_dk, if_pos h]
theorem valV_out {ks : List Nat} {g : Nat → V} {m : Nat} (h : ¬ m ∈ ks) : valV (dkL ks g) (.inl (m : Int)) = none := by rw [valV_dk, if_neg h]
theorem putK_dk (ks : List Nat) (g : Nat → V) (m : Nat) (v : V) : putK (dkL ks g) (.inl (m : Int)) v = dkL (addk ks m) (fu g m v) := by
  have ev := valV_dk g m ks
  by_cases c : m ∈ ks
  · rw [addk_in c]
    rw [if_pos c] at ev
    unfold putK
    rw [if_pos (by rw [valV_any, ev] <;> rfl)]
    unfold dkL
    rw [List.map_map]
    refine List.map_congr_left fun k _ => ?_
    show (if (Sum.inl (k : Int) : Key) = Sum.inl (m : Int) then ((Sum.inl (k : Int) : Key), v) else (Sum.inl (k : Int), g k)) = _
    by_cases e : k = m
    · subst e
      rw [if_pos rfl, fu_same]
    · rw [if_neg fun z => e (key_eq.mp z), fu_ne e]
  · rw [addk_out c]
    rw [if_neg c] at ev
    rw [putK_new v ev]
    unfold dkL
    rw [List.map_append]
    show _ = _ ++ [(Sum.inl (m : Int), fu g m v m)]
    rw [fu_same]
    congr 1
    exact List.map_congr_left fun k hk => by rw [fu_ne (show k ≠ m from fun e => c (by rw [← e]; exact hk))]
theorem dropK_dk (ks : List Nat) (g : Nat → V) (m : Nat) : dropK (dkL ks g) (.inl (m : Int)) = dkL (ks.filter fun k => decide (k ≠ m)) g := by
  unfold dropK dkL
  rw [List.filter_map]
  congr 1
  refine List.filter_congr fun k _ => ?_
  show decide ((Sum.inl (k : Int) : Key) ≠ Sum.inl (m : Int)) = decide (k ≠ m)
  by_cases e : k = m
  · subst e
    simp
  · rw [decide_eq_true (show k ≠ m from e), decide_eq_true (show (Sum.inl (k : Int) : Key) ≠ Sum.inl (m : Int) from fun z => e (key_eq.mp z))]
theorem dget_in {H : Hp} {d : Addr} {ks : List Nat} {g : Nat → V} {m : Nat} (h : H d = some (.dK (dkL ks g))) (hm : m ∈ ks) : DGet H d (.int (m : Int)) (some (g m)) := by
  have q := DGet.k (k := Sum.inl (m : Int)) h
  rw [valV_in_ hm] at q
  exact q
theorem dget_any {H : Hp} {d : Addr} {ks : List Nat} {g : Nat → V} {m : Nat} (h : H d = some (.dK (dkL ks g))) : DGet H d (.int (m : Int)) (if m ∈ ks then some (g m) else none) := by
  have q := DGet.k (k := Sum.inl (m : Int)) h
  rw [valV_dk] at q
  exact q
theorem dget_frz {H : Hp} {d : Addr} {o : Obj} {ks : List Nat} {g : Nat → V} {m : Nat} (h : H d = some (.frz o (.dK (dkL ks g)))) (hm : m ∈ ks) : DGet H d (.int (m : Int)) (some (g m)) :=
  .inl ⟨dkL ks g, Sum.inl (m : Int), .inr ⟨o, h⟩, rfl, (valV_in_ hm).symm⟩
theorem dput_dk {H : Hp} {d : Addr} {ks : List Nat} {g : Nat → V} {m : Nat} {v : V} (h : H d = some (.dK (dkL ks g))) (hl : ks.length < sizeLine) : DPut H d (.int (m : Int)) v (upd H d (.dK (dkL (addk ks m) (fu g m v)))) := by
  have q := DPut.k (k := Sum.inl (m : Int)) (v := v) h (by rw [dkL_len]; exact hl)
  rw [putK_dk] at q
  exact q
theorem int_fu (L : Nat → Int) (m : Nat) (x : Int) : (fun k => V.int (fu L m x k)) = fu (fun k => V.int (L k)) m (V.int x) := by
  funext k
  unfold fu
  split <;> rfl
/-! ## Rows: lists of tuples of whole numbers -/
def TupAt (H : Hp) (v : V) (row : List Int) : Prop := ∃ p, v = .ref p ∧ H p = some (.tup (row.map V.int))
theorem TupAt.mono {H H' : Hp} {v : V} {row : List Int} (h : TupAt H v row) (e : ∀ b o, Flat o → H b = some o → H' b = some o) : TupAt H' v row := by
  obtain ⟨p, r, q⟩ := h
  exact ⟨p, r, e _ _ trivial q⟩
structure RowsL (H : Hp) (xs : List V) (rows : List (List Int)) : Prop where
  len : xs.length = rows.length
  get : ∀ (i : Nat) (row : List Int), rows[i]? = some row → ∃ v, xs[i]? = some v ∧ TupAt H v row
theorem RowsL.mono {H H' : Hp} {xs : List V} {rows : List (List Int)} (h : RowsL H xs rows) (e : ∀ b o, Flat o → H b = some o → H' b = some o) : RowsL H' xs rows :=
  ⟨h.len, fun i row hi => let ⟨v, a, b⟩ := h.get i row hi; ⟨v, a, b.mono e⟩⟩
theorem RowsL.nil (H : Hp) : RowsL H [] [] := ⟨rfl, fun i row hi => by simp at hi⟩
theorem RowsL.snoc {H : Hp} {xs : List V} {rows : List (List Int)} {v : V} {row : List Int} (h : RowsL H xs rows) (hv : TupAt H v row) : RowsL H (xs ++ [v]) (rows ++ [row]) := by
  refine ⟨by rw [List.length_append, List.length_append, h.len]; rfl, fun i r hi => ?_⟩
  by_cases c : i < rows.length
  · rw [List.getElem?_append_left c] at hi
    obtain ⟨x, a, b⟩ := h.get i r hi
    exact ⟨x, by rw [List.getElem?_append_left (by rw [h.len]; exact c)]; exact a, b⟩
  · rw [List.getElem?_append_right (by omega)] at hi
    have e : i - rows.length = 0 := by
      by_cases z : i - rows.length = 0
      · exact z
      · rw [List.getElem?_eq_none (by show 1 ≤ _; omega)] at hi
        cases hi
    rw [e] at hi
    obtain rfl := Option.some.inj hi
    refine ⟨v, ?_, hv⟩
    rw [List.getElem?_append_right (by rw [h.len]; omega), h.len, e]
    rfl
theorem RowsL.at {H : Hp} {xs : List V} {rows : List (List Int)} (h : RowsL H xs rows) {i : Nat} {x : V} (hx : xs[i]? = some x) : ∃ row, rows[i]? = some row ∧ TupAt H x row := by
  have hl := (List.getElem?_eq_some_iff.mp hx).1
  rw [h.len] at hl
  obtain ⟨v, a, b⟩ := h.get i rows[i] (List.getElem?_eq_getElem hl)
  rw [hx] at a
  obtain rfl := Option.some.inj a
  exact ⟨_, List.getElem?_eq_getElem hl, b⟩
def RowsAt (H : Hp) (a : Addr) (rows : List (List Int)) : Prop := ∃ xs, H a = some (.lst xs) ∧ RowsL H xs rows
theorem RowsAt.mono {H H' : Hp} {a : Addr} {rows : List (List Int)} (h : RowsAt H a rows) (e : ∀ b o, Flat o → H b = some o → H' b = some o) : RowsAt H' a rows := by
  obtain ⟨xs, p, q⟩ := h
  exact ⟨xs, e _ _ trivial p, q.mono e⟩
theorem RowsAt.same {H H' : Hp} {a : Addr} {rows : List (List Int)} (h : RowsAt H a rows) (e : Same H H') : RowsAt H' a rows := h.mono fun b o _ q => e b o q
/-- a tuple is no list -/
theorem RowsAt.but {H H' : Hp} {a l : Addr} {rows : List (List Int)} {ys : List V} (h : RowsAt H a rows) (hl : H l = some (.lst ys)) (ne : a ≠ l) (e : But l H H') : RowsAt H' a rows := by
  obtain ⟨xs, p, q⟩ := h
  refine ⟨xs, e _ _ p ne, q.len, fun i row hi => ?_⟩
  obtain ⟨v, a1, b, rfl, hb⟩ := q.get i row hi
  exact ⟨_, a1, b, rfl, e _ _ hb (ne_of hb hl (by intro z; cases z))⟩
/-- trades as rows -/
def rowT (t : Vbchad.Trade) : List Int := [(t.from_ : Int), (t.to : Int), (Vbchad.room t : Int)]
abbrev TradesAt (H : Hp) (a : Addr) (l : List Vbchad.Trade) : Prop := RowsAt H a (l.map rowT)
/-- moves as rows -/
def rowM (N : Net) (q : Stp) : List Int := [(src N q : Int), (dst N q : Int), Nw.len q, (q.i : Int), sgn q]
abbrev MovesAt (H : Hp) (a : Addr) (N : Net) (mv : List Stp) : Prop := RowsAt H a (mv.map (rowM N))
theorem row_tr {l : List Vbchad.Trade} {i : Nat} (h : i < l.length) : (l.map rowT)[i]? = some (rowT (tr l i)) := by
  rw [List.getElem?_map, List.getElem?_eq_getElem h]
  unfold tr
  rw [List.getD_eq_getElem?_getD, List.getElem?_eq_getElem h]
  rfl
/-! ## Comprehensions whose items are values -/
/-- what stands behind i items of a comprehension: all as before, the list so far at D -/
structure PvC (H1 : Hp) (D : Addr) (xs : List V) (fm : V → Option V) (i : Nat) (H : Hp) : Prop where
  same : Same H1 H
  at_ : H D = some (.lst ((xs.take i).filterMap fm))
theorem PvC.start {H1 : Hp} {D : Addr} {xs : List V} {fm : V → Option V} (n : H1 D = none) : PvC H1 D xs fm 0 (upd H1 D (.lst [])) := ⟨same_upd n, by rw [List.take_zero]; exact upd_same⟩
theorem PvC.yes {H1 H H4 : Hp} {D : Addr} {xs : List V} {fm : V → Option V} {i : Nat} {x y : V} (h : PvC H1 D xs fm i H) (n : H1 D = none) (hx : xs[i]? = some x) (e : fm x = some y) (s : Same H H4) (hl : xs.length ≤ 20000) :
    ∃ acc, H4 D = some (.lst acc) ∧ acc.length < sizeLine ∧ PvC H1 D xs fm (i + 1) (upd H4 D (.lst (acc ++ [y]))) := by
  refine ⟨_, s _ _ h.at_, ?_, fun b o q => ?_, ?_⟩
  · have h1 := List.length_filterMap_le fm (xs.take i)
    have h2 : (xs.take i).length ≤ xs.length := List.length_take_le' _ _
    rw [sizeLine_eq]
    omega
  · rw [upd_ne (ne_of_none q n)]
    exact s _ _ (h.same b o q)
  · rw [upd_same]
    have z : xs.take (i + 1) = xs.take i ++ [x] := by rw [List.take_add_one, hx] <;> rfl
    rw [z, List.filterMap_append]
    show _ = some (HO.lst (_ ++ List.filterMap fm [x]))
    rw [List.filterMap_cons, e]
    rfl
theorem PvC.no {H1 H H4 : Hp} {D : Addr} {xs : List V} {fm : V → Option V} {i : Nat} {x : V} (h : PvC H1 D xs fm i H) (hx : xs[i]? = some x) (e : fm x = none) (s : Same H H4) : PvC H1 D xs fm (i + 1) H4 := by
  refine ⟨h.same.trans s, ?_⟩
  have z : xs.take (i + 1) = xs.take i ++ [x] := by rw [List.take_add_one, hx] <;> rfl
  rw [z, List.filterMap_append]
  show _ = some (HO.lst (_ ++ List.filterMap fm [x]))
  rw [List.filterMap_cons, e, List.filterMap_nil, List.append_nil]
  exact s _ _ h.at_
theorem PvC.done {H1 H : Hp} {D : Addr} {xs : List V} {fm : V → Option V} (h : PvC H1 D xs fm xs.length H) : Same H1 H ∧ H D = some (.lst (xs.filterMap fm)) := by
  have := h.at_
  rw [List.take_length] at this
  exact ⟨h.same, this⟩
theorem take_more {α : Type} {l : List α} {i : Nat} {x : α} (h : l[i]? = some x) : l.take (i + 1) = l.take i ++ [x] := by
  rw [List.take_add_one, h]
  rfl
theorem map_get {α : Type} {l : List α} {g : α → V} {i : Nat} {v : V} (h : (l.map g)[i]? = some v) : ∃ x, l[i]? = some x ∧ v = g x := by
  rw [List.getElem?_map] at h
  cases e : l[i]? with
  | none =>
    rw [e] at h
    cases h
  | some x =>
    rw [e] at h
    exact ⟨x, rfl, (Option.some.inj h).symm⟩
theorem sl {n : Nat} (h : n ≤ 100000) : n < sizeLine := by
  rw [sizeLine_eq]
  omega
/-! ## The ways behind an if joined -/
section
variable {X : Cx} {st : Stmt} {rest : List Stmt} {t u : TS}
def tCut (t u : TS) : TS := fun D σ H => ∃ Mid : L2.St → Hp → Prop, t { D with nx := Mid } σ H ∧ ∀ σ' H', Mid σ' H' → u D σ' H'
theorem pss_cut (h1 : PS X st t) (h2 : PSs X rest u) : PSs X (st :: rest) (tCut t u) := by
  refine ⟨fun pins s σ H D I ⟨Mid, h, hm⟩ => wpAny_execs_cons (thn (h1.run pins s σ H { D with nx := Mid } I h) fun f s1 q => ?_)⟩
  rcases f with _ | _ | _ | v
  · obtain ⟨σ', H', I', q⟩ := q
    exact h2.run pins s1 σ' H' D I' (hm σ' H' q)
  · exact q
  · exact q
  · exact q
end
end Vb
end

section
/-! # ways.py -/
namespace Vb
open PySem PySem.Spec PyProof.Rows L2 Nw
section
variable {P : Program} {w : World} {K : PySem.W.Frag} {mg : Str → Option Value} {base : Heap} {TC HC : Addr}
def spGain : Sp := fun vs H Q _ => ∃ x : Int, vs = [.int x] ∧ Q (.int (-(x / 64))) H
theorem c_gain_of (T : Tb mg) (D : DefAt K mg "gain_of" s_gain_of ["length"]) : Cal P w K mg base 1 "gain_of" spGain := by
  refine cal_of D sc_gain_of (fun vs H Q E h => ?_) (fun f cdv A outer s H vs Q E _ hr h => ?_)
  · obtain ⟨x, rfl, _⟩ := h
    rfl
  · obtain ⟨x, rfl, q⟩ := h
    refine ⟨_, (pss_one (ps_ret (pe_un un_neg (pe_op op_fdiv (pv 0) (pe_gc rfl T.c_LOSS))))), ?_⟩
    exact ⟨_, rfl, _, _, rfl, rfl, ⟨by decide, by decide⟩, _, rfl, q⟩
/-! ### moves_of -/
def spMoves (K : PySem.W.Frag) : Sp := fun vs H Q _ => ∃ (a b c : Addr) (l : List Vbchad.Trade) (ns : List Int) (places : List Nat), vs = [.ref a, .ref b, .ref c] ∧ TradesAt H a l ∧ SqL K H b (ns.map V.int) ∧ H c = some (.lst (places.map fun (i : Nat) => V.int (i : Int))) ∧
  (∀ i, i ∈ places → i < l.length) ∧ ns.length = l.length ∧ places.length ≤ 1000 ∧
  ∀ H' p, Same H H' → H p = none → MovesAt H' p (netOf l) (movesOf (netOf l) (gl ns) places) → Q (.ref p) H'
theorem moves_more (N : Net) (f : Nat → Int) (places : List Nat) (i : Nat) : movesOf N f (places ++ [i]) = movesOf N f places ++ ((if f i < N.r i then [⟨i, true⟩] else []) ++ (if 0 < f i then [⟨i, false⟩] else [])) := by
  unfold movesOf
  rw [List.flatMap_append, List.flatMap_singleton]
theorem moves_len (N : Net) (f : Nat → Int) : ∀ places : List Nat, (movesOf N f places).length ≤ 2 * places.length
  | [] => Nat.le_refl _
  | i :: places => by
    have ih := moves_len N f places
    show ((_ ++ _) ++ movesOf N f places).length ≤ _
    rw [List.length_append, List.length_append, List.length_cons]
    have h1 : (if f i < N.r i then [(⟨i, true⟩ : Stp)] else []).length ≤ 1 := by split <;> simp
    have h2 : (if 0 < f i then [(⟨i, false⟩ : Stp)] else []).length ≤ 1 := by split <;> simp
    omega
theorem c_moves_of (T : Tb mg) (D : DefAt K mg "moves_of" s_moves_of ["trades", "numbers", "places"]) : Cal P w K mg base 1 "moves_of" (spMoves K) := by
  refine cal_of D sc_moves_of (fun vs H Q E h => ?_) (fun f cdv A outer s H vs Q E _ hr h => ?_)
  · obtain ⟨a, b, c, l, ns, places, rfl, _⟩ := h
    rfl
  · obtain ⟨a, b, c, l, ns, places, rfl, hT, hN, hP, hlt, hlen, hpl, q⟩ := h
    refine ⟨_, (pss_cons (ps_set (i := 3) sc_moves_of.nd rfl (.inl rfl) (pe_lst pa_nil))
      (pss_cons (ps_for PassesOwn.never rfl (pi_list (pv 2)) (pg_name (i := 4) sc_moves_of.nd rfl (.inl rfl)) (pss_cons (ps_asg (pe_ix ix_list (pv 0) (pv 4) (fun _ _ => rfl)) (pg_tup rfl (pgs_cons (pg_name (i := 5) sc_moves_of.nd rfl (.inl rfl)) (pgs_cons (pg_name (i := 6) sc_moves_of.nd rfl (.inl rfl)) (pgs_cons (pg_name (i := 7) sc_moves_of.nd rfl (.inl rfl)) pgs_nil)))))
      (pss_cut (ps_if (pt_cmpR op_lt (pe_ix ix_list (pv 1) (pv 4) (fun _ _ => rfl)) (pv 7) (nomark _)) (pss_one (ps_expr (pe_bm PySem.F.plainAttrs_list PySem.F.slot_list_append PySem.F.type_list_append mt_append (pv 3) (pa_cons (pe_tup (pa_cons (pv 5) (pa_cons (pv 6) (pa_cons (pe_op op_sub pe_int (pe_gc rfl T.c_LOSS)) (pa_cons (pv 4) (pa_cons pe_int pa_nil)))))) pa_nil)))) pss_nil)
      (pss_one (ps_if (pt_cmpR op_gt (pe_ix ix_list (pv 1) (pv 4) (fun _ _ => rfl)) pe_int (nomark _)) (pss_one (ps_expr (pe_bm PySem.F.plainAttrs_list PySem.F.slot_list_append PySem.F.type_list_append mt_append (pv 3) (pa_cons (pe_tup (pa_cons (pv 6) (pa_cons (pv 5) (pa_cons (pe_op op_add pe_int (pe_gc rfl T.c_LOSS)) (pa_cons (pv 4) (pa_cons (pe_un un_neg pe_int) pa_nil)))))) pa_nil)))) pss_nil)))))
      (pss_one (ps_ret (pv 3))))), ?_⟩
    refine ⟨by decide, fun m hm => ?_⟩
    refine ⟨_, rfl, c, rfl, ⟨_, SqL.of (same_upd hm _ _ hP)⟩, for_list (K := K) (a := c) (xs := places.map fun (i : Nat) => V.int (i : Int)) (fun i σ H' => ∃ v1 v2 v3 v4 : Option V, σ = [some (.ref a), some (.ref b), some (.ref c), some (.ref m), v1, v2, v3, v4] ∧ Same H H' ∧
      MovesAt H' m (netOf l) (movesOf (netOf l) (gl ns) (places.take i))) ⟨_, _, _, _, rfl, same_upd hm, [], upd_same, RowsL.nil _⟩ (fun i σ H' _ ⟨_, _, _, _, _, s5, _⟩ => SqL.of (s5 _ _ hP)) ?_ ?_⟩
    · rintro k y σ H' hk ⟨v1, v2, v3, v4, rfl, s5, xs, hm1, hrows⟩
      obtain ⟨i, hi, rfl⟩ := map_get hk
      have him : i ∈ places := List.mem_of_getElem? hi
      have hil := hlt i him
      obtain ⟨xsT, hxsT, hrT⟩ := hT.same s5
      obtain ⟨_, hgT, p, rfl, htp⟩ := hrT.get i _ (row_tr hil)
      have hN' := s5.seq hN
      have hgN : (ns.map V.int)[i]? = some (V.int (gl ns i)) := by rw [List.getElem?_map, gl_get (by omega)] <;> rfl
      refine ⟨_, rfl, _, rfl, a, xsT, _, _, rfl, rfl, SqL.of hxsT, atI_nat hgT, p, _, rfl, SqT.of htp, rfl, _, _, rfl, _, _, rfl, _, _, rfl, rfl, ?_⟩
      have hml := moves_len (netOf l) (gl ns) (places.take k)
      have hk2 : (places.take k).length ≤ places.length := List.length_take_le' _ _
      have hxl := hrows.len
      rw [List.length_map] at hxl
      have app : ∀ (H1 : Hp) (xs : List V) (done : List Stp) (q : Stp), Same H H1 → H1 m = some (.lst xs) → RowsL H1 xs (done.map (rowM (netOf l))) → ∀ pt, H1 pt = none → Same H (upd (upd H1 pt (.tup ((rowM (netOf l) q).map V.int))) m (.lst (xs ++ [.ref pt]))) ∧ MovesAt (upd (upd H1 pt (.tup ((rowM (netOf l) q).map V.int))) m (.lst (xs ++ [.ref pt]))) m (netOf l) (done ++ [q]) := fun H1 xs done q sH hm1 hr pt npt => by
        have nm : ∀ b o, Flat o → H1 b = some o → b ≠ m → upd (upd H1 pt (.tup ((rowM (netOf l) q).map V.int))) m (.lst (xs ++ [.ref pt])) b = some o := fun b o _ e ne => by
          rw [upd_ne ne, upd_ne (ne_of_none e npt)]
          exact e
        refine ⟨fun b o e => ?_, _, upd_same, ?_⟩
        · rw [upd_ne (ne_of_none e hm), upd_ne (ne_of_none (sH _ _ e) npt)]
          exact sH _ _ e
        · rw [List.map_append]
          refine RowsL.snoc ⟨hr.len, fun i row hi => ?_⟩ ⟨pt, rfl, ?_⟩
          · obtain ⟨v, a1, p1, rfl, a2⟩ := hr.get i row hi
            exact ⟨_, a1, p1, rfl, nm _ _ trivial a2 (ne_of a2 hm1 (by intro z; cases z))⟩
          · rw [upd_ne (Ne.symm (ne_of_none hm1 npt)), upd_same]
      refine ⟨fun σ' H1 => σ' = [some (.ref a), some (.ref b), some (.ref c), some (.ref m), some (.int i), some (.int (tr l i).from_), some (.int (tr l i).to), some (.int (Vbchad.room (tr l i)))] ∧ Same H H1 ∧
        ∃ xs, xs.length ≤ 2 * places.length + 1 ∧ H1 m = some (.lst xs) ∧ RowsL H1 xs ((movesOf (netOf l) (gl ns) (places.take k) ++ (if gl ns i < (netOf l).r i then [(⟨i, true⟩ : Stp)] else [])).map (rowM (netOf l))), ?_, ?_⟩
      · refine ⟨_, rfl, _, rfl, b, _, _, _, rfl, rfl, hN', atI_nat hgN, _, rfl, _, _, rfl, rfl, _, rfl, ite2 (fun cc => ?_) (fun cc => ?_)⟩
        · have cc' : gl ns i < (netOf l).r i := of_decide_eq_true cc
          refine ⟨_, rfl, .inl ⟨rfl, _, .inl (.inl hm1)⟩, _, rfl, _, rfl, _, _, rfl, rfl, _, rfl, (by show 5 ≤ sizeLine; decide), fun pt npt => ?_⟩
          refine ⟨m, xs, _, rfl, rfl, ?_, sl (by omega), ?_⟩
          · rw [upd_ne (ne_of_none hm1 npt)]
            exact hm1
          · obtain ⟨g1, ys, g2, g3⟩ := app H' xs _ ⟨i, true⟩ s5 hm1 hrows pt npt
            refine ⟨rfl, g1, ys, ?_, g2, ?_⟩
            · have e := g2.symm.trans upd_same
              injection e with e
              injection e with e
              rw [e, List.length_append]
              show _ + 1 ≤ _
              omega
            · rw [if_pos cc']
              exact g3
        · have cc' : ¬ gl ns i < (netOf l).r i := fun z => cc (decide_eq_true z)
          refine ⟨rfl, s5, xs, by omega, hm1, ?_⟩
          rw [if_neg cc', List.append_nil]
          exact hrows
      · rintro σ' H1 ⟨rfl, s6, ys, hyl, hm6, hr6⟩
        have em : movesOf (netOf l) (gl ns) (places.take (k + 1)) = (movesOf (netOf l) (gl ns) (places.take k) ++ (if gl ns i < (netOf l).r i then [⟨i, true⟩] else [])) ++ (if 0 < gl ns i then [⟨i, false⟩] else []) := by
          rw [take_more hi, moves_more, List.append_assoc]
        refine ⟨_, rfl, _, rfl, b, _, _, _, rfl, rfl, s6.seq hN, atI_nat hgN, _, _, rfl, rfl, _, rfl, ite2 (fun cc => ?_) (fun cc => ?_)⟩
        · have cc' : 0 < gl ns i := of_decide_eq_true cc
          refine ⟨_, rfl, .inl ⟨rfl, _, .inl (.inl hm6)⟩, _, rfl, _, rfl, _, _, rfl, rfl, _, rfl, _, rfl, (by show 5 ≤ sizeLine; decide), fun pt npt => ?_⟩
          refine ⟨m, ys, _, rfl, rfl, ?_, sl (by omega), ?_⟩
          · rw [upd_ne (ne_of_none hm6 npt)]
            exact hm6
          · obtain ⟨g1, g2⟩ := app H1 ys _ ⟨i, false⟩ s6 hm6 hr6 pt npt
            refine ⟨_, _, _, _, rfl, g1, ?_⟩
            rw [em, if_pos cc']
            exact g2
        · have cc' : ¬ 0 < gl ns i := fun z => cc (decide_eq_true z)
          refine ⟨_, _, _, _, rfl, s6, ?_⟩
          rw [em, if_neg cc', List.append_nil]
          exact ⟨ys, hm6, hr6⟩
    · rintro σ H' ⟨v1, v2, v3, v4, rfl, s5, hM⟩
      rw [List.length_map, List.take_length] at hM
      exact ⟨_, rfl, q H' m s5 hm hM⟩
end
end Vb
end

section
/-! # ways.py: shortest_ways -/
namespace Vb
open PySem PySem.Spec PyProof.Rows L2 Nw
section
variable {P : Program} {w : World} {K : PySem.W.Frag} {mg : Str → Option Value} {base : Heap} {TC HC : Addr}
def LastAt (H : Hp) (d : Addr) (N : Net) (ps : List Nat) (P : Nat → Stp) : Prop := ∃ A : Nat → Addr, H d = some (.dK (dkL ps fun m => .ref (A m))) ∧ ∀ m, m ∈ ps → H (A m) = some (.tup ((rowM N (P m)).map V.int))
structure BfAt (H : Hp) (dl dp : Addr) (N : Net) (t : Bf) : Prop where
  l : H dl = some (.dK (dkL t.ks fun m => .int (t.L m)))
  p : LastAt H dp N t.ps t.P
def natL (l : List Nat) : List V := l.map fun (m : Nat) => V.int (m : Int)
def spShort (K : PySem.W.Frag) : Sp := fun vs H Q _ => ∃ (a b : Addr) (N : Net) (ms : List Nat) (mv : List Stp) (S : List Nat) (d : Nat → Int), vs = [.ref a, .ref b] ∧ MovesAt H a N mv ∧ H b = some (.lst (natL S)) ∧ Pos N mv d ∧
  (∀ q, q ∈ mv → dst N q ∈ ms) ∧ (∀ s, s ∈ S → s ∈ ms) ∧ ms.length ≤ 1000 ∧
  ∀ H' p dl dp t, Same H H' → H p = none → H dl = none → H dp = none → H' p = some (.tup [.ref dl, .ref dp]) → BfAt H' dl dp N t → Short N ms mv S t → Q (.ref p) H'
theorem c_shortest_ways (T : Tb mg) (D : DefAt K mg "shortest_ways" s_shortest_ways ["moves", "starts"]) : Cal P w K mg base 1 "shortest_ways" (spShort K) := by
  refine cal_of D sc_shortest_ways (fun vs H Q E h => ?_) (fun f cdv A outer s H vs Q E _ hr h => ?_)
  · obtain ⟨a, b, N, ms, mv, S, d, rfl, _⟩ := h
    rfl
  · obtain ⟨a, b, N, ms, mv, S, d, rfl, hM, hS, hp, hdst, hSm, hml, q⟩ := h
    obtain ⟨c0, hc0⟩ := exists_belowL S (fun s => -(64 * d s))
    refine ⟨_, (pss_cons (ps_set (i := 2) sc_shortest_ways.nd rfl (.inl rfl) pe_dnewK)
      (pss_cons (ps_set (i := 3) sc_shortest_ways.nd rfl (.inl rfl) pe_dnewK)
      (pss_cons (ps_for PassesOwn.never rfl (pi_list (pv 1)) (pg_name (i := 4) sc_shortest_ways.nd rfl (.inl rfl)) (pss_one (ps_dput (hu_of hr) (pv 2) (pv 4) pe_int rfl)))
      (pss_cons (ps_set (i := 5) sc_shortest_ways.nd rfl (.inl rfl) pe_bl)
      (pss_cons (ps_while PassesOwn.never (pt_val (pv 5)) (pss_cons (ps_set (i := 5) sc_shortest_ways.nd rfl (.inl rfl) pe_bl)
      (pss_one (ps_for PassesOwn.never rfl (pi_list (pv 0)) (pg_name (i := 6) sc_shortest_ways.nd rfl (.inl rfl)) (pss_cons (ps_if (pt_cmp (pc_dnotin (hu_of hr) (pe_ix ix_tup (pv 6) pe_int (fun _ _ => rfl)) (pv 2)) rfl) (pss_one ps_continue) pss_nil)
      (pss_cons (ps_set (i := 7) sc_shortest_ways.nd rfl (.inl rfl) (pe_op op_add (pe_dget (hu_of hr) (pv 2) (pe_ix ix_tup (pv 6) pe_int (fun _ _ => rfl)) (fun _ _ => rfl)) (pe_ix ix_tup (pv 6) pe_int (fun _ _ => rfl))))
      (pss_one (ps_if (PW.pt (pw_or (pt_cmp (pc_dnotin (hu_of hr) (pe_ix ix_tup (pv 6) pe_int (fun _ _ => rfl)) (pv 2)) rfl) (pw_or1 (pt_cmpR op_lt (pv 7) (pe_dget (hu_of hr) (pv 2) (pe_ix ix_tup (pv 6) pe_int (fun _ _ => rfl)) (fun _ _ => rfl)) (nomark _))))) (pss_cons (ps_dput (hu_of hr) (pv 2) (pe_ix ix_tup (pv 6) pe_int (fun _ _ => rfl)) (pv 7) rfl)
      (pss_cons (ps_dput (hu_of hr) (pv 3) (pe_ix ix_tup (pv 6) pe_int (fun _ _ => rfl)) (pv 6) rfl)
      (pss_one (ps_set (i := 5) sc_shortest_ways.nd rfl (.inl rfl) pe_bl)))) pss_nil))))))))
      (pss_one (ps_ret (pe_tup (pa_cons (pv 2) (pa_cons (pv 3) pa_nil)))))))))), ?_⟩
    intro dl ndl dp ndp'
    have nedp : dp ≠ dl := fun z => by
      rw [z, upd_same] at ndp'
      cases ndp'
    have ndp : H dp = none := by
      rw [upd_ne nedp] at ndp'
      exact ndp'
    have s0 : Same H (upd (upd H dl (.dK [])) dp (.dK [])) := (same_upd ndl).trans (same_upd ndp')
    -- the starts
    refine ⟨_, rfl, b, rfl, ⟨_, SqL.of (s0 _ _ hS)⟩, for_list (K := K) (a := b) (xs := natL S) (fun i σ H' => ∃ v4 v5 v6 v7 : Option V, σ = [some (.ref a), some (.ref b), some (.ref dl), some (.ref dp), v4, v5, v6, v7] ∧ Same H H' ∧
      H' dl = some (.dK (dkL ((S.take i).foldl addk []) fun _ => .int 0)) ∧ H' dp = some (.dK [])) ⟨_, _, _, _, rfl, s0, by rw [upd_ne (Ne.symm nedp), upd_same]; rfl, upd_same⟩ (fun i σ H' _ ⟨_, _, _, _, _, s5, _⟩ => SqL.of (s5 _ _ hS)) ?_ ?_⟩
    · rintro k y σ H' hk ⟨v4, v5, v6, v7, rfl, s5, h1, h2⟩
      obtain ⟨m, hm, rfl⟩ := map_get hk
      have hkl : ((S.take k).foldl addk []).length < sizeLine := by
        have := nodup_len (nodup_foldk (S := S.take k) (ks := []) (by simp)) (fun x hx => by
          rcases mem_foldk.mp hx with z | z
          · simp at z
          · exact hSm x (List.mem_of_mem_take z))
        exact sl (by omega)
      refine ⟨_, rfl, _, rfl, dl, _, rfl, dput_dk h1 hkl, ?_⟩
      refine ⟨_, _, _, _, rfl, fun b o e => ?_, ?_, ?_⟩
      · rw [upd_ne (ne_of_none e ndl)]
        exact s5 _ _ e
      · rw [upd_same, take_more hm, List.foldl_append]
        refine congrArg (fun g => some (HO.dK (dkL _ g))) ?_
        funext z
        unfold fu
        split <;> rfl
      · rw [upd_ne nedp]
        exact h2
    · rintro σ H' ⟨v4, v5, v6, v7, rfl, s5, h1, h2⟩
      have hnl : (natL S).length = S.length := List.length_map _
      rw [hnl, List.take_length] at h1
      -- the rounds
      refine ⟨fun m σ H' => ∃ (t : Bf) (v4 v6 v7 : Option V), σ = [some (.ref a), some (.ref b), some (.ref dl), some (.ref dp), v4, some (.bl t.ch), v6, v7] ∧ Same H H' ∧ BfAt H' dl dp N t ∧ BfOk N ms mv S d c0 t ∧
        (t.ch = false → ∀ q, q ∈ mv → StableAt N t q) ∧ m = if t.ch = true then mu ms d c0 (65 * ms.length) t + 1 else 0,
        ⟨_, bf0 S, _, _, _, rfl, s5, ⟨h1, fun _ => dl, h2, fun m hm => by simp [bf0] at hm⟩, bf0_ok hSm hc0, (fun z => (by cases z)), rfl⟩, ?_⟩
      rintro m σ H1 ⟨t, v4, v6, v7, rfl, s6, bf, ok, hst, rfl⟩
      refine ⟨_, rfl, t.ch, rfl, ite2 (fun hch => ?_) (fun hch => ?_)⟩
      · obtain ⟨t0, e0⟩ : ∃ t0 : Bf, t0 = { t with ch := false } := ⟨_, rfl⟩
        have ok0 : BfOk N ms mv S d c0 t0 := by
          subst e0
          exact ⟨ok.nd, ok.sub, ok.start, ok.pred, ok.root, ok.low, ok.up, ok.ndp⟩
        have mu0 : mu ms d c0 (65 * ms.length) t0 = mu ms d c0 (65 * ms.length) t := by
          subst e0
          rfl
        have bf0' : BfAt H1 dl dp N t0 := by
          subst e0
          exact ⟨bf.l, bf.p⟩
        have ch0 : t0.ch = false := by
          subst e0
          rfl
        refine ⟨fun σ' H' => ∃ (t : Bf) (v4 v6 v7 : Option V), σ' = [some (.ref a), some (.ref b), some (.ref dl), some (.ref dp), v4, some (.bl t.ch), v6, v7] ∧ Same H H' ∧ BfAt H' dl dp N t ∧ t = mv.foldl (relax N) t0, fun σ' H' ⟨t', v4, v6, v7, e1, e2, e3, e4⟩ => ?_, ?_⟩
        · subst e4
          obtain ⟨p1, p2⟩ := pass_ok hp hdst (l := mv) (t := t0) (fun _ z => z) ok0
          refine ⟨_, ?_, _, v4, v6, v7, e1, e2, e3, p1, fun hc => ?_, rfl⟩
          · rw [if_pos hch]
            rcases p2 with ⟨p2, _⟩ | ⟨p2, p3⟩
            · rw [p2, ch0, if_neg Bool.false_ne_true]
              exact Nat.succ_pos _
            · rw [if_pos p2]
              omega
          · rcases p2 with ⟨p2, p3⟩ | ⟨p2, _⟩
            · rw [p2]
              exact p3
            · rw [hc] at p2
              cases p2
        · obtain ⟨xsM, hxsM, hrM⟩ := hM.same s6
          have hxl := hrM.len
          rw [List.length_map] at hxl
          refine ⟨_, rfl, a, rfl, ⟨_, SqL.of hxsM⟩, for_list (K := K) (a := a) (xs := xsM) (fun i σ H' => ∃ (v4 v6 v7 : Option V), σ = [some (.ref a), some (.ref b), some (.ref dl), some (.ref dp), v4, some (.bl ((mv.take i).foldl (relax N) t0).ch), v6, v7] ∧ Same H H' ∧ BfAt H' dl dp N ((mv.take i).foldl (relax N) t0))
            ⟨v4, v6, v7, by rw [List.take_zero, List.foldl_nil, ch0]; rfl, s6, by rw [List.take_zero]; exact bf0'⟩ (fun i σ H' _ ⟨_, _, _, _, s7, _⟩ => ?_) ?_ ?_⟩
          · obtain ⟨xs2, e1, e2⟩ := hM
            have e3 := hxsM.symm.trans (s6 _ _ e1)
            rw [show xsM = xs2 by injection e3 with e3; injection e3]
            exact SqL.of (s7 _ _ e1)
          · rintro k x σ H' hx ⟨v4, v6, v7, rfl, s7, bf7⟩
            obtain ⟨xs2, e1, hr2⟩ := hM
            have e3 := hxsM.symm.trans (s6 _ _ e1)
            obtain rfl : xsM = xs2 := by injection e3 with e3; injection e3
            obtain ⟨row, hrow, p, rfl, htp0⟩ := hr2.at hx
            rw [List.getElem?_map] at hrow
            obtain ⟨qq, hq, rfl⟩ : ∃ qq, mv[k]? = some qq ∧ rowM N qq = row := by
              cases z : mv[k]? with
              | none =>
                rw [z] at hrow
                cases hrow
              | some qq =>
                rw [z] at hrow
                exact ⟨qq, rfl, Option.some.inj hrow⟩
            have hqm : qq ∈ mv := List.mem_of_getElem? hq
            have htp := s7 _ _ htp0
            obtain ⟨ok7, _⟩ := pass_ok hp hdst (l := mv.take k) (t := t0) (fun _ z => List.mem_of_mem_take z) ok0
            have next : (mv.take (k + 1)).foldl (relax N) t0 = relax N ((mv.take k).foldl (relax N) t0) qq := by
              rw [take_more hq, List.foldl_append]
              rfl
            rw [next]
            generalize (mv.take k).foldl (relax N) t0 = t7 at bf7 ok7
            have sz1 : t7.ks.length < sizeLine := by
              have := nodup_len ok7.nd ok7.sub
              exact sl (by omega)
            have sz2 : t7.ps.length < sizeLine := by
              have := nodup_len ok7.ndp fun m hm => ok7.sub m (ok7.pred m hm).2.2.2.1
              exact sl (by omega)
            -- if move[0] not in lengths
            refine ⟨_, rfl, p, _, 0, _, rfl, rfl, SqT.of htp, rfl, _, rfl, dl, _, rfl, dget_any bf7.l, _, rfl, ite2 (fun cc => ?_) (fun cc => ?_)⟩
            · have c1 : ¬ src N qq ∈ t7.ks := fun z => by
                rw [if_pos z] at cc
                cases cc
              rw [relax_out c1]
              exact ⟨_, _, _, rfl, s7, bf7⟩
            · have c1 : src N qq ∈ t7.ks := by
                by_cases z : src N qq ∈ t7.ks
                · exact z
                · rw [if_neg z] at cc
                  exact absurd rfl cc
              -- length = lengths[move[0]] + move[2]
              refine ⟨_, rfl, _, rfl, p, _, 0, _, rfl, rfl, SqT.of htp, rfl, dl, _, rfl, dget_in bf7.l c1, _, rfl, p, _, 2, _, rfl, rfl, SqT.of htp, rfl, _, _, rfl, rfl, ?_⟩
              -- the test
              have hor : (dst N qq ∈ t7.ks ∧ ¬ t7.L (src N qq) + Nw.len qq < t7.L (dst N qq)) ∨ (dst N qq ∈ t7.ks ∧ t7.L (src N qq) + Nw.len qq < t7.L (dst N qq)) ∨ ¬ dst N qq ∈ t7.ks := by
                by_cases z : dst N qq ∈ t7.ks
                · by_cases y : t7.L (src N qq) + Nw.len qq < t7.L (dst N qq)
                  · exact .inr (.inl ⟨z, y⟩)
                  · exact .inl ⟨z, y⟩
                · exact .inr (.inr z)
              rcases hor with ⟨c2, c3⟩ | ⟨c2, c3⟩ | c2
              · refine ⟨_, rfl, p, _, 1, _, rfl, rfl, SqT.of htp, rfl, _, rfl, dl, _, rfl, dget_in bf7.l c2, _, rfl, iteF ?_⟩
                refine ⟨_, rfl, _, rfl, _, rfl, p, _, 1, _, rfl, rfl, SqT.of htp, rfl, dl, _, rfl, dget_in bf7.l c2, _, _, rfl, rfl, _, rfl, ite2 (fun cc => absurd (of_decide_eq_true cc) c3) (fun _ => ?_)⟩
                rw [relax_keep c1 c2 c3]
                exact ⟨_, _, _, rfl, s7, bf7⟩
              all_goals
                have hset : ¬ dst N qq ∈ t7.ks ∨ t7.L (src N qq) + Nw.len qq < t7.L (dst N qq) := by first | exact .inl ‹_› | exact .inr ‹_›
                have hz := relax_set c1 hset
                first
                  | (have c2' : ¬ dst N qq ∈ t7.ks := c2
                     refine ⟨_, rfl, p, _, 1, _, rfl, rfl, SqT.of htp, rfl, _, rfl, dl, _, rfl, dget_any bf7.l, _, rfl, ?_⟩
                     rw [if_neg c2']
                     refine iteT (iteT ?_))
                  | (refine ⟨_, rfl, p, _, 1, _, rfl, rfl, SqT.of htp, rfl, _, rfl, dl, _, rfl, dget_in bf7.l c2, _, rfl, iteF ?_⟩
                     refine ⟨_, rfl, _, rfl, _, rfl, p, _, 1, _, rfl, rfl, SqT.of htp, rfl, dl, _, rfl, dget_in bf7.l c2, _, _, rfl, rfl, _, rfl, ite2 (fun _ => ?_) (fun cc => absurd (decide_eq_true c3) cc)⟩)
                obtain ⟨AA, pa, pb⟩ := bf7.p
                refine ⟨_, rfl, _, rfl, _, rfl, p, _, 1, _, rfl, rfl, SqT.of htp, rfl, dl, _, rfl, dput_dk bf7.l sz1, ?_⟩
                have htp2 := (upd_ne (o := .dK (dkL (addk t7.ks (dst N qq)) (fu (fun m => V.int (t7.L m)) (dst N qq) (V.int (t7.L (src N qq) + Nw.len qq))))) (ne_of htp bf7.l (by intro z; cases z))).trans htp
                have pa2 := (upd_ne (o := .dK (dkL (addk t7.ks (dst N qq)) (fu (fun m => V.int (t7.L m)) (dst N qq) (V.int (t7.L (src N qq) + Nw.len qq))))) nedp).trans pa
                refine ⟨_, rfl, _, rfl, _, rfl, p, _, 1, _, rfl, rfl, SqT.of htp2, rfl, dp, _, rfl, dput_dk pa2 sz2, ?_⟩
                refine ⟨_, _, _, by rw [hz]; rfl, ?_, ?_⟩
                · intro b o e
                  rw [upd_ne (ne_of_none e ndp), upd_ne (ne_of_none e ndl)]
                  exact s7 _ _ e
                · rw [hz]
                  refine ⟨?_, fu AA (dst N qq) p, ?_, fun m hm => ?_⟩
                  · rw [upd_ne (Ne.symm nedp), upd_same, ← int_fu]
                  · rw [upd_same]
                    refine congrArg (fun g => some (HO.dK (dkL _ g))) ?_
                    funext z
                    unfold fu
                    split <;> rfl
                  · have nd1 : ∀ c row, H' c = some (.tup row) → upd (upd H' dl (.dK (dkL (addk t7.ks (dst N qq)) (fu (fun m => V.int (t7.L m)) (dst N qq) (V.int (t7.L (src N qq) + Nw.len qq)))))) dp (.dK (dkL (addk t7.ps (dst N qq)) (fu (fun m => V.ref (AA m)) (dst N qq) (V.ref p)))) c = some (.tup row) := fun c row e => by
                      rw [upd_ne (ne_of e pa (by intro z; cases z)), upd_ne (ne_of e bf7.l (by intro z; cases z))]
                      exact e
                    by_cases e : m = dst N qq
                    · subst e
                      rw [fu_same]
                      show _ = some (HO.tup ((rowM N (fu t7.P (dst N qq) qq (dst N qq))).map V.int))
                      rw [fu_same]
                      exact nd1 _ _ htp
                    · rw [fu_ne e]
                      show _ = some (HO.tup ((rowM N (fu t7.P (dst N qq) qq m)).map V.int))
                      rw [fu_ne e]
                      exact nd1 _ _ (pb m ((mem_addk.mp hm).resolve_left e))
          · rintro σ H' ⟨v4, v6, v7, rfl, s7, bf7⟩
            rw [hxl, List.take_length] at bf7 ⊢
            exact ⟨_, v4, v6, v7, rfl, s7, bf7, rfl⟩
      · have hch' : t.ch = false := by
          cases z : t.ch
          · rfl
          · exact absurd z hch
        refine ⟨_, rfl, _, rfl, (by show 2 ≤ sizeLine; decide), fun p np => ?_⟩
        refine q _ p dl dp t (s6.trans (same_upd np)) (s6.free np) ndl ndp upd_same ⟨?_, ?_⟩ (ok.short (hst hch'))
        · exact same_upd np _ _ bf.l
        · obtain ⟨AA, a1, a2⟩ := bf.p
          exact ⟨AA, same_upd np _ _ a1, fun m hm => same_upd np _ _ (a2 m hm)⟩
end
end Vb
end

section
/-! # ways.py: way_to, leeway, shift -/
namespace Vb
open PySem PySem.Spec PyProof.Rows L2 Nw
theorem RowsL.reverse {H : Hp} {xs : List V} {rows : List (List Int)} (h : RowsL H xs rows) : RowsL H xs.reverse rows.reverse := by
  refine ⟨by rw [List.length_reverse, List.length_reverse, h.len], fun i row hi => ?_⟩
  have hl := (List.getElem?_eq_some_iff.mp hi).1
  rw [List.length_reverse] at hl
  rw [List.getElem?_reverse hl] at hi
  obtain ⟨v, a, b⟩ := h.get _ row hi
  exact ⟨v, by rw [List.getElem?_reverse (by rw [h.len]; exact hl), h.len]; exact a, b⟩
theorem chain_len {N : Net} {ms : List Nat} {mv : List Stp} {S : List Nat} {d : Nat → Int} {t : Bf} (hp : Pos N mv d) (h : Short N ms mv S t) {l : List Stp} {v m : Nat} (hc : Chain N v l m) (hi : ∀ q, q ∈ l → q ∈ mv ∧ src N q ∈ t.ks ∧ dst N q ∈ t.ks ∧ t.L (dst N q) = t.L (src N q) + Nw.len q) (hv : v ∈ t.ks) : l.length + 1 ≤ ms.length := by
  have := nodup_len (verts_nodup_grow (T := fun m => t.L m - 64 * d m) hc fun q hq => by
    obtain ⟨a1, a2, a3, a4⟩ := hi q hq
    have := hp q a1
    have := len_eq q
    omega) (verts_sub (h.sub v hv) fun q hq => h.sub _ (hi q hq).2.2.1)
  rw [verts_len] at this
  exact this
theorem rows_at {H : Hp} {xs : List V} {N : Net} {w : List Stp} (h : RowsL H xs (w.map (rowM N))) {k : Nat} {x : V} (hx : xs[k]? = some x) : ∃ q p, w[k]? = some q ∧ x = .ref p ∧ H p = some (.tup ((rowM N q).map V.int)) := by
  obtain ⟨row, hrow, p, rfl, hp⟩ := h.at hx
  rw [List.getElem?_map] at hrow
  cases z : w[k]? with
  | none =>
    rw [z] at hrow
    cases hrow
  | some q =>
    rw [z] at hrow
    obtain rfl := Option.some.inj hrow
    exact ⟨q, p, rfl, rfl, hp⟩
section
variable {P : Program} {w : World} {K : PySem.W.Frag} {mg : Str → Option Value} {base : Heap} {TC HC : Addr}
/-! ### way_to -/
def spWay : Sp := fun vs H Q _ => ∃ (dp : Addr) (m : Nat) (N : Net) (ms : List Nat) (mv : List Stp) (S : List Nat) (d : Nat → Int) (t : Bf), vs = [.int m, .ref dp] ∧ LastAt H dp N t.ps t.P ∧ Short N ms mv S t ∧ Pos N mv d ∧ m ∈ t.ks ∧ ms.length ≤ 1000 ∧
  ∀ H' p way s, Same H H' → H p = none → MovesAt H' p N way → WayOk N mv S t way s m → Q (.ref p) H'
theorem c_way_to (T : Tb mg) (D : DefAt K mg "way_to" s_way_to ["member", "last_moves"]) : Cal P w K mg base 1 "way_to" spWay := by
  refine cal_of D sc_way_to (fun vs H Q E h => ?_) (fun f cdv A outer s H vs Q E _ hr h => ?_)
  · obtain ⟨dp, m, N, ms, mv, S, d, t, rfl, _⟩ := h
    rfl
  · obtain ⟨dp, m, N, ms, mv, S, d, t, rfl, ⟨AA, hA1, hA2⟩, hs, hp, hm, hml, q⟩ := h
    obtain ⟨c, hc⟩ := low_all (t := t) d
    refine ⟨_, (pss_cons (ps_set (i := 2) sc_way_to.nd rfl (.inl rfl) (pe_lst pa_nil))
      (pss_cons (ps_while PassesOwn.never (pt_cmp (pc_din (hu_of hr) (pv 0) (pv 1)) rfl) (pss_cons (ps_set (i := 3) sc_way_to.nd rfl (.inl rfl) (pe_dget (hu_of hr) (pv 1) (pv 0) (fun _ _ => rfl)))
      (pss_cons (ps_expr (pe_bm PySem.F.plainAttrs_list PySem.F.slot_list_append PySem.F.type_list_append mt_append (pv 2) (pa_cons (pv 3) pa_nil)))
      (pss_one (ps_set (i := 0) sc_way_to.nd rfl (.inl rfl) (pe_ix ix_tup (pv 3) pe_int (fun _ _ => rfl)))))))
      (pss_cons (ps_expr (pe_bm0 PySem.F.plainAttrs_list PySem.F.slot_list_reverse PySem.F.type_list_reverse mt_reverse (pv 2)))
      (pss_one (ps_ret (pv 2)))))), ?_⟩
    refine ⟨by decide, fun wl nw => ?_⟩
    refine ⟨fun n σ H' => ∃ (v : Nat) (wy : List Stp) (v3 : Option V), σ = [some (.int v), some (.ref dp), some (.ref wl), v3] ∧ Same H H' ∧ MovesAt H' wl N wy ∧ v ∈ t.ks ∧ Chain N v wy.reverse m ∧
      (∀ q, q ∈ wy → q ∈ mv ∧ src N q ∈ t.ks ∧ dst N q ∈ t.ks ∧ t.L (dst N q) = t.L (src N q) + Nw.len q) ∧ n = (t.L v - 64 * d v - c).toNat, ⟨_, m, [], _, rfl, same_upd nw, ⟨[], upd_same, RowsL.nil _⟩, hm, rfl, fun q hq => by simp at hq, rfl⟩, ?_⟩
    rintro n σ H1 ⟨v, wy, v3, rfl, s1, ⟨xs, hx1, hx2⟩, hv, hch, hin, rfl⟩
    have hA1' := s1 _ _ hA1
    have hlen := chain_len hp hs hch (fun q hq => hin q (List.mem_reverse.mp hq)) hv
    rw [List.length_reverse] at hlen
    have hxl := hx2.len
    rw [List.length_map] at hxl
    refine ⟨_, rfl, _, rfl, dp, _, rfl, dget_any hA1', _, rfl, ite2 (fun cc => ?_) (fun cc => ?_)⟩
    · have hvp : v ∈ t.ps := by
        by_cases z : v ∈ t.ps
        · exact z
        · rw [if_neg z] at cc
          cases cc
      obtain ⟨a1, a2, a3, a4, a5⟩ := hs.pred v hvp
      have hphi := phi_lt hp hs hvp
      have hcs := hc _ a3
      have key : ∀ xx, upd H1 wl (.lst (xs ++ [.ref xx])) wl = some (.lst (xs ++ [.ref xx])) := fun xx => upd_same
      refine ⟨fun σ' H' => ∃ (v' : Nat) (wy : List Stp) (v3 : Option V), σ' = [some (.int v'), some (.ref dp), some (.ref wl), v3] ∧ Same H H' ∧ MovesAt H' wl N wy ∧ v' ∈ t.ks ∧ Chain N v' wy.reverse m ∧
        (∀ q, q ∈ wy → q ∈ mv ∧ src N q ∈ t.ks ∧ dst N q ∈ t.ks ∧ t.L (dst N q) = t.L (src N q) + Nw.len q) ∧ (t.L v' - 64 * d v' - c).toNat < (t.L v - 64 * d v - c).toNat, fun σ' H' ⟨v', wy, v3, e1, e2, e3, e4, e5, e6, e7⟩ => ⟨_, e7, v', wy, v3, e1, e2, e3, e4, e5, e6, rfl⟩, ?_⟩
      have htp := s1 _ _ (hA2 v hvp)
      refine ⟨_, rfl, _, rfl, dp, _, rfl, dget_in hA1' hvp, ?_⟩
      refine ⟨_, rfl, .inl ⟨rfl, _, .inl (.inl hx1)⟩, _, rfl, wl, xs, _, rfl, rfl, hx1, sl (by omega), ?_⟩
      have htp2 := (upd_ne (o := .lst (xs ++ [.ref (AA v)])) (ne_of htp hx1 (by intro z; cases z))).trans htp
      refine ⟨_, rfl, AA v, _, 0, _, rfl, rfl, SqT.of htp2, rfl, ?_⟩
      refine ⟨src N (t.P v), wy ++ [t.P v], _, rfl, fun b o e => ?_, ⟨_, upd_same, ?_⟩, a3, ?_, fun q hq => ?_, by omega⟩
      · rw [upd_ne (ne_of_none e nw)]
        exact s1 _ _ e
      · rw [List.map_append]
        refine RowsL.snoc ⟨hx2.len, fun i row hi => ?_⟩ ⟨AA v, rfl, htp2⟩
        obtain ⟨y, b1, p1, rfl, b2⟩ := hx2.get i row hi
        exact ⟨_, b1, p1, rfl, (upd_ne (ne_of b2 hx1 (by intro z; cases z))).trans b2⟩
      · rw [List.reverse_append]
        refine ⟨rfl, ?_⟩
        rw [a2]
        exact hch
      · rcases List.mem_append.mp hq with z | z
        · exact hin q z
        · rw [List.mem_singleton.mp z, a2]
          exact ⟨a1, a3, a4, a5⟩
    · have hvp : ¬ v ∈ t.ps := fun z => cc (by rw [if_pos z]; rfl)
      have hr2 := hs.root v hv hvp
      refine ⟨_, rfl, .inl ⟨rfl, _, .inl (.inl hx1)⟩, wl, _, rfl, rfl, hx1, ?_⟩
      refine ⟨_, rfl, q _ wl wy.reverse v ?_ nw ⟨_, upd_same, ?_⟩ ⟨hch, fun q hq => hin q (List.mem_reverse.mp hq), hr2⟩⟩
      · intro b o e
        rw [upd_ne (ne_of_none e nw)]
        exact s1 _ _ e
      · rw [List.map_reverse]
        have hx3 : RowsL (upd H1 wl (.lst xs.reverse)) xs (wy.map (rowM N)) := ⟨hx2.len, fun i row hi => by
          obtain ⟨y, b1, p1, rfl, b2⟩ := hx2.get i row hi
          exact ⟨_, b1, p1, rfl, (upd_ne (ne_of b2 hx1 (by intro z; cases z))).trans b2⟩⟩
        exact hx3.reverse
/-! ### leeway -/
def spLee (K : PySem.W.Frag) : Sp := fun vs H Q _ => ∃ (a b c : Addr) (l : List Vbchad.Trade) (ns : List Int) (wy : List Stp), vs = [.ref a, .ref b, .ref c] ∧ TradesAt H a l ∧ SqL K H b (ns.map V.int) ∧ MovesAt H c (netOf l) wy ∧ (∀ q, q ∈ wy → q.i < l.length) ∧ ns.length = l.length ∧ wy ≠ [] ∧ wy.length ≤ 1000 ∧
  ∀ (x : Int) (H' : Hp), (∀ q, q ∈ wy → x ≤ cap (netOf l) (gl ns) q) → (∃ q, q ∈ wy ∧ x = cap (netOf l) (gl ns) q) → Same H H' → Q (.int x) H'
theorem c_leeway (T : Tb mg) (D : DefAt K mg "leeway" s_leeway ["trades", "numbers", "way"]) : Cal P w K mg base 1 "leeway" (spLee K) := by
  refine cal_of D sc_leeway (fun vs H Q E h => ?_) (fun f cdv A outer s H vs Q E _ hr h => ?_)
  · obtain ⟨a, b, c, l, ns, wy, rfl, _⟩ := h
    rfl
  · obtain ⟨a, b, c, l, ns, wy, rfl, hT, hN, ⟨xw, hw1, hw2⟩, hlt, hlen, hne, hwl, q⟩ := h
    refine ⟨_, (pss_cons (ps_set (i := 3) sc_leeway.nd rfl (.inl rfl) (pe_lst pa_nil))
      (pss_cons (ps_for PassesOwn.never rfl (pi_list (pv 2)) (pg_tup rfl (pgs_cons (pg_name (i := 4) sc_leeway.nd rfl (.inl rfl)) (pgs_cons (pg_name (i := 5) sc_leeway.nd rfl (.inl rfl)) (pgs_cons (pg_name (i := 6) sc_leeway.nd rfl (.inl rfl)) (pgs_cons (pg_name (i := 7) sc_leeway.nd rfl (.inl rfl)) (pgs_cons (pg_name (i := 8) sc_leeway.nd rfl (.inl rfl)) pgs_nil)))))) (pss_one (ps_if (pt_cmpR op_gt (pv 8) pe_int (nomark _)) (pss_one (ps_expr (pe_bm PySem.F.plainAttrs_list PySem.F.slot_list_append PySem.F.type_list_append mt_append (pv 3) (pa_cons (pe_op op_sub (pe_ix ix_tup (pe_ix ix_list (pv 0) (pv 7) (fun _ _ => rfl)) pe_int (fun _ _ => rfl)) (pe_ix ix_list (pv 1) (pv 7) (fun _ _ => rfl))) pa_nil)))) (pss_one (ps_expr (pe_bm PySem.F.plainAttrs_list PySem.F.slot_list_append PySem.F.type_list_append mt_append (pv 3) (pa_cons (pe_ix ix_list (pv 1) (pv 7) (fun _ _ => rfl)) pa_nil)))))))
      (pss_one (ps_ret (pe_callB (cr_min rfl) (by rfl) T.m_min (by decide +kernel) (pa_cons (pv 3) pa_nil)))))), ?_⟩
    refine ⟨by decide, fun z nz => ?_⟩
    have hxl := hw2.len
    rw [List.length_map] at hxl
    refine ⟨_, rfl, c, rfl, ⟨_, SqL.of (same_upd nz _ _ hw1)⟩, for_list (K := K) (a := c) (xs := xw) (fun i σ H' => ∃ v4 v5 v6 v7 v8 : Option V, σ = [some (.ref a), some (.ref b), some (.ref c), some (.ref z), v4, v5, v6, v7, v8] ∧ Same H H' ∧
      H' z = some (.lst (((wy.take i).map (cap (netOf l) (gl ns))).map V.int))) ⟨_, _, _, _, _, rfl, same_upd nz, upd_same⟩ (fun i σ H' _ ⟨_, _, _, _, _, _, s5, _⟩ => SqL.of (s5 _ _ hw1)) ?_ ?_⟩
    · rintro k x σ H' hx ⟨v4, v5, v6, v7, v8, rfl, s5, hz⟩
      obtain ⟨qq, p, hq, rfl, htp0⟩ := rows_at hw2 hx
      have htp := s5 _ _ htp0
      have hqi := hlt qq (List.mem_of_getElem? hq)
      have hgN : (ns.map V.int)[qq.i]? = some (V.int (gl ns qq.i)) := by rw [List.getElem?_map, gl_get (by omega)] <;> rfl
      obtain ⟨xsT, hxsT, hrT⟩ := hT.same s5
      obtain ⟨_, hgT, pt, rfl, htt⟩ := hrT.get qq.i _ (row_tr hqi)
      have szl : ((((wy.take k).map (cap (netOf l) (gl ns))).map V.int)).length < sizeLine := by
        rw [List.length_map, List.length_map]
        have := List.length_take_le' k wy
        exact sl (by omega)
      refine ⟨p, _, rfl, SqT.of htp, rfl, _, _, rfl, _, _, rfl, _, _, rfl, _, _, rfl, _, _, rfl, rfl, ?_⟩
      have fin : ∀ (y : Int), y = cap (netOf l) (gl ns) qq → ((wy.take (k + 1)).map (cap (netOf l) (gl ns))).map V.int = (((wy.take k).map (cap (netOf l) (gl ns))).map V.int) ++ [V.int y] := fun y e => by
        rw [take_more hq, List.map_append, List.map_append, e]
        rfl
      refine ⟨_, rfl, _, _, rfl, rfl, _, rfl, ite2 (fun cc => ?_) (fun cc => ?_)⟩
      · have cs : qq.s = true := by
          cases z : qq.s
          · have e : sgn qq = -1 := by
              unfold sgn
              rw [z]
              rfl
            rw [e] at cc
            exact absurd (of_decide_eq_true cc) (by decide)
          · rfl
        refine ⟨_, rfl, .inl ⟨rfl, _, .inl (.inl hz)⟩, _, rfl, _, rfl, a, xsT, _, _, rfl, rfl, SqL.of hxsT, atI_nat hgT, pt, _, 2, _, rfl, rfl, SqT.of htt, rfl, _, rfl, _, rfl, b, _, _, _, rfl, rfl, s5.seq hN, atI_nat hgN, _, _, rfl, rfl, z, _, _, rfl, rfl, hz, szl, ?_⟩
        refine ⟨_, _, _, _, _, rfl, fun b o e => ?_, ?_⟩
        · rw [upd_ne (ne_of_none e nz)]
          exact s5 _ _ e
        · rw [upd_same, fin _ ?_]
          unfold cap
          rw [if_pos cs]
          rfl
      · have cs : ¬ qq.s = true := fun z => by
          have e : sgn qq = 1 := by
            unfold sgn
            rw [if_pos z]
          rw [e] at cc
          exact cc (by decide)
        refine ⟨_, rfl, .inl ⟨rfl, _, .inl (.inl hz)⟩, _, rfl, _, rfl, b, _, _, _, rfl, rfl, s5.seq hN, atI_nat hgN, z, _, _, rfl, rfl, hz, szl, ?_⟩
        refine ⟨_, _, _, _, _, rfl, fun b o e => ?_, ?_⟩
        · rw [upd_ne (ne_of_none e nz)]
          exact s5 _ _ e
        · rw [upd_same, fin _ ?_]
          unfold cap
          rw [if_neg cs]
    · rintro σ H' ⟨v4, v5, v6, v7, v8, rfl, s5, hz⟩
      rw [hxl, List.take_length] at hz
      refine ⟨_, rfl, z, _, rfl, SqL.of hz, ?_, fun y hy hle => q y H' (fun q hq => hle _ (List.mem_map.mpr ⟨q, hq, rfl⟩)) ?_ s5⟩
      · rw [List.length_map]
        exact List.length_pos_iff.mpr hne
      · obtain ⟨q, hq, e⟩ := List.mem_map.mp hy
        exact ⟨q, hq, e.symm⟩
/-! ### shift -/
def spShift : Sp := fun vs H Q _ => ∃ (b c : Addr) (x : Int) (N : Net) (ns : List Int) (wy : List Stp), vs = [.ref b, .ref c, .int x] ∧ H b = some (.lst (ns.map V.int)) ∧ MovesAt H c N wy ∧ c ≠ b ∧ (∀ q, q ∈ wy → q.i < ns.length) ∧
  ∀ H', But b H H' → H' b = some (.lst ((shiftL ns wy x).map V.int)) → Q .non H'
theorem c_shift (T : Tb mg) (D : DefAt K mg "shift" s_shift ["numbers", "way", "size"]) : Cal P w K mg base 1 "shift" spShift := by
  refine cal_of D sc_shift (fun vs H Q E h => ?_) (fun f cdv A outer s H vs Q E _ hr h => ?_)
  · obtain ⟨b, c, x, N, ns, wy, rfl, _⟩ := h
    rfl
  · obtain ⟨b, c, x, N, ns, wy, rfl, hN, ⟨xw, hw1, hw2⟩, ncb, hlt, q⟩ := h
    refine ⟨_, (pss_one (ps_for PassesOwn.never rfl (pi_list (pv 1)) (pg_tup rfl (pgs_cons (pg_name (i := 3) sc_shift.nd rfl (.inl rfl)) (pgs_cons (pg_name (i := 4) sc_shift.nd rfl (.inl rfl)) (pgs_cons (pg_name (i := 5) sc_shift.nd rfl (.inl rfl)) (pgs_cons (pg_name (i := 6) sc_shift.nd rfl (.inl rfl)) (pgs_cons (pg_name (i := 7) sc_shift.nd rfl (.inl rfl)) pgs_nil)))))) (pss_one (ps_augS (pv 0) (pv 6) get_list (pe_op op_mul (pv 7) (pv 2)) ip_add set_list)))), ?_⟩
    have hxl := hw2.len
    rw [List.length_map] at hxl
    refine ⟨_, rfl, c, rfl, ⟨_, SqL.of hw1⟩, for_list (K := K) (a := c) (xs := xw) (fun i σ H' => ∃ v3 v4 v5 v6 v7 : Option V, σ = [some (.ref b), some (.ref c), some (.int x), v3, v4, v5, v6, v7] ∧ But b H H' ∧
      H' b = some (.lst ((shiftL ns (wy.take i) x).map V.int))) ⟨_, _, _, _, _, rfl, But.refl _ _, hN⟩ (fun i σ H' _ ⟨_, _, _, _, _, _, s5, _⟩ => SqL.of (s5 _ _ hw1 ncb)) ?_ ?_⟩
    · rintro k y σ H' hx ⟨v3, v4, v5, v6, v7, rfl, s5, hz⟩
      obtain ⟨qq, p, hq, rfl, htp0⟩ := rows_at hw2 hx
      have htp := s5 _ _ htp0 (ne_of htp0 hN (by intro z; cases z))
      have hqi := hlt qq (List.mem_of_getElem? hq)
      have hsl : (shiftL ns (wy.take k) x).length = ns.length := shiftL_len _ _ _
      have hgN : ((shiftL ns (wy.take k) x).map V.int)[qq.i]? = some (V.int (gl (shiftL ns (wy.take k) x) qq.i)) := by rw [List.getElem?_map, gl_get (by omega)] <;> rfl
      refine ⟨p, _, rfl, SqT.of htp, rfl, _, _, rfl, _, _, rfl, _, _, rfl, _, _, rfl, _, _, rfl, rfl, ?_⟩
      refine ⟨_, rfl, _, rfl, b, _, _, _, rfl, rfl, Int.natCast_nonneg _, SqL.of hz, hgN, ?_⟩
      have sg : -(2 ^ 64) < sgn qq ∧ sgn qq < 2 ^ 64 := by
        unfold sgn
        split <;> decide
      refine ⟨_, rfl, _, rfl, _, _, rfl, rfl, .inl sg, _, _, rfl, rfl, b, _, _, qq.i, rfl, rfl, hz, ?_, ?_⟩
      · unfold ixN
        rw [if_pos (Int.natCast_nonneg _), if_pos (by rw [List.length_map, hsl]; exact Int.ofNat_lt.mpr hqi)]
        rfl
      · refine ⟨_, _, _, _, _, rfl, s5.upd, ?_⟩
        rw [upd_same, take_more hq]
        unfold shiftL
        rw [List.foldl_append]
        show _ = some (HO.lst (((shiftL ns (wy.take k) x).set qq.i (gl (shiftL ns (wy.take k) x) qq.i + sgn qq * x)).map V.int))
        rw [List.map_set]
        rfl
    · rintro σ H' ⟨v3, v4, v5, v6, v7, rfl, s5, hz⟩
      rw [hxl, List.take_length] at hz
      exact q H' s5 hz
end
end Vb
end

section
/-! # potentials.py -/
namespace Vb
open PySem PySem.Spec PyProof.Rows L2 Nw
/-- trades that reductions are asked of -/
structure GoodT (l : List Vbchad.Trade) : Prop where
  len : l.length ≤ 40
  mem : (Vbchad.membersOf l).length ≤ 12
  room : ∀ t, t ∈ l → Vbchad.room t ≤ 1000000000
  ne : ∀ t, t ∈ l → t.from_ ≠ t.to
section
variable {X : Cx}
/-- set(xs) of a list of whole numbers, with how many it holds -/
theorem call_setC (hc : X.calm = true) : CallR X (.type "set") (fun xs H Q => ∃ (p : Addr) (ns : List Int), xs = [.ref p] ∧ SqL X.K H p (ns.map V.int) ∧ ns.length ≤ 1000 ∧
    ∀ (q : Addr) (c : Nat) (ks : List Int), H q = none → ks.Nodup → (∀ k, k ∈ ks ↔ k ∈ ns) → ks.length = c → Q (.ref q) (upd H q (SetO X.w q (fun j => decide (j ∈ ns)) c))) := by
  intro pins s σ H xs us Q I r h
  obtain ⟨p, ns, rfl, hs, hl, q⟩ := h
  obtain ⟨its, rv, pl, _⟩ := I.list hs
  rw [Vals.ref1 r]
  refine set_of_list ns (I.ok.hd hc) pl.isList rv.ints (by unfold scanBound; omega) fun h' tk c sr kp => ?_
  obtain ⟨ks, k1, k2, k3⟩ := setR_card sr
  exact ⟨.ref _, upd H s.heap.objs.size (SetO X.w s.heap.objs.size (fun j => decide (j ∈ ns)) c), I.laid (t' := tk) kp (Nat.le_refl _) (setO_new sr), rfl, q _ c ks (I.hok.fresh (Nat.le_refl _)) k1 k2 k3⟩
end
theorem not_take {α : Type} {l : List α} {k : Nat} {m : α} (nd : l.Nodup) (h : l[k]? = some m) : ¬ m ∈ l.take k := fun hm => by
  have h1 : (l.take (k + 1)).Nodup := nd.sublist (List.take_sublist _ _)
  rw [take_more h] at h1
  exact (List.pairwise_append.mp h1).2.2 m hm m (by simp) rfl
/-! ## Rising lists -/
theorem rising_of_lt : ∀ {l : List Nat}, l.Pairwise (· < ·) → Rising l
  | [], _ => trivial
  | a :: l, h => ⟨fun x hx => (List.pairwise_cons.mp h).1 x hx, rising_of_lt (List.pairwise_cons.mp h).2⟩
theorem lt_of_rising : ∀ {l : List Nat}, Rising l → l.Pairwise (· < ·)
  | [], _ => .nil
  | a :: l, h => List.pairwise_cons.mpr ⟨fun x hx => h.1 x hx, lt_of_rising h.2⟩
/-- a rising list of whole numbers that are members -/
theorem rise_nat {ns : List Int} {ms : List Nat} (hr : Rising ms) (h1 : ns.Pairwise (· < ·)) (h2 : ∀ k, k ∈ ns ↔ ∃ m, m ∈ ms ∧ k = (m : Int)) : ns = ms.map fun (m : Nat) => (m : Int) := by
  have e : ns = (ns.map Int.toNat).map fun (m : Nat) => (m : Int) := by
    rw [List.map_map]
    refine (List.map_id _).symm.trans (List.map_congr_left fun k hk => ?_)
    obtain ⟨m, _, rfl⟩ := (h2 k).mp hk
    rfl
  have r : Rising (ns.map Int.toNat) := by
    refine rising_of_lt (List.pairwise_map.mpr (h1.imp_of_mem fun {a b} ha hb hab => ?_))
    obtain ⟨m, _, rfl⟩ := (h2 a).mp ha
    obtain ⟨n, _, rfl⟩ := (h2 b).mp hb
    show m < n
    omega
  rw [e, rising_ext r hr fun x => ?_]
  constructor
  · intro hx
    obtain ⟨k, hk, rfl⟩ := List.mem_map.mp hx
    obtain ⟨m, hm, rfl⟩ := (h2 k).mp hk
    exact hm
  · intro hx
    exact List.mem_map.mpr ⟨(x : Int), (h2 _).mpr ⟨x, hx, rfl⟩, rfl⟩
/-- the members that trades name, as they come -/
def named (l : List Vbchad.Trade) : List Nat := l.flatMap fun t => [t.from_, t.to]
theorem named_len (l : List Vbchad.Trade) : (named l).length = 2 * l.length := by
  induction l with
  | nil => rfl
  | cons t l ih =>
    have e : (named (t :: l)).length = 2 + (named l).length := by
      show ([t.from_, t.to] ++ named l).length = _
      rw [List.length_append]
      rfl
    rw [e, ih, List.length_cons]
    omega
theorem mem_named {l : List Vbchad.Trade} {m : Nat} : m ∈ named l ↔ m ∈ Vbchad.membersOf l := mem_fold.symm
theorem named_snoc (l : List Vbchad.Trade) (t : Vbchad.Trade) : named (l ++ [t]) = named l ++ [t.from_] ++ [t.to] := by
  unfold named
  rw [List.flatMap_append, List.flatMap_singleton, List.append_assoc]
  rfl
theorem natL_eq (l : List Nat) : natL l = (l.map fun (m : Nat) => (m : Int)).map V.int := by
  unfold natL
  rw [List.map_map]
  rfl
theorem rgV_nat (n : Nat) : rgV 0 (n : Int) = natL (List.range n) := by
  unfold rgV natL
  rw [show ((n : Int) - 0).toNat = n by omega]
  exact List.map_congr_left fun i _ => by rw [Int.zero_add]
theorem rowsT_at {H : Hp} {xs : List V} {l : List Vbchad.Trade} (h : RowsL H xs (l.map rowT)) {k : Nat} {x : V} (hx : xs[k]? = some x) : ∃ q p, l[k]? = some q ∧ x = .ref p ∧ H p = some (.tup ((rowT q).map V.int)) := by
  obtain ⟨row, hrow, p, rfl, hp⟩ := h.at hx
  rw [List.getElem?_map] at hrow
  cases z : l[k]? with
  | none =>
    rw [z] at hrow
    cases hrow
  | some q =>
    rw [z] at hrow
    obtain rfl := Option.some.inj hrow
    exact ⟨q, p, rfl, rfl, hp⟩
section
variable {P : Program} {w : World} {K : PySem.W.Frag} {mg : Str → Option Value} {base : Heap} {TC HC : Addr}
/-! ## members_of -/
def spMembers : Sp := fun vs H Q _ => ∃ (a : Addr) (l : List Vbchad.Trade), vs = [.ref a] ∧ TradesAt H a l ∧ l.length ≤ 400 ∧ (Vbchad.membersOf l).length < 64 ∧
  ∀ H' p, Same H H' → H p = none → H' p = some (.lst (natL (Vbchad.membersOf l))) → Q (.ref p) H'
theorem c_members_of (T : Tb mg) (D : DefAt K mg "members_of" s_members_of ["trades"]) : Cal P w K mg base 1 "members_of" spMembers := by
  refine cal_of D sc_members_of (fun vs H Q E h => ?_) (fun f cdv A outer s H vs Q E _ hr h => ?_)
  · obtain ⟨a, l, rfl, _⟩ := h
    rfl
  · obtain ⟨a, l, rfl, ⟨xs, hx1, hx2⟩, hlen, h64, q⟩ := h
    refine ⟨_, (pss_cons (ps_set (i := 1) sc_members_of.nd rfl (.inl rfl) (pe_lst pa_nil))
      (pss_cons (ps_for PassesOwn.never rfl (pi_list (pv 0)) (pg_tup rfl (pgs_cons (pg_name (i := 2) sc_members_of.nd rfl (.inl rfl)) (pgs_cons (pg_name (i := 3) sc_members_of.nd rfl (.inl rfl)) (pgs_cons (pg_name (i := 4) sc_members_of.nd rfl (.inl rfl)) pgs_nil)))) (pss_cons (ps_expr (pe_bm PySem.F.plainAttrs_list PySem.F.slot_list_append PySem.F.type_list_append mt_append (pv 1) (pa_cons (pv 2) pa_nil)))
      (pss_one (ps_expr (pe_bm PySem.F.plainAttrs_list PySem.F.slot_list_append PySem.F.type_list_append mt_append (pv 1) (pa_cons (pv 3) pa_nil))))))
      (pss_one (ps_ret (pe_callB (cr_sortedSet rfl) (by rfl) T.m_sorted (by decide +kernel) (pa_cons (pe_callTy (call_setC rfl) (by rfl) T.m_set (by decide +kernel) (pa_cons (pv 1) pa_nil)) pa_nil)))))), ?_⟩
    refine ⟨by decide, fun z nz => ?_⟩
    have hxl := hx2.len
    rw [List.length_map] at hxl
    refine ⟨_, rfl, a, rfl, ⟨_, SqL.of (same_upd nz _ _ hx1)⟩, for_list (K := K) (a := a) (xs := xs) (fun i σ H' => ∃ v2 v3 v4 : Option V, σ = [some (.ref a), some (.ref z), v2, v3, v4] ∧ Same H H' ∧
      H' z = some (.lst (natL (named (l.take i))))) ⟨_, _, _, rfl, same_upd nz, upd_same⟩ (fun i σ H' _ ⟨_, _, _, _, s5, _⟩ => SqL.of (s5 _ _ hx1)) ?_ ?_⟩
    · rintro k x σ H' hx ⟨v2, v3, v4, rfl, s5, hz⟩
      obtain ⟨t, p, ht, rfl, htp0⟩ := rowsT_at hx2 hx
      have htp := s5 _ _ htp0
      have hln : (natL (named (l.take k))).length ≤ 800 := by
        unfold natL
        rw [List.length_map, named_len, List.length_take]
        omega
      refine ⟨p, _, rfl, SqT.of htp, rfl, _, _, rfl, _, _, rfl, _, _, rfl, rfl, ?_⟩
      refine ⟨_, rfl, .inl ⟨rfl, _, .inl (.inl hz)⟩, _, rfl, z, _, _, rfl, rfl, hz, sl (by omega), ?_⟩
      refine ⟨_, rfl, .inl ⟨rfl, _, .inl (.inl upd_same)⟩, _, rfl, z, _, _, rfl, rfl, upd_same, sl (by rw [List.length_append]; show _ + 1 ≤ _; omega), ?_⟩
      refine ⟨_, _, _, rfl, fun b o e => ?_, ?_⟩
      · rw [upd_ne (ne_of_none e nz), upd_ne (ne_of_none e nz)]
        exact s5 _ _ e
      · rw [upd_same, take_more ht, named_snoc]
        unfold natL
        rw [List.map_append, List.map_append]
        rfl
    · rintro σ H' ⟨v2, v3, v4, rfl, s5, hz⟩
      rw [hxl, List.take_length] at hz
      have hnl := named_len l
      refine ⟨_, rfl, z, (named l).map fun (m : Nat) => (m : Int), rfl, by rw [← natL_eq]; exact SqL.of hz, by rw [List.length_map]; omega, fun sq c ks nsq hnd hks hkc => ?_⟩
      have hc64 : c < 64 := by
        have := nodup_len (l := ks.map Int.toNat) (ms := Vbchad.membersOf l) (List.pairwise_map.mpr (List.Pairwise.imp_of_mem (fun {x y} hx hy hxy => by
            obtain ⟨m, _, rfl⟩ := List.mem_map.mp ((hks x).mp hx)
            obtain ⟨n, _, rfl⟩ := List.mem_map.mp ((hks y).mp hy)
            intro e
            exact hxy (by rw [show m = n from e])) hnd)) (fun x hx => by
          obtain ⟨k, hk, rfl⟩ := List.mem_map.mp hx
          obtain ⟨m, hm, rfl⟩ := List.mem_map.mp ((hks k).mp hk)
          exact mem_named.mp hm)
        rw [List.length_map, hkc] at this
        omega
      refine ⟨sq, _, c, rfl, upd_same, hc64, fun ns p hup hmem hns np => ?_⟩
      have e : ns = (Vbchad.membersOf l).map fun (m : Nat) => (m : Int) := rise_nat (members_rising l) hup fun k => by
        rw [hmem k]
        constructor
        · intro hk
          obtain ⟨m, hm, e⟩ := List.mem_map.mp (of_decide_eq_true hk)
          exact ⟨m, mem_named.mp hm, e.symm⟩
        · rintro ⟨m, hm, rfl⟩
          exact decide_eq_true (List.mem_map.mpr ⟨m, mem_named.mpr hm, rfl⟩)
      subst e
      have s6 : Same H (upd (upd H' sq (SetO w sq (fun j => decide (j ∈ (named l).map fun (m : Nat) => (m : Int))) c)) p (.lst (((Vbchad.membersOf l).map fun (m : Nat) => (m : Int)).map V.int))) := s5.trans ((same_upd nsq).trans (same_upd np))
      refine q _ p s6 ((s5.trans (same_upd nsq)).free np) ?_
      rw [natL_eq]
      exact upd_same
/-! ## worth_of -/
def spWorth : Sp := fun vs H Q _ => ∃ (a b : Nat) (d : Addr) (ks : List Nat) (p : Nat → Int), vs = [.int a, .int b, .ref d] ∧ H d = some (.dK (dkL ks fun m => .int (p m))) ∧ a ∈ ks ∧ b ∈ ks ∧ Q (.int (1 + (p a - p b))) H
theorem c_worth_of (T : Tb mg) (D : DefAt K mg "worth_of" s_worth_of ["giver", "to", "potentials"]) : Cal P w K mg base 1 "worth_of" spWorth := by
  refine cal_of D sc_worth_of (fun vs H Q E h => ?_) (fun f cdv A outer s H vs Q E _ hr h => ?_)
  · obtain ⟨a, b, d, ks, p, rfl, _⟩ := h
    rfl
  · obtain ⟨a, b, d, ks, p, rfl, hd, ha, hb, q⟩ := h
    rw [← Int.add_sub_assoc] at q
    refine ⟨_, (pss_one (ps_ret (pe_op op_sub (pe_op op_add pe_int (pe_dget (hu_of hr) (pv 2) (pv 0) (fun _ _ => rfl))) (pe_dget (hu_of hr) (pv 2) (pv 1) (fun _ _ => rfl))))), ?_⟩
    exact ⟨_, rfl, _, rfl, d, _, rfl, dget_in hd ha, _, _, rfl, rfl, _, rfl, _, rfl, d, _, rfl, dget_in hd hb, _, _, rfl, rfl, q⟩
/-! ## bound_of -/
def wP (p : Nat → Int) (t : Vbchad.Trade) : Int := 1 + (p t.from_ - p t.to)
def bndT (p : Nat → Int) (t : Vbchad.Trade) : Int := (Vbchad.room t : Int) * (if 0 < wP p t then wP p t else 0)
def spBound : Sp := fun vs H Q _ => ∃ (a d : Addr) (l : List Vbchad.Trade) (ks : List Nat) (p : Nat → Int), vs = [.ref a, .ref d] ∧ TradesAt H a l ∧ H d = some (.dK (dkL ks fun m => .int (p m))) ∧ (∀ m, m ∈ Vbchad.membersOf l → m ∈ ks) ∧ GoodT l ∧
  ∀ H', Same H H' → Q (.int (l.map (bndT p)).sum) H'
theorem c_bound_of (T : Tb mg) (D : DefAt K mg "bound_of" s_bound_of ["trades", "potentials"]) (c_worth_of : Cal P w K mg base 1 "worth_of" spWorth) : Cal P w K mg base 2 "bound_of" spBound := by
  refine cal_of D sc_bound_of (fun vs H Q E h => ?_) (fun f cdv A outer s H vs Q E _ hr h => ?_)
  · obtain ⟨a, d, l, ks, p, rfl, _⟩ := h
    rfl
  · obtain ⟨a, d, l, ks, p, rfl, ⟨xs, hx1, hx2⟩, hd, hks, good, q⟩ := h
    have hxl := hx2.len
    rw [List.length_map] at hxl
    refine ⟨_, (pss_one (ps_ret (pe_callB (cr_sum rfl) (by rfl) T.m_sum (by decide +kernel) (pa_cons (pe_lc (own := [("giver", 2), ("to", 3), ("room", 4)]) (g := gTup K 3 (gCons (gName 2) (gCons (gName 3) (gCons (gName 4) gNil)))) (tt := tYes) rfl sc_bound_of.nd (pi_list (pv 0)) (blkOk_by (own := [("giver", 2), ("to", 3), ("room", 4)]) (N := ["trades", "potentials", "giver", "to", "room"]) (sc := defScope s_bound_of) (by decide +kernel)) (fun _ _ _ _ _ => (pg_tup rfl (pgs_cons (pg_name (i := 2) sc_bound_of.nd rfl (.inl rfl)) (pgs_cons (pg_name (i := 3) sc_bound_of.nd rfl (.inl rfl)) (pgs_cons (pg_name (i := 4) sc_bound_of.nd rfl (.inl rfl)) pgs_nil))))) (fun _ _ _ _ _ => pts_nil) (fun _ _ _ _ _ => (pe_op op_mul (pv 4) (pe_callB (call_max2 rfl) (by rfl) T.m_max (by decide +kernel) (pa_cons pe_int (pa_cons (pe_c c_worth_of hr (by decide) rfl (pa_cons (pv 2) (pa_cons (pv 3) (pa_cons (pv 1) pa_nil)))) pa_nil)))))) pa_nil)))), ?_⟩
    refine ⟨_, rfl, a, rfl, ⟨_, SqL.of hx1⟩, fun z nz => lc_list (K := K) (a := a) (xs := xs) (fun i H' => Same H H' ∧ H' z = some (.lst (((l.take i).map (bndT p)).map V.int))) ⟨same_upd nz, upd_same⟩ (fun i H' _ h => SqL.of (h.1 _ _ hx1)) ?_ ?_⟩
    · rintro k x H' hx ⟨s5, hz⟩
      obtain ⟨t, pp, ht, rfl, htp0⟩ := rowsT_at hx2 hx
      have htp := s5 _ _ htp0
      have htl : t ∈ l := List.mem_of_getElem? ht
      refine ⟨pp, _, rfl, SqT.of htp, rfl, _, _, rfl, _, _, rfl, _, _, rfl, rfl, rfl, ?_⟩
      refine ⟨_, rfl, _, rfl, _, rfl, _, rfl, t.from_, t.to, d, ks, p, rfl, s5 _ _ hd, hks _ (mem_members.mpr ⟨t, htl, .inl rfl⟩), hks _ (mem_members.mpr ⟨t, htl, .inr rfl⟩), ?_⟩
      have hroom := good.room t htl
      have hlk : (((l.take k).map (bndT p)).map V.int).length ≤ 40 := by
        have := good.len
        rw [List.length_map, List.length_map, List.length_take]
        omega
      refine ⟨_, _, rfl, _, _, rfl, rfl, .inl ⟨by omega, by omega⟩, _, hz, sl (by omega), fun b o e => ?_, ?_⟩
      · rw [upd_ne (ne_of_none e nz)]
        exact s5 _ _ e
      · rw [upd_same, take_more ht, List.map_append, List.map_append]
        rfl
    · rintro H' ⟨s5, hz⟩
      rw [hxl, List.take_length] at hz
      exact ⟨z, _, rfl, SqL.of hz, q H' s5⟩
/-! ## least_potentials -/
def spLeast : Sp := fun vs H Q _ => ∃ (a b : Addr) (l : List Vbchad.Trade) (ns : List Int), vs = [.ref a, .ref b] ∧ TradesAt H a l ∧ H b = some (.lst (ns.map V.int)) ∧ ns.length = l.length ∧ Opt (netOf l) (gl ns) ∧ GoodT l ∧
  ∀ H' p ks, Same H H' → H p = none → H' p = some (.dK (dkL ks fun m => .int (toldPot l m))) → (∀ m, m ∈ ks ↔ m ∈ Vbchad.membersOf l) → Q (.ref p) H'
theorem c_least_potentials (T : Tb mg) (D : DefAt K mg "least_potentials" s_least_potentials ["trades", "numbers"]) (c_shortest_ways : Cal P w K mg base 1 "shortest_ways" (spShort K)) (c_moves_of : Cal P w K mg base 1 "moves_of" (spMoves K))
    (c_members_of : Cal P w K mg base 1 "members_of" spMembers) (c_gain_of : Cal P w K mg base 1 "gain_of" spGain) : Cal P w K mg base 2 "least_potentials" spLeast := by
  refine cal_of D sc_least_potentials (fun vs H Q E h => ?_) (fun f cdv A outer s H vs Q E _ hr h => ?_)
  · obtain ⟨a, b, l, ns, rfl, _⟩ := h
    rfl
  · obtain ⟨a, b, l, ns, rfl, hT, hN, hlen, hopt, good, q⟩ := h
    have hl := good.len
    have hm12 := good.mem
    have htight : ∃ p, Tight (netOf l) (gl ns) p := by
      obtain ⟨g1, p, g2⟩ := greatest_tight l
      exact ⟨p, tight_of_opt g1 g2 hopt⟩
    obtain ⟨p0, hp0⟩ := htight
    have hpos : Pos (netOf l) (allMoves l (gl ns)) (fun m => - p0 m) := pos_of_feas (feas_of_tight hp0) all_lt
    obtain ⟨xsT, hT1, hT2⟩ := id hT
    have hxl := hT2.len
    rw [List.length_map] at hxl
    refine ⟨_, (pss_cons (ps_asg (pe_c c_shortest_ways hr (by decide) rfl (pa_cons (pe_c c_moves_of hr (by decide) rfl (pa_cons (pv 0) (pa_cons (pv 1) (pa_cons (pe_listRg rfl rfl T.m_list (prg_1 rfl T.m_range (pe_callB call_len_seq (by rfl) T.m_len (by decide +kernel) (pa_cons (pv 0) pa_nil)))) pa_nil)))) (pa_cons (pe_c c_members_of hr (by decide) rfl (pa_cons (pv 0) pa_nil)) pa_nil))) (pg_tup rfl (pgs_cons (pg_name (i := 2) sc_least_potentials.nd rfl (.inl rfl)) (pgs_cons (pg_name (i := 3) sc_least_potentials.nd rfl (.inl rfl)) pgs_nil))))
      (pss_cons (ps_set (i := 4) sc_least_potentials.nd rfl (.inl rfl) pe_dnewK)
      (pss_cons (ps_lock (ps_for PassesOwn.never rfl (pi_keys (pv 2)) (pg_name (i := 5) sc_least_potentials.nd rfl (.inl rfl)) (pss_one (ps_dput (hu_of hr) (pv 4) (pv 5) (pe_c c_gain_of hr (by decide) rfl (pa_cons (pe_dget (hu_of hr) (pv 2) (pv 5) (fun _ _ => rfl)) pa_nil)) rfl))))
      (pss_one (ps_ret (pv 4)))))), ?_⟩
    refine ⟨_, rfl, _, rfl, _, rfl, a, xsT, rfl, .inl (SqL.of hT1), _, rfl, RgOk.of_le (by omega) (by omega) (by omega) (by omega), fun pl npl => ?_⟩
    have s1 : Same H (upd H pl (.lst (rgV 0 xsT.length))) := same_upd npl
    refine ⟨a, b, pl, l, ns, List.range l.length, rfl, hT.same s1, SqL.of (s1 _ _ hN), ?_, all_lt, hlen, by rw [List.length_range]; omega, fun H2 pm s2 npm hM => ?_⟩
    · rw [upd_same, rgV_nat, hxl]
      rfl
    have s12 := s1.trans s2
    refine ⟨_, rfl, a, l, rfl, hT.same s12, by omega, by omega, fun H3 ps s3 nps hS => ?_⟩
    have s13 := s12.trans s3
    refine ⟨pm, ps, netOf l, Vbchad.membersOf l, allMoves l (gl ns), Vbchad.membersOf l, _, rfl, hM.same s3, hS, hpos, fun q hq => (moves_dst all_lt hq).2, fun s h => h, by omega, ?_⟩
    intro H4 pt dl dp t s4 npt ndl ndp hpt bf hsh
    have s14 := s13.trans s4
    have hle := short_least ⟨p0, hp0⟩ hsh hm12 (fun m => Iff.rfl)
    have huniq := LeastPot.unique hopt (greatest_opt l) hle (toldPot_least l)
    have hks : ∀ m, m ∈ t.ks ↔ m ∈ Vbchad.membersOf l := fun m => ⟨fun h => hsh.sub m h, fun h => (hsh.start m h).1⟩
    refine ⟨pt, _, rfl, SqT.of hpt, rfl, _, _, rfl, _, _, rfl, rfl, fun pd npd => ?_⟩
    have ndl0 := s13.free ndl
    have edl := same_upd (o := .dK []) npd _ _ bf.l
    refine ⟨dl, _, edl, trivial, fun od => ⟨_, rfl, dl, od, rfl, .inl ⟨_, upd_same, ?_⟩⟩⟩
    have tl : t.ks.length ≤ 12 := by
      have := nodup_len hsh.nd (fun m h => (hks m).mp h)
      omega
    have npd0 := s14.free npd
    have nepd : pd ≠ dl := fun e => by
      rw [e, bf.l] at npd
      cases npd
    refine for_it walk_keys (fun i σ H' => ∃ v5 : Option V, σ = [some (.ref a), some (.ref b), some (.ref dl), some (.ref dp), some (.ref pd), v5] ∧ H' dl = some (.frz od (.dK (dkL t.ks fun m => .int (t.L m)))) ∧ But dl H H' ∧
      H' pd = some (.dK (dkL (t.ks.take i) fun m => .int (- dist t m)))) ⟨_, rfl, upd_same, fun c o e n => ?_, ?_⟩ (fun i σ H' _ ⟨_, _, h, _⟩ => h) ?_ ?_
    · rw [upd_ne n]
      exact same_upd npd _ _ (s14 _ _ e)
    · rw [upd_ne nepd, upd_same]
      rfl
    · rintro k x σ H5 H6 hk ⟨v5, rfl, hd5, but5, hp5⟩ ⟨rfl, kk, v, hkv, rfl⟩
      have hm : ∃ m, t.ks[k]? = some m ∧ kk = Sum.inl (m : Int) := by
        unfold dkL at hkv
        rw [List.getElem?_map] at hkv
        cases z : t.ks[k]? with
        | none =>
          rw [z] at hkv
          cases hkv
        | some m =>
          rw [z] at hkv
          exact ⟨m, rfl, (congrArg Prod.fst (Option.some.inj hkv)).symm⟩
      obtain ⟨m, hm, rfl⟩ := hm
      have hmk : m ∈ t.ks := List.mem_of_getElem? hm
      refine ⟨_, rfl, _, rfl, dl, _, rfl, dget_frz hd5 hmk, _, rfl, ?_⟩
      refine ⟨_, rfl, _, rfl, pd, _, rfl, dput_dk hp5 (sl ?_), ?_⟩
      · have := List.length_take_le' k t.ks
        omega
      · refine ⟨_, rfl, ?_, fun c o e n => ?_, ?_⟩
        · rw [upd_ne (Ne.symm nepd)]
          exact hd5
        · rw [upd_ne (ne_of_none e npd0)]
          exact but5 _ _ e n
        · have hnot : ¬ m ∈ t.ks.take k := not_take hsh.nd hm
          rw [upd_same, addk_out hnot, take_more hm]
          refine congrArg (fun g => some (HO.dK (dkL _ g))) ?_
          funext z
          unfold fu
          by_cases c : z = m
          · rw [if_pos c, c]
            rfl
          · rw [if_neg c]
    · rintro σ H5 ⟨v5, rfl, hd5, but5, hp5⟩
      rw [dkL_len, List.take_length] at hp5
      refine ⟨hd5, _, rfl, q _ pd t.ks ?_ npd0 ?_ hks⟩
      · exact But.same (Same.refl H) ndl0 but5.upd
      · rw [upd_ne nepd, hp5]
        exact congrArg (fun z => some (HO.dK z)) (dkL_congr fun m hm => by rw [huniq m ((hks m).mp hm)])
end
end Vb
end

section
/-! # reductions.py: overhangs, is_reduction -/
namespace Vb
open PySem PySem.Spec PyProof.Rows L2 Nw
/-- what the first k numbers bring, less what they take -/
def ovk (N : Net) (f : Nat → Int) (k m : Nat) : Int := - sm k fun i => (ind (N.a i == m) - ind (N.b i == m)) * f i
theorem ovk_zero (N : Net) (f : Nat → Int) (m : Nat) : ovk N f 0 m = 0 := rfl
theorem ovk_all (N : Net) (f : Nat → Int) (m : Nat) : ovk N f N.n m = over N f m := rfl
theorem ovk_succ (N : Net) (f : Nat → Int) (k m : Nat) : ovk N f (k + 1) m = ovk N f k m - (ind (N.a k == m) - ind (N.b k == m)) * f k := by
  have e : ovk N f (k + 1) m = - (sm k (fun i => (ind (N.a i == m) - ind (N.b i == m)) * f i) + (ind (N.a k == m) - ind (N.b k == m)) * f k) := rfl
  have e2 : ovk N f k m = - sm k (fun i => (ind (N.a i == m) - ind (N.b i == m)) * f i) := rfl
  omega
theorem ovk_new (N : Net) (f : Nat → Int) (k : Nat) : fu (fu (ovk N f k) (N.a k) (ovk N f k (N.a k) - f k)) (N.b k) (fu (ovk N f k) (N.a k) (ovk N f k (N.a k) - f k) (N.b k) + f k) = ovk N f (k + 1) := by
  funext m
  rw [ovk_succ]
  unfold fu
  by_cases cb : m = N.b k
  · subst cb
    rw [if_pos rfl, ind_pos (p := N.b k == N.b k) (by simp)]
    by_cases ca : N.b k = N.a k
    · rw [if_pos ca, ind_pos (p := N.a k == N.b k) (by simp [ca]), ca]
      omega
    · rw [if_neg ca, ind_neg (p := N.a k == N.b k) (by simp [Ne.symm ca])]
      omega
  · rw [if_neg cb, ind_neg (p := N.b k == m) (by simp [Ne.symm cb])]
    by_cases ca : m = N.a k
    · subst ca
      rw [if_pos rfl, ind_pos (p := N.a k == N.a k) (by simp)]
      omega
    · rw [if_neg ca, ind_neg (p := N.a k == m) (by simp [Ne.symm ca])]
      omega
section
variable {P : Program} {w : World} {K : PySem.W.Frag} {mg : Str → Option Value} {base : Heap} {TC HC : Addr}
def spOver (K : PySem.W.Frag) : Sp := fun vs H Q _ => ∃ (a b : Addr) (l : List Vbchad.Trade) (ns : List Int), vs = [.ref a, .ref b] ∧ TradesAt H a l ∧ SqL K H b (ns.map V.int) ∧ ns.length = l.length ∧ l.length ≤ 400 ∧
  ∀ H' p ks, Same H H' → H p = none → H' p = some (.dK (dkL ks fun m => .int (over (netOf l) (gl ns) m))) → ks.Nodup → (∀ m, m ∈ ks ↔ m ∈ Vbchad.membersOf l) → Q (.ref p) H'
theorem c_overhangs (T : Tb mg) (D : DefAt K mg "overhangs" s_overhangs ["trades", "numbers"]) : Cal P w K mg base 1 "overhangs" (spOver K) := by
  refine cal_of D sc_overhangs (fun vs H Q E h => ?_) (fun f cdv A outer s H vs Q E _ hr h => ?_)
  · obtain ⟨a, b, l, ns, rfl, _⟩ := h
    rfl
  · obtain ⟨a, b, l, ns, rfl, hT, hN, hlen, hl, q⟩ := h
    refine ⟨_, (pss_cons (ps_set (i := 2) sc_overhangs.nd rfl (.inl rfl) pe_dnewK)
      (pss_cons (ps_for PassesOwn.never rfl (pi_enum (by rfl) T.m_enumerate (pa_cons (pv 1) pa_nil)) (pg_tup rfl (pgs_cons (pg_name (i := 3) sc_overhangs.nd rfl (.inl rfl)) (pgs_cons (pg_name (i := 4) sc_overhangs.nd rfl (.inl rfl)) pgs_nil))) (pss_cons (ps_asg (pe_ix ix_list (pv 0) (pv 3) (fun _ _ => rfl)) (pg_tup rfl (pgs_cons (pg_name (i := 5) sc_overhangs.nd rfl (.inl rfl)) (pgs_cons (pg_name (i := 6) sc_overhangs.nd rfl (.inl rfl)) (pgs_cons (pg_name (i := 7) sc_overhangs.nd rfl (.inl rfl)) pgs_nil)))))
      (pss_cons (ps_dput (hu_of hr) (pv 2) (pv 5) (pe_op op_sub (pe_dget2 (hu_of hr) (pv 2) (pv 5) pe_int ⟨rfl, rfl, rfl, rfl⟩) (pv 4)) rfl)
      (pss_one (ps_dput (hu_of hr) (pv 2) (pv 6) (pe_op op_add (pe_dget2 (hu_of hr) (pv 2) (pv 6) pe_int ⟨rfl, rfl, rfl, rfl⟩) (pv 4)) rfl)))))
      (pss_one (ps_ret (pv 2))))), ?_⟩
    intro od nod
    have hnl : (ns.map V.int).length = ns.length := List.length_map _
    refine ⟨_, rfl, b, _, rfl, (same_upd nod).seq hN, for_it walk_enum (fun i σ H' => ∃ v3 v4 v5 v6 v7 : Option V, σ = [some (.ref a), some (.ref b), some (.ref od), v3, v4, v5, v6, v7] ∧ Same H H' ∧
      H' od = some (.dK (dkL ((named (l.take i)).foldl addk []) fun m => .int (ovk (netOf l) (gl ns) i m)))) ⟨_, _, _, _, _, rfl, same_upd nod, by rw [upd_same]; rfl⟩ (fun i σ H' _ ⟨_, _, _, _, _, _, s5, _⟩ => s5.seq hN) ?_ ?_⟩
    · rintro k x σ H5 H6 hk ⟨v3, v4, v5, v6, v7, rfl, s5, ho⟩ ⟨tp, x1, x2, rfl, ntp, rfl, e1, e2⟩
      obtain rfl := Option.some.inj e1
      rw [hnl] at hk
      have hkl : k < l.length := by omega
      have hgN : (ns.map V.int)[k]? = some (V.int (gl ns k)) := by rw [List.getElem?_map, gl_get hk] <;> rfl
      replace e2 := hgN.symm.trans e2
      obtain rfl := Option.some.inj e2
      have s6 := s5.trans (same_upd (o := .tup [.int (k : Nat), .int (gl ns k)]) ntp)
      have ho6 := (same_upd (o := .tup [.int (k : Nat), .int (gl ns k)]) ntp) _ _ ho
      obtain ⟨xsT, hxsT, hrT⟩ := hT.same s6
      obtain ⟨_, hgT, pt, rfl, htt⟩ := hrT.get k _ (row_tr hkl)
      have hkey : ((named (l.take k)).foldl addk []).length ≤ 800 := by
        have h1 := nodup_len (nodup_foldk (S := named (l.take k)) (ks := []) (by simp)) (fun x hx => (mem_foldk.mp hx).resolve_left (by simp))
        rw [named_len, List.length_take] at h1
        omega
      have hadd : (addk ((named (l.take k)).foldl addk []) (tr l k).from_).length ≤ 801 := by
        rw [len_addk]
        split <;> omega
      refine ⟨tp, _, rfl, SqT.of upd_same, rfl, _, _, rfl, _, _, rfl, rfl, ?_⟩
      refine ⟨_, rfl, _, rfl, a, xsT, _, _, rfl, rfl, SqL.of hxsT, atI_nat hgT, pt, _, rfl, SqT.of htt, rfl, _, _, rfl, _, _, rfl, _, _, rfl, rfl, ?_⟩
      have getd : ∀ (ks : List Nat) (g : Nat → Int) (m : Nat), ¬ m ∈ ks → g m = 0 → (if m ∈ ks then some (V.int (g m)) else none).getD (.int 0) = V.int (g m) := fun ks g m h1 h2 => by
        rw [if_neg h1, h2]
        rfl
      have getd2 : ∀ (ks : List Nat) (g : Nat → Int) (m : Nat), (¬ m ∈ ks → g m = 0) → (if m ∈ ks then some (V.int (g m)) else none).getD (.int 0) = V.int (g m) := fun ks g m h1 => by
        by_cases c : m ∈ ks
        · rw [if_pos c]
          rfl
        · exact getd ks g m c (h1 c)
      have zero : ∀ m, ¬ m ∈ (named (l.take k)).foldl addk [] → ovk (netOf l) (gl ns) k m = 0 := fun m hm => by
        have hnot : ¬ m ∈ named (l.take k) := fun z => hm (mem_foldk.mpr (.inr z))
        unfold ovk
        rw [sm_zero fun i hi => ?_]
        · rfl
        · have him : tr l i ∈ l.take k := by
            refine List.mem_of_getElem? (i := i) ?_
            rw [List.getElem?_take_of_lt hi]
            unfold tr
            rw [List.getD_eq_getElem?_getD, List.getElem?_eq_getElem (by omega)]
            rfl
          have h1 : (netOf l).a i ≠ m := fun e => hnot (List.mem_flatMap.mpr ⟨_, him, by rw [← e]; exact List.mem_cons_self⟩)
          have h2 : (netOf l).b i ≠ m := fun e => hnot (List.mem_flatMap.mpr ⟨_, him, by rw [← e]; exact List.mem_cons_of_mem _ List.mem_cons_self⟩)
          rw [ind_neg (by simp [h1]), ind_neg (by simp [h2])]
          omega
      refine ⟨_, rfl, od, rfl, .inl ⟨_, .inl ho6⟩, _, rfl, _, dget_any ho6, _, rfl, _, _, getd2 _ _ _ (zero _), rfl, ?_⟩
      have ef : ∀ (ks : List Nat) (g : Nat → Int) (m : Nat) (v : Int), (dkL (addk ks m) (fu (fun m => V.int (g m)) m (V.int v))) = dkL (addk ks m) (fun z => V.int (fu g m v z)) := fun ks g m v => by
        rw [int_fu]
      have fin : ∀ (g0 : Nat → Int) (x1 x2 : Int), g0 = ovk (netOf l) (gl ns) k → x1 = g0 (tr l k).from_ - gl ns k → x2 = fu g0 (tr l k).from_ x1 (tr l k).to + gl ns k → fu (fu g0 (tr l k).from_ x1) (tr l k).to x2 = ovk (netOf l) (gl ns) (k + 1) := fun g0 x1 x2 e0 e1 e2 => by
        rw [e2, e1, e0]
        exact ovk_new (netOf l) (gl ns) k
      have zero2 : ∀ m, ¬ m ∈ addk ((named (l.take k)).foldl addk []) (tr l k).from_ → fu (ovk (netOf l) (gl ns) k) (tr l k).from_ (ovk (netOf l) (gl ns) k (tr l k).from_ - gl ns k) m = 0 := fun m hm => by
        rw [fu_ne fun e => hm (mem_addk.mpr (.inl e)), zero m fun z => hm (mem_addk.mpr (.inr z))]
      refine ⟨_, rfl, _, rfl, od, _, rfl, dput_dk ho6 (sl (by omega)), ?_⟩
      rw [ef]
      refine ⟨_, rfl, od, rfl, .inl ⟨_, .inl upd_same⟩, _, rfl, _, dget_any upd_same, _, rfl, _, _, getd2 _ _ _ (zero2 _), rfl, ?_⟩
      refine ⟨_, rfl, _, rfl, od, _, rfl, dput_dk upd_same (sl (by omega)), ?_⟩
      rw [ef]
      refine ⟨_, _, _, _, _, rfl, fun b o e => ?_, ?_⟩
      · rw [upd_ne (ne_of_none e nod), upd_ne (ne_of_none e nod)]
        exact s6 _ _ e
      · have ht : l[k]? = some (tr l k) := by
          unfold tr
          rw [List.getD_eq_getElem?_getD, List.getElem?_eq_getElem hkl]
          rfl
        rw [upd_same, take_more ht, named_snoc, List.foldl_append, List.foldl_append, fin _ _ _ rfl rfl rfl]
        rfl
    · rintro σ H' ⟨v3, v4, v5, v6, v7, rfl, s5, ho⟩
      rw [hnl, hlen, List.take_length] at ho
      exact ⟨_, rfl, q H' od _ s5 nod ho (nodup_foldk (by simp)) fun m => by rw [mem_foldk, ← mem_named]; simp⟩
/-! ### is_reduction -/
def spRed (K : PySem.W.Frag) : Sp := fun vs H Q _ => ∃ (a b : Addr) (l : List Vbchad.Trade) (ns : List Int), vs = [.ref a, .ref b] ∧ TradesAt H a l ∧ SqL K H b (ns.map V.int) ∧ ns.length = l.length ∧ GoodT l ∧
  ∀ H' r, Same H H' → (r = true ↔ Red (netOf l) (gl ns)) → Q (.bl r) H'
theorem c_is_reduction (T : Tb mg) (D : DefAt K mg "is_reduction" s_is_reduction ["trades", "numbers"]) (c_overhangs : Cal P w K mg base 1 "overhangs" (spOver K)) : Cal P w K mg base 2 "is_reduction" (spRed K) := by
  refine cal_of D sc_is_reduction (fun vs H Q E h => ?_) (fun f cdv A outer s H vs Q E _ hr h => ?_)
  · obtain ⟨a, b, l, ns, rfl, _⟩ := h
    rfl
  · obtain ⟨a, b, l, ns, rfl, hT, hN, hlen, good, q⟩ := h
    have hl := good.len
    refine ⟨_, (pss_cons (ps_for PassesOwn.never rfl (pi_enum (by rfl) T.m_enumerate (pa_cons (pv 1) pa_nil)) (pg_tup rfl (pgs_cons (pg_name (i := 2) sc_is_reduction.nd rfl (.inl rfl)) (pgs_cons (pg_name (i := 3) sc_is_reduction.nd rfl (.inl rfl)) pgs_nil))) (pss_one (ps_if (pt_not (pt_chain op_le op_le pe_int (pv 3) (pe_ix ix_tup (pe_ix ix_list (pv 0) (pv 2) (fun _ _ => rfl)) pe_int (fun _ _ => rfl)))) (pss_one (ps_ret pe_bl)) pss_nil)))
      (pss_cons (ps_set (i := 4) sc_is_reduction.nd rfl (.inr rfl) (pe_c c_overhangs hr (by decide) rfl (pa_cons (pv 0) (pa_cons (pv 1) pa_nil))))
      (pss_one (ps_lock (ps_ret (pe_not (pe_callB (cr_any rfl) (by rfl) T.m_any (by decide +kernel) (pa_cons (pe_lc (own := [("member", 5)]) (g := gName 5) (tt := tYes) rfl sc_is_reduction.nd (pi_keys (pv 4)) (blkOk_by (own := [("member", 5)]) (N := ["trades", "numbers", "place", "number", "over", "member"]) (sc := defScope s_is_reduction) (by decide +kernel)) (fun _ _ _ _ _ => (pg_name (i := 5) sc_is_reduction.nd rfl (.inl rfl))) (fun _ _ _ _ _ => pts_nil) (fun _ _ _ _ _ => (pe_cmpR op_ne (pe_dget (hu_of hr) (pv 4) (pv 5) (fun _ _ => rfl)) pe_int (nomark _)))) pa_nil)))))))), ?_⟩
    have hnl : (ns.map V.int).length = ns.length := List.length_map _
    refine ⟨_, rfl, b, _, rfl, hN, for_it walk_enum (fun i σ H' => ∃ v2 v3 v4 v5 : Option V, σ = [some (.ref a), some (.ref b), v2, v3, v4, v5] ∧ Same H H' ∧
      ∀ j, j < i → 0 ≤ gl ns j ∧ gl ns j ≤ (netOf l).r j) ⟨_, _, _, _, rfl, Same.refl H, fun j hj => absurd hj (Nat.not_lt_zero _)⟩ (fun i σ H' _ ⟨_, _, _, _, _, s5, _⟩ => s5.seq hN) ?_ ?_⟩
    · rintro k x σ H5 H6 hk ⟨v2, v3, v4, v5, rfl, s5, hok⟩ ⟨tp, x1, x2, rfl, ntp, rfl, e1, e2⟩
      obtain rfl := Option.some.inj e1
      rw [hnl] at hk
      have hkl : k < l.length := by omega
      have hgN : (ns.map V.int)[k]? = some (V.int (gl ns k)) := by rw [List.getElem?_map, gl_get hk] <;> rfl
      replace e2 := hgN.symm.trans e2
      obtain rfl := Option.some.inj e2
      have s6 := s5.trans (same_upd (o := .tup [.int (k : Nat), .int (gl ns k)]) ntp)
      obtain ⟨xsT, hxsT, hrT⟩ := hT.same s6
      obtain ⟨_, hgT, pt, rfl, htt⟩ := hrT.get k _ (row_tr hkl)
      refine ⟨tp, _, rfl, SqT.of upd_same, rfl, _, _, rfl, _, _, rfl, rfl, ?_⟩
      have bad : ¬ (0 ≤ gl ns k ∧ gl ns k ≤ (netOf l).r k) → Q (.bl false) (upd H5 tp (.tup [.int (k : Nat), .int (gl ns k)])) := fun h => q _ false s6 ⟨(fun z => (by cases z)), fun hr => absurd (hr.fits k hkl) h⟩
      refine ⟨_, rfl, _, _, rfl, rfl, _, rfl, ite2 (fun cc => ?_) (fun cc => ?_)⟩
      · have c0 : 0 ≤ gl ns k := of_decide_eq_true cc
        refine ⟨_, rfl, _, rfl, a, xsT, _, _, rfl, rfl, SqL.of hxsT, atI_nat hgT, pt, _, 2, _, rfl, rfl, SqT.of htt, rfl, _, _, rfl, rfl, _, rfl, ite2 (fun cc2 => ?_) (fun cc2 => ?_)⟩
        · have c1 : ¬ gl ns k ≤ (Vbchad.room (tr l k) : Int) := fun z => by
            rw [decide_eq_true z] at cc2
            cases cc2
          exact bad fun z => c1 z.2
        · have c1 : gl ns k ≤ (Vbchad.room (tr l k) : Int) := by
            by_cases z : gl ns k ≤ (Vbchad.room (tr l k) : Int)
            · exact z
            · exact absurd (by rw [decide_eq_false z]; rfl) cc2
          refine ⟨_, _, _, _, rfl, s6, fun j hj => ?_⟩
          by_cases e : j = k
          · subst e
            exact ⟨c0, c1⟩
          · exact hok j (by omega)
      · exact ⟨_, rfl, bad fun z => cc (decide_eq_true z.1)⟩
    · rintro σ H1 ⟨v2, v3, v4, v5, rfl, s1, hok⟩
      rw [hnl, hlen] at hok
      refine ⟨_, rfl, _, rfl, a, b, l, ns, rfl, hT.same s1, s1.seq hN, hlen, by omega, fun H2 od ks s2 nod hod hnd hks => ?_⟩
      refine ⟨od, _, hod, trivial, fun oo => ⟨_, rfl, od, oo, rfl, .inl ⟨_, upd_same, fun z nz => ?_⟩⟩⟩
      have tl : ks.length ≤ 12 := by
        have := nodup_len hnd (fun m h => (hks m).mp h)
        have := good.mem
        omega
      refine lc_it walk_keys (fun i H' => Same (upd H2 od (.frz oo (.dK (dkL ks fun m => .int (over (netOf l) (gl ns) m))))) H' ∧ H' z = some (.lst (((ks.take i).map fun m => !decide (V.int (over (netOf l) (gl ns) m) = V.int 0)).map V.bl))) ⟨same_upd nz, upd_same⟩ (fun i H' _ h => h.1 _ _ upd_same) ?_ ?_
      · rintro k x H5 H6 hk ⟨s5, hz⟩ ⟨rfl, kk, v, hkv, rfl⟩
        have hm : ∃ m, ks[k]? = some m ∧ kk = Sum.inl (m : Int) := by
          unfold dkL at hkv
          rw [List.getElem?_map] at hkv
          cases z : ks[k]? with
          | none =>
            rw [z] at hkv
            cases hkv
          | some m =>
            rw [z] at hkv
            exact ⟨m, rfl, (congrArg Prod.fst (Option.some.inj hkv)).symm⟩
        obtain ⟨m, hm, rfl⟩ := hm
        have hmk : m ∈ ks := List.mem_of_getElem? hm
        refine ⟨rfl, _, rfl, _, rfl, od, _, rfl, dget_frz (s5 _ _ upd_same) hmk, rfl, _, hz, sl ?_, fun b o e => ?_, ?_⟩
        · rw [List.length_map, List.length_map, List.length_take]
          omega
        · rw [upd_ne (ne_of_none e nz)]
          exact s5 _ _ e
        · rw [upd_same, take_more hm, List.map_append, List.map_append]
          rfl
      · rintro H5 ⟨s5, hz⟩
        rw [dkL_len, List.take_length] at hz
        refine ⟨z, _, rfl, SqL.of hz, _, rfl, s5 _ _ upd_same, ?_⟩
        refine q _ _ ?_ ?_
        · refine But.same (l := od) (H1 := H) (Same.refl H) (s1.free nod) (But.upd fun c o e n => s5 _ _ ?_)
          rw [upd_ne n]
          exact s2 _ _ (s1 _ _ e)
        · have hov : ∀ m, over (netOf l) (gl ns) m = - net (netOf l) (gl ns) m := fun _ => rfl
          rw [Bool.not_eq_true', List.any_map, List.any_eq_false]
          constructor
          · intro hall
            refine ⟨fun i hi => hok i hi, fun m => ?_⟩
            by_cases c : m ∈ Vbchad.membersOf l
            · have h1 := hall m ((hks m).mpr c)
              by_cases z : over (netOf l) (gl ns) m = 0
              · have := hov m
                omega
              · exact absurd (by show (!decide (V.int _ = V.int 0)) = true; rw [decide_eq_false fun e => z (V.int.inj e)]; rfl) h1
            · exact net_outside c _
          · intro hr m hm
            have h1 := hr.even m
            have h2 := hov m
            have h3 : over (netOf l) (gl ns) m = 0 := by omega
            intro e
            have e2 : (!decide (V.int (over (netOf l) (gl ns) m) = V.int 0)) = true := e
            rw [h3, decide_eq_true rfl] at e2
            cases e2
end
end Vb
end

section
/-! # reductions.py: raise_number, prefer_low_keys -/
namespace Vb
open PySem PySem.Spec PyProof.Rows L2 Nw
theorem TradesAt.but {H H' : Hp} {a b : Addr} {l : List Vbchad.Trade} {ys : List V} (h : TradesAt H a l) (hb : H b = some (.lst ys)) (ne : a ≠ b) (e : But b H H') : TradesAt H' a l := RowsAt.but h hb ne e
theorem gl_none {ns : List Int} {k : Nat} (h : k < ns.length) : (ns.map V.int)[k]? = some (V.int (gl ns k)) := by rw [List.getElem?_map, gl_get h] <;> rfl
section
variable {P : Program} {w : World} {K : PySem.W.Frag} {mg : Str → Option Value} {base : Heap} {TC HC : Addr}
def spRaise : Sp := fun vs H Q _ => ∃ (a b c : Addr) (i : Nat) (l : List Vbchad.Trade) (ns : List Int) (places : List Nat) (p : Nat → Int), vs = [.ref a, .ref b, .int i, .ref c] ∧ TradesAt H a l ∧ H b = some (.lst (ns.map V.int)) ∧ H c = some (.lst (natL places)) ∧ a ≠ b ∧ c ≠ b ∧
  ns.length = l.length ∧ i < l.length ∧ (∀ j, j ∈ places ↔ i < j ∧ j < l.length ∧ worth (netOf l) p j = 0) ∧ places.length ≤ 1000 ∧ worth (netOf l) p i = 0 ∧ LexTo (netOf l) p i (gl ns) ∧ GoodT l ∧
  ∀ H' ns', But b H H' → H' b = some (.lst (ns'.map V.int)) → ns'.length = l.length → LexTo (netOf l) p (i + 1) (gl ns') → Q .non H'
theorem c_raise_number (T : Tb mg) (D : DefAt K mg "raise_number" s_raise_number ["trades", "numbers", "place", "places"]) (c_shortest_ways : Cal P w K mg base 1 "shortest_ways" (spShort K)) (c_moves_of : Cal P w K mg base 1 "moves_of" (spMoves K))
    (c_way_to : Cal P w K mg base 1 "way_to" spWay) (c_leeway : Cal P w K mg base 1 "leeway" (spLee K)) (c_shift : Cal P w K mg base 1 "shift" spShift) : Cal P w K mg base 2 "raise_number" spRaise := by
  refine cal_of D sc_raise_number (fun vs H Q E h => ?_) (fun f cdv A outer s H vs Q E _ hr h => ?_)
  · obtain ⟨a, b, c, i, l, ns, places, p, rfl, _⟩ := h
    rfl
  · obtain ⟨a, b, c, i, l, ns, places, p, rfl, hT, hN, hP, nab, ncb, hlen, hi, hp, hpl, hw, hlex, good, q⟩ := h
    have hl := good.len
    have hm12 := good.mem
    refine ⟨_, (pss_cons (ps_asg (pe_ix ix_list (pv 0) (pv 2) (fun _ _ => rfl)) (pg_tup rfl (pgs_cons (pg_name (i := 4) sc_raise_number.nd rfl (.inl rfl)) (pgs_cons (pg_name (i := 5) sc_raise_number.nd rfl (.inl rfl)) (pgs_cons (pg_name (i := 6) sc_raise_number.nd rfl (.inl rfl)) pgs_nil)))))
      (pss_one (ps_while PassesOwn.never (pt_cmpR op_lt (pe_ix ix_list (pv 1) (pv 2) (fun _ _ => rfl)) (pv 6) (nomark _)) (pss_cons (ps_asg (pe_c c_shortest_ways hr (by decide) rfl (pa_cons (pe_c c_moves_of hr (by decide) rfl (pa_cons (pv 0) (pa_cons (pv 1) (pa_cons (pv 3) pa_nil)))) (pa_cons (pe_lst (pa_cons (pv 5) pa_nil)) pa_nil))) (pg_tup rfl (pgs_cons (pg_name (i := 7) sc_raise_number.nd rfl (.inl rfl)) (pgs_cons (pg_name (i := 8) sc_raise_number.nd rfl (.inl rfl)) pgs_nil))))
      (pss_cons (ps_if (pt_cmp (pc_dnotin (hu_of hr) (pv 4) (pv 7)) rfl) (pss_one ps_retN) pss_nil)
      (pss_cons (ps_set (i := 9) sc_raise_number.nd rfl (.inl rfl) (pe_c c_way_to hr (by decide) rfl (pa_cons (pv 4) (pa_cons (pv 8) pa_nil))))
      (pss_cons (ps_set (i := 10) sc_raise_number.nd rfl (.inl rfl) (pe_callB (call_min2 rfl) (by rfl) T.m_min (by decide +kernel) (pa_cons (pe_op op_sub (pv 6) (pe_ix ix_list (pv 1) (pv 2) (fun _ _ => rfl))) (pa_cons (pe_c c_leeway hr (by decide) rfl (pa_cons (pv 0) (pa_cons (pv 1) (pa_cons (pv 9) pa_nil)))) pa_nil))))
      (pss_cons (ps_expr (pe_c c_shift hr (by decide) rfl (pa_cons (pv 1) (pa_cons (pv 9) (pa_cons (pv 10) pa_nil)))))
      (pss_one (ps_augS (pv 1) (pv 2) get_list (pv 10) ip_add set_list)))))))))), ?_⟩
    obtain ⟨xsT, hxsT, hrT⟩ := id hT
    obtain ⟨_, hgT, pt, rfl, htt⟩ := hrT.get i _ (row_tr hi)
    have ain : (netOf l).a i ∈ Vbchad.membersOf l := a_mem hi
    have bin : (netOf l).b i ∈ Vbchad.membersOf l := b_mem hi
    have nab2 : (tr l i).from_ ≠ (tr l i).to := good.ne _ (tr_mem hi)
    refine ⟨_, rfl, _, rfl, a, xsT, _, _, rfl, rfl, SqL.of hxsT, atI_nat hgT, pt, _, rfl, SqT.of htt, rfl, _, _, rfl, _, _, rfl, _, _, rfl, rfl, ?_⟩
    refine ⟨fun m σ H' => ∃ (ns : List Int) (v7 v8 v9 v10 : Option V), σ = [some (.ref a), some (.ref b), some (.int i), some (.ref c), some (.int (tr l i).from_), some (.int (tr l i).to), some (.int (Vbchad.room (tr l i))), v7, v8, v9, v10] ∧ But b H H' ∧
      H' b = some (.lst (ns.map V.int)) ∧ ns.length = l.length ∧ LexTo (netOf l) p i (gl ns) ∧ m = ((Vbchad.room (tr l i) : Int) - gl ns i).toNat, ⟨_, ns, _, _, _, _, rfl, But.refl _ _, hN, hlen, hlex, rfl⟩, ?_⟩
    rintro m σ H1 ⟨ns1, v7, v8, v9, v10, rfl, s1, hb1, hlen1, hlex1, rfl⟩
    have hgN := gl_none (ns := ns1) (k := i) (by omega)
    have hT1 := hT.but hN nab s1
    have hP1 := s1 _ _ hP ncb
    refine ⟨_, rfl, _, rfl, b, _, _, _, rfl, rfl, SqL.of hb1, atI_nat hgN, _, rfl, _, _, rfl, rfl, _, rfl, ite2 (fun cc => ?_) (fun cc => ?_)⟩
    · have hlt : gl ns1 i < (Vbchad.room (tr l i) : Int) := of_decide_eq_true cc
      refine ⟨fun σ' H' => ∃ (ns : List Int) (v7 v8 v9 v10 : Option V), σ' = [some (.ref a), some (.ref b), some (.int i), some (.ref c), some (.int (tr l i).from_), some (.int (tr l i).to), some (.int (Vbchad.room (tr l i))), v7, v8, v9, v10] ∧ But b H H' ∧
        H' b = some (.lst (ns.map V.int)) ∧ ns.length = l.length ∧ LexTo (netOf l) p i (gl ns) ∧ ((Vbchad.room (tr l i) : Int) - gl ns i).toNat < ((Vbchad.room (tr l i) : Int) - gl ns1 i).toNat, fun σ' H' ⟨ns, v7, v8, v9, v10, e1, e2, e3, e4, e5, e6⟩ => ⟨_, e6, ns, v7, v8, v9, v10, e1, e2, e3, e4, e5, rfl⟩, ?_⟩
      refine ⟨_, rfl, _, rfl, _, rfl, a, b, c, l, ns1, places, rfl, hT1, SqL.of hb1, hP1, fun j hj => ((hp j).mp hj).2.1, hlen1, hpl, fun H2 pm s2 npm hM => ?_⟩
      refine ⟨_, rfl, (by show 1 ≤ sizeLine; decide), fun ps nps => ?_⟩
      have s3 := s2.trans (same_upd (o := .lst [.int (tr l i).to]) nps)
      refine ⟨pm, ps, netOf l, Vbchad.membersOf l, movesOf (netOf l) (gl ns1) places, [(netOf l).b i], _, rfl, hM.same (same_upd nps), upd_same, free_pos hp, fun q hq => (moves_dst (fun j hj => ((hp j).mp hj).2.1) hq).2, fun s h => by rw [List.mem_singleton.mp h]; exact bin, by omega, ?_⟩
      intro H4 pt4 dl dp t s4 npt ndl ndp hpt bf hsh
      have s14 := s3.trans s4
      refine ⟨pt4, _, rfl, SqT.of hpt, rfl, _, _, rfl, _, _, rfl, rfl, ?_⟩
      refine ⟨_, rfl, _, rfl, dl, _, rfl, dget_any bf.l, _, rfl, ite2 (fun c2 => ?_) (fun c2 => ?_)⟩
      · have hn : ¬ (netOf l).a i ∈ t.ks := fun z => by
          rw [if_pos (show (tr l i).from_ ∈ t.ks from z)] at c2
          cases c2
        exact q H4 ns1 (s1.trans (Same.but s14)) (s14 _ _ hb1) hlen1 (hlex1.grow hlex1.red hlex1.tight (fun _ _ => rfl) (raise_stuck hi hp hsh hn))
      · have hin : (netOf l).a i ∈ t.ks := by
          by_cases z : (tr l i).from_ ∈ t.ks
          · exact z
          · rw [if_neg z] at c2
            exact absurd rfl c2
        refine ⟨_, rfl, _, rfl, dp, (tr l i).from_, netOf l, Vbchad.membersOf l, movesOf (netOf l) (gl ns1) places, [(netOf l).b i], _, t, rfl, bf.p, hsh, free_pos hp, hin, by omega, fun H5 pw way s0 s5 npw hway hok => ?_⟩
        obtain rfl : s0 = (netOf l).b i := List.mem_singleton.mp hok.root.1
        have hne : way ≠ [] := hok.ne (by
          rw [List.mem_singleton]
          exact nab2)
        have s15 := s14.trans s5
        have hqi : ∀ q, q ∈ way → q.i < l.length := fun q hq => ((hp _).mp (mem_moves.mp (hok.inn q hq).1).1).2.1
        have hwl : way.length ≤ 1000 := by
          have := hok.len (free_pos hp) hsh bin
          omega
        have hT5 := hT1.same s15
        have hb5 := s15 _ _ hb1
        refine ⟨_, rfl, _, rfl, _, rfl, b, _, _, _, rfl, rfl, SqL.of hb5, atI_nat hgN, _, _, rfl, rfl, ?_⟩
        refine ⟨_, rfl, _, rfl, _, rfl, a, b, pw, l, ns1, way, rfl, hT5, SqL.of hb5, hway, hqi, hlen1, hne, hwl, fun x H6 hxle hxq s6 => ?_⟩
        obtain ⟨q0, hq0, ex⟩ := hxq
        have hx1 : 1 ≤ x := by
          rw [ex]
          exact cap_pos (hok.inn q0 hq0).1
        have hway6 := hway.same s6
        have s16 := s15.trans s6
        have hb6 := s6 _ _ hb5
        have npwb : pw ≠ b := fun e => by
          rw [e, s14 _ _ hb1] at npw
          cases npw
        refine ⟨_, _, rfl, ?_⟩
        obtain ⟨y, ey⟩ : ∃ y : Int, y = min ((Vbchad.room (tr l i) : Int) - gl ns1 i) x := ⟨_, rfl⟩
        have ymin : ∀ z : Int, z = (if x < (Vbchad.room (tr l i) : Int) - gl ns1 i then x else (Vbchad.room (tr l i) : Int) - gl ns1 i) → z = y := fun z e => by
          rw [e, ey]
          split <;> omega
        rw [ymin _ rfl]
        have y1 : 1 ≤ y := by omega
        have yx : y ≤ x := by omega
        have yr : y ≤ (Vbchad.room (tr l i) : Int) - gl ns1 i := by omega
        refine ⟨_, rfl, _, rfl, _, rfl, b, pw, y, netOf l, ns1, way, rfl, hb6, hway6, npwb, fun q hq => by rw [hlen1]; exact hqi q hq, fun H7 s7 hb7 => ?_⟩
        have hsl : (shiftL ns1 way y).length = l.length := (shiftL_len _ _ _).trans hlen1
        have hg7 := gl_none (ns := shiftL ns1 way y) (k := i) (by omega)
        refine ⟨_, rfl, _, rfl, b, _, _, _, rfl, rfl, Int.natCast_nonneg _, SqL.of hb7, hg7, _, rfl, _, _, rfl, rfl, b, _, _, i, rfl, rfl, hb7, ?_, ?_⟩
        · unfold ixN
          rw [if_pos (Int.natCast_nonneg _), if_pos (by rw [List.length_map, hsl]; exact Int.ofNat_lt.mpr hi)]
          rfl
        · have hsh2 : gl (shiftL ns1 way y) = shifted (gl ns1) way y := shiftL_gl way ns1 y fun q hq => by rw [hlen1]; exact hqi q hq
          obtain ⟨g1, g2, g3, g4, g5⟩ := raise_shift hi hw hp hlex1.red hlex1.tight hok (by omega : (0 : Int) ≤ y) yr (fun q hq => Int.le_trans yx (hxle q hq)) (gl ((shiftL ns1 way y).set i (gl (shiftL ns1 way y) i + y))) (fun j => by
            rw [gl_set (by omega), hsh2]
            by_cases e : j = i
            · rw [if_pos e, if_pos e, e]
            · rw [if_neg e, if_neg e])
          refine ⟨(shiftL ns1 way y).set i (gl (shiftL ns1 way y) i + y), _, _, _, _, rfl, ((s1.trans (Same.but s16)).trans s7).upd, ?_, by rw [List.length_set]; exact hsl, ?_, ?_⟩
          · rw [upd_same, List.map_set]
          · exact ⟨g1, g2, fun k hk hn g hg tg e => by
              rw [g3 k hk]
              exact hlex1.lex k hk hn g hg tg fun j hj => by rw [e j hj, g3 j (by omega)]⟩
          · rw [g4]
            omega
    · have hge : ¬ gl ns1 i < (Vbchad.room (tr l i) : Int) := fun z => cc (decide_eq_true z)
      exact q H1 ns1 s1 hb1 hlen1 (hlex1.grow hlex1.red hlex1.tight (fun _ _ => rfl) (.inl (Int.not_lt.mp hge)))
/-! ### prefer_low_keys -/
theorem sorted_take {l : List Nat} (h : l.Pairwise (· < ·)) {k i x : Nat} (hk : l[k]? = some i) (hx : x ∈ l) (lt : x < i) : x ∈ l.take k := by
  rw [← List.take_append_drop k l] at hx h
  rcases List.mem_append.mp hx with z | z
  · exact z
  · exfalso
    have hd : l.drop k = i :: l.drop (k + 1) := by
      have hkl := (List.getElem?_eq_some_iff.mp hk).1
      rw [List.drop_eq_getElem_cons hkl]
      congr 1
      rw [List.getElem?_eq_getElem hkl] at hk
      exact Option.some.inj hk
    rw [hd] at z h
    have h2 := (List.pairwise_append.mp h).2.1
    rcases List.mem_cons.mp z with e | e
    · omega
    · have := (List.pairwise_cons.mp h2).1 x e
      omega
theorem range_sorted (n : Nat) : (List.range n).Pairwise (· < ·) := by
  refine List.pairwise_iff_getElem.mpr fun i j hi hj hij => ?_
  rw [List.getElem_range, List.getElem_range]
  exact hij
theorem filter_take {l : List Nat} {g : Nat → Bool} {k x : Nat} (h : l[k]? = some x) : (l.take (k + 1)).filter g = (l.take k).filter g ++ (if g x = true then [x] else []) := by
  rw [take_more h, List.filter_append]
  congr 1
  by_cases c : g x = true
  · rw [if_pos c, List.filter_cons_of_pos c, List.filter_nil]
  · rw [if_neg c, List.filter_cons_of_neg c, List.filter_nil]
theorem filter_range {g : Nat → Bool} (k : Nat) : (List.range (k + 1)).filter g = (List.range k).filter g ++ (if g k = true then [k] else []) := by
  rw [List.range_succ, List.filter_append]
  congr 1
  by_cases c : g k = true
  · rw [if_pos c, List.filter_cons_of_pos c, List.filter_nil]
  · rw [if_neg c, List.filter_cons_of_neg c, List.filter_nil]
def spPrefer : Sp := fun vs H Q _ => ∃ (a b : Addr) (l : List Vbchad.Trade) (ns : List Int), vs = [.ref a, .ref b] ∧ TradesAt H a l ∧ H b = some (.lst (ns.map V.int)) ∧ a ≠ b ∧ ns.length = l.length ∧ Opt (netOf l) (gl ns) ∧ GoodT l ∧
  ∀ H' ns', But b H H' → H' b = some (.lst (ns'.map V.int)) → ns'.length = l.length → LexMax (netOf l) (gl ns') → Q .non H'
theorem c_prefer_low_keys (T : Tb mg) (D : DefAt K mg "prefer_low_keys" s_prefer_low_keys ["trades", "numbers"]) (c_least_potentials : Cal P w K mg base 2 "least_potentials" spLeast) (c_worth_of : Cal P w K mg base 1 "worth_of" spWorth)
    (c_raise_number : Cal P w K mg base 2 "raise_number" spRaise) : Cal P w K mg base 3 "prefer_low_keys" spPrefer := by
  refine cal_of D sc_prefer_low_keys (fun vs H Q E h => ?_) (fun f cdv A outer s H vs Q E _ hr h => ?_)
  · obtain ⟨a, b, l, ns, rfl, _⟩ := h
    rfl
  · obtain ⟨a, b, l, ns, rfl, hT, hN, nab, hlen, hopt, good, q⟩ := h
    have hl := good.len
    refine ⟨_, (pss_cons (ps_set (i := 2) sc_prefer_low_keys.nd rfl (.inl rfl) (pe_c c_least_potentials hr (by decide) rfl (pa_cons (pv 0) (pa_cons (pv 1) pa_nil))))
      (pss_cons (ps_set (i := 3) sc_prefer_low_keys.nd rfl (.inl rfl) (pe_lst pa_nil))
      (pss_cons (ps_for PassesOwn.never rfl (pi_enum (by rfl) T.m_enumerate (pa_cons (pv 0) pa_nil)) (pg_tup rfl (pgs_cons (pg_name (i := 4) sc_prefer_low_keys.nd rfl (.inr rfl)) (pgs_cons (pg_name (i := 5) sc_prefer_low_keys.nd rfl (.inl rfl)) pgs_nil))) (pss_one (ps_if (pt_cmpR op_eq (pe_c c_worth_of hr (by decide) rfl (pa_cons (pe_ix ix_tup (pv 5) pe_int (fun _ _ => rfl)) (pa_cons (pe_ix ix_tup (pv 5) pe_int (fun _ _ => rfl)) (pa_cons (pv 2) pa_nil)))) pe_int (nomark _)) (pss_one (ps_expr (pe_bm PySem.F.plainAttrs_list PySem.F.slot_list_append PySem.F.type_list_append mt_append (pv 3) (pa_cons (pv 4) pa_nil)))) pss_nil)))
      (pss_one (ps_for PassesOwn.never rfl (pi_list (pv 3)) (pg_name (i := 4) sc_prefer_low_keys.nd rfl (.inr rfl)) (pss_one (ps_expr (pe_c c_raise_number hr (by decide) rfl (pa_cons (pv 0) (pa_cons (pv 1) (pa_cons (pv 4) (pa_cons (pe_lc (own := [("other", 6)]) (g := gName 6) rfl sc_prefer_low_keys.nd (pi_list (pv 3)) (blkOk_by (own := [("other", 6)]) (N := ["trades", "numbers", "potentials", "free", "place", "trade", "other"]) (sc := defScope s_prefer_low_keys) (by decide +kernel)) (fun _ _ _ _ _ => (pg_name (i := 6) sc_prefer_low_keys.nd rfl (.inl rfl))) (fun _ _ _ _ _ => (pts_one (pt_cmpR op_gt (pv 6) (pv 4) (nomark _)))) (fun _ _ _ _ _ => (pv 6))) pa_nil)))))))))))), ?_⟩
    refine ⟨_, rfl, _, rfl, a, b, l, ns, rfl, hT, hN, hlen, hopt, good, fun H1 pd ks s1 npd hpd hks => ?_⟩
    refine ⟨by decide, fun fr nfr => ?_⟩
    have s2 := s1.trans (same_upd (o := .lst []) nfr)
    obtain ⟨xsT, hT1, hT2⟩ := id hT
    have hxl := hT2.len
    rw [List.length_map] at hxl
    obtain ⟨g, eg⟩ : ∃ g : Nat → Bool, g = fun i => decide (worth (netOf l) (toldPot l) i = 0) := ⟨_, rfl⟩
    refine ⟨_, rfl, a, xsT, rfl, SqL.of (s2 _ _ hT1), for_it walk_enum (fun i σ H' => ∃ v4 v5 v6 : Option V, σ = [some (.ref a), some (.ref b), some (.ref pd), some (.ref fr), v4, v5, v6] ∧ Same H1 H' ∧
      H' fr = some (.lst (natL ((List.range i).filter g)))) ⟨_, _, _, rfl, same_upd nfr, upd_same⟩ (fun i σ H' _ ⟨_, _, _, _, s5, _⟩ => SqL.of (s5 _ _ (s1 _ _ hT1))) ?_ ?_⟩
    · rintro k x σ H5 H6 hk ⟨v4, v5, v6, rfl, s5, hf⟩ ⟨tp, x1, x2, rfl, ntp, rfl, e1, e2⟩
      obtain rfl := Option.some.inj e1
      have hkl : k < l.length := by omega
      have s6 := s5.trans (same_upd (o := .tup [.int (k : Nat), x2]) ntp)
      obtain ⟨row, pt, hrow, rfl, htp0⟩ := rowsT_at hT2 e2
      have ht : row = tr l k := by
        unfold tr
        rw [List.getD_eq_getElem?_getD, hrow]
        rfl
      subst ht
      have htt := s6 _ _ (s1 _ _ htp0)
      have hf6 := (same_upd (o := .tup [.int (k : Nat), .ref pt]) ntp) _ _ hf
      have m1 : (tr l k).from_ ∈ ks := (hks _).mpr (a_mem hkl)
      have m2 : (tr l k).to ∈ ks := (hks _).mpr (b_mem hkl)
      refine ⟨tp, _, rfl, SqT.of upd_same, rfl, _, _, rfl, _, _, rfl, rfl, ?_⟩
      refine ⟨_, rfl, pt, _, 0, _, rfl, rfl, SqT.of htt, rfl, _, rfl, pt, _, 1, _, rfl, rfl, SqT.of htt, rfl, _, rfl, (tr l k).from_, (tr l k).to, pd, ks, toldPot l, rfl, s6 _ _ hpd, m1, m2, ?_⟩
      have hln : (natL ((List.range k).filter g)).length ≤ 40 := by
        unfold natL
        rw [List.length_map]
        have := List.length_filter_le g (List.range k)
        rw [List.length_range] at this
        omega
      refine ⟨rfl, _, rfl, ite2 (fun cc => ?_) (fun cc => ?_)⟩
      · have hg : g k = true := by
          rw [eg]
          exact decide_eq_true (V.int.inj (of_decide_eq_true cc))
        refine ⟨_, rfl, .inl ⟨rfl, _, .inl (.inl hf6)⟩, _, rfl, fr, _, _, rfl, rfl, hf6, sl (by omega), ?_⟩
        refine ⟨_, _, _, rfl, fun c o e => ?_, ?_⟩
        · rw [upd_ne (ne_of_none e nfr)]
          exact s6 _ _ e
        · rw [upd_same, filter_range, if_pos hg]
          unfold natL
          rw [List.map_append]
          rfl
      · have hg : ¬ g k = true := fun z => by
          rw [eg] at z
          exact cc (decide_eq_true (congrArg V.int (of_decide_eq_true z)))
        refine ⟨_, _, _, rfl, s6, ?_⟩
        rw [filter_range, if_neg hg, List.append_nil]
        exact hf6
    · rintro σ H2 ⟨v4, v5, v6, rfl, s3, hf⟩
      rw [hxl] at hf
      obtain ⟨free, ef⟩ : ∃ free, free = (List.range l.length).filter g := ⟨_, rfl⟩
      rw [← ef] at hf
      have srt : free.Pairwise (· < ·) := by
        rw [ef]
        exact (range_sorted _).sublist List.filter_sublist
      have hfree : ∀ j, j ∈ free ↔ j < l.length ∧ worth (netOf l) (toldPot l) j = 0 := fun j => by
        rw [ef, eg, List.mem_filter, List.mem_range]
        simp only [decide_eq_true_eq]
      have s13 := s1.trans s3
      have hT13 := hT.same s13
      have nfrb : fr ≠ b := fun e => by
        rw [e, s1 _ _ hN] at nfr
        cases nfr
      have hfl : free.length ≤ 40 := by
        have h1 := List.length_filter_le g (List.range l.length)
        rw [← ef, List.length_range] at h1
        omega
      have htight : Tight (netOf l) (gl ns) (toldPot l) := by
        have hle := toldPot_least l
        have hc : Tight (netOf l) (fl (Vbchad.someGreatest l)) (toldPot l) := hle.tight
        exact tight_of_opt (greatest_tight l).1 hc hopt
      refine ⟨_, rfl, fr, rfl, ⟨_, SqL.of hf⟩, for_list (K := K) (a := fr) (xs := natL free) (fun k σ H' => ∃ (ns : List Int) (j : Nat) (v4 v5 v6 : Option V), σ = [some (.ref a), some (.ref b), some (.ref pd), some (.ref fr), v4, v5, v6] ∧ But b H2 H' ∧
        H' b = some (.lst (ns.map V.int)) ∧ ns.length = l.length ∧ LexTo (netOf l) (toldPot l) j (gl ns) ∧ j ≤ l.length ∧ (∀ x, x ∈ free → x < j → x ∈ free.take k) ∧ (∀ x, x ∈ free.take k → x < j))
        ⟨ns, 0, _, _, _, rfl, But.refl _ _, s13 _ _ hN, hlen, ⟨hopt.1, htight, fun k hk => absurd hk (Nat.not_lt_zero _)⟩, Nat.zero_le _, fun x _ h => absurd h (Nat.not_lt_zero _), fun x h => by rw [List.take_zero] at h; cases h⟩
        (fun i σ H' _ ⟨_, _, _, _, _, _, s5, _⟩ => SqL.of (s5 _ _ hf nfrb)) ?_ ?_⟩
      · rintro k x σ H5 hk ⟨ns5, j, v4, v5, v6, rfl, s5, hb5, hlen5, hlex, hj, hj1, hj2⟩
        obtain ⟨i, hi, rfl⟩ := map_get hk
        have him : i ∈ free := List.mem_of_getElem? hi
        obtain ⟨hil, hiw⟩ := (hfree i).mp him
        have hji : j ≤ i := by
          by_cases z : j ≤ i
          · exact z
          · exact absurd (hj1 i him (by omega)) (not_take (srt.imp fun h e => by omega) hi)
        have hlexi : LexTo (netOf l) (toldPot l) i (gl ns5) := by
          have := hlex.skips (i - j) fun x h1 h2 hw => by
            have hx : x ∈ free := (hfree x).mpr ⟨by omega, hw⟩
            have := hj2 x (sorted_take srt hi hx (by omega))
            omega
          rwa [show j + (i - j) = i by omega] at this
        refine ⟨_, rfl, _, rfl, _, rfl, _, rfl, fr, rfl, ⟨_, SqL.of (s5 _ _ hf nfrb)⟩, fun z nz => lc_list (K := K) (a := fr) (xs := natL free) (fun m H' => Same H5 H' ∧ H' z = some (.lst (natL ((free.take m).filter fun o => decide (i < o))))) ⟨same_upd nz, upd_same⟩ (fun m H' _ h => SqL.of (h.1 _ _ (s5 _ _ hf nfrb))) ?_ ?_⟩
        · rintro m x H6 hx ⟨s6, hz⟩
          obtain ⟨o, ho, rfl⟩ := map_get hx
          have hlm : (natL ((free.take m).filter fun o => decide (i < o))).length ≤ 40 := by
            unfold natL
            rw [List.length_map]
            have h1 := List.length_filter_le (fun o => decide (i < o)) (free.take m)
            have h2 := List.length_take_le' m free
            omega
          refine ⟨rfl, _, rfl, _, rfl, _, _, rfl, rfl, _, rfl, ite2 (fun cc => ?_) (fun cc => ?_)⟩
          · have c2 : i < o := Int.ofNat_lt.mp (of_decide_eq_true cc)
            refine ⟨_, rfl, _, hz, sl (by omega), fun c o e => ?_, ?_⟩
            · rw [upd_ne (ne_of_none e nz)]
              exact s6 _ _ e
            · rw [upd_same, filter_take ho, if_pos (decide_eq_true c2)]
              unfold natL
              rw [List.map_append]
              rfl
          · have c2 : ¬ i < o := fun z => cc (decide_eq_true (Int.ofNat_lt.mpr z))
            refine ⟨s6, ?_⟩
            rw [filter_take ho, if_neg (fun z => c2 (of_decide_eq_true z)), List.append_nil]
            exact hz
        · rintro H6 ⟨s6, hz⟩
          rw [show (natL free).length = free.length from List.length_map _, List.take_length] at hz
          have nzb : z ≠ b := fun e => by
            rw [e, hb5] at nz
            cases nz
          have hpl : (free.filter fun o => decide (i < o)).length ≤ 1000 := by
            have h1 := List.length_filter_le (fun o => decide (i < o)) free
            omega
          refine ⟨a, b, z, i, l, ns5, _, toldPot l, rfl, (hT13.but (s13 _ _ hN) nab s5).same s6, s6 _ _ hb5, hz, nab, nzb, hlen5, hil, fun j => ?_, hpl, hiw, hlexi, good, fun H7 ns7 s7 hb7 hlen7 hlex7 => ?_⟩
          · rw [List.mem_filter, hfree, decide_eq_true_eq]
            constructor
            · rintro ⟨⟨h1, h2⟩, h3⟩
              exact ⟨h3, h1, h2⟩
            · rintro ⟨h1, h2, h3⟩
              exact ⟨⟨h2, h3⟩, h1⟩
          · refine ⟨ns7, i + 1, _, _, _, rfl, (s5.trans (Same.but s6)).trans s7, hb7, hlen7, hlex7, hil, fun x hx lt => ?_, fun x hx => ?_⟩
            · rw [take_more hi]
              by_cases e : x = i
              · rw [e]
                exact List.mem_append.mpr (.inr (List.mem_singleton.mpr rfl))
              · exact List.mem_append.mpr (.inl (sorted_take srt hi hx (by omega)))
            · rw [take_more hi] at hx
              rcases List.mem_append.mp hx with z | z
              · have := hj2 x z
                omega
              · rw [List.mem_singleton.mp z]
                omega
      · rintro σ H5 ⟨ns5, j, v4, v5, v6, rfl, s5, hb5, hlen5, hlex, hj, hj1, hj2⟩
        rw [show (natL free).length = free.length from List.length_map _, List.take_length] at hj2
        refine q H5 ns5 ((Same.but s13).trans s5) hb5 hlen5 ?_
        refine LexTo.done (p := toldPot l) ?_
        have := hlex.skips (l.length - j) fun x h1 h2 hw => by
          have hx : x ∈ free := (hfree x).mpr ⟨by omega, hw⟩
          have := hj2 x hx
          omega
        rwa [show j + (l.length - j) = l.length by omega] at this
end
end Vb
end

section
/-! # reductions.py: even_out, greatest_reduction, told_reduction -/
namespace Vb
open PySem PySem.Spec PyProof.Rows L2 Nw LamX
/-- all but what stands at b and the tables -/
def FrN (b : Addr) (H H' : Hp) : Prop := ∀ c o, H c = some o → c ≠ b → (∀ ps, o ≠ .tbl ps) → H' c = some o
theorem FrN.trans {b : Addr} {H H1 H2 : Hp} (a : FrN b H H1) (c : FrN b H1 H2) : FrN b H H2 := fun x o h n t => c x o (a x o h n t) n t
theorem Same.frn {b : Addr} {H H' : Hp} (a : Same H H') : FrN b H H' := fun c o h _ _ => a c o h
theorem But.frn {b : Addr} {H H' : Hp} (a : But b H H') : FrN b H H' := fun c o h n _ => a c o h n
theorem ext_frn {b : Addr} {H H' : Hp} (a : ExtN H H') : FrN b H H' := fun c o h _ t => a c o h t
theorem FrN.new {b d : Addr} {o : HO} {H H1 : Hp} (a : FrN b H H1) (n : H d = none) : FrN b H (upd H1 d o) := fun c q h ne t => by
  rw [upd_ne (ne_of_none h n)]
  exact a c q h ne t
theorem tabs_but {T : List (Addr × Str)} {H H' : Hp} {b : Addr} {o : HO} (t : Tabs T H) (hb : H b = some o) (n1 : ∀ ps, o ≠ .tbl ps) (n2 : ∀ g, o ≠ .ext g) (e : But b H H') : Tabs T H' := fun p hp => by
  obtain ⟨ps, h1, h2, h3⟩ := t p hp
  refine ⟨ps, e _ _ h1 (fun z => ?_), h2, fun pos cv hc => ?_⟩
  · rw [z, hb] at h1
    exact n1 _ (Option.some.inj h1)
  · obtain ⟨c, e1, e2⟩ := h3 pos cv hc
    refine ⟨c, e1, e _ _ e2 fun z => ?_⟩
    rw [z, hb] at e2
    exact n2 _ (Option.some.inj e2)
theorem RowsAt.frn {H H' : Hp} {a l : Addr} {rows : List (List Int)} {ys : List V} (h : RowsAt H a rows) (hl : H l = some (.lst ys)) (ne : a ≠ l) (e : FrN l H H') : RowsAt H' a rows := by
  obtain ⟨xs, p, q⟩ := h
  refine ⟨xs, e _ _ p ne (fun _ z => by cases z), q.len, fun i row hi => ?_⟩
  obtain ⟨v, a1, b, rfl, hb⟩ := q.get i row hi
  exact ⟨_, a1, b, rfl, e _ _ hb (ne_of hb hl (by intro z; cases z)) (fun _ z => by cases z)⟩
theorem LastAt.extN {H H' : Hp} {d : Addr} {N : Net} {ps : List Nat} {p : Nat → Stp} (h : LastAt H d N ps p) (e : ExtN H H') : LastAt H' d N ps p := by
  obtain ⟨A, h1, h2⟩ := h
  exact ⟨A, e _ _ h1 (fun _ z => by cases z), fun m hm => e _ _ (h2 m hm) (fun _ z => by cases z)⟩
theorem RowsAt.extN {H H' : Hp} {a : Addr} {rows : List (List Int)} (h : RowsAt H a rows) (e : ExtN H H') : RowsAt H' a rows := h.mono fun b o f q => e b o q fun _ z => by rw [z] at f; exact f
/-- [m for m in d if ..] -/
theorem lc_keys {o : Obj} {od D : Addr} {ks : List Nat} {gv : Nat → V} {g : TG} {tt : TT} {te : TE} {vs : List Nat} {σ : L2.St} {H1 : Hp} {Qd : Hp → Prop} (c : Nat → Bool) (nz : H1 D = none) (hod : H1 od = some (.frz o (.dK (dkL ks gv)))) (hl : ks.length ≤ 1000)
    (hs : ∀ (m : Nat) (H' : Hp) (Qe Qn : Hp → Prop), m ∈ ks → Same H1 H' → (c m = true → ∃ acc, H' D = some (.lst acc) ∧ acc.length < sizeLine ∧ Qe (upd H' D (.lst (acc ++ [.int m])))) → (c m = false → Qn H') →
      g (.int m) (wipe σ vs) H' fun σ2 H2 => wipe σ2 vs = wipe σ vs ∧ tt σ2 H2 fun b H3 => if b = true then te σ2 H3 fun y H4 => ∃ acc, H4 D = some (.lst acc) ∧ acc.length < sizeLine ∧ Qe (upd H4 D (.lst (acc ++ [y]))) else Qn H3)
    (hd : ∀ H', Same H1 H' → H' D = some (.lst (natL (ks.filter c))) → Qd H') :
    ∃ W : Nat → Nat → Hp → Prop, (∃ m, W 0 m (upd H1 D (.lst []))) ∧ ∀ i m H, W i m H →
      ((Itk od o (dkL ks gv)).stop i H ∧ Qd H) ∨ ((Itk od o (dkL ks gv)).go i H ∧ ∃ Nx : Hp → Prop, (∀ H', Nx H' → ∃ m', m' < m ∧ W (i + 1) m' H') ∧ ∀ x H', (Itk od o (dkL ks gv)).yld i H x H' → g x (wipe σ vs) H' fun σ2 H2 => wipe σ2 vs = wipe σ vs ∧ tt σ2 H2 fun b H3 =>
        if b = true then te σ2 H3 fun y H4 => ∃ acc, H4 D = some (.lst acc) ∧ acc.length < sizeLine ∧ Nx (upd H4 D (.lst (acc ++ [y]))) else Nx H3) := by
  refine lc_it walk_keys (fun i H' => Same H1 H' ∧ H' D = some (.lst (natL ((ks.take i).filter c)))) ⟨same_upd nz, upd_same⟩ (fun i H' _ h => h.1 _ _ hod) ?_ ?_
  · rintro k x H5 H6 hk ⟨s5, hz⟩ ⟨rfl, kk, v, hkv, rfl⟩
    have hm : ∃ m, ks[k]? = some m ∧ kk = Sum.inl (m : Int) := by
      unfold dkL at hkv
      rw [List.getElem?_map] at hkv
      cases z : ks[k]? with
      | none =>
        rw [z] at hkv
        cases hkv
      | some m =>
        rw [z] at hkv
        exact ⟨m, rfl, (congrArg Prod.fst (Option.some.inj hkv)).symm⟩
    obtain ⟨m, hm, rfl⟩ := hm
    refine hs m H6 (fun H' => Same H1 H' ∧ H' D = some (.lst (natL ((ks.take (k + 1)).filter c)))) (fun H' => Same H1 H' ∧ H' D = some (.lst (natL ((ks.take (k + 1)).filter c)))) (List.mem_of_getElem? hm) s5 (fun hc => ⟨_, hz, sl ?_, fun b o e => ?_, ?_⟩) fun hc => ⟨s5, ?_⟩
    · unfold natL
      rw [List.length_map]
      have h1 := List.length_filter_le c (ks.take k)
      have h2 := List.length_take_le' k ks
      omega
    · rw [upd_ne (ne_of_none e nz)]
      exact s5 _ _ e
    · rw [upd_same, filter_take hm, if_pos hc]
      unfold natL
      rw [List.map_append]
      rfl
    · rw [filter_take hm, if_neg (by rw [hc]; exact Bool.false_ne_true), List.append_nil]
      exact hz
  · rintro H5 ⟨s5, hz⟩
    rw [dkL_len, List.take_length] at hz
    exact hd H5 s5 hz
section
variable {P : Program} {w : World} {K : PySem.W.Frag} {mg : Str → Option Value} {base : Heap} {TC HC : Addr}
theorem cal_code {x : Str} {st : Stmt} {N ps : List Str} {k : Nat} {sp : Sp} {c : Addr} (D : DefCode K mg x st ps c) (S : FnScope N ps (defScope st)) (len : ∀ vs H Q E, sp vs H Q E → vs.length = ps.length)
    (hbody : ∀ (f : Addr) (A : Around) (outer : List Env) (s : Shared) (H : Hp) (vs : List V) (Q : VK) (E : XK), Room k (A.deeper (envOfC x (defScope st) s.heap.objs.size f (.ref c))) → sp vs H Q E →
      ∃ t, PSs (cxOf CX0 P w K mg base N x (defScope st) f (.ref c) A outer s H E).nox (defBody st) t ∧ t { nx := fun _ H' => Q .non H', rt := Q } (start N vs) H) : Cal P w K mg base (k + 1) x sp := by
  obtain ⟨f, oc, od, kV, doc, pm, an, ct, osl, lk, hcd, kp, m, b⟩ := D
  refine ⟨f, _, ps, fn_of lk hcd S len fun A outer s H vs Q E hr hsp => ?_, m, kp, b⟩
  obtain ⟨t, h, q⟩ := hbody f A outer s H vs Q E hr hsp
  exact ⟨t, h.nox, q⟩
abbrev lamScope : Scope := { kind := .function, names := [("member", .local), ("lengths", .free)], isGenerator := false, isCoroutine := false }
theorem lam_even : LamS1 (defScope s_even_out) lamScope "member" := ⟨rfl, rfl, rfl, by decide +kernel, by decide +kernel, rfl, by decide +kernel⟩
def evMeas (l : List Vbchad.Trade) (ns : List Int) : Nat := ((Vbchad.membersOf l).map fun m => (over (netOf l) (gl ns) m).toNat).sum
def spEven (Pt : Addr) : Sp := fun vs H Q _ => ∃ (a b : Addr) (l : List Vbchad.Trade) (ns : List Int), vs = [.ref a, .ref b] ∧ TradesAt H a l ∧ H b = some (.lst (ns.map V.int)) ∧ a ≠ b ∧ ns.length = l.length ∧ EvOk l (gl ns) ∧ GoodT l ∧ Tabs [(Pt, "even_out.<locals>.<lambda>")] H ∧
  ∀ H' ns', FrN b H H' → Tabs [(Pt, "even_out.<locals>.<lambda>")] H' → H' b = some (.lst (ns'.map V.int)) → ns'.length = l.length → Opt (netOf l) (gl ns') → Q .non H'
theorem c_even_out {c Pt : Addr} (T : Tb mg) (D : DefCode K mg "even_out" s_even_out ["trades", "numbers"] c) (TB : TabB base mg c Pt) (c_overhangs : Cal P w K mg base 1 "overhangs" (spOver K)) (c_shortest_ways : Cal P w K mg base 1 "shortest_ways" (spShort K)) (c_moves_of : Cal P w K mg base 1 "moves_of" (spMoves K))
    (c_way_to : Cal P w K mg base 1 "way_to" spWay) (c_leeway : Cal P w K mg base 1 "leeway" (spLee K)) (c_shift : Cal P w K mg base 1 "shift" spShift) : Cal P w K mg base 3 "even_out" (spEven Pt) := by
  refine cal_code D sc_even_out (fun vs H Q E h => ?_) (fun f A outer s H vs Q E hr h => ?_)
  · obtain ⟨a, b, l, ns, rfl, _⟩ := h
    rfl
  · obtain ⟨a, b, l, ns, rfl, hT, hN, nab, hlen, hev, good, hTab, q⟩ := h
    have hl := good.len
    have hm12 := good.mem
    refine ⟨_, (pss_cons (ps_set (i := 2) sc_even_out.nd rfl (.inl rfl) (pe_listRg rfl rfl T.m_list (prg_1 rfl T.m_range (pe_callB call_len_seq (by rfl) T.m_len (by decide +kernel) (pa_cons (pv 0) pa_nil)))))
      (pss_cons (ps_set (i := 3) sc_even_out.nd rfl (.inr rfl) (pe_c c_overhangs hr (by decide) rfl (pa_cons (pv 0) (pa_cons (pv 1) pa_nil))))
      (pss_cons (ps_lock (ps_setLc (i := 4) (own := [("member", 5)]) (g := gName 5) rfl sc_even_out.nd rfl rfl (sw_true rfl rfl rfl (by decide +kernel)) (pi_keys (pv 3)) (blkOk_by (own := [("member", 5)]) (N := ["trades", "numbers", "places", "over", "starts", "member", "lengths", "last_moves", "ends", "end", "way", "start", "size"]) (sc := defScope s_even_out) (by decide +kernel)) (fun _ _ _ _ _ => (pg_name (i := 5) sc_even_out.nd rfl (.inl rfl))) (fun _ _ _ _ _ => (pts_one (pt_cmpR op_gt (pe_dget (hu_of hr) (pv 3) (pv 5) (fun _ _ => rfl)) pe_int (nomark _)))) (fun _ _ _ _ _ => (pv 5))))
      (pss_one (ps_while PassesOwn.never (pt_truth (pv 4) (by intro _; rfl)) (pss_cons (ps_asg (pe_c c_shortest_ways hr (by decide) rfl (pa_cons (pe_c c_moves_of hr (by decide) rfl (pa_cons (pv 0) (pa_cons (pv 1) (pa_cons (pv 2) pa_nil)))) (pa_cons (pv 4) pa_nil))) (pg_tup rfl (pgs_cons (pg_name (i := 6) sc_even_out.nd rfl (.inr rfl)) (pgs_cons (pg_name (i := 7) sc_even_out.nd rfl (.inl rfl)) pgs_nil))))
      (pss_cons (ps_lock (ps_setLc (i := 8) (own := [("member", 5)]) (g := gName 5) rfl sc_even_out.nd rfl rfl (sw_true rfl rfl rfl (by decide +kernel)) (pi_keys (pv 3)) (blkOk_by (own := [("member", 5)]) (N := ["trades", "numbers", "places", "over", "starts", "member", "lengths", "last_moves", "ends", "end", "way", "start", "size"]) (sc := defScope s_even_out) (by decide +kernel)) (fun _ _ _ _ _ => (pg_name (i := 5) sc_even_out.nd rfl (.inl rfl))) (fun _ _ _ _ _ => (pts_one (PW.pt (pw_and (pt_cmpR op_lt (pe_dget (hu_of hr) (pv 3) (pv 5) (fun _ _ => rfl)) pe_int (nomark _)) (pw_and1 (pt_cmp (pc_din (hu_of hr) (pv 5) (pv 6)) rfl)))))) (fun _ _ _ _ _ => (pv 5))))
      (pss_cons (ps_set (i := 9) sc_even_out.nd rfl (.inl rfl) (pe_minLam (k := 0) (j := 5) (jx := 6) (T := [(Pt, "even_out.<locals>.<lambda>")]) rfl T.m_min (pv 8) rfl sc_even_out.nd rfl rfl (by decide) TB rfl (List.mem_singleton.mpr rfl) (fun p hp _ => by rw [List.mem_singleton.mp hp]; rfl) hr lam_even rfl rfl (fun _ _ _ _ _ _ => rfl)))
      (pss_cons (ps_set (i := 10) sc_even_out.nd rfl (.inl rfl) (pe_c c_way_to hr (by decide) rfl (pa_cons (pv 9) (pa_cons (pv 7) pa_nil))))
      (pss_cons (ps_set (i := 11) sc_even_out.nd rfl (.inl rfl) (pe_ix ix_tup (pe_ix ix_list (pv 10) pe_int (fun _ _ => rfl)) pe_int (fun _ _ => rfl)))
      (pss_cons (ps_set (i := 12) sc_even_out.nd rfl (.inl rfl) (pe_callB (call_min3 rfl) (by rfl) T.m_min (by decide +kernel) (pa_cons (pe_dget (hu_of hr) (pv 3) (pv 11) (fun _ _ => rfl)) (pa_cons (pe_un un_neg (pe_dget (hu_of hr) (pv 3) (pv 9) (fun _ _ => rfl))) (pa_cons (pe_c c_leeway hr (by decide) rfl (pa_cons (pv 0) (pa_cons (pv 1) (pa_cons (pv 10) pa_nil)))) pa_nil)))))
      (pss_cons (ps_expr (pe_c c_shift hr (by decide) rfl (pa_cons (pv 1) (pa_cons (pv 10) (pa_cons (pv 12) pa_nil)))))
      (pss_cons (ps_daug (hu_of hr) (pv 3) (pv 11) (pv 12) in_sub (fun _ _ _ => rfl))
      (pss_cons (ps_daug (hu_of hr) (pv 3) (pv 9) (pv 12) in_add (fun _ _ _ => rfl))
      (pss_one (ps_lock (ps_setLc (i := 4) (own := [("member", 5)]) (g := gName 5) rfl sc_even_out.nd rfl rfl (sw_true rfl rfl rfl (by decide +kernel)) (pi_keys (pv 3)) (blkOk_by (own := [("member", 5)]) (N := ["trades", "numbers", "places", "over", "starts", "member", "lengths", "last_moves", "ends", "end", "way", "start", "size"]) (sc := defScope s_even_out) (by decide +kernel)) (fun _ _ _ _ _ => (pg_name (i := 5) sc_even_out.nd rfl (.inl rfl))) (fun _ _ _ _ _ => (pts_one (pt_cmpR op_gt (pe_dget (hu_of hr) (pv 3) (pv 5) (fun _ _ => rfl)) pe_int (nomark _)))) (fun _ _ _ _ _ => (pv 5))))))))))))))))))), ?_⟩
    obtain ⟨xsT, hT1, hT2⟩ := id hT
    have hxl := hT2.len
    rw [List.length_map] at hxl
    refine ⟨_, rfl, a, xsT, rfl, .inl (SqL.of hT1), _, rfl, RgOk.of_le (by omega) (by omega) (by omega) (by omega), fun pl npl => ?_⟩
    have s1 : Same H (upd H pl (.lst (rgV 0 xsT.length))) := same_upd npl
    have hpl1 : upd H pl (.lst (rgV 0 xsT.length)) pl = some (.lst (natL (List.range l.length))) := by
      rw [upd_same, rgV_nat, hxl]
    refine ⟨_, rfl, _, rfl, a, b, l, ns, rfl, hT.same s1, SqL.of (s1 _ _ hN), hlen, by omega, fun H1 od ks s2 nod1 hod hnd hks => ?_⟩
    have s12 := s1.trans s2
    have nod := s1.free nod1
    have hkl : ks.length ≤ 12 := by
      have := nodup_len hnd (fun m h => (hks m).mp h)
      omega
    refine ⟨od, _, hod, trivial, fun oo => ⟨_, rfl, od, oo, rfl, .inl ⟨_, upd_same, fun st nst => ?_⟩⟩⟩
    have nb0 : ∀ {x : Addr} {H2 : Hp}, Same H H2 → H2 x = none → x ≠ b := fun {x H2} sm n e => by
      rw [e, sm _ _ hN] at n
      cases n
    have nplb : pl ≠ b := fun e => by
      rw [e, hN] at npl
      cases npl
    have nodb : od ≠ b := nb0 s1 nod1
    have nodpl : od ≠ pl := fun e => by
      rw [e, hpl1] at nod1
      cases nod1
    refine lc_keys (fun m => decide (0 < over (netOf l) (gl ns) m)) nst upd_same (by omega) (fun m H' Qe Qn hm sm he hn => ⟨rfl, _, rfl, _, rfl, od, _, rfl, dget_frz (sm _ _ upd_same) hm, _, _, rfl, rfl, _, rfl, ite2 (fun cc => ⟨_, rfl, he cc⟩) (fun cc => hn (by simpa using cc))⟩) fun H3 s3 hst3 => ?_
    refine ⟨s3 _ _ upd_same, ?_⟩
    have stn : H1 st = none ∧ st ≠ od := by
      have e : st ≠ od := fun e => by
        rw [e, upd_same] at nst
        cases nst
      rw [upd_ne e] at nst
      exact ⟨nst, e⟩
    have fr3 : FrN b H (upd H3 od (.dK (dkL ks fun m => .int (over (netOf l) (gl ns) m)))) := by
      refine FrN.new (fun c o e n t => s3 _ _ ?_) nod
      rw [upd_ne (ne_of_none e nod)]
      exact s12 _ _ e
    have tab3 : Tabs [(Pt, "even_out.<locals>.<lambda>")] (upd H3 od (.dK (dkL ks fun m => .int (over (netOf l) (gl ns) m)))) := by
      have t1 := hTab.ext s12
      have t2 := tabs_but t1 hod (fun _ z => by cases z) (fun _ z => by cases z) (But.upd (o := .frz oo (.dK (dkL ks fun m => .int (over (netOf l) (gl ns) m)))) (But.refl od H1))
      have t3 := t2.ext s3
      exact tabs_but t3 (s3 _ _ upd_same) (fun _ z => by cases z) (fun _ z => by cases z) (But.upd (But.refl od H3))
    refine ⟨fun n σ H' => ∃ (ns : List Int) (st : Addr) (v5 v6 v7 v8 v9 v10 v11 v12 : Option V), σ = [some (.ref a), some (.ref b), some (.ref pl), some (.ref od), some (.ref st), v5, v6, v7, v8, v9, v10, v11, v12] ∧ FrN b H H' ∧ Tabs [(Pt, "even_out.<locals>.<lambda>")] H' ∧
      H' b = some (.lst (ns.map V.int)) ∧ ns.length = l.length ∧ EvOk l (gl ns) ∧ H' pl = some (.lst (natL (List.range l.length))) ∧ H' od = some (.dK (dkL ks fun m => .int (over (netOf l) (gl ns) m))) ∧
      H' st = some (.lst (natL (ks.filter fun m => decide (0 < over (netOf l) (gl ns) m)))) ∧ st ≠ b ∧ n = evMeas l ns,
      ⟨_, ns, st, _, _, _, _, _, _, _, _, rfl, fr3, tab3, ?_, hlen, hev, ?_, upd_same, ?_, ?_, rfl⟩, ?_⟩
    · rw [upd_ne (Ne.symm nodb)]
      refine s3 _ _ ?_
      rw [upd_ne (Ne.symm nodb)]
      exact s12 _ _ hN
    · rw [upd_ne (Ne.symm nodpl)]
      refine s3 _ _ ?_
      rw [upd_ne (Ne.symm nodpl)]
      exact s2 _ _ hpl1
    · rw [upd_ne stn.2]
      exact hst3
    · exact fun e => by
        have := stn.1
        rw [e, s12 _ _ hN] at this
        cases this
    rintro n σ H4 ⟨ns4, st4, v5, v6, v7, v8, v9, v10, v11, v12, rfl, fr4, tab4, hb4, hlen4, hev4, hpl4, hod4, hst4, nst4, rfl⟩
    have hT4 : TradesAt H4 a l := RowsAt.frn hT hN nab fr4
    have hS4 : ∀ m, m ∈ ks.filter (fun m => decide (0 < over (netOf l) (gl ns4) m)) ↔ m ∈ Vbchad.membersOf l ∧ 0 < over (netOf l) (gl ns4) m := fun m => by
      rw [List.mem_filter, hks, decide_eq_true_eq]
    refine ⟨_, rfl, _, .inl ⟨_, SqL.of hst4, rfl⟩, ite2 (fun cc => ?_) (fun cc => ?_)⟩
    · obtain ⟨d0, hd0⟩ := hev4.feas
      have hpos : Pos (netOf l) (allMoves l (gl ns4)) d0 := pos_of_feas hd0 all_lt
      refine ⟨fun σ' H' => ∃ (ns : List Int) (st : Addr) (v5 v6 v7 v8 v9 v10 v11 v12 : Option V), σ' = [some (.ref a), some (.ref b), some (.ref pl), some (.ref od), some (.ref st), v5, v6, v7, v8, v9, v10, v11, v12] ∧ FrN b H H' ∧ Tabs [(Pt, "even_out.<locals>.<lambda>")] H' ∧
        H' b = some (.lst (ns.map V.int)) ∧ ns.length = l.length ∧ EvOk l (gl ns) ∧ H' pl = some (.lst (natL (List.range l.length))) ∧ H' od = some (.dK (dkL ks fun m => .int (over (netOf l) (gl ns) m))) ∧
        H' st = some (.lst (natL (ks.filter fun m => decide (0 < over (netOf l) (gl ns) m)))) ∧ st ≠ b ∧ evMeas l ns < evMeas l ns4,
        fun σ' H' ⟨ns, st, v5, v6, v7, v8, v9, v10, v11, v12, e1, e2, e3, e4, e5, e6, e7, e8, e9, e10, e11⟩ => ⟨_, e11, ns, st, v5, v6, v7, v8, v9, v10, v11, v12, e1, e2, e3, e4, e5, e6, e7, e8, e9, e10, rfl⟩, ?_⟩
      refine ⟨_, rfl, _, rfl, _, rfl, a, b, pl, l, ns4, List.range l.length, rfl, hT4, SqL.of hb4, hpl4, all_lt, hlen4, by rw [List.length_range]; omega, fun H5 pm s5 npm hM => ?_⟩
      refine ⟨_, rfl, pm, st4, netOf l, Vbchad.membersOf l, allMoves l (gl ns4), _, d0, rfl, hM, s5 _ _ hst4, hpos, fun q hq => (moves_dst all_lt hq).2, fun s hs => ((hS4 s).mp hs).1, by omega, ?_⟩
      intro H6 pt dl dp t s6 npt ndl ndp hpt bf hsh
      have s46 := s5.trans s6
      refine ⟨pt, _, rfl, SqT.of hpt, rfl, _, _, rfl, _, _, rfl, rfl, ?_⟩
      have hod6 := s46 _ _ hod4
      refine ⟨od, _, hod6, trivial, fun o2 => ⟨_, rfl, od, o2, rfl, .inl ⟨_, upd_same, fun en nen => ?_⟩⟩⟩
      have nend : en ≠ od := fun e => by
        rw [e, upd_same] at nen
        cases nen
      have nen6 : H6 en = none := by
        rw [upd_ne nend] at nen
        exact nen
      have dlod : dl ≠ od := fun e => by
        rw [e, s5 _ _ hod4] at ndl
        cases ndl
      refine lc_keys (fun m => decide (over (netOf l) (gl ns4) m < 0 ∧ m ∈ t.ks)) nen upd_same (by omega) (fun m H' Qe Qn hm sm he hn => ⟨rfl, _, rfl, _, rfl, od, _, rfl, dget_frz (sm _ _ upd_same) hm, _, _, rfl, rfl, _, rfl, ite2 (fun cc => ?_) (fun cc => hn (decide_eq_false fun z => cc (decide_eq_true z.1)))⟩) fun H7 s7 hen7 => ?_
      · have hdl' : H' dl = some (.dK (dkL t.ks fun m => .int (t.L m))) := sm _ _ (by rw [upd_ne dlod]; exact bf.l)
        refine ⟨_, rfl, _, rfl, dl, _, rfl, dget_any hdl', _, rfl, ite2 (fun c2 => ⟨_, rfl, he ?_⟩) (fun c2 => hn ?_)⟩
        · refine decide_eq_true ⟨of_decide_eq_true cc, ?_⟩
          by_cases z : m ∈ t.ks
          · exact z
          · rw [if_neg z] at c2
            cases c2
        · refine decide_eq_false fun z => c2 ?_
          rw [if_pos z.2]
          rfl
      refine ⟨s7 _ _ upd_same, ?_⟩
      obtain ⟨H8, eH8⟩ : ∃ H8, H8 = upd H7 od (.dK (dkL ks fun m => .int (over (netOf l) (gl ns4) m))) := ⟨_, rfl⟩
      rw [← eH8]
      -- what stands behind the list of the ends
      have s68 : Same H6 H8 := fun c o e => by
        rw [eH8]
        by_cases z : c = od
        · rw [z, upd_same]
          rw [z, hod6] at e
          exact e
        · rw [upd_ne z]
          refine s7 _ _ ?_
          rw [upd_ne z]
          exact e
      have s48 := s46.trans s68
      have tab8 := tab4.ext s48
      have hen8 : H8 en = some (.lst (natL (ks.filter fun m => decide (over (netOf l) (gl ns4) m < 0 ∧ m ∈ t.ks)))) := by
        rw [eH8, upd_ne nend]
        exact hen7
      have hne : ∃ s, s ∈ ks.filter (fun m => decide (0 < over (netOf l) (gl ns4) m)) := by
        cases z : ks.filter (fun m => decide (0 < over (netOf l) (gl ns4) m)) with
        | nil =>
          rw [z] at cc
          cases cc
        | cons x xs => exact ⟨x, by simp⟩
      obtain ⟨e0, he0, he1, he2⟩ := even_end hev4 hsh hS4 hne
      have hends : ∀ m, m ∈ ks.filter (fun m => decide (over (netOf l) (gl ns4) m < 0 ∧ m ∈ t.ks)) ↔ m ∈ Vbchad.membersOf l ∧ over (netOf l) (gl ns4) m < 0 ∧ m ∈ t.ks := fun m => by
        rw [List.mem_filter, hks, decide_eq_true_eq]
      refine ⟨_, rfl, tab8, en, dl, (ks.filter fun m => decide (over (netOf l) (gl ns4) m < 0 ∧ m ∈ t.ks)).map fun (m : Nat) => (m : Int), fun n => t.L n.toNat, _, rfl, by rw [← natL_eq]; exact SqL.of hen8, ?_, rfl, s68 _ _ bf.l, fun n hn => ?_, fun mi H9 hmi eN tab9 => ?_⟩
      · rw [List.length_map]
        exact List.length_pos_of_mem ((hends e0).mpr ⟨he0, he1, he2⟩)
      · obtain ⟨m, hm, rfl⟩ := List.mem_map.mp hn
        exact valV_in_ ((hends m).mp hm).2.2
      obtain ⟨e, hem, rfl⟩ := List.mem_map.mp hmi
      obtain ⟨hemem, heneg, het⟩ := (hends e).mp hem
      have bf9 : LastAt H9 dp (netOf l) t.ps t.P := by
        obtain ⟨AA, a1, a2⟩ := bf.p
        exact LastAt.extN ⟨AA, s68 _ _ a1, fun m hm => s68 _ _ (a2 m hm)⟩ eN
      refine ⟨_, rfl, _, rfl, dp, e, netOf l, Vbchad.membersOf l, allMoves l (gl ns4), _, d0, t, rfl, bf9, hsh, hpos, het, by omega, fun H10 pw way s0 s10 npw hway hok => ?_⟩
      have hs0 := (hS4 s0).mp hok.root.1
      have hne2 : way ≠ [] := hok.ne fun z => by
        have := ((hS4 e).mp z).2
        omega
      have hqi : ∀ q, q ∈ way → q.i < l.length := fun q hq => (mem_all.mp (hok.inn q hq).1).1
      have hwl : way.length ≤ 1000 := by
        have := hok.len hpos hsh hs0.1
        omega
      have fr8 : FrN b H4 H10 := (Same.frn s48).trans ((ext_frn eN).trans (Same.frn s10))
      have hT10 : TradesAt H10 a l := RowsAt.frn hT4 hb4 nab fr8
      have hb10 : H10 b = some (.lst (ns4.map V.int)) := s10 _ _ (eN _ _ (s48 _ _ hb4) (fun _ z => by cases z))
      have hod10 : H10 od = some (.dK (dkL ks fun m => .int (over (netOf l) (gl ns4) m))) := s10 _ _ (eN _ _ (s48 _ _ hod4) (fun _ z => by cases z))
      have tab10 := tab9.ext s10
      -- the start
      obtain ⟨q0, wy, ew⟩ : ∃ q0 wy, way = q0 :: wy := by
        cases way with
        | nil => exact absurd rfl hne2
        | cons q0 wy => exact ⟨q0, wy, rfl⟩
      have hsrc : src (netOf l) q0 = s0 := by
        have := hok.chain
        rw [ew] at this
        exact this.1
      obtain ⟨xw, hw1, hw2⟩ := id hway
      obtain ⟨v0, g1, p0, ev0, g2⟩ := hw2.get 0 (rowM (netOf l) q0) (by rw [ew]; rfl)
      subst ev0
      refine ⟨_, rfl, pw, xw, 0, _, rfl, rfl, SqL.of hw1, (show atI xw ((0 : Nat) : Int) = _ from atI_nat g1), p0, _, 0, _, rfl, rfl, SqT.of g2, rfl, ?_⟩
      have hks0 : src (netOf l) q0 ∈ ks := by
        rw [hsrc]
        exact (hks s0).mpr hs0.1
      have hke : e ∈ ks := (hks e).mpr hemem
      refine ⟨_, rfl, _, rfl, od, _, rfl, dget_in hod10 hks0, _, rfl, _, rfl, od, _, rfl, dget_in hod10 hke, _, rfl, _, rfl, _, rfl, _, rfl, a, b, pw, l, ns4, way, rfl, hT10, SqL.of hb10, hway, hqi, hlen4, hne2, hwl, fun x H11 hxle hxq s11 => ?_⟩
      obtain ⟨q1, hq1, ex⟩ := hxq
      have hx1 : 1 ≤ x := by
        rw [ex]
        exact cap_pos (hok.inn q1 hq1).1
      refine ⟨_, _, _, rfl, ?_⟩
      rw [hsrc]
      obtain ⟨y, ey⟩ : ∃ y : Int, y = min (over (netOf l) (gl ns4) s0) (min (-over (netOf l) (gl ns4) e) x) := ⟨_, rfl⟩
      rw [← ey]
      have y1 : 1 ≤ y := by omega
      have ys : y ≤ over (netOf l) (gl ns4) s0 := by omega
      have ye : y ≤ -over (netOf l) (gl ns4) e := by omega
      have yx : y ≤ x := by omega
      have hb11 := s11 _ _ hb10
      have hod11 := s11 _ _ hod10
      have npwb : pw ≠ b := fun z => by
        have h1 := eN _ _ (s48 _ _ hb4) (fun _ z => by cases z)
        rw [z, h1] at npw
        cases npw
      refine ⟨_, rfl, _, rfl, _, rfl, b, pw, y, netOf l, ns4, way, rfl, hb11, hway.same s11, npwb, fun q hq => by rw [hlen4]; exact hqi q hq, fun H12 s12' hb12 => ?_⟩
      have hod12 := s12' _ _ hod11 nodb
      have hsl : (shiftL ns4 way y).length = l.length := (shiftL_len _ _ _).trans hlen4
      have hsh2 : gl (shiftL ns4 way y) = shifted (gl ns4) way y := shiftL_gl way ns4 y fun q hq => by rw [hlen4]; exact hqi q hq
      obtain ⟨ev2, ov2, ms2⟩ := even_shift hev4 hsh hm12 hS4 hok hemem heneg y1 ys ye (fun q hq => Int.le_trans yx (hxle q hq))
      rw [← hsh2] at ev2 ov2 ms2
      have nes : e ≠ s0 := fun z => by
        rw [z] at heneg
        omega
      have hs0k : s0 ∈ ks := (hks s0).mpr hs0.1
      refine ⟨_, rfl, _, rfl, od, _, rfl, dget_in hod12 hs0k, _, rfl, _, _, rfl, rfl, _, dput_dk hod12 (sl (by omega)), ?_⟩
      rw [addk_in hs0k, ← int_fu]
      refine ⟨_, rfl, _, rfl, od, _, rfl, dget_in upd_same hke, _, rfl, _, _, rfl, rfl, _, dput_dk upd_same (sl (by omega)), ?_⟩
      rw [addk_in hke, ← int_fu]
      have ovn : fu (fu (over (netOf l) (gl ns4)) s0 (over (netOf l) (gl ns4) s0 - y)) e (fu (over (netOf l) (gl ns4)) s0 (over (netOf l) (gl ns4) s0 - y) e + y) = over (netOf l) (gl (shiftL ns4 way y)) := by
        funext m
        rw [ov2 m, fu_ne nes]
        unfold fu
        by_cases ce : m = e
        · rw [if_pos ce, if_neg (by rw [ce]; exact nes), if_pos ce]
        · rw [if_neg ce]
          by_cases cs : m = s0
          · rw [if_pos cs, if_pos cs]
          · rw [if_neg cs, if_neg cs, if_neg ce]
      rw [ovn]
      obtain ⟨ns5, e5⟩ : ∃ ns5, ns5 = shiftL ns4 way y := ⟨_, rfl⟩
      rw [← e5] at ev2 ov2 ms2 hsl hb12 ⊢
      have upup : ∀ (H : Hp) (o1 o2 : HO), upd (upd H od o1) od o2 = upd H od o2 := fun H o1 o2 => by
        funext c
        by_cases z : c = od
        · rw [z, upd_same, upd_same]
        · rw [upd_ne z, upd_ne z, upd_ne z]
      rw [upup]
      obtain ⟨H13, eH13⟩ : ∃ H13, H13 = upd H12 od (.dK (dkL ks fun m => .int (over (netOf l) (gl ns5) m))) := ⟨_, rfl⟩
      rw [← eH13]
      have hod13 : H13 od = some (.dK (dkL ks fun m => .int (over (netOf l) (gl ns5) m))) := by
        rw [eH13, upd_same]
      refine ⟨od, _, hod13, trivial, fun o3 => ⟨_, rfl, od, o3, rfl, .inl ⟨_, upd_same, fun st nst => ?_⟩⟩⟩
      have nstod : st ≠ od := fun e => by
        rw [e, upd_same] at nst
        cases nst
      refine lc_keys (fun m => decide (0 < over (netOf l) (gl ns5) m)) nst upd_same (by omega) (fun m H' Qe Qn hm sm he hn => ⟨rfl, _, rfl, _, rfl, od, _, rfl, dget_frz (sm _ _ upd_same) hm, _, _, rfl, rfl, _, rfl, ite2 (fun cc => ⟨_, rfl, he cc⟩) (fun cc => hn (by simpa using cc))⟩) fun H14 s14 hst14 => ?_
      refine ⟨s14 _ _ upd_same, ?_⟩
      -- what stands behind the round
      have fr12 : FrN b H4 H12 := fr8.trans ((Same.frn s11).trans (But.frn s12'))
      have nod4 : H od = none := nod
      have stn13 : H13 st = none := by
        rw [upd_ne nstod] at nst
        exact nst
      have hb13 : H13 b = some (.lst (ns5.map V.int)) := by
        rw [eH13, upd_ne (Ne.symm nodb)]
        exact hb12
      have up14 : ∀ c o, H12 c = some o → c ≠ od → (upd H14 od (.dK (dkL ks fun m => .int (over (netOf l) (gl ns5) m)))) c = some o := fun c o e n => by
        rw [upd_ne n]
        refine s14 _ _ ?_
        rw [upd_ne n, eH13, upd_ne n]
        exact e
      refine ⟨ns5, st, _, _, _, _, _, _, _, _, rfl, ?_, ?_, up14 _ _ hb12 (Ne.symm nodb), hsl, ev2, ?_, upd_same, ?_, ?_, ms2⟩
      · refine FrN.new (fun c o h n tt => s14 _ _ ?_) nod
        rw [upd_ne (ne_of_none h nod), eH13, upd_ne (ne_of_none h nod)]
        exact fr12 _ _ (fr4 _ _ h n tt) n tt
      · have t11 := tab10.ext s11
        have t12 := tabs_but t11 hb11 (fun _ z => by cases z) (fun _ z => by cases z) s12'
        have t13 : Tabs [(Pt, "even_out.<locals>.<lambda>")] H13 := by
          rw [eH13]
          exact tabs_but t12 hod12 (fun _ z => by cases z) (fun _ z => by cases z) (But.upd (But.refl od H12))
        have t14 := tabs_but t13 hod13 (fun _ z => by cases z) (fun _ z => by cases z) (But.upd (o := .frz o3 (.dK (dkL ks fun m => .int (over (netOf l) (gl ns5) m)))) (But.refl od H13))
        have t15 := t14.ext s14
        exact tabs_but t15 (s14 _ _ upd_same) (fun _ z => by cases z) (fun _ z => by cases z) (But.upd (But.refl od H14))
      · exact up14 _ _ (fr12 _ _ hpl4 nplb (fun _ z => by cases z)) (Ne.symm nodpl)
      · rw [upd_ne nstod]
        exact hst14
      · exact fun e => by
          rw [e, hb13] at stn13
          cases stn13
    · have hem : ks.filter (fun m => decide (0 < over (netOf l) (gl ns4) m)) = [] := by
        unfold natL at cc
        cases z : ks.filter (fun m => decide (0 < over (netOf l) (gl ns4) m)) with
        | nil => rfl
        | cons x xs =>
          rw [z] at cc
          exact absurd rfl cc
      obtain ⟨r1, p, r2⟩ := even_done hev4 fun m hm => by
        by_cases z : 0 < over (netOf l) (gl ns4) m
        · have := (hS4 m).mpr ⟨hm, z⟩
          rw [hem] at this
          cases this
        · omega
      exact q H4 ns4 fr4 tab4 hb4 hlen4 (opt_of_tight r1 r2)
end
end Vb
end

section
/-! # reductions.py: greatest_reduction, told_reduction -/
namespace Vb
open PySem PySem.Spec PyProof.Rows L2 Nw LamX
theorem rooms_gl (l : List Vbchad.Trade) : gl (l.map fun t => (Vbchad.room t : Int)) = (netOf l).r := by
  funext i
  unfold gl
  show _ = (Vbchad.room (tr l i) : Int)
  unfold tr
  rw [List.getD_eq_getElem?_getD, List.getD_eq_getElem?_getD, List.getElem?_map]
  cases l[i]? <;> rfl
abbrev TT (Pt : Addr) (H : Hp) : Prop := Tabs [(Pt, "even_out.<locals>.<lambda>")] H
section
variable {P : Program} {w : World} {K : PySem.W.Frag} {mg : Str → Option Value} {base : Heap} {TC HC : Addr}
def spGreat (Pt : Addr) : Sp := fun vs H Q _ => ∃ (a : Addr) (l : List Vbchad.Trade), vs = [.ref a] ∧ TradesAt H a l ∧ GoodT l ∧ TT Pt H ∧
  ∀ H' p ns, ExtN H H' → TT Pt H' → H p = none → H' p = some (.lst (ns.map V.int)) → ns.length = l.length → Opt (netOf l) (gl ns) → Q (.ref p) H'
theorem c_greatest_reduction {Pt : Addr} (T : Tb mg) (D : DefAt K mg "greatest_reduction" s_greatest_reduction ["trades"]) (c_even_out : Cal P w K mg base 3 "even_out" (spEven Pt)) : Cal P w K mg base 4 "greatest_reduction" (spGreat Pt) := by
  refine cal_of D sc_greatest_reduction (fun vs H Q E h => ?_) (fun f cdv A outer s H vs Q E _ hr h => ?_)
  · obtain ⟨a, l, rfl, _⟩ := h
    rfl
  · obtain ⟨a, l, rfl, hT, good, hTab, q⟩ := h
    have hl := good.len
    refine ⟨_, (pss_cons (ps_setLc (i := 1) (own := [("giver", 2), ("to", 3), ("room", 4)]) (g := gTup K 3 (gCons (gName 2) (gCons (gName 3) (gCons (gName 4) gNil)))) (tt := tYes) rfl sc_greatest_reduction.nd rfl rfl (sw_true rfl rfl rfl (by decide +kernel)) (pi_list (pv 0)) (blkOk_by (own := [("giver", 2), ("to", 3), ("room", 4)]) (N := ["trades", "numbers", "giver", "to", "room"]) (sc := defScope s_greatest_reduction) (by decide +kernel)) (fun _ _ _ _ _ => (pg_tup rfl (pgs_cons (pg_name (i := 2) sc_greatest_reduction.nd rfl (.inl rfl)) (pgs_cons (pg_name (i := 3) sc_greatest_reduction.nd rfl (.inl rfl)) (pgs_cons (pg_name (i := 4) sc_greatest_reduction.nd rfl (.inl rfl)) pgs_nil))))) (fun _ _ _ _ _ => pts_nil) (fun _ _ _ _ _ => (pv 4)))
      (pss_cons (ps_expr (pe_c c_even_out hr (by decide) rfl (pa_cons (pv 0) (pa_cons (pv 1) pa_nil))))
      (pss_one (ps_ret (pv 1))))), ?_⟩
    obtain ⟨xs, hx1, hx2⟩ := id hT
    have hxl := hx2.len
    rw [List.length_map] at hxl
    refine ⟨_, rfl, a, rfl, ⟨_, SqL.of hx1⟩, fun z nz => lc_list (K := K) (a := a) (xs := xs) (fun i H' => Same H H' ∧ H' z = some (.lst (((l.take i).map fun t => (Vbchad.room t : Int)).map V.int))) ⟨same_upd nz, upd_same⟩ (fun i H' _ h => SqL.of (h.1 _ _ hx1)) ?_ ?_⟩
    · rintro k x H' hx ⟨s5, hz⟩
      obtain ⟨t, pp, ht, rfl, htp0⟩ := rowsT_at hx2 hx
      have htp := s5 _ _ htp0
      have hlk : (((l.take k).map fun t => (Vbchad.room t : Int)).map V.int).length ≤ 40 := by
        rw [List.length_map, List.length_map, List.length_take]
        omega
      refine ⟨pp, _, rfl, SqT.of htp, rfl, _, _, rfl, _, _, rfl, _, _, rfl, rfl, rfl, _, rfl, _, hz, sl (by omega), fun b o e => ?_, ?_⟩
      · rw [upd_ne (ne_of_none e nz)]
        exact s5 _ _ e
      · rw [upd_same, take_more ht, List.map_append, List.map_append]
        rfl
    · rintro H' ⟨s5, hz⟩
      rw [hxl, List.take_length] at hz
      have naz : a ≠ z := fun e => by
        rw [← e, hx1] at nz
        cases nz
      refine ⟨_, rfl, _, rfl, a, z, l, _, rfl, hT.same s5, hz, naz, by rw [List.length_map], ?_, good, hTab.ext s5, fun H2 ns2 fr2 tab2 hz2 hlen2 hopt2 => ?_⟩
      · rw [rooms_gl]
        exact ev_start l
      · refine ⟨_, rfl, q H2 z ns2 (fun c o e t => fr2 _ _ (s5 _ _ e) (ne_of_none e nz) t) tab2 nz hz2 hlen2 hopt2⟩
def spTold (Pt : Addr) : Sp := fun vs H Q _ => ∃ (a : Addr) (l : List Vbchad.Trade), vs = [.ref a] ∧ TradesAt H a l ∧ GoodT l ∧ TT Pt H ∧
  ∀ H' p, ExtN H H' → TT Pt H' → H p = none → H' p = some (.lst (natL (Vbchad.told l))) → Q (.ref p) H'
theorem c_told_reduction {Pt : Addr} (T : Tb mg) (D : DefAt K mg "told_reduction" s_told_reduction ["trades"]) (c_greatest_reduction : Cal P w K mg base 4 "greatest_reduction" (spGreat Pt))
    (c_prefer_low_keys : Cal P w K mg base 3 "prefer_low_keys" spPrefer) : Cal P w K mg base 5 "told_reduction" (spTold Pt) := by
  refine cal_of D sc_told_reduction (fun vs H Q E h => ?_) (fun f cdv A outer s H vs Q E _ hr h => ?_)
  · obtain ⟨a, l, rfl, _⟩ := h
    rfl
  · obtain ⟨a, l, rfl, hT, good, hTab, q⟩ := h
    refine ⟨_, (pss_cons (ps_set (i := 1) sc_told_reduction.nd rfl (.inl rfl) (pe_c c_greatest_reduction hr (by decide) rfl (pa_cons (pv 0) pa_nil)))
      (pss_cons (ps_expr (pe_c c_prefer_low_keys hr (by decide) rfl (pa_cons (pv 0) (pa_cons (pv 1) pa_nil))))
      (pss_one (ps_ret (pv 1))))), ?_⟩
    obtain ⟨xs, hx1, hx2⟩ := id hT
    refine ⟨_, rfl, a, l, rfl, hT, good, hTab, fun H1 p ns e1 tab1 np hp hlen hopt => ?_⟩
    have nap : a ≠ p := fun e => by
      rw [← e, hx1] at np
      cases np
    refine ⟨_, rfl, _, rfl, a, p, l, ns, rfl, RowsAt.extN hT e1, hp, nap, hlen, hopt, good, fun H2 ns2 b2 hp2 hlen2 hlex => ?_⟩
    refine ⟨_, rfl, q H2 p (fun c o e t => b2 _ _ (e1 _ _ e t) (ne_of_none e np)) (tabs_but tab1 hp (fun _ z => by cases z) (fun _ z => by cases z) b2) np ?_⟩
    rw [hp2, told_of_lex hlen2 hlex, natL_eq]
end
end Vb
end

section
/-! # clearing.py: how the house lies, and what only looks at it -/
namespace Vb
open PySem PySem.Spec PyProof.Rows L2 Nw LamX
/-! ## The house -/
abbrev Trd := Vbchad.Trade
structure GoodS (s : List Trd) : Prop where
  keys : (s.map (·.key)).Pairwise (· < ·)
  len : s.length ≤ 40
  mem : (Vbchad.membersOf s).length ≤ 12
  pos : ∀ t, t ∈ s → 1 ≤ t.amount
  amt : ∀ t, t ∈ s → t.amount ≤ 1000000000
  le : ∀ t, t ∈ s → t.least ≤ t.amount
  ne : ∀ t, t ∈ s → t.from_ ≠ t.to
theorem GoodS.goodT {s : List Trd} (g : GoodS s) : GoodT s := ⟨g.len, g.mem, fun t h => by
  have := g.amt t h
  unfold Vbchad.room
  omega, g.ne⟩
theorem GoodS.nodup {s : List Trd} (g : GoodS s) : (s.map (·.key)).Nodup := g.keys.imp fun h e => by omega
theorem key_inj : ∀ {s : List Trd}, (s.map (·.key)).Nodup → ∀ t u, t ∈ s → u ∈ s → t.key = u.key → t = u
  | [], _, t, _, h, _, _ => by cases h
  | a :: s, nd, t, u, ht, hu, e => by
    have h1 := List.nodup_cons.mp (show (a.key :: s.map (·.key)).Nodup from nd)
    rcases List.mem_cons.mp ht with r | r <;> rcases List.mem_cons.mp hu with q | q
    · rw [r, q]
    · exact absurd (List.mem_map.mpr ⟨u, q, by rw [← e, r]⟩) h1.1
    · exact absurd (List.mem_map.mpr ⟨t, r, by rw [e, q]⟩) h1.1
    · exact key_inj h1.2 t u r q e
def trF (t : Trd) : List (Str × V) := [("giver", .int t.from_), ("to", .int t.to), ("amount", .int t.amount), ("least", .int t.least)]
def houF (b : Addr) (kv : V) : List (Str × V) := [("book", .ref b), ("kept", kv)]
def TrAt (TC : Addr) (H : Hp) (x : Addr) (t : Trd) : Prop := ∃ dx, H x = some (.ins TC dx (trF t))
theorem TrAt.same {TC : Addr} {H H' : Hp} {x : Addr} {t : Trd} (h : TrAt TC H x t) (e : Same H H') : TrAt TC H' x t := by
  obtain ⟨dx, h⟩ := h
  exact ⟨dx, e _ _ h⟩
structure HouseAt (TC HC : Addr) (H : Hp) (h : Addr) (s : List Trd) (dx b : Addr) (kv : V) (ks : List Nat) (ad : Nat → Addr) : Prop where
  hou : H h = some (.ins HC dx (houF b kv))
  book : H b = some (.dK (dkL ks fun m => .ref (ad m)))
  keys : ∀ m, m ∈ ks ↔ ∃ t, t ∈ s ∧ t.key = m
  nd : ks.Nodup
  tr : ∀ t, t ∈ s → TrAt TC H (ad t.key) t
  inj : ∀ t u, t ∈ s → u ∈ s → ad t.key = ad u.key → t.key = u.key
  kept : kv = .non ∨ ∃ p, kv = .ref p ∧ H p = some (.lst (natL (Vbchad.told s)))
def HsAt (TC HC : Addr) (H : Hp) (h : Addr) (s : List Trd) : Prop := ∃ dx b kv ks ad, HouseAt TC HC H h s dx b kv ks ad
theorem HouseAt.same {TC HC : Addr} {H H' : Hp} {h : Addr} {s : List Trd} {dx b : Addr} {kv : V} {ks : List Nat} {ad : Nat → Addr} (a : HouseAt TC HC H h s dx b kv ks ad) (e : Same H H') : HouseAt TC HC H' h s dx b kv ks ad :=
  ⟨e _ _ a.hou, e _ _ a.book, a.keys, a.nd, fun t ht => (a.tr t ht).same e, a.inj, a.kept.imp id fun ⟨p, h1, h2⟩ => ⟨p, h1, e _ _ h2⟩⟩
theorem HsAt.same {TC HC : Addr} {H H' : Hp} {h : Addr} {s : List Trd} (a : HsAt TC HC H h s) (e : Same H H') : HsAt TC HC H' h s := by
  obtain ⟨dx, b, kv, ks, ad, x⟩ := a
  exact ⟨dx, b, kv, ks, ad, x.same e⟩
theorem HouseAt.klen {TC HC : Addr} {H : Hp} {h : Addr} {s : List Trd} {dx b : Addr} {kv : V} {ks : List Nat} {ad : Nat → Addr} (a : HouseAt TC HC H h s dx b kv ks ad) : ks.length ≤ s.length := by
  have := nodup_len a.nd (ms := s.map (·.key)) fun m hm => by
    obtain ⟨t, h1, h2⟩ := (a.keys m).mp hm
    exact List.mem_map.mpr ⟨t, h1, h2⟩
  rwa [List.length_map] at this
theorem HouseAt.klen2 {TC HC : Addr} {H : Hp} {h : Addr} {s : List Trd} {dx b : Addr} {kv : V} {ks : List Nat} {ad : Nat → Addr} (a : HouseAt TC HC H h s dx b kv ks ad) (g : GoodS s) : ks.length = s.length := by
  have h1 := a.klen
  have h2 := nodup_len g.nodup (ms := ks) fun m hm => by
    obtain ⟨t, h1, h2⟩ := List.mem_map.mp hm
    exact (a.keys m).mpr ⟨t, h1, h2⟩
  rw [List.length_map] at h2
  omega
/-- the trades' objects, in their order -/
def TrsAt (TC : Addr) (H : Hp) (p : Addr) (s : List Trd) : Prop := ∃ xs, H p = some (.lst xs) ∧ xs.length = s.length ∧ ∀ (i : Nat) (t : Trd), s[i]? = some t → ∃ x, xs[i]? = some (V.ref x) ∧ TrAt TC H x t
theorem TrsAt.same {TC : Addr} {H H' : Hp} {p : Addr} {s : List Trd} (h : TrsAt TC H p s) (e : Same H H') : TrsAt TC H' p s := by
  obtain ⟨xs, h1, h2, h3⟩ := h
  exact ⟨xs, e _ _ h1, h2, fun i t hi => let ⟨x, a, b⟩ := h3 i t hi; ⟨x, a, b.same e⟩⟩
theorem trs_at {TC : Addr} {H : Hp} {xs : List V} {s : List Trd} (h2 : xs.length = s.length) (h3 : ∀ (i : Nat) (t : Trd), s[i]? = some t → ∃ x, xs[i]? = some (V.ref x) ∧ TrAt TC H x t) {i : Nat} {v : V} (hv : xs[i]? = some v) : ∃ t x, s[i]? = some t ∧ v = .ref x ∧ TrAt TC H x t := by
  have hl := (List.getElem?_eq_some_iff.mp hv).1
  obtain ⟨x, a, b⟩ := h3 i s[i] (List.getElem?_eq_getElem (by omega))
  rw [hv] at a
  exact ⟨_, x, List.getElem?_eq_getElem (by omega), Option.some.inj a, b⟩
theorem up2 (H : Hp) (x : Addr) (o1 o2 : HO) : upd (upd H x o1) x o2 = upd H x o2 := by
  funext c
  by_cases z : c = x
  · rw [z, upd_same, upd_same]
  · rw [upd_ne z, upd_ne z, upd_ne z]
theorem pe_fldK {X : Cx} {K : PySem.W.Frag} {e : Expr} {f : Str} {pos : Pos} {ta : TE} (hK : X.K = K) (he : PE X e ta) (hb : attributeBase e f X.env (eval e X.env) = eval e X.env) : PE X (.Attribute e f pos) (tFld K ta f) := by
  subst hK
  exact pe_fld he hb
section
variable {P : Program} {w : World} {K : PySem.W.Frag} {mg : Str → Option Value} {base : Heap} {TC HC : Addr}
/-! ## Trade -/
def spTInit (TC : Addr) : Sp := fun vs H Q _ => ∃ (x dx : Addr) (a b c d : Int), vs = [.ref x, .int a, .int b, .int c, .int d] ∧ H x = some (.ins TC dx []) ∧ Q .non (upd H x (.ins TC dx [("giver", .int a), ("to", .int b), ("amount", .int c), ("least", .int d)]))
theorem c_Trade_init (T : Tc K mg TC HC) (D : MakeAt K mg "Trade" TC "Trade.__init__" s_Trade_init ["self", "giver", "to", "amount", "least"]) : Mak P w K mg base 1 "Trade" TC (spTInit TC) := by
  refine mak_of D sc_Trade_init (fun vs H Q E h => ?_) (fun f cdv A outer s H vs Q E hr h => ?_)
  · obtain ⟨x, dx, a, b, c, d, rfl, _⟩ := h
    rfl
  · obtain ⟨x, dx, a, b, c, d, rfl, hx, q⟩ := h
    refine ⟨_, (pss_cons (ps_fld (pv 0) (pv 1) rfl)
      (pss_cons (ps_fld (pv 0) (pv 2) rfl)
      (pss_cons (ps_fld (pv 0) (pv 3) rfl)
      (pss_one (ps_fld (pv 0) (pv 4) rfl))))), ?_⟩
    refine ⟨_, rfl, _, rfl, x, TC, dx, _, rfl, hx, T.clT, T.nT_giver, by decide, ?_⟩
    refine ⟨_, rfl, _, rfl, x, TC, dx, _, rfl, upd_same, T.clT, T.nT_to, (by show (1 : Nat) < 1000; decide), ?_⟩
    refine ⟨_, rfl, _, rfl, x, TC, dx, _, rfl, upd_same, T.clT, T.nT_amount, (by show (2 : Nat) < 1000; decide), ?_⟩
    refine ⟨_, rfl, _, rfl, x, TC, dx, _, rfl, upd_same, T.clT, T.nT_least, (by show (3 : Nat) < 1000; decide), ?_⟩
    rw [up2, up2, up2]
    exact q
def spRoom (TC : Addr) : Sp := fun vs H Q _ => ∃ (x : Addr) (t : Trd), vs = [.ref x] ∧ TrAt TC H x t ∧ t.least ≤ t.amount ∧ Q (.int (Vbchad.room t : Int)) H
theorem c_room (T : Tc K mg TC HC) (D : MethAt K TC "room" "Trade.room" s_room ["self"]) : Met P w K mg base 1 TC "room" (spRoom TC) := by
  refine met_of T.clT D sc_room (fun vs H Q E h => ?_) (fun f cdv A outer s H vs Q E hr h => ?_)
  · obtain ⟨x, t, rfl, _⟩ := h
    rfl
  · obtain ⟨x, t, rfl, ⟨dx, hx⟩, hle, q⟩ := h
    refine ⟨_, (pss_one (ps_ret (pe_op op_sub (pe_fldK (K := K) rfl (pv 0) rfl) (pe_fldK (K := K) rfl (pv 0) rfl)))), ?_⟩
    refine ⟨_, rfl, x, TC, dx, _, _, rfl, hx, T.clT, T.nT_amount, rfl, _, rfl, x, TC, dx, _, _, rfl, hx, T.clT, T.nT_least, rfl, _, _, rfl, rfl, ?_⟩
    have e : ((t.amount : Int) - (t.least : Int)) = (Vbchad.room t : Int) := by
      unfold Vbchad.room
      omega
    show Q (.int ((t.amount : Int) - (t.least : Int))) H
    rw [e]
    exact q
/-! ## House: looking -/
def spHInit (HC : Addr) : Sp := fun vs H Q _ => ∃ (x dx : Addr), vs = [.ref x] ∧ H x = some (.ins HC dx []) ∧ ∀ b, H b = none → Q .non (upd (upd H b (.dK [])) x (.ins HC dx (houF b .non)))
theorem c_House_init (T : Tc K mg TC HC) (D : MakeAt K mg "House" HC "House.__init__" s_House_init ["self"]) : Mak P w K mg base 1 "House" HC (spHInit HC) := by
  refine mak_of D sc_House_init (fun vs H Q E h => ?_) (fun f cdv A outer s H vs Q E hr h => ?_)
  · obtain ⟨x, dx, rfl, _⟩ := h
    rfl
  · obtain ⟨x, dx, rfl, hx, q⟩ := h
    refine ⟨_, (pss_cons (ps_fld (pv 0) pe_dnewK rfl)
      (pss_one (ps_fld (pv 0) pe_non rfl))), ?_⟩
    intro b nb
    refine ⟨_, rfl, x, HC, dx, _, rfl, same_upd nb _ _ hx, T.clH, T.nH_book, by decide, ?_⟩
    refine ⟨_, rfl, x, HC, dx, _, rfl, upd_same, T.clH, T.nH_kept, (by show (1 : Nat) < 1000; decide), ?_⟩
    rw [up2]
    exact q b nb
def spHas (TC HC : Addr) : Sp := fun vs H Q _ => ∃ (h : Addr) (s : List Trd) (k : Nat), vs = [.ref h, .int k] ∧ HsAt TC HC H h s ∧ ∀ r : Bool, (r = true ↔ ∃ t, t ∈ s ∧ t.key = k) → Q (.bl r) H
theorem c_has (T : Tc K mg TC HC) (D : MethAt K HC "has" "House.has" s_has ["self", "key"]) : Met P w K mg base 1 HC "has" (spHas TC HC) := by
  refine met_of T.clH D sc_has (fun vs H Q E h => ?_) (fun f cdv A outer s H vs Q E hr h => ?_)
  · obtain ⟨x, t, k, rfl, _⟩ := h
    rfl
  · obtain ⟨h, s, k, rfl, ⟨dx, b, kv, ks, ad, a⟩, q⟩ := h
    refine ⟨_, (pss_one (ps_ret (pe_cmp (pc_din (hu_of hr) (pv 1) (pe_fldK (K := K) rfl (pv 0) rfl)) rfl))), ?_⟩
    refine ⟨_, rfl, _, rfl, h, HC, dx, _, _, rfl, a.hou, T.clH, T.nH_book, rfl, b, _, rfl, dget_any a.book, q _ ?_⟩
    rw [← a.keys]
    by_cases c : k ∈ ks
    · rw [if_pos c]
      exact ⟨fun _ => c, fun _ => rfl⟩
    · rw [if_neg c]
      exact ⟨(fun z => (by cases z)), fun z => absurd z c⟩
def spEntry (TC HC : Addr) : Sp := fun vs H Q _ => ∃ (h : Addr) (s : List Trd) (t : Trd), vs = [.ref h, .int t.key] ∧ HsAt TC HC H h s ∧ t ∈ s ∧ ∀ x, TrAt TC H x t → Q (.ref x) H
theorem c_entry (T : Tc K mg TC HC) (D : MethAt K HC "entry" "House.entry" s_entry ["self", "key"]) : Met P w K mg base 1 HC "entry" (spEntry TC HC) := by
  refine met_of T.clH D sc_entry (fun vs H Q E h => ?_) (fun f cdv A outer s H vs Q E hr h => ?_)
  · obtain ⟨x, s, t, rfl, _⟩ := h
    rfl
  · obtain ⟨h, s, t, rfl, ⟨dx, b, kv, ks, ad, a⟩, ht, q⟩ := h
    refine ⟨_, (pss_one (ps_ret (pe_dget (hu_of hr) (pe_fldK (K := K) rfl (pv 0) rfl) (pv 1) (fun _ _ => rfl)))), ?_⟩
    exact ⟨_, rfl, h, HC, dx, _, _, rfl, a.hou, T.clH, T.nH_book, rfl, _, rfl, b, _, rfl, dget_in a.book ((a.keys _).mpr ⟨t, ht, rfl⟩), q _ (a.tr t ht)⟩
def keysL (s : List Trd) : List Nat := s.map (·.key)
def spOrder (TC HC : Addr) : Sp := fun vs H Q _ => ∃ (h : Addr) (s : List Trd), vs = [.ref h] ∧ HsAt TC HC H h s ∧ GoodS s ∧ ∀ p, H p = none → Q (.ref p) (upd H p (.lst (natL (keysL s))))
theorem c_order (T : Tc K mg TC HC) (D : MethAt K HC "order" "House.order" s_order ["self"]) : Met P w K mg base 1 HC "order" (spOrder TC HC) := by
  refine met_of T.clH D sc_order (fun vs H Q E h => ?_) (fun f cdv A outer s H vs Q E hr h => ?_)
  · obtain ⟨x, t, rfl, _⟩ := h
    rfl
  · obtain ⟨h, s, rfl, ⟨dx, b, kv, ks, ad, a⟩, good, q⟩ := h
    refine ⟨_, (pss_one (ps_ret (pe_callB (call_sortedDI rfl) (by rfl) T.m_sorted (by decide +kernel) (pa_cons (pe_fldK (K := K) rfl (pv 0) rfl) pa_nil)))), ?_⟩
    have hk := a.klen
    have hl := good.len
    refine ⟨_, rfl, h, HC, dx, _, _, rfl, a.hou, T.clH, T.nH_book, rfl, b, _, ks.map fun (m : Nat) => (m : Int), rfl, .of a.book, ?_, by rw [List.length_map]; omega, fun ys p hperm hup np => ?_⟩
    · unfold dkL
      rw [List.map_map, List.map_map]
      rfl
    · have hnd : (ks.map fun (m : Nat) => (m : Int)).Nodup := List.pairwise_map.mpr (a.nd.imp fun h e => h (by exact Int.ofNat.inj e))
      have hys : ys.Nodup := hperm.nodup_iff.mpr hnd
      have hlt : ys.Pairwise (· < ·) := by
        have := hup.and hys
        exact this.imp fun ⟨h1, h2⟩ => by omega
      have e := rise_nat (rising_of_lt good.keys) hlt fun k => by
        rw [hperm.mem_iff]
        constructor
        · intro hm
          obtain ⟨m, h1, h2⟩ := List.mem_map.mp hm
          obtain ⟨t, h3, h4⟩ := (a.keys m).mp h1
          exact ⟨m, List.mem_map.mpr ⟨t, h3, h4⟩, h2.symm⟩
        · rintro ⟨m, h1, rfl⟩
          obtain ⟨t, h3, h4⟩ := List.mem_map.mp h1
          exact List.mem_map.mpr ⟨m, (a.keys m).mpr ⟨t, h3, h4⟩, rfl⟩
      have q2 := q p np
      rw [natL_eq] at q2
      rw [e]
      exact q2
end
end Vb
end

section
/-! # clearing.py: what looks at all trades -/
namespace Vb
open PySem PySem.Spec PyProof.Rows L2 Nw LamX
theorem hou_none {b : Addr} {kv : V} {x : Str} (h1 : (x == "book") = false) (h2 : (x == "kept") = false) : (houF b kv).lookup x = none := by
  unfold houF
  rw [List.lookup_cons, h1, List.lookup_cons, h2]
  rfl
section
variable {P : Program} {w : World} {K : PySem.W.Frag} {mg : Str → Option Value} {base : Heap} {TC HC : Addr}
def spListed (TC HC : Addr) : Sp := fun vs H Q _ => ∃ (h : Addr) (s : List Trd), vs = [.ref h] ∧ HsAt TC HC H h s ∧ GoodS s ∧ ∀ H' p, Same H H' → H p = none → TrsAt TC H' p s → Q (.ref p) H'
theorem c_listed (T : Tc K mg TC HC) (D : MethAt K HC "listed" "House.listed" s_listed ["self"]) (c_order : Met P w K mg base 1 HC "order" (spOrder TC HC)) : Met P w K mg base 2 HC "listed" (spListed TC HC) := by
  refine met_of T.clH D sc_listed (fun vs H Q E h => ?_) (fun f cdv A outer s H vs Q E hr h => ?_)
  · obtain ⟨x, t, rfl, _⟩ := h
    rfl
  · obtain ⟨h, s, rfl, hs, good, q⟩ := h
    obtain ⟨dx, b, kv, ks, ad, a⟩ := id hs
    have hl := good.len
    refine ⟨_, (pss_one (ps_ret (pe_lc (own := [("key", 1)]) (g := gName 1) (tt := tYes) rfl sc_listed.nd (pi_list (pe_mt0 c_order hr (by decide) (pv 0))) (blkOk_by (own := [("key", 1)]) (N := ["self", "key"]) (sc := defScope s_listed) (by decide +kernel)) (fun _ _ _ _ _ => (pg_name (i := 1) sc_listed.nd rfl (.inl rfl))) (fun _ _ _ _ _ => pts_nil) (fun _ _ _ _ _ => (pe_dget (hu_of hr) (pe_fldK (K := K) rfl (pv 0) rfl) (pv 1) (fun _ _ => rfl)))))), ?_⟩
    refine ⟨_, rfl, h, dx, _, rfl, a.hou, rfl, h, s, rfl, hs, good, fun p np => ?_⟩
    refine ⟨p, rfl, ⟨_, SqL.of upd_same⟩, fun z nz => ?_⟩
    have s1 : Same H (upd H p (.lst (natL (keysL s)))) := same_upd np
    have nzp : z ≠ p := fun e => by
      rw [e, upd_same] at nz
      cases nz
    refine lc_list (K := K) (a := p) (xs := natL (keysL s)) (fun i H' => Same (upd H p (.lst (natL (keysL s)))) H' ∧ H' z = some (.lst ((s.take i).map fun t => V.ref (ad t.key)))) ⟨same_upd nz, upd_same⟩ (fun i H' _ h => SqL.of (h.1 _ _ upd_same)) ?_ ?_
    · rintro k x H' hx ⟨s5, hz⟩
      obtain ⟨m, hm, rfl⟩ := map_get hx
      unfold keysL at hm
      rw [List.getElem?_map] at hm
      obtain ⟨t, ht, em⟩ : ∃ t, s[k]? = some t ∧ t.key = m := by
        cases z : s[k]? with
        | none =>
          rw [z] at hm
          cases hm
        | some t =>
          rw [z] at hm
          exact ⟨t, rfl, Option.some.inj hm⟩
      subst em
      have htm : t ∈ s := List.mem_of_getElem? ht
      have a5 := (a.same s1).same s5
      refine ⟨rfl, _, rfl, h, HC, dx, _, _, rfl, a5.hou, T.clH, T.nH_book, rfl, _, rfl, b, _, rfl, dget_in a5.book ((a.keys _).mpr ⟨t, htm, rfl⟩), _, hz, sl ?_, fun c o e => ?_, ?_⟩
      · rw [List.length_map, List.length_take]
        omega
      · rw [upd_ne (ne_of_none e nz)]
        exact s5 _ _ e
      · rw [upd_same, take_more ht, List.map_append]
        rfl
    · rintro H' ⟨s5, hz⟩
      have hnl : (natL (keysL s)).length = s.length := by
        unfold natL keysL
        rw [List.length_map, List.length_map]
      rw [hnl, List.take_length] at hz
      have nz0 : H z = none := by
        rw [upd_ne nzp] at nz
        exact nz
      refine q H' z (s1.trans s5) nz0 ⟨_, hz, List.length_map _, fun i t ht => ⟨ad t.key, ?_, ((a.same s1).same s5).tr t (List.mem_of_getElem? ht)⟩⟩
      rw [List.getElem?_map, ht]
      rfl
def spRooms (TC HC : Addr) : Sp := fun vs H Q _ => ∃ (h : Addr) (s : List Trd), vs = [.ref h] ∧ HsAt TC HC H h s ∧ GoodS s ∧ ∀ H' p, Same H H' → H p = none → TradesAt H' p s → Q (.ref p) H'
theorem c_rooms (T : Tc K mg TC HC) (D : MethAt K HC "rooms" "House.rooms" s_rooms ["self"]) (c_listed : Met P w K mg base 2 HC "listed" (spListed TC HC)) (c_room : Met P w K mg base 1 TC "room" (spRoom TC)) : Met P w K mg base 3 HC "rooms" (spRooms TC HC) := by
  refine met_of T.clH D sc_rooms (fun vs H Q E h => ?_) (fun f cdv A outer s H vs Q E hr h => ?_)
  · obtain ⟨x, t, rfl, _⟩ := h
    rfl
  · obtain ⟨h, s, rfl, hs, good, q⟩ := h
    obtain ⟨dx, b, kv, ks, ad, a⟩ := id hs
    have hl := good.len
    refine ⟨_, (pss_one (ps_ret (pe_lc (own := [("trade", 1)]) (g := gName 1) (tt := tYes) rfl sc_rooms.nd (pi_list (pe_mt0 c_listed hr (by decide) (pv 0))) (blkOk_by (own := [("trade", 1)]) (N := ["self", "trade"]) (sc := defScope s_rooms) (by decide +kernel)) (fun _ _ _ _ _ => (pg_name (i := 1) sc_rooms.nd rfl (.inl rfl))) (fun _ _ _ _ _ => pts_nil) (fun _ _ _ _ _ => (pe_tup (pa_cons (pe_fldK (K := K) rfl (pv 1) rfl) (pa_cons (pe_fldK (K := K) rfl (pv 1) rfl) (pa_cons (pe_mt0 c_room hr (by decide) (pv 1)) pa_nil)))))))), ?_⟩
    refine ⟨_, rfl, h, dx, _, rfl, a.hou, rfl, h, s, rfl, hs, good, fun H1 p s1 np ⟨xs, hp, hxl, hxs⟩ => ?_⟩
    refine ⟨p, rfl, ⟨_, SqL.of hp⟩, fun z nz => ?_⟩
    refine lc_list (K := K) (a := p) (xs := xs) (fun i H' => Same H1 H' ∧ RowsAt H' z ((s.take i).map rowT)) ⟨same_upd nz, [], upd_same, RowsL.nil _⟩ (fun i H' _ h => SqL.of (h.1 _ _ hp)) ?_ ?_
    · rintro k x H' hx ⟨s5, ys, hz, hrows⟩
      obtain ⟨t, x, ht, rfl, htr⟩ := trs_at hxl hxs hx
      obtain ⟨dt, htr5⟩ := htr.same s5
      have htm : t ∈ s := List.mem_of_getElem? ht
      have hyl := hrows.len
      rw [List.length_map, List.length_take] at hyl
      refine ⟨rfl, _, rfl, x, TC, dt, _, _, rfl, htr5, T.clT, T.nT_giver, rfl, _, rfl, x, TC, dt, _, _, rfl, htr5, T.clT, T.nT_to, rfl, _, rfl, x, dt, _, rfl, htr5, rfl, x, t, rfl, ⟨dt, htr5⟩, good.le t htm, (by show 3 ≤ sizeLine; decide), fun pt npt => ?_⟩
      have nzt : pt ≠ z := fun e => by
        rw [e, hz] at npt
        cases npt
      refine ⟨ys, ?_, sl (by omega), fun c o e => ?_, ?_⟩
      · rw [upd_ne (Ne.symm nzt)]
        exact hz
      · rw [upd_ne (ne_of_none e nz), upd_ne (ne_of_none (s5 _ _ e) npt)]
        exact s5 _ _ e
      · refine ⟨_, upd_same, ?_⟩
        rw [take_more ht, List.map_append]
        refine RowsL.snoc ⟨hrows.len, fun i row hi => ?_⟩ ⟨pt, rfl, ?_⟩
        · obtain ⟨v, a1, p1, rfl, a2⟩ := hrows.get i row hi
          refine ⟨_, a1, p1, rfl, ?_⟩
          rw [upd_ne (ne_of a2 hz (by intro z; cases z)), upd_ne (ne_of_none a2 npt)]
          exact a2
        · rw [upd_ne nzt, upd_same]
          rfl
    · rintro H' ⟨s5, hz⟩
      rw [hxl, List.take_length] at hz
      exact q H' z (s1.trans s5) (s1.free nz) hz
def spMems (TC HC : Addr) : Sp := fun vs H Q _ => ∃ (h : Addr) (s : List Trd), vs = [.ref h] ∧ HsAt TC HC H h s ∧ GoodS s ∧ ∀ H' p, Same H H' → H p = none → H' p = some (.lst (natL (Vbchad.membersOf s))) → Q (.ref p) H'
theorem c_members (T : Tc K mg TC HC) (D : MethAt K HC "members" "House.members" s_members ["self"]) (c_rooms : Met P w K mg base 3 HC "rooms" (spRooms TC HC)) (c_members_of : Cal P w K mg base 1 "members_of" spMembers) : Met P w K mg base 4 HC "members" (spMems TC HC) := by
  refine met_of T.clH D sc_members (fun vs H Q E h => ?_) (fun f cdv A outer s H vs Q E hr h => ?_)
  · obtain ⟨x, t, rfl, _⟩ := h
    rfl
  · obtain ⟨h, s, rfl, hs, good, q⟩ := h
    obtain ⟨dx, b, kv, ks, ad, a⟩ := id hs
    have hl := good.len
    have hm := good.mem
    refine ⟨_, (pss_one (ps_ret (pe_c c_members_of hr (by decide) rfl (pa_cons (pe_mt0 c_rooms hr (by decide) (pv 0)) pa_nil)))), ?_⟩
    refine ⟨_, rfl, h, dx, _, rfl, a.hou, rfl, h, s, rfl, hs, good, fun H1 p s1 np hT => ?_⟩
    exact ⟨p, s, rfl, hT, by omega, by omega, fun H2 p2 s2 np2 hp2 => q H2 p2 (s1.trans s2) (s1.free np2) hp2⟩
def spAllows (TC HC : Addr) (K : PySem.W.Frag) : Sp := fun vs H Q _ => ∃ (h b : Addr) (s : List Trd) (ns : List Int), vs = [.ref h, .ref b] ∧ HsAt TC HC H h s ∧ GoodS s ∧ SqL K H b (ns.map V.int) ∧ ns.length = s.length ∧ ∀ H' r, Same H H' → (r = true ↔ Red (netOf s) (gl ns)) → Q (.bl r) H'
theorem c_allows (T : Tc K mg TC HC) (D : MethAt K HC "allows" "House.allows" s_allows ["self", "numbers"]) (c_rooms : Met P w K mg base 3 HC "rooms" (spRooms TC HC)) (c_is_reduction : Cal P w K mg base 2 "is_reduction" (spRed K)) : Met P w K mg base 4 HC "allows" (spAllows TC HC K) := by
  refine met_of T.clH D sc_allows (fun vs H Q E h => ?_) (fun f cdv A outer s H vs Q E hr h => ?_)
  · obtain ⟨x, t, _, _, rfl, _⟩ := h
    rfl
  · obtain ⟨h, bb, s, ns, rfl, hs, good, hN, hlen, q⟩ := h
    obtain ⟨dx, b, kv, ks, ad, a⟩ := id hs
    refine ⟨_, (pss_one (ps_ret (pe_c c_is_reduction hr (by decide) rfl (pa_cons (pe_mt0 c_rooms hr (by decide) (pv 0)) (pa_cons (pv 1) pa_nil))))), ?_⟩
    refine ⟨_, rfl, h, dx, _, rfl, a.hou, rfl, h, s, rfl, hs, good, fun H1 p s1 np hT => ?_⟩
    exact ⟨_, rfl, p, bb, s, ns, rfl, hT, s1.seq hN, hlen, good.goodT, fun H2 r s2 hr => q H2 r (s1.trans s2) hr⟩
def sumBet (s : List Trd) (x y : Nat) : Nat := Vbchad.sum ((s.filter fun t => t.from_ == x && t.to == y).map Vbchad.room)
def spBet (TC HC : Addr) : Sp := fun vs H Q _ => ∃ (h : Addr) (s : List Trd) (x y : Nat), vs = [.ref h, .int x, .int y] ∧ HsAt TC HC H h s ∧ GoodS s ∧ ∀ H', Same H H' → Q (.int (sumBet s x y : Int)) H'
theorem sum_int : ∀ l : List Nat, (l.map fun (n : Nat) => (n : Int)).sum = (Vbchad.sum l : Int)
  | [] => rfl
  | a :: l => by
    have e : Vbchad.sum (a :: l) = a + Vbchad.sum l := rfl
    rw [List.map_cons, List.sum_cons, sum_int l, e, Int.natCast_add]
theorem c_room_between (T : Tc K mg TC HC) (D : MethAt K HC "room_between" "House.room_between" s_room_between ["self", "giver", "to"]) (c_listed : Met P w K mg base 2 HC "listed" (spListed TC HC)) (c_room : Met P w K mg base 1 TC "room" (spRoom TC)) :
    Met P w K mg base 3 HC "room_between" (spBet TC HC) := by
  refine met_of T.clH D sc_room_between (fun vs H Q E h => ?_) (fun f cdv A outer s H vs Q E hr h => ?_)
  · obtain ⟨x, t, _, _, rfl, _⟩ := h
    rfl
  · obtain ⟨h, s, i, j, rfl, hs, good, q⟩ := h
    obtain ⟨dx, b, kv, ks, ad, a⟩ := id hs
    have hl := good.len
    refine ⟨_, (pss_one (ps_ret (pe_callB (cr_sum rfl) (by rfl) T.m_sum (by decide +kernel) (pa_cons (pe_lc (own := [("trade", 3)]) (g := gName 3) rfl sc_room_between.nd (pi_list (pe_mt0 c_listed hr (by decide) (pv 0))) (blkOk_by (own := [("trade", 3)]) (N := ["self", "giver", "to", "trade"]) (sc := defScope s_room_between) (by decide +kernel)) (fun _ _ _ _ _ => (pg_name (i := 3) sc_room_between.nd rfl (.inl rfl))) (fun _ _ _ _ _ => (pts_one (PW.pt (pw_and (pt_cmpR op_eq (pe_fldK (K := K) rfl (pv 3) rfl) (pv 1) (nomark _)) (pw_and1 (pt_cmpR op_eq (pe_fldK (K := K) rfl (pv 3) rfl) (pv 2) (nomark _))))))) (fun _ _ _ _ _ => (pe_mt0 c_room hr (by decide) (pv 3)))) pa_nil)))), ?_⟩
    refine ⟨_, rfl, h, dx, _, rfl, a.hou, rfl, h, s, rfl, hs, good, fun H1 p s1 np ⟨xs, hp, hxl, hxs⟩ => ?_⟩
    refine ⟨p, rfl, ⟨_, SqL.of hp⟩, fun z nz => ?_⟩
    obtain ⟨c, ec⟩ : ∃ c : Trd → Bool, c = fun t => t.from_ == i && t.to == j := ⟨_, rfl⟩
    refine lc_list (K := K) (a := p) (xs := xs) (fun k H' => Same H1 H' ∧ H' z = some (.lst (((((s.take k).filter c).map Vbchad.room).map fun (n : Nat) => (n : Int)).map V.int))) ⟨same_upd nz, upd_same⟩ (fun i H' _ h => SqL.of (h.1 _ _ hp)) ?_ ?_
    · rintro k x H' hx ⟨s5, hz⟩
      obtain ⟨t, x, ht, rfl, htr⟩ := trs_at hxl hxs hx
      obtain ⟨dt, htr5⟩ := htr.same s5
      have htm : t ∈ s := List.mem_of_getElem? ht
      have no : c t = false → (s.take (k + 1)).filter c = (s.take k).filter c := fun h => by
        rw [take_more ht, List.filter_append, List.filter_cons_of_neg (by rw [h]; exact Bool.false_ne_true), List.filter_nil, List.append_nil]
      refine ⟨rfl, _, rfl, x, TC, dt, _, _, rfl, htr5, T.clT, T.nT_giver, rfl, _, rfl, rfl, _, rfl, ite2 (fun cc => ?_) (fun cc => ?_)⟩
      · refine ⟨_, rfl, x, TC, dt, _, _, rfl, htr5, T.clT, T.nT_to, rfl, _, rfl, rfl, _, rfl, ite2 (fun c2 => ?_) (fun c2 => ?_)⟩
        · have h1 : t.from_ = i := Int.ofNat.inj (V.int.inj (of_decide_eq_true cc))
          have h2 : t.to = j := Int.ofNat.inj (V.int.inj (of_decide_eq_true c2))
          have hc : c t = true := by
            rw [ec]
            simp [h1, h2]
          refine ⟨_, rfl, x, dt, _, rfl, htr5, rfl, x, t, rfl, ⟨dt, htr5⟩, good.le t htm, _, hz, sl ?_, fun c o e => ?_, ?_⟩
          · rw [List.length_map, List.length_map, List.length_map]
            have h3 := List.length_filter_le c (s.take k)
            rw [List.length_take] at h3
            omega
          · rw [upd_ne (ne_of_none e nz)]
            exact s5 _ _ e
          · rw [upd_same, take_more ht, List.filter_append, List.filter_cons_of_pos hc, List.filter_nil, List.map_append, List.map_append, List.map_append]
            rfl
        · refine ⟨s5, ?_⟩
          rw [no ?_]
          · exact hz
          · rw [ec]
            have : t.to ≠ j := fun e => c2 (decide_eq_true (congrArg (fun (n : Nat) => V.int (n : Int)) e))
            simp [this]
      · refine ⟨s5, ?_⟩
        rw [no ?_]
        · exact hz
        · rw [ec]
          have : t.from_ ≠ i := fun e => cc (decide_eq_true (congrArg (fun (n : Nat) => V.int (n : Int)) e))
          simp [this]
    · rintro H' ⟨s5, hz⟩
      rw [hxl, List.take_length] at hz
      refine ⟨z, _, rfl, SqL.of hz, ?_⟩
      have q2 := q H' (s1.trans s5)
      unfold sumBet at q2
      rw [← sum_int, ← ec] at q2
      exact q2
def spCanc (TC HC : Addr) : Sp := fun vs H Q _ => ∃ (h : Addr) (s : List Trd) (x y : Nat), vs = [.ref h, .int x, .int y] ∧ HsAt TC HC H h s ∧ GoodS s ∧ ∀ H', Same H H' → Q (.int (Vbchad.pairRoom s x y : Int)) H'
theorem c_cancelled_between (T : Tc K mg TC HC) (D : MethAt K HC "cancelled_between" "House.cancelled_between" s_cancelled_between ["self", "one", "other"]) (c_room_between : Met P w K mg base 3 HC "room_between" (spBet TC HC)) : Met P w K mg base 4 HC "cancelled_between" (spCanc TC HC) := by
  refine met_of T.clH D sc_cancelled_between (fun vs H Q E h => ?_) (fun f cdv A outer s H vs Q E hr h => ?_)
  · obtain ⟨x, t, _, _, rfl, _⟩ := h
    rfl
  · obtain ⟨h, s, i, j, rfl, hs, good, q⟩ := h
    obtain ⟨dx, b, kv, ks, ad, a⟩ := id hs
    refine ⟨_, (pss_one (ps_ret (pe_op op_mul pe_int (pe_callB (call_min2 rfl) (by rfl) T.m_min (by decide +kernel) (pa_cons (pe_mt c_room_between hr (by decide) (pv 0) (pa_cons (pv 1) (pa_cons (pv 2) pa_nil))) (pa_cons (pe_mt c_room_between hr (by decide) (pv 0) (pa_cons (pv 2) (pa_cons (pv 1) pa_nil))) pa_nil)))))), ?_⟩
    refine ⟨_, rfl, h, dx, _, rfl, a.hou, rfl, _, rfl, _, rfl, h, s, i, j, rfl, hs, good, fun H1 s1 => ?_⟩
    have hs1 := hs.same s1
    have a1 := a.same s1
    refine ⟨_, rfl, h, dx, _, rfl, a1.hou, rfl, _, rfl, _, rfl, h, s, j, i, rfl, hs1, good, fun H2 s2 => ?_⟩
    refine ⟨_, _, rfl, ?_⟩
    refine ⟨_, _, rfl, rfl, .inl ⟨by decide, by decide⟩, ?_⟩
    have e : (2 : Int) * (if (sumBet s j i : Int) < (sumBet s i j : Int) then (sumBet s j i : Int) else (sumBet s i j : Int)) = (Vbchad.pairRoom s i j : Int) := by
      have e1 : Vbchad.pairRoom s i j = 2 * min (sumBet s i j) (sumBet s j i) := rfl
      rw [e1]
      split <;> omega
    have q2 := q H2 (s1.trans s2)
    rw [← e] at q2
    exact q2
end
end Vb
end

section
/-! # clearing.py: what is kept, potentials, bounds, totals -/
namespace Vb
open PySem PySem.Spec PyProof.Rows L2 Nw LamX
/-! ## Frames -/
def KpM : HO → Prop
  | .ins _ _ _ => False
  | .dK _ => False
  | _ => True
def Kp : HO → Prop
  | .ins _ _ _ => False
  | .dK _ => False
  | .tbl _ => False
  | _ => True
/-- all but objects and dicts stay -/
def FrM (H H' : Hp) : Prop := ∀ c o, KpM o → H c = some o → H' c = some o
/-- all but objects, dicts and tables stay -/
def Fr (H H' : Hp) : Prop := ∀ c o, Kp o → H c = some o → H' c = some o
theorem Kp.m {o : HO} (h : Kp o) : KpM o := by
  cases o <;> first | exact h | exact trivial
theorem Kp.tb {o : HO} (h : Kp o) : ∀ ps, o ≠ .tbl ps := fun ps e => by
  rw [e] at h
  exact h
theorem flat_kp {o : HO} (h : Flat o) : Kp o := by
  cases o <;> first | exact h | exact trivial
theorem FrM.fr {H H' : Hp} (a : FrM H H') : Fr H H' := fun c o k h => a c o k.m h
theorem Same.frm {H H' : Hp} (a : Same H H') : FrM H H' := fun c o _ h => a c o h
theorem Same.fr {H H' : Hp} (a : Same H H') : Fr H H' := fun c o _ h => a c o h
theorem ext_fr {H H' : Hp} (a : ExtN H H') : Fr H H' := fun c o k h => a c o h k.tb
theorem FrM.trans {H H1 H2 : Hp} (a : FrM H H1) (b : FrM H1 H2) : FrM H H2 := fun c o k h => b c o k (a c o k h)
theorem Fr.trans {H H1 H2 : Hp} (a : Fr H H1) (b : Fr H1 H2) : Fr H H2 := fun c o k h => b c o k (a c o k h)
theorem Fr.refl (H : Hp) : Fr H H := fun _ _ _ h => h
theorem FrM.refl (H : Hp) : FrM H H := fun _ _ _ h => h
theorem FrM.upd {H H1 : Hp} {x : Addr} {o : HO} (a : FrM H H1) (n : ∀ q, H1 x = some q → ¬ KpM q) : FrM H (upd H1 x o) := fun c q k h => by
  have h1 := a c q k h
  rw [upd_ne fun e => n q (by rw [← e]; exact h1) k]
  exact h1
theorem Fr.upd {H H1 : Hp} {x : Addr} {o : HO} (a : Fr H H1) (n : ∀ q, H1 x = some q → ¬ Kp q) : Fr H (L2.upd H1 x o) := fun c q k h => by
  have h1 := a c q k h
  rw [upd_ne fun e => n q (by rw [← e]; exact h1) k]
  exact h1
theorem FrM.tt {Pt : Addr} {H H' : Hp} (t : TT Pt H) (a : FrM H H') : TT Pt H' := fun p hp => by
  obtain ⟨ps, h1, h2, h3⟩ := t p hp
  refine ⟨ps, a _ _ trivial h1, h2, fun pos cv hc => ?_⟩
  obtain ⟨c, e1, e2⟩ := h3 pos cv hc
  exact ⟨c, e1, a _ _ trivial e2⟩
theorem RowsAt.fr {H H' : Hp} {a : Addr} {rows : List (List Int)} (h : RowsAt H a rows) (e : Fr H H') : RowsAt H' a rows := h.mono fun b o f q => e b o (flat_kp f) q
/-! ## What is not kept -/
def NotKept (H : Hp) (h z : Addr) : Prop := ∃ C dx b kv, H h = some (.ins C dx (houF b kv)) ∧ kv ≠ V.ref z
/-- all but objects, dicts and tables stay; a list that isn't the one that's kept never becomes it -/
structure FrK (h : Addr) (H H' : Hp) : Prop where
  fr : Fr H H'
  nk : ∀ z xs, H z = some (.lst xs) → NotKept H h z → NotKept H' h z
theorem FrK.refl (h : Addr) (H : Hp) : FrK h H H := ⟨Fr.refl H, fun _ _ _ n => n⟩
theorem FrK.trans {h : Addr} {H H1 H2 : Hp} (a : FrK h H H1) (b : FrK h H1 H2) : FrK h H H2 := ⟨a.fr.trans b.fr, fun z xs hz n => b.nk z xs (a.fr _ _ trivial hz) (a.nk z xs hz n)⟩
theorem Same.frk {h : Addr} {H H' : Hp} (a : Same H H') : FrK h H H' := ⟨Same.fr a, fun _ _ _ ⟨C, dx, b, kv, e, n⟩ => ⟨C, dx, b, kv, a _ _ e, n⟩⟩
theorem ext_frk {h : Addr} {H H' : Hp} (a : ExtN H H') : FrK h H H' := ⟨ext_fr a, fun _ _ _ ⟨C, dx, b, kv, e, n⟩ => ⟨C, dx, b, kv, a _ _ e (fun _ z => by cases z), n⟩⟩
theorem FrK.non {h : Addr} {H H' : Hp} {C dx b : Addr} (a : Fr H H') (e : H' h = some (.ins C dx (houF b .non))) : FrK h H H' := ⟨a, fun _ _ _ _ => ⟨C, dx, b, .non, e, fun z => by cases z⟩⟩
theorem no_kp {H : Hp} {z : Addr} (n : H z = none) : ∀ o, Kp o → H z ≠ some o := fun o _ e => by
  rw [n] at e
  cases e
theorem FrK.but {h z : Addr} {H H1 H' : Hp} {ys : List V} (a : FrK h H H1) (n : ∀ o, Kp o → H z ≠ some o) (hz : H1 z = some (.lst ys)) (e : But z H1 H') : FrK h H H' :=
  ⟨fun c o k hc => e _ _ (a.fr _ _ k hc) (fun z => n o k (by rw [← z]; exact hc)), fun y xs hy nk => by
    obtain ⟨C, dx, b, kv, e1, e2⟩ := a.nk y xs hy nk
    exact ⟨C, dx, b, kv, e _ _ e1 (ne_of e1 hz (by intro z; cases z)), e2⟩⟩
/-! ## The house without what is kept -/
structure HouseW (TC HC : Addr) (H : Hp) (h : Addr) (s : List Trd) (dx b : Addr) (kv : V) (ks : List Nat) (ad : Nat → Addr) : Prop where
  hou : H h = some (.ins HC dx (houF b kv))
  book : H b = some (.dK (dkL ks fun m => .ref (ad m)))
  keys : ∀ m, m ∈ ks ↔ ∃ t, t ∈ s ∧ t.key = m
  nd : ks.Nodup
  tr : ∀ t, t ∈ s → TrAt TC H (ad t.key) t
  inj : ∀ t u, t ∈ s → u ∈ s → ad t.key = ad u.key → t.key = u.key
section
variable {TC HC : Addr} {H H' : Hp} {h : Addr} {s : List Trd} {dx b : Addr} {kv : V} {ks : List Nat} {ad : Nat → Addr}
theorem HouseAt.w (a : HouseAt TC HC H h s dx b kv ks ad) : HouseW TC HC H h s dx b kv ks ad := ⟨a.hou, a.book, a.keys, a.nd, a.tr, a.inj⟩
theorem HouseW.at (a : HouseW TC HC H h s dx b kv ks ad) (k : kv = .non ∨ ∃ p, kv = .ref p ∧ H p = some (.lst (natL (Vbchad.told s)))) : HouseAt TC HC H h s dx b kv ks ad := ⟨a.hou, a.book, a.keys, a.nd, a.tr, a.inj, k⟩
theorem HouseW.same (a : HouseW TC HC H h s dx b kv ks ad) (e : Same H H') : HouseW TC HC H' h s dx b kv ks ad :=
  ⟨e _ _ a.hou, e _ _ a.book, a.keys, a.nd, fun t ht => (a.tr t ht).same e, a.inj⟩
theorem HouseAt.extN (a : HouseAt TC HC H h s dx b kv ks ad) (e : ExtN H H') : HouseAt TC HC H' h s dx b kv ks ad :=
  ⟨e _ _ a.hou (fun _ z => by cases z), e _ _ a.book (fun _ z => by cases z), a.keys, a.nd, fun t ht => let ⟨d, x⟩ := a.tr t ht; ⟨d, e _ _ x (fun _ z => by cases z)⟩, a.inj, a.kept.imp id fun ⟨p, h1, h2⟩ => ⟨p, h1, e _ _ h2 (fun _ z => by cases z)⟩⟩
theorem HsAt.extN (a : HsAt TC HC H h s) (e : ExtN H H') : HsAt TC HC H' h s := by
  obtain ⟨dx, b, kv, ks, ad, x⟩ := a
  exact ⟨dx, b, kv, ks, ad, x.extN e⟩
theorem HsAt.fresh {z : Addr} {o : HO} (a : HsAt TC HC H h s) (n : H z = none) : NotKept (upd H z o) h z := by
  obtain ⟨dx, b, kv, ks, ad, x⟩ := a
  refine ⟨HC, dx, b, kv, same_upd n _ _ x.hou, fun e => ?_⟩
  rcases x.kept with z | ⟨p, z, hp⟩
  · rw [z] at e
    cases e
  · rw [z] at e
    rw [V.ref.inj e, n] at hp
    cases hp
theorem HsAt.but {z : Addr} {ys : List V} (a : HsAt TC HC H h s) (nk : NotKept H h z) (hz : H z = some (.lst ys)) (e : But z H H') : HsAt TC HC H' h s := by
  obtain ⟨dx, b, kv, ks, ad, x⟩ := a
  obtain ⟨C, d2, b2, kv2, e1, e2⟩ := nk
  have hkv : kv = kv2 := by
    have h1 := x.hou.symm.trans e1
    have h2 := Option.some.inj h1
    injection h2 with _ _ h3
    exact congrArg Prod.snd (List.cons.inj (List.cons.inj h3).2).1
  subst hkv
  refine ⟨dx, b, kv, ks, ad, e _ _ x.hou (ne_of x.hou hz (by intro z; cases z)), e _ _ x.book (ne_of x.book hz (by intro z; cases z)), x.keys, x.nd, fun t ht => ?_, x.inj, x.kept.imp id fun ⟨p, h1, h2⟩ => ⟨p, h1, e _ _ h2 fun z => e2 (by rw [h1, z])⟩⟩
  obtain ⟨d, q⟩ := x.tr t ht
  exact ⟨d, e _ _ q (ne_of q hz (by intro z; cases z))⟩
theorem tr_ne (hx : ∃ t, TrAt TC H dx t) (hh : H h = some (.ins HC b (houF b kv))) : True := trivial
theorem hou_ne {x d1 d2 b2 : Addr} {t : Trd} (h1 : TrAt TC H x t) (h2 : H h = some (.ins HC d2 (houF b2 kv))) : x ≠ h := by
  obtain ⟨d, h1⟩ := h1
  refine ne_of h1 h2 fun z => ?_
  injection z with z1 z2 z3
  have := congrArg List.length z3
  simp [trF, houF] at this
/-- another thing kept -/
theorem HouseW.setKept (a : HouseW TC HC H h s dx b kv ks ad) (v : V) : HouseW TC HC (upd H h (.ins HC dx (houF b v))) h s dx b v ks ad := by
  refine ⟨upd_same, ?_, a.keys, a.nd, fun t ht => ?_, a.inj⟩
  · rw [upd_ne (ne_of a.book a.hou (by intro z; cases z))]
    exact a.book
  · obtain ⟨d, q⟩ := a.tr t ht
    have := hou_ne (d1 := dx) ⟨d, q⟩ a.hou
    exact ⟨d, by rw [upd_ne this]; exact q⟩
end
theorem put_kept (b : Addr) (kv v : V) : putF "kept" v (houF b kv) = houF b v := rfl
section
variable {P : Program} {w : World} {K : PySem.W.Frag} {mg : Str → Option Value} {base : Heap} {TC HC Pt : Addr}
/-! ## reduction -/
def spReduc (TC HC Pt : Addr) : Sp := fun vs H Q _ => ∃ (h : Addr) (s : List Trd), vs = [.ref h] ∧ HsAt TC HC H h s ∧ GoodS s ∧ TT Pt H ∧ ∀ H' l, FrK h H H' → TT Pt H' → HsAt TC HC H' h s → (∀ xs, H l ≠ some (.lst xs)) → H' l = some (.lst (natL (Vbchad.told s))) → Q (.ref l) H'
theorem c_reduction (T : Tc K mg TC HC) (D : MethAt K HC "reduction" "House.reduction" s_reduction ["self"]) (c_told_reduction : Cal P w K mg base 5 "told_reduction" (spTold Pt)) (c_rooms : Met P w K mg base 3 HC "rooms" (spRooms TC HC)) :
    Met P w K mg base 6 HC "reduction" (spReduc TC HC Pt) := by
  refine met_of T.clH D sc_reduction (fun vs H Q E h => ?_) (fun f cdv A outer s H vs Q E hr h => ?_)
  · obtain ⟨x, t, rfl, _⟩ := h
    rfl
  · obtain ⟨h, s, rfl, hs, good, tab, q⟩ := h
    obtain ⟨dx, b, kv, ks, ad, a⟩ := id hs
    refine ⟨_, (pss_cut (ps_if (pt_cmpR op_isN (pe_fldK (K := K) rfl (pv 0) rfl) pe_non (nomark _)) (pss_one (ps_fld (pv 0) (pe_c c_told_reduction hr (by decide) rfl (pa_cons (pe_mt0 c_rooms hr (by decide) (pv 0)) pa_nil)) rfl)) pss_nil)
      (pss_one (ps_ret (pe_callTy call_list_of (by rfl) T.m_list (by decide +kernel) (pa_cons (pe_fldK (K := K) rfl (pv 0) rfl) pa_nil))))), ?_⟩
    refine ⟨fun σ' H' => σ' = [some (.ref h)] ∧ FrK h H H' ∧ TT Pt H' ∧ ∃ p, HouseW TC HC H' h s dx b (.ref p) ks ad ∧ H' p = some (.lst (natL (Vbchad.told s))), ?_, ?_⟩
    · refine ⟨_, rfl, h, HC, dx, _, _, rfl, a.hou, T.clH, T.nH_kept, rfl, rfl, _, rfl, ite2 (fun cc => ?_) (fun cc => ?_)⟩
      · refine ⟨_, rfl, h, dx, _, rfl, a.hou, rfl, h, s, rfl, hs, good, fun H1 p s1 np hT => ?_⟩
        refine ⟨p, s, rfl, hT, good.goodT, tab.ext s1, fun H2 q2 e2 tab2 nq2 hq2 => ?_⟩
        have a2 := (a.same s1).extN e2
        refine ⟨_, rfl, h, HC, dx, _, rfl, a2.hou, T.clH, T.nH_kept, (by show (2 : Nat) < 1000; decide), ?_⟩
        rw [put_kept]
        have nqh : q2 ≠ h := fun e => by
          rw [e, s1 _ _ a.hou] at nq2
          cases nq2
        have fr2 : Fr H (upd H2 h (.ins HC dx (houF b (.ref q2)))) := Fr.upd ((Same.fr s1).trans (ext_fr e2)) (fun o e k => by
          rw [a2.hou] at e
          rw [← Option.some.inj e] at k
          exact k)
        refine ⟨rfl, ⟨fr2, fun z xs hz _ => ⟨HC, dx, b, .ref q2, upd_same, fun e => by
          have e2 : q2 = z := V.ref.inj e
          subst e2
          rw [s1 _ _ hz] at nq2
          cases nq2⟩⟩, ?_, q2, a2.w.setKept _, ?_⟩
        · exact tabs_but tab2 a2.hou (fun _ z => by cases z) (fun _ z => by cases z) (But.upd (But.refl h H2))
        · rw [upd_ne nqh]
          exact hq2
      · have hk := a.kept
        rcases hk with hk | ⟨p, hk, hp⟩
        · subst hk
          exact absurd rfl cc
        · subst hk
          exact ⟨rfl, FrK.refl h H, tab, p, a.w, hp⟩
    · rintro σ' H' ⟨rfl, fr1, tab1, p, a1, hp⟩
      refine ⟨_, rfl, h, HC, dx, _, _, rfl, a1.hou, T.clH, T.nH_kept, rfl, p, _, rfl, .inl (SqL.of hp), fun l nl => ?_⟩
      have s2 := same_upd (o := .lst (natL (Vbchad.told s))) nl
      exact q _ l (fr1.trans (Same.frk s2)) (tab1.ext s2) ⟨dx, b, _, ks, ad, (a1.same s2).at (.inr ⟨p, rfl, s2 _ _ hp⟩)⟩ (fun xs e => by rw [fr1.fr l (.lst xs) trivial e] at nl; cases nl) upd_same
end
end Vb
end

section
/-! # clearing.py: potentials, worth, bound, greatest_with, takes_in -/
namespace Vb
open PySem PySem.Spec PyProof.Rows L2 Nw LamX
theorem pot_cons (a : Nat) (ms : List Nat) (p : Int) (ps : List Int) (m : Nat) : Vbchad.potentialOf (a :: ms) (p :: ps) m = if a = m then p else Vbchad.potentialOf ms ps m := by
  unfold Vbchad.potentialOf
  rw [List.zip_cons_cons, List.find?_cons]
  by_cases c : a = m
  · rw [if_pos c, show ((a, p).1 == m) = true by simp [c]]
  · rw [if_neg c, show ((a, p).1 == m) = false by simp [c]]
theorem pot_map : ∀ {ms : List Nat} {ps : List Int}, ms.Nodup → ps.length = ms.length → ps = ms.map (Vbchad.potentialOf ms ps)
  | [], [], _, _ => rfl
  | [], _ :: _, _, h => by cases h
  | a :: ms, [], _, h => by cases h
  | a :: ms, p :: ps, nd, h => by
    have n1 := List.nodup_cons.mp nd
    have ih := pot_map n1.2 (by simpa using h)
    rw [List.map_cons, pot_cons, if_pos rfl]
    congr 1
    refine ih.trans (List.map_congr_left fun m hm => ?_)
    rw [pot_cons, if_neg fun e => n1.1 (by rw [e]; exact hm)]
theorem zip_dk {ms : List Nat} {ps : List Int} (nd : ms.Nodup) (h : ps.length = ms.length) : ((ms.map fun (m : Nat) => (m : Int)).map Sum.inl).zip (ps.map V.int) = dkL ms fun m => .int (Vbchad.potentialOf ms ps m) := by
  obtain ⟨g, eg⟩ : ∃ g, g = Vbchad.potentialOf ms ps := ⟨_, rfl⟩
  have e : ps = ms.map g := by
    rw [eg]
    exact pot_map nd h
  rw [← eg, e]
  clear e eg h nd ps
  induction ms with
  | nil => rfl
  | cons a ms ih =>
    rw [List.map_cons, List.map_cons, List.map_cons, List.map_cons, List.zip_cons_cons, ih]
    rfl
theorem bnd_eq (l : List Trd) (ps : List Int) : (l.map (bndT (Vbchad.potentialOf (Vbchad.membersOf l) ps))).sum = Vbchad.boundOf l ps := rfl
section
variable {P : Program} {w : World} {K : PySem.W.Frag} {mg : Str → Option Value} {base : Heap} {TC HC Pt : Addr}
def spPots (TC HC Pt : Addr) : Sp := fun vs H Q _ => ∃ (h : Addr) (s : List Trd), vs = [.ref h] ∧ HsAt TC HC H h s ∧ GoodS s ∧ TT Pt H ∧
  ∀ H' p ks, FrK h H H' → TT Pt H' → HsAt TC HC H' h s → H' p = some (.dK (dkL ks fun m => .int (toldPot s m))) → (∀ m, m ∈ ks ↔ m ∈ Vbchad.membersOf s) → Q (.ref p) H'
theorem c_potentials (T : Tc K mg TC HC) (D : MethAt K HC "potentials" "House.potentials" s_potentials ["self"]) (c_rooms : Met P w K mg base 3 HC "rooms" (spRooms TC HC)) (c_reduction : Met P w K mg base 6 HC "reduction" (spReduc TC HC Pt))
    (c_least_potentials : Cal P w K mg base 2 "least_potentials" spLeast) : Met P w K mg base 7 HC "potentials" (spPots TC HC Pt) := by
  refine met_of T.clH D sc_potentials (fun vs H Q E h => ?_) (fun f cdv A outer s H vs Q E hr h => ?_)
  · obtain ⟨x, t, rfl, _⟩ := h
    rfl
  · obtain ⟨h, s, rfl, hs, good, tab, q⟩ := h
    obtain ⟨dx, b, kv, ks, ad, a⟩ := id hs
    refine ⟨_, (pss_one (ps_ret (pe_c c_least_potentials hr (by decide) rfl (pa_cons (pe_mt0 c_rooms hr (by decide) (pv 0)) (pa_cons (pe_mt0 c_reduction hr (by decide) (pv 0)) pa_nil))))), ?_⟩
    refine ⟨_, rfl, h, dx, _, rfl, a.hou, rfl, h, s, rfl, hs, good, fun H1 p s1 np hT => ?_⟩
    refine ⟨_, rfl, h, dx, _, rfl, (a.same s1).hou, rfl, h, s, rfl, hs.same s1, good, tab.ext s1, fun H2 l fr2 tab2 hs2 _ hl2 => ?_⟩
    obtain ⟨t1, t2⟩ := told_lex s
    refine ⟨p, l, s, (Vbchad.told s).map fun (x : Nat) => (x : Int), rfl, RowsAt.fr hT fr2.fr, by rw [← natL_eq]; exact hl2, by rw [List.length_map]; exact t1, by rw [gl_fl]; exact t2.opt, good.goodT, fun H3 d ks s3 nd hd hks => ?_⟩
    exact q H3 d ks (((Same.frk s1).trans fr2).trans (Same.frk s3)) (tab2.ext s3) (hs2.same s3) hd hks
def spWorthM (TC HC Pt : Addr) : Sp := fun vs H Q _ => ∃ (h : Addr) (s : List Trd) (t : Trd), vs = [.ref h, .int t.key] ∧ HsAt TC HC H h s ∧ GoodS s ∧ TT Pt H ∧ t ∈ s ∧
  ∀ H', FrK h H H' → TT Pt H' → HsAt TC HC H' h s → Q (.int (Vbchad.worthOf (Vbchad.membersOf s) (Vbchad.potentials s) t)) H'
theorem c_worth (T : Tc K mg TC HC) (D : MethAt K HC "worth" "House.worth" s_worth ["self", "key"]) (c_potentials : Met P w K mg base 7 HC "potentials" (spPots TC HC Pt))
    (c_worth_of : Cal P w K mg base 1 "worth_of" spWorth) : Met P w K mg base 8 HC "worth" (spWorthM TC HC Pt) := by
  refine met_of T.clH D sc_worth (fun vs H Q E h => ?_) (fun f cdv A outer s H vs Q E hr h => ?_)
  · obtain ⟨x, t, _, rfl, _⟩ := h
    rfl
  · obtain ⟨h, s, t, rfl, hs, good, tab, ht, q⟩ := h
    obtain ⟨dx, b, kv, ks, ad, a⟩ := id hs
    refine ⟨_, (pss_cons (ps_set (i := 2) sc_worth.nd rfl (.inl rfl) (pe_dget (hu_of hr) (pe_fldK (K := K) rfl (pv 0) rfl) (pv 1) (fun _ _ => rfl)))
      (pss_one (ps_ret (pe_c c_worth_of hr (by decide) rfl (pa_cons (pe_fldK (K := K) rfl (pv 2) rfl) (pa_cons (pe_fldK (K := K) rfl (pv 2) rfl) (pa_cons (pe_mt0 c_potentials hr (by decide) (pv 0)) pa_nil))))))), ?_⟩
    obtain ⟨dt, htr⟩ := a.tr t ht
    refine ⟨_, rfl, h, HC, dx, _, _, rfl, a.hou, T.clH, T.nH_book, rfl, _, rfl, b, _, rfl, dget_in a.book ((a.keys _).mpr ⟨t, ht, rfl⟩), ?_⟩
    refine ⟨_, rfl, _, TC, dt, _, _, rfl, htr, T.clT, T.nT_giver, rfl, _, rfl, _, TC, dt, _, _, rfl, htr, T.clT, T.nT_to, rfl, _, rfl, h, dx, _, rfl, a.hou, rfl, h, s, rfl, hs, good, tab, fun H1 p ks1 fr1 tab1 hs1 hp hks => ?_⟩
    refine ⟨t.from_, t.to, p, ks1, toldPot s, rfl, hp, (hks _).mpr (mem_members.mpr ⟨t, ht, .inl rfl⟩), (hks _).mpr (mem_members.mpr ⟨t, ht, .inr rfl⟩), ?_⟩
    obtain ⟨i, hi, ei⟩ := mem_tr ht
    have e := worthOf_eq s i
    rw [ei] at e
    have q2 := q H1 fr1 tab1 hs1
    rw [e] at q2
    have e2 : worth (netOf s) (toldPot s) i = 1 + (toldPot s t.from_ - toldPot s t.to) := by
      show 1 + (toldPot s (tr s i).from_ - toldPot s (tr s i).to) = _
      rw [ei]
    rw [e2] at q2
    exact q2
def spBoundM (TC HC : Addr) (K : PySem.W.Frag) : Sp := fun vs H Q _ => ∃ (h c : Addr) (s : List Trd) (ps : List Int), vs = [.ref h, .ref c] ∧ HsAt TC HC H h s ∧ GoodS s ∧ SqL K H c (ps.map V.int) ∧ ps.length = (Vbchad.membersOf s).length ∧
  ∀ H', Same H H' → Q (.int (Vbchad.boundOf s ps)) H'
theorem c_bound (T : Tc K mg TC HC) (D : MethAt K HC "bound" "House.bound" s_bound ["self", "potentials"]) (c_rooms : Met P w K mg base 3 HC "rooms" (spRooms TC HC)) (c_members : Met P w K mg base 4 HC "members" (spMems TC HC))
    (c_bound_of : Cal P w K mg base 2 "bound_of" spBound) : Met P w K mg base 5 HC "bound" (spBoundM TC HC K) := by
  refine met_of T.clH D sc_bound (fun vs H Q E h => ?_) (fun f cdv A outer s H vs Q E hr h => ?_)
  · obtain ⟨x, t, _, _, rfl, _⟩ := h
    rfl
  · obtain ⟨h, c, s, ps, rfl, hs, good, hc, hlen, q⟩ := h
    obtain ⟨dx, b, kv, ks, ad, a⟩ := id hs
    refine ⟨_, (pss_one (ps_ret (pe_c c_bound_of hr (by decide) rfl (pa_cons (pe_mt0 c_rooms hr (by decide) (pv 0)) (pa_cons (pe_dictZip rfl (by rfl) T.m_dict (by rfl) T.m_zip (pa_cons (pe_mt0 c_members hr (by decide) (pv 0)) (pa_cons (pv 1) pa_nil))) pa_nil))))), ?_⟩
    refine ⟨_, rfl, h, dx, _, rfl, a.hou, rfl, h, s, rfl, hs, good, fun H1 p s1 np hT => ?_⟩
    refine ⟨_, rfl, h, dx, _, rfl, (a.same s1).hou, rfl, h, s, rfl, hs.same s1, good, fun H2 p2 s2 np2 hp2 => ?_⟩
    have s12 := s1.trans s2
    have nd := rising_nodup (members_rising s)
    refine ⟨_, rfl, p2, c, (Vbchad.membersOf s).map fun (m : Nat) => (m : Int), ps.map V.int, rfl, by rw [← natL_eq]; exact SqL.of hp2, s12.seq hc, by rw [List.length_map, List.length_map]; exact hlen.symm, List.pairwise_map.mpr (nd.imp fun h e => h (Int.ofNat.inj e)), fun d nd2 => ?_⟩
    rw [zip_dk nd hlen]
    have s3 := same_upd (o := .dK (dkL (Vbchad.membersOf s) fun m => .int (Vbchad.potentialOf (Vbchad.membersOf s) ps m))) nd2
    refine ⟨p, d, s, Vbchad.membersOf s, Vbchad.potentialOf (Vbchad.membersOf s) ps, rfl, (hT.same s2).same s3, upd_same, fun m hm => hm, good.goodT, fun H3 s4 => ?_⟩
    rw [bnd_eq]
    exact q H3 ((s12.trans s3).trans s4)
/-! ## greatest_with -/
def rowW (k r : Nat) (t : Trd) : List Int := [(t.from_ : Int), (t.to : Int), if t.key = k then (r : Int) else (Vbchad.room t : Int)]
def spGW (TC HC Pt : Addr) : Sp := fun vs H Q _ => ∃ (h : Addr) (s l' : List Trd) (k r : Nat), vs = [.ref h, .int k, .int r] ∧ HsAt TC HC H h s ∧ GoodS s ∧ TT Pt H ∧ l'.map rowT = s.map (rowW k r) ∧ GoodT l' ∧
  ∀ H', ExtN H H' → TT Pt H' → Q (.int (Vbchad.greatestOf l' : Int)) H'
theorem c_greatest_with (T : Tc K mg TC HC) (D : MethAt K HC "greatest_with" "House.greatest_with" s_greatest_with ["self", "key", "room"]) (c_order : Met P w K mg base 1 HC "order" (spOrder TC HC)) (c_rooms : Met P w K mg base 3 HC "rooms" (spRooms TC HC))
    (c_greatest_reduction : Cal P w K mg base 4 "greatest_reduction" (spGreat Pt)) : Met P w K mg base 5 HC "greatest_with" (spGW TC HC Pt) := by
  refine met_of T.clH D sc_greatest_with (fun vs H Q E h => ?_) (fun f cdv A outer s H vs Q E hr h => ?_)
  · obtain ⟨x, t, _, _, _, rfl, _⟩ := h
    rfl
  · obtain ⟨h, s, l', k, r, rfl, hs, good, tab, hrows, good', q⟩ := h
    obtain ⟨dx, b, kv, ks, ad, a⟩ := id hs
    have hl := good.len
    refine ⟨_, (pss_cons (ps_set (i := 3) sc_greatest_with.nd rfl (.inl rfl) (pe_lst pa_nil))
      (pss_cons (ps_for PassesOwn.never rfl (pi_zip (by rfl) T.m_zip (pa_cons (pe_mt0 c_order hr (by decide) (pv 0)) (pa_cons (pe_mt0 c_rooms hr (by decide) (pv 0)) pa_nil))) (pg_tup rfl (pgs_cons (pg_name (i := 4) sc_greatest_with.nd rfl (.inl rfl)) (pgs_cons (pg_name (i := 5) sc_greatest_with.nd rfl (.inl rfl)) pgs_nil))) (pss_one (ps_expr (pe_bm PySem.F.plainAttrs_list PySem.F.slot_list_append PySem.F.type_list_append mt_append (pv 3) (pa_cons (pe_tup (pa_cons (pe_ix ix_tup (pv 5) pe_int (fun _ _ => rfl)) (pa_cons (pe_ix ix_tup (pv 5) pe_int (fun _ _ => rfl)) (pa_cons (pe_ifExp (pt_cmpR op_eq (pv 4) (pv 1) (nomark _)) (pv 2) (pe_ix ix_tup (pv 5) pe_int (fun _ _ => rfl))) pa_nil)))) pa_nil)))))
      (pss_one (ps_ret (pe_callB (cr_sum rfl) (by rfl) T.m_sum (by decide +kernel) (pa_cons (pe_c c_greatest_reduction hr (by decide) rfl (pa_cons (pv 3) pa_nil)) pa_nil)))))), ?_⟩
    refine ⟨by decide, fun z nz => ?_⟩
    have s0 : Same H (upd H z (.lst [])) := same_upd nz
    refine ⟨_, rfl, h, dx, _, rfl, (a.same s0).hou, rfl, h, s, rfl, hs.same s0, good, fun po npo => ?_⟩
    have s1 := s0.trans (same_upd (o := .lst (natL (keysL s))) npo)
    refine ⟨_, rfl, h, dx, _, rfl, (a.same s1).hou, rfl, h, s, rfl, hs.same s1, good, fun H2 pr s2 npr hT => ?_⟩
    have hpo : H2 po = some (.lst (natL (keysL s))) := s2 _ _ upd_same
    obtain ⟨xs, hx1, hx2⟩ := id hT
    have hxl := hx2.len
    rw [List.length_map] at hxl
    have hkl : (natL (keysL s)).length = s.length := by
      unfold natL keysL
      rw [List.length_map, List.length_map]
    have s12 := s1.trans s2
    have nzo : po ≠ z := fun e => by
      rw [e, upd_same] at npo
      cases npo
    have hz2 : H2 z = some (.lst []) := s2 _ _ (by rw [upd_ne (Ne.symm nzo)]; exact upd_same)
    refine ⟨po, pr, _, xs, rfl, SqL.of hpo, SqL.of hx1, for_it (walk_zip (n := s.length) (by rw [hkl, hxl, Nat.min_self])) (fun i σ H' => ∃ v4 v5 : Option V, σ = [some (.ref h), some (.int k), some (.int r), some (.ref z), v4, v5] ∧ But z H2 H' ∧ RowsAt H' z ((s.take i).map (rowW k r)))
      ⟨_, _, rfl, But.refl _ _, [], hz2, RowsL.nil _⟩ (fun i σ H' _ ⟨_, _, _, s5, _⟩ => ⟨SqL.of (s5 _ _ hpo nzo), SqL.of (s5 _ _ hx1 (fun e => by rw [e] at npr; rw [show (upd (upd H z (.lst [])) po (.lst (natL (keysL s)))) z = some (.lst []) by rw [upd_ne (Ne.symm nzo)]; exact upd_same] at npr; cases npr))⟩) ?_ ?_⟩
    · rintro i x σ H5 H6 hi ⟨v4, v5, rfl, s5, ys, hz, hro⟩ ⟨tp, x1, x2, rfl, ntp, rfl, e1, e2⟩
      obtain ⟨t, ht⟩ : ∃ t, s[i]? = some t := ⟨s[i], List.getElem?_eq_getElem hi⟩
      have htm : t ∈ s := List.mem_of_getElem? ht
      have ex1 : x1 = V.int t.key := by
        have e3 : (natL (keysL s))[i]? = some (V.int t.key) := by
          unfold natL keysL
          rw [List.getElem?_map, List.getElem?_map, ht]
          rfl
        exact Option.some.inj (e1.symm.trans e3)
      subst ex1
      obtain ⟨t', p, ht', rfl, htp0⟩ := rowsT_at hx2 e2
      obtain rfl : t' = t := Option.some.inj (ht'.symm.trans ht)
      have htp := same_upd (o := .tup [.int t'.key, .ref p]) ntp _ _ (s5 _ _ htp0 (ne_of htp0 hz2 (by intro z; cases z)))
      have hz6 := same_upd (o := .tup [.int t'.key, .ref p]) ntp _ _ hz
      have hyl := hro.len
      rw [List.length_map, List.length_take] at hyl
      refine ⟨tp, _, rfl, SqT.of upd_same, rfl, _, _, rfl, _, _, rfl, rfl, ?_⟩
      refine ⟨_, rfl, .inl ⟨rfl, _, .inl (.inl hz6)⟩, ?_⟩
      have fin : ∀ v : Int, v = (if t'.key = k then (r : Int) else (Vbchad.room t' : Int)) → ∀ pt, upd H5 tp (.tup [.int t'.key, .ref p]) pt = none → ∃ ys', upd (upd H5 tp (.tup [.int t'.key, .ref p])) pt (.tup [.int t'.from_, .int t'.to, .int v]) z = some (.lst ys') ∧ ys'.length < sizeLine ∧
          But z H2 (upd (upd (upd H5 tp (.tup [.int t'.key, .ref p])) pt (.tup [.int t'.from_, .int t'.to, .int v])) z (.lst (ys' ++ [.ref pt]))) ∧
          RowsAt (upd (upd (upd H5 tp (.tup [.int t'.key, .ref p])) pt (.tup [.int t'.from_, .int t'.to, .int v])) z (.lst (ys' ++ [.ref pt]))) z ((s.take (i + 1)).map (rowW k r)) := fun v ev pt npt => by
        have nptz : pt ≠ z := fun e => by
          rw [e, hz6] at npt
          cases npt
        refine ⟨ys, ?_, sl (by omega), ?_, ?_⟩
        · rw [upd_ne (Ne.symm nptz)]
          exact hz6
        · refine But.upd fun c o e n => ?_
          have h5 := s5 _ _ e n
          rw [upd_ne (ne_of_none (same_upd ntp _ _ h5) npt), upd_ne (ne_of_none h5 ntp)]
          exact h5
        · refine ⟨_, upd_same, ?_⟩
          rw [take_more ht, List.map_append]
          refine RowsL.snoc ⟨hro.len, fun j row hj => ?_⟩ ⟨pt, rfl, ?_⟩
          · obtain ⟨v2, a1, p1, rfl, a2⟩ := hro.get j row hj
            refine ⟨_, a1, p1, rfl, ?_⟩
            have a3 := same_upd (o := .tup [.int t'.key, .ref p]) ntp _ _ a2
            rw [upd_ne (ne_of a2 hz (by intro z; cases z)), upd_ne (ne_of_none a3 npt)]
            exact a3
          · rw [upd_ne nptz, upd_same, ev]
            rfl
      refine ⟨_, rfl, p, _, 0, _, rfl, rfl, SqT.of htp, rfl, _, rfl, p, _, 1, _, rfl, rfl, SqT.of htp, rfl, ?_⟩
      refine ⟨_, rfl, _, rfl, rfl, _, rfl, ite2 (fun cc => ?_) (fun cc => ?_)⟩
      · have ck : t'.key = k := Int.ofNat.inj (V.int.inj (of_decide_eq_true cc))
        refine ⟨_, rfl, (by show 3 ≤ sizeLine; decide), fun pt npt => ?_⟩
        obtain ⟨ys', g1, g2, g3, g4⟩ := fin (r : Int) (by rw [if_pos ck]) pt npt
        exact ⟨z, ys', _, rfl, rfl, g1, g2, _, _, rfl, g3, g4⟩
      · have ck : ¬ t'.key = k := fun e => cc (decide_eq_true (congrArg (fun (n : Nat) => V.int (n : Int)) e))
        refine ⟨_, rfl, p, _, 2, _, rfl, rfl, SqT.of htp, rfl, (by show 3 ≤ sizeLine; decide), fun pt npt => ?_⟩
        obtain ⟨ys', g1, g2, g3, g4⟩ := fin (Vbchad.room t' : Int) (by rw [if_neg ck]) pt npt
        exact ⟨z, ys', _, rfl, rfl, g1, g2, _, _, rfl, g3, g4⟩
    · rintro σ H3 ⟨v4, v5, rfl, s5, hro⟩
      rw [List.take_length, ← hrows] at hro
      have s13 : Same H H3 := But.same (H1 := H) (Same.refl H) nz (fun c o e n => s5 _ _ (s2 _ _ (by
        rw [upd_ne (ne_of_none (same_upd nz _ _ e) npo), upd_ne n]
        exact e)) n)
      refine ⟨_, rfl, z, l', rfl, hro, good', tab.ext s13, fun H4 p ns e4 tab4 np hp hlen hopt => ?_⟩
      refine ⟨p, ns, rfl, SqL.of hp, ?_⟩
      rw [sum_opt hlen hopt]
      exact q H4 (fun c o e t => e4 _ _ (s13 _ _ e) t) tab4
/-! ## takes_in -/
def spTakes (TC HC : Addr) : Sp := fun vs H Q _ => ∃ (h : Addr) (s : List Trd) (x y : Nat) (ms : List Nat), vs = [.ref h, .int x, .int y] ∧ HsAt TC HC H h s ∧ GoodS s ∧ ms.Nodup ∧ (∀ m, m ∈ ms ↔ m ∈ Vbchad.membersOf s ∨ m = x ∨ m = y) ∧
  ∀ H' r, Same H H' → (r = true ↔ s.length < 40 ∧ ms.length ≤ 12) → Q (.bl r) H'
theorem c_takes_in (T : Tc K mg TC HC) (D : MethAt K HC "takes_in" "House.takes_in" s_takes_in ["self", "giver", "to"]) (c_members : Met P w K mg base 4 HC "members" (spMems TC HC)) : Met P w K mg base 5 HC "takes_in" (spTakes TC HC) := by
  refine met_of T.clH D sc_takes_in (fun vs H Q E h => ?_) (fun f cdv A outer s H vs Q E hr h => ?_)
  · obtain ⟨_, _, _, _, _, rfl, _⟩ := h
    rfl
  · obtain ⟨h, s, x, y, ms, rfl, hs, good, hnd, hms, q⟩ := h
    obtain ⟨dx, b, kv, ks, ad, a⟩ := id hs
    have hl := good.len
    have hm := good.mem
    refine ⟨_, (pss_cons (ps_set (i := 3) sc_takes_in.nd rfl (.inl rfl) (pe_op op_cat (pe_mt0 c_members hr (by decide) (pv 0)) (pe_lst (pa_cons (pv 1) (pa_cons (pv 2) pa_nil)))))
      (pss_one (ps_ret (pe_and (pe_cmpR op_lt (pe_callB call_lenD (by rfl) T.m_len (by decide +kernel) (pa_cons (pe_fldK (K := K) rfl (pv 0) rfl) pa_nil)) (pe_gc rfl T.c_MOST_TRADES) (nomark _)) (pe_one (pe_cmpR op_le (pe_callB call_lenS (by rfl) T.m_len (by decide +kernel) (pa_cons (pe_callTy (call_setC rfl) (by rfl) T.m_set (by decide +kernel) (pa_cons (pv 3) pa_nil)) pa_nil)) (pe_gc rfl T.c_MOST_MEMBERS) (nomark _))))))), ?_⟩
    refine ⟨_, rfl, h, dx, _, rfl, a.hou, rfl, h, s, rfl, hs, good, fun H1 p s1 np hp => ?_⟩
    refine ⟨_, rfl, _, rfl, (by show 2 ≤ sizeLine; decide), fun p2 np2 => ?_⟩
    have s2 := s1.trans (same_upd (o := .lst [V.int x, V.int y]) np2)
    have hnl : (natL (Vbchad.membersOf s)).length = (Vbchad.membersOf s).length := List.length_map _
    refine ⟨p, p2, _, _, rfl, rfl, same_upd np2 _ _ hp, upd_same, ?_, fun p3 np3 => ?_⟩
    · have := sl (n := (natL (Vbchad.membersOf s)).length + [V.int x, V.int y].length) (by rw [hnl]; show _ + 2 ≤ _; omega)
      omega
    have ecat : natL (Vbchad.membersOf s) ++ [V.int x, V.int y] = natL (Vbchad.membersOf s ++ [x, y]) := by
      unfold natL
      rw [List.map_append]
      rfl
    rw [ecat]
    have s3 := s2.trans (same_upd (o := .lst (natL (Vbchad.membersOf s ++ [x, y]))) np3)
    have a3 := a.same s3
    have hkl := a.klen2 good
    refine ⟨_, rfl, h, HC, dx, _, _, rfl, a3.hou, T.clH, T.nH_book, rfl, b, _, rfl, a3.book, _, _, rfl, rfl, _, rfl, ite2 (fun cc => ?_) (fun cc => ?_)⟩
    · have c1 : s.length < 40 := by
        have := of_decide_eq_true cc
        rw [dkL_len, hkl] at this
        omega
      have hlen2 : (Vbchad.membersOf s ++ [x, y]).length ≤ 14 := by
        rw [List.length_append]
        show _ + 2 ≤ 14
        omega
      refine ⟨_, rfl, p3, (Vbchad.membersOf s ++ [x, y]).map fun (m : Nat) => (m : Int), rfl, by rw [← natL_eq]; exact SqL.of upd_same, by rw [List.length_map]; omega, fun sq c kk nsq hknd hkk hkc => ?_⟩
      refine ⟨sq, _, c, rfl, upd_same, fun k2 h1 h2 h3 => ?_⟩
      have hc : c = ms.length := by
        have up := nodup_len (l := kk.map Int.toNat) (ms := ms) (List.pairwise_map.mpr (List.Pairwise.imp_of_mem (fun {u v} hu hv huv => by
            obtain ⟨m, _, rfl⟩ := List.mem_map.mp ((hkk u).mp hu)
            obtain ⟨n, _, rfl⟩ := List.mem_map.mp ((hkk v).mp hv)
            intro e
            have e' : m = n := e
            exact huv (by rw [e'])) hknd)) (fun u hu => by
          obtain ⟨k, hk, rfl⟩ := List.mem_map.mp hu
          obtain ⟨m, hm, rfl⟩ := List.mem_map.mp ((hkk k).mp hk)
          refine (hms m).mpr ?_
          rcases List.mem_append.mp hm with z | z
          · exact .inl z
          · exact .inr (by simpa using z))
        have dn := nodup_len (l := ms) (ms := kk.map Int.toNat) hnd (fun m hm => by
          refine List.mem_map.mpr ⟨(m : Int), (hkk _).mpr (List.mem_map.mpr ⟨m, List.mem_append.mpr ?_, rfl⟩), rfl⟩
          rcases (hms m).mp hm with z | z
          · exact .inl z
          · exact .inr (by simpa using z))
        rw [List.length_map] at up dn
        omega
      refine ⟨_, _, rfl, rfl, ?_⟩
      refine q _ _ (s3.trans (same_upd nsq)) ?_
      rw [decide_eq_true_eq, hc]
      constructor
      · intro h
        exact ⟨c1, by omega⟩
      · intro h
        omega
    · refine q _ false s3 ⟨(fun z => (by cases z)), fun z => absurd (decide_eq_true ?_) cc⟩
      rw [dkL_len, hkl]
      omega
end
end Vb
end

section
/-! # clearing.py: what changes the house -/
namespace Vb
open PySem PySem.Spec PyProof.Rows L2 Nw LamX
theorem mem_put {t x : Trd} : ∀ {s : List Trd}, x ∈ Vbchad.put t s ↔ x = t ∨ x ∈ s
  | [] => by simp [Vbchad.put]
  | y :: s => by
    unfold Vbchad.put
    split
    · simp
    · rw [List.mem_cons, mem_put (s := s), List.mem_cons]
      constructor
      · rintro (h | h | h)
        · exact .inr (.inl h)
        · exact .inl h
        · exact .inr (.inr h)
      · rintro (h | h | h)
        · exact .inr (.inl h)
        · exact .inl h
        · exact .inr (.inr h)
section
variable {TC HC : Addr} {H : Hp} {h : Addr} {s s' : List Trd} {dx b : Addr} {kv : V} {ks : List Nat} {ad : Nat → Addr}
theorem HouseW.cong (a : HouseW TC HC H h s dx b kv ks ad) (e : ∀ x, x ∈ s' ↔ x ∈ s) : HouseW TC HC H h s' dx b kv ks ad :=
  ⟨a.hou, a.book, fun m => (a.keys m).trans ⟨fun ⟨t, h1, h2⟩ => ⟨t, (e t).mpr h1, h2⟩, fun ⟨t, h1, h2⟩ => ⟨t, (e t).mp h1, h2⟩⟩, a.nd, fun t ht => a.tr t ((e t).mp ht), fun t u ht hu => a.inj t u ((e t).mp ht) ((e u).mp hu)⟩
theorem trF_ne {x d1 : Addr} {t : Trd} (h1 : H x = some (.ins TC d1 (trF t))) (h2 : H h = some (.ins HC dx (houF b kv))) : x ≠ h := hou_ne (d1 := d1) ⟨d1, h1⟩ h2
/-- one trade changed in place -/
theorem HouseW.change (a : HouseW TC HC H h s dx b kv ks ad) {t u : Trd} {d : Addr} (ht : t ∈ s) (hd : H (ad t.key) = some (.ins TC d (trF t))) (hk : u.key = t.key) (e : ∀ x, x ∈ s' ↔ x = u ∨ (x ∈ s ∧ x.key ≠ t.key)) :
    HouseW TC HC (upd H (ad t.key) (.ins TC d (trF u))) h s' dx b kv ks ad := by
  have n1 := trF_ne hd a.hou
  refine ⟨?_, ?_, fun m => (a.keys m).trans ⟨?_, ?_⟩, a.nd, fun x hx => ?_, fun x y hx hy exy => ?_⟩
  · rw [upd_ne (Ne.symm n1)]
    exact a.hou
  · rw [upd_ne (ne_of a.book hd (by intro z; cases z))]
    exact a.book
  · rintro ⟨x, h1, h2⟩
    by_cases c : x.key = t.key
    · exact ⟨u, (e u).mpr (.inl rfl), by rw [hk, ← c, h2]⟩
    · exact ⟨x, (e x).mpr (.inr ⟨h1, c⟩), h2⟩
  · rintro ⟨x, h1, h2⟩
    rcases (e x).mp h1 with z | ⟨z, _⟩
    · exact ⟨t, ht, by rw [← h2, z, hk]⟩
    · exact ⟨x, z, h2⟩
  · rcases (e x).mp hx with z | ⟨z, n⟩
    · rw [z, hk]
      exact ⟨d, upd_same⟩
    · obtain ⟨d2, q⟩ := a.tr x z
      exact ⟨d2, by rw [upd_ne fun z2 => n (a.inj x t z ht z2)]; exact q⟩
  · have kx : ∃ x', x' ∈ s ∧ x'.key = x.key := by
      rcases (e x).mp hx with z | ⟨z, _⟩
      · exact ⟨t, ht, by rw [z, hk]⟩
      · exact ⟨x, z, rfl⟩
    have ky : ∃ y', y' ∈ s ∧ y'.key = y.key := by
      rcases (e y).mp hy with z | ⟨z, _⟩
      · exact ⟨t, ht, by rw [z, hk]⟩
      · exact ⟨y, z, rfl⟩
    obtain ⟨x', h1, h2⟩ := kx
    obtain ⟨y', h3, h4⟩ := ky
    rw [← h2, ← h4] at exy ⊢
    exact a.inj x' y' h1 h3 exy
/-- one trade out -/
theorem HouseW.drop (a : HouseW TC HC H h s dx b kv ks ad) {t : Trd} (e : ∀ x, x ∈ s' ↔ x ∈ s ∧ x.key ≠ t.key) :
    HouseW TC HC (upd H b (.dK (dkL (ks.filter fun k => decide (k ≠ t.key)) fun m => .ref (ad m)))) h s' dx b kv (ks.filter fun k => decide (k ≠ t.key)) ad := by
  refine ⟨?_, upd_same, fun m => ?_, a.nd.sublist List.filter_sublist, fun x hx => ?_, fun x y hx hy exy => a.inj x y ((e x).mp hx).1 ((e y).mp hy).1 exy⟩
  · rw [upd_ne (ne_of a.hou a.book (by intro z; cases z))]
    exact a.hou
  · rw [List.mem_filter, a.keys, decide_eq_true_eq]
    constructor
    · rintro ⟨⟨x, h1, h2⟩, h3⟩
      exact ⟨x, (e x).mpr ⟨h1, by rw [h2]; exact h3⟩, h2⟩
    · rintro ⟨x, h1, h2⟩
      exact ⟨⟨x, ((e x).mp h1).1, h2⟩, by rw [← h2]; exact ((e x).mp h1).2⟩
  · obtain ⟨d2, q⟩ := a.tr x ((e x).mp hx).1
    exact ⟨d2, by rw [upd_ne (ne_of q a.book (by intro z; cases z))]; exact q⟩
end
section
variable {P : Program} {w : World} {K : PySem.W.Frag} {mg : Str → Option Value} {base : Heap} {TC HC Pt : Addr}
def spEnter (TC HC : Addr) : Sp := fun vs H Q _ => ∃ (h : Addr) (s : List Trd) (t : Trd), vs = [.ref h, .int t.key, .int t.from_, .int t.to, .int t.amount, .int t.least] ∧ HsAt TC HC H h s ∧ GoodS s ∧ (∀ x, x ∈ s → x.key ≠ t.key) ∧
  ∀ H', FrM H H' → FrK h H H' → HsAt TC HC H' h (Vbchad.put t s) → Q .non H'
theorem c_enter (T : Tc K mg TC HC) (D : MethAt K HC "enter" "House.enter" s_enter ["self", "key", "giver", "to", "amount", "least"]) (c_Trade_init : Mak P w K mg base 1 "Trade" TC (spTInit TC)) : Met P w K mg base 3 HC "enter" (spEnter TC HC) := by
  refine met_of T.clH D sc_enter (fun vs H Q E h => ?_) (fun f cdv A outer s H vs Q E hr h => ?_)
  · obtain ⟨x, t, _, rfl, _⟩ := h
    rfl
  · obtain ⟨h, s, t, rfl, ⟨dx, b, kv, ks, ad, a⟩, good, hnew, q⟩ := h
    have hl := good.len
    have hkl := a.klen
    refine ⟨_, (pss_cons (ps_dput (hu_of hr) (pe_fldK (K := K) rfl (pv 0) rfl) (pv 1) (pe_mk c_Trade_init hr (by decide) rfl (pa_cons (pv 2) (pa_cons (pv 3) (pa_cons (pv 4) (pa_cons (pv 5) pa_nil))))) rfl)
      (pss_one (ps_fld (pv 0) pe_non rfl))), ?_⟩
    refine ⟨_, rfl, _, rfl, _, rfl, _, rfl, fun x d nx nd nxd => ⟨x, d, t.from_, t.to, t.amount, t.least, rfl, upd_same, rfl, ?_⟩⟩
    rw [up2]
    obtain ⟨H1, eH1⟩ : ∃ H1, H1 = upd (upd H d (.own x)) x (.ins TC d (trF t)) := ⟨_, rfl⟩
    have hH1 : upd (upd H d (.own x)) x (.ins TC d [("giver", .int t.from_), ("to", .int t.to), ("amount", .int t.amount), ("least", .int t.least)]) = H1 := eH1.symm
    rw [hH1]
    have s1 : Same H H1 := fun c o e => by
      rw [eH1, upd_ne (ne_of_none e nx), upd_ne (ne_of_none e nd)]
      exact e
    have a1 := a.same s1
    have hx1 : H1 x = some (.ins TC d (trF t)) := by
      rw [eH1, upd_same]
    have hnk : ¬ t.key ∈ ks := fun z => by
      obtain ⟨u, h1, h2⟩ := (a.keys _).mp z
      exact hnew u h1 h2
    refine ⟨_, rfl, h, HC, dx, _, _, rfl, a1.hou, T.clH, T.nH_book, rfl, _, rfl, b, _, rfl, dput_dk a1.book (sl (by omega)), ?_⟩
    have efu : (fu (fun m => V.ref (ad m)) t.key (V.ref x)) = fun m => V.ref (fu ad t.key x m) := by
      funext z
      unfold fu
      split <;> rfl
    rw [addk_out hnk, efu]
    have nbh : b ≠ h := ne_of a1.book a1.hou (by intro z; cases z)
    have hou2 : upd H1 b (.dK (dkL (ks ++ [t.key]) fun m => V.ref (fu ad t.key x m))) h = some (.ins HC dx (houF b kv)) := by
      rw [upd_ne (Ne.symm nbh)]
      exact a1.hou
    have adx : ∀ u, u ∈ s → ad u.key ≠ x := fun u hu e => by
      obtain ⟨d2, z⟩ := a.tr u hu
      rw [e, nx] at z
      cases z
    refine ⟨_, rfl, h, HC, dx, _, rfl, hou2, T.clH, T.nH_kept, (by show (2 : Nat) < 1000; decide), ?_⟩
    rw [put_kept]
    have W2 : HouseW TC HC (upd H1 b (.dK (dkL (ks ++ [t.key]) fun m => V.ref (fu ad t.key x m)))) h (Vbchad.put t s) dx b kv (ks ++ [t.key]) (fu ad t.key x) := by
      refine ⟨hou2, upd_same, fun m => ?_, ?_, fun u hu => ?_, fun u v hu hv e => ?_⟩
      · rw [List.mem_append, List.mem_singleton, a.keys]
        constructor
        · rintro (⟨u, h1, h2⟩ | rfl)
          · exact ⟨u, mem_put.mpr (.inr h1), h2⟩
          · exact ⟨t, mem_put.mpr (.inl rfl), rfl⟩
        · rintro ⟨u, h1, h2⟩
          rcases mem_put.mp h1 with z | z
          · exact .inr (by rw [← h2, z])
          · exact .inl ⟨u, z, h2⟩
      · have := nodup_addk (m := t.key) a.nd
        rwa [addk_out hnk] at this
      · have n3 : ∀ {c : Addr} {d3 : Addr} {fs}, H1 c = some (.ins TC d3 fs) → c ≠ b := fun {c d3 fs} e => ne_of e a1.book (by intro z; cases z)
        rcases mem_put.mp hu with z | z
        · rw [z, fu_same]
          exact ⟨d, by rw [upd_ne (n3 hx1)]; exact hx1⟩
        · rw [fu_ne (show u.key ≠ t.key from hnew u z)]
          obtain ⟨d2, g⟩ := a1.tr u z
          exact ⟨d2, by rw [upd_ne (n3 g)]; exact g⟩
      · rcases mem_put.mp hu with z | z <;> rcases mem_put.mp hv with z2 | z2
        · rw [z, z2]
        · rw [z, fu_same, fu_ne (show v.key ≠ t.key from hnew v z2)] at e
          exact absurd e.symm (adx v z2)
        · rw [z2, fu_same, fu_ne (show u.key ≠ t.key from hnew u z)] at e
          exact absurd e (adx u z)
        · rw [fu_ne (show u.key ≠ t.key from hnew u z), fu_ne (show v.key ≠ t.key from hnew v z2)] at e
          exact a.inj u v z z2 e
    refine (fun (frm : FrM H (upd (upd H1 b (.dK (dkL (ks ++ [t.key]) fun m => V.ref (fu ad t.key x m)))) h (.ins HC dx (houF b .non)))) => ?_) ?_
    · exact q _ frm (FrK.non frm.fr upd_same) ⟨dx, b, .non, _, _, (W2.setKept .non).at (.inl rfl)⟩
    refine FrM.upd (FrM.upd (Same.frm s1) fun o e k => ?_) fun o e k => ?_
    · rw [a1.book] at e
      rw [← Option.some.inj e] at k
      exact k
    · rw [hou2] at e
      rw [← Option.some.inj e] at k
      exact k
def spStrike (TC HC : Addr) : Sp := fun vs H Q _ => ∃ (h : Addr) (s : List Trd) (t : Trd) (dx b : Addr) (kv : V) (ks : List Nat) (ad : Nat → Addr), vs = [.ref h, .int t.key] ∧ HouseW TC HC H h s dx b kv ks ad ∧ t ∈ s ∧
  ∀ H' ks', FrM H H' → HouseW TC HC H' h (s.filter fun x => x.key != t.key) dx b .non ks' ad → Q .non H'
theorem c_strike (T : Tc K mg TC HC) (D : MethAt K HC "strike" "House.strike" s_strike ["self", "key"]) : Met P w K mg base 1 HC "strike" (spStrike TC HC) := by
  refine met_of T.clH D sc_strike (fun vs H Q E h => ?_) (fun f cdv A outer s H vs Q E hr h => ?_)
  · obtain ⟨x, _, t, _, _, _, _, _, rfl, _⟩ := h
    rfl
  · obtain ⟨h, s, t, dx, b, kv, ks, ad, rfl, a, ht, q⟩ := h
    refine ⟨_, (pss_cons (ps_expr (pe_dpop1 (pe_fldK (K := K) rfl (pv 0) rfl) (pv 1) ⟨rfl, rfl, rfl, rfl⟩))
      (pss_one (ps_fld (pv 0) pe_non rfl))), ?_⟩
    have hk : t.key ∈ ks := (a.keys _).mpr ⟨t, ht, rfl⟩
    refine ⟨_, rfl, h, HC, dx, _, _, rfl, a.hou, T.clH, T.nH_book, rfl, b, rfl, .inl ⟨_, .inl a.book⟩, _, rfl, _, .inl (t.key : Int), _, a.book, rfl, valV_in_ hk, ?_⟩
    rw [dropK_dk]
    have W := a.drop (s' := s.filter fun x => x.key != t.key) (t := t) (fun x => by rw [List.mem_filter]; simp)
    refine ⟨_, rfl, h, HC, dx, _, rfl, W.hou, T.clH, T.nH_kept, (by show (2 : Nat) < 1000; decide), ?_⟩
    rw [put_kept]
    refine q _ _ ?_ (W.setKept .non)
    refine FrM.upd (FrM.upd (FrM.refl H) fun o e k => ?_) fun o e k => ?_
    · rw [a.book] at e
      rw [← Option.some.inj e] at k
      exact k
    · rw [W.hou] at e
      rw [← Option.some.inj e] at k
      exact k
theorem put_least (t : Trd) (n : Nat) : putF "least" (.int n) (trF t) = trF { t with least := n } := rfl
theorem put_amount (t : Trd) (n : Nat) : putF "amount" (.int n) (trF t) = trF { t with amount := n } := rfl
def setL (s : List Trd) (k n : Nat) : List Trd := s.map fun x => if x.key = k then { x with least := n } else x
def spSetL (TC HC : Addr) : Sp := fun vs H Q _ => ∃ (h : Addr) (s : List Trd) (t : Trd) (n : Nat), vs = [.ref h, .int t.key, .int n] ∧ HsAt TC HC H h s ∧ GoodS s ∧ t ∈ s ∧ ∀ H', FrM H H' → FrK h H H' → HsAt TC HC H' h (setL s t.key n) → Q .non H'
theorem c_set_least (T : Tc K mg TC HC) (D : MethAt K HC "set_least" "House.set_least" s_set_least ["self", "key", "least"]) : Met P w K mg base 1 HC "set_least" (spSetL TC HC) := by
  refine met_of T.clH D sc_set_least (fun vs H Q E h => ?_) (fun f cdv A outer s H vs Q E hr h => ?_)
  · obtain ⟨x, _, t, _, rfl, _⟩ := h
    rfl
  · obtain ⟨h, s, t, n, rfl, ⟨dx, b, kv, ks, ad, a⟩, good, ht, q⟩ := h
    refine ⟨_, (pss_cons (ps_set (i := 3) sc_set_least.nd rfl (.inl rfl) (pe_dget (hu_of hr) (pe_fldK (K := K) rfl (pv 0) rfl) (pv 1) (fun _ _ => rfl)))
      (pss_cons (ps_fld (pv 3) (pv 2) rfl)
      (pss_one (ps_fld (pv 0) pe_non rfl)))), ?_⟩
    have hk : t.key ∈ ks := (a.keys _).mpr ⟨t, ht, rfl⟩
    obtain ⟨d, hd⟩ := a.tr t ht
    refine ⟨_, rfl, h, HC, dx, _, _, rfl, a.hou, T.clH, T.nH_book, rfl, _, rfl, b, _, rfl, dget_in a.book hk, ?_⟩
    refine ⟨_, rfl, _, rfl, ad t.key, TC, d, _, rfl, hd, T.clT, T.nT_least, (by show (4 : Nat) < 1000; decide), ?_⟩
    rw [put_least]
    have W := a.w.change (s' := setL s t.key n) (u := { t with least := n }) ht hd rfl (fun x => by
      unfold setL
      rw [List.mem_map]
      constructor
      · rintro ⟨y, h1, h2⟩
        by_cases c : y.key = t.key
        · rw [if_pos c, key_inj good.nodup y t h1 ht c] at h2
          exact .inl h2.symm
        · rw [if_neg c] at h2
          exact .inr ⟨by rw [← h2]; exact h1, by rw [← h2]; exact c⟩
      · rintro (z | ⟨h1, h2⟩)
        · exact ⟨t, ht, by rw [if_pos rfl, z]⟩
        · exact ⟨x, h1, if_neg h2⟩)
    refine ⟨_, rfl, h, HC, dx, _, rfl, W.hou, T.clH, T.nH_kept, (by show (2 : Nat) < 1000; decide), ?_⟩
    rw [put_kept]
    refine (fun (frm : FrM H (upd (upd H (ad t.key) (.ins TC d (trF { t with least := n }))) h (.ins HC dx (houF b .non)))) => ?_) ?_
    · exact q _ frm (FrK.non frm.fr upd_same) ⟨dx, b, .non, _, _, (W.setKept .non).at (.inl rfl)⟩
    refine FrM.upd (FrM.upd (FrM.refl H) fun o e k => ?_) fun o e k => ?_
    · rw [hd] at e
      rw [← Option.some.inj e] at k
      exact k
    · rw [W.hou] at e
      rw [← Option.some.inj e] at k
      exact k
end
end Vb
end

section
/-! # clearing.py: lessen -/
namespace Vb
open PySem PySem.Spec PyProof.Rows L2 Nw LamX
def dim (t : Trd) (n : Nat) : Trd := { t with amount := t.amount - n }
/-- the trades when the first i are done -/
def cur (s : List Trd) (f : List Nat) (i : Nat) : List Trd := (((s.zip f).take i).map fun x => dim x.1 x.2).filter (fun t => t.amount != 0) ++ s.drop i
theorem less_eq (s : List Trd) (f : List Nat) : Vbchad.less s f = ((s.zip f).map fun x => dim x.1 x.2).filter fun t => t.amount != 0 := rfl
theorem cur_zero (s : List Trd) (f : List Nat) : cur s f 0 = s := by
  unfold cur
  rw [List.take_zero, List.drop_zero]
  rfl
theorem cur_all {s : List Trd} {f : List Nat} (h : f.length = s.length) : cur s f s.length = Vbchad.less s f := by
  unfold cur
  rw [List.drop_length, List.append_nil, List.take_of_length_le (by rw [List.length_zip, h, Nat.min_self]; exact Nat.le_refl _), less_eq]
theorem zip_at {s : List Trd} {f : List Nat} (h : f.length = s.length) {i : Nat} {t : Trd} (ht : s[i]? = some t) : (s.zip f)[i]? = some (t, f.getD i 0) := by
  have hl := (List.getElem?_eq_some_iff.mp ht).1
  refine List.getElem?_zip_eq_some.mpr ⟨ht, ?_⟩
  rw [List.getD_eq_getElem?_getD, List.getElem?_eq_getElem (by omega)]
  rfl
theorem mem_front {s : List Trd} {f : List Nat} (h : f.length = s.length) {i : Nat} {x : Trd} : x ∈ (((s.zip f).take i).map fun x => dim x.1 x.2).filter (fun t => t.amount != 0) ↔ ∃ j t, j < i ∧ s[j]? = some t ∧ x = dim t (f.getD j 0) ∧ x.amount ≠ 0 := by
  rw [List.mem_filter, List.mem_map]
  constructor
  · rintro ⟨⟨⟨t, n⟩, h1, h2⟩, h3⟩
    obtain ⟨j, hj⟩ := List.mem_iff_getElem?.mp h1
    have hji : j < i := by
      have := (List.getElem?_eq_some_iff.mp hj).1
      rw [List.length_take] at this
      omega
    rw [List.getElem?_take_of_lt hji] at hj
    obtain ⟨h4, h5⟩ := List.getElem?_zip_eq_some.mp hj
    refine ⟨j, t, hji, h4, ?_, by simpa using h3⟩
    rw [← h2, List.getD_eq_getElem?_getD, h5]
    rfl
  · rintro ⟨j, t, h1, h2, h3, h4⟩
    refine ⟨⟨(t, f.getD j 0), List.mem_iff_getElem?.mpr ⟨j, ?_⟩, h3.symm⟩, by simpa using h4⟩
    rw [List.getElem?_take_of_lt h1]
    exact zip_at h h2
theorem mem_cur {s : List Trd} {f : List Nat} (h : f.length = s.length) {i : Nat} {x : Trd} : x ∈ cur s f i ↔ (∃ j t, j < i ∧ s[j]? = some t ∧ x = dim t (f.getD j 0) ∧ x.amount ≠ 0) ∨ ∃ j, i ≤ j ∧ s[j]? = some x := by
  unfold cur
  rw [List.mem_append, mem_front h]
  refine or_congr Iff.rfl ?_
  rw [List.mem_iff_getElem?]
  constructor
  · rintro ⟨j, hj⟩
    rw [List.getElem?_drop] at hj
    exact ⟨i + j, by omega, hj⟩
  · rintro ⟨j, h1, h2⟩
    exact ⟨j - i, by rw [List.getElem?_drop, show i + (j - i) = j by omega]; exact h2⟩
theorem key_at {s : List Trd} (nd : (s.map (·.key)).Nodup) {i j : Nat} {t u : Trd} (h1 : s[i]? = some t) (h2 : s[j]? = some u) (e : t.key = u.key) : i = j := by
  have l1 := (List.getElem?_eq_some_iff.mp h1).1
  have l2 := (List.getElem?_eq_some_iff.mp h2).1
  rw [List.getElem?_eq_getElem l1] at h1
  rw [List.getElem?_eq_getElem l2] at h2
  have h1 := Option.some.inj h1
  have h2 := Option.some.inj h2
  have key : ∀ (i j : Nat) (l1 : i < s.length) (l2 : j < s.length), i < j → s[i].key = s[j].key → False := fun i j l1 l2 hij e => by
    have := List.pairwise_iff_getElem.mp nd i j (by rw [List.length_map]; exact l1) (by rw [List.length_map]; exact l2) hij
    rw [List.getElem_map, List.getElem_map] at this
    exact this e
  rcases Nat.lt_trichotomy i j with z | z | z
  · exact (key i j l1 l2 z (by rw [h1, h2, e])).elim
  · exact z
  · exact (key j i l2 l1 z (by rw [h1, h2, e])).elim
section
variable {P : Program} {w : World} {K : PySem.W.Frag} {mg : Str → Option Value} {base : Heap} {TC HC Pt : Addr}
def spLessen (TC HC : Addr) : Sp := fun vs H Q _ => ∃ (h c : Addr) (s : List Trd) (f : List Nat), vs = [.ref h, .ref c] ∧ HsAt TC HC H h s ∧ GoodS s ∧ H c = some (.lst (natL f)) ∧ f.length = s.length ∧ (∀ i t, s[i]? = some t → f.getD i 0 ≤ Vbchad.room t) ∧
  ∀ H', FrM H H' → FrK h H H' → HsAt TC HC H' h (Vbchad.less s f) → Q .non H'
theorem c_lessen (T : Tc K mg TC HC) (D : MethAt K HC "lessen" "House.lessen" s_lessen ["self", "numbers"]) (c_order : Met P w K mg base 1 HC "order" (spOrder TC HC)) (c_strike : Met P w K mg base 1 HC "strike" (spStrike TC HC)) : Met P w K mg base 2 HC "lessen" (spLessen TC HC) := by
  refine met_of T.clH D sc_lessen (fun vs H Q E h => ?_) (fun fa cdv A outer sh H vs Q E hr h => ?_)
  · obtain ⟨_, _, _, _, rfl, _⟩ := h
    rfl
  · obtain ⟨h, c, s, f, rfl, hs, good, hc, hlen, hroom, q⟩ := h
    obtain ⟨dx, b, kv, ks, ad, a⟩ := id hs
    have hl := good.len
    refine ⟨_, (pss_cons (ps_if (pt_not (pt_val (pe_callB (cr_anyI rfl) (by rfl) T.m_any (by decide +kernel) (pa_cons (pv 1) pa_nil)))) (pss_one ps_retN) pss_nil)
      (pss_cons (ps_for PassesOwn.never rfl (pi_zip (by rfl) T.m_zip (pa_cons (pe_mt0 c_order hr (by decide) (pv 0)) (pa_cons (pv 1) pa_nil))) (pg_tup rfl (pgs_cons (pg_name (i := 2) sc_lessen.nd rfl (.inl rfl)) (pgs_cons (pg_name (i := 3) sc_lessen.nd rfl (.inl rfl)) pgs_nil))) (pss_cons (ps_set (i := 4) sc_lessen.nd rfl (.inl rfl) (pe_dget (hu_of hr) (pe_fldK (K := K) rfl (pv 0) rfl) (pv 2) (fun _ _ => rfl)))
      (pss_cons (ps_fldaug (pv 4) (pv 3) in_sub)
      (pss_one (ps_if (pt_cmpR op_eq (pe_fldK (K := K) rfl (pv 4) rfl) pe_int (nomark _)) (pss_one (ps_expr (pe_mt c_strike hr (by decide) (pv 0) (pa_cons (pv 2) pa_nil)))) pss_nil)))))
      (pss_one (ps_fld (pv 0) pe_non rfl)))), ?_⟩
    refine ⟨_, rfl, c, f.map fun (n : Nat) => (n : Int), rfl, by rw [← natL_eq]; exact SqL.of hc, _, rfl, ite2 (fun cc => ?_) (fun cc => ?_)⟩
    · have hz : ∀ n, n ∈ f → n = 0 := fun n hn => by
        have h1 := (Bool.not_eq_true' _).mp cc
        rw [List.any_eq_false] at h1
        have := h1 (n : Int) (List.mem_map.mpr ⟨n, hn, rfl⟩)
        simpa using this
      have e : Vbchad.less s f = s := by
        rw [less_eq]
        have e2 : ((s.zip f).map fun x => dim x.1 x.2) = s := by
          refine List.ext_getElem? fun i => ?_
          rw [List.getElem?_map]
          cases z : s[i]? with
          | none =>
            rw [List.getElem?_eq_none (by rw [List.length_zip, hlen, Nat.min_self]; exact List.getElem?_eq_none_iff.mp z)]
            rfl
          | some t =>
            rw [zip_at hlen z]
            have hi := (List.getElem?_eq_some_iff.mp z).1
            have h0 : f.getD i 0 = 0 := by
              rw [List.getD_eq_getElem?_getD, List.getElem?_eq_getElem (by omega)]
              exact hz _ (List.getElem_mem _)
            rw [h0]
            rfl
        rw [e2]
        refine List.filter_eq_self.mpr fun t ht => ?_
        have := good.pos t ht
        simp only [bne_iff_ne]
        omega
      have q2 := q H (FrM.refl H) (FrK.refl h H)
      rw [e] at q2
      exact q2 hs
    · refine ⟨_, rfl, h, dx, _, rfl, a.hou, rfl, h, s, rfl, hs, good, fun po npo => ?_⟩
      have s1 := same_upd (o := .lst (natL (keysL s))) npo
      have hkl : (natL (keysL s)).length = s.length := by
        unfold natL keysL
        rw [List.length_map, List.length_map]
      have hfl : (natL f).length = s.length := (List.length_map _).trans hlen
      refine ⟨_, rfl, po, c, _, natL f, rfl, SqL.of upd_same, SqL.of (s1 _ _ hc), for_it (walk_zip (n := s.length) (by rw [hkl, hfl, Nat.min_self])) (fun i σ H' => ∃ (v2 v3 v4 : Option V) (kv : V) (ks : List Nat), σ = [some (.ref h), some (.ref c), v2, v3, v4] ∧ FrM (upd H po (.lst (natL (keysL s)))) H' ∧
        HouseW TC HC H' h (cur s f i) dx b kv ks ad) ⟨_, _, _, kv, ks, rfl, FrM.refl _, by rw [cur_zero]; exact (a.same s1).w⟩ (fun i σ H' _ ⟨_, _, _, _, _, _, s5, _⟩ => ⟨SqL.of (s5 _ _ trivial upd_same), SqL.of (s5 _ _ trivial (s1 _ _ hc))⟩) ?_ ?_⟩
      · rintro i x σ H5 H6 hi ⟨v2, v3, v4, kv5, ks5, rfl, s5, W5⟩ ⟨tp, x1, x2, rfl, ntp, rfl, e1, e2⟩
        obtain ⟨t, ht⟩ : ∃ t, s[i]? = some t := ⟨s[i], List.getElem?_eq_getElem hi⟩
        have htm : t ∈ s := List.mem_of_getElem? ht
        have ex1 : x1 = V.int t.key := by
          have e3 : (natL (keysL s))[i]? = some (V.int t.key) := by
            unfold natL keysL
            rw [List.getElem?_map, List.getElem?_map, ht]
            rfl
          exact Option.some.inj (e1.symm.trans e3)
        subst ex1
        have ex2 : x2 = V.int (f.getD i 0 : Nat) := by
          have e3 : (natL f)[i]? = some (V.int (f.getD i 0 : Nat)) := by
            unfold natL
            rw [List.getElem?_map, List.getD_eq_getElem?_getD, List.getElem?_eq_getElem (by omega)]
            rfl
          exact Option.some.inj (e2.symm.trans e3)
        subst ex2
        have st := same_upd (o := .tup [.int t.key, .int (f.getD i 0 : Nat)]) ntp
        have W6 := W5.same st
        have s6 := s5.trans (Same.frm st)
        have htc : t ∈ cur s f i := (mem_cur hlen).mpr (.inr ⟨i, Nat.le_refl _, ht⟩)
        obtain ⟨d, hd⟩ := W6.tr t htc
        have hle : f.getD i 0 ≤ t.amount := by
          have := hroom i t ht
          unfold Vbchad.room at this
          omega
        refine ⟨tp, _, rfl, SqT.of upd_same, rfl, _, _, rfl, _, _, rfl, rfl, ?_⟩
        refine ⟨_, rfl, h, HC, dx, _, _, rfl, W6.hou, T.clH, T.nH_book, rfl, _, rfl, b, _, rfl, dget_in W6.book ((W6.keys _).mpr ⟨t, htc, rfl⟩), ?_⟩
        refine ⟨_, rfl, ad t.key, TC, d, _, _, rfl, hd, T.clT, T.nT_amount, rfl, _, rfl, _, _, rfl, rfl, d, _, hd, (by show (4 : Nat) < 1000; decide), ?_⟩
        have eam : putF "amount" (.int ((t.amount : Int) - ((f.getD i 0 : Nat) : Int))) (trF t) = trF (dim t (f.getD i 0)) := by
          rw [show ((t.amount : Int) - ((f.getD i 0 : Nat) : Int)) = ((t.amount - f.getD i 0 : Nat) : Int) by omega]
          exact put_amount t _
        rw [eam]
        obtain ⟨s', es'⟩ : ∃ s', s' = dim t (f.getD i 0) :: (cur s f i).filter (fun x => x.key != t.key) := ⟨_, rfl⟩
        have W7 := W6.change (s' := s') (u := dim t (f.getD i 0)) htc hd rfl (fun x => by
          rw [es', List.mem_cons, List.mem_filter]
          simp)
        have s7 : FrM (upd H po (.lst (natL (keysL s)))) (upd (upd H5 tp (.tup [.int t.key, .int (f.getD i 0 : Nat)])) (ad t.key) (.ins TC d (trF (dim t (f.getD i 0))))) := FrM.upd s6 fun o e k => by
          rw [hd] at e
          rw [← Option.some.inj e] at k
          exact k
        -- who is in the list
        have others : ∀ x, x ∈ (cur s f i).filter (fun x => x.key != t.key) ↔ (∃ j t, j < i ∧ s[j]? = some t ∧ x = dim t (f.getD j 0) ∧ x.amount ≠ 0) ∨ ∃ j, i + 1 ≤ j ∧ s[j]? = some x := fun x => by
          rw [List.mem_filter, mem_cur hlen]
          constructor
          · rintro ⟨h1 | ⟨j, h1, h2⟩, h3⟩
            · exact .inl h1
            · refine .inr ⟨j, ?_, h2⟩
              by_cases c : j = i
              · rw [c, ht] at h2
                rw [← Option.some.inj h2] at h3
                simp at h3
              · omega
          · rintro (⟨j, u, h1, h2, h3, h4⟩ | ⟨j, h1, h2⟩)
            · refine ⟨.inl ⟨j, u, h1, h2, h3, h4⟩, ?_⟩
              rw [bne_iff_ne]
              intro e
              have := key_at good.nodup h2 ht (by rw [← e, h3]; rfl)
              omega
            · refine ⟨.inr ⟨j, by omega, h2⟩, ?_⟩
              rw [bne_iff_ne]
              intro e
              have := key_at good.nodup h2 ht e
              omega
        refine ⟨_, rfl, ad t.key, TC, d, _, _, rfl, upd_same, T.clT, T.nT_amount, rfl, rfl, _, rfl, ite2 (fun c2 => ?_) (fun c2 => ?_)⟩
        · have hz : (dim t (f.getD i 0)).amount = 0 := by
            have := V.int.inj (of_decide_eq_true c2)
            exact Int.ofNat.inj this
          refine ⟨_, rfl, h, dx, _, rfl, W7.hou, rfl, _, rfl, h, s', dim t (f.getD i 0), dx, b, kv5, ks5, ad, rfl, W7, by rw [es']; exact List.mem_cons_self, fun H8 ks8 s8 W8 => ?_⟩
          refine ⟨_, _, _, .non, ks8, rfl, s7.trans s8, W8.cong fun x => ?_⟩
          rw [mem_cur hlen, List.mem_filter, es', List.mem_cons, others]
          constructor
          · rintro (⟨j, u, h1, h2, h3, h4⟩ | ⟨j, h1, h2⟩)
            · have hji : j ≠ i := fun e => by
                rw [e, ht] at h2
                rw [e, ← Option.some.inj h2] at h3
                rw [h3] at h4
                exact h4 hz
              refine ⟨.inr (.inl ⟨j, u, by omega, h2, h3, h4⟩), ?_⟩
              rw [bne_iff_ne]
              intro e
              exact hji (key_at good.nodup h2 ht (by have e' : x.key = t.key := e; rw [← e', h3]; rfl))
            · refine ⟨.inr (.inr ⟨j, h1, h2⟩), ?_⟩
              rw [bne_iff_ne]
              intro e
              have := key_at good.nodup h2 ht e
              omega
          · rintro ⟨h1 | h1 | h1, h2⟩
            · rw [h1] at h2
              simp at h2
            · obtain ⟨j, u, h3, h4⟩ := h1
              exact .inl ⟨j, u, by omega, h4⟩
            · exact .inr h1
        · have hz : (dim t (f.getD i 0)).amount ≠ 0 := fun e => c2 (decide_eq_true (congrArg (fun (n : Nat) => V.int (n : Int)) e))
          refine ⟨_, _, _, kv5, ks5, rfl, s7, W7.cong fun x => ?_⟩
          rw [mem_cur hlen, es', List.mem_cons, others]
          constructor
          · rintro (⟨j, u, h1, h2, h3, h4⟩ | ⟨j, h1, h2⟩)
            · by_cases e : j = i
              · rw [e, ht] at h2
                rw [e, ← Option.some.inj h2] at h3
                exact .inl h3
              · exact .inr (.inl ⟨j, u, by omega, h2, h3, h4⟩)
            · exact .inr (.inr ⟨j, h1, h2⟩)
          · rintro (h1 | h1 | h1)
            · exact .inl ⟨i, t, by omega, ht, h1, by rw [h1]; exact hz⟩
            · obtain ⟨j, u, h3, h4⟩ := h1
              exact .inl ⟨j, u, by omega, h4⟩
            · exact .inr h1
      · rintro σ H5 ⟨v2, v3, v4, kv5, ks5, rfl, s5, W5⟩
        rw [cur_all hlen] at W5
        refine ⟨_, rfl, h, HC, dx, _, rfl, W5.hou, T.clH, T.nH_kept, (by show (2 : Nat) < 1000; decide), ?_⟩
        rw [put_kept]
        refine (fun (frm : FrM H (upd H5 h (.ins HC dx (houF b .non)))) => ?_) (FrM.upd ((Same.frm s1).trans s5) fun o e k => ?_)
        · exact q _ frm (FrK.non frm.fr upd_same) ⟨dx, b, .non, _, _, (W5.setKept .non).at (.inl rfl)⟩
        rw [W5.hou] at e
        rw [← Option.some.inj e] at k
        exact k
end
end Vb
end

section
/-! # calls.py: ranges and the first answers -/
namespace Vb
open PySem PySem.Spec PyProof.Rows L2 Nw LamX
/-! ## What a call is by the specification -/
theorem find_key {s : List Trd} (nd : (s.map (·.key)).Nodup) {t : Trd} (h : t ∈ s) : s.find? (fun u => u.key == t.key) = some t := by
  cases e : s.find? (fun u => u.key == t.key) with
  | none =>
    have := List.find?_eq_none.mp e t h
    simp at this
  | some u =>
    have h1 := List.find?_some e
    have h2 := List.mem_of_find?_eq_some e
    rw [key_inj nd u t h2 h (by simpa using h1)]
theorem on_out {s : Vbchad.State} {k : Int} {f : Trd → Vbchad.State × List Int} (h : Vbchad.keyed k = false) : Vbchad.onTrade s k f = (s, [-1]) := by
  unfold Vbchad.onTrade
  rw [if_pos h]
theorem on_none {s : List Trd} {k : Nat} {f : Trd → Vbchad.State × List Int} (h : Vbchad.keyed (k : Int) = true) (n : ¬ ∃ t, t ∈ s ∧ t.key = k) : Vbchad.onTrade ⟨s⟩ (k : Int) f = (⟨s⟩, [-4]) := by
  unfold Vbchad.onTrade Vbchad.tradeAt
  rw [if_neg (by rw [h]; exact fun z => by cases z)]
  have e : s.find? (fun t => t.key == (k : Int).toNat) = none := List.find?_eq_none.mpr fun t ht z => n ⟨t, ht, by simpa using z⟩
  rw [e]
theorem on_some {s : List Trd} {t : Trd} {f : Trd → Vbchad.State × List Int} (h : Vbchad.keyed (t.key : Int) = true) (nd : (s.map (·.key)).Nodup) (ht : t ∈ s) : Vbchad.onTrade ⟨s⟩ (t.key : Int) f = f t := by
  unfold Vbchad.onTrade Vbchad.tradeAt
  rw [if_neg (by rw [h]; exact fun z => by cases z)]
  have e : s.find? (fun u => u.key == (t.key : Int).toNat) = some t := find_key nd ht
  rw [e]
def inR (z lo hi : Int) : Bool := decide (lo ≤ z) && decide (z ≤ hi)
theorem keyed_eq (z : Int) : Vbchad.keyed z = inR z 1 1000000000 := rfl
theorem money_eq (z : Int) : Vbchad.within z 0 Vbchad.MONEY = inR z 0 1000000000 := rfl
theorem inR_nat {z hi : Int} {lo : Int} (h0 : 0 ≤ lo) (h : inR z lo hi = true) : ∃ n : Nat, z = (n : Int) := by
  unfold inR at h
  rw [Bool.and_eq_true] at h
  have := of_decide_eq_true h.1
  exact ⟨z.toNat, by omega⟩
theorem inR_iff {z lo hi : Int} : inR z lo hi = true ↔ lo ≤ z ∧ z ≤ hi := by
  unfold inR
  rw [Bool.and_eq_true, decide_eq_true_eq, decide_eq_true_eq]
/-! ## Answers -/
/-- what an answer has to bring -/
def Ans (TC HC Pt : Addr) (H : Hp) (h : Addr) (Q : VK) (r : Vbchad.State × List Int) : Prop :=
  ∀ H' p, FrK h H H' → TT Pt H' → HsAt TC HC H' h r.1.trades → (∀ xs, H p ≠ some (.lst xs)) → H' p = some (.lst (r.2.map V.int)) → r.2.length ≤ 300 → Q (.ref p) H'
theorem Ans.ret {TC HC Pt : Addr} {H H1 : Hp} {h : Addr} {Q : VK} {r : Vbchad.State × List Int} {s' : List Trd} {xs : List Int} (a : Ans TC HC Pt H h Q r) (e : r = (⟨s'⟩, xs)) (fr : FrK h H H1) (tt : TT Pt H1) (hs : HsAt TC HC H1 h s') (hl : xs.length ≤ 300) :
    ∀ p, H1 p = none → Q (.ref p) (upd H1 p (.lst (xs.map V.int))) := fun p np => by
  have s2 := same_upd (o := .lst (xs.map V.int)) np
  subst e
  exact a _ p (fr.trans (Same.frk s2)) (tt.ext s2) (hs.same s2) (fun ys e => by rw [fr.fr p (.lst ys) trivial e] at np; cases np) upd_same hl
theorem Ans.ret1 {TC HC Pt : Addr} {H H1 : Hp} {h : Addr} {Q : VK} {r : Vbchad.State × List Int} {s' : List Trd} {x : Int} (a : Ans TC HC Pt H h Q r) (e : r = (⟨s'⟩, [x])) (fr : FrK h H H1) (tt : TT Pt H1) (hs : HsAt TC HC H1 h s') :
    [V.int x].length ≤ sizeLine ∧ ∀ p, H1 p = none → Q (.ref p) (upd H1 p (.lst [.int x])) := ⟨by show 1 ≤ sizeLine; decide, a.ret e fr tt hs (by show 1 ≤ 300; decide)⟩
theorem Ans.ret2 {TC HC Pt : Addr} {H H1 : Hp} {h : Addr} {Q : VK} {r : Vbchad.State × List Int} {s' : List Trd} {x y : Int} (a : Ans TC HC Pt H h Q r) (e : r = (⟨s'⟩, [x, y])) (fr : FrK h H H1) (tt : TT Pt H1) (hs : HsAt TC HC H1 h s') :
    [V.int x, V.int y].length ≤ sizeLine ∧ ∀ p, H1 p = none → Q (.ref p) (upd H1 p (.lst [.int x, .int y])) := ⟨by show 2 ≤ sizeLine; decide, a.ret e fr tt hs (by show 2 ≤ 300; decide)⟩
/-- what an answer may count on; the arguments at a: the numbers xs, then the lists rs -/
structure Args (H : Hp) (a : Addr) (xs : List Int) (rs : List (List Int)) : Prop where
  ex : ∃ qs : List Addr, H a = some (.lst (xs.map V.int ++ qs.map V.ref)) ∧ qs.length = rs.length ∧ ∀ (i : Nat) (r : List Int), rs[i]? = some r → ∃ q, qs[i]? = some q ∧ H q = some (.lst (r.map V.int)) ∧ r.length ≤ 100
def g0 (c0 : Vbchad.Call) : List Int → List (List Int) → Vbchad.Call → Prop := fun xs rs c => xs = [] ∧ rs = [] ∧ c = c0
def g1 (f : Int → Vbchad.Call) : List Int → List (List Int) → Vbchad.Call → Prop := fun xs rs c => ∃ k, xs = [k] ∧ rs = [] ∧ c = f k
def g2 (f : Int → Int → Vbchad.Call) : List Int → List (List Int) → Vbchad.Call → Prop := fun xs rs c => ∃ k n, xs = [k, n] ∧ rs = [] ∧ c = f k n
def g5 (f : Int → Int → Int → Int → Int → Vbchad.Call) : List Int → List (List Int) → Vbchad.Call → Prop := fun xs rs c => ∃ k a b x y, xs = [k, a, b, x, y] ∧ rs = [] ∧ c = f k a b x y
def gR (f : List Int → Vbchad.Call) : List Int → List (List Int) → Vbchad.Call → Prop := fun xs rs c => ∃ r, xs = [] ∧ rs = [r] ∧ c = f r
def gRR (f : List Int → List Int → Vbchad.Call) : List Int → List (List Int) → Vbchad.Call → Prop := fun xs rs c => ∃ r r', xs = [] ∧ rs = [r, r'] ∧ c = f r r'
def spAns (TC HC Pt : Addr) (g : List Int → List (List Int) → Vbchad.Call → Prop) : Sp := fun vs H Q _ => ∃ (h a : Addr) (s : List Trd) (xs : List Int) (rs : List (List Int)) (c : Vbchad.Call), vs = [.ref h, .ref a] ∧ HsAt TC HC H h s ∧ GoodS s ∧ TT Pt H ∧ Args H a xs rs ∧ g xs rs c ∧ Ans TC HC Pt H h Q (Vbchad.step ⟨s⟩ c)
theorem Args.ints {H : Hp} {a : Addr} {xs : List Int} (h : Args H a xs []) : H a = some (.lst (xs.map V.int)) := by
  obtain ⟨qs, h1, h2, _⟩ := h.ex
  obtain rfl := List.length_eq_zero_iff.mp h2
  rw [List.map_nil, List.append_nil] at h1
  exact h1
theorem Args.row {H : Hp} {a : Addr} {r : List Int} (h : Args H a [] [r]) : ∃ q, H a = some (.lst [.ref q]) ∧ H q = some (.lst (r.map V.int)) ∧ r.length ≤ 100 := by
  obtain ⟨qs, h1, h2, h3⟩ := h.ex
  obtain ⟨q, e, g⟩ := h3 0 r rfl
  match qs, h2, e with
  | [q'], _, e =>
    obtain rfl : q' = q := Option.some.inj e
    exact ⟨_, h1, g⟩
theorem Args.rows {H : Hp} {a : Addr} {r r' : List Int} (h : Args H a [] [r, r']) : ∃ q q', H a = some (.lst [.ref q, .ref q']) ∧ H q = some (.lst (r.map V.int)) ∧ r.length ≤ 100 ∧ H q' = some (.lst (r'.map V.int)) ∧ r'.length ≤ 100 := by
  obtain ⟨qs, h1, h2, h3⟩ := h.ex
  obtain ⟨q, e, g⟩ := h3 0 r rfl
  obtain ⟨q', e', g'⟩ := h3 1 r' rfl
  match qs, h2, e, e' with
  | [x, y], _, e, e' =>
    obtain rfl : x = q := Option.some.inj e
    obtain rfl : y = q' := Option.some.inj e'
    exact ⟨_, _, h1, g.1, g.2, g'.1, g'.2⟩
section
variable {P : Program} {w : World} {K : PySem.W.Frag} {mg : Str → Option Value} {base : Heap} {TC HC Pt : Addr}
def spWithin : Sp := fun vs H Q _ => ∃ z lo hi : Int, vs = [.int z, .int lo, .int hi] ∧ Q (.bl (inR z lo hi)) H
theorem c_within (T : Tb mg) (D : DefAt K mg "within" s_within ["number", "low", "high"]) : Cal P w K mg base 1 "within" spWithin := by
  refine cal_of D sc_within (fun vs H Q E h => ?_) (fun f cdv A outer s H vs Q E _ hr h => ?_)
  · obtain ⟨_, _, _, rfl, _⟩ := h
    rfl
  · obtain ⟨z, lo, hi, rfl, q⟩ := h
    refine ⟨_, (pss_one (ps_ret (pe_chain op_le op_le (pv 1) (pv 0) (pv 2)))), ?_⟩
    refine ⟨_, rfl, _, rfl, _, _, rfl, rfl, _, rfl, ite2 (fun cc => ?_) (fun cc => ?_)⟩
    · refine ⟨_, rfl, _, _, rfl, rfl, ?_⟩
      unfold inR at q
      rw [cc, Bool.true_and] at q
      exact q
    · unfold inR at q
      rw [(Bool.not_eq_true _).mp cc, Bool.false_and] at q
      exact q
def spNums (TC HC : Addr) : Sp := fun vs H Q _ => ∃ (h c : Addr) (s : List Trd) (f : List Int), vs = [.ref h, .ref c] ∧ HsAt TC HC H h s ∧ GoodS s ∧ H c = some (.lst (f.map V.int)) ∧ f.length ≤ 100 ∧ ∀ H', Same H H' → Q (.bl (Vbchad.numbers ⟨s⟩ f)) H'
theorem c_numbers_for_trades (T : Tc K mg TC HC) (D : DefAt K mg "numbers_for_trades" s_numbers_for_trades ["house", "numbers"]) (c_order : Met P w K mg base 1 HC "order" (spOrder TC HC)) (c_within : Cal P w K mg base 1 "within" spWithin) :
    Cal P w K mg base 2 "numbers_for_trades" (spNums TC HC) := by
  refine cal_of D sc_numbers_for_trades (fun vs H Q E h => ?_) (fun fa cdv A outer sh H vs Q E _ hr h => ?_)
  · obtain ⟨_, _, _, _, rfl, _⟩ := h
    rfl
  · obtain ⟨h, c, s, f, rfl, hs, good, hc, hlen, q⟩ := h
    obtain ⟨dx, b, kv, ks, ad, a⟩ := id hs
    refine ⟨_, (pss_one (ps_ret (pe_and (pe_cmpR op_eq (pe_callB call_len_seq (by rfl) T.m_len (by decide +kernel) (pa_cons (pv 1) pa_nil)) (pe_callB call_len_seq (by rfl) T.m_len (by decide +kernel) (pa_cons (pe_mt0 c_order hr (by decide) (pv 0)) pa_nil)) (nomark _)) (pe_one (pe_callB (cr_all rfl) (by rfl) T.m_all (by decide +kernel) (pa_cons (pe_lc (own := [("number", 2)]) (g := gName 2) (tt := tYes) rfl sc_numbers_for_trades.nd (pi_list (pv 1)) (blkOk_by (own := [("number", 2)]) (N := ["house", "numbers", "number"]) (sc := defScope s_numbers_for_trades) (by decide +kernel)) (fun _ _ _ _ _ => (pg_name (i := 2) sc_numbers_for_trades.nd rfl (.inl rfl))) (fun _ _ _ _ _ => pts_nil) (fun _ _ _ _ _ => (pe_c c_within hr (by decide) rfl (pa_cons (pv 2) (pa_cons pe_int (pa_cons (pe_gc rfl T.c_MOST) pa_nil)))))) pa_nil)))))), ?_⟩
    refine ⟨_, rfl, c, _, rfl, .inl (SqL.of hc), _, rfl, h, dx, _, rfl, a.hou, rfl, h, s, rfl, hs, good, fun p np => ?_⟩
    have s1 := same_upd (o := .lst (natL (keysL s))) np
    have e1 : (f.map V.int).length = f.length := List.length_map _
    have e2 : (natL (keysL s)).length = s.length := by
      unfold natL keysL
      rw [List.length_map, List.length_map]
    refine ⟨p, _, rfl, .inl (SqL.of upd_same), rfl, _, rfl, ?_⟩
    rw [e1, e2]
    refine ite2 (fun cc => ?_) (fun cc => ?_)
    · have hl : f.length = s.length := Int.ofNat.inj (V.int.inj (of_decide_eq_true cc))
      refine ⟨_, rfl, c, rfl, ⟨_, SqL.of (s1 _ _ hc)⟩, fun z nz => lc_list (K := K) (a := c) (xs := f.map V.int) (fun i H' => Same (upd H p (.lst (natL (keysL s)))) H' ∧ H' z = some (.lst (((f.take i).map fun x => inR x 0 1000000000).map V.bl))) ⟨same_upd nz, upd_same⟩ (fun i H' _ h => SqL.of (h.1 _ _ (s1 _ _ hc))) ?_ ?_⟩
      · rintro k x H' hx ⟨s5, hz⟩
        obtain ⟨n, hn, rfl⟩ := map_get hx
        refine ⟨rfl, _, rfl, n, 0, 1000000000, rfl, _, hz, sl ?_, fun b o e => ?_, ?_⟩
        · rw [List.length_map, List.length_map, List.length_take]
          omega
        · rw [upd_ne (ne_of_none e nz)]
          exact s5 _ _ e
        · rw [upd_same, take_more hn, List.map_append, List.map_append]
          rfl
      · rintro H' ⟨s5, hz⟩
        rw [e1, List.take_length] at hz
        refine ⟨z, _, rfl, SqL.of hz, ?_⟩
        have q2 := q H' (s1.trans s5)
        unfold Vbchad.numbers at q2
        rw [decide_eq_true (show f.length = (⟨s⟩ : Vbchad.State).trades.length from hl), Bool.true_and] at q2
        rw [List.all_map]
        exact q2
    · have hl : ¬ f.length = s.length := fun e => cc (decide_eq_true (congrArg (fun (n : Nat) => V.int (n : Int)) e))
      have q2 := q _ s1
      unfold Vbchad.numbers at q2
      rw [decide_eq_false (show ¬ f.length = (⟨s⟩ : Vbchad.State).trades.length from hl), Bool.false_and] at q2
      exact q2
def spPotM (TC HC : Addr) : Sp := fun vs H Q _ => ∃ (h c : Addr) (s : List Trd) (f : List Int), vs = [.ref h, .ref c] ∧ HsAt TC HC H h s ∧ GoodS s ∧ H c = some (.lst (f.map V.int)) ∧ f.length ≤ 100 ∧ ∀ H', Same H H' → Q (.bl (Vbchad.potentialsIn ⟨s⟩ f)) H'
theorem c_potentials_for_members (T : Tc K mg TC HC) (D : DefAt K mg "potentials_for_members" s_potentials_for_members ["house", "numbers"]) (c_members : Met P w K mg base 4 HC "members" (spMems TC HC)) (c_within : Cal P w K mg base 1 "within" spWithin) :
    Cal P w K mg base 5 "potentials_for_members" (spPotM TC HC) := by
  refine cal_of D sc_potentials_for_members (fun vs H Q E h => ?_) (fun fa cdv A outer sh H vs Q E _ hr h => ?_)
  · obtain ⟨_, _, _, _, rfl, _⟩ := h
    rfl
  · obtain ⟨h, c, s, f, rfl, hs, good, hc, hlen, q⟩ := h
    refine ⟨_, (pss_cons (ps_setLc (i := 2) (own := [("number", 3)]) (g := gName 3) (tt := tYes) rfl sc_potentials_for_members.nd rfl rfl (sw_true rfl rfl rfl (by decide +kernel)) (pi_list (pv 1)) (blkOk_by (own := [("number", 3)]) (N := ["house", "numbers", "fitting", "number"]) (sc := defScope s_potentials_for_members) (by decide +kernel)) (fun _ _ _ _ _ => (pg_name (i := 3) sc_potentials_for_members.nd rfl (.inl rfl))) (fun _ _ _ _ _ => pts_nil) (fun _ _ _ _ _ => (pe_c c_within hr (by decide) rfl (pa_cons (pv 3) (pa_cons (pe_un un_neg (pe_gc rfl T.c_FARTHEST_POTENTIAL)) (pa_cons (pe_gc rfl T.c_FARTHEST_POTENTIAL) pa_nil))))))
      (pss_one (ps_ret (pe_and (pe_cmpR op_eq (pe_callB call_len_seq (by rfl) T.m_len (by decide +kernel) (pa_cons (pv 1) pa_nil)) (pe_callB call_len_seq (by rfl) T.m_len (by decide +kernel) (pa_cons (pe_mt0 c_members hr (by decide) (pv 0)) pa_nil)) (nomark _)) (pe_one (pe_callB (cr_all rfl) (by rfl) T.m_all (by decide +kernel) (pa_cons (pv 2) pa_nil))))))), ?_⟩
    have e1 : (f.map V.int).length = f.length := List.length_map _
    refine ⟨_, rfl, c, rfl, ⟨_, SqL.of hc⟩, fun z nz => lc_list (K := K) (a := c) (xs := f.map V.int) (fun i H' => Same H H' ∧ H' z = some (.lst (((f.take i).map fun x => inR x (-1000000) 1000000).map V.bl))) ⟨same_upd nz, upd_same⟩ (fun i H' _ h => SqL.of (h.1 _ _ hc)) ?_ ?_⟩
    · rintro k x H' hx ⟨s5, hz⟩
      obtain ⟨n, hn, rfl⟩ := map_get hx
      refine ⟨rfl, _, rfl, _, rfl, n, -1000000, 1000000, rfl, _, hz, sl ?_, fun b o e => ?_, ?_⟩
      · rw [List.length_map, List.length_map, List.length_take]
        omega
      · rw [upd_ne (ne_of_none e nz)]
        exact s5 _ _ e
      · rw [upd_same, take_more hn, List.map_append, List.map_append]
        rfl
    · rintro H1 ⟨s1, hz⟩
      rw [e1, List.take_length] at hz
      have hs1 := hs.same s1
      obtain ⟨dx, b, kv, ks, ad, a⟩ := id hs1
      refine ⟨_, rfl, c, _, rfl, .inl (SqL.of (s1 _ _ hc)), _, rfl, h, dx, _, rfl, a.hou, rfl, h, s, rfl, hs1, good, fun H2 p s2 np hp => ?_⟩
      have e2 : (natL (Vbchad.membersOf s)).length = (Vbchad.membersOf s).length := List.length_map _
      refine ⟨p, _, rfl, .inl (SqL.of hp), rfl, _, rfl, ?_⟩
      rw [e1, e2]
      have q2 := q H2 (s1.trans s2)
      unfold Vbchad.potentialsIn at q2
      refine ite2 (fun cc => ?_) (fun cc => ?_)
      · have hl : f.length = (Vbchad.membersOf s).length := Int.ofNat.inj (V.int.inj (of_decide_eq_true cc))
        refine ⟨_, rfl, z, _, rfl, SqL.of (s2 _ _ hz), ?_⟩
        rw [decide_eq_true (show f.length = (Vbchad.membersOf (⟨s⟩ : Vbchad.State).trades).length from hl), Bool.true_and] at q2
        rw [List.all_map]
        exact q2
      · have hl : ¬ f.length = (Vbchad.membersOf s).length := fun e => cc (decide_eq_true (congrArg (fun (n : Nat) => V.int (n : Int)) e))
        rw [decide_eq_false (show ¬ f.length = (Vbchad.membersOf (⟨s⟩ : Vbchad.State).trades).length from hl), Bool.false_and] at q2
        exact q2
end
end Vb
end

section
/-! # calls.py: drop, floor, worth, take, greatest -/
namespace Vb
open PySem PySem.Spec PyProof.Rows L2 Nw LamX
theorem told_room (s : List Trd) : (Vbchad.told s).length = s.length ∧ ∀ (i : Nat) (t : Trd), s[i]? = some t → (Vbchad.told s).getD i 0 ≤ Vbchad.room t := by
  obtain ⟨h1, h2⟩ := told_lex s
  refine ⟨h1, fun i t ht => ?_⟩
  have hi := (List.getElem?_eq_some_iff.mp ht).1
  have h3 := (h2.opt.1.fits i hi).2
  have h4 : (fl (Vbchad.told s) i : Int) = ((Vbchad.told s).getD i 0 : Nat) := rfl
  have h5 : ((netOf s).r i : Int) = (Vbchad.room t : Int) := by
    show (Vbchad.room (tr s i) : Int) = _
    unfold tr
    rw [List.getD_eq_getElem?_getD, ht]
    rfl
  omega
theorem told_sum (s : List Trd) : ((Vbchad.told s).map fun (n : Nat) => (n : Int)).sum = (Vbchad.greatestOf s : Int) := by
  obtain ⟨h1, h2⟩ := told_lex s
  refine sum_opt (by rw [List.length_map]; exact h1) ?_
  rw [gl_fl]
  exact h2.opt
section
variable {P : Program} {w : World} {K : PySem.W.Frag} {mg : Str → Option Value} {base : Heap} {TC HC Pt : Addr}
theorem c_answer_drop (T : Tc K mg TC HC) (D : DefAt K mg "answer_drop" s_answer_drop ["house", "arguments"]) (c_within : Cal P w K mg base 1 "within" spWithin) (c_has : Met P w K mg base 1 HC "has" (spHas TC HC)) (c_entry : Met P w K mg base 1 HC "entry" (spEntry TC HC))
    (c_strike : Met P w K mg base 1 HC "strike" (spStrike TC HC)) : Cal P w K mg base 2 "answer_drop" (spAns TC HC Pt (g1 .drop)) := by
  refine cal_of D sc_answer_drop (fun vs H Q E h => ?_) (fun fa cdv A outer sh H vs Q E _ hr h => ?_)
  · obtain ⟨_, _, _, _, _, _, rfl, _⟩ := h
    rfl
  · obtain ⟨h, a, s, xs, rs, c, rfl, hs, good, tab, hA, ⟨k, rfl, rfl, rfl⟩, ans⟩ := h
    obtain ⟨dx, b, kv, ks, ad, at_⟩ := id hs
    refine ⟨_, (pss_cons (ps_set (i := 2) sc_answer_drop.nd rfl (.inl rfl) (pe_ix ix_list (pv 1) pe_int (fun _ _ => rfl)))
      (pss_cons (ps_if (pt_not (pt_val (pe_c c_within hr (by decide) rfl (pa_cons (pv 2) (pa_cons pe_int (pa_cons (pe_gc rfl T.c_MOST) pa_nil)))))) (pss_one (ps_ret (pe_lst (pa_cons (pe_gc rfl T.c_OUT_OF_RANGE) pa_nil)))) pss_nil)
      (pss_cons (ps_if (pt_not (pt_val (pe_mt c_has hr (by decide) (pv 0) (pa_cons (pv 2) pa_nil)))) (pss_one (ps_ret (pe_lst (pa_cons (pe_gc rfl T.c_NOT_THERE) pa_nil)))) pss_nil)
      (pss_cons (ps_set (i := 3) sc_answer_drop.nd rfl (.inl rfl) (pe_fldK (K := K) rfl (pe_mt c_entry hr (by decide) (pv 0) (pa_cons (pv 2) pa_nil)) rfl))
      (pss_cons (ps_expr (pe_mt c_strike hr (by decide) (pv 0) (pa_cons (pv 2) pa_nil)))
      (pss_one (ps_ret (pe_lst (pa_cons (pv 3) pa_nil))))))))), ?_⟩
    refine ⟨_, rfl, a, _, 0, _, rfl, rfl, SqL.of hA.ints, rfl, ?_⟩
    refine ⟨_, rfl, k, 1, 1000000000, rfl, _, rfl, ite2 (fun cc => ?_) (fun cc => ?_)⟩
    · exact ans.ret1 (on_out (by rw [keyed_eq]; simpa using cc)) (FrK.refl h H) tab hs
    · have ck : inR k 1 1000000000 = true := by simpa using cc
      obtain ⟨k, rfl⟩ := inR_nat (by decide) ck
      refine ⟨_, rfl, h, dx, _, rfl, at_.hou, rfl, _, rfl, h, s, k, rfl, hs, fun r hrr => ⟨_, rfl, ite2 (fun c2 => ?_) (fun c2 => ?_)⟩⟩
      · exact ans.ret1 (on_none ck fun z => by rw [hrr.mpr z] at c2; cases c2) (FrK.refl h H) tab hs
      · obtain ⟨t, ht, rfl⟩ := hrr.mp (by simpa using c2)
        refine ⟨_, rfl, h, dx, _, rfl, at_.hou, rfl, _, rfl, h, s, t, rfl, hs, ht, fun x ⟨d, hx⟩ => ⟨x, TC, d, _, _, rfl, hx, T.clT, T.nT_amount, rfl, ?_⟩⟩
        refine ⟨_, rfl, h, dx, _, rfl, at_.hou, rfl, _, rfl, h, s, t, dx, b, kv, ks, ad, rfl, at_.w, ht, fun H1 ks1 fr1 W1 => ?_⟩
        exact ⟨_, rfl, ans.ret1 (on_some ck good.nodup ht) (FrK.non fr1.fr W1.hou) (FrM.tt tab fr1) ⟨dx, b, _, _, _, W1.at (.inl rfl)⟩⟩
theorem c_answer_floor (T : Tc K mg TC HC) (D : DefAt K mg "answer_floor" s_answer_floor ["house", "arguments"]) (c_within : Cal P w K mg base 1 "within" spWithin) (c_has : Met P w K mg base 1 HC "has" (spHas TC HC)) (c_entry : Met P w K mg base 1 HC "entry" (spEntry TC HC))
    (c_set_least : Met P w K mg base 1 HC "set_least" (spSetL TC HC)) : Cal P w K mg base 2 "answer_floor" (spAns TC HC Pt (g2 .keepLeast)) := by
  refine cal_of D sc_answer_floor (fun vs H Q E h => ?_) (fun fa cdv A outer sh H vs Q E _ hr h => ?_)
  · obtain ⟨_, _, _, _, _, _, rfl, _⟩ := h
    rfl
  · obtain ⟨h, a, s, xs, rs, c, rfl, hs, good, tab, hA, ⟨k, n, rfl, rfl, rfl⟩, ans⟩ := h
    obtain ⟨dx, b, kv, ks, ad, at_⟩ := id hs
    refine ⟨_, (pss_cons (ps_asg (pv 1) (pg_unl rfl (pgs_cons (pg_name (i := 2) sc_answer_floor.nd rfl (.inl rfl)) (pgs_cons (pg_name (i := 3) sc_answer_floor.nd rfl (.inl rfl)) pgs_nil))))
      (pss_cons (ps_if (PW.pt (pw_or (pt_not (pt_val (pe_c c_within hr (by decide) rfl (pa_cons (pv 2) (pa_cons pe_int (pa_cons (pe_gc rfl T.c_MOST) pa_nil)))))) (pw_or1 (pt_not (pt_val (pe_c c_within hr (by decide) rfl (pa_cons (pv 3) (pa_cons pe_int (pa_cons (pe_gc rfl T.c_MOST) pa_nil))))))))) (pss_one (ps_ret (pe_lst (pa_cons (pe_gc rfl T.c_OUT_OF_RANGE) pa_nil)))) pss_nil)
      (pss_cons (ps_if (pt_not (pt_val (pe_mt c_has hr (by decide) (pv 0) (pa_cons (pv 2) pa_nil)))) (pss_one (ps_ret (pe_lst (pa_cons (pe_gc rfl T.c_NOT_THERE) pa_nil)))) pss_nil)
      (pss_cons (ps_if (pt_cmpR op_gt (pv 3) (pe_fldK (K := K) rfl (pe_mt c_entry hr (by decide) (pv 0) (pa_cons (pv 2) pa_nil)) rfl) (nomark _)) (pss_one (ps_ret (pe_lst (pa_cons (pe_gc rfl T.c_UNFIT) pa_nil)))) pss_nil)
      (pss_cons (ps_expr (pe_mt c_set_least hr (by decide) (pv 0) (pa_cons (pv 2) (pa_cons (pv 3) pa_nil))))
      (pss_one (ps_ret (pe_lst (pa_cons pe_int pa_nil))))))))), ?_⟩
    refine ⟨_, rfl, a, _, rfl, SqL.of hA.ints, rfl, _, _, rfl, _, _, rfl, rfl, ?_⟩
    have st : ∀ f, Vbchad.step ⟨s⟩ (.keepLeast k n) = f → Vbchad.step ⟨s⟩ (.keepLeast k n) = f := fun _ h => h
    have out1 : inR k 1 1000000000 = false → Vbchad.step ⟨s⟩ (.keepLeast k n) = (⟨s⟩, [-1]) := fun h => by
      show (if Vbchad.within n 0 Vbchad.MONEY = false then _ else _) = _
      split
      · rfl
      · exact on_out h
    have out2 : inR n 0 1000000000 = false → Vbchad.step ⟨s⟩ (.keepLeast k n) = (⟨s⟩, [-1]) := fun h => by
      show (if Vbchad.within n 0 Vbchad.MONEY = false then _ else _) = _
      rw [money_eq, if_pos h]
    have inn : inR n 0 1000000000 = true → Vbchad.step ⟨s⟩ (.keepLeast k n) = Vbchad.onTrade ⟨s⟩ k fun t => if (t.amount : Int) < n then (⟨s⟩, [-3]) else (⟨s.map fun x => if x.key = t.key then { x with least := n.toNat } else x⟩, [0]) := fun h => by
      show (if Vbchad.within n 0 Vbchad.MONEY = false then _ else _) = _
      rw [money_eq, if_neg (by rw [h]; exact fun z => by cases z)]
    refine ⟨_, rfl, k, 1, 1000000000, rfl, _, rfl, ite2 (fun cc => ?_) (fun cc => ?_)⟩
    · exact ite2 (fun _ => ans.ret1 (out1 (by simpa using cc)) (FrK.refl h H) tab hs) (fun z => absurd rfl z)
    · have ck : inR k 1 1000000000 = true := by simpa using cc
      refine ⟨_, rfl, n, 0, 1000000000, rfl, _, rfl, ite2 (fun cc => ?_) (fun cc => ?_)⟩
      · exact ans.ret1 (out2 (by simpa using cc)) (FrK.refl h H) tab hs
      · have cn : inR n 0 1000000000 = true := by simpa using cc
        obtain ⟨k, rfl⟩ := inR_nat (by decide) ck
        obtain ⟨n, rfl⟩ := inR_nat (by decide) cn
        refine ⟨_, rfl, h, dx, _, rfl, at_.hou, rfl, _, rfl, h, s, k, rfl, hs, fun r hrr => ⟨_, rfl, ite2 (fun c2 => ?_) (fun c2 => ?_)⟩⟩
        · exact ans.ret1 ((inn cn).trans (on_none ck fun z => by rw [hrr.mpr z] at c2; cases c2)) (FrK.refl h H) tab hs
        · obtain ⟨t, ht, rfl⟩ := hrr.mp (by simpa using c2)
          refine ⟨_, rfl, _, rfl, h, dx, _, rfl, at_.hou, rfl, _, rfl, h, s, t, rfl, hs, ht, fun x ⟨d, hx⟩ => ⟨x, TC, d, _, _, rfl, hx, T.clT, T.nT_amount, rfl, _, _, rfl, rfl, _, rfl, ite2 (fun c3 => ?_) (fun c3 => ?_)⟩⟩
          · have lt : (t.amount : Int) < (n : Int) := of_decide_eq_true c3
            refine ans.ret1 ((inn cn).trans ((on_some ck good.nodup ht).trans ?_)) (FrK.refl h H) tab hs
            rw [if_pos lt]
          · have nlt : ¬ (t.amount : Int) < (n : Int) := fun z => c3 (decide_eq_true z)
            refine ⟨_, rfl, h, dx, _, rfl, at_.hou, rfl, _, rfl, _, rfl, h, s, t, n, rfl, hs, good, ht, fun H1 fr1 fk1 hs1 => ?_⟩
            refine ans.ret1 ((inn cn).trans ((on_some ck good.nodup ht).trans ?_)) fk1 (FrM.tt tab fr1) hs1
            rw [if_neg nlt]
            rfl
theorem c_answer_worth (T : Tc K mg TC HC) (D : DefAt K mg "answer_worth" s_answer_worth ["house", "arguments"]) (c_within : Cal P w K mg base 1 "within" spWithin) (c_has : Met P w K mg base 1 HC "has" (spHas TC HC))
    (c_worth : Met P w K mg base 8 HC "worth" (spWorthM TC HC Pt)) : Cal P w K mg base 9 "answer_worth" (spAns TC HC Pt (g1 .worth)) := by
  refine cal_of D sc_answer_worth (fun vs H Q E h => ?_) (fun fa cdv A outer sh H vs Q E _ hr h => ?_)
  · obtain ⟨_, _, _, _, _, _, rfl, _⟩ := h
    rfl
  · obtain ⟨h, a, s, xs, rs, c, rfl, hs, good, tab, hA, ⟨k, rfl, rfl, rfl⟩, ans⟩ := h
    obtain ⟨dx, b, kv, ks, ad, at_⟩ := id hs
    refine ⟨_, (pss_cons (ps_set (i := 2) sc_answer_worth.nd rfl (.inl rfl) (pe_ix ix_list (pv 1) pe_int (fun _ _ => rfl)))
      (pss_cons (ps_if (pt_not (pt_val (pe_c c_within hr (by decide) rfl (pa_cons (pv 2) (pa_cons pe_int (pa_cons (pe_gc rfl T.c_MOST) pa_nil)))))) (pss_one (ps_ret (pe_lst (pa_cons (pe_gc rfl T.c_OUT_OF_RANGE) pa_nil)))) pss_nil)
      (pss_cons (ps_if (pt_not (pt_val (pe_mt c_has hr (by decide) (pv 0) (pa_cons (pv 2) pa_nil)))) (pss_one (ps_ret (pe_lst (pa_cons (pe_gc rfl T.c_NOT_THERE) pa_nil)))) pss_nil)
      (pss_one (ps_ret (pe_lst (pa_cons (pe_mt c_worth hr (by decide) (pv 0) (pa_cons (pv 2) pa_nil)) pa_nil))))))), ?_⟩
    refine ⟨_, rfl, a, _, 0, _, rfl, rfl, SqL.of hA.ints, rfl, ?_⟩
    refine ⟨_, rfl, k, 1, 1000000000, rfl, _, rfl, ite2 (fun cc => ?_) (fun cc => ?_)⟩
    · exact ans.ret1 (on_out (by rw [keyed_eq]; simpa using cc)) (FrK.refl h H) tab hs
    · have ck : inR k 1 1000000000 = true := by simpa using cc
      obtain ⟨k, rfl⟩ := inR_nat (by decide) ck
      refine ⟨_, rfl, h, dx, _, rfl, at_.hou, rfl, _, rfl, h, s, k, rfl, hs, fun r hrr => ⟨_, rfl, ite2 (fun c2 => ?_) (fun c2 => ?_)⟩⟩
      · exact ans.ret1 (on_none ck fun z => by rw [hrr.mpr z] at c2; cases c2) (FrK.refl h H) tab hs
      · obtain ⟨t, ht, rfl⟩ := hrr.mp (by simpa using c2)
        refine ⟨_, rfl, h, dx, _, rfl, at_.hou, rfl, _, rfl, h, s, t, rfl, hs, good, tab, ht, fun H1 fr1 tab1 hs1 => ?_⟩
        exact ans.ret1 (on_some ck good.nodup ht) fr1 tab1 hs1
theorem c_answer_take (T : Tc K mg TC HC) (D : DefAt K mg "answer_take" s_answer_take ["house", "arguments"]) (c_reduction : Met P w K mg base 6 HC "reduction" (spReduc TC HC Pt)) (c_lessen : Met P w K mg base 2 HC "lessen" (spLessen TC HC)) :
    Cal P w K mg base 7 "answer_take" (spAns TC HC Pt (g0 .take)) := by
  refine cal_of D sc_answer_take (fun vs H Q E h => ?_) (fun fa cdv A outer sh H vs Q E _ hr h => ?_)
  · obtain ⟨_, _, _, _, _, _, rfl, _⟩ := h
    rfl
  · obtain ⟨h, a, s, xs, rs, c, rfl, hs, good, tab, hA, ⟨rfl, rfl, rfl⟩, ans⟩ := h
    obtain ⟨dx, b, kv, ks, ad, at_⟩ := id hs
    refine ⟨_, (pss_cons (ps_set (i := 2) sc_answer_take.nd rfl (.inl rfl) (pe_mt0 c_reduction hr (by decide) (pv 0)))
      (pss_cons (ps_expr (pe_mt c_lessen hr (by decide) (pv 0) (pa_cons (pv 2) pa_nil)))
      (pss_one (ps_ret (pe_lst (pa_cons (pe_callB (cr_sum rfl) (by rfl) T.m_sum (by decide +kernel) (pa_cons (pv 2) pa_nil)) pa_nil)))))), ?_⟩
    refine ⟨_, rfl, h, dx, _, rfl, at_.hou, rfl, h, s, rfl, hs, good, tab, fun H1 l fr1 tab1 hs1 _ hl1 => ?_⟩
    obtain ⟨dx1, b1, kv1, ks1, ad1, at1⟩ := id hs1
    obtain ⟨r1, r2⟩ := told_room s
    refine ⟨_, rfl, h, dx1, _, rfl, at1.hou, rfl, _, rfl, h, l, s, Vbchad.told s, rfl, hs1, good, hl1, r1, r2, fun H2 fr2 fk2 hs2 => ?_⟩
    refine ⟨_, rfl, l, (Vbchad.told s).map fun (n : Nat) => (n : Int), rfl, by rw [← natL_eq]; exact SqL.of (fr2 _ _ trivial hl1), ?_⟩
    rw [told_sum]
    exact ans.ret1 rfl (fr1.trans fk2) (FrM.tt tab1 fr2) hs2
theorem c_answer_greatest (T : Tc K mg TC HC) (D : DefAt K mg "answer_greatest" s_answer_greatest ["house", "arguments"]) (c_reduction : Met P w K mg base 6 HC "reduction" (spReduc TC HC Pt)) :
    Cal P w K mg base 7 "answer_greatest" (spAns TC HC Pt (g0 .greatest)) := by
  refine cal_of D sc_answer_greatest (fun vs H Q E h => ?_) (fun fa cdv A outer sh H vs Q E _ hr h => ?_)
  · obtain ⟨_, _, _, _, _, _, rfl, _⟩ := h
    rfl
  · obtain ⟨h, a, s, xs, rs, c, rfl, hs, good, tab, hA, ⟨rfl, rfl, rfl⟩, ans⟩ := h
    obtain ⟨dx, b, kv, ks, ad, at_⟩ := id hs
    refine ⟨_, (pss_one (ps_ret (pe_lst (pa_cons (pe_callB (cr_sum rfl) (by rfl) T.m_sum (by decide +kernel) (pa_cons (pe_mt0 c_reduction hr (by decide) (pv 0)) pa_nil)) pa_nil)))), ?_⟩
    refine ⟨_, rfl, h, dx, _, rfl, at_.hou, rfl, h, s, rfl, hs, good, tab, fun H1 l fr1 tab1 hs1 _ hl1 => ?_⟩
    refine ⟨l, (Vbchad.told s).map fun (n : Nat) => (n : Int), rfl, by rw [← natL_eq]; exact SqL.of hl1, ?_⟩
    rw [told_sum]
    exact ans.ret1 rfl fr1 tab1 hs1
end
end Vb
end

section
/-! # calls.py: net, gross, members, between -/
namespace Vb
open PySem PySem.Spec PyProof.Rows L2 Nw LamX
/-- [.. for t in trades if ..] -/
theorem lc_trs {K : PySem.W.Frag} {TC p D : Addr} {s : List Trd} {xs : List V} {gg : TG} {tt : L2.TT} {te : TE} {vs : List Nat} {σ : L2.St} {H1 : Hp} {Qd : Hp → Prop} (c : Trd → Bool) (g : Trd → Int) (nz : H1 D = none) (hp : H1 p = some (.lst xs)) (hxl : xs.length = s.length)
    (hxs : ∀ (i : Nat) (t : Trd), s[i]? = some t → ∃ x, xs[i]? = some (V.ref x) ∧ TrAt TC H1 x t) (hl : s.length ≤ 1000)
    (hs : ∀ (t : Trd) (x d : Addr) (H' : Hp) (Qe Qn : Hp → Prop), t ∈ s → Same H1 H' → H' x = some (.ins TC d (trF t)) → (c t = true → ∃ acc, H' D = some (.lst acc) ∧ acc.length < sizeLine ∧ Qe (upd H' D (.lst (acc ++ [.int (g t)])))) → (c t = false → Qn H') →
      gg (.ref x) (wipe σ vs) H' fun σ2 H2 => wipe σ2 vs = wipe σ vs ∧ tt σ2 H2 fun b H3 => if b = true then te σ2 H3 fun y H4 => ∃ acc, H4 D = some (.lst acc) ∧ acc.length < sizeLine ∧ Qe (upd H4 D (.lst (acc ++ [y]))) else Qn H3)
    (hd : ∀ H', Same H1 H' → H' D = some (.lst (((s.filter c).map g).map V.int)) → Qd H') :
    ∃ W : Nat → Nat → Hp → Prop, (∃ m, W 0 m (upd H1 D (.lst []))) ∧ ∀ i m H, W i m H →
      ((Itl K p).stop i H ∧ Qd H) ∨ ((Itl K p).go i H ∧ ∃ Nx : Hp → Prop, (∀ H', Nx H' → ∃ m', m' < m ∧ W (i + 1) m' H') ∧ ∀ x H', (Itl K p).yld i H x H' → gg x (wipe σ vs) H' fun σ2 H2 => wipe σ2 vs = wipe σ vs ∧ tt σ2 H2 fun b H3 =>
        if b = true then te σ2 H3 fun y H4 => ∃ acc, H4 D = some (.lst acc) ∧ acc.length < sizeLine ∧ Nx (upd H4 D (.lst (acc ++ [y]))) else Nx H3) := by
  refine lc_list (K := K) (a := p) (xs := xs) (fun k H' => Same H1 H' ∧ H' D = some (.lst ((((s.take k).filter c).map g).map V.int))) ⟨same_upd nz, upd_same⟩ (fun i H' _ h => SqL.of (h.1 _ _ hp)) ?_ ?_
  · rintro k x H' hx ⟨s5, hz⟩
    obtain ⟨t, x, ht, rfl, htr⟩ := trs_at hxl hxs hx
    obtain ⟨dt, htr5⟩ := htr.same s5
    have htm : t ∈ s := List.mem_of_getElem? ht
    refine hs t x dt H' (fun H' => Same H1 H' ∧ H' D = some (.lst ((((s.take (k + 1)).filter c).map g).map V.int))) (fun H' => Same H1 H' ∧ H' D = some (.lst ((((s.take (k + 1)).filter c).map g).map V.int))) htm s5 htr5 (fun hc => ⟨_, hz, sl ?_, fun b o e => ?_, ?_⟩) fun hc => ⟨s5, ?_⟩
    · rw [List.length_map, List.length_map]
      have h3 := List.length_filter_le c (s.take k)
      rw [List.length_take] at h3
      omega
    · rw [upd_ne (ne_of_none e nz)]
      exact s5 _ _ e
    · rw [upd_same, take_more ht, List.filter_append, List.filter_cons_of_pos hc, List.filter_nil, List.map_append, List.map_append]
      rfl
    · rw [take_more ht, List.filter_append, List.filter_cons_of_neg (by rw [hc]; exact Bool.false_ne_true), List.filter_nil, List.append_nil]
      exact hz
  · rintro H' ⟨s5, hz⟩
    rw [hxl, List.take_length] at hz
    exact hd H' s5 hz
theorem out_amt (m : Nat) : ∀ s : List Trd, ((s.filter fun t => decide (t.from_ = m)).map fun t => (t.amount : Int)).sum = (Vbchad.outOf s (s.map fun t => t.amount) m : Int)
  | [] => rfl
  | t :: s => by
    have e : Vbchad.outOf (t :: s) ((t :: s).map fun t => t.amount) m = (if t.from_ = m then t.amount else 0) + Vbchad.outOf s (s.map fun t => t.amount) m := rfl
    rw [e, Int.natCast_add, ← out_amt m s, List.filter_cons]
    by_cases c : t.from_ = m
    · rw [if_pos c, if_pos (decide_eq_true c), List.map_cons, List.sum_cons]
    · rw [if_neg c, if_neg (by rw [decide_eq_false c]; exact Bool.false_ne_true), Int.natCast_zero, Int.zero_add]
theorem into_amt (m : Nat) : ∀ s : List Trd, ((s.filter fun t => decide (t.to = m)).map fun t => (t.amount : Int)).sum = (Vbchad.into s (s.map fun t => t.amount) m : Int)
  | [] => rfl
  | t :: s => by
    have e : Vbchad.into (t :: s) ((t :: s).map fun t => t.amount) m = (if t.to = m then t.amount else 0) + Vbchad.into s (s.map fun t => t.amount) m := rfl
    rw [e, Int.natCast_add, ← into_amt m s, List.filter_cons]
    by_cases c : t.to = m
    · rw [if_pos c, if_pos (decide_eq_true c), List.map_cons, List.sum_cons]
    · rw [if_neg c, if_neg (by rw [decide_eq_false c]; exact Bool.false_ne_true), Int.natCast_zero, Int.zero_add]
theorem sum_nat (f : Trd → Nat) (s : List Trd) : (s.map fun t => (f t : Int)).sum = (Vbchad.sum (s.map f) : Int) := by
  rw [← sum_int, List.map_map]
  rfl
theorem filt_true (s : List Trd) : s.filter (fun _ => true) = s := List.filter_eq_self.mpr fun _ _ => rfl
theorem dec_nat {a b : Nat} : decide (V.int (a : Int) = V.int (b : Int)) = decide (a = b) := by
  by_cases c : a = b
  · subst c
    rw [decide_eq_true rfl, decide_eq_true rfl]
  · rw [decide_eq_false c, decide_eq_false (show ¬ V.int (a : Int) = V.int (b : Int) from fun e => c (Int.ofNat.inj (V.int.inj e)))]
section
variable {P : Program} {w : World} {K : PySem.W.Frag} {mg : Str → Option Value} {base : Heap} {TC HC Pt : Addr}
theorem c_answer_net (T : Tc K mg TC HC) (D : DefAt K mg "answer_net" s_answer_net ["house", "arguments"]) (c_within : Cal P w K mg base 1 "within" spWithin) (c_listed : Met P w K mg base 2 HC "listed" (spListed TC HC)) : Cal P w K mg base 3 "answer_net" (spAns TC HC Pt (g1 .net)) := by
  refine cal_of D sc_answer_net (fun vs H Q E h => ?_) (fun fa cdv A outer sh H vs Q E _ hr h => ?_)
  · obtain ⟨_, _, _, _, _, _, rfl, _⟩ := h
    rfl
  · obtain ⟨h, a, s, xs, rs, c, rfl, hs, good, tab, hA, ⟨k, rfl, rfl, rfl⟩, ans⟩ := h
    obtain ⟨dx, b, kv, ks, ad, at_⟩ := id hs
    have hl := good.len
    refine ⟨_, (pss_cons (ps_set (i := 2) sc_answer_net.nd rfl (.inr rfl) (pe_ix ix_list (pv 1) pe_int (fun _ _ => rfl)))
      (pss_cons (ps_if (pt_not (pt_val (pe_c c_within hr (by decide) rfl (pa_cons (pv 2) (pa_cons pe_int (pa_cons (pe_gc rfl T.c_MOST) pa_nil)))))) (pss_one (ps_ret (pe_lst (pa_cons (pe_gc rfl T.c_OUT_OF_RANGE) pa_nil)))) pss_nil)
      (pss_cons (ps_set (i := 3) sc_answer_net.nd rfl (.inl rfl) (pe_callB (cr_sum rfl) (by rfl) T.m_sum (by decide +kernel) (pa_cons (pe_lc (own := [("trade", 4)]) (g := gName 4) rfl sc_answer_net.nd (pi_list (pe_mt0 c_listed hr (by decide) (pv 0))) (blkOk_by (own := [("trade", 4)]) (N := ["house", "arguments", "member", "given", "trade", "taken"]) (sc := defScope s_answer_net) (by decide +kernel)) (fun _ _ _ _ _ => (pg_name (i := 4) sc_answer_net.nd rfl (.inl rfl))) (fun _ _ _ _ _ => (pts_one (pt_cmpR op_eq (pe_fldK (K := K) rfl (pv 4) rfl) (pv 2) (nomark _)))) (fun _ _ _ _ _ => (pe_fldK (K := K) rfl (pv 4) rfl))) pa_nil)))
      (pss_cons (ps_set (i := 5) sc_answer_net.nd rfl (.inl rfl) (pe_callB (cr_sum rfl) (by rfl) T.m_sum (by decide +kernel) (pa_cons (pe_lc (own := [("trade", 4)]) (g := gName 4) rfl sc_answer_net.nd (pi_list (pe_mt0 c_listed hr (by decide) (pv 0))) (blkOk_by (own := [("trade", 4)]) (N := ["house", "arguments", "member", "given", "trade", "taken"]) (sc := defScope s_answer_net) (by decide +kernel)) (fun _ _ _ _ _ => (pg_name (i := 4) sc_answer_net.nd rfl (.inl rfl))) (fun _ _ _ _ _ => (pts_one (pt_cmpR op_eq (pe_fldK (K := K) rfl (pv 4) rfl) (pv 2) (nomark _)))) (fun _ _ _ _ _ => (pe_fldK (K := K) rfl (pv 4) rfl))) pa_nil)))
      (pss_one (ps_ret (pe_lst (pa_cons (pe_op op_sub (pv 3) (pv 5)) pa_nil)))))))), ?_⟩
    refine ⟨_, rfl, a, _, 0, _, rfl, rfl, SqL.of hA.ints, rfl, ?_⟩
    refine ⟨_, rfl, k, 1, 1000000000, rfl, _, rfl, ite2 (fun cc => ?_) (fun cc => ?_)⟩
    · refine ans.ret1 ?_ (FrK.refl h H) tab hs
      show (if Vbchad.keyed k = false then _ else _) = _
      rw [keyed_eq, if_pos (by simpa using cc)]
    · have ck : inR k 1 1000000000 = true := by simpa using cc
      obtain ⟨k, rfl⟩ := inR_nat (by decide) ck
      refine ⟨_, rfl, h, dx, _, rfl, at_.hou, rfl, h, s, rfl, hs, good, fun H1 p s1 np ⟨xs, hp, hxl, hxs⟩ => ⟨p, rfl, ⟨_, SqL.of hp⟩, fun z nz => lc_trs (fun t => decide (t.from_ = k)) (fun t => (t.amount : Int)) nz hp hxl hxs (by omega) (fun t x d H' Qe Qn ht sm hx he hn => ?_) fun H2 s2 hz => ?_⟩⟩
      · refine ⟨rfl, _, rfl, x, TC, d, _, _, rfl, hx, T.clT, T.nT_giver, rfl, _, rfl, rfl, _, rfl, ?_⟩
        rw [dec_nat]
        exact ite2 (fun cc => ⟨_, rfl, x, TC, d, _, _, rfl, hx, T.clT, T.nT_amount, rfl, he cc⟩) (fun cc => hn (by simpa using cc))
      · refine ⟨z, _, rfl, SqL.of hz, ?_⟩
        have s12 := s1.trans s2
        refine ⟨_, rfl, h, dx, _, rfl, (at_.same s12).hou, rfl, h, s, rfl, hs.same s12, good, fun H3 p3 s3 np3 ⟨xs3, hp3, hxl3, hxs3⟩ => ⟨p3, rfl, ⟨_, SqL.of hp3⟩, fun z3 nz3 => lc_trs (fun t => decide (t.to = k)) (fun t => (t.amount : Int)) nz3 hp3 hxl3 hxs3 (by omega) (fun t x d H' Qe Qn ht sm hx he hn => ?_) fun H4 s4 hz4 => ?_⟩⟩
        · refine ⟨rfl, _, rfl, x, TC, d, _, _, rfl, hx, T.clT, T.nT_to, rfl, _, rfl, rfl, _, rfl, ?_⟩
          rw [dec_nat]
          exact ite2 (fun cc => ⟨_, rfl, x, TC, d, _, _, rfl, hx, T.clT, T.nT_amount, rfl, he cc⟩) (fun cc => hn (by simpa using cc))
        · refine ⟨z3, _, rfl, SqL.of hz4, ?_⟩
          have s14 := s12.trans (s3.trans s4)
          refine ⟨_, rfl, _, rfl, _, _, rfl, rfl, ?_⟩
          refine ans.ret1 ?_ (Same.frk s14) (tab.ext s14) (hs.same s14)
          show (if Vbchad.keyed (k : Int) = false then _ else _) = _
          rw [keyed_eq, if_neg (by rw [ck]; exact fun z => by cases z), out_amt, into_amt]
          rfl
theorem c_answer_gross (T : Tc K mg TC HC) (D : DefAt K mg "answer_gross" s_answer_gross ["house", "arguments"]) (c_listed : Met P w K mg base 2 HC "listed" (spListed TC HC)) (c_room : Met P w K mg base 1 TC "room" (spRoom TC)) : Cal P w K mg base 3 "answer_gross" (spAns TC HC Pt (g0 .gross)) := by
  refine cal_of D sc_answer_gross (fun vs H Q E h => ?_) (fun fa cdv A outer sh H vs Q E _ hr h => ?_)
  · obtain ⟨_, _, _, _, _, _, rfl, _⟩ := h
    rfl
  · obtain ⟨h, a, s, xs, rs, c, rfl, hs, good, tab, hA, ⟨rfl, rfl, rfl⟩, ans⟩ := h
    obtain ⟨dx, b, kv, ks, ad, at_⟩ := id hs
    have hl := good.len
    refine ⟨_, (pss_cons (ps_set (i := 2) sc_answer_gross.nd rfl (.inl rfl) (pe_mt0 c_listed hr (by decide) (pv 0)))
      (pss_one (ps_ret (pe_lst (pa_cons (pe_callB (cr_sum rfl) (by rfl) T.m_sum (by decide +kernel) (pa_cons (pe_lc (own := [("trade", 3)]) (g := gName 3) (tt := tYes) rfl sc_answer_gross.nd (pi_list (pv 2)) (blkOk_by (own := [("trade", 3)]) (N := ["house", "arguments", "trades", "trade"]) (sc := defScope s_answer_gross) (by decide +kernel)) (fun _ _ _ _ _ => (pg_name (i := 3) sc_answer_gross.nd rfl (.inl rfl))) (fun _ _ _ _ _ => pts_nil) (fun _ _ _ _ _ => (pe_fldK (K := K) rfl (pv 3) rfl))) pa_nil)) (pa_cons (pe_callB (cr_sum rfl) (by rfl) T.m_sum (by decide +kernel) (pa_cons (pe_lc (own := [("trade", 3)]) (g := gName 3) (tt := tYes) rfl sc_answer_gross.nd (pi_list (pv 2)) (blkOk_by (own := [("trade", 3)]) (N := ["house", "arguments", "trades", "trade"]) (sc := defScope s_answer_gross) (by decide +kernel)) (fun _ _ _ _ _ => (pg_name (i := 3) sc_answer_gross.nd rfl (.inl rfl))) (fun _ _ _ _ _ => pts_nil) (fun _ _ _ _ _ => (pe_mt0 c_room hr (by decide) (pv 3)))) pa_nil)) pa_nil)))))), ?_⟩
    refine ⟨_, rfl, h, dx, _, rfl, at_.hou, rfl, h, s, rfl, hs, good, fun H1 p s1 np hT => ?_⟩
    obtain ⟨xs, hp, hxl, hxs⟩ := id hT
    refine ⟨_, rfl, p, rfl, ⟨_, SqL.of hp⟩, fun z nz => lc_trs (fun _ => true) (fun t => (t.amount : Int)) nz hp hxl hxs (by omega) (fun t x d H' Qe Qn ht sm hx he hn => ⟨rfl, _, rfl, x, TC, d, _, _, rfl, hx, T.clT, T.nT_amount, rfl, he rfl⟩) fun H2 s2 hz => ?_⟩
    obtain ⟨xs, hp, hxl, hxs⟩ := hT.same s2
    refine ⟨z, _, rfl, SqL.of hz, _, rfl, p, rfl, ⟨_, SqL.of hp⟩, fun z3 nz3 => lc_trs (fun _ => true) (fun t => (Vbchad.room t : Int)) nz3 hp hxl hxs (by omega) (fun t x d H' Qe Qn ht sm hx he hn => ⟨rfl, _, rfl, x, d, _, rfl, hx, rfl, x, t, rfl, ⟨d, hx⟩, good.le t ht, he rfl⟩) fun H3 s3 hz3 => ?_⟩
    have s13 := s1.trans (s2.trans s3)
    refine ⟨z3, _, rfl, SqL.of hz3, ?_⟩
    refine ans.ret2 ?_ (Same.frk s13) (tab.ext s13) (hs.same s13)
    rw [filt_true, sum_nat, sum_nat]
    rfl
theorem c_answer_members (T : Tc K mg TC HC) (D : DefAt K mg "answer_members" s_answer_members ["house", "arguments"]) (c_members : Met P w K mg base 4 HC "members" (spMems TC HC)) : Cal P w K mg base 5 "answer_members" (spAns TC HC Pt (g0 .members)) := by
  refine cal_of D sc_answer_members (fun vs H Q E h => ?_) (fun fa cdv A outer sh H vs Q E _ hr h => ?_)
  · obtain ⟨_, _, _, _, _, _, rfl, _⟩ := h
    rfl
  · obtain ⟨h, a, s, xs, rs, c, rfl, hs, good, tab, hA, ⟨rfl, rfl, rfl⟩, ans⟩ := h
    obtain ⟨dx, b, kv, ks, ad, at_⟩ := id hs
    have hm := good.mem
    refine ⟨_, (pss_cons (ps_set (i := 2) sc_answer_members.nd rfl (.inl rfl) (pe_mt0 c_members hr (by decide) (pv 0)))
      (pss_one (ps_ret (pe_op op_cat (pe_lst (pa_cons (pe_callB call_len_seq (by rfl) T.m_len (by decide +kernel) (pa_cons (pv 2) pa_nil)) pa_nil)) (pv 2))))), ?_⟩
    refine ⟨_, rfl, h, dx, _, rfl, at_.hou, rfl, h, s, rfl, hs, good, fun H1 m s1 nm hm1 => ?_⟩
    have e : (natL (Vbchad.membersOf s)).length = (Vbchad.membersOf s).length := List.length_map _
    refine ⟨_, rfl, m, _, rfl, .inl (SqL.of hm1), (by show 1 ≤ sizeLine; decide), fun p np => ?_⟩
    rw [e]
    have s2 := s1.trans (same_upd (o := .lst [V.int ((Vbchad.membersOf s).length : Int)]) np)
    refine ⟨_, rfl, p, m, _, _, rfl, rfl, upd_same, same_upd np _ _ hm1, ?_, fun p2 np2 => ?_⟩
    · rw [e]
      have := sl (n := (Vbchad.membersOf s).length + 1) (by omega)
      show 1 + _ ≤ _
      omega
    · have s3 := s2.trans (same_upd (o := .lst ([V.int ((Vbchad.membersOf s).length : Int)] ++ natL (Vbchad.membersOf s))) np2)
      refine ans _ p2 (Same.frk s3) (tab.ext s3) (hs.same s3) (fun ys e => by rw [s2 _ _ e] at np2; cases np2) ?_ ?_
      · rw [upd_same]
        show _ = some (HO.lst ((Vbchad.ints ((Vbchad.membersOf s).length :: Vbchad.membersOf s)).map V.int))
        unfold Vbchad.ints
        rw [List.map_cons, List.map_cons, ← natL_eq]
        rfl
      · show (Vbchad.ints ((Vbchad.membersOf s).length :: Vbchad.membersOf s)).length ≤ 300
        unfold Vbchad.ints
        rw [List.length_map, List.length_cons]
        omega
theorem c_answer_between (T : Tc K mg TC HC) (D : DefAt K mg "answer_between" s_answer_between ["house", "arguments"]) (c_within : Cal P w K mg base 1 "within" spWithin) (c_listed : Met P w K mg base 2 HC "listed" (spListed TC HC))
    (c_cancelled_between : Met P w K mg base 4 HC "cancelled_between" (spCanc TC HC)) : Cal P w K mg base 5 "answer_between" (spAns TC HC Pt (g2 .between)) := by
  refine cal_of D sc_answer_between (fun vs H Q E h => ?_) (fun fa cdv A outer sh H vs Q E _ hr h => ?_)
  · obtain ⟨_, _, _, _, _, _, rfl, _⟩ := h
    rfl
  · obtain ⟨h, a, s, xs, rs, c, rfl, hs, good, tab, hA, ⟨x, y, rfl, rfl, rfl⟩, ans⟩ := h
    obtain ⟨dx, b, kv, ks, ad, at_⟩ := id hs
    have hl := good.len
    refine ⟨_, (pss_cons (ps_asg (pv 1) (pg_unl rfl (pgs_cons (pg_name (i := 2) sc_answer_between.nd rfl (.inr rfl)) (pgs_cons (pg_name (i := 3) sc_answer_between.nd rfl (.inr rfl)) pgs_nil))))
      (pss_cons (ps_if (PW.pt (pw_or (pt_not (pt_val (pe_c c_within hr (by decide) rfl (pa_cons (pv 2) (pa_cons pe_int (pa_cons (pe_gc rfl T.c_MOST) pa_nil)))))) (pw_or1 (pt_not (pt_val (pe_c c_within hr (by decide) rfl (pa_cons (pv 3) (pa_cons pe_int (pa_cons (pe_gc rfl T.c_MOST) pa_nil))))))))) (pss_one (ps_ret (pe_lst (pa_cons (pe_gc rfl T.c_OUT_OF_RANGE) pa_nil)))) pss_nil)
      (pss_cons (ps_if (pt_cmpR op_eq (pv 2) (pv 3) (nomark _)) (pss_one (ps_ret (pe_lst (pa_cons (pe_gc rfl T.c_UNFIT) pa_nil)))) pss_nil)
      (pss_cons (ps_setLc (i := 4) (own := [("trade", 5)]) (g := gName 5) rfl sc_answer_between.nd rfl rfl (sw_true rfl rfl rfl (by decide +kernel)) (pi_list (pe_mt0 c_listed hr (by decide) (pv 0))) (blkOk_by (own := [("trade", 5)]) (N := ["house", "arguments", "one", "other", "amounts", "trade"]) (sc := defScope s_answer_between) (by decide +kernel)) (fun _ _ _ _ _ => (pg_name (i := 5) sc_answer_between.nd rfl (.inl rfl))) (fun _ _ _ _ _ => (pts_one (PW.pt (pw_and (pt_cmpR op_eq (pe_fldK (K := K) rfl (pv 5) rfl) (pv 2) (nomark _)) (pw_and1 (pt_cmpR op_eq (pe_fldK (K := K) rfl (pv 5) rfl) (pv 3) (nomark _))))))) (fun _ _ _ _ _ => (pe_fldK (K := K) rfl (pv 5) rfl)))
      (pss_one (ps_ret (pe_lst (pa_cons (pe_callB (cr_sum rfl) (by rfl) T.m_sum (by decide +kernel) (pa_cons (pv 4) pa_nil)) (pa_cons (pe_mt c_cancelled_between hr (by decide) (pv 0) (pa_cons (pv 2) (pa_cons (pv 3) pa_nil))) pa_nil))))))))), ?_⟩
    refine ⟨_, rfl, a, _, rfl, SqL.of hA.ints, rfl, _, _, rfl, _, _, rfl, rfl, ?_⟩
    have out : (Vbchad.keyed x && Vbchad.keyed y) = false → Vbchad.step ⟨s⟩ (.between x y) = (⟨s⟩, [-1]) := fun h => by
      show (if (Vbchad.keyed x && Vbchad.keyed y) = false then _ else _) = _
      rw [if_pos h]
    refine ⟨_, rfl, x, 1, 1000000000, rfl, _, rfl, ite2 (fun cc => ?_) (fun cc => ?_)⟩
    · have ck : inR x 1 1000000000 = false := by simpa using cc
      exact ite2 (fun _ => ans.ret1 (out (by rw [keyed_eq, ck]; rfl)) (FrK.refl h H) tab hs) (fun z => absurd rfl z)
    · have ck : inR x 1 1000000000 = true := by simpa using cc
      refine ⟨_, rfl, y, 1, 1000000000, rfl, _, rfl, ite2 (fun cc => ?_) (fun cc => ?_)⟩
      · have cy : inR y 1 1000000000 = false := by simpa using cc
        exact ans.ret1 (out (by rw [keyed_eq y, cy, Bool.and_false])) (FrK.refl h H) tab hs
      · have cy : inR y 1 1000000000 = true := by simpa using cc
        obtain ⟨x, rfl⟩ := inR_nat (by decide) ck
        obtain ⟨y, rfl⟩ := inR_nat (by decide) cy
        have inn : Vbchad.step ⟨s⟩ (.between (x : Int) (y : Int)) = if (x : Int) = (y : Int) then (⟨s⟩, [-3]) else (⟨s⟩, Vbchad.ints [Vbchad.sum ((s.filter fun t => t.from_ == x && t.to == y).map fun t => t.amount), Vbchad.pairRoom s x y]) := by
          show (if (Vbchad.keyed (x : Int) && Vbchad.keyed (y : Int)) = false then _ else _) = _
          rw [keyed_eq, keyed_eq, ck, cy, if_neg (by decide)]
          rfl
        refine ⟨_, rfl, _, rfl, rfl, _, rfl, ite2 (fun c2 => ?_) (fun c2 => ?_)⟩
        · refine ans.ret1 ?_ (FrK.refl h H) tab hs
          rw [inn, if_pos (V.int.inj (of_decide_eq_true c2))]
        · have nxy : ¬ (x : Int) = (y : Int) := fun e => c2 (decide_eq_true (congrArg V.int e))
          refine ⟨_, rfl, h, dx, _, rfl, at_.hou, rfl, h, s, rfl, hs, good, fun H1 p s1 np ⟨xs, hp, hxl, hxs⟩ => ⟨p, rfl, ⟨_, SqL.of hp⟩, fun z nz => lc_trs (fun t => t.from_ == x && t.to == y) (fun t => (t.amount : Int)) nz hp hxl hxs (by omega) (fun t x d H' Qe Qn ht sm hx he hn => ?_) fun H2 s2 hz => ?_⟩⟩
          · refine ⟨rfl, _, rfl, x, TC, d, _, _, rfl, hx, T.clT, T.nT_giver, rfl, _, rfl, rfl, _, rfl, ?_⟩
            rw [dec_nat]
            refine ite2 (fun cc => ?_) (fun cc => hn ?_)
            · refine ⟨_, rfl, x, TC, d, _, _, rfl, hx, T.clT, T.nT_to, rfl, _, rfl, rfl, _, rfl, ?_⟩
              rw [dec_nat]
              refine ite2 (fun c3 => ⟨_, rfl, x, TC, d, _, _, rfl, hx, T.clT, T.nT_amount, rfl, he ?_⟩) (fun c3 => hn ?_)
              · have h1 := of_decide_eq_true cc
                have h2 := of_decide_eq_true c3
                simp [h1, h2]
              · have h2 : ¬ t.to = y := fun e => c3 (decide_eq_true e)
                simp [h2]
            · rw [show (t.from_ == _) = false by simpa using cc]
              rfl
          · have s12 := s1.trans s2
            refine ⟨_, rfl, z, _, rfl, SqL.of hz, _, rfl, h, dx, _, rfl, (at_.same s12).hou, rfl, _, rfl, _, rfl, h, s, x, y, rfl, hs.same s12, good, fun H3 s3 => ?_⟩
            have s13 := s12.trans s3
            refine ans.ret2 ?_ (Same.frk s13) (tab.ext s13) (hs.same s13)
            rw [inn, if_neg nxy, sum_nat]
            rfl
end
end Vb
end

section
/-! # calls.py: told, trades, potentials -/
namespace Vb
open PySem PySem.Spec PyProof.Rows L2 Nw LamX
theorem ints_cons (a : Nat) (l : List Nat) : Vbchad.ints (a :: l) = (a : Int) :: Vbchad.ints l := rfl
theorem ints_snoc (l k : List Nat) : Vbchad.ints (l ++ k) = Vbchad.ints l ++ Vbchad.ints k := by
  unfold Vbchad.ints
  rw [List.map_append]
def fmT (x : Trd × Nat) : List Nat := [x.1.key, x.2]
theorem fm_len {α : Type} {f : α → List Nat} {n : Nat} (h : ∀ x, (f x).length ≤ n) : ∀ l : List α, (l.flatMap f).length ≤ n * l.length
  | [] => Nat.zero_le _
  | a :: l => by
    have h1 := fm_len h l
    have h2 := h a
    rw [List.flatMap_cons, List.length_append, List.length_cons, Nat.mul_succ]
    omega
section
variable {P : Program} {w : World} {K : PySem.W.Frag} {mg : Str → Option Value} {base : Heap} {TC HC Pt : Addr}
theorem c_answer_told (T : Tc K mg TC HC) (D : DefAt K mg "answer_told" s_answer_told ["house", "arguments"]) (c_order : Met P w K mg base 1 HC "order" (spOrder TC HC)) (c_reduction : Met P w K mg base 6 HC "reduction" (spReduc TC HC Pt)) :
    Cal P w K mg base 7 "answer_told" (spAns TC HC Pt (g0 .told)) := by
  refine cal_of D sc_answer_told (fun vs H Q E h => ?_) (fun fa cdv A outer sh H vs Q E _ hr h => ?_)
  · obtain ⟨_, _, _, _, _, _, rfl, _⟩ := h
    rfl
  · obtain ⟨h, a, s, xs, rs, c, rfl, hs, good, tab, hA, ⟨rfl, rfl, rfl⟩, ans⟩ := h
    obtain ⟨dx, b, kv, ks, ad, at_⟩ := id hs
    have hl := good.len
    refine ⟨_, (pss_cons (ps_set (i := 2) sc_answer_told.nd rfl (.inl rfl) (pe_mt0 c_order hr (by decide) (pv 0)))
      (pss_cons (ps_set (i := 3) sc_answer_told.nd rfl (.inl rfl) (pe_lst (pa_cons (pe_callB call_len_seq (by rfl) T.m_len (by decide +kernel) (pa_cons (pv 2) pa_nil)) pa_nil)))
      (pss_cons (ps_for PassesOwn.never rfl (pi_zip (by rfl) T.m_zip (pa_cons (pv 2) (pa_cons (pe_mt0 c_reduction hr (by decide) (pv 0)) pa_nil))) (pg_tup rfl (pgs_cons (pg_name (i := 4) sc_answer_told.nd rfl (.inl rfl)) (pgs_cons (pg_name (i := 5) sc_answer_told.nd rfl (.inl rfl)) pgs_nil))) (pss_cons (ps_expr (pe_bm PySem.F.plainAttrs_list PySem.F.slot_list_append PySem.F.type_list_append mt_append (pv 3) (pa_cons (pv 4) pa_nil)))
      (pss_one (ps_expr (pe_bm PySem.F.plainAttrs_list PySem.F.slot_list_append PySem.F.type_list_append mt_append (pv 3) (pa_cons (pv 5) pa_nil))))))
      (pss_one (ps_ret (pv 3)))))), ?_⟩
    refine ⟨_, rfl, h, dx, _, rfl, at_.hou, rfl, h, s, rfl, hs, good, fun ko nko => ?_⟩
    have s1 := same_upd (o := .lst (natL (keysL s))) nko
    have ek : (natL (keysL s)).length = s.length := by
      unfold natL keysL
      rw [List.length_map, List.length_map]
    refine ⟨_, rfl, ko, _, rfl, .inl (SqL.of upd_same), (by show 1 ≤ sizeLine; decide), fun z nz => ?_⟩
    rw [ek]
    have s2 := s1.trans (same_upd (o := .lst [V.int (s.length : Int)]) nz)
    have nzk : z ≠ ko := fun e => by
      rw [e, upd_same] at nz
      cases nz
    have nz0 : H z = none := by
      rw [upd_ne nzk] at nz
      exact nz
    have nk1 := (hs.same s1).fresh (o := .lst [V.int (s.length : Int)]) nz
    refine ⟨_, rfl, _, rfl, h, dx, _, rfl, (at_.same s2).hou, rfl, h, s, rfl, hs.same s2, good, tab.ext s2, fun H2 l fk2 tab2 hs2 nl hl2 => ?_⟩
    have hz2 : H2 z = some (.lst [V.int (s.length : Int)]) := fk2.fr _ _ trivial upd_same
    have hko2 : H2 ko = some (.lst (natL (keysL s))) := fk2.fr _ _ trivial (by rw [upd_ne (Ne.symm nzk)]; exact upd_same)
    have nk2 := fk2.nk _ _ upd_same nk1
    have nlz : l ≠ z := fun e => nl [V.int (s.length : Int)] (by rw [e]; exact upd_same)
    obtain ⟨t1, t2⟩ := told_room s
    have et : (natL (Vbchad.told s)).length = s.length := (List.length_map _).trans t1
    refine ⟨ko, l, _, _, rfl, SqL.of hko2, SqL.of hl2, for_it (walk_zip (n := s.length) (by rw [ek, et, Nat.min_self])) (fun i σ H' => ∃ v4 v5 : Option V, σ = [some (.ref h), some (.ref a), some (.ref ko), some (.ref z), v4, v5] ∧ But z H2 H' ∧
      H' z = some (.lst ((Vbchad.ints (s.length :: ((s.zip (Vbchad.told s)).take i).flatMap fmT)).map V.int))) ⟨_, _, rfl, But.refl _ _, hz2⟩ (fun i σ H' _ ⟨_, _, _, s5, _⟩ => ⟨SqL.of (s5 _ _ hko2 (Ne.symm nzk)), SqL.of (s5 _ _ hl2 nlz)⟩) ?_ ?_⟩
    · rintro i x σ H5 H6 hi ⟨v4, v5, rfl, s5, hz⟩ ⟨tp, x1, x2, rfl, ntp, rfl, e1, e2⟩
      obtain ⟨t, ht⟩ : ∃ t, s[i]? = some t := ⟨s[i], List.getElem?_eq_getElem hi⟩
      have ex1 : x1 = V.int t.key := by
        have e3 : (natL (keysL s))[i]? = some (V.int t.key) := by
          unfold natL keysL
          rw [List.getElem?_map, List.getElem?_map, ht]
          rfl
        exact Option.some.inj (e1.symm.trans e3)
      subst ex1
      have ex2 : x2 = V.int ((Vbchad.told s).getD i 0 : Nat) := by
        have e3 : (natL (Vbchad.told s))[i]? = some (V.int ((Vbchad.told s).getD i 0 : Nat)) := by
          unfold natL
          rw [List.getElem?_map, List.getD_eq_getElem?_getD, List.getElem?_eq_getElem (by omega)]
          rfl
        exact Option.some.inj (e2.symm.trans e3)
      subst ex2
      have st := same_upd (o := .tup [.int t.key, .int ((Vbchad.told s).getD i 0 : Nat)]) ntp
      have hz6 := st _ _ hz
      have hlen : ((Vbchad.ints (s.length :: ((s.zip (Vbchad.told s)).take i).flatMap fmT)).map V.int).length ≤ 200 := by
        rw [List.length_map]
        unfold Vbchad.ints
        rw [List.length_map, List.length_cons]
        have h1 := fm_len (f := fmT) (n := 2) (fun _ => Nat.le_refl _) ((s.zip (Vbchad.told s)).take i)
        have h2 := List.length_take_le' i (s.zip (Vbchad.told s))
        rw [List.length_zip, t1, Nat.min_self] at h2
        omega
      refine ⟨tp, _, rfl, SqT.of upd_same, rfl, _, _, rfl, _, _, rfl, rfl, ?_⟩
      refine ⟨_, rfl, .inl ⟨rfl, _, .inl (.inl hz6)⟩, _, rfl, z, _, _, rfl, rfl, hz6, sl (by omega), ?_⟩
      refine ⟨_, rfl, .inl ⟨rfl, _, .inl (.inl upd_same)⟩, _, rfl, z, _, _, rfl, rfl, upd_same, sl (by rw [List.length_append]; show _ + 1 ≤ _; omega), ?_⟩
      refine ⟨_, _, rfl, ?_, ?_⟩
      · rw [up2]
        refine But.upd fun c o e n => ?_
        have h5 := s5 _ _ e n
        rw [upd_ne (ne_of_none h5 ntp)]
        exact h5
      · rw [upd_same, take_more (zip_at t1 ht), List.flatMap_append, List.flatMap_singleton, ← List.cons_append, ints_snoc, List.map_append, List.append_assoc]
        rfl
    · rintro σ H3 ⟨v4, v5, rfl, s5, hz⟩
      rw [List.take_of_length_le (by rw [List.length_zip, t1, Nat.min_self]; exact Nat.le_refl _)] at hz
      refine ⟨_, rfl, ans _ z (((Same.frk s2).trans fk2).but (no_kp nz0) hz2 s5) (tabs_but tab2 hz2 (fun _ z => by cases z) (fun _ z => by cases z) s5) (hs2.but nk2 hz2 s5) (fun ys e => by rw [nz0] at e; cases e) hz ?_⟩
      show (Vbchad.ints (s.length :: (s.zip (Vbchad.told s)).flatMap fmT)).length ≤ 300
      unfold Vbchad.ints
      rw [List.length_map, List.length_cons]
      have h1 := fm_len (f := fmT) (n := 2) (fun _ => Nat.le_refl _) (s.zip (Vbchad.told s))
      rw [List.length_zip, t1, Nat.min_self] at h1
      omega
def fmF (t : Trd) : List Nat := [t.key, t.from_, t.to, t.amount, t.least]
theorem c_answer_trades (T : Tc K mg TC HC) (D : DefAt K mg "answer_trades" s_answer_trades ["house", "arguments"]) (c_order : Met P w K mg base 1 HC "order" (spOrder TC HC)) (c_entry : Met P w K mg base 1 HC "entry" (spEntry TC HC)) :
    Cal P w K mg base 2 "answer_trades" (spAns TC HC Pt (g0 .trades)) := by
  refine cal_of D sc_answer_trades (fun vs H Q E h => ?_) (fun fa cdv A outer sh H vs Q E _ hr h => ?_)
  · obtain ⟨_, _, _, _, _, _, rfl, _⟩ := h
    rfl
  · obtain ⟨h, a, s, xs, rs, c, rfl, hs, good, tab, hA, ⟨rfl, rfl, rfl⟩, ans⟩ := h
    obtain ⟨dx, b, kv, ks, ad, at_⟩ := id hs
    have hl := good.len
    refine ⟨_, (pss_cons (ps_set (i := 2) sc_answer_trades.nd rfl (.inl rfl) (pe_lst (pa_cons (pe_callB call_len_seq (by rfl) T.m_len (by decide +kernel) (pa_cons (pe_mt0 c_order hr (by decide) (pv 0)) pa_nil)) pa_nil)))
      (pss_cons (ps_for PassesOwn.never rfl (pi_list (pe_mt0 c_order hr (by decide) (pv 0))) (pg_name (i := 3) sc_answer_trades.nd rfl (.inl rfl)) (pss_cons (ps_set (i := 4) sc_answer_trades.nd rfl (.inl rfl) (pe_mt c_entry hr (by decide) (pv 0) (pa_cons (pv 3) pa_nil)))
      (pss_one (ps_expr (pe_bm PySem.F.plainAttrs_list PySem.F.slot_list_extend PySem.F.type_list_extend mt_extend (pv 2) (pa_cons (pe_lst (pa_cons (pv 3) (pa_cons (pe_fldK (K := K) rfl (pv 4) rfl) (pa_cons (pe_fldK (K := K) rfl (pv 4) rfl) (pa_cons (pe_fldK (K := K) rfl (pv 4) rfl) (pa_cons (pe_fldK (K := K) rfl (pv 4) rfl) pa_nil)))))) pa_nil))))))
      (pss_one (ps_ret (pv 2))))), ?_⟩
    have ek : (natL (keysL s)).length = s.length := by
      unfold natL keysL
      rw [List.length_map, List.length_map]
    refine ⟨_, rfl, h, dx, _, rfl, at_.hou, rfl, h, s, rfl, hs, good, fun ko nko => ⟨ko, _, rfl, .inl (SqL.of upd_same), (by show 1 ≤ sizeLine; decide), fun z nz => ?_⟩⟩
    rw [ek]
    have s1 := same_upd (o := .lst (natL (keysL s))) nko
    have s2 := s1.trans (same_upd (o := .lst [V.int (s.length : Int)]) nz)
    have nz0 : H z = none := by
      by_cases e : z = ko
      · rw [e, upd_same] at nz
        cases nz
      · rw [upd_ne e] at nz
        exact nz
    have nk1 := (hs.same s1).fresh (o := .lst [V.int (s.length : Int)]) nz
    refine ⟨_, rfl, h, dx, _, rfl, (at_.same s2).hou, rfl, h, s, rfl, hs.same s2, good, fun k2 nk2 => ?_⟩
    have s3 := s2.trans (same_upd (o := .lst (natL (keysL s))) nk2)
    have nzk : k2 ≠ z := fun e => by
      rw [e, upd_same] at nk2
      cases nk2
    obtain ⟨H2, eH2⟩ : ∃ H2, H2 = upd (upd (upd H ko (.lst (natL (keysL s)))) z (.lst [V.int (s.length : Int)])) k2 (.lst (natL (keysL s))) := ⟨_, rfl⟩
    rw [← eH2] at s3 ⊢
    have hz2 : H2 z = some (.lst [V.int (s.length : Int)]) := by
      rw [eH2, upd_ne (Ne.symm nzk)]
      exact upd_same
    have hk2 : H2 k2 = some (.lst (natL (keysL s))) := by
      rw [eH2]
      exact upd_same
    have nkk : NotKept H2 h z := by
      rw [eH2]
      exact (Same.frk (same_upd nk2)).nk _ _ upd_same nk1
    refine ⟨k2, rfl, ⟨_, SqL.of hk2⟩, for_list (K := K) (a := k2) (xs := natL (keysL s)) (fun i σ H' => ∃ v3 v4 : Option V, σ = [some (.ref h), some (.ref a), some (.ref z), v3, v4] ∧ But z H2 H' ∧
      H' z = some (.lst ((Vbchad.ints (s.length :: (s.take i).flatMap fmF)).map V.int))) ⟨_, _, rfl, But.refl _ _, hz2⟩ (fun i σ H' _ ⟨_, _, _, s5, _⟩ => SqL.of (s5 _ _ hk2 nzk)) ?_ ?_⟩
    · rintro i x σ H5 hx ⟨v3, v4, rfl, s5, hz⟩
      obtain ⟨m, hm, rfl⟩ := map_get hx
      obtain ⟨t, ht, rfl⟩ : ∃ t, s[i]? = some t ∧ t.key = m := by
        unfold keysL at hm
        rw [List.getElem?_map] at hm
        cases z : s[i]? with
        | none =>
          rw [z] at hm
          cases hm
        | some t =>
          rw [z] at hm
          exact ⟨t, rfl, Option.some.inj hm⟩
      have hs5 := (hs.same s3).but nkk hz2 s5
      obtain ⟨dx5, b5, kv5, ks5, ad5, at5⟩ := id hs5
      have hlen : ((Vbchad.ints (s.length :: (s.take i).flatMap fmF)).map V.int).length ≤ 250 := by
        rw [List.length_map]
        unfold Vbchad.ints
        rw [List.length_map, List.length_cons]
        have h1 := fm_len (f := fmF) (n := 5) (fun _ => Nat.le_refl _) (s.take i)
        have h2 := List.length_take_le' i s
        omega
      refine ⟨_, rfl, h, dx5, _, rfl, at5.hou, rfl, _, rfl, h, s, t, rfl, hs5, List.mem_of_getElem? ht, fun x ⟨d, hx⟩ => ?_⟩
      refine ⟨_, rfl, .inl ⟨rfl, _, .inl (.inl hz)⟩, _, rfl, _, rfl, x, TC, d, _, _, rfl, hx, T.clT, T.nT_giver, rfl, _, rfl, x, TC, d, _, _, rfl, hx, T.clT, T.nT_to, rfl, _, rfl, x, TC, d, _, _, rfl, hx, T.clT, T.nT_amount, rfl, _, rfl, x, TC, d, _, _, rfl, hx, T.clT, T.nT_least, rfl, (by show 5 ≤ sizeLine; decide), fun q nq => ?_⟩
      have hz6 := same_upd (o := .lst ((Vbchad.ints (fmF t)).map V.int)) nq _ _ hz
      refine ⟨z, q, _, _, rfl, rfl, hz6, upd_same, ?_, ?_⟩
      · have := sl (n := 260) (by omega)
        show _ + 5 ≤ _
        omega
      refine ⟨_, _, rfl, But.upd fun c o e n => ?_, ?_⟩
      · have h5 := s5 _ _ e n
        rw [upd_ne (ne_of_none h5 nq)]
        exact h5
      · rw [upd_same, take_more ht, List.flatMap_append, List.flatMap_singleton, ← List.cons_append, ints_snoc, List.map_append]
        rfl
    · rintro σ H3 ⟨v3, v4, rfl, s5, hz⟩
      rw [ek, List.take_length] at hz
      refine ⟨_, rfl, ans _ z ((Same.frk s3).but (no_kp nz0) hz2 s5) (tabs_but (tab.ext s3) hz2 (fun _ z => by cases z) (fun _ z => by cases z) s5) ((hs.same s3).but nkk hz2 s5) (fun ys e => by rw [nz0] at e; cases e) hz ?_⟩
      show (Vbchad.ints (s.length :: s.flatMap fmF)).length ≤ 300
      unfold Vbchad.ints
      rw [List.length_map, List.length_cons]
      have h1 := fm_len (f := fmF) (n := 5) (fun _ => Nat.le_refl _) s
      omega
def fmP (p : Nat → Int) (m : Nat) : List Int := [(m : Int), p m]
theorem fmP_len (p : Nat → Int) : ∀ l : List Nat, (l.flatMap (fmP p)).length = 2 * l.length
  | [] => rfl
  | a :: l => by
    rw [List.flatMap_cons, List.length_append, fmP_len p l, List.length_cons]
    show 2 + _ = _
    omega
theorem zip_fmP (p : Nat → Int) : ∀ l : List Nat, ((l.zip (l.map p)).flatMap fun x => [(x.1 : Int), x.2]) = l.flatMap (fmP p)
  | [] => rfl
  | a :: l => by
    rw [List.map_cons, List.zip_cons_cons, List.flatMap_cons, List.flatMap_cons, zip_fmP p l]
    rfl
theorem c_answer_potentials (T : Tc K mg TC HC) (D : DefAt K mg "answer_potentials" s_answer_potentials ["house", "arguments"]) (c_members : Met P w K mg base 4 HC "members" (spMems TC HC)) (c_potentials : Met P w K mg base 7 HC "potentials" (spPots TC HC Pt)) :
    Cal P w K mg base 8 "answer_potentials" (spAns TC HC Pt (g0 .potentials)) := by
  refine cal_of D sc_answer_potentials (fun vs H Q E h => ?_) (fun fa cdv A outer sh H vs Q E _ hr h => ?_)
  · obtain ⟨_, _, _, _, _, _, rfl, _⟩ := h
    rfl
  · obtain ⟨h, a, s, xs, rs, c, rfl, hs, good, tab, hA, ⟨rfl, rfl, rfl⟩, ans⟩ := h
    obtain ⟨dx, b, kv, ks, ad, at_⟩ := id hs
    have hl := good.mem
    refine ⟨_, (pss_cons (ps_set (i := 2) sc_answer_potentials.nd rfl (.inl rfl) (pe_mt0 c_members hr (by decide) (pv 0)))
      (pss_cons (ps_set (i := 3) sc_answer_potentials.nd rfl (.inl rfl) (pe_mt0 c_potentials hr (by decide) (pv 0)))
      (pss_cons (ps_set (i := 4) sc_answer_potentials.nd rfl (.inl rfl) (pe_lst (pa_cons (pe_callB call_len_seq (by rfl) T.m_len (by decide +kernel) (pa_cons (pv 2) pa_nil)) pa_nil)))
      (pss_cons (ps_for PassesOwn.never rfl (pi_list (pv 2)) (pg_name (i := 5) sc_answer_potentials.nd rfl (.inl rfl)) (pss_cons (ps_expr (pe_bm PySem.F.plainAttrs_list PySem.F.slot_list_append PySem.F.type_list_append mt_append (pv 4) (pa_cons (pv 5) pa_nil)))
      (pss_one (ps_expr (pe_bm PySem.F.plainAttrs_list PySem.F.slot_list_append PySem.F.type_list_append mt_append (pv 4) (pa_cons (pe_dget (hu_of hr) (pv 3) (pv 5) (fun _ _ => rfl)) pa_nil))))))
      (pss_one (ps_ret (pv 4))))))), ?_⟩
    have em : (natL (Vbchad.membersOf s)).length = (Vbchad.membersOf s).length := List.length_map _
    refine ⟨_, rfl, h, dx, _, rfl, at_.hou, rfl, h, s, rfl, hs, good, fun H1 m s1 nm hm => ?_⟩
    refine ⟨_, rfl, h, dx, _, rfl, (at_.same s1).hou, rfl, h, s, rfl, hs.same s1, good, tab.ext s1, fun H2 pd pk fk2 tab2 hs2 hpd hpk => ?_⟩
    have hm2 := fk2.fr m (.lst _) trivial hm
    refine ⟨_, rfl, m, _, rfl, .inl (SqL.of hm2), (by show 1 ≤ sizeLine; decide), fun z nz => ?_⟩
    rw [em]
    have s3 := same_upd (o := .lst [V.int ((Vbchad.membersOf s).length : Int)]) nz
    have nmz : m ≠ z := ne_of_none hm2 nz
    have nk3 := hs2.fresh (o := .lst [V.int ((Vbchad.membersOf s).length : Int)]) nz
    obtain ⟨H3, eH3⟩ : ∃ H3, H3 = upd H2 z (.lst [V.int ((Vbchad.membersOf s).length : Int)]) := ⟨_, rfl⟩
    rw [← eH3] at s3 nk3 ⊢
    have hz3 : H3 z = some (.lst [V.int ((Vbchad.membersOf s).length : Int)]) := by
      rw [eH3]
      exact upd_same
    refine ⟨_, rfl, m, rfl, ⟨_, SqL.of (s3 _ _ hm2)⟩, for_list (K := K) (a := m) (xs := natL (Vbchad.membersOf s)) (fun i σ H' => ∃ v5 : Option V, σ = [some (.ref h), some (.ref a), some (.ref m), some (.ref pd), some (.ref z), v5] ∧ But z H3 H' ∧
      H' z = some (.lst ((((Vbchad.membersOf s).length : Int) :: ((Vbchad.membersOf s).take i).flatMap (fmP (toldPot s))).map V.int))) ⟨_, rfl, But.refl _ _, hz3⟩ (fun i σ H' _ ⟨_, _, s5, _⟩ => SqL.of (s5 _ _ (s3 _ _ hm2) nmz)) ?_ ?_⟩
    · rintro i x σ H5 hx ⟨v5, rfl, s5, hz⟩
      obtain ⟨y, hy, rfl⟩ := map_get hx
      have hym : y ∈ Vbchad.membersOf s := List.mem_of_getElem? hy
      have hpd5 := s5 _ _ (s3 _ _ hpd) (ne_of (s3 _ _ hpd) hz3 (by intro z; cases z))
      have hlen : ((((Vbchad.membersOf s).length : Int) :: ((Vbchad.membersOf s).take i).flatMap (fmP (toldPot s))).map V.int).length ≤ 30 := by
        rw [List.length_map, List.length_cons, fmP_len, List.length_take]
        omega
      refine ⟨_, rfl, .inl ⟨rfl, _, .inl (.inl hz)⟩, _, rfl, z, _, _, rfl, rfl, hz, sl (by omega), ?_⟩
      have npz : pd ≠ z := ne_of (s3 _ _ hpd) hz3 (by intro z; cases z)
      refine ⟨_, rfl, .inl ⟨rfl, _, .inl (.inl upd_same)⟩, _, rfl, _, rfl, pd, _, rfl, dget_in (by rw [upd_ne npz]; exact hpd5) ((hpk y).mpr hym), z, _, _, rfl, rfl, upd_same, sl (by rw [List.length_append]; show _ + 1 ≤ _; omega), ?_⟩
      refine ⟨_, rfl, ?_, ?_⟩
      · rw [up2]
        exact But.upd s5
      · rw [upd_same, take_more hy, List.flatMap_append, List.flatMap_singleton, ← List.cons_append, List.map_append, List.append_assoc]
        rfl
    · rintro σ H5 ⟨v5, rfl, s5, hz⟩
      rw [em, List.take_length] at hz
      have fk3 : FrK h H H3 := ((Same.frk s1).trans fk2).trans (Same.frk s3)
      refine ⟨_, rfl, ans _ z (fk3.but (fun o k e => ?_) hz3 s5) (tabs_but (tab2.ext s3) hz3 (fun _ z => by cases z) (fun _ z => by cases z) s5) ((hs2.same s3).but nk3 hz3 s5) (fun ys e => by rw [fk2.fr z (.lst ys) trivial (s1 _ _ e)] at nz; cases nz) ?_ ?_⟩
      · rw [fk2.fr _ _ k (s1 _ _ e)] at nz
        cases nz
      · rw [hz]
        show _ = some (HO.lst ((((Vbchad.membersOf s).length : Int) :: ((Vbchad.membersOf s).zip (Vbchad.potentials s)).flatMap fun x => [(x.1 : Int), x.2]).map V.int))
        rw [potentials_eq, zip_fmP]
      · show (((Vbchad.membersOf s).length : Int) :: ((Vbchad.membersOf s).zip (Vbchad.potentials s)).flatMap fun x => [(x.1 : Int), x.2]).length ≤ 300
        rw [potentials_eq, zip_fmP, List.length_cons, fmP_len]
        omega
end
end Vb
end

section
/-! # calls.py: isone, apply, bound, proves -/
namespace Vb
open PySem PySem.Spec PyProof.Rows L2 Nw LamX
theorem nums_nat {s : List Trd} {f : List Int} (h : Vbchad.numbers ⟨s⟩ f = true) : ∃ g : List Nat, f = g.map (fun (n : Nat) => (n : Int)) ∧ g.length = s.length ∧ f.map Int.toNat = g := by
  unfold Vbchad.numbers at h
  rw [Bool.and_eq_true] at h
  have hl : f.length = s.length := of_decide_eq_true h.1
  have hall : ∀ z, z ∈ f → 0 ≤ z := fun z hz => by
    have h2 := List.all_eq_true.mp h.2 z hz
    rw [money_eq] at h2
    exact (inR_iff.mp h2).1
  have e : f = (f.map Int.toNat).map (fun (n : Nat) => (n : Int)) := by
    rw [List.map_map]
    refine (List.map_id _).symm.trans (List.map_congr_left fun z hz => ?_)
    have := hall z hz
    show z = ((z.toNat : Nat) : Int)
    omega
  exact ⟨f.map Int.toNat, e, by rw [List.length_map]; exact hl, rfl⟩
theorem red_g {s : List Trd} {g : List Nat} (hl : g.length = s.length) : Vbchad.isReduction s g = true ↔ Red (netOf s) (gl (g.map fun (n : Nat) => (n : Int))) := by
  rw [gl_fl, red_iff]
  exact ⟨fun h => h.2, fun h => ⟨hl, h⟩⟩
theorem red_room {s : List Trd} {g : List Nat} (hl : g.length = s.length) (h : Vbchad.isReduction s g = true) (i : Nat) (t : Trd) (ht : s[i]? = some t) : g.getD i 0 ≤ Vbchad.room t := by
  have hi := (List.getElem?_eq_some_iff.mp ht).1
  have h3 := ((red_iff.mp h).2.fits i hi).2
  have h4 : (fl g i : Int) = (g.getD i 0 : Nat) := rfl
  have h5 : ((netOf s).r i : Int) = (Vbchad.room t : Int) := by
    show (Vbchad.room (tr s i) : Int) = _
    unfold tr
    rw [List.getD_eq_getElem?_getD, ht]
    rfl
  omega
theorem g_eq {s : List Trd} {g : List Nat} : (g.map fun (n : Nat) => (n : Int)).map Int.toNat = g := by
  rw [List.map_map]
  refine (List.map_congr_left fun n _ => ?_).trans (List.map_id g)
  rfl
section
variable {P : Program} {w : World} {K : PySem.W.Frag} {mg : Str → Option Value} {base : Heap} {TC HC Pt : Addr}
theorem c_answer_isone (T : Tc K mg TC HC) (D : DefAt K mg "answer_isone" s_answer_isone ["house", "arguments"]) (c_numbers_for_trades : Cal P w K mg base 2 "numbers_for_trades" (spNums TC HC)) (c_allows : Met P w K mg base 4 HC "allows" (spAllows TC HC K)) :
    Cal P w K mg base 5 "answer_isone" (spAns TC HC Pt (gR .isOne)) := by
  refine cal_of D sc_answer_isone (fun vs H Q E h => ?_) (fun fa cdv A outer sh H vs Q E _ hr h => ?_)
  · obtain ⟨_, _, _, _, _, _, rfl, _⟩ := h
    rfl
  · obtain ⟨h, a, s, xs, rs, c, rfl, hs, good, tab, hA, ⟨r, rfl, rfl, rfl⟩, ans⟩ := h
    obtain ⟨dx, b, kv, ks, ad, at_⟩ := id hs
    obtain ⟨q, ha, hq, hql⟩ := hA.row
    refine ⟨_, (pss_cons (ps_set (i := 2) sc_answer_isone.nd rfl (.inl rfl) (pe_ix ix_list (pv 1) pe_int (fun _ _ => rfl)))
      (pss_cons (ps_if (pt_not (pt_val (pe_c c_numbers_for_trades hr (by decide) rfl (pa_cons (pv 0) (pa_cons (pv 2) pa_nil))))) (pss_one (ps_ret (pe_lst (pa_cons (pe_gc rfl T.c_OUT_OF_RANGE) pa_nil)))) pss_nil)
      (pss_one (ps_ret (pe_lst (pa_cons (pe_ifExp (pt_val (pe_mt c_allows hr (by decide) (pv 0) (pa_cons (pv 2) pa_nil))) pe_int pe_int) (pa_cons (pe_callB (cr_sum rfl) (by rfl) T.m_sum (by decide +kernel) (pa_cons (pv 2) pa_nil)) pa_nil))))))), ?_⟩
    refine ⟨_, rfl, a, _, 0, _, rfl, rfl, SqL.of ha, rfl, ?_⟩
    refine ⟨_, rfl, _, rfl, h, q, s, r, rfl, hs, good, hq, hql, fun H1 s1 => ⟨_, rfl, ite2 (fun cc => ?_) (fun cc => ?_)⟩⟩
    · refine ans.ret1 ?_ (Same.frk s1) (tab.ext s1) (hs.same s1)
      show (if Vbchad.numbers ⟨s⟩ r = false then _ else _) = _
      rw [if_pos (by simpa using cc)]
    · have cn : Vbchad.numbers ⟨s⟩ r = true := by simpa using cc
      obtain ⟨g, rfl, hg, e3⟩ := nums_nat cn
      have st : Vbchad.step ⟨s⟩ (.isOne (g.map fun (n : Nat) => (n : Int))) = (⟨s⟩, [if Vbchad.isReduction s g = true then 1 else 0, (Vbchad.sum g : Int)]) := by
        show (if Vbchad.numbers ⟨s⟩ _ = false then _ else _) = _
        rw [if_neg (by rw [cn]; exact fun z => by cases z), e3]
      refine ⟨_, rfl, h, dx, _, rfl, (at_.same s1).hou, rfl, _, rfl, h, q, s, _, rfl, hs.same s1, good, SqL.of (s1 _ _ hq), by rw [List.length_map]; exact hg, fun H2 r s2 hr => ?_⟩
      rw [← red_g hg] at hr
      have s12 := s1.trans s2
      refine ⟨_, rfl, ite2 (fun c2 => ?_) (fun c2 => ?_)⟩
      · refine ⟨_, rfl, q, _, rfl, SqL.of (s12 _ _ hq), ?_⟩
        refine ans.ret2 ?_ (Same.frk s12) (tab.ext s12) (hs.same s12)
        rw [st, if_pos (hr.mp c2), sum_int]
      · refine ⟨_, rfl, q, _, rfl, SqL.of (s12 _ _ hq), ?_⟩
        refine ans.ret2 ?_ (Same.frk s12) (tab.ext s12) (hs.same s12)
        rw [st, if_neg (fun z => c2 (hr.mpr z)), sum_int]
theorem c_answer_apply (T : Tc K mg TC HC) (D : DefAt K mg "answer_apply" s_answer_apply ["house", "arguments"]) (c_numbers_for_trades : Cal P w K mg base 2 "numbers_for_trades" (spNums TC HC)) (c_allows : Met P w K mg base 4 HC "allows" (spAllows TC HC K))
    (c_reduction : Met P w K mg base 6 HC "reduction" (spReduc TC HC Pt)) (c_lessen : Met P w K mg base 2 HC "lessen" (spLessen TC HC)) :
    Cal P w K mg base 7 "answer_apply" (spAns TC HC Pt (gR .apply)) := by
  refine cal_of D sc_answer_apply (fun vs H Q E h => ?_) (fun fa cdv A outer sh H vs Q E _ hr h => ?_)
  · obtain ⟨_, _, _, _, _, _, rfl, _⟩ := h
    rfl
  · obtain ⟨h, a, s, xs, rs, c, rfl, hs, good, tab, hA, ⟨r, rfl, rfl, rfl⟩, ans⟩ := h
    obtain ⟨dx, b, kv, ks, ad, at_⟩ := id hs
    obtain ⟨q, ha, hq, hql⟩ := hA.row
    refine ⟨_, (pss_cons (ps_set (i := 2) sc_answer_apply.nd rfl (.inl rfl) (pe_ix ix_list (pv 1) pe_int (fun _ _ => rfl)))
      (pss_cons (ps_if (pt_not (pt_val (pe_c c_numbers_for_trades hr (by decide) rfl (pa_cons (pv 0) (pa_cons (pv 2) pa_nil))))) (pss_one (ps_ret (pe_lst (pa_cons (pe_gc rfl T.c_OUT_OF_RANGE) pa_nil)))) pss_nil)
      (pss_cons (ps_if (pt_not (pt_val (pe_mt c_allows hr (by decide) (pv 0) (pa_cons (pv 2) pa_nil)))) (pss_one (ps_ret (pe_lst (pa_cons (pe_gc rfl T.c_NO_REDUCTION) pa_nil)))) pss_nil)
      (pss_cons (ps_set (i := 3) sc_answer_apply.nd rfl (.inl rfl) (pe_callB (cr_sum rfl) (by rfl) T.m_sum (by decide +kernel) (pa_cons (pe_mt0 c_reduction hr (by decide) (pv 0)) pa_nil)))
      (pss_cons (ps_expr (pe_mt c_lessen hr (by decide) (pv 0) (pa_cons (pv 2) pa_nil)))
      (pss_one (ps_ret (pe_lst (pa_cons (pe_callB (cr_sum rfl) (by rfl) T.m_sum (by decide +kernel) (pa_cons (pv 2) pa_nil)) (pa_cons (pv 3) pa_nil)))))))))), ?_⟩
    refine ⟨_, rfl, a, _, 0, _, rfl, rfl, SqL.of ha, rfl, ?_⟩
    refine ⟨_, rfl, _, rfl, h, q, s, r, rfl, hs, good, hq, hql, fun H1 s1 => ⟨_, rfl, ite2 (fun cc => ?_) (fun cc => ?_)⟩⟩
    · refine ans.ret1 ?_ (Same.frk s1) (tab.ext s1) (hs.same s1)
      show (if Vbchad.numbers ⟨s⟩ r = false then _ else _) = _
      rw [if_pos (by simpa using cc)]
    · have cn : Vbchad.numbers ⟨s⟩ r = true := by simpa using cc
      obtain ⟨g, rfl, hg, e3⟩ := nums_nat cn
      have st : Vbchad.step ⟨s⟩ (.apply (g.map fun (n : Nat) => (n : Int))) = if Vbchad.isReduction s g = false then (⟨s⟩, [-6]) else (⟨Vbchad.less s g⟩, Vbchad.ints [Vbchad.sum g, Vbchad.greatestOf s]) := by
        show (if Vbchad.numbers ⟨s⟩ _ = false then _ else _) = _
        rw [if_neg (by rw [cn]; exact fun z => by cases z), e3]
      refine ⟨_, rfl, h, dx, _, rfl, (at_.same s1).hou, rfl, _, rfl, h, q, s, _, rfl, hs.same s1, good, SqL.of (s1 _ _ hq), by rw [List.length_map]; exact hg, fun H2 r s2 hr => ?_⟩
      rw [← red_g hg] at hr
      have s12 := s1.trans s2
      refine ⟨_, rfl, ite2 (fun c2 => ?_) (fun c2 => ?_)⟩
      · refine ans.ret1 ?_ (Same.frk s12) (tab.ext s12) (hs.same s12)
        rw [st, if_pos ?_]
        cases z : Vbchad.isReduction s g
        · rfl
        · rw [hr.mpr z] at c2
          cases c2
      · have hred : Vbchad.isReduction s g = true := hr.mp (by simpa using c2)
        refine ⟨_, rfl, h, dx, _, rfl, (at_.same s12).hou, rfl, h, s, rfl, hs.same s12, good, tab.ext s12, fun H3 l fk3 tab3 hs3 _ hl3 => ?_⟩
        refine ⟨l, (Vbchad.told s).map fun (n : Nat) => (n : Int), rfl, by rw [← natL_eq]; exact SqL.of hl3, ?_⟩
        rw [told_sum]
        obtain ⟨dx3, b3, kv3, ks3, ad3, at3⟩ := id hs3
        have hq3 := fk3.fr q (.lst _) trivial (s12 _ _ hq)
        refine ⟨_, rfl, h, dx3, _, rfl, at3.hou, rfl, _, rfl, h, q, s, g, rfl, hs3, good, by rw [natL_eq]; exact hq3, hg, red_room hg hred, fun H4 fr4 fk4 hs4 => ?_⟩
        refine ⟨_, rfl, q, _, rfl, SqL.of (fr4 _ _ trivial hq3), _, rfl, ?_⟩
        rw [sum_int]
        refine ans.ret2 ?_ ((Same.frk s12).trans (fk3.trans fk4)) (FrM.tt tab3 fr4) hs4
        rw [st, if_neg (by rw [hred]; exact fun z => by cases z)]
        rfl
theorem c_answer_bound (T : Tc K mg TC HC) (D : DefAt K mg "answer_bound" s_answer_bound ["house", "arguments"]) (c_potentials_for_members : Cal P w K mg base 5 "potentials_for_members" (spPotM TC HC)) (c_bound : Met P w K mg base 5 HC "bound" (spBoundM TC HC K)) :
    Cal P w K mg base 6 "answer_bound" (spAns TC HC Pt (gR .bound)) := by
  refine cal_of D sc_answer_bound (fun vs H Q E h => ?_) (fun fa cdv A outer sh H vs Q E _ hr h => ?_)
  · obtain ⟨_, _, _, _, _, _, rfl, _⟩ := h
    rfl
  · obtain ⟨h, a, s, xs, rs, c, rfl, hs, good, tab, hA, ⟨r, rfl, rfl, rfl⟩, ans⟩ := h
    obtain ⟨dx, b, kv, ks, ad, at_⟩ := id hs
    obtain ⟨q, ha, hq, hql⟩ := hA.row
    refine ⟨_, (pss_cons (ps_set (i := 2) sc_answer_bound.nd rfl (.inl rfl) (pe_ix ix_list (pv 1) pe_int (fun _ _ => rfl)))
      (pss_cons (ps_if (pt_not (pt_val (pe_c c_potentials_for_members hr (by decide) rfl (pa_cons (pv 0) (pa_cons (pv 2) pa_nil))))) (pss_one (ps_ret (pe_lst (pa_cons (pe_gc rfl T.c_OUT_OF_RANGE) pa_nil)))) pss_nil)
      (pss_one (ps_ret (pe_lst (pa_cons (pe_mt c_bound hr (by decide) (pv 0) (pa_cons (pv 2) pa_nil)) pa_nil)))))), ?_⟩
    refine ⟨_, rfl, a, _, 0, _, rfl, rfl, SqL.of ha, rfl, ?_⟩
    refine ⟨_, rfl, _, rfl, h, q, s, r, rfl, hs, good, hq, hql, fun H1 s1 => ⟨_, rfl, ite2 (fun cc => ?_) (fun cc => ?_)⟩⟩
    · refine ans.ret1 ?_ (Same.frk s1) (tab.ext s1) (hs.same s1)
      show (if Vbchad.potentialsIn ⟨s⟩ r = false then _ else _) = _
      rw [if_pos (by simpa using cc)]
    · have cn : Vbchad.potentialsIn ⟨s⟩ r = true := by simpa using cc
      have hlen : r.length = (Vbchad.membersOf s).length := by
        unfold Vbchad.potentialsIn at cn
        rw [Bool.and_eq_true] at cn
        exact of_decide_eq_true cn.1
      refine ⟨_, rfl, h, dx, _, rfl, (at_.same s1).hou, rfl, _, rfl, h, q, s, r, rfl, hs.same s1, good, SqL.of (s1 _ _ hq), hlen, fun H2 s2 => ?_⟩
      have s12 := s1.trans s2
      refine ans.ret1 ?_ (Same.frk s12) (tab.ext s12) (hs.same s12)
      show (if Vbchad.potentialsIn ⟨s⟩ r = false then _ else _) = _
      rw [if_neg (by rw [cn]; exact fun z => by cases z)]
theorem c_answer_proves (T : Tc K mg TC HC) (D : DefAt K mg "answer_proves" s_answer_proves ["house", "arguments"]) (c_potentials_for_members : Cal P w K mg base 5 "potentials_for_members" (spPotM TC HC)) (c_numbers_for_trades : Cal P w K mg base 2 "numbers_for_trades" (spNums TC HC))
    (c_allows : Met P w K mg base 4 HC "allows" (spAllows TC HC K)) (c_bound : Met P w K mg base 5 HC "bound" (spBoundM TC HC K)) : Cal P w K mg base 6 "answer_proves" (spAns TC HC Pt (gRR .proves)) := by
  refine cal_of D sc_answer_proves (fun vs H Q E h => ?_) (fun fa cdv A outer sh H vs Q E _ hr h => ?_)
  · obtain ⟨_, _, _, _, _, _, rfl, _⟩ := h
    rfl
  · obtain ⟨h, a, s, xs, rs, c, rfl, hs, good, tab, hA, ⟨pp, r, rfl, rfl, rfl⟩, ans⟩ := h
    obtain ⟨dx, b, kv, ks, ad, at_⟩ := id hs
    obtain ⟨qp, q, ha, hqp, hqpl, hq, hql⟩ := hA.rows
    refine ⟨_, (pss_cons (ps_asg (pv 1) (pg_unl rfl (pgs_cons (pg_name (i := 2) sc_answer_proves.nd rfl (.inl rfl)) (pgs_cons (pg_name (i := 3) sc_answer_proves.nd rfl (.inl rfl)) pgs_nil))))
      (pss_cons (ps_if (PW.pt (pw_or (pt_not (pt_val (pe_c c_potentials_for_members hr (by decide) rfl (pa_cons (pv 0) (pa_cons (pv 2) pa_nil))))) (pw_or1 (pt_not (pt_val (pe_c c_numbers_for_trades hr (by decide) rfl (pa_cons (pv 0) (pa_cons (pv 3) pa_nil)))))))) (pss_one (ps_ret (pe_lst (pa_cons (pe_gc rfl T.c_OUT_OF_RANGE) pa_nil)))) pss_nil)
      (pss_one (ps_ret (pe_lst (pa_cons (pe_ifExp (PW.pt (pw_and (pt_val (pe_mt c_allows hr (by decide) (pv 0) (pa_cons (pv 3) pa_nil))) (pw_and1 (pt_cmpR op_eq (pe_callB (cr_sum rfl) (by rfl) T.m_sum (by decide +kernel) (pa_cons (pv 3) pa_nil)) (pe_mt c_bound hr (by decide) (pv 0) (pa_cons (pv 2) pa_nil)) (nomark _))))) pe_int pe_int) pa_nil)))))), ?_⟩
    refine ⟨_, rfl, a, _, rfl, SqL.of ha, rfl, _, _, rfl, _, _, rfl, rfl, ?_⟩
    have out : (Vbchad.potentialsIn ⟨s⟩ pp && Vbchad.numbers ⟨s⟩ r) = false → Vbchad.step ⟨s⟩ (.proves pp r) = (⟨s⟩, [-1]) := fun h => by
      show (if (Vbchad.potentialsIn ⟨s⟩ pp && Vbchad.numbers ⟨s⟩ r) = false then _ else _) = _
      rw [if_pos h]
    refine ⟨_, rfl, _, rfl, h, qp, s, pp, rfl, hs, good, hqp, hqpl, fun H1 s1 => ⟨_, rfl, ite2 (fun cc => ?_) (fun cc => ?_)⟩⟩
    · have c1 : Vbchad.potentialsIn ⟨s⟩ pp = false := by simpa using cc
      exact ite2 (fun _ => ans.ret1 (out (by rw [c1]; rfl)) (Same.frk s1) (tab.ext s1) (hs.same s1)) (fun z => absurd rfl z)
    · have c1 : Vbchad.potentialsIn ⟨s⟩ pp = true := by simpa using cc
      refine ⟨_, rfl, _, rfl, h, q, s, r, rfl, hs.same s1, good, s1 _ _ hq, hql, fun H2 s2 => ⟨_, rfl, ite2 (fun cc => ?_) (fun cc => ?_)⟩⟩
      · have c2 : Vbchad.numbers ⟨s⟩ r = false := by simpa using cc
        have s12 := s1.trans s2
        exact ans.ret1 (out (by rw [c2, Bool.and_false])) (Same.frk s12) (tab.ext s12) (hs.same s12)
      · have cn : Vbchad.numbers ⟨s⟩ r = true := by simpa using cc
        have hlen : pp.length = (Vbchad.membersOf s).length := by
          have c1' := c1
          unfold Vbchad.potentialsIn at c1'
          rw [Bool.and_eq_true] at c1'
          exact of_decide_eq_true c1'.1
        obtain ⟨g, rfl, hg, e3⟩ := nums_nat cn
        have st : Vbchad.step ⟨s⟩ (.proves pp (g.map fun (n : Nat) => (n : Int))) = (⟨s⟩, [if Vbchad.isReduction s g = true ∧ (Vbchad.sum g : Int) = Vbchad.boundOf s pp then 1 else 0]) := by
          show (if (Vbchad.potentialsIn ⟨s⟩ pp && Vbchad.numbers ⟨s⟩ _) = false then _ else _) = _
          rw [if_neg (by rw [c1, cn]; exact fun z => by cases z), e3]
        have s12 := s1.trans s2
        refine ⟨_, rfl, h, dx, _, rfl, (at_.same s12).hou, rfl, _, rfl, h, q, s, _, rfl, hs.same s12, good, SqL.of (s12 _ _ hq), by rw [List.length_map]; exact hg, fun H3 r s3 hr => ?_⟩
        rw [← red_g hg] at hr
        have s13 := s12.trans s3
        refine ⟨_, rfl, ite2 (fun c2 => ?_) (fun c2 => ?_)⟩
        · refine ⟨_, rfl, q, _, rfl, SqL.of (s13 _ _ hq), _, rfl, h, dx, _, rfl, (at_.same s13).hou, rfl, _, rfl, h, qp, s, pp, rfl, hs.same s13, good, SqL.of (s13 _ _ hqp), hlen, fun H4 s4 => ?_⟩
          have s14 := s13.trans s4
          rw [sum_int]
          refine ⟨rfl, _, rfl, ite2 (fun c3 => ?_) (fun c3 => ?_)⟩
          · refine ans.ret1 ?_ (Same.frk s14) (tab.ext s14) (hs.same s14)
            rw [st, if_pos ⟨hr.mp c2, V.int.inj (of_decide_eq_true c3)⟩]
          · refine ans.ret1 ?_ (Same.frk s14) (tab.ext s14) (hs.same s14)
            rw [st, if_neg fun z => c3 (decide_eq_true (congrArg V.int z.2))]
        · refine ite2 (fun z => by cases z) (fun _ => ?_)
          refine ans.ret1 ?_ (Same.frk s13) (tab.ext s13) (hs.same s13)
          rw [st, if_neg fun z => c2 (hr.mpr z.1)]
end
end Vb
end

section
/-! # States: what a call leaves; a trade without room takes no part -/
namespace Vb
open PySem PySem.Spec PyProof.Rows L2 Nw LamX
/-! ## A trade without room -/
theorem sumN_append : ∀ a b : List Nat, Vbchad.sum (a ++ b) = Vbchad.sum a + Vbchad.sum b
  | [], b => by
    show Vbchad.sum b = 0 + _
    omega
  | x :: a, b => by
    have e1 : Vbchad.sum (x :: a ++ b) = x + Vbchad.sum (a ++ b) := rfl
    have e2 : Vbchad.sum (x :: a) = x + Vbchad.sum a := rfl
    rw [e1, e2, sumN_append a b]
    omega
theorem out_cut {l1 l2 : List Trd} {t : Trd} {f1 f2 : List Nat} (h : f1.length = l1.length) (m : Nat) : Vbchad.outOf (l1 ++ t :: l2) (f1 ++ 0 :: f2) m = Vbchad.outOf (l1 ++ l2) (f1 ++ f2) m := by
  unfold Vbchad.outOf
  rw [List.zip_append h.symm, List.zip_append h.symm, List.zip_cons_cons, List.map_append, List.map_append, List.map_cons, sumN_append, sumN_append]
  have e : ∀ l, Vbchad.sum ((if (t, 0).1.from_ = m then (t, 0).2 else 0) :: l) = Vbchad.sum l := fun l => by
    have e1 : Vbchad.sum ((if (t, 0).1.from_ = m then (t, 0).2 else 0) :: l) = (if (t, 0).1.from_ = m then (t, 0).2 else 0) + Vbchad.sum l := rfl
    rw [e1]
    split <;> simp
  rw [e]
theorem into_cut {l1 l2 : List Trd} {t : Trd} {f1 f2 : List Nat} (h : f1.length = l1.length) (m : Nat) : Vbchad.into (l1 ++ t :: l2) (f1 ++ 0 :: f2) m = Vbchad.into (l1 ++ l2) (f1 ++ f2) m := by
  unfold Vbchad.into
  rw [List.zip_append h.symm, List.zip_append h.symm, List.zip_cons_cons, List.map_append, List.map_append, List.map_cons, sumN_append, sumN_append]
  have e : ∀ l, Vbchad.sum ((if (t, 0).1.to = m then (t, 0).2 else 0) :: l) = Vbchad.sum l := fun l => by
    have e1 : Vbchad.sum ((if (t, 0).1.to = m then (t, 0).2 else 0) :: l) = (if (t, 0).1.to = m then (t, 0).2 else 0) + Vbchad.sum l := rfl
    rw [e1]
    split <;> simp
  rw [e]
theorem red_zip {l : List Trd} {f : List Nat} (e : f.length = l.length) : Red (netOf l) (fl f) ↔ ((l.zip f).all fun x => decide (x.2 ≤ Vbchad.room x.1)) = true ∧ ∀ m, Vbchad.outOf l f m = Vbchad.into l f m := by
  rw [all_zip (P := fun t k => decide (k ≤ Vbchad.room t)) e]
  constructor
  · intro h
    refine ⟨fun i hi => decide_eq_true (fits_list.mp h.fits i hi), fun m => ?_⟩
    have h1 := h.even m
    rw [net_list e] at h1
    omega
  · rintro ⟨h1, h2⟩
    refine ⟨fits_list.mpr fun i hi => of_decide_eq_true (h1 i hi), fun m => ?_⟩
    rw [net_list e, h2 m]
    omega
theorem red_cut {l1 l2 : List Trd} {t : Trd} {f1 f2 : List Nat} (h1 : f1.length = l1.length) (h2 : f2.length = l2.length) : Red (netOf (l1 ++ t :: l2)) (fl (f1 ++ 0 :: f2)) ↔ Red (netOf (l1 ++ l2)) (fl (f1 ++ f2)) := by
  rw [red_zip (by simp [h1, h2]), red_zip (by simp [h1, h2])]
  refine and_congr ?_ ⟨fun h m => ?_, fun h m => ?_⟩
  · rw [List.zip_append h1.symm, List.zip_append h1.symm, List.zip_cons_cons, List.all_append, List.all_append, List.all_cons, decide_eq_true (show (t, 0).2 ≤ Vbchad.room (t, 0).1 from Nat.zero_le _), Bool.true_and]
  · rw [← out_cut (t := t) h1, ← into_cut (t := t) h1]
    exact h m
  · rw [out_cut (t := t) h1, into_cut (t := t) h1]
    exact h m
theorem opt_le {l : List Trd} {f : List Nat} (e : f.length = l.length) (h : Red (netOf l) (fl f)) : Vbchad.sum f ≤ Vbchad.greatestOf l := by
  have h1 := (greatest_opt l).2 _ h
  rw [← greatestOf_eq] at h1
  have h2 : tot (netOf l) (fl f) = (Vbchad.sum f : Int) := by
    rw [sum_sm, e]
    rfl
  omega
theorem sum_mid (f1 f2 : List Nat) : Vbchad.sum (f1 ++ 0 :: f2) = Vbchad.sum (f1 ++ f2) := by
  have e : Vbchad.sum (0 :: f2) = 0 + Vbchad.sum f2 := rfl
  rw [sumN_append, sumN_append, e]
  omega
theorem split_len {l1 l2 : List Trd} {t : Trd} {f : List Nat} (h : f.length = (l1 ++ t :: l2).length) : ∃ f1 x f2, f = f1 ++ x :: f2 ∧ f1.length = l1.length ∧ f2.length = l2.length := by
  rw [List.length_append, List.length_cons] at h
  refine ⟨f.take l1.length, f.getD l1.length 0, f.drop (l1.length + 1), ?_, by rw [List.length_take]; omega, by rw [List.length_drop]; omega⟩
  have hl : l1.length < f.length := by omega
  rw [List.getD_eq_getElem?_getD, List.getElem?_eq_getElem hl]
  show f = f.take l1.length ++ f[l1.length] :: f.drop (l1.length + 1)
  rw [← List.drop_eq_getElem_cons hl, List.take_append_drop]
theorem split_len2 {l1 l2 : List Trd} {f : List Nat} (h : f.length = (l1 ++ l2).length) : ∃ f1 f2, f = f1 ++ f2 ∧ f1.length = l1.length ∧ f2.length = l2.length := by
  rw [List.length_append] at h
  exact ⟨f.take l1.length, f.drop l1.length, (List.take_append_drop _ _).symm, by rw [List.length_take]; omega, by rw [List.length_drop]; omega⟩
theorem greatest_cut {l1 l2 : List Trd} {t : Trd} (h0 : Vbchad.room t = 0) : Vbchad.greatestOf (l1 ++ t :: l2) = Vbchad.greatestOf (l1 ++ l2) := by
  refine Nat.le_antisymm ?_ ?_
  · obtain ⟨f1, x, f2, e, e1, e2⟩ := split_len (greatest_len (l1 ++ t :: l2))
    have hr := (greatest_opt (l1 ++ t :: l2)).1
    have hx : x = 0 := by
      have h := fits_list.mp hr.fits l1.length (by simp)
      rw [e] at h
      have ex : (f1 ++ x :: f2).getD l1.length 0 = x := by
        rw [List.getD_eq_getElem?_getD, List.getElem?_append_right (by omega), show l1.length - f1.length = 0 by omega]
        rfl
      have et : tr (l1 ++ t :: l2) l1.length = t := by
        unfold tr
        rw [List.getD_eq_getElem?_getD, List.getElem?_append_right (Nat.le_refl _), Nat.sub_self]
        rfl
      rw [ex, et, h0] at h
      omega
    subst hx
    rw [e, red_cut e1 e2] at hr
    have := opt_le (by simp [e1, e2]) hr
    show Vbchad.sum (Vbchad.someGreatest (l1 ++ t :: l2)) ≤ _
    rw [e, sum_mid]
    exact this
  · obtain ⟨f1, f2, e, e1, e2⟩ := split_len2 (greatest_len (l1 ++ l2))
    have hr := (greatest_opt (l1 ++ l2)).1
    rw [e, ← red_cut (t := t) e1 e2] at hr
    have := opt_le (by simp [e1, e2]) hr
    show Vbchad.sum (Vbchad.someGreatest (l1 ++ l2)) ≤ _
    rw [e, ← sum_mid]
    exact this
/-! ## States -/
theorem members_sub {s s' : List Trd} (h : ∀ t, t ∈ s' → ∃ u, u ∈ s ∧ u.from_ = t.from_ ∧ u.to = t.to) : (Vbchad.membersOf s').length ≤ (Vbchad.membersOf s).length :=
  nodup_len (rising_nodup (members_rising s')) fun m hm => by
    obtain ⟨t, h1, h2⟩ := mem_members.mp hm
    obtain ⟨u, h3, h4, h5⟩ := h t h1
    exact mem_members.mpr ⟨u, h3, by rw [h4, h5]; exact h2⟩
theorem put_keys {t : Trd} : ∀ {s : List Trd}, (s.map (·.key)).Pairwise (· < ·) → (∀ x, x ∈ s → x.key ≠ t.key) → ((Vbchad.put t s).map (·.key)).Pairwise (· < ·)
  | [], _, _ => by
    show List.Pairwise _ [t.key]
    exact List.pairwise_singleton _ _
  | x :: s, h, n => by
    unfold Vbchad.put
    have h1 := List.pairwise_cons.mp (show List.Pairwise _ (x.key :: s.map (·.key)) from h)
    split
    · rename_i lt
      refine List.pairwise_cons.mpr ⟨fun k hk => ?_, h⟩
      rcases List.mem_cons.mp hk with z | z
      · rw [z]
        exact lt
      · exact Nat.lt_trans lt (h1.1 k z)
    · rename_i nlt
      refine List.pairwise_cons.mpr ⟨fun k hk => ?_, put_keys h1.2 fun y hy => n y (List.mem_cons_of_mem _ hy)⟩
      obtain ⟨y, hy, rfl⟩ := List.mem_map.mp hk
      rcases mem_put.mp hy with z | z
      · rw [z]
        have := n x List.mem_cons_self
        show x.key < t.key
        omega
      · exact h1.1 _ (List.mem_map.mpr ⟨y, z, rfl⟩)
theorem put_len {t : Trd} : ∀ s : List Trd, (Vbchad.put t s).length = s.length + 1
  | [] => rfl
  | x :: s => by
    unfold Vbchad.put
    split
    · rfl
    · rw [List.length_cons, put_len s, List.length_cons]
theorem good_put {s : List Trd} {t : Trd} (g : GoodS s) (hn : ∀ x, x ∈ s → x.key ≠ t.key) (hl : s.length < 40) (hm : (Vbchad.membersOf (Vbchad.put t s)).length ≤ 12) (h1 : 1 ≤ t.amount) (h2 : t.amount ≤ 1000000000) (h3 : t.least ≤ t.amount) (h4 : t.from_ ≠ t.to) : GoodS (Vbchad.put t s) := by
  refine ⟨put_keys g.keys hn, by rw [put_len]; omega, hm, fun u hu => ?_, fun u hu => ?_, fun u hu => ?_, fun u hu => ?_⟩ <;> rcases mem_put.mp hu with z | z
  · rw [z]; exact h1
  · exact g.pos u z
  · rw [z]; exact h2
  · exact g.amt u z
  · rw [z]; exact h3
  · exact g.le u z
  · rw [z]; exact h4
  · exact g.ne u z
theorem good_sub {s s' : List Trd} (g : GoodS s) (h : s'.Sublist s) : GoodS s' :=
  ⟨g.keys.sublist (h.map _), Nat.le_trans h.length_le g.len, Nat.le_trans (members_sub fun t ht => ⟨t, h.subset ht, rfl, rfl⟩) g.mem, fun t ht => g.pos t (h.subset ht), fun t ht => g.amt t (h.subset ht), fun t ht => g.le t (h.subset ht), fun t ht => g.ne t (h.subset ht)⟩
theorem good_map {s : List Trd} (g : GoodS s) (f : Trd → Trd) (hk : ∀ t, t ∈ s → (f t).key = t.key ∧ (f t).from_ = t.from_ ∧ (f t).to = t.to) (hp : ∀ t, t ∈ s → 1 ≤ (f t).amount ∧ (f t).amount ≤ 1000000000 ∧ (f t).least ≤ (f t).amount) : GoodS (s.map f) := by
  refine ⟨?_, by rw [List.length_map]; exact g.len, Nat.le_trans (members_sub fun t ht => ?_) g.mem, fun t ht => ?_, fun t ht => ?_, fun t ht => ?_, fun t ht => ?_⟩
  · rw [List.map_map, show s.map ((fun x => x.key) ∘ f) = s.map (·.key) from List.map_congr_left fun t ht => (hk t ht).1]
    exact g.keys
  · obtain ⟨u, hu, rfl⟩ := List.mem_map.mp ht
    exact ⟨u, hu, (hk u hu).2.1.symm, (hk u hu).2.2.symm⟩
  all_goals obtain ⟨u, hu, rfl⟩ := List.mem_map.mp ht
  · exact (hp u hu).1
  · exact (hp u hu).2.1
  · exact (hp u hu).2.2
  · rw [(hk u hu).2.1, (hk u hu).2.2]
    exact g.ne u hu
theorem good_less {s : List Trd} {f : List Nat} (g : GoodS s) (hl : f.length = s.length) (hr : ∀ (i : Nat) (t : Trd), s[i]? = some t → f.getD i 0 ≤ Vbchad.room t) : GoodS (Vbchad.less s f) := by
  have mem : ∀ x, x ∈ Vbchad.less s f → ∃ t n, t ∈ s ∧ n ≤ Vbchad.room t ∧ x = dim t n ∧ x.amount ≠ 0 := fun x hx => by
    rw [← cur_all hl] at hx
    rcases (mem_cur hl).mp hx with ⟨j, t, h1, h2, h3, h4⟩ | ⟨j, h1, h2⟩
    · exact ⟨t, _, List.mem_of_getElem? h2, hr j t h2, h3, h4⟩
    · have := (List.getElem?_eq_some_iff.mp h2).1
      omega
  refine ⟨?_, ?_, Nat.le_trans (members_sub fun t ht => ?_) g.mem, fun t ht => ?_, fun t ht => ?_, fun t ht => ?_, fun t ht => ?_⟩
  · rw [less_eq]
    refine List.Pairwise.sublist (List.Sublist.map _ List.filter_sublist) ?_
    have e : ((s.zip f).map fun x => dim x.1 x.2).map (·.key) = s.map (·.key) := by
      rw [List.map_map]
      show (s.zip f).map (fun x => x.1.key) = _
      have e2 : (s.zip f).map (fun x => x.1.key) = ((s.zip f).map Prod.fst).map (·.key) := by
        rw [List.map_map]
        rfl
      rw [e2, List.map_fst_zip (by omega)]
    rw [e]
    exact g.keys
  · rw [less_eq]
    have h1 := List.length_filter_le (fun t : Trd => t.amount != 0) ((s.zip f).map fun x => dim x.1 x.2)
    rw [List.length_map, List.length_zip, hl, Nat.min_self] at h1
    have := g.len
    omega
  · obtain ⟨u, n, h1, _, rfl, _⟩ := mem t ht
    exact ⟨u, h1, rfl, rfl⟩
  all_goals obtain ⟨u, n, h1, h2, e, h4⟩ := mem t ht
  · omega
  · rw [e]
    show u.amount - n ≤ _
    have := g.amt u h1
    omega
  · rw [e]
    show u.least ≤ u.amount - n
    have := g.le u h1
    unfold Vbchad.room at h2
    omega
  · rw [e]
    exact g.ne u h1
end Vb
end

section
/-! # calls.py: without, pairs, trade -/
namespace Vb
open PySem PySem.Spec PyProof.Rows L2 Nw LamX
/-- the trade's room taken away -/
def noRoom (s : List Trd) (k : Nat) : List Trd := s.map fun x => if x.key = k then { x with least := x.amount } else x
theorem noRoom_cut : ∀ {s : List Trd} {t : Trd}, (s.map (·.key)).Nodup → t ∈ s → Vbchad.greatestOf (noRoom s t.key) = Vbchad.greatestOf (s.filter fun x => x.key != t.key) := fun {s t} nd ht => by
  obtain ⟨l1, l2, rfl⟩ := List.append_of_mem ht
  have hne : ∀ x, x ∈ l1 ∨ x ∈ l2 → x.key ≠ t.key := fun x hx e => by
    rw [List.map_append, List.map_cons] at nd
    have h1 := List.pairwise_append.mp nd
    rcases hx with z | z
    · exact h1.2.2 _ (List.mem_map.mpr ⟨x, z, rfl⟩) _ List.mem_cons_self e
    · exact (List.pairwise_cons.mp h1.2.1).1 _ (List.mem_map.mpr ⟨x, z, rfl⟩) e.symm
  have e1 : noRoom (l1 ++ t :: l2) t.key = l1 ++ { t with least := t.amount } :: l2 := by
    unfold noRoom
    rw [List.map_append, List.map_cons, if_pos rfl]
    congr 1
    · refine (List.map_congr_left fun x hx => ?_).trans (List.map_id l1)
      rw [if_neg (hne x (.inl hx))]
      rfl
    · congr 1
      refine (List.map_congr_left fun x hx => ?_).trans (List.map_id l2)
      rw [if_neg (hne x (.inr hx))]
      rfl
  have e2 : (l1 ++ t :: l2).filter (fun x => x.key != t.key) = l1 ++ l2 := by
    rw [List.filter_append, List.filter_cons_of_neg (by simp)]
    congr 1
    · exact List.filter_eq_self.mpr fun x hx => by simpa using hne x (.inl hx)
    · exact List.filter_eq_self.mpr fun x hx => by simpa using hne x (.inr hx)
  rw [e1, e2, greatest_cut]
  unfold Vbchad.room
  exact Nat.sub_self _
section
variable {P : Program} {w : World} {K : PySem.W.Frag} {mg : Str → Option Value} {base : Heap} {TC HC Pt : Addr}
theorem c_answer_without (T : Tc K mg TC HC) (D : DefAt K mg "answer_without" s_answer_without ["house", "arguments"]) (c_within : Cal P w K mg base 1 "within" spWithin) (c_has : Met P w K mg base 1 HC "has" (spHas TC HC)) (c_entry : Met P w K mg base 1 HC "entry" (spEntry TC HC))
    (c_greatest_with : Met P w K mg base 5 HC "greatest_with" (spGW TC HC Pt)) : Cal P w K mg base 6 "answer_without" (spAns TC HC Pt (g1 .without)) := by
  refine cal_of D sc_answer_without (fun vs H Q E h => ?_) (fun fa cdv A outer sh H vs Q E _ hr h => ?_)
  · obtain ⟨_, _, _, _, _, _, rfl, _⟩ := h
    rfl
  · obtain ⟨h, a, s, xs, rs, c, rfl, hs, good, tab, hA, ⟨k, rfl, rfl, rfl⟩, ans⟩ := h
    obtain ⟨dx, b, kv, ks, ad, at_⟩ := id hs
    refine ⟨_, (pss_cons (ps_set (i := 2) sc_answer_without.nd rfl (.inl rfl) (pe_ix ix_list (pv 1) pe_int (fun _ _ => rfl)))
      (pss_cons (ps_if (pt_not (pt_val (pe_c c_within hr (by decide) rfl (pa_cons (pv 2) (pa_cons pe_int (pa_cons (pe_gc rfl T.c_MOST) pa_nil)))))) (pss_one (ps_ret (pe_lst (pa_cons (pe_gc rfl T.c_OUT_OF_RANGE) pa_nil)))) pss_nil)
      (pss_cons (ps_if (pt_not (pt_val (pe_mt c_has hr (by decide) (pv 0) (pa_cons (pv 2) pa_nil)))) (pss_one (ps_ret (pe_lst (pa_cons (pe_gc rfl T.c_NOT_THERE) pa_nil)))) pss_nil)
      (pss_one (ps_ret (pe_lst (pa_cons (pe_mt c_greatest_with hr (by decide) (pv 0) (pa_cons (pv 2) (pa_cons pe_int pa_nil))) (pa_cons (pe_mt c_greatest_with hr (by decide) (pv 0) (pa_cons (pv 2) (pa_cons (pe_fldK (K := K) rfl (pe_mt c_entry hr (by decide) (pv 0) (pa_cons (pv 2) pa_nil)) rfl) pa_nil))) pa_nil)))))))), ?_⟩
    refine ⟨_, rfl, a, _, 0, _, rfl, rfl, SqL.of hA.ints, rfl, ?_⟩
    refine ⟨_, rfl, k, 1, 1000000000, rfl, _, rfl, ite2 (fun cc => ?_) (fun cc => ?_)⟩
    · exact ans.ret1 (on_out (by rw [keyed_eq]; simpa using cc)) (FrK.refl h H) tab hs
    · have ck : inR k 1 1000000000 = true := by simpa using cc
      obtain ⟨k, rfl⟩ := inR_nat (by decide) ck
      refine ⟨_, rfl, h, dx, _, rfl, at_.hou, rfl, _, rfl, h, s, k, rfl, hs, fun r hrr => ⟨_, rfl, ite2 (fun c2 => ?_) (fun c2 => ?_)⟩⟩
      · exact ans.ret1 (on_none ck fun z => by rw [hrr.mpr z] at c2; cases c2) (FrK.refl h H) tab hs
      · obtain ⟨t, ht, rfl⟩ := hrr.mp (by simpa using c2)
        have g1 : GoodS (noRoom s t.key) := good_map good _ (fun u hu => by split <;> exact ⟨rfl, rfl, rfl⟩) (fun u hu => by
          have h1 := good.pos u hu
          have h2 := good.amt u hu
          have h3 := good.le u hu
          split
          · exact ⟨h1, h2, Nat.le_refl _⟩
          · exact ⟨h1, h2, h3⟩)
        have g2 : GoodS (setL s t.key 0) := good_map good _ (fun u hu => by split <;> exact ⟨rfl, rfl, rfl⟩) (fun u hu => by
          have h1 := good.pos u hu
          have h2 := good.amt u hu
          have h3 := good.le u hu
          split
          · exact ⟨h1, h2, Nat.zero_le _⟩
          · exact ⟨h1, h2, h3⟩)
        have r1 : (noRoom s t.key).map rowT = s.map (rowW t.key 0) := by
          unfold noRoom
          rw [List.map_map]
          refine List.map_congr_left fun u hu => ?_
          show rowT (if u.key = t.key then _ else u) = rowW t.key 0 u
          unfold rowW
          by_cases c : u.key = t.key
          · rw [if_pos c, if_pos c]
            unfold rowT Vbchad.room
            rw [Nat.sub_self]
          · rw [if_neg c, if_neg c]
            rfl
        have r2 : (setL s t.key 0).map rowT = s.map (rowW t.key t.amount) := by
          unfold setL
          rw [List.map_map]
          refine List.map_congr_left fun u hu => ?_
          show rowT (if u.key = t.key then _ else u) = rowW t.key t.amount u
          unfold rowW
          by_cases c : u.key = t.key
          · rw [if_pos c, if_pos c, key_inj good.nodup u t hu ht c]
            rfl
          · rw [if_neg c, if_neg c]
            rfl
        refine ⟨_, rfl, h, dx, _, rfl, at_.hou, rfl, _, rfl, h, s, noRoom s t.key, t.key, 0, rfl, hs, good, tab, r1, g1.goodT, fun H1 e1 tab1 => ?_⟩
        have hs1 := hs.extN e1
        have at1 := at_.extN e1
        refine ⟨_, rfl, h, dx, _, rfl, at1.hou, rfl, _, rfl, _, rfl, h, dx, _, rfl, at1.hou, rfl, _, rfl, h, s, t, rfl, hs1, ht, fun x ⟨d, hx⟩ => ⟨x, TC, d, _, _, rfl, hx, T.clT, T.nT_amount, rfl, ?_⟩⟩
        refine ⟨h, s, setL s t.key 0, t.key, t.amount, rfl, hs1, good, tab1, r2, g2.goodT, fun H2 e2 tab2 => ?_⟩
        refine ans.ret2 ?_ ((ext_frk e1).trans (ext_frk e2)) tab2 (hs1.extN e2)
        rw [show Vbchad.step ⟨s⟩ (.without (t.key : Int)) = _ from on_some ck good.nodup ht, ← noRoom_cut good.nodup ht]
        rfl
theorem filter_rise {l : List Nat} (h : l.Pairwise (· < ·)) {i x : Nat} (hx : l[i]? = some x) : l.filter (fun b => decide (x < b)) = l.drop (i + 1) := by
  have hl := (List.getElem?_eq_some_iff.mp hx).1
  have e : l = l.take i ++ x :: l.drop (i + 1) := by
    have h2 : l[i] = x := by
      rw [List.getElem?_eq_getElem hl] at hx
      exact Option.some.inj hx
    rw [← h2, ← List.drop_eq_getElem_cons hl, List.take_append_drop]
  have h2 := h
  rw [e] at h2
  have h3 := List.pairwise_append.mp h2
  have h4 := List.pairwise_cons.mp h3.2.1
  conv => lhs; rw [e]
  rw [List.filter_append, List.filter_cons_of_neg (by simp)]
  rw [List.filter_eq_nil_iff.mpr fun b hb => ?_, List.nil_append]
  · exact List.filter_eq_self.mpr fun b hb => decide_eq_true (h4.1 b hb)
  · have := h3.2.2 b hb x List.mem_cons_self
    simp only [decide_eq_true_eq]
    omega
def pairsL (s : List Trd) (x : Nat) (l : List Nat) : List Nat := l.map fun b => Vbchad.pairRoom s x b
theorem cut_from (xs : List V) (i : Nat) : cutV xs (some (i : Int)) none = xs.drop i := by
  unfold cutV
  rw [HT.sIx_nat, HT.sIx_none]
  by_cases c : i ≤ xs.length
  · rw [Nat.min_eq_left c, List.take_of_length_le (by rw [List.length_drop]; exact Nat.le_refl _)]
  · rw [Nat.min_eq_right (by omega), List.drop_length, List.take_nil, List.drop_eq_nil_of_le (by omega)]
theorem cut_between (xs : List V) (i j : Nat) (h1 : i ≤ j) (h2 : j ≤ xs.length) : cutV xs (some (i : Int)) (some (j : Int)) = (xs.drop i).take (j - i) := by
  unfold cutV
  rw [HT.sIx_nat, HT.sIx_nat, Nat.min_eq_left h2, Nat.min_eq_left (show i ≤ xs.length by omega)]
theorem c_answer_pairs (T : Tc K mg TC HC) (D : DefAt K mg "answer_pairs" s_answer_pairs ["house", "arguments"]) (c_members : Met P w K mg base 4 HC "members" (spMems TC HC)) (c_cancelled_between : Met P w K mg base 4 HC "cancelled_between" (spCanc TC HC)) :
    Cal P w K mg base 5 "answer_pairs" (spAns TC HC Pt (g0 .pairs)) := by
  refine cal_of D sc_answer_pairs (fun vs H Q E h => ?_) (fun fa cdv A outer sh H vs Q E _ hr h => ?_)
  · obtain ⟨_, _, _, _, _, _, rfl, _⟩ := h
    rfl
  · obtain ⟨h, a, s, xs, rs, c, rfl, hs, good, tab, hA, ⟨rfl, rfl, rfl⟩, ans⟩ := h
    obtain ⟨dx, b, kv, ks, ad, at_⟩ := id hs
    have hm12 := good.mem
    refine ⟨_, (pss_cons (ps_set (i := 2) sc_answer_pairs.nd rfl (.inl rfl) (pe_mt0 c_members hr (by decide) (pv 0)))
      (pss_cons (ps_set (i := 3) sc_answer_pairs.nd rfl (.inl rfl) pe_int)
      (pss_cons (ps_for PassesOwn.never rfl (pi_enum (by rfl) T.m_enumerate (pa_cons (pv 2) pa_nil)) (pg_tup rfl (pgs_cons (pg_name (i := 4) sc_answer_pairs.nd rfl (.inl rfl)) (pgs_cons (pg_name (i := 5) sc_answer_pairs.nd rfl (.inr rfl)) pgs_nil))) (pss_one (ps_aug (i := 3) sc_answer_pairs.nd rfl (.inl rfl) (pe_callB (cr_sum rfl) (by rfl) T.m_sum (by decide +kernel) (pa_cons (pe_lc (own := [("other", 6)]) (g := gName 6) (tt := tYes) rfl sc_answer_pairs.nd (pi_list (pe_slice sl_list (pv 2) (po_some (pe_op op_add (pv 4) pe_int)) po_none)) (blkOk_by (own := [("other", 6)]) (N := ["house", "arguments", "members", "cancelled", "place", "one", "other"]) (sc := defScope s_answer_pairs) (by decide +kernel)) (fun _ _ _ _ _ => (pg_name (i := 6) sc_answer_pairs.nd rfl (.inl rfl))) (fun _ _ _ _ _ => pts_nil) (fun _ _ _ _ _ => (pe_mt c_cancelled_between hr (by decide) (pv 0) (pa_cons (pv 5) (pa_cons (pv 6) pa_nil))))) pa_nil)) ip_add)))
      (pss_one (ps_ret (pe_lst (pa_cons (pv 3) pa_nil))))))), ?_⟩
    refine ⟨_, rfl, h, dx, _, rfl, at_.hou, rfl, h, s, rfl, hs, good, fun H1 m s1 nm hm => ?_⟩
    have em : (natL (Vbchad.membersOf s)).length = (Vbchad.membersOf s).length := List.length_map _
    refine ⟨_, rfl, m, _, rfl, SqL.of hm, for_it walk_enum (fun i σ H' => ∃ v4 v5 v6 : Option V, σ = [some (.ref h), some (.ref a), some (.ref m), some (.int (Vbchad.sum (((Vbchad.membersOf s).take i).flatMap fun x => pairsL s x ((Vbchad.membersOf s).filter fun b => decide (x < b))) : Int)), v4, v5, v6] ∧ Same H1 H')
      ⟨_, _, _, rfl, Same.refl _⟩ (fun i σ H' _ ⟨_, _, _, _, s5⟩ => SqL.of (s5 _ _ hm)) ?_ ?_⟩
    · rintro i x σ H5 H6 hi ⟨v4, v5, v6, rfl, s5⟩ ⟨tp, x1, x2, rfl, ntp, rfl, e1, e2⟩
      obtain rfl := Option.some.inj e1
      obtain ⟨y, hy, rfl⟩ := map_get e2
      have st := same_upd (o := .tup [.int (i : Nat), .int (y : Int)]) ntp
      have s6 := s5.trans st
      refine ⟨tp, _, rfl, SqT.of upd_same, rfl, _, _, rfl, _, _, rfl, rfl, ?_⟩
      refine ⟨_, rfl, _, rfl, _, rfl, _, _, rfl, rfl, _, rfl, m, _, rfl, SqL.of (s6 _ _ hm), fun p np => ?_⟩
      have ecut : cutV (natL (Vbchad.membersOf s)) (some ((i : Int) + 1)) none = natL ((Vbchad.membersOf s).drop (i + 1)) := by
        rw [show ((i : Int) + 1) = ((i + 1 : Nat) : Int) from rfl, cut_from]
        unfold natL
        rw [List.map_drop]
      rw [ecut]
      have s7 := s6.trans (same_upd (o := .lst (natL ((Vbchad.membersOf s).drop (i + 1)))) np)
      refine ⟨p, rfl, ⟨_, SqL.of upd_same⟩, fun z nz => lc_list (K := K) (a := p) (xs := natL ((Vbchad.membersOf s).drop (i + 1))) (fun j H' => Same (upd (upd H5 tp (.tup [.int (i : Nat), .int (y : Int)])) p (.lst (natL ((Vbchad.membersOf s).drop (i + 1))))) H' ∧ H' z = some (.lst ((pairsL s y (((Vbchad.membersOf s).drop (i + 1)).take j)).map fun (n : Nat) => V.int (n : Int)))) ⟨same_upd nz, upd_same⟩ (fun i H' _ h => SqL.of (h.1 _ _ upd_same)) ?_ ?_⟩
      · rintro j x H8 hx ⟨s8, hz⟩
        obtain ⟨o, ho, rfl⟩ := map_get hx
        have s18 := (s1.trans s7).trans s8
        refine ⟨rfl, _, rfl, h, dx, _, rfl, (at_.same s18).hou, rfl, _, rfl, _, rfl, h, s, y, o, rfl, hs.same s18, good, fun H9 s9 => ?_⟩
        refine ⟨_, s9 _ _ hz, sl ?_, fun c q e => ?_, ?_⟩
        · unfold pairsL
          rw [List.length_map, List.length_map, List.length_take, List.length_drop]
          omega
        · rw [upd_ne (ne_of_none e nz)]
          exact s9 _ _ (s8 _ _ e)
        · rw [upd_same, take_more ho]
          unfold pairsL
          rw [List.map_append, List.map_append]
          rfl
      · rintro H8 ⟨s8, hz⟩
        rw [show (natL ((Vbchad.membersOf s).drop (i + 1))).length = ((Vbchad.membersOf s).drop (i + 1)).length from List.length_map _, List.take_length] at hz
        refine ⟨z, (pairsL s y ((Vbchad.membersOf s).drop (i + 1))).map fun (n : Nat) => (n : Int), rfl, by rw [List.map_map]; exact SqL.of hz, _, _, rfl, rfl, ?_⟩
        have esum : ((Vbchad.sum (((Vbchad.membersOf s).take (i + 1)).flatMap fun x => pairsL s x ((Vbchad.membersOf s).filter fun b => decide (x < b))) : Nat) : Int) =
            (Vbchad.sum (((Vbchad.membersOf s).take i).flatMap fun x => pairsL s x ((Vbchad.membersOf s).filter fun b => decide (x < b))) : Int) + ((pairsL s y ((Vbchad.membersOf s).drop (i + 1))).map fun (n : Nat) => (n : Int)).sum := by
          rw [sum_int, take_more hy, List.flatMap_append, List.flatMap_singleton, sumN_append, filter_rise (lt_of_rising (members_rising s)) hy, Int.natCast_add]
        refine ⟨some (.int (i : Nat)), some (.int (y : Nat)), v6, ?_, s7.trans s8⟩
        rw [esum]
        rfl
    · rintro σ H5 ⟨v4, v5, v6, rfl, s5⟩
      rw [em, List.take_length]
      have s15 := s1.trans s5
      exact ⟨_, rfl, ans.ret1 rfl (Same.frk s15) (tab.ext s15) (hs.same s15)⟩
end
end Vb
end

section
/-! # calls.py: trade -/
namespace Vb
open PySem PySem.Spec PyProof.Rows L2 Nw LamX
section
variable {P : Program} {w : World} {K : PySem.W.Frag} {mg : Str → Option Value} {base : Heap} {TC HC Pt : Addr}
theorem c_answer_trade (T : Tc K mg TC HC) (D : DefAt K mg "answer_trade" s_answer_trade ["house", "arguments"]) (c_within : Cal P w K mg base 1 "within" spWithin) (c_has : Met P w K mg base 1 HC "has" (spHas TC HC)) (c_takes_in : Met P w K mg base 5 HC "takes_in" (spTakes TC HC))
    (c_enter : Met P w K mg base 3 HC "enter" (spEnter TC HC)) : Cal P w K mg base 6 "answer_trade" (spAns TC HC Pt (g5 .trade)) := by
  refine cal_of D sc_answer_trade (fun vs H Q E h => ?_) (fun fa cdv A outer sh H vs Q E _ hr h => ?_)
  · obtain ⟨_, _, _, _, _, _, rfl, _⟩ := h
    rfl
  · obtain ⟨h, a, s, xs, rs, c, rfl, hs, good, tab, hA, ⟨k, x, y, am, le, rfl, rfl, rfl⟩, ans⟩ := h
    obtain ⟨dx, b, kv, ks, ad, at_⟩ := id hs
    refine ⟨_, (pss_cons (ps_asg (pv 1) (pg_unl rfl (pgs_cons (pg_name (i := 2) sc_answer_trade.nd rfl (.inl rfl)) (pgs_cons (pg_name (i := 3) sc_answer_trade.nd rfl (.inl rfl)) (pgs_cons (pg_name (i := 4) sc_answer_trade.nd rfl (.inl rfl)) (pgs_cons (pg_name (i := 5) sc_answer_trade.nd rfl (.inl rfl)) (pgs_cons (pg_name (i := 6) sc_answer_trade.nd rfl (.inl rfl)) pgs_nil)))))))
      (pss_cons (ps_if (PW.pt (pw_or (pt_not (pt_val (pe_callB (cr_all rfl) (by rfl) T.m_all (by decide +kernel) (pa_cons (pe_lc (own := [("number", 7)]) (g := gName 7) (tt := tYes) rfl sc_answer_trade.nd (pi_tup (pe_tup (pa_cons (pv 2) (pa_cons (pv 3) (pa_cons (pv 4) (pa_cons (pv 5) pa_nil)))))) (blkOk_by (own := [("number", 7)]) (N := ["house", "arguments", "key", "giver", "to", "amount", "least", "number"]) (sc := defScope s_answer_trade) (by decide +kernel)) (fun _ _ _ _ _ => (pg_name (i := 7) sc_answer_trade.nd rfl (.inl rfl))) (fun _ _ _ _ _ => pts_nil) (fun _ _ _ _ _ => (pe_c c_within hr (by decide) rfl (pa_cons (pv 7) (pa_cons pe_int (pa_cons (pe_gc rfl T.c_MOST) pa_nil)))))) pa_nil)))) (pw_or1 (pt_not (pt_val (pe_c c_within hr (by decide) rfl (pa_cons (pv 6) (pa_cons pe_int (pa_cons (pv 5) pa_nil))))))))) (pss_one (ps_ret (pe_lst (pa_cons (pe_gc rfl T.c_OUT_OF_RANGE) pa_nil)))) pss_nil)
      (pss_cons (ps_if (pt_cmpR op_eq (pv 3) (pv 4) (nomark _)) (pss_one (ps_ret (pe_lst (pa_cons (pe_gc rfl T.c_UNFIT) pa_nil)))) pss_nil)
      (pss_cons (ps_if (pt_val (pe_mt c_has hr (by decide) (pv 0) (pa_cons (pv 2) pa_nil))) (pss_one (ps_ret (pe_lst (pa_cons (pe_gc rfl T.c_KEY_TAKEN) pa_nil)))) pss_nil)
      (pss_cons (ps_if (pt_not (pt_val (pe_mt c_takes_in hr (by decide) (pv 0) (pa_cons (pv 3) (pa_cons (pv 4) pa_nil))))) (pss_one (ps_ret (pe_lst (pa_cons (pe_gc rfl T.c_NO_PLACE) pa_nil)))) pss_nil)
      (pss_cons (ps_expr (pe_mt c_enter hr (by decide) (pv 0) (pa_cons (pv 2) (pa_cons (pv 3) (pa_cons (pv 4) (pa_cons (pv 5) (pa_cons (pv 6) pa_nil)))))))
      (pss_one (ps_ret (pe_lst (pa_cons pe_int pa_nil)))))))))), ?_⟩
    refine ⟨_, rfl, a, _, rfl, SqL.of hA.ints, rfl, _, _, rfl, _, _, rfl, _, _, rfl, _, _, rfl, _, _, rfl, rfl, ?_⟩
    have hcond : (Vbchad.keyed k && (Vbchad.keyed x && (Vbchad.keyed y && (Vbchad.within am 1 Vbchad.MONEY && (Vbchad.within le 0 Vbchad.MONEY && decide (le ≤ am)))))) = ([k, x, y, am].all (fun n => inR n 1 1000000000) && inR le 0 am) := by
      rw [keyed_eq, keyed_eq, keyed_eq, money_eq]
      rw [Bool.eq_iff_iff]
      have e : Vbchad.within am 1 Vbchad.MONEY = inR am 1 1000000000 := rfl
      rw [e]
      simp only [List.all_cons, List.all_nil, Bool.and_true, Bool.and_eq_true, decide_eq_true_eq, inR_iff]
      omega
    have out : ([k, x, y, am].all (fun n => inR n 1 1000000000) && inR le 0 am) = false → Vbchad.step ⟨s⟩ (.trade k x y am le) = (⟨s⟩, [-1]) := fun h => by
      show (if (Vbchad.keyed k && (Vbchad.keyed x && (Vbchad.keyed y && (Vbchad.within am 1 Vbchad.MONEY && (Vbchad.within le 0 Vbchad.MONEY && decide (le ≤ am)))))) = false then _ else _) = _
      rw [hcond, if_pos h]
    refine ⟨_, rfl, _, rfl, _, rfl, _, rfl, (by show 4 ≤ sizeLine; decide), fun tp ntp => ⟨tp, rfl, ⟨_, SqT.of upd_same⟩, fun z nz => lc_tup (K := K) (a := tp) (xs := [k, x, y, am].map V.int) (fun i H' => Same (upd H tp (.tup [.int k, .int x, .int y, .int am])) H' ∧ H' z = some (.lst ((([k, x, y, am].take i).map fun n => inR n 1 1000000000).map V.bl))) ⟨same_upd nz, upd_same⟩ (fun i H' _ h => SqT.of (h.1 _ _ upd_same)) ?_ ?_⟩⟩
    · rintro i v H' hx ⟨s5, hz⟩
      obtain ⟨n, hn, rfl⟩ := map_get hx
      refine ⟨rfl, _, rfl, n, 1, 1000000000, rfl, _, hz, sl ?_, fun c o e => ?_, ?_⟩
      · rw [List.length_map, List.length_map, List.length_take]
        show min i 4 ≤ _
        omega
      · rw [upd_ne (ne_of_none e nz)]
        exact s5 _ _ e
      · rw [upd_same, take_more hn, List.map_append, List.map_append]
        rfl
    · rintro H1 ⟨s5, hz⟩
      have s1 := (same_upd (o := .tup [.int k, .int x, .int y, .int am]) ntp).trans s5
      refine ⟨z, _, rfl, SqL.of hz, _, rfl, ?_⟩
      have e1 : (([k, x, y, am].take ([k, x, y, am].map V.int).length).map fun n => inR n 1 1000000000).all id = [k, x, y, am].all (fun n => inR n 1 1000000000) := rfl
      rw [e1]
      refine ite2 (fun cc => ?_) (fun cc => ?_)
      · have c1 : [k, x, y, am].all (fun n => inR n 1 1000000000) = false := (Bool.not_eq_true' _).mp cc
        exact ite2 (fun _ => ans.ret1 (out (by rw [c1]; rfl)) (Same.frk s1) (tab.ext s1) (hs.same s1)) (fun z => absurd rfl z)
      · have c1 : [k, x, y, am].all (fun n => inR n 1 1000000000) = true := by
          cases z : [k, x, y, am].all (fun n => inR n 1 1000000000)
          · rw [z] at cc
            exact absurd rfl cc
          · rfl
        refine ⟨_, rfl, _, rfl, le, 0, am, rfl, _, rfl, ite2 (fun cc => ?_) (fun cc => ?_)⟩
        · have c2 : inR le 0 am = false := by simpa using cc
          exact ans.ret1 (out (by rw [c2, Bool.and_false])) (Same.frk s1) (tab.ext s1) (hs.same s1)
        · have c2 : inR le 0 am = true := by simpa using cc
          have hall := List.all_eq_true.mp c1
          have ck : inR k 1 1000000000 = true := hall k (by simp)
          have cx : inR x 1 1000000000 = true := hall x (by simp)
          have cy : inR y 1 1000000000 = true := hall y (by simp)
          have ca : inR am 1 1000000000 = true := hall am (by simp)
          obtain ⟨k, rfl⟩ := inR_nat (by decide) ck
          obtain ⟨x, rfl⟩ := inR_nat (by decide) cx
          obtain ⟨y, rfl⟩ := inR_nat (by decide) cy
          obtain ⟨am, rfl⟩ := inR_nat (by decide) ca
          obtain ⟨le, rfl⟩ := inR_nat (by decide) c2
          have la := (inR_iff.mp c2).2
          have ha := inR_iff.mp ca
          obtain ⟨t, et⟩ : ∃ t : Trd, t = ⟨k, x, y, am, le⟩ := ⟨_, rfl⟩
          have inn : Vbchad.step ⟨s⟩ (.trade (k : Int) (x : Int) (y : Int) (am : Int) (le : Int)) = if (x : Int) = (y : Int) then (⟨s⟩, [-3]) else if (Vbchad.tradeAt ⟨s⟩ k).isSome = true then (⟨s⟩, [-2]) else
              if Vbchad.TRADES ≤ s.length ∨ Vbchad.MEMBERS < (Vbchad.membersOf (Vbchad.put t s)).length then (⟨s⟩, [-9]) else (⟨Vbchad.put t s⟩, [0]) := by
            show (if (Vbchad.keyed _ && (Vbchad.keyed _ && (Vbchad.keyed _ && (Vbchad.within _ 1 Vbchad.MONEY && (Vbchad.within _ 0 Vbchad.MONEY && decide _))))) = false then _ else _) = _
            rw [hcond, c1, c2, if_neg (by decide), et]
            rfl
          have hs1 := hs.same s1
          have at1 := at_.same s1
          refine ⟨_, rfl, _, rfl, rfl, _, rfl, ite2 (fun c3 => ?_) (fun c3 => ?_)⟩
          · refine ans.ret1 ?_ (Same.frk s1) (tab.ext s1) hs1
            rw [inn, if_pos (V.int.inj (of_decide_eq_true c3))]
          · have nxy : ¬ (x : Int) = (y : Int) := fun e => c3 (decide_eq_true (congrArg V.int e))
            have isS : (Vbchad.tradeAt ⟨s⟩ k).isSome = true ↔ ∃ t, t ∈ s ∧ t.key = k := by
              unfold Vbchad.tradeAt
              rw [List.find?_isSome]
              simp
            refine ⟨_, rfl, h, dx, _, rfl, at1.hou, rfl, _, rfl, h, s, k, rfl, hs1, fun r hrr => ⟨_, rfl, ite2 (fun c4 => ?_) (fun c4 => ?_)⟩⟩
            · refine ans.ret1 ?_ (Same.frk s1) (tab.ext s1) hs1
              rw [inn, if_neg nxy, if_pos (isS.mpr (hrr.mp c4))]
            · have nk : ¬ (Vbchad.tradeAt ⟨s⟩ k).isSome = true := fun z => c4 (hrr.mpr (isS.mp z))
              refine ⟨_, rfl, h, dx, _, rfl, at1.hou, rfl, _, rfl, _, rfl, h, s, x, y, Vbchad.membersOf (Vbchad.put t s), rfl, hs1, good, rising_nodup (members_rising _), fun m => ?_, fun H2 r2 s2 hr2 => ⟨_, rfl, ite2 (fun c5 => ?_) (fun c5 => ?_)⟩⟩
              · rw [mem_members, mem_members]
                constructor
                · rintro ⟨u, h1, h2⟩
                  rcases mem_put.mp h1 with z | z
                  · rw [z, et] at h2
                    rcases h2 with h2 | h2
                    · exact .inr (.inl h2.symm)
                    · exact .inr (.inr h2.symm)
                  · exact .inl ⟨u, z, h2⟩
                · rintro (⟨u, h1, h2⟩ | h1 | h1)
                  · exact ⟨u, mem_put.mpr (.inr h1), h2⟩
                  · exact ⟨t, mem_put.mpr (.inl rfl), .inl (by rw [et, h1])⟩
                  · exact ⟨t, mem_put.mpr (.inl rfl), .inr (by rw [et, h1])⟩
              · have s12 := s1.trans s2
                refine ans.ret1 ?_ (Same.frk s12) (tab.ext s12) (hs.same s12)
                rw [inn, if_neg nxy, if_neg nk, if_pos]
                have h40 : Vbchad.TRADES = 40 := rfl
                have h12 : Vbchad.MEMBERS = 12 := rfl
                rw [h40, h12]
                have : ¬ (s.length < 40 ∧ (Vbchad.membersOf (Vbchad.put t s)).length ≤ 12) := fun z => by
                  rw [hr2.mpr z] at c5
                  cases c5
                omega
              · have s12 := s1.trans s2
                have hfit := hr2.mp (by simpa using c5)
                have at2 := at_.same s12
                have hnew : ∀ u, u ∈ s → u.key ≠ t.key := fun u hu e => nk (isS.mpr ⟨u, hu, by rw [e, et]⟩)
                refine ⟨_, rfl, h, dx, _, rfl, at2.hou, rfl, _, rfl, _, rfl, _, rfl, _, rfl, _, rfl, h, s, t, by rw [et], hs.same s12, good, hnew, fun H3 fr3 fk3 hs3 => ?_⟩
                refine ans.ret1 ?_ ((Same.frk s12).trans fk3) (FrM.tt (tab.ext s12) fr3) hs3
                rw [inn, if_neg nxy, if_neg nk, if_neg]
                have h40 : Vbchad.TRADES = 40 := rfl
                have h12 : Vbchad.MEMBERS = 12 := rfl
                rw [h40, h12]
                omega
end
end Vb
end

section
/-! # Calls as a list of whole numbers -/
namespace Vb
open PySem PySem.Spec PyProof.Rows L2 Nw LamX
theorem good_step {s : List Trd} (g : GoodS s) (c : Vbchad.Call) : ∃ s', (Vbchad.step ⟨s⟩ c).1 = ⟨s'⟩ ∧ GoodS s' := by
  have same : ∀ x : Vbchad.State × List Int, x.1 = ⟨s⟩ → ∃ s', x.1 = ⟨s'⟩ ∧ GoodS s' := fun x h => ⟨s, h, g⟩
  have onT : ∀ (k : Int) (f : Trd → Vbchad.State × List Int), (∀ t, t ∈ s → ∃ s', (f t).1 = ⟨s'⟩ ∧ GoodS s') → ∃ s', (Vbchad.onTrade ⟨s⟩ k f).1 = ⟨s'⟩ ∧ GoodS s' := fun k f hf => by
    unfold Vbchad.onTrade
    split
    · exact ⟨s, rfl, g⟩
    · split
      · exact ⟨s, rfl, g⟩
      · rename_i t ht
        exact hf t (List.mem_of_find?_eq_some ht)
  cases c with
  | trade k a b am le =>
    show ∃ s', (if (Vbchad.keyed k && (Vbchad.keyed a && (Vbchad.keyed b && (Vbchad.within am 1 Vbchad.MONEY && (Vbchad.within le 0 Vbchad.MONEY && decide (le ≤ am)))))) = false then ((⟨s⟩, [-1]) : Vbchad.State × List Int) else _).1 = ⟨s'⟩ ∧ GoodS s'
    split
    · exact ⟨s, rfl, g⟩
    · rename_i h1
      split
      · exact ⟨s, rfl, g⟩
      · rename_i h2
        split
        · exact ⟨s, rfl, g⟩
        · rename_i h3
          split
          · exact ⟨s, rfl, g⟩
          · rename_i h4
            have h1 : (Vbchad.keyed k && (Vbchad.keyed a && (Vbchad.keyed b && (Vbchad.within am 1 Vbchad.MONEY && (Vbchad.within le 0 Vbchad.MONEY && decide (le ≤ am)))))) = true := by simpa using h1
            simp only [Bool.and_eq_true, decide_eq_true_eq, keyed_eq, money_eq, inR_iff] at h1
            obtain ⟨⟨k1, k2⟩, ⟨a1, a2⟩, ⟨b1, b2⟩, m1, ⟨l1, l2⟩, l3⟩ := h1
            have m1' : inR am 1 1000000000 = true := m1
            have m2 := inR_iff.mp m1'
            refine ⟨_, rfl, good_put g (fun x hx e => h3 ?_) ?_ ?_ ?_ ?_ ?_ ?_⟩
            · unfold Vbchad.tradeAt
              rw [List.find?_isSome]
              exact ⟨x, hx, by simpa using e⟩
            · have e : Vbchad.TRADES = 40 := rfl
              rw [e] at h4
              show s.length < 40
              have h4 : ¬ (40 ≤ s.length ∨ _) := h4
              omega
            · have e : Vbchad.MEMBERS = 12 := rfl
              rw [e] at h4
              omega
            · show 1 ≤ am.toNat
              omega
            · show am.toNat ≤ 1000000000
              omega
            · show le.toNat ≤ am.toNat
              omega
            · show a.toNat ≠ b.toNat
              omega
  | drop k => exact onT k _ fun t ht => ⟨_, rfl, good_sub g List.filter_sublist⟩
  | keepLeast k n =>
    show ∃ s', (if Vbchad.within n 0 Vbchad.MONEY = false then ((⟨s⟩, [-1]) : Vbchad.State × List Int) else _).1 = ⟨s'⟩ ∧ GoodS s'
    split
    · exact ⟨s, rfl, g⟩
    · rename_i h1
      refine onT k _ fun t ht => ?_
      split
      · exact ⟨s, rfl, g⟩
      · rename_i h2
        have h1 : inR n 0 1000000000 = true := by
          rw [← money_eq]
          simpa using h1
        have h3 := inR_iff.mp h1
        refine ⟨_, rfl, good_map g _ (fun u hu => by split <;> exact ⟨rfl, rfl, rfl⟩) fun u hu => ?_⟩
        have p1 := g.pos u hu
        have p2 := g.amt u hu
        have p3 := g.le u hu
        split
        · rename_i hk
          have : u = t := key_inj g.nodup u t hu ht hk
          subst this
          refine ⟨p1, p2, ?_⟩
          show n.toNat ≤ u.amount
          omega
        · exact ⟨p1, p2, p3⟩
  | net m =>
    show ∃ s', (if Vbchad.keyed m = false then ((⟨s⟩, [-1]) : Vbchad.State × List Int) else _).1 = ⟨s'⟩ ∧ GoodS s'
    split <;> exact ⟨s, rfl, g⟩
  | gross => exact ⟨s, rfl, g⟩
  | greatest => exact ⟨s, rfl, g⟩
  | told => exact ⟨s, rfl, g⟩
  | take =>
    obtain ⟨h1, h2⟩ := told_room s
    exact ⟨_, rfl, good_less g h1 h2⟩
  | apply f =>
    show ∃ s', (if Vbchad.numbers ⟨s⟩ f = false then ((⟨s⟩, [-1]) : Vbchad.State × List Int) else _).1 = ⟨s'⟩ ∧ GoodS s'
    split
    · exact ⟨s, rfl, g⟩
    · rename_i h1
      split
      · exact ⟨s, rfl, g⟩
      · rename_i h2
        have hr : Vbchad.isReduction s (f.map Int.toNat) = true := by simpa using h2
        have hl := (red_iff.mp hr).1
        exact ⟨_, rfl, good_less g hl (red_room hl hr)⟩
  | isOne f =>
    show ∃ s', (if Vbchad.numbers ⟨s⟩ f = false then ((⟨s⟩, [-1]) : Vbchad.State × List Int) else _).1 = ⟨s'⟩ ∧ GoodS s'
    split <;> exact ⟨s, rfl, g⟩
  | bound p =>
    show ∃ s', (if Vbchad.potentialsIn ⟨s⟩ p = false then ((⟨s⟩, [-1]) : Vbchad.State × List Int) else _).1 = ⟨s'⟩ ∧ GoodS s'
    split <;> exact ⟨s, rfl, g⟩
  | potentials => exact ⟨s, rfl, g⟩
  | proves p f =>
    show ∃ s', (if (Vbchad.potentialsIn ⟨s⟩ p && Vbchad.numbers ⟨s⟩ f) = false then ((⟨s⟩, [-1]) : Vbchad.State × List Int) else _).1 = ⟨s'⟩ ∧ GoodS s'
    split <;> exact ⟨s, rfl, g⟩
  | without k => exact onT k _ fun t ht => ⟨s, rfl, g⟩
  | pairs => exact ⟨s, rfl, g⟩
  | worth k => exact onT k _ fun t ht => ⟨s, rfl, g⟩
  | members => exact ⟨s, rfl, g⟩
  | trades => exact ⟨s, rfl, g⟩
  | between a b =>
    show ∃ s', (if (Vbchad.keyed a && Vbchad.keyed b) = false then ((⟨s⟩, [-1]) : Vbchad.State × List Int) else if a = b then _ else _).1 = ⟨s'⟩ ∧ GoodS s'
    split
    · exact ⟨s, rfl, g⟩
    · split <;> exact ⟨s, rfl, g⟩
/-! ## Shapes -/
def nOf : Nat → Nat
  | 0 => 5
  | 1 => 1
  | 2 => 2
  | 5 => 1
  | 13 => 1
  | 15 => 1
  | 18 => 2
  | _ => 0
def kOf : Nat → Nat
  | 4 => 1
  | 9 => 1
  | 10 => 1
  | 12 => 2
  | _ => 0
def gOf : Nat → List Int → List (List Int) → Vbchad.Call → Prop
  | 0 => g5 .trade
  | 1 => g1 .drop
  | 2 => g2 .keepLeast
  | 3 => g0 .take
  | 4 => gR .apply
  | 5 => g1 .net
  | 6 => g0 .gross
  | 7 => g0 .greatest
  | 8 => g0 .told
  | 9 => gR .isOne
  | 10 => gR .bound
  | 11 => g0 .potentials
  | 12 => gRR .proves
  | 13 => g1 .without
  | 14 => g0 .pairs
  | 15 => g1 .worth
  | 16 => g0 .members
  | 17 => g0 .trades
  | _ => g2 .between
theorem shape_at {p : Int} {n k : Nat} (h : PyVbchad.shape p = some (n, k)) : ∃ i : Nat, i < 19 ∧ p = (i : Int) ∧ n = nOf i ∧ k = kOf i := by
  unfold PyVbchad.shape at h
  by_cases c : 0 ≤ p ∧ p ≤ 18
  · obtain ⟨i, rfl⟩ : ∃ i : Nat, p = (i : Int) := ⟨p.toNat, by omega⟩
    have hi : i < 19 := by omega
    refine ⟨i, hi, rfl, ?_⟩
    clear c
    match i, hi with
    | 0, _ =>
      injection h with h
      injection h with h1 h2
      exact ⟨h1.symm, h2.symm⟩
    | 1, _ =>
      injection h with h
      injection h with h1 h2
      exact ⟨h1.symm, h2.symm⟩
    | 2, _ =>
      injection h with h
      injection h with h1 h2
      exact ⟨h1.symm, h2.symm⟩
    | 3, _ =>
      injection h with h
      injection h with h1 h2
      exact ⟨h1.symm, h2.symm⟩
    | 4, _ =>
      injection h with h
      injection h with h1 h2
      exact ⟨h1.symm, h2.symm⟩
    | 5, _ =>
      injection h with h
      injection h with h1 h2
      exact ⟨h1.symm, h2.symm⟩
    | 6, _ =>
      injection h with h
      injection h with h1 h2
      exact ⟨h1.symm, h2.symm⟩
    | 7, _ =>
      injection h with h
      injection h with h1 h2
      exact ⟨h1.symm, h2.symm⟩
    | 8, _ =>
      injection h with h
      injection h with h1 h2
      exact ⟨h1.symm, h2.symm⟩
    | 9, _ =>
      injection h with h
      injection h with h1 h2
      exact ⟨h1.symm, h2.symm⟩
    | 10, _ =>
      injection h with h
      injection h with h1 h2
      exact ⟨h1.symm, h2.symm⟩
    | 11, _ =>
      injection h with h
      injection h with h1 h2
      exact ⟨h1.symm, h2.symm⟩
    | 12, _ =>
      injection h with h
      injection h with h1 h2
      exact ⟨h1.symm, h2.symm⟩
    | 13, _ =>
      injection h with h
      injection h with h1 h2
      exact ⟨h1.symm, h2.symm⟩
    | 14, _ =>
      injection h with h
      injection h with h1 h2
      exact ⟨h1.symm, h2.symm⟩
    | 15, _ =>
      injection h with h
      injection h with h1 h2
      exact ⟨h1.symm, h2.symm⟩
    | 16, _ =>
      injection h with h
      injection h with h1 h2
      exact ⟨h1.symm, h2.symm⟩
    | 17, _ =>
      injection h with h
      injection h with h1 h2
      exact ⟨h1.symm, h2.symm⟩
    | 18, _ =>
      injection h with h
      injection h with h1 h2
      exact ⟨h1.symm, h2.symm⟩
    | n + 19, h => omega
  · repeat rw [if_neg (by omega)] at h
    cases h
theorem call_at {i : Nat} (hi : i < 19) {xs : List Int} {rs : List (List Int)} (h1 : xs.length = nOf i) (h2 : rs.length = kOf i) :
    ∃ v, gOf i xs rs v ∧ ∀ s : Vbchad.State, VbchadNeutral.step s (PyVbchad.whole (((i : Int) :: xs) :: rs)) = Vbchad.step s v := by
  have l0 : ∀ {α : Type} {l : List α}, l.length = 0 → l = [] := fun h => List.length_eq_zero_iff.mp h
  have l1 : ∀ {α : Type} {l : List α}, l.length = 1 → ∃ a, l = [a] := fun {α l} h => by
    match l, h with
    | [a], _ => exact ⟨a, rfl⟩
  have l2 : ∀ {α : Type} {l : List α}, l.length = 2 → ∃ a b, l = [a, b] := fun {α l} h => by
    match l, h with
    | [a, b], _ => exact ⟨a, b, rfl⟩
  have l5 : ∀ {α : Type} {l : List α}, l.length = 5 → ∃ a b c d e, l = [a, b, c, d, e] := fun {α l} h => by
    match l, h with
    | [a, b, c, d, e], _ => exact ⟨a, b, c, d, e, rfl⟩
  match i, hi with
  | 0, _ =>
    obtain ⟨a, b, c, d, e, rfl⟩ := l5 h1
    obtain rfl := l0 h2
    exact ⟨_, ⟨a, b, c, d, e, rfl, rfl, rfl⟩, fun s => rfl⟩
  | 1, _ =>
    obtain ⟨a, rfl⟩ := l1 h1
    obtain rfl := l0 h2
    exact ⟨_, ⟨a, rfl, rfl, rfl⟩, fun s => rfl⟩
  | 2, _ =>
    obtain ⟨a, b, rfl⟩ := l2 h1
    obtain rfl := l0 h2
    exact ⟨_, ⟨a, b, rfl, rfl, rfl⟩, fun s => rfl⟩
  | 3, _ =>
    obtain rfl := l0 h1
    obtain rfl := l0 h2
    exact ⟨_, ⟨rfl, rfl, rfl⟩, fun s => rfl⟩
  | 4, _ =>
    obtain rfl := l0 h1
    obtain ⟨r, rfl⟩ := l1 h2
    exact ⟨_, ⟨r, rfl, rfl, rfl⟩, fun s => rfl⟩
  | 5, _ =>
    obtain ⟨a, rfl⟩ := l1 h1
    obtain rfl := l0 h2
    exact ⟨_, ⟨a, rfl, rfl, rfl⟩, fun s => rfl⟩
  | 6, _ =>
    obtain rfl := l0 h1
    obtain rfl := l0 h2
    exact ⟨_, ⟨rfl, rfl, rfl⟩, fun s => rfl⟩
  | 7, _ =>
    obtain rfl := l0 h1
    obtain rfl := l0 h2
    exact ⟨_, ⟨rfl, rfl, rfl⟩, fun s => rfl⟩
  | 8, _ =>
    obtain rfl := l0 h1
    obtain rfl := l0 h2
    exact ⟨_, ⟨rfl, rfl, rfl⟩, fun s => rfl⟩
  | 9, _ =>
    obtain rfl := l0 h1
    obtain ⟨r, rfl⟩ := l1 h2
    exact ⟨_, ⟨r, rfl, rfl, rfl⟩, fun s => rfl⟩
  | 10, _ =>
    obtain rfl := l0 h1
    obtain ⟨r, rfl⟩ := l1 h2
    exact ⟨_, ⟨r, rfl, rfl, rfl⟩, fun s => rfl⟩
  | 11, _ =>
    obtain rfl := l0 h1
    obtain rfl := l0 h2
    exact ⟨_, ⟨rfl, rfl, rfl⟩, fun s => rfl⟩
  | 12, _ =>
    obtain rfl := l0 h1
    obtain ⟨r, r', rfl⟩ := l2 h2
    exact ⟨_, ⟨r, r', rfl, rfl, rfl⟩, fun s => rfl⟩
  | 13, _ =>
    obtain ⟨a, rfl⟩ := l1 h1
    obtain rfl := l0 h2
    exact ⟨_, ⟨a, rfl, rfl, rfl⟩, fun s => rfl⟩
  | 14, _ =>
    obtain rfl := l0 h1
    obtain rfl := l0 h2
    exact ⟨_, ⟨rfl, rfl, rfl⟩, fun s => rfl⟩
  | 15, _ =>
    obtain ⟨a, rfl⟩ := l1 h1
    obtain rfl := l0 h2
    exact ⟨_, ⟨a, rfl, rfl, rfl⟩, fun s => rfl⟩
  | 16, _ =>
    obtain rfl := l0 h1
    obtain rfl := l0 h2
    exact ⟨_, ⟨rfl, rfl, rfl⟩, fun s => rfl⟩
  | 17, _ =>
    obtain rfl := l0 h1
    obtain rfl := l0 h2
    exact ⟨_, ⟨rfl, rfl, rfl⟩, fun s => rfl⟩
  | 18, _ =>
    obtain ⟨a, b, rfl⟩ := l2 h1
    obtain rfl := l0 h2
    exact ⟨_, ⟨a, b, rfl, rfl, rfl⟩, fun s => rfl⟩
  | n + 19, h => omega
/-- the lists of a call are short -/
theorem rows_short {i : Nat} (hi : i < 19) {xs : List Int} {rs : List (List Int)} (h2 : rs.length = kOf i) (hb : PyInside.call PyVbchad.bound (((i : Int) :: xs) :: rs) = true) : ∀ r, r ∈ rs → r.length ≤ 60 := by
  have hb2 : PyInside.lists (PyVbchad.bound (i : Int)).2 rs = true := by
    have : (PyInside.each (PyVbchad.bound (i : Int)).1 xs && PyInside.lists (PyVbchad.bound (i : Int)).2 rs) = true := hb
    rw [Bool.and_eq_true] at this
    exact this.2
  have one : ∀ {a b : Int} {lo hi : Nat} {B : List (Int × Int × Nat × Nat)} {r : List Int} {rs : List (List Int)}, PyInside.lists ((a, b, lo, hi) :: B) (r :: rs) = true → r.length ≤ hi ∧ PyInside.lists B rs = true := fun {a b lo hi B r rs} h => by
    have : (decide (lo ≤ r.length) && decide (r.length ≤ hi) && r.all (PyInside.within a b) && PyInside.lists B rs) = true := h
    rw [Bool.and_eq_true, Bool.and_eq_true, Bool.and_eq_true] at this
    exact ⟨of_decide_eq_true this.1.1.2, this.2⟩
  have none : kOf i = 0 → ∀ r, r ∈ rs → r.length ≤ 60 := fun h r hr => by
    rw [h] at h2
    rw [List.length_eq_zero_iff.mp h2] at hr
    cases hr
  have single : kOf i = 1 → (PyVbchad.bound (i : Int)).2 = [(-1000000000000000000, 1000000000000000000, 0, 60)] → ∀ r, r ∈ rs → r.length ≤ 60 := fun h e r hr => by
    rw [h] at h2
    match rs, h2 with
    | [q], _ =>
      rw [e] at hb2
      rw [List.mem_singleton.mp hr]
      exact (one hb2).1
  match i, hi with
  | 4, _ => exact single rfl rfl
  | 9, _ => exact single rfl rfl
  | 10, _ => exact single rfl rfl
  | 12, _ =>
    intro r hr
    match rs, h2 with
    | [q, q'], _ =>
      have e : (PyVbchad.bound ((12 : Nat) : Int)).2 = [(-1000000000000000000, 1000000000000000000, 0, 60), (-1000000000000000000, 1000000000000000000, 0, 60)] := rfl
      rw [e] at hb2
      have h1 := one hb2
      have h3 := one h1.2
      rcases List.mem_cons.mp hr with z | z
      · rw [z]
        exact h1.1
      · rw [List.mem_singleton.mp z]
        exact h3.1
  | 0, _ => exact none rfl
  | 1, _ => exact none rfl
  | 2, _ => exact none rfl
  | 3, _ => exact none rfl
  | 5, _ => exact none rfl
  | 6, _ => exact none rfl
  | 7, _ => exact none rfl
  | 8, _ => exact none rfl
  | 11, _ => exact none rfl
  | 13, _ => exact none rfl
  | 14, _ => exact none rfl
  | 15, _ => exact none rfl
  | 16, _ => exact none rfl
  | 17, _ => exact none rfl
  | 18, _ => exact none rfl
  | n + 19, h => omega
/-! ## A call's place in the list -/
theorem row_at {L : List Int} {be : Nat} {x t : List Int} (h : PyFlat.row (L.drop be) = some (x, t)) : ∃ n : Nat, L[be]? = some (n : Int) ∧ x = (L.drop (be + 1)).take n ∧ x.length = n ∧ be + 1 + n ≤ L.length ∧ t = L.drop (be + 1 + n) := by
  cases e : L.drop be with
  | nil =>
    rw [e] at h
    cases h
  | cons n r =>
    rw [e] at h
    have hb : be < L.length := by
      by_cases z : be < L.length
      · exact z
      · rw [List.drop_eq_nil_of_le (by omega)] at e
        cases e
    rw [List.drop_eq_getElem_cons hb] at e
    have e1 : L[be] = n := (List.cons.inj e).1
    have e2 : L.drop (be + 1) = r := (List.cons.inj e).2
    have h' : (if 0 ≤ n ∧ n.toNat ≤ r.length then some (r.take n.toNat, r.drop n.toNat) else none) = some (x, t) := h
    split at h'
    · rename_i c
      injection h' with h'
      injection h' with h1 h2
      have hr : r.length = L.length - (be + 1) := by
        rw [← e2, List.length_drop]
      refine ⟨n.toNat, ?_, ?_, ?_, by omega, ?_⟩
      · rw [List.getElem?_eq_getElem hb, e1]
        congr 1
        omega
      · rw [e2]
        exact h1.symm
      · rw [← h1, List.length_take]
        omega
      · rw [← h2, ← e2, List.drop_drop]
    · cases h'
theorem rows_len : ∀ {k : Nat} {r : List Int} {xs : List (List Int)} {t : List Int}, PyFlat.rows k r = some (xs, t) → xs.length = k ∧ t.length ≤ r.length
  | 0, r, xs, t, h => by
    have h : some (([] : List (List Int)), r) = some (xs, t) := h
    injection h with h
    injection h with h1 h2
    rw [← h1, ← h2]
    exact ⟨rfl, Nat.le_refl _⟩
  | k + 1, r, xs, t, h => by
    unfold PyFlat.rows at h
    split at h
    · cases h
    · rename_i x s hx
      split at h
      · cases h
      · rename_i ys u hy
        injection h with h
        injection h with h1 h2
        have ih := rows_len hy
        rw [← h1, ← h2, List.length_cons, ih.1]
        refine ⟨rfl, Nat.le_trans ih.2 ?_⟩
        cases r with
        | nil => cases hx
        | cons n r =>
          have hx : (if 0 ≤ n ∧ n.toNat ≤ r.length then some (r.take n.toNat, r.drop n.toNat) else none) = some (x, s) := hx
          split at hx
          · injection hx with hx
            injection hx with h3 h4
            rw [← h4, List.length_drop, List.length_cons]
            omega
          · cases hx
theorem rows_succ {k : Nat} {r : List Int} {ys : List (List Int)} {t : List Int} (h : PyFlat.rows (k + 1) r = some (ys, t)) : ∃ x s xs, PyFlat.row r = some (x, s) ∧ PyFlat.rows k s = some (xs, t) ∧ ys = x :: xs := by
  unfold PyFlat.rows at h
  split at h
  · cases h
  · rename_i x s hx
    split at h
    · cases h
    · rename_i xs u hy
      injection h with h
      injection h with h1 h2
      subst h1 h2
      exact ⟨x, s, xs, hx, hy, rfl⟩
/-- the first call of a list that is one -/
theorem calls_cons {f : Nat} {p : Int} {r : List Int} {cs : List (List (List Int))} (h : PyFlat.calls PyVbchad.shape f (p :: r) = some cs) :
    ∃ (f' n k : Nat) (xs : List (List Int)) (t : List Int) (cs' : List (List (List Int))), PyVbchad.shape p = some (n, k) ∧ n ≤ r.length ∧ PyFlat.rows k (r.drop n) = some (xs, t) ∧ PyFlat.calls PyVbchad.shape f' t = some cs' ∧ cs = ((p :: r.take n) :: xs) :: cs' := by
  cases f with
  | zero => cases h
  | succ f =>
    unfold PyFlat.calls at h
    split at h
    · cases h
    · rename_i c t hc
      split at h
      · cases h
      · rename_i cs' hcs
        injection h with h
        have hc : (match PyVbchad.shape p with
          | none => none
          | some (n, k) => if r.length < n then none else match PyFlat.rows k (r.drop n) with
            | none => none
            | some (xs, t) => some ((p :: r.take n) :: xs, t)) = some (c, t) := hc
        split at hc
        · cases hc
        · rename_i n k hsh
          split at hc
          · cases hc
          · rename_i hn
            split at hc
            · cases hc
            · rename_i xs u hx
              injection hc with hc
              injection hc with h1 h2
              subst h1 h2
              exact ⟨f, n, k, xs, u, cs', hsh, by omega, hx, hcs, h.symm⟩
end Vb
end

section
/-! # calls.py, house.py: shape_of, answer_call, read_arguments -/
namespace Vb
open PySem PySem.Spec PyProof.Rows L2 Nw LamX
/-- a tuple of the top -/
def KTup (K : PySem.W.Frag) (a : Addr) (xs : List V) : Prop := ∃ (o : Obj) (its : Array Value) (n : Nat), K.lookup a = some o ∧ o.cls = .type "tuple" ∧ o.data = .seq its n ∧ its.size ≤ sizeLine ∧ Vals xs its.toList
theorem KTup.sq {K : PySem.W.Frag} {a : Addr} {xs : List V} (h : KTup K a xs) (H : Hp) : SqT K H a xs := .inr h
/-- the table of the calls -/
structure Tk (K : PySem.W.Frag) (mg : Str → Option Value) (TC HC ca : Addr) (rows : List (Addr × Addr)) : Prop extends Tc K mg TC HC where
  c_CALLS : ∃ u, mg "CALLS" = some u ∧ RelV (.ref ca) u
  tup : KTup K ca (rows.map fun r => V.ref r.1)
  len : rows.length = 19
  one : ∀ (i : Nat) (r : Addr × Addr), rows[i]? = some r → KTup K r.1 [.ref r.2, .int (nOf i), .int (kOf i)]
section
variable {P : Program} {w : World} {K : PySem.W.Frag} {mg : Str → Option Value} {base : Heap} {TC HC Pt ca : Addr} {rows : List (Addr × Addr)}
theorem Tk.row (T : Tk K mg TC HC ca rows) {i : Nat} (hi : i < 19) : ∃ r, rows[i]? = some r ∧ (rows.map fun r => V.ref r.1)[i]? = some (V.ref r.1) ∧ KTup K r.1 [.ref r.2, .int (nOf i), .int (kOf i)] := by
  have hl : i < rows.length := by
    rw [T.len]
    exact hi
  refine ⟨rows[i], List.getElem?_eq_getElem hl, ?_, T.one i _ (List.getElem?_eq_getElem hl)⟩
  rw [List.getElem?_map, List.getElem?_eq_getElem hl]
  rfl
def spShape : Sp := fun vs H Q _ => ∃ i : Nat, vs = [.int i] ∧ i < 19 ∧ ∀ p, H p = none → Q (.ref p) (upd H p (.tup [.int (nOf i), .int (kOf i)]))
theorem c_shape_of (T : Tk K mg TC HC ca rows) (D : DefAt K mg "shape_of" s_shape_of ["number"]) : Cal P w K mg base 1 "shape_of" spShape := by
  refine cal_of D sc_shape_of (fun vs H Q E h => ?_) (fun fa cdv A outer sh H vs Q E _ hr h => ?_)
  · obtain ⟨_, rfl, _⟩ := h
    rfl
  · obtain ⟨i, rfl, hi, q⟩ := h
    obtain ⟨r, hr1, hr2, hr3⟩ := T.row hi
    refine ⟨_, (pss_one (ps_ret (pe_tup (pa_cons (pe_ix ix_tup (pe_ix ix_tup (pe_gc rfl T.c_CALLS) (pv 0) (fun _ _ => rfl)) pe_int (fun _ _ => rfl)) (pa_cons (pe_ix ix_tup (pe_ix ix_tup (pe_gc rfl T.c_CALLS) (pv 0) (fun _ _ => rfl)) pe_int (fun _ _ => rfl)) pa_nil))))), ?_⟩
    refine ⟨_, rfl, ca, _, _, _, rfl, rfl, T.tup.sq H, atI_nat hr2, r.1, _, 1, _, rfl, rfl, hr3.sq H, rfl, _, rfl, ca, _, _, _, rfl, rfl, T.tup.sq H, atI_nat hr2, r.1, _, 2, _, rfl, rfl, hr3.sq H, rfl, (by show 2 ≤ sizeLine; decide), q⟩
def spCall (TC HC Pt : Addr) : Sp := fun vs H Q _ => ∃ (h a : Addr) (s : List Trd) (i : Nat) (xs : List Int) (rs : List (List Int)) (c : Vbchad.Call), vs = [.ref h, .int i, .ref a] ∧ i < 19 ∧ HsAt TC HC H h s ∧ GoodS s ∧ TT Pt H ∧ Args H a xs rs ∧ gOf i xs rs c ∧ Ans TC HC Pt H h Q (Vbchad.step ⟨s⟩ c)
theorem c_answer_call (T : Tk K mg TC HC ca rows) (D : DefAt K mg "answer_call" s_answer_call ["house", "number", "arguments"]) (hc : ∀ (i : Nat) (r : Addr × Addr), rows[i]? = some r → CalAt P w K mg base 9 r.2 (spAns TC HC Pt (gOf i))) : Cal P w K mg base 10 "answer_call" (spCall TC HC Pt) := by
  refine cal_of D sc_answer_call (fun vs H Q E h => ?_) (fun fa cdv A outer sh H vs Q E _ hr h => ?_)
  · obtain ⟨_, _, _, _, _, _, _, rfl, _⟩ := h
    rfl
  · obtain ⟨h, a, s, i, xs, rs, c, rfl, hi, hs, good, tab, hA, hg, ans⟩ := h
    obtain ⟨r, hr1, hr2, hr3⟩ := T.row hi
    refine ⟨_, (pss_one (ps_ret (pe_callE hr (pe_ix ix_tup (pe_ix ix_tup (pe_gc rfl T.c_CALLS) (pv 1) (fun _ _ => rfl)) pe_int (fun _ _ => rfl)) (pa_cons (pv 0) (pa_cons (pv 2) pa_nil))))), ?_⟩
    refine ⟨_, rfl, ca, _, _, _, rfl, rfl, T.tup.sq H, atI_nat hr2, r.1, _, 0, _, rfl, rfl, hr3.sq H, rfl, r.2, _, rfl, hc i r hr1, _, rfl, _, rfl, h, a, s, xs, rs, c, rfl, hs, good, tab, hA, hg, ans⟩
/-! ## read_arguments -/
theorem Args.push {H : Hp} {a q : Addr} {xs : List Int} {rs : List (List Int)} {r : List Int} (h : Args H a xs rs) (nq : H q = none) (hl : r.length ≤ 100) : ∃ ys, H a = some (.lst ys) ∧ ys.length = xs.length + rs.length ∧ Args (upd (upd H q (.lst (r.map V.int))) a (.lst (ys ++ [.ref q]))) a xs (rs ++ [r]) := by
  obtain ⟨qs, h1, h2, h3⟩ := h.ex
  refine ⟨_, h1, by rw [List.length_append, List.length_map, List.length_map, h2], ⟨qs ++ [q], ?_, by rw [List.length_append, List.length_append, h2]; rfl, fun i x hx => ?_⟩⟩
  · rw [upd_same, List.map_append, List.append_assoc]
    rfl
  · have nqa : q ≠ a := fun e => by
      rw [e, h1] at nq
      cases nq
    by_cases c : i < rs.length
    · rw [List.getElem?_append_left c] at hx
      obtain ⟨p, g1, g2, g3⟩ := h3 i x hx
      refine ⟨p, by rw [List.getElem?_append_left (by omega)]; exact g1, ?_, g3⟩
      have npa : p ≠ a := fun e => by
        rw [e, h1] at g2
        have e2 : xs.map V.int ++ qs.map V.ref = x.map V.int := by
          have := Option.some.inj g2
          injection this
        have hm : V.ref p ∈ xs.map V.int ++ qs.map V.ref := List.mem_append.mpr (.inr (List.mem_map.mpr ⟨p, List.mem_of_getElem? g1, rfl⟩))
        rw [e2] at hm
        obtain ⟨n, _, hn⟩ := List.mem_map.mp hm
        cases hn
      rw [upd_ne npa, upd_ne (ne_of_none g2 nq)]
      exact g2
    · rw [List.getElem?_append_right (by omega)] at hx
      have e : i - rs.length = 0 := by
        by_cases z : i - rs.length = 0
        · exact z
        · rw [List.getElem?_eq_none (by show 1 ≤ _; omega)] at hx
          cases hx
      rw [e] at hx
      obtain rfl := Option.some.inj hx
      refine ⟨q, ?_, ?_, hl⟩
      · rw [List.getElem?_append_right (by omega), h2, e]
        rfl
      · rw [upd_ne nqa, upd_same]
theorem Args.same {H H' : Hp} {a : Addr} {xs : List Int} {rs : List (List Int)} (h : Args H a xs rs) (e : Same H H') : Args H' a xs rs := by
  obtain ⟨qs, h1, h2, h3⟩ := h.ex
  exact ⟨qs, e _ _ h1, h2, fun i r hr => let ⟨q, g1, g2, g3⟩ := h3 i r hr; ⟨q, g1, e _ _ g2, g3⟩⟩
def spRead (K : PySem.W.Frag) : Sp := fun vs H Q _ => ∃ (cl sh : Addr) (L : List Int) (pl n k : Nat) (rs : List (List Int)) (t : List Int), vs = [.ref cl, .int pl, .ref sh] ∧ SqL K H cl (L.map V.int) ∧ H sh = some (.tup [.int n, .int k]) ∧ pl + n ≤ L.length ∧ n ≤ 10 ∧ k ≤ 10 ∧
  PyFlat.rows k (L.drop (pl + n)) = some (rs, t) ∧ (∀ r, r ∈ rs → r.length ≤ 100) ∧ ∀ H' p a be, Same H H' → H' p = some (.tup [.ref a, .int (be : Nat)]) → Args H' a ((L.drop pl).take n) rs → t = L.drop be → pl + n ≤ be → be ≤ L.length → Q (.ref p) H'
theorem c_read_arguments (T : Tb mg) (D : DefAt K mg "read_arguments" s_read_arguments ["calls", "place", "shape"]) : Cal P w K mg base 1 "read_arguments" (spRead K) := by
  refine cal_of D sc_read_arguments (fun vs H Q E h => ?_) (fun fa cdv A outer sh H vs Q E _ hr h => ?_)
  · obtain ⟨_, _, _, _, _, _, _, _, rfl, _⟩ := h
    rfl
  · obtain ⟨cl, sha, L, pl, n, k, rs, t, rfl, hcl, hsh, hpl, hn10, hk10, hrows, hshort, q⟩ := h
    have hkl := (rows_len hrows).1
    refine ⟨_, (pss_cons (ps_asg (pv 2) (pg_tup rfl (pgs_cons (pg_name (i := 3) sc_read_arguments.nd rfl (.inl rfl)) (pgs_cons (pg_name (i := 4) sc_read_arguments.nd rfl (.inl rfl)) pgs_nil))))
      (pss_cons (ps_set (i := 5) sc_read_arguments.nd rfl (.inl rfl) (pe_op op_add (pv 1) (pv 3)))
      (pss_cons (ps_set (i := 6) sc_read_arguments.nd rfl (.inl rfl) (pe_callTy call_list_of (by rfl) T.m_list (by decide +kernel) (pa_cons (pe_slice sl_list (pv 0) (po_some (pv 1)) (po_some (pv 5))) pa_nil)))
      (pss_cons (ps_for PassesOwn.never rfl (pi_range1 rfl T.m_range (pa_cons (pv 4) pa_nil)) (pg_name (i := 7) sc_read_arguments.nd rfl (.inl rfl)) (pss_cons (ps_set (i := 8) sc_read_arguments.nd rfl (.inl rfl) (pe_op op_add (pv 5) pe_int))
      (pss_cons (ps_set (i := 5) sc_read_arguments.nd rfl (.inl rfl) (pe_op op_add (pv 8) (pe_ix ix_list (pv 0) (pv 5) (fun _ _ => rfl))))
      (pss_one (ps_expr (pe_bm PySem.F.plainAttrs_list PySem.F.slot_list_append PySem.F.type_list_append mt_append (pv 6) (pa_cons (pe_slice sl_list (pv 0) (po_some (pv 8)) (po_some (pv 5))) pa_nil)))))))
      (pss_one (ps_ret (pe_tup (pa_cons (pv 6) (pa_cons (pv 5) pa_nil))))))))), ?_⟩
    refine ⟨_, rfl, sha, _, rfl, SqT.of hsh, rfl, _, _, rfl, _, _, rfl, rfl, ?_⟩
    refine ⟨_, rfl, _, rfl, _, _, rfl, rfl, ?_⟩
    refine ⟨_, rfl, _, rfl, _, rfl, _, rfl, _, rfl, cl, _, rfl, hcl, fun p1 np1 => ?_⟩
    have ecut : cutV (L.map V.int) (some (pl : Int)) (some ((pl : Int) + (n : Int))) = ((L.drop pl).take n).map V.int := by
      rw [show ((pl : Int) + (n : Int)) = ((pl + n : Nat) : Int) from rfl, cut_between _ _ _ (by omega) (by rw [List.length_map]; exact hpl), List.map_take, List.map_drop]
      congr 1
      omega
    rw [ecut]
    have s1 := same_upd (o := .lst (((L.drop pl).take n).map V.int)) np1
    refine ⟨p1, _, rfl, .inl (SqL.of upd_same), fun a na => ?_⟩
    have s2 := s1.trans (same_upd (o := .lst (((L.drop pl).take n).map V.int)) na)
    obtain ⟨H2, eH2⟩ : ∃ H2, H2 = upd (upd H p1 (.lst (((L.drop pl).take n).map V.int))) a (.lst (((L.drop pl).take n).map V.int)) := ⟨_, rfl⟩
    rw [← eH2] at s2 ⊢
    have ha2 : H2 a = some (.lst (((L.drop pl).take n).map V.int)) := by
      rw [eH2, upd_same]
    have na0 : H a = none := s1.free na
    have hargs : Args H2 a ((L.drop pl).take n) [] := ⟨[], by rw [List.map_nil, List.append_nil]; exact ha2, rfl, fun i r hr => by simp at hr⟩
    refine ⟨_, rfl, (k : Int), rfl, by omega, by omega, for_it walk_range (fun i σ H' => ∃ (v7 v8 : Option V) (ys ws : List (List Int)) (be : Nat), σ = [some (.ref cl), some (.int pl), some (.ref sha), some (.int n), some (.int k), some (.int be), some (.ref a), v7, v8] ∧ Same H H' ∧
      Args H' a ((L.drop pl).take n) ys ∧ rs = ys ++ ws ∧ ys.length = i ∧ PyFlat.rows ws.length (L.drop be) = some (ws, t) ∧ pl + n ≤ be ∧ be ≤ L.length) ⟨_, _, [], rs, pl + n, rfl, s2, hargs, rfl, rfl, by rw [hkl]; exact hrows, Nat.le_refl _, hpl⟩ (fun _ _ _ _ _ => trivial) ?_ ?_⟩
    · rintro i x σ H5 H6 hi ⟨v7, v8, ys, ws, be, rfl, s5, hA, ers, hyl, hw, hb1, hb2⟩ ⟨rfl, rfl⟩
      have hwl : ws.length = (ws.length - 1) + 1 := by
        have h1 := congrArg List.length ers
        rw [List.length_append] at h1
        have : i < k := by
          have : ((k : Int)).toNat = k := rfl
          omega
        omega
      rw [hwl] at hw
      obtain ⟨r, s', ws', hrow, hrows', ews⟩ := rows_succ hw
      obtain ⟨m, hm1, hm2, hm3, hm4, hm5⟩ := row_at hrow
      have hrl : r.length ≤ 100 := hshort r (by rw [ers, ews]; simp)
      have hgc : (L.map V.int)[be]? = some (V.int (m : Int)) := by
        rw [List.getElem?_map, hm1]
        rfl
      refine ⟨_, rfl, _, _, rfl, rfl, ?_⟩
      refine ⟨_, rfl, _, rfl, _, rfl, cl, _, _, _, rfl, rfl, s5.seq hcl, atI_nat hgc, _, _, rfl, rfl, ?_⟩
      obtain ⟨ysv, hy1, hy2, hy3⟩ : ∃ ysv, H6 a = some (.lst ysv) ∧ ysv.length ≤ 30 ∧ ∀ p, H6 p = none → Args (upd (upd H6 p (.lst (r.map V.int))) a (.lst (ysv ++ [.ref p]))) a ((L.drop pl).take n) (ys ++ [r]) := by
        obtain ⟨qs, g1, g2, g3⟩ := hA.ex
        refine ⟨_, g1, ?_, fun p np => ?_⟩
        · rw [List.length_append, List.length_map, List.length_map, g2, List.length_take]
          have h1 := congrArg List.length ers
          rw [List.length_append] at h1
          omega
        · obtain ⟨ysv, f1, _, f3⟩ := hA.push np hrl
          have := g1.symm.trans f1
          injection this with this
          injection this with this
          rw [this]
          exact f3
      refine ⟨_, rfl, .inl ⟨rfl, _, .inl (.inl hy1)⟩, _, rfl, _, rfl, _, rfl, _, rfl, _, rfl, cl, _, rfl, s5.seq hcl, fun p np => ?_⟩
      have ecut : cutV (L.map V.int) (some ((be : Int) + 1)) (some ((be : Int) + 1 + (m : Int))) = r.map V.int := by
        rw [show ((be : Int) + 1 + (m : Int)) = ((be + 1 + m : Nat) : Int) from rfl, show ((be : Int) + 1) = ((be + 1 : Nat) : Int) from rfl, cut_between _ _ _ (by omega) (by rw [List.length_map]; exact hm4), hm2, List.map_take, List.map_drop]
        congr 1
        omega
      rw [ecut]
      have npa : p ≠ a := fun e => by
        rw [e, hy1] at np
        cases np
      refine ⟨a, ysv, _, rfl, rfl, ?_, sl (by omega), ?_⟩
      · rw [upd_ne (Ne.symm npa)]
        exact hy1
      · refine ⟨some (.int ((0 : Int) + (i : Int))), some (.int ((be : Int) + 1)), ys ++ [r], ws', be + 1 + m, rfl, fun c o e => ?_, hy3 p np, ?_, ?_, ?_, by omega, hm4⟩
        · have h5 := s5 _ _ e
          rw [upd_ne (ne_of_none e na0), upd_ne (ne_of_none h5 np)]
          exact h5
        · rw [ers, ews, List.append_assoc]
          rfl
        · rw [List.length_append, hyl]
          rfl
        · rw [← hm5]
          have e : ws'.length = ws.length - 1 := by
            rw [ews, List.length_cons]
            rfl
          rw [e]
          exact hrows'
    · rintro σ H5 ⟨v7, v8, ys, ws, be, rfl, s5, hA, ers, hyl, hw, hb1, hb2⟩
      have hk : ((k : Int)).toNat = k := rfl
      have hws : ws = [] := by
        have h1 := congrArg List.length ers
        rw [List.length_append] at h1
        exact List.length_eq_zero_iff.mp (by omega)
      subst hws
      rw [List.append_nil] at ers
      subst ers
      have ht : t = L.drop be := by
        have hw : some (([] : List (List Int)), L.drop be) = some ([], t) := hw
        exact (congrArg Prod.snd (Option.some.inj hw)).symm
      refine ⟨_, rfl, _, rfl, (by show 2 ≤ sizeLine; decide), fun p np => ?_⟩
      exact q _ p a be (s5.trans (same_upd np)) upd_same (hA.same (same_upd np)) ht hb1 hb2
end
end Vb
end

section
/-! # house.py: answers -/
namespace Vb
open PySem PySem.Spec PyProof.Rows L2 Nw LamX
/-- a list that stays while z grows -/
def SqZ (K : PySem.W.Frag) (H : Hp) (z a : Addr) (xs : List V) : Prop := (Rd H a (.lst xs) ∧ a ≠ z) ∨ ∃ (o : Obj) (its : Array Value) (n : Nat), K.lookup a = some o ∧ o.cls = .type "list" ∧ o.dict = none ∧ o.data = .seq its n ∧ its.size ≤ sizeLine ∧ Vals xs its.toList
section
variable {K : PySem.W.Frag} {H H' : Hp} {z a : Addr} {xs : List V}
theorem SqZ.sq (h : SqZ K H z a xs) : SqL K H a xs := h.imp (fun h => h.1) id
theorem SqZ.fr (h : SqZ K H z a xs) (e : Fr H H') : SqZ K H' z a xs := h.imp (fun ⟨h, n⟩ => ⟨h.imp (e _ _ trivial) (fun ⟨o, h⟩ => ⟨o, e _ _ trivial h⟩), n⟩) id
theorem SqZ.but (h : SqZ K H z a xs) (e : But z H H') : SqZ K H' z a xs := h.imp (fun ⟨h, n⟩ => ⟨h.imp (fun h => e _ _ h n) (fun ⟨o, h⟩ => ⟨o, e _ _ h n⟩), n⟩) id
theorem SqZ.new (h : SqL K H a xs) (n : H z = none) (e : Same H H') : SqZ K H' z a xs := h.imp (fun h => ⟨h.imp (e _ _) (fun ⟨o, h⟩ => ⟨o, e _ _ h⟩), fun q => by
  rcases h with h | ⟨o, h⟩ <;> (rw [q, n] at h; cases h)⟩) id
end
section
variable {P : Program} {w : World} {K : PySem.W.Frag} {mg : Str → Option Value} {base : Heap} {TC HC Pt ca : Addr} {rows : List (Addr × Addr)}
def spAnswers (K : PySem.W.Frag) (Pt : Addr) : Sp := fun vs H Q _ => ∃ (cl : Addr) (L : List Int) (cs : List (List (List Int))), vs = [.ref cl] ∧ SqL K H cl (L.map V.int) ∧ TT Pt H ∧ PyFlat.calls PyVbchad.shape L.length L = some cs ∧ cs.length ≤ 400 ∧ (∀ c, c ∈ cs → PyInside.call PyVbchad.bound c = true) ∧
  ∀ H' p, H' p = some (.lst ((PyFlat.told (PyFlat.played VbchadNeutral.step VbchadNeutral.start (cs.map PyVbchad.whole))).map V.int)) → Q (.ref p) H'
theorem c_answers (T : Tk K mg TC HC ca rows) (D : DefAt K mg "answers" s_answers ["calls"]) (c_House_init : Mak P w K mg base 1 "House" HC (spHInit HC)) (c_read_arguments : Cal P w K mg base 1 "read_arguments" (spRead K)) (c_shape_of : Cal P w K mg base 1 "shape_of" spShape)
    (c_answer_call : Cal P w K mg base 10 "answer_call" (spCall TC HC Pt)) : Cal P w K mg base 11 "answers" (spAnswers K Pt) := by
  refine cal_of D sc_answers (fun vs H Q E h => ?_) (fun fa cdv A outer sh H vs Q E _ hr h => ?_)
  · obtain ⟨_, _, _, rfl, _⟩ := h
    rfl
  · obtain ⟨cl, L, cs, rfl, hcl, tab, hcalls, h400, hin, q⟩ := h
    refine ⟨_, (pss_cons (ps_set (i := 1) sc_answers.nd rfl (.inl rfl) (pe_mk0 c_House_init hr (by decide) rfl))
      (pss_cons (ps_set (i := 2) sc_answers.nd rfl (.inl rfl) (pe_lst pa_nil))
      (pss_cons (ps_set (i := 3) sc_answers.nd rfl (.inl rfl) pe_int)
      (pss_cons (ps_while PassesOwn.never (pt_cmpR op_lt (pv 3) (pe_callB call_len_seq (by rfl) T.m_len (by decide +kernel) (pa_cons (pv 0) pa_nil)) (nomark _)) (pss_cons (ps_set (i := 4) sc_answers.nd rfl (.inl rfl) (pe_ix ix_list (pv 0) (pv 3) (fun _ _ => rfl)))
      (pss_cons (ps_asg (pe_c c_read_arguments hr (by decide) rfl (pa_cons (pv 0) (pa_cons (pe_op op_add (pv 3) pe_int) (pa_cons (pe_c c_shape_of hr (by decide) rfl (pa_cons (pv 4) pa_nil)) pa_nil)))) (pg_tup rfl (pgs_cons (pg_name (i := 5) sc_answers.nd rfl (.inl rfl)) (pgs_cons (pg_name (i := 3) sc_answers.nd rfl (.inl rfl)) pgs_nil))))
      (pss_cons (ps_set (i := 6) sc_answers.nd rfl (.inl rfl) (pe_c c_answer_call hr (by decide) rfl (pa_cons (pv 1) (pa_cons (pv 4) (pa_cons (pv 5) pa_nil)))))
      (pss_cons (ps_expr (pe_bm PySem.F.plainAttrs_list PySem.F.slot_list_append PySem.F.type_list_append mt_append (pv 2) (pa_cons (pe_callB call_len_seq (by rfl) T.m_len (by decide +kernel) (pa_cons (pv 6) pa_nil)) pa_nil)))
      (pss_one (ps_expr (pe_bm PySem.F.plainAttrs_list PySem.F.slot_list_extend PySem.F.type_list_extend mt_extend (pv 2) (pa_cons (pv 6) pa_nil)))))))))
      (pss_one (ps_ret (pv 2))))))), ?_⟩
    intro h dx nh ndx nhd
    refine ⟨h, dx, rfl, upd_same, fun b nb => ⟨rfl, ?_⟩⟩
    obtain ⟨H1, eH1⟩ : ∃ H1, H1 = upd (upd (upd (upd H dx (.own h)) h (.ins HC dx [])) b (.dK [])) h (.ins HC dx (houF b .non)) := ⟨_, rfl⟩
    rw [← eH1]
    have nbh : b ≠ h := fun e => by
      rw [e, upd_same] at nb
      cases nb
    have s1 : Same H H1 := fun c o e => by
      have h1 : upd (upd H dx (.own h)) h (.ins HC dx []) c = some o := by
        rw [upd_ne (ne_of_none e nh), upd_ne (ne_of_none e ndx)]
        exact e
      rw [eH1, upd_ne (ne_of_none e nh), upd_ne (ne_of_none h1 nb)]
      exact h1
    have hs1 : HsAt TC HC H1 h [] := by
      refine ⟨dx, b, .non, [], fun _ => b, ?_, ?_, fun m => ?_, by simp, fun t ht => (by cases ht), fun t u ht => (by cases ht), .inl rfl⟩
      · rw [eH1, upd_same]
      · rw [eH1, upd_ne nbh, upd_same]
        rfl
      · simp
    refine ⟨by decide, fun z nz => ?_⟩
    obtain ⟨H2, eH2⟩ : ∃ H2, H2 = upd H1 z (.lst []) := ⟨_, rfl⟩
    have s2 : Same H1 H2 := by
      rw [eH2]
      exact same_upd nz
    have hz2 : H2 z = some (.lst []) := by
      rw [eH2, upd_same]
    have nk2 : NotKept H2 h z := by
      rw [eH2]
      exact hs1.fresh nz
    rw [← eH2]
    have g0 : GoodS [] := ⟨by simp, by simp, by decide, fun t h => (by cases h), fun t h => (by cases h), fun t h => (by cases h), fun t h => (by cases h)⟩
    refine ⟨fun n σ H' => ∃ (pl : Nat) (s : List Trd) (f : Nat) (cs' : List (List (List Int))) (G : List Int) (v4 v5 v6 : Option V), σ = [some (.ref cl), some (.ref h), some (.ref z), some (.int pl), v4, v5, v6] ∧ SqZ K H' z cl (L.map V.int) ∧ HsAt TC HC H' h s ∧ GoodS s ∧ TT Pt H' ∧ NotKept H' h z ∧
      H' z = some (.lst (G.map V.int)) ∧ G.length + 301 * cs'.length ≤ 301 * 400 ∧ pl ≤ L.length ∧ PyFlat.calls PyVbchad.shape f (L.drop pl) = some cs' ∧ (∀ c, c ∈ cs' → PyInside.call PyVbchad.bound c = true) ∧
      PyFlat.told (PyFlat.played VbchadNeutral.step VbchadNeutral.start (cs.map PyVbchad.whole)) = G ++ PyFlat.told (PyFlat.played VbchadNeutral.step ⟨s⟩ (cs'.map PyVbchad.whole)) ∧ n = L.length - pl,
      ⟨_, 0, [], L.length, cs, [], _, _, _, rfl, SqZ.new (s1.seq hcl) nz s2, hs1.same s2, g0, (tab.ext s1).ext s2, nk2, hz2, (by show 0 + 301 * cs.length ≤ _; omega), Nat.zero_le _, hcalls, hin, rfl, rfl⟩, ?_⟩
    rintro n σ H3 ⟨pl, s, f, cs', G, v4, v5, v6, rfl, hcl3, hs3, good, tab3, nk3, hz3, hsz, hpl, hcs, hin3, heq, rfl⟩
    have eL : (L.map V.int).length = L.length := List.length_map _
    refine ⟨_, rfl, _, rfl, cl, _, rfl, .inl hcl3.sq, _, _, rfl, rfl, _, rfl, ite2 (fun cc => ?_) (fun cc => ?_)⟩
    · have hlt : pl < L.length := by
        have := of_decide_eq_true cc
        rw [eL] at this
        omega
      have hd : L.drop pl = L[pl] :: L.drop (pl + 1) := List.drop_eq_getElem_cons hlt
      rw [hd] at hcs
      obtain ⟨f', nn, kk, rs, t, cs2, hsh, hn, hrows, hcs2, ecs⟩ := calls_cons hcs
      obtain ⟨i, hi, ei, en, ek⟩ := shape_at hsh
      subst en ek
      rw [ei] at ecs
      have hn10 : nOf i ≤ 10 := by
        unfold nOf
        split <;> omega
      have hk10 : kOf i ≤ 10 := by
        unfold kOf
        split <;> omega
      have hxs : ((L.drop (pl + 1)).take (nOf i)).length = nOf i := by
        rw [List.length_take]
        omega
      have hrl := (rows_len hrows).1
      have hinc : PyInside.call PyVbchad.bound (((i : Int) :: (L.drop (pl + 1)).take (nOf i)) :: rs) = true := hin3 _ (by rw [ecs]; exact List.mem_cons_self)
      have hshort := rows_short hi hrl hinc
      obtain ⟨v, hv1, hv2⟩ := call_at hi hxs hrl
      have hgc : (L.map V.int)[pl]? = some (V.int (i : Int)) := by
        rw [List.getElem?_map, List.getElem?_eq_getElem hlt, ei]
        rfl
      refine ⟨fun σ' H' => ∃ (pl' : Nat) (s : List Trd) (f : Nat) (cs' : List (List (List Int))) (G : List Int) (v4 v5 v6 : Option V), σ' = [some (.ref cl), some (.ref h), some (.ref z), some (.int pl'), v4, v5, v6] ∧ SqZ K H' z cl (L.map V.int) ∧ HsAt TC HC H' h s ∧ GoodS s ∧ TT Pt H' ∧ NotKept H' h z ∧
        H' z = some (.lst (G.map V.int)) ∧ G.length + 301 * cs'.length ≤ 301 * 400 ∧ pl' ≤ L.length ∧ PyFlat.calls PyVbchad.shape f (L.drop pl') = some cs' ∧ (∀ c, c ∈ cs' → PyInside.call PyVbchad.bound c = true) ∧
        PyFlat.told (PyFlat.played VbchadNeutral.step VbchadNeutral.start (cs.map PyVbchad.whole)) = G ++ PyFlat.told (PyFlat.played VbchadNeutral.step ⟨s⟩ (cs'.map PyVbchad.whole)) ∧ L.length - pl' < L.length - pl,
        fun σ' H' ⟨pl', s, f, cs', G, v4, v5, v6, e1, e2, e3, e4, e5, e6, e7, e8, e9, e10, e11, e12, e13⟩ => ⟨_, e13, pl', s, f, cs', G, v4, v5, v6, e1, e2, e3, e4, e5, e6, e7, e8, e9, e10, e11, e12, rfl⟩, ?_⟩
      refine ⟨_, rfl, _, rfl, cl, _, _, _, rfl, rfl, hcl3.sq, atI_nat hgc, ?_⟩
      refine ⟨_, rfl, _, rfl, _, _, rfl, rfl, _, rfl, i, rfl, hi, fun p np => ?_⟩
      have s4 := same_upd (o := .tup [.int (nOf i), .int (kOf i)]) np
      refine ⟨cl, p, L, pl + 1, nOf i, kOf i, rs, t, rfl, s4.seq hcl3.sq, upd_same, ?_, hn10, hk10, ?_, fun r hr => Nat.le_trans (hshort r hr) (by decide), fun H5 p5 a be s5 hp5 hA ht hb1 hb2 => ?_⟩
      · rw [List.length_drop] at hn
        omega
      · rw [← hrows, List.drop_drop]
      have s35 := s4.trans s5
      refine ⟨p5, _, rfl, SqT.of hp5, rfl, _, _, rfl, _, _, rfl, rfl, ?_⟩
      refine ⟨_, rfl, _, rfl, _, rfl, h, a, s, i, _, rs, v, rfl, hi, hs3.same s35, good, tab3.ext s35, hA, hv1, fun H6 p6 fk6 tab6 hs6 nf6 hp6 hl6 => ?_⟩
      obtain ⟨s', es', good'⟩ := good_step good v
      obtain ⟨ans, eans⟩ : ∃ ans, ans = (Vbchad.step ⟨s⟩ v).2 := ⟨_, rfl⟩
      rw [← eans] at hp6 hl6
      rw [es'] at hs6
      have hz5 := s35 _ _ hz3
      have hz6 := fk6.fr z (.lst _) trivial hz5
      have nk6 := fk6.nk _ _ hz5 ((Same.frk s35).nk _ _ hz3 nk3)
      have np6 : p6 ≠ z := fun e => nf6 _ (by rw [e]; exact hz5)
      have hGl : G.length ≤ 120400 := by omega
      have szl : ∀ n, n ≤ 130000 → n ≤ sizeLine := fun n hn => by
        rw [sizeLine_eq]
        omega
      have szl2 : ∀ n, n ≤ 130000 → n < sizeLine := fun n hn => by
        rw [sizeLine_eq]
        omega
      have ela : (ans.map V.int).length = ans.length := List.length_map _
      refine ⟨_, rfl, .inl ⟨rfl, _, .inl (.inl hz6)⟩, _, rfl, p6, _, rfl, .inl (SqL.of hp6), z, _, _, rfl, rfl, hz6, szl2 _ (by rw [List.length_map]; omega), ?_⟩
      refine ⟨_, rfl, .inl ⟨rfl, _, .inl (.inl upd_same)⟩, _, rfl, z, p6, _, _, rfl, rfl, upd_same, (upd_ne np6).trans hp6, szl _ ?_, ?_⟩
      · rw [List.length_append, List.length_map, List.length_map]
        show G.length + 1 + _ ≤ _
        omega
      · rw [up2, ela]
        have b7 : But z H6 (upd H6 z (.lst (G.map V.int ++ [V.int (ans.length : Int)] ++ ans.map V.int))) := But.upd (But.refl z H6)
        have hcl6 := (hcl3.fr (Same.fr s35)).fr fk6.fr
        have hnk : NotKept (upd H6 z (.lst (G.map V.int ++ [V.int (ans.length : Int)] ++ ans.map V.int))) h z := by
          obtain ⟨C, d2, b2, kv2, e1, e2⟩ := nk6
          exact ⟨C, d2, b2, kv2, b7 _ _ e1 (ne_of e1 hz6 (by intro z; cases z)), e2⟩
        refine ⟨be, s', f', cs2, G ++ ((ans.length : Int) :: ans), _, _, _, rfl, hcl6.but b7, hs6.but nk6 hz6 b7, good', tabs_but tab6 hz6 (fun _ z => by cases z) (fun _ z => by cases z) b7, hnk, ?_, ?_, hb2, ?_, fun c hc => hin3 c (by rw [ecs]; exact List.mem_cons_of_mem _ hc), ?_, by omega⟩
        · rw [upd_same, List.map_append, List.append_assoc]
          rfl
        · rw [ecs, List.length_cons] at hsz
          rw [List.length_append, List.length_cons]
          omega
        · rw [← ht]
          exact hcs2
        · rw [heq, ecs, List.map_cons, List.append_assoc]
          congr 1
          show (((VbchadNeutral.step ⟨s⟩ (PyVbchad.whole _)).2 :: PyFlat.played VbchadNeutral.step (VbchadNeutral.step ⟨s⟩ (PyVbchad.whole _)).1 _).flatMap fun a => (a.length : Int) :: a) = _
          rw [hv2, List.flatMap_cons, es', ← eans]
          rfl
    · have hge : ¬ pl < L.length := fun z => cc (decide_eq_true (by rw [eL]; exact Int.ofNat_lt.mpr z))
      have hnil : L.drop pl = [] := List.drop_eq_nil_of_le (by omega)
      rw [hnil] at hcs
      have hcs' : cs' = [] := by
        have e : PyFlat.calls PyVbchad.shape f [] = some [] := by
          cases f <;> rfl
        rw [e] at hcs
        exact (Option.some.inj hcs).symm
      subst hcs'
      refine ⟨_, rfl, q H3 z ?_⟩
      rw [hz3, heq]
      congr 3
      exact (List.append_nil G).symm
end
end Vb
end

section
/-! # The end of a Spec row with one table of code objects -/
namespace Vb
open PySem PySem.Spec PyProof.Rows L2 LamX
open PySem.W (WData Codec OpenSpec Well WellAll ReadsW ReadsAllW)
theorem spec_callT {P : Program} {w : World} {K : PySem.W.Frag} {mg mb : Str → Option Value} {k : Nat} {x : Str} {fa c Pt : Addr} {sp : Sp} {s₁ : Shared} {vals : List Value} {ds : List WData} {R : PySem.W.WRecords} {cl : Str → Option Addr} {d0 : WData}
    (KX : K.In s₁.heap) (hns : s₁.heap.Ns mainGlobals mg) (hb : s₁.heap.Ns builtinsNs mb) (hbb : ∀ x : Str, x ≠ "__name__" → mb x = bootBuiltins x) (hlim : s₁.heap.NoLimit) (hg : s₁.gens = #[])
    (hT : s₁.heap.get? Pt = some { cls := .none, data := .fields #[] }) (nT : K.lookup Pt = none) (C : PySem.W.CodeHd s₁.heap c Pt)
    (hbm : ∃ (bm : Addr) (ob : Obj), mg "__builtins__" = some (.ref bm) ∧ bm ≠ builtinsNs ∧ s₁.heap.get? bm = some ob ∧ ob.cls = .type "module" ∧ ob.dict = some builtinsNs ∧ ob.data = .plain)
    (hwl : WellAll w.params s₁.heap vals ds) (hpl : plWs ds = true) (hwt : ∀ d ∈ ds, d.weight ≤ 1048576) (hr : Room k callerA) (hfa : mg x = some (.ref fa))
    (F : ∀ base : Heap, K.In base → base.Ns mainGlobals mg → TabB base mg c Pt → Cal P w K mg base k x sp)
    (hsp : ∀ (H0 H : Hp) (xs : List V), Same H0 H → H Pt = some (.tbl #[]) → DwAll K H0 xs ds → sp xs H (fun v H' => Dw K H' v d0) fun _ _ _ => False) :
    codeAny (model P w) callerA (.call (.ref fa) ⟨vals, []⟩) (fun r s' => ∃ u as, r = .ok (.ret u) ∧ ReadsW R cl s'.heap u d0 as ∧ OldK s₁.heap s'.heap ∧ s'.os = s₁.os ∧ AllBare s'.gens) s₁ := by
  obtain ⟨A, ho, ar⟩ := area_all ds vals hwl hpl hwt
  have hO0 : OnlyF (argH K s₁.heap A) := argH_only ar
  have hok0 : HOk P w (argH K s₁.heap A) s₁.heap := argH_ok ar
  have hS := dw_all KX ar ds vals hwl hpl ho
  have hV := vals_toV ho
  have hK0 : ∀ b u, argH K s₁.heap A b = some u → K.lookup b = none := fun b u q => (argH_is ar q).1
  have noS : ∀ {b : Addr} {o : Obj}, s₁.heap.get? b = some o → (∀ vs n, o.data ≠ .seq vs n) → argH K s₁.heap A b = none := fun {b o} e hd => by
    cases q : argH K s₁.heap A b with
    | none => rfl
    | some u =>
      obtain ⟨_, vs, _, _, ⟨e2, _⟩ | ⟨e2, _⟩⟩ := argH_is ar q
      · rw [e2] at e
        cases e
        exact (hd _ _ rfl).elim
      · rw [e2] at e
        cases e
        exact (hd _ _ rfl).elim
  generalize argH K s₁.heap A = H0 at hO0 hok0 hS hK0 noS
  have hP0 : H0 Pt = none := noS hT fun vs n z => by cases z
  obtain ⟨H, eH⟩ : ∃ H : Hp, H = upd H0 Pt (.tbl #[]) := ⟨_, rfl⟩
  have sm : Same H0 H := by
    rw [eH]
    exact same_upd hP0
  have hHP : H Pt = some (.tbl #[]) := by
    rw [eH, upd_same]
  have ne : ∀ {b : Addr}, b ≠ Pt → H b = H0 b := fun {b} n => by
    rw [eH, upd_ne n]
  have hO : ∀ b, H b = none ∨ b = Pt ∨ ∃ o u, H b = some (.frz o u) := fun b => by
    by_cases e : b = Pt
    · exact .inr (.inl e)
    · rw [ne e]
      exact (hO0 b).imp id .inr
  have hok : HOk P w H s₁.heap := fun b u q => by
    by_cases e : b = Pt
    · rw [e, hHP] at q
      cases q
      rw [e]
      exact hT
    · rw [ne e] at q
      exact (hok0 b u q).stay (fun _ _ _ z => z) (fun c z => sm _ _ z) fun c xs z => sm _ _ z
  have hK : ∀ b u, H b = some u → K.lookup b = none := fun b u q => by
    by_cases e : b = Pt
    · rw [e]
      exact nT
    · rw [ne e] at q
      exact hK0 b u q
  have noD : ∀ {b : Addr} {o : Obj}, s₁.heap.get? b = some o → (∀ vs n, o.data ≠ .seq vs n) → o.data ≠ .fields #[] → H b = none := fun {b o} e h1 h2 => by
    have n : b ≠ Pt := fun z => by
      rw [z, hT] at e
      cases e
      exact h2 rfl
    rw [ne n]
    exact noS e h1
  have noA : ∀ {b : Addr} {o : Obj} {es : Array DictEntry} {ep : Nat}, s₁.heap.get? b = some o → o.data = .dict es ep → H b = none := fun {b o es ep} e d => by
    refine noD e (fun vs n z => ?_) fun z => ?_
    · rw [d] at z
      cases z
    · rw [d] at z
      cases z
  have base_of : ∀ {b : Addr} {o : Obj}, s₁.heap.get? b = some o → H b = none → (hidT s₁.heap H).get? b = some o := fun e n => hidT_get e n
  have nsK : ∀ {b : Addr} {m : Str → Option Value}, s₁.heap.Ns b m → (hidT s₁.heap H).Ns b m := fun {b m} ⟨o, es, ep, e, d, r⟩ => ⟨o, es, ep, base_of e (noA e d), d, r⟩
  have nK : ∀ b o, K.lookup b = some o → H b = none := fun b o e => by
    cases q : H b with
    | none => rfl
    | some u =>
      rw [hK b u q] at e
      cases e
  have hKb : K.In (hidT s₁.heap H) := fun b o e => base_of (KX b o e) (nK b o e)
  have hM : Mod K mg (hidT s₁.heap H) := ⟨hKb, nsK hns, ⟨mb, nsK hb, hbb⟩, let ⟨mc, h1, h2⟩ := hlim; ⟨mc, nsK h1, h2⟩⟩
  have TB : TabB (hidT s₁.heap H) mg c Pt := by
    refine ⟨?_, ?_, fun z => ?_⟩
    · obtain ⟨o, us, file, tf, flags, tg, inF, text, tt, e1, r1, r2, r3, r4, r5, r6, r7, r8, hne⟩ := C
      refine ⟨o, us, file, tf, flags, tg, inF, text, tt, base_of e1 (noD e1 (fun vs n z => ?_) fun z => ?_), r1, r2, r3, r4, r5, r6, r7, r8, hne⟩
      · rw [r2] at z
        cases z
      · rw [r2] at z
        cases z
        simp at r3
    · obtain ⟨bm, ob, b1, b2, b3, b4, b5, b6⟩ := hbm
      have nG : bm ≠ mainGlobals := fun q => by
        obtain ⟨o, es, ep, e, hd, _⟩ := hns
        rw [q, e] at b3
        cases b3
        rw [hd] at b6
        cases b6
      have nP : bm ≠ Pt := fun q => by
        rw [q, hT] at b3
        cases b3
        cases b6
      refine ⟨bm, ob, b1, b2, nG, nP, base_of b3 (noD b3 (fun vs n z => ?_) fun z => ?_), b4, b5, b6⟩
      · rw [b6] at z
        cases z
      · rw [b6] at z
        cases z
    · obtain ⟨o, es, ep, e, hd, _⟩ := hns
      rw [z, hT] at e
      cases e
      cases hd
  have e0 : Env0 P w K mg (hidT s₁.heap H) callerA [] s₁ H := ⟨rfl, hM, fun b o e => of_hidT e, Nat.le_of_eq (hidT_size _ _), trivial, fun b hb => absurd (show b ∈ ([] : List Addr) from hb) (by simp), hok, .of_eq hg⟩
  obtain ⟨f, fd, ps, FN, hm, _, hbi⟩ := F _ hKb (nsK hns) TB
  have hff : f = fa := by
    rw [hm] at hfa
    exact Value.ref.inj (Option.some.inj hfa)
  subst hff
  have hspx := hsp H0 H _ sm hHP hS
  have hl0 := FN.len _ _ _ _ hspx
  rw [List.length_map] at hl0
  have hbind := hbi s₁ vals KX (by rw [List.append_nil]; exact hl0)
  rw [List.append_nil] at hbind
  refine codeAny_mono (FN.run callerA [] s₁ H ⟨vals, []⟩ vals (vals.map toV) _ _ hr e0 hbind hV hspx) fun r s' x => ?_
  cases r with
  | error e => exact (show False from x).elim
  | ok fl =>
    cases fl with
    | next => exact False.elim x
    | brk => exact False.elim x
    | cont => exact False.elim x
    | ret u =>
      obtain ⟨v, H', os, bare, un, hok', r', q⟩ := x
      have kept : ∀ b o, b ≠ Pt → s₁.heap.get? b = some o → s'.heap.get? b = some o := fun b o nb e => by
        cases q2 : H b with
        | none => exact un.keep b o e q2 (by intro z; exact absurd (show b ∈ ([] : List Addr) from z) (by simp)) (by simp)
        | some u2 =>
          rcases hO b with z | z | ⟨ob, u3, z⟩
          · rw [q2] at z
            cases z
          · exact absurd z nb
          · have z2 := un.frzs b ob _ z
            obtain ⟨e1, _⟩ := hok b _ z
            obtain ⟨e2, _⟩ := hok' b _ z2
            rw [e] at e1
            cases e1
            exact e2
      have grown : ∃ more : Array Value, s'.heap.get? Pt = some { cls := .none, data := .fields more } := by
        obtain ⟨more, z⟩ := un.tbls Pt #[] hHP
        exact ⟨_, hok' Pt _ z⟩
      have KX' : K.In s'.heap := fun b o e => kept b o (fun z => by rw [z, nT] at e; cases e) (KX b o e)
      obtain ⟨as, hrd⟩ := Dw.reads (R := R) (cl := cl) hok' KX' d0 v u q r'
      refine ⟨u, as, rfl, hrd, ⟨fun b o e => ?_, fun b o e => ?_⟩, os, bare⟩
      · by_cases hb : b = Pt
        · obtain ⟨more, hm⟩ := grown
          rw [hb] at e ⊢
          rw [hT] at e
          cases e
          exact .inr (.inl ⟨(C.tab hT).isCodeTable, rfl, #[], more, rfl, by rw [Array.empty_append]; exact hm⟩)
        · exact .inl (kept b o hb e)
      · by_cases hb : b = Pt
        · obtain ⟨more, hm⟩ := grown
          rw [hb]
          exact ⟨_, hm⟩
        · exact ⟨o, kept b o hb e⟩
/-- what the top tells of the code object of the def x -/
def EvTab (mg : Str → Option Value) (h : Heap) (x : Str) (c Pt : Addr) : Prop := ∃ a o fd, mg x = some (.ref a) ∧ h.get? a = some o ∧ o.data = .func fd ∧ fd.code = .ref c ∧ h.TableAt c Pt #[]
theorem walk_specT {r : OpenSpec} {k : Nat} {q : Program} {loose : List Str} {XP : (Str → Option Value) → Heap → Prop} {YP : World → Heap → Prop} {d : DefRec} {K : Params → PySem.W.Frag} {sp : PySem.W.Frag → Addr → Sp} {x : Str}
    (hwell : r.wellSaid = true) (hdf : d.params.defaults = []) (hr : Room k callerA) (hrec : ((recsOf q).any fun e => e.name == x) = true) (hY : ∀ (w : World) (h : Heap), YP w h → (K w.params).In h)
    (F : ∀ (w : World) (mg : Str → Option Value) (h : Heap), YP w h → (K w.params).In h → h.Ns mainGlobals mg → ∀ c Pt : Addr, EvTab mg h x c Pt →
      (K w.params).lookup Pt = none ∧ ∀ base : Heap, (K w.params).In base → base.Ns mainGlobals mg → TabB base mg c Pt → Cal r.prog w (K w.params) mg base k d.name (sp (K w.params) Pt))
    (hsp : ∀ (K : PySem.W.Frag) (H0 H : Hp) (Pt : Addr) (xs : List V) (a : Codec.denoteAll r.args), Same H0 H → H Pt = some (.tbl #[]) → Codec.withinAll r.args a = true → Codec.app r.args r.asked a = true → DwAll K H0 xs (Codec.encAll r.args a) →
      sp K Pt xs H (fun v H' => Dw K H' v (r.ret.enc (Codec.app r.args r.f a))) fun _ _ _ => False) :
    PySem.W.WalkOS q loose XP YP r d [] (fun f vs => PySem.call f vs) := by
  intro w s₀ s₁ mg mb G Y fa o pm cd doc dV kV ho hd hcd hD hmg hg args vals as hpre hlay hrd hwl hlo
  obtain ⟨a, e1, e2⟩ := PySem.W.os_pre_some hpre
  obtain ⟨e3, hwi⟩ := Codec.encAll_of_decAll r.args args a e1
  subst e3
  have KX := hY w _ Y
  obtain ⟨dL, hm, hn1⟩ := List.any_eq_true.mp hrec
  have hn2 : dL.name = x := beq_iff_eq.mp hn1
  obtain ⟨a', o', fd', c, Pt, h1, h2, h3, h4, h5, h6⟩ := G.T.tab dL hm
  rw [hn2] at h1
  obtain ⟨nT, hF⟩ := F w mg _ Y KX G.T.g c Pt ⟨a', o', fd', h1, h2, h3, h4, h6⟩
  refine PySem.W.enter_call (codeAny_mono (spec_callT (R := []) (cl := classAt s₀.heap) (d0 := r.ret.enc (Codec.app r.args r.f a)) KX G.T.g G.T.b G.T.builtins G.T.nolimit hg h6.2 nT (PySem.W.CodeHd.of h5 h6) G.T.bmain hwl (pl_encAll _ _) (layable_weight hlay) hr hmg hF
    (fun H0 H xs hs ht hS => hsp _ H0 H Pt xs a hs ht hwi e2 hS)) fun r' s' hq => ?_)
  obtain ⟨u, as', rfl, h1, h2, h3, h4⟩ := hq
  exact ⟨.inl ⟨u, _, as', rfl, fun _ => rfl, h1, (OpenSpec.post_iff hwell hwi _ _).mpr rfl, fun z => Bool.noConfusion (show false = true from z)⟩, h2, h3, h4⟩
end Vb
end

section
/-! # All defs together -/
namespace Vb
open PySem PySem.Spec PyProof.Rows L2 Nw LamX
theorem defAt_mk {K : PySem.W.Frag} {h : Heap} {mg : Str → Option Value} {x : Str} {st : Stmt} {ps : List Str} {f : Addr} {od an : Option Addr} {osl : Array (Option Value)} {oc kV doc pm cdv ct : Value} (X : K.In h) (G : h.Ns mainGlobals mg)
    (hb : ∀ (kV doc pm : Value) (an : Option Addr) (cdv ct : Value) (us : List Value), us.length = ps.length → bindArgs (PySem.W.fnOf x x (defArgs st) (defBody st) (defScope st) .none kV doc pm an cdv ct) ⟨us, []⟩ = pure (ps.zip us))
    (a : PySem.W.nsIn K mainGlobals x = some (some (.ref f))) (l : K.lookup f = some ⟨oc, od, .func (PySem.W.fnOf x x (defArgs st) (defBody st) (defScope st) .none kV doc pm an cdv ct), osl⟩) (c : PySem.W.codeIn K cdv x = true) (k : PySem.W.keepIn K (.ref f) = true) : DefAt K mg x st ps :=
  have F := fun_mk l c k
  ⟨f, _, F, PySem.W.mg_of X G a, F.binds hb⟩
theorem methAt_mk {K : PySem.W.Frag} {C : Addr} {m qual : Str} {st : Stmt} {ps : List Str} {f : Addr} {od an : Option Addr} {osl : Array (Option Value)} {oc kV doc pm cdv ct : Value}
    (hb : ∀ (kV doc pm : Value) (an : Option Addr) (cdv ct : Value) (us : List Value), us.length = ps.length → bindArgs (PySem.W.fnOf m qual (defArgs st) (defBody st) (defScope st) .none kV doc pm an cdv ct) ⟨us, []⟩ = pure (ps.zip us))
    (a : PySem.W.findIn K (.ref C) m = some (some (.ref f))) (i : PySem.W.isFn K (.ref f) = true) (l : K.lookup f = some ⟨oc, od, .func (PySem.W.fnOf m qual (defArgs st) (defBody st) (defScope st) .none kV doc pm an cdv ct), osl⟩) (c : PySem.W.codeIn K cdv qual = true) (k : PySem.W.keepIn K (.ref f) = true) : MethAt K C m qual st ps :=
  have F := fun_mk l c k
  ⟨f, _, F, ⟨a, i, k⟩, F.binds hb⟩
theorem makeAt_mk {K : PySem.W.Frag} {h : Heap} {mg : Str → Option Value} {C : Addr} {x qual : Str} {st : Stmt} {ps : List Str} {f : Addr} {od an : Option Addr} {osl : Array (Option Value)} {oc kV doc pm cdv ct : Value}
    (hb : ∀ (kV doc pm : Value) (an : Option Addr) (cdv ct : Value) (us : List Value), us.length = ps.length → bindArgs (PySem.W.fnOf "__init__" qual (defArgs st) (defBody st) (defScope st) .none kV doc pm an cdv ct) ⟨us, []⟩ = pure (ps.zip us)) (hC : mg x = some (.ref C))
    (a : PySem.W.findIn K (.ref C) "__init__" = some (some (.ref f))) (i : PySem.W.isFn K (.ref f) = true) (l : K.lookup f = some ⟨oc, od, .func (PySem.W.fnOf "__init__" qual (defArgs st) (defBody st) (defScope st) .none kV doc pm an cdv ct), osl⟩) (c : PySem.W.codeIn K cdv qual = true) (k : PySem.W.keepIn K (.ref f) = true)
    (mk : PySem.W.makesIn K C = true) (kc : PySem.W.keepIn K (.ref C) = true) : MakeAt K mg x C qual st ps :=
  have F := fun_mk l c k
  ⟨f, _, F, ⟨mk, a, i, kc⟩, hC, F.binds hb⟩
theorem cal_at {P : Program} {w : World} {K : PySem.W.Frag} {mg : Str → Option Value} {base : Heap} {k : Nat} {x : Str} {sp : Sp} {f : Addr} (c : Cal P w K mg base k x sp) (hk : k ≤ 9) (hm : mg x = some (.ref f)) : CalAt P w K mg base 9 f sp := by
  obtain ⟨f', fd, ps, F, hm', kp, b⟩ := c
  rw [hm'] at hm
  obtain rfl := Value.ref.inj (Option.some.inj hm)
  exact ⟨fd, ps, F.mono hk, kp, b⟩
/-- the code object of even_out -/
theorem defCode_of {K : PySem.W.Frag} {h : Heap} {mg : Str → Option Value} {x : Str} {st : Stmt} {ps : List Str} {c Pt : Addr} (X : K.In h) (D : DefAt K mg x st ps) (ev : EvTab mg h x c Pt) : DefCode K mg x st ps c := by
  obtain ⟨f, fd, F, m, b⟩ := D
  obtain ⟨oc, od, kV, doc, pm, an, cdv, ct, osl, rfl, lk, hcd⟩ := F.ex
  obtain ⟨a, o, fd', h1, h2, h3, h4, _⟩ := ev
  rw [m] at h1
  obtain rfl := Value.ref.inj (Option.some.inj h1)
  have h5 := X _ _ lk
  rw [h2] at h5
  obtain rfl := Option.some.inj h5
  have h6 := Data.func.inj h3
  subst h6
  have h7 : cdv = .ref c := h4
  subst h7
  exact ⟨f, oc, od, kV, doc, pm, an, ct, osl, lk, hcd, F.kp, m, b⟩
/-- .. and its table, by what is written -/
theorem tab_out {K : PySem.W.Frag} {h : Heap} {mg : Str → Option Value} {x : Str} {c c0 Pt P0 f : Addr} {st : Stmt} {od an dd : Option Addr} {osl sl : Array (Option Value)} {oc kV doc pm ct e : Value} {vs : Array Value} (X : K.In h) (G : h.Ns mainGlobals mg) (ev : EvTab mg h x c Pt)
    (a : PySem.W.nsIn K mainGlobals x = some (some (.ref f))) (l : K.lookup f = some ⟨oc, od, .func (PySem.W.fnOf x x (defArgs st) (defBody st) (defScope st) .none kV doc pm an (.ref c0) ct), osl⟩) (kc : K.lookup c0 = some ⟨e, dd, .fields vs, sl⟩) (k11 : vs[11]? = some (.ref P0)) (kn : K.lookup P0 = none) : K.lookup Pt = none := by
  obtain ⟨a1, o, fd', h1, h2, h3, h4, ⟨oc1, vc, e1, _, e3, e4⟩, _⟩ := ev
  rw [PySem.W.mg_of X G a] at h1
  obtain rfl := Value.ref.inj (Option.some.inj h1)
  have h5 := X _ _ l
  rw [h2] at h5
  obtain rfl := Option.some.inj h5
  have h6 := Data.func.inj h3
  subst h6
  have h7 : Value.ref c0 = .ref c := h4
  obtain rfl := Value.ref.inj h7
  have h8 := X _ _ kc
  rw [e1] at h8
  obtain rfl := Option.some.inj h8
  have h9 : Data.fields vs = .fields vc := e3
  obtain rfl := Data.fields.inj h9
  rw [k11] at e4
  obtain rfl := Value.ref.inj (Option.some.inj e4)
  exact kn

theorem bd_within : ∀ (kV doc pm : Value) (an : Option Addr) (cdv ct : Value) (us : List Value), us.length = (["number", "low", "high"] : List Str).length → bindArgs (PySem.W.fnOf "within" "within" (defArgs s_within) (defBody s_within) (defScope s_within) .none kV doc pm an cdv ct) ⟨us, []⟩ = pure ((["number", "low", "high"] : List Str).zip us) := fun _ _ _ _ _ _ us hl => match us, hl with | [_, _, _], _ => rfl
theorem bd_numbers_for_trades : ∀ (kV doc pm : Value) (an : Option Addr) (cdv ct : Value) (us : List Value), us.length = (["house", "numbers"] : List Str).length → bindArgs (PySem.W.fnOf "numbers_for_trades" "numbers_for_trades" (defArgs s_numbers_for_trades) (defBody s_numbers_for_trades) (defScope s_numbers_for_trades) .none kV doc pm an cdv ct) ⟨us, []⟩ = pure ((["house", "numbers"] : List Str).zip us) := fun _ _ _ _ _ _ us hl => match us, hl with | [_, _], _ => rfl
theorem bd_potentials_for_members : ∀ (kV doc pm : Value) (an : Option Addr) (cdv ct : Value) (us : List Value), us.length = (["house", "numbers"] : List Str).length → bindArgs (PySem.W.fnOf "potentials_for_members" "potentials_for_members" (defArgs s_potentials_for_members) (defBody s_potentials_for_members) (defScope s_potentials_for_members) .none kV doc pm an cdv ct) ⟨us, []⟩ = pure ((["house", "numbers"] : List Str).zip us) := fun _ _ _ _ _ _ us hl => match us, hl with | [_, _], _ => rfl
theorem bd_answer_trade : ∀ (kV doc pm : Value) (an : Option Addr) (cdv ct : Value) (us : List Value), us.length = (["house", "arguments"] : List Str).length → bindArgs (PySem.W.fnOf "answer_trade" "answer_trade" (defArgs s_answer_trade) (defBody s_answer_trade) (defScope s_answer_trade) .none kV doc pm an cdv ct) ⟨us, []⟩ = pure ((["house", "arguments"] : List Str).zip us) := fun _ _ _ _ _ _ us hl => match us, hl with | [_, _], _ => rfl
theorem bd_answer_drop : ∀ (kV doc pm : Value) (an : Option Addr) (cdv ct : Value) (us : List Value), us.length = (["house", "arguments"] : List Str).length → bindArgs (PySem.W.fnOf "answer_drop" "answer_drop" (defArgs s_answer_drop) (defBody s_answer_drop) (defScope s_answer_drop) .none kV doc pm an cdv ct) ⟨us, []⟩ = pure ((["house", "arguments"] : List Str).zip us) := fun _ _ _ _ _ _ us hl => match us, hl with | [_, _], _ => rfl
theorem bd_answer_floor : ∀ (kV doc pm : Value) (an : Option Addr) (cdv ct : Value) (us : List Value), us.length = (["house", "arguments"] : List Str).length → bindArgs (PySem.W.fnOf "answer_floor" "answer_floor" (defArgs s_answer_floor) (defBody s_answer_floor) (defScope s_answer_floor) .none kV doc pm an cdv ct) ⟨us, []⟩ = pure ((["house", "arguments"] : List Str).zip us) := fun _ _ _ _ _ _ us hl => match us, hl with | [_, _], _ => rfl
theorem bd_answer_take : ∀ (kV doc pm : Value) (an : Option Addr) (cdv ct : Value) (us : List Value), us.length = (["house", "arguments"] : List Str).length → bindArgs (PySem.W.fnOf "answer_take" "answer_take" (defArgs s_answer_take) (defBody s_answer_take) (defScope s_answer_take) .none kV doc pm an cdv ct) ⟨us, []⟩ = pure ((["house", "arguments"] : List Str).zip us) := fun _ _ _ _ _ _ us hl => match us, hl with | [_, _], _ => rfl
theorem bd_answer_apply : ∀ (kV doc pm : Value) (an : Option Addr) (cdv ct : Value) (us : List Value), us.length = (["house", "arguments"] : List Str).length → bindArgs (PySem.W.fnOf "answer_apply" "answer_apply" (defArgs s_answer_apply) (defBody s_answer_apply) (defScope s_answer_apply) .none kV doc pm an cdv ct) ⟨us, []⟩ = pure ((["house", "arguments"] : List Str).zip us) := fun _ _ _ _ _ _ us hl => match us, hl with | [_, _], _ => rfl
theorem bd_answer_net : ∀ (kV doc pm : Value) (an : Option Addr) (cdv ct : Value) (us : List Value), us.length = (["house", "arguments"] : List Str).length → bindArgs (PySem.W.fnOf "answer_net" "answer_net" (defArgs s_answer_net) (defBody s_answer_net) (defScope s_answer_net) .none kV doc pm an cdv ct) ⟨us, []⟩ = pure ((["house", "arguments"] : List Str).zip us) := fun _ _ _ _ _ _ us hl => match us, hl with | [_, _], _ => rfl
theorem bd_answer_gross : ∀ (kV doc pm : Value) (an : Option Addr) (cdv ct : Value) (us : List Value), us.length = (["house", "arguments"] : List Str).length → bindArgs (PySem.W.fnOf "answer_gross" "answer_gross" (defArgs s_answer_gross) (defBody s_answer_gross) (defScope s_answer_gross) .none kV doc pm an cdv ct) ⟨us, []⟩ = pure ((["house", "arguments"] : List Str).zip us) := fun _ _ _ _ _ _ us hl => match us, hl with | [_, _], _ => rfl
theorem bd_answer_greatest : ∀ (kV doc pm : Value) (an : Option Addr) (cdv ct : Value) (us : List Value), us.length = (["house", "arguments"] : List Str).length → bindArgs (PySem.W.fnOf "answer_greatest" "answer_greatest" (defArgs s_answer_greatest) (defBody s_answer_greatest) (defScope s_answer_greatest) .none kV doc pm an cdv ct) ⟨us, []⟩ = pure ((["house", "arguments"] : List Str).zip us) := fun _ _ _ _ _ _ us hl => match us, hl with | [_, _], _ => rfl
theorem bd_answer_told : ∀ (kV doc pm : Value) (an : Option Addr) (cdv ct : Value) (us : List Value), us.length = (["house", "arguments"] : List Str).length → bindArgs (PySem.W.fnOf "answer_told" "answer_told" (defArgs s_answer_told) (defBody s_answer_told) (defScope s_answer_told) .none kV doc pm an cdv ct) ⟨us, []⟩ = pure ((["house", "arguments"] : List Str).zip us) := fun _ _ _ _ _ _ us hl => match us, hl with | [_, _], _ => rfl
theorem bd_answer_isone : ∀ (kV doc pm : Value) (an : Option Addr) (cdv ct : Value) (us : List Value), us.length = (["house", "arguments"] : List Str).length → bindArgs (PySem.W.fnOf "answer_isone" "answer_isone" (defArgs s_answer_isone) (defBody s_answer_isone) (defScope s_answer_isone) .none kV doc pm an cdv ct) ⟨us, []⟩ = pure ((["house", "arguments"] : List Str).zip us) := fun _ _ _ _ _ _ us hl => match us, hl with | [_, _], _ => rfl
theorem bd_answer_bound : ∀ (kV doc pm : Value) (an : Option Addr) (cdv ct : Value) (us : List Value), us.length = (["house", "arguments"] : List Str).length → bindArgs (PySem.W.fnOf "answer_bound" "answer_bound" (defArgs s_answer_bound) (defBody s_answer_bound) (defScope s_answer_bound) .none kV doc pm an cdv ct) ⟨us, []⟩ = pure ((["house", "arguments"] : List Str).zip us) := fun _ _ _ _ _ _ us hl => match us, hl with | [_, _], _ => rfl
theorem bd_answer_potentials : ∀ (kV doc pm : Value) (an : Option Addr) (cdv ct : Value) (us : List Value), us.length = (["house", "arguments"] : List Str).length → bindArgs (PySem.W.fnOf "answer_potentials" "answer_potentials" (defArgs s_answer_potentials) (defBody s_answer_potentials) (defScope s_answer_potentials) .none kV doc pm an cdv ct) ⟨us, []⟩ = pure ((["house", "arguments"] : List Str).zip us) := fun _ _ _ _ _ _ us hl => match us, hl with | [_, _], _ => rfl
theorem bd_answer_proves : ∀ (kV doc pm : Value) (an : Option Addr) (cdv ct : Value) (us : List Value), us.length = (["house", "arguments"] : List Str).length → bindArgs (PySem.W.fnOf "answer_proves" "answer_proves" (defArgs s_answer_proves) (defBody s_answer_proves) (defScope s_answer_proves) .none kV doc pm an cdv ct) ⟨us, []⟩ = pure ((["house", "arguments"] : List Str).zip us) := fun _ _ _ _ _ _ us hl => match us, hl with | [_, _], _ => rfl
theorem bd_answer_without : ∀ (kV doc pm : Value) (an : Option Addr) (cdv ct : Value) (us : List Value), us.length = (["house", "arguments"] : List Str).length → bindArgs (PySem.W.fnOf "answer_without" "answer_without" (defArgs s_answer_without) (defBody s_answer_without) (defScope s_answer_without) .none kV doc pm an cdv ct) ⟨us, []⟩ = pure ((["house", "arguments"] : List Str).zip us) := fun _ _ _ _ _ _ us hl => match us, hl with | [_, _], _ => rfl
theorem bd_answer_pairs : ∀ (kV doc pm : Value) (an : Option Addr) (cdv ct : Value) (us : List Value), us.length = (["house", "arguments"] : List Str).length → bindArgs (PySem.W.fnOf "answer_pairs" "answer_pairs" (defArgs s_answer_pairs) (defBody s_answer_pairs) (defScope s_answer_pairs) .none kV doc pm an cdv ct) ⟨us, []⟩ = pure ((["house", "arguments"] : List Str).zip us) := fun _ _ _ _ _ _ us hl => match us, hl with | [_, _], _ => rfl
theorem bd_answer_worth : ∀ (kV doc pm : Value) (an : Option Addr) (cdv ct : Value) (us : List Value), us.length = (["house", "arguments"] : List Str).length → bindArgs (PySem.W.fnOf "answer_worth" "answer_worth" (defArgs s_answer_worth) (defBody s_answer_worth) (defScope s_answer_worth) .none kV doc pm an cdv ct) ⟨us, []⟩ = pure ((["house", "arguments"] : List Str).zip us) := fun _ _ _ _ _ _ us hl => match us, hl with | [_, _], _ => rfl
theorem bd_answer_members : ∀ (kV doc pm : Value) (an : Option Addr) (cdv ct : Value) (us : List Value), us.length = (["house", "arguments"] : List Str).length → bindArgs (PySem.W.fnOf "answer_members" "answer_members" (defArgs s_answer_members) (defBody s_answer_members) (defScope s_answer_members) .none kV doc pm an cdv ct) ⟨us, []⟩ = pure ((["house", "arguments"] : List Str).zip us) := fun _ _ _ _ _ _ us hl => match us, hl with | [_, _], _ => rfl
theorem bd_answer_trades : ∀ (kV doc pm : Value) (an : Option Addr) (cdv ct : Value) (us : List Value), us.length = (["house", "arguments"] : List Str).length → bindArgs (PySem.W.fnOf "answer_trades" "answer_trades" (defArgs s_answer_trades) (defBody s_answer_trades) (defScope s_answer_trades) .none kV doc pm an cdv ct) ⟨us, []⟩ = pure ((["house", "arguments"] : List Str).zip us) := fun _ _ _ _ _ _ us hl => match us, hl with | [_, _], _ => rfl
theorem bd_answer_between : ∀ (kV doc pm : Value) (an : Option Addr) (cdv ct : Value) (us : List Value), us.length = (["house", "arguments"] : List Str).length → bindArgs (PySem.W.fnOf "answer_between" "answer_between" (defArgs s_answer_between) (defBody s_answer_between) (defScope s_answer_between) .none kV doc pm an cdv ct) ⟨us, []⟩ = pure ((["house", "arguments"] : List Str).zip us) := fun _ _ _ _ _ _ us hl => match us, hl with | [_, _], _ => rfl
theorem bd_shape_of : ∀ (kV doc pm : Value) (an : Option Addr) (cdv ct : Value) (us : List Value), us.length = (["number"] : List Str).length → bindArgs (PySem.W.fnOf "shape_of" "shape_of" (defArgs s_shape_of) (defBody s_shape_of) (defScope s_shape_of) .none kV doc pm an cdv ct) ⟨us, []⟩ = pure ((["number"] : List Str).zip us) := fun _ _ _ _ _ _ us hl => match us, hl with | [_], _ => rfl
theorem bd_answer_call : ∀ (kV doc pm : Value) (an : Option Addr) (cdv ct : Value) (us : List Value), us.length = (["house", "number", "arguments"] : List Str).length → bindArgs (PySem.W.fnOf "answer_call" "answer_call" (defArgs s_answer_call) (defBody s_answer_call) (defScope s_answer_call) .none kV doc pm an cdv ct) ⟨us, []⟩ = pure ((["house", "number", "arguments"] : List Str).zip us) := fun _ _ _ _ _ _ us hl => match us, hl with | [_, _, _], _ => rfl
theorem bd_moves_of : ∀ (kV doc pm : Value) (an : Option Addr) (cdv ct : Value) (us : List Value), us.length = (["trades", "numbers", "places"] : List Str).length → bindArgs (PySem.W.fnOf "moves_of" "moves_of" (defArgs s_moves_of) (defBody s_moves_of) (defScope s_moves_of) .none kV doc pm an cdv ct) ⟨us, []⟩ = pure ((["trades", "numbers", "places"] : List Str).zip us) := fun _ _ _ _ _ _ us hl => match us, hl with | [_, _, _], _ => rfl
theorem bd_shortest_ways : ∀ (kV doc pm : Value) (an : Option Addr) (cdv ct : Value) (us : List Value), us.length = (["moves", "starts"] : List Str).length → bindArgs (PySem.W.fnOf "shortest_ways" "shortest_ways" (defArgs s_shortest_ways) (defBody s_shortest_ways) (defScope s_shortest_ways) .none kV doc pm an cdv ct) ⟨us, []⟩ = pure ((["moves", "starts"] : List Str).zip us) := fun _ _ _ _ _ _ us hl => match us, hl with | [_, _], _ => rfl
theorem bd_gain_of : ∀ (kV doc pm : Value) (an : Option Addr) (cdv ct : Value) (us : List Value), us.length = (["length"] : List Str).length → bindArgs (PySem.W.fnOf "gain_of" "gain_of" (defArgs s_gain_of) (defBody s_gain_of) (defScope s_gain_of) .none kV doc pm an cdv ct) ⟨us, []⟩ = pure ((["length"] : List Str).zip us) := fun _ _ _ _ _ _ us hl => match us, hl with | [_], _ => rfl
theorem bd_way_to : ∀ (kV doc pm : Value) (an : Option Addr) (cdv ct : Value) (us : List Value), us.length = (["member", "last_moves"] : List Str).length → bindArgs (PySem.W.fnOf "way_to" "way_to" (defArgs s_way_to) (defBody s_way_to) (defScope s_way_to) .none kV doc pm an cdv ct) ⟨us, []⟩ = pure ((["member", "last_moves"] : List Str).zip us) := fun _ _ _ _ _ _ us hl => match us, hl with | [_, _], _ => rfl
theorem bd_leeway : ∀ (kV doc pm : Value) (an : Option Addr) (cdv ct : Value) (us : List Value), us.length = (["trades", "numbers", "way"] : List Str).length → bindArgs (PySem.W.fnOf "leeway" "leeway" (defArgs s_leeway) (defBody s_leeway) (defScope s_leeway) .none kV doc pm an cdv ct) ⟨us, []⟩ = pure ((["trades", "numbers", "way"] : List Str).zip us) := fun _ _ _ _ _ _ us hl => match us, hl with | [_, _, _], _ => rfl
theorem bd_shift : ∀ (kV doc pm : Value) (an : Option Addr) (cdv ct : Value) (us : List Value), us.length = (["numbers", "way", "size"] : List Str).length → bindArgs (PySem.W.fnOf "shift" "shift" (defArgs s_shift) (defBody s_shift) (defScope s_shift) .none kV doc pm an cdv ct) ⟨us, []⟩ = pure ((["numbers", "way", "size"] : List Str).zip us) := fun _ _ _ _ _ _ us hl => match us, hl with | [_, _, _], _ => rfl
theorem bd_members_of : ∀ (kV doc pm : Value) (an : Option Addr) (cdv ct : Value) (us : List Value), us.length = (["trades"] : List Str).length → bindArgs (PySem.W.fnOf "members_of" "members_of" (defArgs s_members_of) (defBody s_members_of) (defScope s_members_of) .none kV doc pm an cdv ct) ⟨us, []⟩ = pure ((["trades"] : List Str).zip us) := fun _ _ _ _ _ _ us hl => match us, hl with | [_], _ => rfl
theorem bd_worth_of : ∀ (kV doc pm : Value) (an : Option Addr) (cdv ct : Value) (us : List Value), us.length = (["giver", "to", "potentials"] : List Str).length → bindArgs (PySem.W.fnOf "worth_of" "worth_of" (defArgs s_worth_of) (defBody s_worth_of) (defScope s_worth_of) .none kV doc pm an cdv ct) ⟨us, []⟩ = pure ((["giver", "to", "potentials"] : List Str).zip us) := fun _ _ _ _ _ _ us hl => match us, hl with | [_, _, _], _ => rfl
theorem bd_bound_of : ∀ (kV doc pm : Value) (an : Option Addr) (cdv ct : Value) (us : List Value), us.length = (["trades", "potentials"] : List Str).length → bindArgs (PySem.W.fnOf "bound_of" "bound_of" (defArgs s_bound_of) (defBody s_bound_of) (defScope s_bound_of) .none kV doc pm an cdv ct) ⟨us, []⟩ = pure ((["trades", "potentials"] : List Str).zip us) := fun _ _ _ _ _ _ us hl => match us, hl with | [_, _], _ => rfl
theorem bd_least_potentials : ∀ (kV doc pm : Value) (an : Option Addr) (cdv ct : Value) (us : List Value), us.length = (["trades", "numbers"] : List Str).length → bindArgs (PySem.W.fnOf "least_potentials" "least_potentials" (defArgs s_least_potentials) (defBody s_least_potentials) (defScope s_least_potentials) .none kV doc pm an cdv ct) ⟨us, []⟩ = pure ((["trades", "numbers"] : List Str).zip us) := fun _ _ _ _ _ _ us hl => match us, hl with | [_, _], _ => rfl
theorem bd_told_reduction : ∀ (kV doc pm : Value) (an : Option Addr) (cdv ct : Value) (us : List Value), us.length = (["trades"] : List Str).length → bindArgs (PySem.W.fnOf "told_reduction" "told_reduction" (defArgs s_told_reduction) (defBody s_told_reduction) (defScope s_told_reduction) .none kV doc pm an cdv ct) ⟨us, []⟩ = pure ((["trades"] : List Str).zip us) := fun _ _ _ _ _ _ us hl => match us, hl with | [_], _ => rfl
theorem bd_greatest_reduction : ∀ (kV doc pm : Value) (an : Option Addr) (cdv ct : Value) (us : List Value), us.length = (["trades"] : List Str).length → bindArgs (PySem.W.fnOf "greatest_reduction" "greatest_reduction" (defArgs s_greatest_reduction) (defBody s_greatest_reduction) (defScope s_greatest_reduction) .none kV doc pm an cdv ct) ⟨us, []⟩ = pure ((["trades"] : List Str).zip us) := fun _ _ _ _ _ _ us hl => match us, hl with | [_], _ => rfl
theorem bd_is_reduction : ∀ (kV doc pm : Value) (an : Option Addr) (cdv ct : Value) (us : List Value), us.length = (["trades", "numbers"] : List Str).length → bindArgs (PySem.W.fnOf "is_reduction" "is_reduction" (defArgs s_is_reduction) (defBody s_is_reduction) (defScope s_is_reduction) .none kV doc pm an cdv ct) ⟨us, []⟩ = pure ((["trades", "numbers"] : List Str).zip us) := fun _ _ _ _ _ _ us hl => match us, hl with | [_, _], _ => rfl
theorem bd_overhangs : ∀ (kV doc pm : Value) (an : Option Addr) (cdv ct : Value) (us : List Value), us.length = (["trades", "numbers"] : List Str).length → bindArgs (PySem.W.fnOf "overhangs" "overhangs" (defArgs s_overhangs) (defBody s_overhangs) (defScope s_overhangs) .none kV doc pm an cdv ct) ⟨us, []⟩ = pure ((["trades", "numbers"] : List Str).zip us) := fun _ _ _ _ _ _ us hl => match us, hl with | [_, _], _ => rfl
theorem bd_even_out : ∀ (kV doc pm : Value) (an : Option Addr) (cdv ct : Value) (us : List Value), us.length = (["trades", "numbers"] : List Str).length → bindArgs (PySem.W.fnOf "even_out" "even_out" (defArgs s_even_out) (defBody s_even_out) (defScope s_even_out) .none kV doc pm an cdv ct) ⟨us, []⟩ = pure ((["trades", "numbers"] : List Str).zip us) := fun _ _ _ _ _ _ us hl => match us, hl with | [_, _], _ => rfl
theorem bd_prefer_low_keys : ∀ (kV doc pm : Value) (an : Option Addr) (cdv ct : Value) (us : List Value), us.length = (["trades", "numbers"] : List Str).length → bindArgs (PySem.W.fnOf "prefer_low_keys" "prefer_low_keys" (defArgs s_prefer_low_keys) (defBody s_prefer_low_keys) (defScope s_prefer_low_keys) .none kV doc pm an cdv ct) ⟨us, []⟩ = pure ((["trades", "numbers"] : List Str).zip us) := fun _ _ _ _ _ _ us hl => match us, hl with | [_, _], _ => rfl
theorem bd_raise_number : ∀ (kV doc pm : Value) (an : Option Addr) (cdv ct : Value) (us : List Value), us.length = (["trades", "numbers", "place", "places"] : List Str).length → bindArgs (PySem.W.fnOf "raise_number" "raise_number" (defArgs s_raise_number) (defBody s_raise_number) (defScope s_raise_number) .none kV doc pm an cdv ct) ⟨us, []⟩ = pure ((["trades", "numbers", "place", "places"] : List Str).zip us) := fun _ _ _ _ _ _ us hl => match us, hl with | [_, _, _, _], _ => rfl
theorem bd_Trade_init : ∀ (kV doc pm : Value) (an : Option Addr) (cdv ct : Value) (us : List Value), us.length = (["self", "giver", "to", "amount", "least"] : List Str).length → bindArgs (PySem.W.fnOf "__init__" "Trade.__init__" (defArgs s_Trade_init) (defBody s_Trade_init) (defScope s_Trade_init) .none kV doc pm an cdv ct) ⟨us, []⟩ = pure ((["self", "giver", "to", "amount", "least"] : List Str).zip us) := fun _ _ _ _ _ _ us hl => match us, hl with | [_, _, _, _, _], _ => rfl
theorem bd_room : ∀ (kV doc pm : Value) (an : Option Addr) (cdv ct : Value) (us : List Value), us.length = (["self"] : List Str).length → bindArgs (PySem.W.fnOf "room" "Trade.room" (defArgs s_room) (defBody s_room) (defScope s_room) .none kV doc pm an cdv ct) ⟨us, []⟩ = pure ((["self"] : List Str).zip us) := fun _ _ _ _ _ _ us hl => match us, hl with | [_], _ => rfl
theorem bd_House_init : ∀ (kV doc pm : Value) (an : Option Addr) (cdv ct : Value) (us : List Value), us.length = (["self"] : List Str).length → bindArgs (PySem.W.fnOf "__init__" "House.__init__" (defArgs s_House_init) (defBody s_House_init) (defScope s_House_init) .none kV doc pm an cdv ct) ⟨us, []⟩ = pure ((["self"] : List Str).zip us) := fun _ _ _ _ _ _ us hl => match us, hl with | [_], _ => rfl
theorem bd_has : ∀ (kV doc pm : Value) (an : Option Addr) (cdv ct : Value) (us : List Value), us.length = (["self", "key"] : List Str).length → bindArgs (PySem.W.fnOf "has" "House.has" (defArgs s_has) (defBody s_has) (defScope s_has) .none kV doc pm an cdv ct) ⟨us, []⟩ = pure ((["self", "key"] : List Str).zip us) := fun _ _ _ _ _ _ us hl => match us, hl with | [_, _], _ => rfl
theorem bd_entry : ∀ (kV doc pm : Value) (an : Option Addr) (cdv ct : Value) (us : List Value), us.length = (["self", "key"] : List Str).length → bindArgs (PySem.W.fnOf "entry" "House.entry" (defArgs s_entry) (defBody s_entry) (defScope s_entry) .none kV doc pm an cdv ct) ⟨us, []⟩ = pure ((["self", "key"] : List Str).zip us) := fun _ _ _ _ _ _ us hl => match us, hl with | [_, _], _ => rfl
theorem bd_order : ∀ (kV doc pm : Value) (an : Option Addr) (cdv ct : Value) (us : List Value), us.length = (["self"] : List Str).length → bindArgs (PySem.W.fnOf "order" "House.order" (defArgs s_order) (defBody s_order) (defScope s_order) .none kV doc pm an cdv ct) ⟨us, []⟩ = pure ((["self"] : List Str).zip us) := fun _ _ _ _ _ _ us hl => match us, hl with | [_], _ => rfl
theorem bd_listed : ∀ (kV doc pm : Value) (an : Option Addr) (cdv ct : Value) (us : List Value), us.length = (["self"] : List Str).length → bindArgs (PySem.W.fnOf "listed" "House.listed" (defArgs s_listed) (defBody s_listed) (defScope s_listed) .none kV doc pm an cdv ct) ⟨us, []⟩ = pure ((["self"] : List Str).zip us) := fun _ _ _ _ _ _ us hl => match us, hl with | [_], _ => rfl
theorem bd_members : ∀ (kV doc pm : Value) (an : Option Addr) (cdv ct : Value) (us : List Value), us.length = (["self"] : List Str).length → bindArgs (PySem.W.fnOf "members" "House.members" (defArgs s_members) (defBody s_members) (defScope s_members) .none kV doc pm an cdv ct) ⟨us, []⟩ = pure ((["self"] : List Str).zip us) := fun _ _ _ _ _ _ us hl => match us, hl with | [_], _ => rfl
theorem bd_takes_in : ∀ (kV doc pm : Value) (an : Option Addr) (cdv ct : Value) (us : List Value), us.length = (["self", "giver", "to"] : List Str).length → bindArgs (PySem.W.fnOf "takes_in" "House.takes_in" (defArgs s_takes_in) (defBody s_takes_in) (defScope s_takes_in) .none kV doc pm an cdv ct) ⟨us, []⟩ = pure ((["self", "giver", "to"] : List Str).zip us) := fun _ _ _ _ _ _ us hl => match us, hl with | [_, _, _], _ => rfl
theorem bd_enter : ∀ (kV doc pm : Value) (an : Option Addr) (cdv ct : Value) (us : List Value), us.length = (["self", "key", "giver", "to", "amount", "least"] : List Str).length → bindArgs (PySem.W.fnOf "enter" "House.enter" (defArgs s_enter) (defBody s_enter) (defScope s_enter) .none kV doc pm an cdv ct) ⟨us, []⟩ = pure ((["self", "key", "giver", "to", "amount", "least"] : List Str).zip us) := fun _ _ _ _ _ _ us hl => match us, hl with | [_, _, _, _, _, _], _ => rfl
theorem bd_strike : ∀ (kV doc pm : Value) (an : Option Addr) (cdv ct : Value) (us : List Value), us.length = (["self", "key"] : List Str).length → bindArgs (PySem.W.fnOf "strike" "House.strike" (defArgs s_strike) (defBody s_strike) (defScope s_strike) .none kV doc pm an cdv ct) ⟨us, []⟩ = pure ((["self", "key"] : List Str).zip us) := fun _ _ _ _ _ _ us hl => match us, hl with | [_, _], _ => rfl
theorem bd_set_least : ∀ (kV doc pm : Value) (an : Option Addr) (cdv ct : Value) (us : List Value), us.length = (["self", "key", "least"] : List Str).length → bindArgs (PySem.W.fnOf "set_least" "House.set_least" (defArgs s_set_least) (defBody s_set_least) (defScope s_set_least) .none kV doc pm an cdv ct) ⟨us, []⟩ = pure ((["self", "key", "least"] : List Str).zip us) := fun _ _ _ _ _ _ us hl => match us, hl with | [_, _, _], _ => rfl
theorem bd_lessen : ∀ (kV doc pm : Value) (an : Option Addr) (cdv ct : Value) (us : List Value), us.length = (["self", "numbers"] : List Str).length → bindArgs (PySem.W.fnOf "lessen" "House.lessen" (defArgs s_lessen) (defBody s_lessen) (defScope s_lessen) .none kV doc pm an cdv ct) ⟨us, []⟩ = pure ((["self", "numbers"] : List Str).zip us) := fun _ _ _ _ _ _ us hl => match us, hl with | [_, _], _ => rfl
theorem bd_rooms : ∀ (kV doc pm : Value) (an : Option Addr) (cdv ct : Value) (us : List Value), us.length = (["self"] : List Str).length → bindArgs (PySem.W.fnOf "rooms" "House.rooms" (defArgs s_rooms) (defBody s_rooms) (defScope s_rooms) .none kV doc pm an cdv ct) ⟨us, []⟩ = pure ((["self"] : List Str).zip us) := fun _ _ _ _ _ _ us hl => match us, hl with | [_], _ => rfl
theorem bd_reduction : ∀ (kV doc pm : Value) (an : Option Addr) (cdv ct : Value) (us : List Value), us.length = (["self"] : List Str).length → bindArgs (PySem.W.fnOf "reduction" "House.reduction" (defArgs s_reduction) (defBody s_reduction) (defScope s_reduction) .none kV doc pm an cdv ct) ⟨us, []⟩ = pure ((["self"] : List Str).zip us) := fun _ _ _ _ _ _ us hl => match us, hl with | [_], _ => rfl
theorem bd_allows : ∀ (kV doc pm : Value) (an : Option Addr) (cdv ct : Value) (us : List Value), us.length = (["self", "numbers"] : List Str).length → bindArgs (PySem.W.fnOf "allows" "House.allows" (defArgs s_allows) (defBody s_allows) (defScope s_allows) .none kV doc pm an cdv ct) ⟨us, []⟩ = pure ((["self", "numbers"] : List Str).zip us) := fun _ _ _ _ _ _ us hl => match us, hl with | [_, _], _ => rfl
theorem bd_greatest_with : ∀ (kV doc pm : Value) (an : Option Addr) (cdv ct : Value) (us : List Value), us.length = (["self", "key", "room"] : List Str).length → bindArgs (PySem.W.fnOf "greatest_with" "House.greatest_with" (defArgs s_greatest_with) (defBody s_greatest_with) (defScope s_greatest_with) .none kV doc pm an cdv ct) ⟨us, []⟩ = pure ((["self", "key", "room"] : List Str).zip us) := fun _ _ _ _ _ _ us hl => match us, hl with | [_, _, _], _ => rfl
theorem bd_potentials : ∀ (kV doc pm : Value) (an : Option Addr) (cdv ct : Value) (us : List Value), us.length = (["self"] : List Str).length → bindArgs (PySem.W.fnOf "potentials" "House.potentials" (defArgs s_potentials) (defBody s_potentials) (defScope s_potentials) .none kV doc pm an cdv ct) ⟨us, []⟩ = pure ((["self"] : List Str).zip us) := fun _ _ _ _ _ _ us hl => match us, hl with | [_], _ => rfl
theorem bd_bound : ∀ (kV doc pm : Value) (an : Option Addr) (cdv ct : Value) (us : List Value), us.length = (["self", "potentials"] : List Str).length → bindArgs (PySem.W.fnOf "bound" "House.bound" (defArgs s_bound) (defBody s_bound) (defScope s_bound) .none kV doc pm an cdv ct) ⟨us, []⟩ = pure ((["self", "potentials"] : List Str).zip us) := fun _ _ _ _ _ _ us hl => match us, hl with | [_, _], _ => rfl
theorem bd_worth : ∀ (kV doc pm : Value) (an : Option Addr) (cdv ct : Value) (us : List Value), us.length = (["self", "key"] : List Str).length → bindArgs (PySem.W.fnOf "worth" "House.worth" (defArgs s_worth) (defBody s_worth) (defScope s_worth) .none kV doc pm an cdv ct) ⟨us, []⟩ = pure ((["self", "key"] : List Str).zip us) := fun _ _ _ _ _ _ us hl => match us, hl with | [_, _], _ => rfl
theorem bd_room_between : ∀ (kV doc pm : Value) (an : Option Addr) (cdv ct : Value) (us : List Value), us.length = (["self", "giver", "to"] : List Str).length → bindArgs (PySem.W.fnOf "room_between" "House.room_between" (defArgs s_room_between) (defBody s_room_between) (defScope s_room_between) .none kV doc pm an cdv ct) ⟨us, []⟩ = pure ((["self", "giver", "to"] : List Str).zip us) := fun _ _ _ _ _ _ us hl => match us, hl with | [_, _, _], _ => rfl
theorem bd_cancelled_between : ∀ (kV doc pm : Value) (an : Option Addr) (cdv ct : Value) (us : List Value), us.length = (["self", "one", "other"] : List Str).length → bindArgs (PySem.W.fnOf "cancelled_between" "House.cancelled_between" (defArgs s_cancelled_between) (defBody s_cancelled_between) (defScope s_cancelled_between) .none kV doc pm an cdv ct) ⟨us, []⟩ = pure ((["self", "one", "other"] : List Str).zip us) := fun _ _ _ _ _ _ us hl => match us, hl with | [_, _, _], _ => rfl
theorem bd_answers : ∀ (kV doc pm : Value) (an : Option Addr) (cdv ct : Value) (us : List Value), us.length = (["calls"] : List Str).length → bindArgs (PySem.W.fnOf "answers" "answers" (defArgs s_answers) (defBody s_answers) (defScope s_answers) .none kV doc pm an cdv ct) ⟨us, []⟩ = pure ((["calls"] : List Str).zip us) := fun _ _ _ _ _ _ us hl => match us, hl with | [_], _ => rfl
theorem bd_read_arguments : ∀ (kV doc pm : Value) (an : Option Addr) (cdv ct : Value) (us : List Value), us.length = (["calls", "place", "shape"] : List Str).length → bindArgs (PySem.W.fnOf "read_arguments" "read_arguments" (defArgs s_read_arguments) (defBody s_read_arguments) (defScope s_read_arguments) .none kV doc pm an cdv ct) ⟨us, []⟩ = pure ((["calls", "place", "shape"] : List Str).zip us) := fun _ _ _ _ _ _ us hl => match us, hl with | [_, _, _], _ => rfl
section
variable {P : Program} {w : World} {K : PySem.W.Frag} {mg : Str → Option Value} {base : Heap} {TC HC Pt ca c : Addr} {rows : List (Addr × Addr)}
/-- what the top has of the defs -/
structure Ds (K : PySem.W.Frag) (mg : Str → Option Value) (TC HC : Addr) (rows : List (Addr × Addr)) : Prop where
  d_within : DefAt K mg "within" s_within ["number", "low", "high"]
  d_numbers_for_trades : DefAt K mg "numbers_for_trades" s_numbers_for_trades ["house", "numbers"]
  d_potentials_for_members : DefAt K mg "potentials_for_members" s_potentials_for_members ["house", "numbers"]
  d_answer_trade : DefAt K mg "answer_trade" s_answer_trade ["house", "arguments"]
  d_answer_drop : DefAt K mg "answer_drop" s_answer_drop ["house", "arguments"]
  d_answer_floor : DefAt K mg "answer_floor" s_answer_floor ["house", "arguments"]
  d_answer_take : DefAt K mg "answer_take" s_answer_take ["house", "arguments"]
  d_answer_apply : DefAt K mg "answer_apply" s_answer_apply ["house", "arguments"]
  d_answer_net : DefAt K mg "answer_net" s_answer_net ["house", "arguments"]
  d_answer_gross : DefAt K mg "answer_gross" s_answer_gross ["house", "arguments"]
  d_answer_greatest : DefAt K mg "answer_greatest" s_answer_greatest ["house", "arguments"]
  d_answer_told : DefAt K mg "answer_told" s_answer_told ["house", "arguments"]
  d_answer_isone : DefAt K mg "answer_isone" s_answer_isone ["house", "arguments"]
  d_answer_bound : DefAt K mg "answer_bound" s_answer_bound ["house", "arguments"]
  d_answer_potentials : DefAt K mg "answer_potentials" s_answer_potentials ["house", "arguments"]
  d_answer_proves : DefAt K mg "answer_proves" s_answer_proves ["house", "arguments"]
  d_answer_without : DefAt K mg "answer_without" s_answer_without ["house", "arguments"]
  d_answer_pairs : DefAt K mg "answer_pairs" s_answer_pairs ["house", "arguments"]
  d_answer_worth : DefAt K mg "answer_worth" s_answer_worth ["house", "arguments"]
  d_answer_members : DefAt K mg "answer_members" s_answer_members ["house", "arguments"]
  d_answer_trades : DefAt K mg "answer_trades" s_answer_trades ["house", "arguments"]
  d_answer_between : DefAt K mg "answer_between" s_answer_between ["house", "arguments"]
  d_shape_of : DefAt K mg "shape_of" s_shape_of ["number"]
  d_answer_call : DefAt K mg "answer_call" s_answer_call ["house", "number", "arguments"]
  d_moves_of : DefAt K mg "moves_of" s_moves_of ["trades", "numbers", "places"]
  d_shortest_ways : DefAt K mg "shortest_ways" s_shortest_ways ["moves", "starts"]
  d_gain_of : DefAt K mg "gain_of" s_gain_of ["length"]
  d_way_to : DefAt K mg "way_to" s_way_to ["member", "last_moves"]
  d_leeway : DefAt K mg "leeway" s_leeway ["trades", "numbers", "way"]
  d_shift : DefAt K mg "shift" s_shift ["numbers", "way", "size"]
  d_members_of : DefAt K mg "members_of" s_members_of ["trades"]
  d_worth_of : DefAt K mg "worth_of" s_worth_of ["giver", "to", "potentials"]
  d_bound_of : DefAt K mg "bound_of" s_bound_of ["trades", "potentials"]
  d_least_potentials : DefAt K mg "least_potentials" s_least_potentials ["trades", "numbers"]
  d_told_reduction : DefAt K mg "told_reduction" s_told_reduction ["trades"]
  d_greatest_reduction : DefAt K mg "greatest_reduction" s_greatest_reduction ["trades"]
  d_is_reduction : DefAt K mg "is_reduction" s_is_reduction ["trades", "numbers"]
  d_overhangs : DefAt K mg "overhangs" s_overhangs ["trades", "numbers"]
  d_even_out : DefAt K mg "even_out" s_even_out ["trades", "numbers"]
  d_prefer_low_keys : DefAt K mg "prefer_low_keys" s_prefer_low_keys ["trades", "numbers"]
  d_raise_number : DefAt K mg "raise_number" s_raise_number ["trades", "numbers", "place", "places"]
  d_Trade_init : MakeAt K mg "Trade" TC "Trade.__init__" s_Trade_init ["self", "giver", "to", "amount", "least"]
  d_room : MethAt K TC "room" "Trade.room" s_room ["self"]
  d_House_init : MakeAt K mg "House" HC "House.__init__" s_House_init ["self"]
  d_has : MethAt K HC "has" "House.has" s_has ["self", "key"]
  d_entry : MethAt K HC "entry" "House.entry" s_entry ["self", "key"]
  d_order : MethAt K HC "order" "House.order" s_order ["self"]
  d_listed : MethAt K HC "listed" "House.listed" s_listed ["self"]
  d_members : MethAt K HC "members" "House.members" s_members ["self"]
  d_takes_in : MethAt K HC "takes_in" "House.takes_in" s_takes_in ["self", "giver", "to"]
  d_enter : MethAt K HC "enter" "House.enter" s_enter ["self", "key", "giver", "to", "amount", "least"]
  d_strike : MethAt K HC "strike" "House.strike" s_strike ["self", "key"]
  d_set_least : MethAt K HC "set_least" "House.set_least" s_set_least ["self", "key", "least"]
  d_lessen : MethAt K HC "lessen" "House.lessen" s_lessen ["self", "numbers"]
  d_rooms : MethAt K HC "rooms" "House.rooms" s_rooms ["self"]
  d_reduction : MethAt K HC "reduction" "House.reduction" s_reduction ["self"]
  d_allows : MethAt K HC "allows" "House.allows" s_allows ["self", "numbers"]
  d_greatest_with : MethAt K HC "greatest_with" "House.greatest_with" s_greatest_with ["self", "key", "room"]
  d_potentials : MethAt K HC "potentials" "House.potentials" s_potentials ["self"]
  d_bound : MethAt K HC "bound" "House.bound" s_bound ["self", "potentials"]
  d_worth : MethAt K HC "worth" "House.worth" s_worth ["self", "key"]
  d_room_between : MethAt K HC "room_between" "House.room_between" s_room_between ["self", "giver", "to"]
  d_cancelled_between : MethAt K HC "cancelled_between" "House.cancelled_between" s_cancelled_between ["self", "one", "other"]
  d_answers : DefAt K mg "answers" s_answers ["calls"]
  d_read_arguments : DefAt K mg "read_arguments" s_read_arguments ["calls", "place", "shape"]
  n_0 : ∀ r, rows[0]? = some r → mg "answer_trade" = some (.ref r.2)
  n_1 : ∀ r, rows[1]? = some r → mg "answer_drop" = some (.ref r.2)
  n_2 : ∀ r, rows[2]? = some r → mg "answer_floor" = some (.ref r.2)
  n_3 : ∀ r, rows[3]? = some r → mg "answer_take" = some (.ref r.2)
  n_4 : ∀ r, rows[4]? = some r → mg "answer_apply" = some (.ref r.2)
  n_5 : ∀ r, rows[5]? = some r → mg "answer_net" = some (.ref r.2)
  n_6 : ∀ r, rows[6]? = some r → mg "answer_gross" = some (.ref r.2)
  n_7 : ∀ r, rows[7]? = some r → mg "answer_greatest" = some (.ref r.2)
  n_8 : ∀ r, rows[8]? = some r → mg "answer_told" = some (.ref r.2)
  n_9 : ∀ r, rows[9]? = some r → mg "answer_isone" = some (.ref r.2)
  n_10 : ∀ r, rows[10]? = some r → mg "answer_bound" = some (.ref r.2)
  n_11 : ∀ r, rows[11]? = some r → mg "answer_potentials" = some (.ref r.2)
  n_12 : ∀ r, rows[12]? = some r → mg "answer_proves" = some (.ref r.2)
  n_13 : ∀ r, rows[13]? = some r → mg "answer_without" = some (.ref r.2)
  n_14 : ∀ r, rows[14]? = some r → mg "answer_pairs" = some (.ref r.2)
  n_15 : ∀ r, rows[15]? = some r → mg "answer_worth" = some (.ref r.2)
  n_16 : ∀ r, rows[16]? = some r → mg "answer_members" = some (.ref r.2)
  n_17 : ∀ r, rows[17]? = some r → mg "answer_trades" = some (.ref r.2)
  n_18 : ∀ r, rows[18]? = some r → mg "answer_between" = some (.ref r.2)
theorem all_cal (T : Tk K mg TC HC ca rows) (D : Ds K mg TC HC rows) (E : DefCode K mg "even_out" s_even_out ["trades", "numbers"] c) (TB : TabB base mg c Pt) : Cal P w K mg base 11 "answers" (spAnswers K Pt) := by
  have c_gain_of := c_gain_of (P := P) (w := w) (base := base) T.toTc.toTb D.d_gain_of
  have c_moves_of := c_moves_of (P := P) (w := w) (base := base) T.toTc.toTb D.d_moves_of
  have c_shortest_ways := c_shortest_ways (P := P) (w := w) (base := base) T.toTc.toTb D.d_shortest_ways
  have c_way_to := c_way_to (P := P) (w := w) (base := base) T.toTc.toTb D.d_way_to
  have c_leeway := c_leeway (P := P) (w := w) (base := base) T.toTc.toTb D.d_leeway
  have c_shift := c_shift (P := P) (w := w) (base := base) T.toTc.toTb D.d_shift
  have c_members_of := c_members_of (P := P) (w := w) (base := base) T.toTc.toTb D.d_members_of
  have c_worth_of := c_worth_of (P := P) (w := w) (base := base) T.toTc.toTb D.d_worth_of
  have c_bound_of := c_bound_of (P := P) (w := w) (base := base) T.toTc.toTb D.d_bound_of c_worth_of
  have c_least_potentials := c_least_potentials (P := P) (w := w) (base := base) T.toTc.toTb D.d_least_potentials c_shortest_ways c_moves_of c_members_of c_gain_of
  have c_overhangs := c_overhangs (P := P) (w := w) (base := base) T.toTc.toTb D.d_overhangs
  have c_is_reduction := c_is_reduction (P := P) (w := w) (base := base) T.toTc.toTb D.d_is_reduction c_overhangs
  have c_raise_number := c_raise_number (P := P) (w := w) (base := base) T.toTc.toTb D.d_raise_number c_shortest_ways c_moves_of c_way_to c_leeway c_shift
  have c_prefer_low_keys := c_prefer_low_keys (P := P) (w := w) (base := base) T.toTc.toTb D.d_prefer_low_keys c_least_potentials c_worth_of c_raise_number
  have c_even_out := c_even_out (P := P) (w := w) (base := base) (Pt := Pt) T.toTc.toTb E TB c_overhangs c_shortest_ways c_moves_of c_way_to c_leeway c_shift
  have c_greatest_reduction := c_greatest_reduction (P := P) (w := w) (base := base) (Pt := Pt) T.toTc.toTb D.d_greatest_reduction c_even_out
  have c_told_reduction := c_told_reduction (P := P) (w := w) (base := base) (Pt := Pt) T.toTc.toTb D.d_told_reduction c_greatest_reduction c_prefer_low_keys
  have c_Trade_init := c_Trade_init (P := P) (w := w) (base := base) T.toTc D.d_Trade_init
  have c_room := c_room (P := P) (w := w) (base := base) T.toTc D.d_room
  have c_House_init := c_House_init (P := P) (w := w) (base := base) T.toTc D.d_House_init
  have c_has := c_has (P := P) (w := w) (base := base) T.toTc D.d_has
  have c_entry := c_entry (P := P) (w := w) (base := base) T.toTc D.d_entry
  have c_order := c_order (P := P) (w := w) (base := base) T.toTc D.d_order
  have c_listed := c_listed (P := P) (w := w) (base := base) T.toTc D.d_listed c_order
  have c_rooms := c_rooms (P := P) (w := w) (base := base) T.toTc D.d_rooms c_listed c_room
  have c_members := c_members (P := P) (w := w) (base := base) T.toTc D.d_members c_rooms c_members_of
  have c_allows := c_allows (P := P) (w := w) (base := base) T.toTc D.d_allows c_rooms c_is_reduction
  have c_room_between := c_room_between (P := P) (w := w) (base := base) T.toTc D.d_room_between c_listed c_room
  have c_cancelled_between := c_cancelled_between (P := P) (w := w) (base := base) T.toTc D.d_cancelled_between c_room_between
  have c_reduction := c_reduction (P := P) (w := w) (base := base) (Pt := Pt) T.toTc D.d_reduction c_told_reduction c_rooms
  have c_potentials := c_potentials (P := P) (w := w) (base := base) (Pt := Pt) T.toTc D.d_potentials c_rooms c_reduction c_least_potentials
  have c_worth := c_worth (P := P) (w := w) (base := base) (Pt := Pt) T.toTc D.d_worth c_potentials c_worth_of
  have c_bound := c_bound (P := P) (w := w) (base := base) T.toTc D.d_bound c_rooms c_members c_bound_of
  have c_greatest_with := c_greatest_with (P := P) (w := w) (base := base) (Pt := Pt) T.toTc D.d_greatest_with c_order c_rooms c_greatest_reduction
  have c_takes_in := c_takes_in (P := P) (w := w) (base := base) T.toTc D.d_takes_in c_members
  have c_enter := c_enter (P := P) (w := w) (base := base) T.toTc D.d_enter c_Trade_init
  have c_strike := c_strike (P := P) (w := w) (base := base) T.toTc D.d_strike
  have c_set_least := c_set_least (P := P) (w := w) (base := base) T.toTc D.d_set_least
  have c_lessen := c_lessen (P := P) (w := w) (base := base) T.toTc D.d_lessen c_order c_strike
  have c_within := c_within (P := P) (w := w) (base := base) T.toTc.toTb D.d_within
  have c_numbers_for_trades := c_numbers_for_trades (P := P) (w := w) (base := base) T.toTc D.d_numbers_for_trades c_order c_within
  have c_potentials_for_members := c_potentials_for_members (P := P) (w := w) (base := base) T.toTc D.d_potentials_for_members c_members c_within
  have c_answer_drop := c_answer_drop (P := P) (w := w) (base := base) (Pt := Pt) T.toTc D.d_answer_drop c_within c_has c_entry c_strike
  have c_answer_floor := c_answer_floor (P := P) (w := w) (base := base) (Pt := Pt) T.toTc D.d_answer_floor c_within c_has c_entry c_set_least
  have c_answer_worth := c_answer_worth (P := P) (w := w) (base := base) (Pt := Pt) T.toTc D.d_answer_worth c_within c_has c_worth
  have c_answer_take := c_answer_take (P := P) (w := w) (base := base) (Pt := Pt) T.toTc D.d_answer_take c_reduction c_lessen
  have c_answer_greatest := c_answer_greatest (P := P) (w := w) (base := base) (Pt := Pt) T.toTc D.d_answer_greatest c_reduction
  have c_answer_net := c_answer_net (P := P) (w := w) (base := base) (Pt := Pt) T.toTc D.d_answer_net c_within c_listed
  have c_answer_gross := c_answer_gross (P := P) (w := w) (base := base) (Pt := Pt) T.toTc D.d_answer_gross c_listed c_room
  have c_answer_members := c_answer_members (P := P) (w := w) (base := base) (Pt := Pt) T.toTc D.d_answer_members c_members
  have c_answer_between := c_answer_between (P := P) (w := w) (base := base) (Pt := Pt) T.toTc D.d_answer_between c_within c_listed c_cancelled_between
  have c_answer_told := c_answer_told (P := P) (w := w) (base := base) (Pt := Pt) T.toTc D.d_answer_told c_order c_reduction
  have c_answer_trades := c_answer_trades (P := P) (w := w) (base := base) (Pt := Pt) T.toTc D.d_answer_trades c_order c_entry
  have c_answer_potentials := c_answer_potentials (P := P) (w := w) (base := base) (Pt := Pt) T.toTc D.d_answer_potentials c_members c_potentials
  have c_answer_isone := c_answer_isone (P := P) (w := w) (base := base) (Pt := Pt) T.toTc D.d_answer_isone c_numbers_for_trades c_allows
  have c_answer_apply := c_answer_apply (P := P) (w := w) (base := base) (Pt := Pt) T.toTc D.d_answer_apply c_numbers_for_trades c_allows c_reduction c_lessen
  have c_answer_bound := c_answer_bound (P := P) (w := w) (base := base) (Pt := Pt) T.toTc D.d_answer_bound c_potentials_for_members c_bound
  have c_answer_proves := c_answer_proves (P := P) (w := w) (base := base) (Pt := Pt) T.toTc D.d_answer_proves c_potentials_for_members c_numbers_for_trades c_allows c_bound
  have c_answer_without := c_answer_without (P := P) (w := w) (base := base) (Pt := Pt) T.toTc D.d_answer_without c_within c_has c_entry c_greatest_with
  have c_answer_pairs := c_answer_pairs (P := P) (w := w) (base := base) (Pt := Pt) T.toTc D.d_answer_pairs c_members c_cancelled_between
  have c_answer_trade := c_answer_trade (P := P) (w := w) (base := base) (Pt := Pt) T.toTc D.d_answer_trade c_within c_has c_takes_in c_enter
  have c_shape_of := c_shape_of (P := P) (w := w) (base := base) T D.d_shape_of
  have hc : ∀ (i : Nat) (r : Addr × Addr), rows[i]? = some r → CalAt P w K mg base 9 r.2 (spAns TC HC Pt (gOf i)) := fun i r hr => by
    have hi : i < 19 := by
      have := (List.getElem?_eq_some_iff.mp hr).1
      rw [T.len] at this
      exact this
    match i, hi, hr with
    | 0, _, hr => exact cal_at c_answer_trade (by decide) (D.n_0 r hr)
    | 1, _, hr => exact cal_at c_answer_drop (by decide) (D.n_1 r hr)
    | 2, _, hr => exact cal_at c_answer_floor (by decide) (D.n_2 r hr)
    | 3, _, hr => exact cal_at c_answer_take (by decide) (D.n_3 r hr)
    | 4, _, hr => exact cal_at c_answer_apply (by decide) (D.n_4 r hr)
    | 5, _, hr => exact cal_at c_answer_net (by decide) (D.n_5 r hr)
    | 6, _, hr => exact cal_at c_answer_gross (by decide) (D.n_6 r hr)
    | 7, _, hr => exact cal_at c_answer_greatest (by decide) (D.n_7 r hr)
    | 8, _, hr => exact cal_at c_answer_told (by decide) (D.n_8 r hr)
    | 9, _, hr => exact cal_at c_answer_isone (by decide) (D.n_9 r hr)
    | 10, _, hr => exact cal_at c_answer_bound (by decide) (D.n_10 r hr)
    | 11, _, hr => exact cal_at c_answer_potentials (by decide) (D.n_11 r hr)
    | 12, _, hr => exact cal_at c_answer_proves (by decide) (D.n_12 r hr)
    | 13, _, hr => exact cal_at c_answer_without (by decide) (D.n_13 r hr)
    | 14, _, hr => exact cal_at c_answer_pairs (by decide) (D.n_14 r hr)
    | 15, _, hr => exact cal_at c_answer_worth (by decide) (D.n_15 r hr)
    | 16, _, hr => exact cal_at c_answer_members (by decide) (D.n_16 r hr)
    | 17, _, hr => exact cal_at c_answer_trades (by decide) (D.n_17 r hr)
    | 18, _, hr => exact cal_at c_answer_between (by decide) (D.n_18 r hr)
    | n + 19, h, _ => omega
  have c_answer_call := c_answer_call (P := P) (w := w) (base := base) (Pt := Pt) T D.d_answer_call hc
  have c_read_arguments := c_read_arguments (P := P) (w := w) (base := base) T.toTc.toTb D.d_read_arguments
  have c_answers := c_answers (P := P) (w := w) (base := base) T D.d_answers c_House_init c_read_arguments c_shape_of c_answer_call
  exact c_answers
end
end Vb
end

section
/-! # What is written, put together -/
namespace Vb
open PySem PySem.Spec PyProof.Rows L2 Nw LamX
theorem use {p q : Prop} (h : p) (f : p → q) : q := f h
section
variable {K : PySem.W.Frag} {h : Heap} {mg : Str → Option Value} {C : Addr} {x m qual f : Str} {st : Stmt} {ps : List Str}
theorem meth_mk (X : K.In h) (hC : mg x = some (.ref C)) {f : Addr} {od an : Option Addr} {osl : Array (Option Value)} {oc kV doc pm cdv ct : Value}
    (hb : ∀ (kV doc pm : Value) (an : Option Addr) (cdv ct : Value) (us : List Value), us.length = ps.length → bindArgs (PySem.W.fnOf m qual (defArgs st) (defBody st) (defScope st) .none kV doc pm an cdv ct) ⟨us, []⟩ = pure (ps.zip us))
    (a : PySem.W.findIn K (.ref C) m = some (some (.ref f))) (i : PySem.W.isFn K (.ref f) = true) (l : K.lookup f = some ⟨oc, od, .func (PySem.W.fnOf m qual (defArgs st) (defBody st) (defScope st) .none kV doc pm an cdv ct), osl⟩) (c : PySem.W.codeIn K cdv qual = true) (k : PySem.W.keepIn K (.ref f) = true) : MethAt K C m qual st ps := methAt_mk hb a i l c k
theorem mak_mk (X : K.In h) (hC : mg x = some (.ref C)) {f : Addr} {od an : Option Addr} {osl : Array (Option Value)} {oc kV doc pm cdv ct : Value}
    (hb : ∀ (kV doc pm : Value) (an : Option Addr) (cdv ct : Value) (us : List Value), us.length = ps.length → bindArgs (PySem.W.fnOf "__init__" qual (defArgs st) (defBody st) (defScope st) .none kV doc pm an cdv ct) ⟨us, []⟩ = pure (ps.zip us))
    (a : PySem.W.findIn K (.ref C) "__init__" = some (some (.ref f))) (i : PySem.W.isFn K (.ref f) = true) (l : K.lookup f = some ⟨oc, od, .func (PySem.W.fnOf "__init__" qual (defArgs st) (defBody st) (defScope st) .none kV doc pm an cdv ct), osl⟩) (c : PySem.W.codeIn K cdv qual = true) (k : PySem.W.keepIn K (.ref f) = true)
    (mk : PySem.W.makesIn K C = true) (kc : PySem.W.keepIn K (.ref C) = true) : MakeAt K mg x C qual st ps := by
  have F := fun_mk l c k
  exact ⟨f, _, F, ⟨mk, a, i, kc⟩, hC, F.binds hb⟩
theorem cls_mk (X : K.In h) (hC : mg x = some (.ref C)) (pg : PySem.W.plainGet K C Str.empty = true) (hd : PySem.W.hasDictIn K C = true) (po : PySem.W.plainOver K C = true) (sa : PySem.W.findIn K (.ref C) "__setattr__" = some (some (.builtin "object.__setattr__"))) : Cls K C := ⟨pg, hd, po, sa⟩
theorem noAttr_mk (X : K.In h) (hC : mg x = some (.ref C)) (f : Str) (e : PySem.W.findIn K (.ref C) f = some none) : NoAttr K C f := e
theorem mg_ref {C : Addr} {x : Str} (X : K.In h) (G : h.Ns mainGlobals mg) (e : PySem.W.nsIn K mainGlobals x = some (some (.ref C))) : mg x = some (.ref C) := PySem.W.mg_of X G e
theorem ktup_mk {a : Addr} {dd : Option Addr} {its : Array Value} {n : Nat} {sl : Array (Option Value)} {xs : List V} (l : K.lookup a = some ⟨.type "tuple", dd, .seq its n, sl⟩) (hs : its.size ≤ sizeLine) (r : Vals xs its.toList) : KTup K a xs := ⟨_, its, n, l, rfl, rfl, hs, r⟩
theorem vals_refs : ∀ l : List Addr, Vals (l.map V.ref) (l.map Value.ref)
  | [] => .nil
  | _ :: l => .cons rfl (vals_refs l)

theorem tk_mk {TC HC ca : Addr} {t0 t1 t2 t3 t4 t5 t6 t7 t8 t9 t10 t11 t12 t13 t14 t15 t16 t17 t18 f0 f1 f2 f3 f4 f5 f6 f7 f8 f9 f10 f11 f12 f13 f14 f15 f16 f17 f18 : Addr} (X : K.In h) (T : Tc K mg TC HC) (hCA : mg "CALLS" = some (.ref ca)) {dd : Option Addr} {n : Nat} {sl : Array (Option Value)} (l : K.lookup ca = some ⟨.type "tuple", dd, .seq #[.ref t0, .ref t1, .ref t2, .ref t3, .ref t4, .ref t5, .ref t6, .ref t7, .ref t8, .ref t9, .ref t10, .ref t11, .ref t12, .ref t13, .ref t14, .ref t15, .ref t16, .ref t17, .ref t18] n, sl⟩)
    {dd0 : Option Addr} {n0 : Nat} {sl0 : Array (Option Value)} {u0 v0 : Tok} (l0 : K.lookup t0 = some ⟨.type "tuple", dd0, .seq #[.ref f0, .int 5 u0, .int 0 v0] n0, sl0⟩)
    {dd1 : Option Addr} {n1 : Nat} {sl1 : Array (Option Value)} {u1 v1 : Tok} (l1 : K.lookup t1 = some ⟨.type "tuple", dd1, .seq #[.ref f1, .int 1 u1, .int 0 v1] n1, sl1⟩)
    {dd2 : Option Addr} {n2 : Nat} {sl2 : Array (Option Value)} {u2 v2 : Tok} (l2 : K.lookup t2 = some ⟨.type "tuple", dd2, .seq #[.ref f2, .int 2 u2, .int 0 v2] n2, sl2⟩)
    {dd3 : Option Addr} {n3 : Nat} {sl3 : Array (Option Value)} {u3 v3 : Tok} (l3 : K.lookup t3 = some ⟨.type "tuple", dd3, .seq #[.ref f3, .int 0 u3, .int 0 v3] n3, sl3⟩)
    {dd4 : Option Addr} {n4 : Nat} {sl4 : Array (Option Value)} {u4 v4 : Tok} (l4 : K.lookup t4 = some ⟨.type "tuple", dd4, .seq #[.ref f4, .int 0 u4, .int 1 v4] n4, sl4⟩)
    {dd5 : Option Addr} {n5 : Nat} {sl5 : Array (Option Value)} {u5 v5 : Tok} (l5 : K.lookup t5 = some ⟨.type "tuple", dd5, .seq #[.ref f5, .int 1 u5, .int 0 v5] n5, sl5⟩)
    {dd6 : Option Addr} {n6 : Nat} {sl6 : Array (Option Value)} {u6 v6 : Tok} (l6 : K.lookup t6 = some ⟨.type "tuple", dd6, .seq #[.ref f6, .int 0 u6, .int 0 v6] n6, sl6⟩)
    {dd7 : Option Addr} {n7 : Nat} {sl7 : Array (Option Value)} {u7 v7 : Tok} (l7 : K.lookup t7 = some ⟨.type "tuple", dd7, .seq #[.ref f7, .int 0 u7, .int 0 v7] n7, sl7⟩)
    {dd8 : Option Addr} {n8 : Nat} {sl8 : Array (Option Value)} {u8 v8 : Tok} (l8 : K.lookup t8 = some ⟨.type "tuple", dd8, .seq #[.ref f8, .int 0 u8, .int 0 v8] n8, sl8⟩)
    {dd9 : Option Addr} {n9 : Nat} {sl9 : Array (Option Value)} {u9 v9 : Tok} (l9 : K.lookup t9 = some ⟨.type "tuple", dd9, .seq #[.ref f9, .int 0 u9, .int 1 v9] n9, sl9⟩)
    {dd10 : Option Addr} {n10 : Nat} {sl10 : Array (Option Value)} {u10 v10 : Tok} (l10 : K.lookup t10 = some ⟨.type "tuple", dd10, .seq #[.ref f10, .int 0 u10, .int 1 v10] n10, sl10⟩)
    {dd11 : Option Addr} {n11 : Nat} {sl11 : Array (Option Value)} {u11 v11 : Tok} (l11 : K.lookup t11 = some ⟨.type "tuple", dd11, .seq #[.ref f11, .int 0 u11, .int 0 v11] n11, sl11⟩)
    {dd12 : Option Addr} {n12 : Nat} {sl12 : Array (Option Value)} {u12 v12 : Tok} (l12 : K.lookup t12 = some ⟨.type "tuple", dd12, .seq #[.ref f12, .int 0 u12, .int 2 v12] n12, sl12⟩)
    {dd13 : Option Addr} {n13 : Nat} {sl13 : Array (Option Value)} {u13 v13 : Tok} (l13 : K.lookup t13 = some ⟨.type "tuple", dd13, .seq #[.ref f13, .int 1 u13, .int 0 v13] n13, sl13⟩)
    {dd14 : Option Addr} {n14 : Nat} {sl14 : Array (Option Value)} {u14 v14 : Tok} (l14 : K.lookup t14 = some ⟨.type "tuple", dd14, .seq #[.ref f14, .int 0 u14, .int 0 v14] n14, sl14⟩)
    {dd15 : Option Addr} {n15 : Nat} {sl15 : Array (Option Value)} {u15 v15 : Tok} (l15 : K.lookup t15 = some ⟨.type "tuple", dd15, .seq #[.ref f15, .int 1 u15, .int 0 v15] n15, sl15⟩)
    {dd16 : Option Addr} {n16 : Nat} {sl16 : Array (Option Value)} {u16 v16 : Tok} (l16 : K.lookup t16 = some ⟨.type "tuple", dd16, .seq #[.ref f16, .int 0 u16, .int 0 v16] n16, sl16⟩)
    {dd17 : Option Addr} {n17 : Nat} {sl17 : Array (Option Value)} {u17 v17 : Tok} (l17 : K.lookup t17 = some ⟨.type "tuple", dd17, .seq #[.ref f17, .int 0 u17, .int 0 v17] n17, sl17⟩)
    {dd18 : Option Addr} {n18 : Nat} {sl18 : Array (Option Value)} {u18 v18 : Tok} (l18 : K.lookup t18 = some ⟨.type "tuple", dd18, .seq #[.ref f18, .int 2 u18, .int 0 v18] n18, sl18⟩)
    : Tk K mg TC HC ca [(t0, f0), (t1, f1), (t2, f2), (t3, f3), (t4, f4), (t5, f5), (t6, f6), (t7, f7), (t8, f8), (t9, f9), (t10, f10), (t11, f11), (t12, f12), (t13, f13), (t14, f14), (t15, f15), (t16, f16), (t17, f17), (t18, f18)] := by
  refine ⟨T, ⟨_, hCA, rfl⟩, ktup_mk l (by show 19 ≤ sizeLine; decide) (vals_refs [t0, t1, t2, t3, t4, t5, t6, t7, t8, t9, t10, t11, t12, t13, t14, t15, t16, t17, t18]), rfl, fun i r hr => ?_⟩
  match i, hr with
  | 0, hr =>
    obtain rfl := Option.some.inj hr
    exact ktup_mk l0 (by show 3 ≤ sizeLine; decide) (.cons rfl (.cons ⟨_, rfl⟩ (.cons ⟨_, rfl⟩ .nil)))
  | 1, hr =>
    obtain rfl := Option.some.inj hr
    exact ktup_mk l1 (by show 3 ≤ sizeLine; decide) (.cons rfl (.cons ⟨_, rfl⟩ (.cons ⟨_, rfl⟩ .nil)))
  | 2, hr =>
    obtain rfl := Option.some.inj hr
    exact ktup_mk l2 (by show 3 ≤ sizeLine; decide) (.cons rfl (.cons ⟨_, rfl⟩ (.cons ⟨_, rfl⟩ .nil)))
  | 3, hr =>
    obtain rfl := Option.some.inj hr
    exact ktup_mk l3 (by show 3 ≤ sizeLine; decide) (.cons rfl (.cons ⟨_, rfl⟩ (.cons ⟨_, rfl⟩ .nil)))
  | 4, hr =>
    obtain rfl := Option.some.inj hr
    exact ktup_mk l4 (by show 3 ≤ sizeLine; decide) (.cons rfl (.cons ⟨_, rfl⟩ (.cons ⟨_, rfl⟩ .nil)))
  | 5, hr =>
    obtain rfl := Option.some.inj hr
    exact ktup_mk l5 (by show 3 ≤ sizeLine; decide) (.cons rfl (.cons ⟨_, rfl⟩ (.cons ⟨_, rfl⟩ .nil)))
  | 6, hr =>
    obtain rfl := Option.some.inj hr
    exact ktup_mk l6 (by show 3 ≤ sizeLine; decide) (.cons rfl (.cons ⟨_, rfl⟩ (.cons ⟨_, rfl⟩ .nil)))
  | 7, hr =>
    obtain rfl := Option.some.inj hr
    exact ktup_mk l7 (by show 3 ≤ sizeLine; decide) (.cons rfl (.cons ⟨_, rfl⟩ (.cons ⟨_, rfl⟩ .nil)))
  | 8, hr =>
    obtain rfl := Option.some.inj hr
    exact ktup_mk l8 (by show 3 ≤ sizeLine; decide) (.cons rfl (.cons ⟨_, rfl⟩ (.cons ⟨_, rfl⟩ .nil)))
  | 9, hr =>
    obtain rfl := Option.some.inj hr
    exact ktup_mk l9 (by show 3 ≤ sizeLine; decide) (.cons rfl (.cons ⟨_, rfl⟩ (.cons ⟨_, rfl⟩ .nil)))
  | 10, hr =>
    obtain rfl := Option.some.inj hr
    exact ktup_mk l10 (by show 3 ≤ sizeLine; decide) (.cons rfl (.cons ⟨_, rfl⟩ (.cons ⟨_, rfl⟩ .nil)))
  | 11, hr =>
    obtain rfl := Option.some.inj hr
    exact ktup_mk l11 (by show 3 ≤ sizeLine; decide) (.cons rfl (.cons ⟨_, rfl⟩ (.cons ⟨_, rfl⟩ .nil)))
  | 12, hr =>
    obtain rfl := Option.some.inj hr
    exact ktup_mk l12 (by show 3 ≤ sizeLine; decide) (.cons rfl (.cons ⟨_, rfl⟩ (.cons ⟨_, rfl⟩ .nil)))
  | 13, hr =>
    obtain rfl := Option.some.inj hr
    exact ktup_mk l13 (by show 3 ≤ sizeLine; decide) (.cons rfl (.cons ⟨_, rfl⟩ (.cons ⟨_, rfl⟩ .nil)))
  | 14, hr =>
    obtain rfl := Option.some.inj hr
    exact ktup_mk l14 (by show 3 ≤ sizeLine; decide) (.cons rfl (.cons ⟨_, rfl⟩ (.cons ⟨_, rfl⟩ .nil)))
  | 15, hr =>
    obtain rfl := Option.some.inj hr
    exact ktup_mk l15 (by show 3 ≤ sizeLine; decide) (.cons rfl (.cons ⟨_, rfl⟩ (.cons ⟨_, rfl⟩ .nil)))
  | 16, hr =>
    obtain rfl := Option.some.inj hr
    exact ktup_mk l16 (by show 3 ≤ sizeLine; decide) (.cons rfl (.cons ⟨_, rfl⟩ (.cons ⟨_, rfl⟩ .nil)))
  | 17, hr =>
    obtain rfl := Option.some.inj hr
    exact ktup_mk l17 (by show 3 ≤ sizeLine; decide) (.cons rfl (.cons ⟨_, rfl⟩ (.cons ⟨_, rfl⟩ .nil)))
  | 18, hr =>
    obtain rfl := Option.some.inj hr
    exact ktup_mk l18 (by show 3 ≤ sizeLine; decide) (.cons rfl (.cons ⟨_, rfl⟩ (.cons ⟨_, rfl⟩ .nil)))
  | n + 19, hr => simp at hr
theorem ds_mk {TC HC ca t0 t1 t2 t3 t4 t5 t6 t7 t8 t9 t10 t11 t12 t13 t14 t15 t16 t17 t18 f0 f1 f2 f3 f4 f5 f6 f7 f8 f9 f10 f11 f12 f13 f14 f15 f16 f17 f18 : Addr} (T : Tk K mg TC HC ca [(t0, f0), (t1, f1), (t2, f2), (t3, f3), (t4, f4), (t5, f5), (t6, f6), (t7, f7), (t8, f8), (t9, f9), (t10, f10), (t11, f11), (t12, f12), (t13, f13), (t14, f14), (t15, f15), (t16, f16), (t17, f17), (t18, f18)])
    (d_within : DefAt K mg "within" s_within ["number", "low", "high"])
    (d_numbers_for_trades : DefAt K mg "numbers_for_trades" s_numbers_for_trades ["house", "numbers"])
    (d_potentials_for_members : DefAt K mg "potentials_for_members" s_potentials_for_members ["house", "numbers"])
    (d_answer_trade : DefAt K mg "answer_trade" s_answer_trade ["house", "arguments"])
    (d_answer_drop : DefAt K mg "answer_drop" s_answer_drop ["house", "arguments"])
    (d_answer_floor : DefAt K mg "answer_floor" s_answer_floor ["house", "arguments"])
    (d_answer_take : DefAt K mg "answer_take" s_answer_take ["house", "arguments"])
    (d_answer_apply : DefAt K mg "answer_apply" s_answer_apply ["house", "arguments"])
    (d_answer_net : DefAt K mg "answer_net" s_answer_net ["house", "arguments"])
    (d_answer_gross : DefAt K mg "answer_gross" s_answer_gross ["house", "arguments"])
    (d_answer_greatest : DefAt K mg "answer_greatest" s_answer_greatest ["house", "arguments"])
    (d_answer_told : DefAt K mg "answer_told" s_answer_told ["house", "arguments"])
    (d_answer_isone : DefAt K mg "answer_isone" s_answer_isone ["house", "arguments"])
    (d_answer_bound : DefAt K mg "answer_bound" s_answer_bound ["house", "arguments"])
    (d_answer_potentials : DefAt K mg "answer_potentials" s_answer_potentials ["house", "arguments"])
    (d_answer_proves : DefAt K mg "answer_proves" s_answer_proves ["house", "arguments"])
    (d_answer_without : DefAt K mg "answer_without" s_answer_without ["house", "arguments"])
    (d_answer_pairs : DefAt K mg "answer_pairs" s_answer_pairs ["house", "arguments"])
    (d_answer_worth : DefAt K mg "answer_worth" s_answer_worth ["house", "arguments"])
    (d_answer_members : DefAt K mg "answer_members" s_answer_members ["house", "arguments"])
    (d_answer_trades : DefAt K mg "answer_trades" s_answer_trades ["house", "arguments"])
    (d_answer_between : DefAt K mg "answer_between" s_answer_between ["house", "arguments"])
    (d_shape_of : DefAt K mg "shape_of" s_shape_of ["number"])
    (d_answer_call : DefAt K mg "answer_call" s_answer_call ["house", "number", "arguments"])
    (d_moves_of : DefAt K mg "moves_of" s_moves_of ["trades", "numbers", "places"])
    (d_shortest_ways : DefAt K mg "shortest_ways" s_shortest_ways ["moves", "starts"])
    (d_gain_of : DefAt K mg "gain_of" s_gain_of ["length"])
    (d_way_to : DefAt K mg "way_to" s_way_to ["member", "last_moves"])
    (d_leeway : DefAt K mg "leeway" s_leeway ["trades", "numbers", "way"])
    (d_shift : DefAt K mg "shift" s_shift ["numbers", "way", "size"])
    (d_members_of : DefAt K mg "members_of" s_members_of ["trades"])
    (d_worth_of : DefAt K mg "worth_of" s_worth_of ["giver", "to", "potentials"])
    (d_bound_of : DefAt K mg "bound_of" s_bound_of ["trades", "potentials"])
    (d_least_potentials : DefAt K mg "least_potentials" s_least_potentials ["trades", "numbers"])
    (d_told_reduction : DefAt K mg "told_reduction" s_told_reduction ["trades"])
    (d_greatest_reduction : DefAt K mg "greatest_reduction" s_greatest_reduction ["trades"])
    (d_is_reduction : DefAt K mg "is_reduction" s_is_reduction ["trades", "numbers"])
    (d_overhangs : DefAt K mg "overhangs" s_overhangs ["trades", "numbers"])
    (d_even_out : DefAt K mg "even_out" s_even_out ["trades", "numbers"])
    (d_prefer_low_keys : DefAt K mg "prefer_low_keys" s_prefer_low_keys ["trades", "numbers"])
    (d_raise_number : DefAt K mg "raise_number" s_raise_number ["trades", "numbers", "place", "places"])
    (d_Trade_init : MakeAt K mg "Trade" TC "Trade.__init__" s_Trade_init ["self", "giver", "to", "amount", "least"])
    (d_room : MethAt K TC "room" "Trade.room" s_room ["self"])
    (d_House_init : MakeAt K mg "House" HC "House.__init__" s_House_init ["self"])
    (d_has : MethAt K HC "has" "House.has" s_has ["self", "key"])
    (d_entry : MethAt K HC "entry" "House.entry" s_entry ["self", "key"])
    (d_order : MethAt K HC "order" "House.order" s_order ["self"])
    (d_listed : MethAt K HC "listed" "House.listed" s_listed ["self"])
    (d_members : MethAt K HC "members" "House.members" s_members ["self"])
    (d_takes_in : MethAt K HC "takes_in" "House.takes_in" s_takes_in ["self", "giver", "to"])
    (d_enter : MethAt K HC "enter" "House.enter" s_enter ["self", "key", "giver", "to", "amount", "least"])
    (d_strike : MethAt K HC "strike" "House.strike" s_strike ["self", "key"])
    (d_set_least : MethAt K HC "set_least" "House.set_least" s_set_least ["self", "key", "least"])
    (d_lessen : MethAt K HC "lessen" "House.lessen" s_lessen ["self", "numbers"])
    (d_rooms : MethAt K HC "rooms" "House.rooms" s_rooms ["self"])
    (d_reduction : MethAt K HC "reduction" "House.reduction" s_reduction ["self"])
    (d_allows : MethAt K HC "allows" "House.allows" s_allows ["self", "numbers"])
    (d_greatest_with : MethAt K HC "greatest_with" "House.greatest_with" s_greatest_with ["self", "key", "room"])
    (d_potentials : MethAt K HC "potentials" "House.potentials" s_potentials ["self"])
    (d_bound : MethAt K HC "bound" "House.bound" s_bound ["self", "potentials"])
    (d_worth : MethAt K HC "worth" "House.worth" s_worth ["self", "key"])
    (d_room_between : MethAt K HC "room_between" "House.room_between" s_room_between ["self", "giver", "to"])
    (d_cancelled_between : MethAt K HC "cancelled_between" "House.cancelled_between" s_cancelled_between ["self", "one", "other"])
    (d_answers : DefAt K mg "answers" s_answers ["calls"])
    (d_read_arguments : DefAt K mg "read_arguments" s_read_arguments ["calls", "place", "shape"])
    (e_0 : mg "answer_trade" = some (.ref f0))
    (e_1 : mg "answer_drop" = some (.ref f1))
    (e_2 : mg "answer_floor" = some (.ref f2))
    (e_3 : mg "answer_take" = some (.ref f3))
    (e_4 : mg "answer_apply" = some (.ref f4))
    (e_5 : mg "answer_net" = some (.ref f5))
    (e_6 : mg "answer_gross" = some (.ref f6))
    (e_7 : mg "answer_greatest" = some (.ref f7))
    (e_8 : mg "answer_told" = some (.ref f8))
    (e_9 : mg "answer_isone" = some (.ref f9))
    (e_10 : mg "answer_bound" = some (.ref f10))
    (e_11 : mg "answer_potentials" = some (.ref f11))
    (e_12 : mg "answer_proves" = some (.ref f12))
    (e_13 : mg "answer_without" = some (.ref f13))
    (e_14 : mg "answer_pairs" = some (.ref f14))
    (e_15 : mg "answer_worth" = some (.ref f15))
    (e_16 : mg "answer_members" = some (.ref f16))
    (e_17 : mg "answer_trades" = some (.ref f17))
    (e_18 : mg "answer_between" = some (.ref f18))
    : Ds K mg TC HC [(t0, f0), (t1, f1), (t2, f2), (t3, f3), (t4, f4), (t5, f5), (t6, f6), (t7, f7), (t8, f8), (t9, f9), (t10, f10), (t11, f11), (t12, f12), (t13, f13), (t14, f14), (t15, f15), (t16, f16), (t17, f17), (t18, f18)] := ⟨d_within, d_numbers_for_trades, d_potentials_for_members, d_answer_trade, d_answer_drop, d_answer_floor, d_answer_take, d_answer_apply, d_answer_net, d_answer_gross, d_answer_greatest, d_answer_told, d_answer_isone, d_answer_bound, d_answer_potentials, d_answer_proves, d_answer_without, d_answer_pairs, d_answer_worth, d_answer_members, d_answer_trades, d_answer_between, d_shape_of, d_answer_call, d_moves_of, d_shortest_ways, d_gain_of, d_way_to, d_leeway, d_shift, d_members_of, d_worth_of, d_bound_of, d_least_potentials, d_told_reduction, d_greatest_reduction, d_is_reduction, d_overhangs, d_even_out, d_prefer_low_keys, d_raise_number, d_Trade_init, d_room, d_House_init, d_has, d_entry, d_order, d_listed, d_members, d_takes_in, d_enter, d_strike, d_set_least, d_lessen, d_rooms, d_reduction, d_allows, d_greatest_with, d_potentials, d_bound, d_worth, d_room_between, d_cancelled_between, d_answers, d_read_arguments, fun r hr => by obtain rfl := Option.some.inj hr; exact e_0, fun r hr => by obtain rfl := Option.some.inj hr; exact e_1, fun r hr => by obtain rfl := Option.some.inj hr; exact e_2, fun r hr => by obtain rfl := Option.some.inj hr; exact e_3, fun r hr => by obtain rfl := Option.some.inj hr; exact e_4, fun r hr => by obtain rfl := Option.some.inj hr; exact e_5, fun r hr => by obtain rfl := Option.some.inj hr; exact e_6, fun r hr => by obtain rfl := Option.some.inj hr; exact e_7, fun r hr => by obtain rfl := Option.some.inj hr; exact e_8, fun r hr => by obtain rfl := Option.some.inj hr; exact e_9, fun r hr => by obtain rfl := Option.some.inj hr; exact e_10, fun r hr => by obtain rfl := Option.some.inj hr; exact e_11, fun r hr => by obtain rfl := Option.some.inj hr; exact e_12, fun r hr => by obtain rfl := Option.some.inj hr; exact e_13, fun r hr => by obtain rfl := Option.some.inj hr; exact e_14, fun r hr => by obtain rfl := Option.some.inj hr; exact e_15, fun r hr => by obtain rfl := Option.some.inj hr; exact e_16, fun r hr => by obtain rfl := Option.some.inj hr; exact e_17, fun r hr => by obtain rfl := Option.some.inj hr; exact e_18⟩
end
theorem asked_is {l : List Int} (h : PyVbchad.answers_asked l = true) : ∃ raw, PyFlat.calls PyVbchad.shape l.length l = some raw ∧ raw.length ≤ 400 ∧ (∀ c, c ∈ raw → PyInside.call PyVbchad.bound c = true) ∧
    PyVbchad.answers l = PyFlat.told (PyFlat.played VbchadNeutral.step VbchadNeutral.start (raw.map PyVbchad.whole)) := by
  unfold PyVbchad.answers_asked at h
  cases e : PyFlat.calls PyVbchad.shape l.length l with
  | none =>
    rw [e] at h
    cases h
  | some raw =>
    rw [e] at h
    have h2 : (!raw.isEmpty && PyFlat.atMost 400 raw && PyInside.calls PyVbchad.bound raw && VbchadNeutral.asked (raw.map PyVbchad.whole) && PyFlat.short 10000000 (PyVbchad.answers l)) = true := h
    rw [Bool.and_eq_true, Bool.and_eq_true, Bool.and_eq_true, Bool.and_eq_true] at h2
    refine ⟨raw, rfl, of_decide_eq_true h2.1.1.1.2, fun c hc => List.all_eq_true.mp h2.1.1.2 c hc, ?_⟩
    unfold PyVbchad.answers PyVbchad.calls
    rw [e]
theorem tabs_nil {H : Hp} {Pt : Addr} (h : H Pt = some (.tbl #[])) : TT Pt H := fun p hp => by
  rw [List.mem_singleton.mp hp]
  exact TabS.nil h
end Vb
end

open PySem PySem.W PyProof.Rows
set_option maxHeartbeats 80000000 in
theorem PySem.Challenge.cw_smallertrades_s01_answers_holds : PySem.Challenge.rw_smallertrades_s01_answers.Holds := by
  w_on; k_headS; (case hw => exact ⟨[.list [.int 6]], by decide +kernel, by decide +kernel⟩)
  k_fillS
  refine Vb.walk_specT (r := PySem.Challenge.rw_smallertrades_s01_answers) (k := 11) (sp := Vb.spAnswers) (x := "even_out") (by decide +kernel) rfl ⟨rfl, by decide, by decide⟩ (by decide +kernel) (fun w h Y => PySem.W.kIn_of Y) ?F ?S
  case F =>
    intro w mg h Y KX G c Pt ev
    refine' Vb.use (PySem.W.mg_none_of (n := "len") KX G ?a) (fun m_len => ?_)
    (case a => k_is)
    refine' Vb.use (PySem.W.mg_none_of (n := "all") KX G ?a) (fun m_all => ?_)
    (case a => k_is)
    refine' Vb.use (PySem.W.mg_none_of (n := "any") KX G ?a) (fun m_any => ?_)
    (case a => k_is)
    refine' Vb.use (PySem.W.mg_none_of (n := "sum") KX G ?a) (fun m_sum => ?_)
    (case a => k_is)
    refine' Vb.use (PySem.W.mg_none_of (n := "min") KX G ?a) (fun m_min => ?_)
    (case a => k_is)
    refine' Vb.use (PySem.W.mg_none_of (n := "max") KX G ?a) (fun m_max => ?_)
    (case a => k_is)
    refine' Vb.use (PySem.W.mg_none_of (n := "sorted") KX G ?a) (fun m_sorted => ?_)
    (case a => k_is)
    refine' Vb.use (PySem.W.mg_none_of (n := "set") KX G ?a) (fun m_set => ?_)
    (case a => k_is)
    refine' Vb.use (PySem.W.mg_none_of (n := "list") KX G ?a) (fun m_list => ?_)
    (case a => k_is)
    refine' Vb.use (PySem.W.mg_none_of (n := "dict") KX G ?a) (fun m_dict => ?_)
    (case a => k_is)
    refine' Vb.use (PySem.W.mg_none_of (n := "range") KX G ?a) (fun m_range => ?_)
    (case a => k_is)
    refine' Vb.use (PySem.W.mg_none_of (n := "zip") KX G ?a) (fun m_zip => ?_)
    (case a => k_is)
    refine' Vb.use (PySem.W.mg_none_of (n := "enumerate") KX G ?a) (fun m_enumerate => ?_)
    (case a => k_is)
    refine' Vb.use (PySem.W.mg_of (n := "LOSS") KX G ?a) (fun c_LOSS => ?_)
    (case a => k_is)
    refine' Vb.use (PySem.W.mg_of (n := "MOST_MEMBERS") KX G ?a) (fun c_MOST_MEMBERS => ?_)
    (case a => k_is)
    refine' Vb.use (PySem.W.mg_of (n := "MOST_TRADES") KX G ?a) (fun c_MOST_TRADES => ?_)
    (case a => k_is)
    refine' Vb.use (PySem.W.mg_of (n := "NO_REDUCTION") KX G ?a) (fun c_NO_REDUCTION => ?_)
    (case a => k_is)
    refine' Vb.use (PySem.W.mg_of (n := "OUT_OF_RANGE") KX G ?a) (fun c_OUT_OF_RANGE => ?_)
    (case a => k_is)
    refine' Vb.use (PySem.W.mg_of (n := "UNFIT") KX G ?a) (fun c_UNFIT => ?_)
    (case a => k_is)
    refine' Vb.use (PySem.W.mg_of (n := "KEY_TAKEN") KX G ?a) (fun c_KEY_TAKEN => ?_)
    (case a => k_is)
    refine' Vb.use (PySem.W.mg_of (n := "FARTHEST_POTENTIAL") KX G ?a) (fun c_FARTHEST_POTENTIAL => ?_)
    (case a => k_is)
    refine' Vb.use (PySem.W.mg_of (n := "NO_PLACE") KX G ?a) (fun c_NO_PLACE => ?_)
    (case a => k_is)
    refine' Vb.use (PySem.W.mg_of (n := "NOT_THERE") KX G ?a) (fun c_NOT_THERE => ?_)
    (case a => k_is)
    refine' Vb.use (PySem.W.mg_of (n := "MOST") KX G ?a) (fun c_MOST => ?_)
    (case a => k_is)
    refine' Vb.use (Vb.mg_ref (x := "Trade") KX G ?a) (fun gT => ?_)
    (case a => k_is)
    refine' Vb.use (Vb.mg_ref (x := "House") KX G ?a) (fun gH => ?_)
    (case a => k_is)
    refine' Vb.use (Vb.mg_ref (x := "CALLS") KX G ?a) (fun gCA => ?_)
    (case a => k_is)
    refine' Vb.use (Vb.cls_mk KX gT ?pg ?hd ?po ?sa) (fun clT => ?_)
    (case pg => k_is); (case hd => k_is); (case po => k_is); (case sa => k_is)
    refine' Vb.use (Vb.cls_mk KX gH ?pg ?hd ?po ?sa) (fun clH => ?_)
    (case pg => k_is); (case hd => k_is); (case po => k_is); (case sa => k_is)
    refine' Vb.use (Vb.noAttr_mk KX gT "giver" ?a) (fun nT_giver => ?_)
    (case a => k_is)
    refine' Vb.use (Vb.noAttr_mk KX gT "to" ?a) (fun nT_to => ?_)
    (case a => k_is)
    refine' Vb.use (Vb.noAttr_mk KX gT "amount" ?a) (fun nT_amount => ?_)
    (case a => k_is)
    refine' Vb.use (Vb.noAttr_mk KX gT "least" ?a) (fun nT_least => ?_)
    (case a => k_is)
    refine' Vb.use (Vb.noAttr_mk KX gH "book" ?a) (fun nH_book => ?_)
    (case a => k_is)
    refine' Vb.use (Vb.noAttr_mk KX gH "kept" ?a) (fun nH_kept => ?_)
    (case a => k_is)
    have T : Vb.Tc _ mg _ _ := ⟨⟨m_len, m_all, m_any, m_sum, m_min, m_max, m_sorted, m_set, m_list, m_dict, m_range, m_zip, m_enumerate, ⟨_, c_LOSS, ⟨_, rfl⟩⟩, ⟨_, c_MOST_MEMBERS, ⟨_, rfl⟩⟩, ⟨_, c_MOST_TRADES, ⟨_, rfl⟩⟩, ⟨_, c_NO_REDUCTION, ⟨_, rfl⟩⟩, ⟨_, c_OUT_OF_RANGE, ⟨_, rfl⟩⟩, ⟨_, c_UNFIT, ⟨_, rfl⟩⟩, ⟨_, c_KEY_TAKEN, ⟨_, rfl⟩⟩, ⟨_, c_FARTHEST_POTENTIAL, ⟨_, rfl⟩⟩, ⟨_, c_NO_PLACE, ⟨_, rfl⟩⟩, ⟨_, c_NOT_THERE, ⟨_, rfl⟩⟩, ⟨_, c_MOST, ⟨_, rfl⟩⟩⟩, clT, clH, nT_giver, nT_to, nT_amount, nT_least, nH_book, nH_kept⟩
    refine' Vb.use (Vb.tk_mk KX T gCA ?l ?l0 ?l1 ?l2 ?l3 ?l4 ?l5 ?l6 ?l7 ?l8 ?l9 ?l10 ?l11 ?l12 ?l13 ?l14 ?l15 ?l16 ?l17 ?l18) (fun TK => ?_)
    (case l => k_is); (case l0 => k_is); (case l1 => k_is); (case l2 => k_is); (case l3 => k_is); (case l4 => k_is); (case l5 => k_is); (case l6 => k_is); (case l7 => k_is); (case l8 => k_is); (case l9 => k_is); (case l10 => k_is); (case l11 => k_is); (case l12 => k_is); (case l13 => k_is); (case l14 => k_is); (case l15 => k_is); (case l16 => k_is); (case l17 => k_is); (case l18 => k_is)
    refine' Vb.use (Vb.defAt_mk KX G Vb.bd_within ?a ?l ?c ?k) (fun d_within => ?_)
    (case a => k_is); (case l => k_is); (case c => k_is); (case k => k_is)
    refine' Vb.use (Vb.defAt_mk KX G Vb.bd_numbers_for_trades ?a ?l ?c ?k) (fun d_numbers_for_trades => ?_)
    (case a => k_is); (case l => k_is); (case c => k_is); (case k => k_is)
    refine' Vb.use (Vb.defAt_mk KX G Vb.bd_potentials_for_members ?a ?l ?c ?k) (fun d_potentials_for_members => ?_)
    (case a => k_is); (case l => k_is); (case c => k_is); (case k => k_is)
    refine' Vb.use (Vb.defAt_mk KX G Vb.bd_answer_trade ?a ?l ?c ?k) (fun d_answer_trade => ?_)
    (case a => k_is); (case l => k_is); (case c => k_is); (case k => k_is)
    refine' Vb.use (Vb.defAt_mk KX G Vb.bd_answer_drop ?a ?l ?c ?k) (fun d_answer_drop => ?_)
    (case a => k_is); (case l => k_is); (case c => k_is); (case k => k_is)
    refine' Vb.use (Vb.defAt_mk KX G Vb.bd_answer_floor ?a ?l ?c ?k) (fun d_answer_floor => ?_)
    (case a => k_is); (case l => k_is); (case c => k_is); (case k => k_is)
    refine' Vb.use (Vb.defAt_mk KX G Vb.bd_answer_take ?a ?l ?c ?k) (fun d_answer_take => ?_)
    (case a => k_is); (case l => k_is); (case c => k_is); (case k => k_is)
    refine' Vb.use (Vb.defAt_mk KX G Vb.bd_answer_apply ?a ?l ?c ?k) (fun d_answer_apply => ?_)
    (case a => k_is); (case l => k_is); (case c => k_is); (case k => k_is)
    refine' Vb.use (Vb.defAt_mk KX G Vb.bd_answer_net ?a ?l ?c ?k) (fun d_answer_net => ?_)
    (case a => k_is); (case l => k_is); (case c => k_is); (case k => k_is)
    refine' Vb.use (Vb.defAt_mk KX G Vb.bd_answer_gross ?a ?l ?c ?k) (fun d_answer_gross => ?_)
    (case a => k_is); (case l => k_is); (case c => k_is); (case k => k_is)
    refine' Vb.use (Vb.defAt_mk KX G Vb.bd_answer_greatest ?a ?l ?c ?k) (fun d_answer_greatest => ?_)
    (case a => k_is); (case l => k_is); (case c => k_is); (case k => k_is)
    refine' Vb.use (Vb.defAt_mk KX G Vb.bd_answer_told ?a ?l ?c ?k) (fun d_answer_told => ?_)
    (case a => k_is); (case l => k_is); (case c => k_is); (case k => k_is)
    refine' Vb.use (Vb.defAt_mk KX G Vb.bd_answer_isone ?a ?l ?c ?k) (fun d_answer_isone => ?_)
    (case a => k_is); (case l => k_is); (case c => k_is); (case k => k_is)
    refine' Vb.use (Vb.defAt_mk KX G Vb.bd_answer_bound ?a ?l ?c ?k) (fun d_answer_bound => ?_)
    (case a => k_is); (case l => k_is); (case c => k_is); (case k => k_is)
    refine' Vb.use (Vb.defAt_mk KX G Vb.bd_answer_potentials ?a ?l ?c ?k) (fun d_answer_potentials => ?_)
    (case a => k_is); (case l => k_is); (case c => k_is); (case k => k_is)
    refine' Vb.use (Vb.defAt_mk KX G Vb.bd_answer_proves ?a ?l ?c ?k) (fun d_answer_proves => ?_)
    (case a => k_is); (case l => k_is); (case c => k_is); (case k => k_is)
    refine' Vb.use (Vb.defAt_mk KX G Vb.bd_answer_without ?a ?l ?c ?k) (fun d_answer_without => ?_)
    (case a => k_is); (case l => k_is); (case c => k_is); (case k => k_is)
    refine' Vb.use (Vb.defAt_mk KX G Vb.bd_answer_pairs ?a ?l ?c ?k) (fun d_answer_pairs => ?_)
    (case a => k_is); (case l => k_is); (case c => k_is); (case k => k_is)
    refine' Vb.use (Vb.defAt_mk KX G Vb.bd_answer_worth ?a ?l ?c ?k) (fun d_answer_worth => ?_)
    (case a => k_is); (case l => k_is); (case c => k_is); (case k => k_is)
    refine' Vb.use (Vb.defAt_mk KX G Vb.bd_answer_members ?a ?l ?c ?k) (fun d_answer_members => ?_)
    (case a => k_is); (case l => k_is); (case c => k_is); (case k => k_is)
    refine' Vb.use (Vb.defAt_mk KX G Vb.bd_answer_trades ?a ?l ?c ?k) (fun d_answer_trades => ?_)
    (case a => k_is); (case l => k_is); (case c => k_is); (case k => k_is)
    refine' Vb.use (Vb.defAt_mk KX G Vb.bd_answer_between ?a ?l ?c ?k) (fun d_answer_between => ?_)
    (case a => k_is); (case l => k_is); (case c => k_is); (case k => k_is)
    refine' Vb.use (Vb.defAt_mk KX G Vb.bd_shape_of ?a ?l ?c ?k) (fun d_shape_of => ?_)
    (case a => k_is); (case l => k_is); (case c => k_is); (case k => k_is)
    refine' Vb.use (Vb.defAt_mk KX G Vb.bd_answer_call ?a ?l ?c ?k) (fun d_answer_call => ?_)
    (case a => k_is); (case l => k_is); (case c => k_is); (case k => k_is)
    refine' Vb.use (Vb.defAt_mk KX G Vb.bd_moves_of ?a ?l ?c ?k) (fun d_moves_of => ?_)
    (case a => k_is); (case l => k_is); (case c => k_is); (case k => k_is)
    refine' Vb.use (Vb.defAt_mk KX G Vb.bd_shortest_ways ?a ?l ?c ?k) (fun d_shortest_ways => ?_)
    (case a => k_is); (case l => k_is); (case c => k_is); (case k => k_is)
    refine' Vb.use (Vb.defAt_mk KX G Vb.bd_gain_of ?a ?l ?c ?k) (fun d_gain_of => ?_)
    (case a => k_is); (case l => k_is); (case c => k_is); (case k => k_is)
    refine' Vb.use (Vb.defAt_mk KX G Vb.bd_way_to ?a ?l ?c ?k) (fun d_way_to => ?_)
    (case a => k_is); (case l => k_is); (case c => k_is); (case k => k_is)
    refine' Vb.use (Vb.defAt_mk KX G Vb.bd_leeway ?a ?l ?c ?k) (fun d_leeway => ?_)
    (case a => k_is); (case l => k_is); (case c => k_is); (case k => k_is)
    refine' Vb.use (Vb.defAt_mk KX G Vb.bd_shift ?a ?l ?c ?k) (fun d_shift => ?_)
    (case a => k_is); (case l => k_is); (case c => k_is); (case k => k_is)
    refine' Vb.use (Vb.defAt_mk KX G Vb.bd_members_of ?a ?l ?c ?k) (fun d_members_of => ?_)
    (case a => k_is); (case l => k_is); (case c => k_is); (case k => k_is)
    refine' Vb.use (Vb.defAt_mk KX G Vb.bd_worth_of ?a ?l ?c ?k) (fun d_worth_of => ?_)
    (case a => k_is); (case l => k_is); (case c => k_is); (case k => k_is)
    refine' Vb.use (Vb.defAt_mk KX G Vb.bd_bound_of ?a ?l ?c ?k) (fun d_bound_of => ?_)
    (case a => k_is); (case l => k_is); (case c => k_is); (case k => k_is)
    refine' Vb.use (Vb.defAt_mk KX G Vb.bd_least_potentials ?a ?l ?c ?k) (fun d_least_potentials => ?_)
    (case a => k_is); (case l => k_is); (case c => k_is); (case k => k_is)
    refine' Vb.use (Vb.defAt_mk KX G Vb.bd_told_reduction ?a ?l ?c ?k) (fun d_told_reduction => ?_)
    (case a => k_is); (case l => k_is); (case c => k_is); (case k => k_is)
    refine' Vb.use (Vb.defAt_mk KX G Vb.bd_greatest_reduction ?a ?l ?c ?k) (fun d_greatest_reduction => ?_)
    (case a => k_is); (case l => k_is); (case c => k_is); (case k => k_is)
    refine' Vb.use (Vb.defAt_mk KX G Vb.bd_is_reduction ?a ?l ?c ?k) (fun d_is_reduction => ?_)
    (case a => k_is); (case l => k_is); (case c => k_is); (case k => k_is)
    refine' Vb.use (Vb.defAt_mk KX G Vb.bd_overhangs ?a ?l ?c ?k) (fun d_overhangs => ?_)
    (case a => k_is); (case l => k_is); (case c => k_is); (case k => k_is)
    refine' Vb.use (Vb.defAt_mk KX G Vb.bd_even_out ?a ?l ?c ?k) (fun d_even_out => ?_)
    (case a => k_is); (case l => k_is); (case c => k_is); (case k => k_is)
    refine' Vb.use (Vb.defAt_mk KX G Vb.bd_prefer_low_keys ?a ?l ?c ?k) (fun d_prefer_low_keys => ?_)
    (case a => k_is); (case l => k_is); (case c => k_is); (case k => k_is)
    refine' Vb.use (Vb.defAt_mk KX G Vb.bd_raise_number ?a ?l ?c ?k) (fun d_raise_number => ?_)
    (case a => k_is); (case l => k_is); (case c => k_is); (case k => k_is)
    refine' Vb.use (Vb.mak_mk KX gT Vb.bd_Trade_init ?a ?i ?l ?c ?k ?mk ?kc) (fun d_Trade_init => ?_)
    (case a => k_is); (case i => k_is); (case l => k_is); (case c => k_is); (case k => k_is); (case mk => k_is); (case kc => k_is)
    refine' Vb.use (Vb.meth_mk KX gT Vb.bd_room ?a ?i ?l ?c ?k) (fun d_room => ?_)
    (case a => k_is); (case i => k_is); (case l => k_is); (case c => k_is); (case k => k_is)
    refine' Vb.use (Vb.mak_mk KX gH Vb.bd_House_init ?a ?i ?l ?c ?k ?mk ?kc) (fun d_House_init => ?_)
    (case a => k_is); (case i => k_is); (case l => k_is); (case c => k_is); (case k => k_is); (case mk => k_is); (case kc => k_is)
    refine' Vb.use (Vb.meth_mk KX gH Vb.bd_has ?a ?i ?l ?c ?k) (fun d_has => ?_)
    (case a => k_is); (case i => k_is); (case l => k_is); (case c => k_is); (case k => k_is)
    refine' Vb.use (Vb.meth_mk KX gH Vb.bd_entry ?a ?i ?l ?c ?k) (fun d_entry => ?_)
    (case a => k_is); (case i => k_is); (case l => k_is); (case c => k_is); (case k => k_is)
    refine' Vb.use (Vb.meth_mk KX gH Vb.bd_order ?a ?i ?l ?c ?k) (fun d_order => ?_)
    (case a => k_is); (case i => k_is); (case l => k_is); (case c => k_is); (case k => k_is)
    refine' Vb.use (Vb.meth_mk KX gH Vb.bd_listed ?a ?i ?l ?c ?k) (fun d_listed => ?_)
    (case a => k_is); (case i => k_is); (case l => k_is); (case c => k_is); (case k => k_is)
    refine' Vb.use (Vb.meth_mk KX gH Vb.bd_members ?a ?i ?l ?c ?k) (fun d_members => ?_)
    (case a => k_is); (case i => k_is); (case l => k_is); (case c => k_is); (case k => k_is)
    refine' Vb.use (Vb.meth_mk KX gH Vb.bd_takes_in ?a ?i ?l ?c ?k) (fun d_takes_in => ?_)
    (case a => k_is); (case i => k_is); (case l => k_is); (case c => k_is); (case k => k_is)
    refine' Vb.use (Vb.meth_mk KX gH Vb.bd_enter ?a ?i ?l ?c ?k) (fun d_enter => ?_)
    (case a => k_is); (case i => k_is); (case l => k_is); (case c => k_is); (case k => k_is)
    refine' Vb.use (Vb.meth_mk KX gH Vb.bd_strike ?a ?i ?l ?c ?k) (fun d_strike => ?_)
    (case a => k_is); (case i => k_is); (case l => k_is); (case c => k_is); (case k => k_is)
    refine' Vb.use (Vb.meth_mk KX gH Vb.bd_set_least ?a ?i ?l ?c ?k) (fun d_set_least => ?_)
    (case a => k_is); (case i => k_is); (case l => k_is); (case c => k_is); (case k => k_is)
    refine' Vb.use (Vb.meth_mk KX gH Vb.bd_lessen ?a ?i ?l ?c ?k) (fun d_lessen => ?_)
    (case a => k_is); (case i => k_is); (case l => k_is); (case c => k_is); (case k => k_is)
    refine' Vb.use (Vb.meth_mk KX gH Vb.bd_rooms ?a ?i ?l ?c ?k) (fun d_rooms => ?_)
    (case a => k_is); (case i => k_is); (case l => k_is); (case c => k_is); (case k => k_is)
    refine' Vb.use (Vb.meth_mk KX gH Vb.bd_reduction ?a ?i ?l ?c ?k) (fun d_reduction => ?_)
    (case a => k_is); (case i => k_is); (case l => k_is); (case c => k_is); (case k => k_is)
    refine' Vb.use (Vb.meth_mk KX gH Vb.bd_allows ?a ?i ?l ?c ?k) (fun d_allows => ?_)
    (case a => k_is); (case i => k_is); (case l => k_is); (case c => k_is); (case k => k_is)
    refine' Vb.use (Vb.meth_mk KX gH Vb.bd_greatest_with ?a ?i ?l ?c ?k) (fun d_greatest_with => ?_)
    (case a => k_is); (case i => k_is); (case l => k_is); (case c => k_is); (case k => k_is)
    refine' Vb.use (Vb.meth_mk KX gH Vb.bd_potentials ?a ?i ?l ?c ?k) (fun d_potentials => ?_)
    (case a => k_is); (case i => k_is); (case l => k_is); (case c => k_is); (case k => k_is)
    refine' Vb.use (Vb.meth_mk KX gH Vb.bd_bound ?a ?i ?l ?c ?k) (fun d_bound => ?_)
    (case a => k_is); (case i => k_is); (case l => k_is); (case c => k_is); (case k => k_is)
    refine' Vb.use (Vb.meth_mk KX gH Vb.bd_worth ?a ?i ?l ?c ?k) (fun d_worth => ?_)
    (case a => k_is); (case i => k_is); (case l => k_is); (case c => k_is); (case k => k_is)
    refine' Vb.use (Vb.meth_mk KX gH Vb.bd_room_between ?a ?i ?l ?c ?k) (fun d_room_between => ?_)
    (case a => k_is); (case i => k_is); (case l => k_is); (case c => k_is); (case k => k_is)
    refine' Vb.use (Vb.meth_mk KX gH Vb.bd_cancelled_between ?a ?i ?l ?c ?k) (fun d_cancelled_between => ?_)
    (case a => k_is); (case i => k_is); (case l => k_is); (case c => k_is); (case k => k_is)
    refine' Vb.use (Vb.defAt_mk KX G Vb.bd_answers ?a ?l ?c ?k) (fun d_answers => ?_)
    (case a => k_is); (case l => k_is); (case c => k_is); (case k => k_is)
    refine' Vb.use (Vb.defAt_mk KX G Vb.bd_read_arguments ?a ?l ?c ?k) (fun d_read_arguments => ?_)
    (case a => k_is); (case l => k_is); (case c => k_is); (case k => k_is)
    refine' Vb.use (Vb.mg_ref (x := "answer_trade") KX G ?a) (fun e_0 => ?_)
    (case a => k_is)
    refine' Vb.use (Vb.mg_ref (x := "answer_drop") KX G ?a) (fun e_1 => ?_)
    (case a => k_is)
    refine' Vb.use (Vb.mg_ref (x := "answer_floor") KX G ?a) (fun e_2 => ?_)
    (case a => k_is)
    refine' Vb.use (Vb.mg_ref (x := "answer_take") KX G ?a) (fun e_3 => ?_)
    (case a => k_is)
    refine' Vb.use (Vb.mg_ref (x := "answer_apply") KX G ?a) (fun e_4 => ?_)
    (case a => k_is)
    refine' Vb.use (Vb.mg_ref (x := "answer_net") KX G ?a) (fun e_5 => ?_)
    (case a => k_is)
    refine' Vb.use (Vb.mg_ref (x := "answer_gross") KX G ?a) (fun e_6 => ?_)
    (case a => k_is)
    refine' Vb.use (Vb.mg_ref (x := "answer_greatest") KX G ?a) (fun e_7 => ?_)
    (case a => k_is)
    refine' Vb.use (Vb.mg_ref (x := "answer_told") KX G ?a) (fun e_8 => ?_)
    (case a => k_is)
    refine' Vb.use (Vb.mg_ref (x := "answer_isone") KX G ?a) (fun e_9 => ?_)
    (case a => k_is)
    refine' Vb.use (Vb.mg_ref (x := "answer_bound") KX G ?a) (fun e_10 => ?_)
    (case a => k_is)
    refine' Vb.use (Vb.mg_ref (x := "answer_potentials") KX G ?a) (fun e_11 => ?_)
    (case a => k_is)
    refine' Vb.use (Vb.mg_ref (x := "answer_proves") KX G ?a) (fun e_12 => ?_)
    (case a => k_is)
    refine' Vb.use (Vb.mg_ref (x := "answer_without") KX G ?a) (fun e_13 => ?_)
    (case a => k_is)
    refine' Vb.use (Vb.mg_ref (x := "answer_pairs") KX G ?a) (fun e_14 => ?_)
    (case a => k_is)
    refine' Vb.use (Vb.mg_ref (x := "answer_worth") KX G ?a) (fun e_15 => ?_)
    (case a => k_is)
    refine' Vb.use (Vb.mg_ref (x := "answer_members") KX G ?a) (fun e_16 => ?_)
    (case a => k_is)
    refine' Vb.use (Vb.mg_ref (x := "answer_trades") KX G ?a) (fun e_17 => ?_)
    (case a => k_is)
    refine' Vb.use (Vb.mg_ref (x := "answer_between") KX G ?a) (fun e_18 => ?_)
    (case a => k_is)
    have D := Vb.ds_mk TK d_within d_numbers_for_trades d_potentials_for_members d_answer_trade d_answer_drop d_answer_floor d_answer_take d_answer_apply d_answer_net d_answer_gross d_answer_greatest d_answer_told d_answer_isone d_answer_bound d_answer_potentials d_answer_proves d_answer_without d_answer_pairs d_answer_worth d_answer_members d_answer_trades d_answer_between d_shape_of d_answer_call d_moves_of d_shortest_ways d_gain_of d_way_to d_leeway d_shift d_members_of d_worth_of d_bound_of d_least_potentials d_told_reduction d_greatest_reduction d_is_reduction d_overhangs d_even_out d_prefer_low_keys d_raise_number d_Trade_init d_room d_House_init d_has d_entry d_order d_listed d_members d_takes_in d_enter d_strike d_set_least d_lessen d_rooms d_reduction d_allows d_greatest_with d_potentials d_bound d_worth d_room_between d_cancelled_between d_answers d_read_arguments e_0 e_1 e_2 e_3 e_4 e_5 e_6 e_7 e_8 e_9 e_10 e_11 e_12 e_13 e_14 e_15 e_16 e_17 e_18
    refine' ⟨Vb.tab_out (st := Vb.s_even_out) KX G ev ?a ?l ?kc ?k11 ?kn, fun base hK hN TB => Vb.all_cal TK D (Vb.defCode_of KX d_even_out ev) TB⟩
    (case a => k_is); (case l => k_is); (case kc => k_is); (case k11 => rfl); (case kn => first | rfl | k_is)
  case S =>
    intro K H0 H Pt xs a hs ht hwi hask hx
    cases hx with
    | cons h1 h2 =>
      cases h2
      cases h1 with
      | lst hsq ha =>
        have e := L2.ints_dw a.1 _ ha
        subst e
        obtain ⟨raw, q1, q2, q3, q4⟩ := Vb.asked_is (show PyVbchad.answers_asked a.1 = true from hask)
        refine ⟨_, a.1, raw, rfl, hs.seq hsq, Vb.tabs_nil ht, q1, q2, q3, fun H' p hp => ?_⟩
        rw [← q4] at hp
        exact .lst (L2.SqL.of hp) (L2.dw_ints _)
