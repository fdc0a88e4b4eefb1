import PyProof.Rows.All
import Wide.All
import OpenK.AllK
import Wide.FinOn
import HandS.ForMost
import HandS.Exc
import HandS.ExcInit
import HandS.ExcField
import HandS.ExcIs
import KE.KExcIs
import HandS.IsInst
import HandS.CallSlots
import HandS.WordsExc
import HandS.Style
import HandS.Evl
import HandS.Property
import HandS.ClsMeth
import HandS.Deep
import HandS.IterVal
import HandS.OwnIter
import HandS.Conv
import KE.KOwnIter
import HandS.SortInts
import KE.KOpsOwn
import HandS.OwnEq
import HandS.SlotsOwn
import KE.DataCmp
import KE.SortData
import HandS.Walk
import HandS.Defaults
import HandS.MakeKwOnly
import HandS.Gcd
import HandS.Wide
import PySem.Challenge.RW_watchbeats_k68_floor_told
set_option Elab.async false
set_option linter.all false
set_option maxRecDepth 100000
set_option maxHeartbeats 4000000
/-! the floor of a bound, def by def -/
namespace Pf
open PySem L2 Evl

def topS (i : Nat) : Stmt := PySem.Challenge.pw_watchbeats_k68_floor_told.main.body.getD i (.Pass ⟨0, 0, 0, 0⟩)
abbrev s_BadNumber_init : Stmt := inClass (topS 5) 0
abbrev N_BadNumber_init : List Str := ["self", "name", "value"]
abbrev s_check_number : Stmt := topS 8
abbrev N_check_number : List Str := ["name", "number", "least", "most"]
abbrev s_check_looks : Stmt := topS 10
abbrev N_check_looks : List Str := ["looks", "most"]
abbrev s_Ratio_init : Stmt := inClass (topS 12) 1
abbrev N_Ratio_init : List Str := ["self", "top", "under", "shared"]
abbrev s_floor_bound : Stmt := topS 16
abbrev N_floor_bound : List Str := ["hours", "size", "stake", "looks"]
abbrev s_u_law_cell : Stmt := topS 18
abbrev N_u_law_cell : List Str := ["script", "k"]
abbrev s_u_law_draws : Stmt := topS 19
abbrev N_u_law_draws : List Str := ["cell", "salt", "menu", "found", "rest", "mixed", "k"]
abbrev s_u_law_gcd : Stmt := topS 20
abbrev N_u_law_gcd : List Str := ["a", "b"]
abbrev s_u_law_is_int : Stmt := topS 21
abbrev N_u_law_is_int : List Str := ["x"]
abbrev s_u_law_is_ratio : Stmt := topS 22
abbrev N_u_law_is_ratio : List Str := ["x"]
abbrev s_u_law_worth : Stmt := topS 23
abbrev N_u_law_worth : List Str := ["x", "top", "under"]
abbrev s_u_law_same : Stmt := topS 24
abbrev N_u_law_same : List Str := ["got", "due", "k"]
abbrev s_u_law_long : Stmt := topS 25
abbrev N_u_law_long : List Str := ["number", "times", "more", "k"]
abbrev s_u_law_hours : Stmt := topS 26
abbrev N_u_law_hours : List Str := ["numbers"]
abbrev s_u_law_size : Stmt := topS 27
abbrev N_u_law_size : List Str := ["numbers", "hours"]
abbrev s_u_law_stake : Stmt := topS 28
abbrev N_u_law_stake : List Str := ["numbers"]
abbrev s_u_law_floor : Stmt := topS 29
abbrev N_u_law_floor : List Str := ["hours", "size", "stake"]
abbrev s_u_law_refused : Stmt := topS 30
abbrev N_u_law_refused : List Str := ["given", "caught", "e"]
abbrev s_u_law_refused_by_base : Stmt := topS 31
abbrev N_u_law_refused_by_base : List Str := ["given", "caught", "e"]
abbrev s_u_law_faulty : Stmt := topS 32
abbrev N_u_law_faulty : List Str := ["good", "mask", "far", "names", "given", "wrong", "due", "k"]
abbrev s_law : Stmt := topS 33
abbrev N_law : List Str := ["script", "hours", "size", "stake", "looked", "faults"]

theorem some_int {ns : List Int} {i : Nat} {y : V} (h : (ns.map V.int)[i]? = some y) : ∃ u, y = V.int u ∧ ns[i]? = some u := by
  rw [List.getElem?_map] at h
  cases e : ns[i]? with
  | none => rw [e] at h; cases h
  | some u => rw [e] at h; exact ⟨u, (Option.some.inj h).symm, rfl⟩
theorem wayT {c A B : Prop} [Decidable c] (h : c) (a : A) : if decide c = true then A else B := by rw [decide_eq_true h]; exact iteT a
theorem wayF {c A B : Prop} [Decidable c] (h : ¬ c) (b : B) : if decide c = true then A else B := by rw [decide_eq_false h]; exact iteF b
theorem way {c A B : Prop} [Decidable c] (a : c → A) (b : ¬ c → B) : if decide c = true then A else B := by
  by_cases h : c
  · exact wayT h (a h)
  · exact wayF h (b h)
theorem wayNT {c A B : Prop} [Decidable c] (h : c) (b : B) : if (!decide c) = true then A else B := by rw [decide_eq_true h]; exact iteF b
theorem wayNF {c A B : Prop} [Decidable c] (h : ¬ c) (a : A) : if (!decide c) = true then A else B := by rw [decide_eq_false h]; exact iteT a
theorem dec_ii {a b : Int} : decide (V.int a = V.int b) = decide (a = b) := by simp
theorem dec_bb {a b : Bool} : decide (V.bl a = V.bl b) = decide (a = b) := by simp
/-- the ints that a comprehension over a range gives -/
def pick (n : Nat) (f : Nat → Bool) (g : Nat → Int) : List Int := ((List.range n).filter f).map g
theorem given_pick (n : Nat) (f : Nat → Bool) (g : Nat → Int) : given n f (fun i => V.int (g i)) = (pick n f g).map V.int := by
  unfold given pick
  rw [List.map_map]
  rfl
theorem pick_len (n : Nat) (f : Nat → Bool) (g : Nat → Int) : (pick n f g).length ≤ n := by
  unfold pick
  rw [List.length_map]
  have := List.length_filter_le f (List.range n)
  rwa [List.length_range] at this
theorem pick_congr {n : Nat} {f f' : Nat → Bool} {g : Nat → Int} (h : ∀ i, i < n → f i = f' i) : pick n f g = pick n f' g := by
  unfold pick
  rw [List.filter_congr fun i hi => h i (List.mem_range.mp hi)]
theorem el_rng2 {σ : L2.St} {H : Hp} {te : TE} {tt : TT} {ta : TA} {j : Nat} {vs : List Nat} {lo hi : Int} (f : Nat → Bool) (v : Nat → V) (h : EvA ta σ H [.int lo, .int hi]) (hn : 0 ≤ lo ∧ lo ≤ 40000 ∧ -40000 ≤ hi ∧ hi ≤ 40000)
    (hw : ∀ x, wipe ((wipe σ vs).set j (some x)) vs = wipe σ vs)
    (ht : ∀ (i : Nat) H1, Ex H H1 → lo + (i : Int) < hi → EvT tt ((wipe σ vs).set j (some (.int (lo + (i : Int))))) H1 (f i))
    (he : ∀ (i : Nat) H1, Ex H H1 → lo + (i : Int) < hi → f i = true → Ev te ((wipe σ vs).set j (some (.int (lo + (i : Int))))) H1 (v i)) :
    EvL (tLc (iRng2 ta) (gName j) tt te vs) σ H (given (hi - lo).toNat f v) := by
  intro H0 e Q q
  refine h H0 e _ fun H1 e1 => ⟨lo, hi, rfl, ⟨by omega, by omega, by omega, by omega⟩, fun D hD => ?_⟩
  exact lc_range (lo := lo) (n := (hi - lo).toNat) (Cw H1 f v D) ⟨hD, Ex.new hD, upd_same⟩
    (fun i H' hi' p => ⟨hw _, cw_turn p (by omega) (ht i H1 (e.trans e1) (by omega)) (fun hf => he i H1 (e.trans e1) (by omega) hf)⟩)
    (fun H' p => q D H' (fresh_back e1 p.1) (e1.trans p.2.1) p.2.2)
theorem given_list (xs : List Int) (p : Int → Bool) : given (xs.map V.int).length (fun i => p (xs.getD i 0)) (fun i => V.int (xs.getD i 0)) = (xs.filter p).map V.int := by
  rw [List.length_map]
  induction xs with
  | nil => rfl
  | cons x xs ih =>
    unfold given at ih ⊢
    rw [List.length_cons, List.range_succ_eq_map, List.filter_cons, List.filter_map]
    have e : ∀ (z : List Nat), (z.filter ((fun i => p ((x :: xs).getD i 0)) ∘ Nat.succ)) = z.filter fun i => p (xs.getD i 0) := fun z => List.filter_congr fun i _ => by simp
    rw [e]
    by_cases hp : p x = true
    · rw [if_pos (by simpa using hp), List.filter_cons, if_pos hp, List.map_cons, List.map_cons, ← ih, List.map_map]
      simp
    · rw [if_neg (by simpa using hp), List.filter_cons, if_neg hp, ← ih, List.map_map]
      simp
theorem el_lst1 {K : PySem.W.Frag} {σ : L2.St} {H : Hp} {te tl : TE} {tt : TT} {j : Nat} {vs : List Nat} {a : Addr} (xs : List Int) (p : Int → Bool) (h : Ev tl σ H (.ref a)) (hx : SqL K H a (xs.map V.int)) (hz : xs.length ≤ 40000)
    (hw : ∀ x, wipe ((wipe σ vs).set j (some x)) vs = wipe σ vs)
    (ht : ∀ (x : Int) H1, Ex H H1 → x ∈ xs → EvT tt ((wipe σ vs).set j (some (.int x))) H1 (p x))
    (he : ∀ (x : Int) H1, Ex H H1 → x ∈ xs → Ev te ((wipe σ vs).set j (some (.int x))) H1 (.int x)) :
    EvL (tLc (iList K tl) (gName j) tt te vs) σ H ((xs.filter p).map V.int) := by
  rw [← given_list]
  have get : ∀ (i : Nat) (x : V), (xs.map V.int)[i]? = some x → x = .int (xs.getD i 0) ∧ xs.getD i 0 ∈ xs := fun i x hi => by
    obtain ⟨u, e, hu⟩ := some_int hi
    rw [List.getD_eq_getElem?_getD, hu]
    exact ⟨e, List.mem_of_getElem? hu⟩
  refine el_lcL _ _ h hx (by rw [List.length_map]; exact hz) hw (fun i x H1 e1 hi => ?_) (fun i x H1 e1 hi _ => ?_)
  · obtain ⟨rfl, hm⟩ := get i x hi
    exact ht _ H1 e1 hm
  · obtain ⟨rfl, hm⟩ := get i x hi
    exact he _ H1 e1 hm
theorem given_gen {α : Type} (d : α) (ps : List α) (p : α → Bool) (v : α → V) : given ps.length (fun i => p (ps.getD i d)) (fun i => v (ps.getD i d)) = (ps.filter p).map v := by
  induction ps with
  | nil => rfl
  | cons x xs ih =>
    unfold given at ih ⊢
    rw [List.length_cons, List.range_succ_eq_map, List.filter_cons, List.filter_map]
    have e : ∀ (z : List Nat), (z.filter ((fun i => p ((x :: xs).getD i d)) ∘ Nat.succ)) = z.filter fun i => p (xs.getD i d) := fun z => List.filter_congr fun i _ => by simp
    rw [e]
    by_cases hp : p x = true
    · rw [if_pos (by simpa using hp), List.filter_cons, if_pos hp, List.map_cons, List.map_cons, ← ih, List.map_map]
      simp
    · rw [if_neg (by simpa using hp), List.filter_cons, if_neg hp, ← ih, List.map_map]
      simp
/-- a comprehension over a list whose items stand for the things of ps, the target of any form -/
theorem el_lstG {α : Type} (d : α) {K : PySem.W.Frag} {σ : L2.St} {H : Hp} {te tl : TE} {tt : TT} {g : TG} {vs : List Nat} {a : Addr} (xs : List V) (ps : List α) (p : α → Bool) (v : α → V) (τ : α → L2.St)
    (h : Ev tl σ H (.ref a)) (hx : SqL K H a xs) (hl : xs.length = ps.length) (hz : ps.length ≤ 40000)
    (hg : ∀ (i : Nat) x y H1 (k : L2.St → Hp → Prop), Ex H H1 → xs[i]? = some x → ps[i]? = some y → k (τ y) H1 → g x (wipe σ vs) H1 k)
    (hw : ∀ y, wipe (τ y) vs = wipe σ vs) (ht : ∀ y H1, Ex H H1 → y ∈ ps → EvT tt (τ y) H1 (p y)) (he : ∀ y H1, Ex H H1 → y ∈ ps → p y = true → Ev te (τ y) H1 (v y)) :
    EvL (tLc (iList K tl) g tt te vs) σ H ((ps.filter p).map v) := by
  rw [← given_gen d ps p v]
  intro H0 e0 Q q
  refine h H0 e0 _ fun H1 e1 => ⟨a, rfl, ⟨xs, ex_l (e0.trans e1) hx⟩, fun D hD => ?_⟩
  refine lc_list (xs := xs) (Cw H1 (fun i => p (ps.getD i d)) (fun i => v (ps.getD i d)) D) ⟨hD, Ex.new hD, upd_same⟩ (fun i H' _ c => ex_l ((e0.trans e1).trans c.2.1) hx) (fun i x H' hi c => ?_)
    (fun H' c => by rw [hl] at c; exact q D H' (fresh_back e1 c.1) (e1.trans c.2.1) c.2.2)
  have hil : i < ps.length := by
    have := (List.getElem?_eq_some_iff.mp hi).1
    omega
  have hy : ps[i]? = some (ps.getD i d) := by rw [List.getD_eq_getElem?_getD, List.getElem?_eq_getElem hil]; rfl
  refine hg i x _ H' _ ((e0.trans e1).trans c.2.1) hi hy ⟨hw _, ?_⟩
  exact cw_turn c (by omega) (ht _ H1 (e0.trans e1) (List.mem_of_getElem? hy)) (fun hf => he _ H1 (e0.trans e1) (List.mem_of_getElem? hy) hf)
/-- an if without else, then what follows where M holds -/
theorem q_alt {b : Bool} {t : TT} {tu tz : TS} {D : Ends} {σ : L2.St} {H : Hp} (M : L2.St → Hp → Prop) (h : EvT t σ H b) (h1 : b = true → ∀ H1, Ex H H1 → ∀ W : L2.St → Hp → Prop, (∀ σ' H', M σ' H' → W σ' H') → tu { D with nx := W } σ H1)
    (h2 : b = false → ∀ H1, Ex H H1 → M σ H1) (k : ∀ σ' H', M σ' H' → tz D σ' H') : tSeq (tIfS t tu tNext) tz D σ H :=
  q_when h (fun hb H1 e1 => h1 hb H1 e1 _ k) (fun hb H1 e1 => k _ _ (h2 hb H1 e1))
theorem q_two {b : Bool} {t : TT} {tu tw tz : TS} {D : Ends} {σ : L2.St} {H : Hp} (M : L2.St → Hp → Prop) (h : EvT t σ H b) (h1 : b = true → ∀ H1, Ex H H1 → ∀ W : L2.St → Hp → Prop, (∀ σ' H', M σ' H' → W σ' H') → tu { D with nx := W } σ H1)
    (h2 : b = false → ∀ H1, Ex H H1 → ∀ W : L2.St → Hp → Prop, (∀ σ' H', M σ' H' → W σ' H') → tw { D with nx := W } σ H1) (k : ∀ σ' H', M σ' H' → tz D σ' H') : tSeq (tIfS t tu tw) tz D σ H :=
  q_if h (fun hb H1 e1 => h1 hb H1 e1 _ k) (fun hb H1 e1 => h2 hb H1 e1 _ k)
/-- .. over a list that was just made -/
theorem el_lstN {α : Type} (d : α) {K : PySem.W.Frag} {σ : L2.St} {H : Hp} {te tl : TE} {tt : TT} {g : TG} {vs : List Nat} (xs : List V) (ps : List α) (p : α → Bool) (v : α → V) (τ : α → L2.St)
    (h : EvL tl σ H xs) (hl : xs.length = ps.length) (hz : ps.length ≤ 40000) (hg : ∀ (i : Nat) x y H1 (k : L2.St → Hp → Prop), Ex H H1 → xs[i]? = some x → ps[i]? = some y → k (τ y) H1 → g x (wipe σ vs) H1 k)
    (hw : ∀ y, wipe (τ y) vs = wipe σ vs) (ht : ∀ y H1, Ex H H1 → y ∈ ps → EvT tt (τ y) H1 (p y)) (he : ∀ y H1, Ex H H1 → y ∈ ps → p y = true → Ev te (τ y) H1 (v y)) :
    EvL (tLc (iList K tl) g tt te vs) σ H ((ps.filter p).map v) := by
  intro H0 e0 Q q
  refine h H0 e0 _ fun a H1 ha e1 h1 => ?_
  refine el_lstG (K := K) (te := te) (tl := tC (.ref a)) (tt := tt) (g := g) (vs := vs) (σ := σ) (H := H1) d xs ps p v τ ev_c (sq_of h1) hl hz (fun i x y H2 k e2 => hg i x y H2 k ((e0.trans e1).trans e2)) hw (fun y H2 e2 => ht y H2 ((e0.trans e1).trans e2)) (fun y H2 e2 => he y H2 ((e0.trans e1).trans e2)) H1 (Ex.refl _) Q fun b H2 hb e2 h2 => q b H2 (fresh_back e1 hb) (e1.trans e2) h2
theorem pick_succ {n : Nat} {f : Nat → Bool} {g : Nat → Int} : pick (n + 1) f g = pick n f g ++ (if f n = true then [g n] else []) := by
  unfold pick
  rw [List.range_succ, List.filter_append, List.map_append, List.filter_cons]
  by_cases h : f n = true
  · rw [if_pos h, if_pos h]; rfl
  · rw [if_neg h, if_neg h]; rfl
theorem ev_gcd {σ : L2.St} {H : Hp} {ta : TA} {a b : Int} (h : EvA ta σ H [.int a, .int b]) : Ev (tCB rGcd ta) σ H (.int ((Nat.gcd a.natAbs b.natAbs : Nat) : Int)) :=
  ev_cb h fun H1 _ _ q => ⟨a, b, rfl, q H1 (Ex.refl H1)⟩
/-! ### rules whose reading says K by its own letter (within a comprehension's block too) -/
theorem ix_lK {X : Cx} {K : PySem.W.Frag} (h : X.K = K := by rfl) : IxR X (rIxL K) := by subst h; exact ix_list
theorem ix_tK {X : Cx} {K : PySem.W.Frag} (h : X.K = K := by rfl) : IxR X (rIxT K) := by subst h; exact ix_tup
theorem ix_sK {X : Cx} {K : PySem.W.Frag} (h : X.K = K := by rfl) : IxR X (rIx K) := by subst h; exact ix_seq
def rLenK (K : PySem.W.Frag) : List V → Hp → VK → Prop := fun xs H Q => ∃ x n, xs = [x] ∧ LenV K x H n ∧ Q (.int (n : Nat)) H
theorem len_K {X : Cx} {K : PySem.W.Frag} (h : X.K = K := by rfl) : CallR X (.builtin "len") (rLenK K) := by subst h; exact call_len
def rListK (K : PySem.W.Frag) : List V → Hp → VK → Prop := fun zs H Q => ∃ p ys, zs = [.ref p] ∧ (SqL K H p ys ∨ SqT K H p ys) ∧
  ∀ l, H l = none → Q (.ref l) (upd H l (.lst ys))
theorem list_K {X : Cx} {K : PySem.W.Frag} (h : X.K = K := by rfl) : CallR X (.type "list") (rListK K) := by subst h; exact call_list_of
theorem in_K {X : Cx} {K : PySem.W.Frag} (h : X.K = K := by rfl) : OpR X (compareOp .In) (rIn K false) := by subst h; exact op_in_seq
theorem notin_K {X : Cx} {K : PySem.W.Frag} (h : X.K = K := by rfl) : OpR X (compareOp .NotIn) (rIn K true) := by subst h; exact op_notIn_seq
theorem pg_tupK {X : Cx} {K : PySem.W.Frag} {pos : Pos} {es : List Expr} {k : Nat} {t : TGs} {n : Nat} (hk : X.K = K) (hc : X.calm = true) (h : PGs X es t)
    (hn : (assignEach es X.env).length = n := by rfl) (hst : (assignEach es X.env).findIdx? (·.1) = none := by rfl) : PG X (.Tuple es k pos) (gTup K n t) := by subst hk; exact pg_tup hc h hn hst
theorem pe_fldK {X : Cx} {K : PySem.W.Frag} {e : Expr} {f : Str} {pos : Pos} {ta : TE} (he : PE X e ta) (hb : attributeBase e f X.env (eval e X.env) = eval e X.env) (hk : X.K = K := by rfl) : PE X (.Attribute e f pos) (tFld K ta f) := by subst hk; exact pe_fld he hb
theorem eqD_K {X : Cx} {K : PySem.W.Frag} (hu : X.A.units + 64 < cLine) (hk : X.K = K := by rfl) : OpR X (compareOp .Eq) (rEqD K) := by subst hk; exact op_eqD hu
theorem neD_K {X : Cx} {K : PySem.W.Frag} (hu : X.A.units + 64 < cLine) (hk : X.K = K := by rfl) : OpR X (compareOp .NotEq) (rNeD K) := by subst hk; exact op_neD hu
theorem isi_K {X : Cx} {K : PySem.W.Frag} (h : X.K = K := by rfl) : CallR X (.builtin "isinstance") (rIsi K) := by subst h; exact call_isi
/-! ### data -/
/-- data of a depth below n, of lists and tuples that are not too long -/
def Flat : Nat → PyData → Prop
  | 0, _ => False
  | n + 1, .list ds => ds.length ≤ 40000 ∧ ∀ d ∈ ds, Flat n d
  | n + 1, .tuple ds => ds.length ≤ 40000 ∧ ∀ d ∈ ds, Flat n d
  | _ + 1, .dict _ => False
  | _ + 1, _ => True
theorem dp_get {K : PySem.W.Frag} {H : Hp} : ∀ {xs : List V} {ds : List PyData}, DpAll K H xs ds → xs.length = ds.length ∧ ∀ (i : Nat) (d : PyData), ds[i]? = some d → ∃ x, xs[i]? = some x ∧ Dp K H x d
  | _, _, .nil => ⟨rfl, fun i d h => by simp at h⟩
  | _, _, .cons a r => by
    obtain ⟨l, g⟩ := dp_get r
    refine ⟨by simp [l], fun i d h => ?_⟩
    cases i with
    | zero => exact ⟨_, rfl, by simp at h; subst h; exact a⟩
    | succ i => simpa using g i d (by simpa using h)
theorem flatI {ns : List Int} (h : ns.length ≤ 360) : Flat 4 (.list (ns.map .int)) :=
  ⟨by rw [List.length_map]; omega, fun d hd => by
    obtain ⟨i, _, rfl⟩ := List.mem_map.mp hd
    exact True.intro⟩
theorem dp_ints {K : PySem.W.Frag} {H : Hp} : ∀ ns : List Int, DpAll K H (ns.map V.int) (ns.map PyData.int)
  | [] => .nil
  | n :: ns => .cons (.int n) (dp_ints ns)
mutual
theorem dp_ex {K : PySem.W.Frag} {H H' : Hp} (e : Ex H H') : ∀ {v : V} {d : PyData}, Dp K H v d → Dp K H' v d
  | _, _, .non => .non
  | _, _, .bl b => .bl b
  | _, _, .int i => .int i
  | _, _, .str x => .str x
  | _, _, .lst s a => .lst (ex_l e s) (dpa_ex e a)
  | _, _, .tup s a => .tup (ex_t e s) (dpa_ex e a)
theorem dpa_ex {K : PySem.W.Frag} {H H' : Hp} (e : Ex H H') : ∀ {vs : List V} {ds : List PyData}, DpAll K H vs ds → DpAll K H' vs ds
  | _, _, .nil => .nil
  | _, _, .cons a r => .cons (dp_ex e a) (dpa_ex e r)
end
theorem tyx_l {K : PySem.W.Frag} {H : Hp} {a : Addr} {xs : List V} (h : SqL K H a xs) : TyX K H (.ref a) (.type "list") := by
  rcases h with (h | ⟨o, h⟩) | ⟨o, its, n, h, c, _⟩
  · exact .base (.lst h)
  · exact .base (.frz h)
  · exact .kList h c
theorem tyx_t {K : PySem.W.Frag} {H : Hp} {a : Addr} {xs : List V} (h : SqT K H a xs) : TyX K H (.ref a) (.type "tuple") := by
  rcases h with (h | ⟨o, h⟩) | ⟨o, its, n, h, c, _⟩
  · exact .base (.tup h)
  · exact .fTuple h
  · exact .kTuple h c
/-- x is True, x is False, whatever x is -/
def rIsK : R2 := fun x y H Q => ∃ b : Bool, y = .bl b ∧ Q (.bl (decide (x = .bl b))) H
theorem op_isK {X : Cx} : OpR X (compareOp .Is) rIsK := by
  intro pins s σ H x y v u Q I rx ry h
  obtain ⟨b, hy, q⟩ := h
  subst hy
  cases (show u = Value.bool b from ry)
  have fin : ∀ k : Bool, k = decide (x = V.bl b) → EP X pins σ Q (.bool k) s := fun k e => ⟨.bl k, H, I, rfl, by rw [e]; exact q⟩
  cases x with
  | non => cases (show v = Value.none from rx); exact wpAny_is_other rfl (fun z => by cases z) (fin _ (by simp))
  | bl a =>
    cases (show v = Value.bool a from rx)
    by_cases e : a = b
    · subst e; exact wpAny_is_self rfl (fin _ (by simp))
    · exact wpAny_is_other rfl (fun z => e (Value.bool.inj z)) (fin _ (by simp [e]))
  | int i => obtain ⟨t, ev⟩ := rx; subst ev; exact wpAny_is_other rfl (fun z => by cases z) (fin _ (by simp))
  | str i => obtain ⟨t, ev⟩ := rx; subst ev; exact wpAny_is_other rfl (fun z => by cases z) (fin _ (by simp))
  | byt i => obtain ⟨t, ev⟩ := rx; subst ev; exact wpAny_is_other rfl (fun z => by cases z) (fin _ (by simp))
  | flt i => obtain ⟨t, ev⟩ := rx; subst ev; exact wpAny_is_other rfl (fun z => by cases z) (fin _ (by simp))
  | ref a => cases (show v = Value.ref a from rx); exact wpAny_is_other rfl (fun z => by cases z) (fin _ (by simp))
  | ty n => cases (show v = Value.type n from rx); exact wpAny_is_other rfl (fun z => by cases z) (fin _ (by simp))
theorem atI_ints {ns : List Int} {i : Int} (h0 : 0 ≤ i) (h1 : i < (ns.length : Int)) : atI (ns.map V.int) i = some (.int (ns.getD i.toNat 0)) := by
  obtain ⟨j, rfl⟩ : ∃ j : Nat, i = (j : Int) := ⟨i.toNat, by omega⟩
  refine atI_nat ?_
  have hj : j < ns.length := by omega
  rw [List.getElem?_map, Int.toNat_natCast, List.getD_eq_getElem?_getD, List.getElem?_eq_getElem hj]
  rfl
/-! ### a caught error with fields -/
def rIsX (K : PySem.W.Frag) (D a : Addr) (cls : Value) (d : Option Addr) : List V → Hp → VK → Prop := fun xs H Q => cls = .ref D ∧ ∃ (dd : Addr) (fs : List (Str × V)) (c : V) (cv : Value) (b : Bool),
  d = some dd ∧ H dd = some (.xd fs) ∧ xs = [.ref a, c] ∧ (∀ u, RelV c u → u = cv) ∧ PySem.W.kitOne K (.ref D) cv = some b ∧ Q (.bl b) H
theorem call_isX {X : Cx} {a D : Addr} {oe : Obj} {cls : Value} {d : Option Addr} {pn : List (Addr × Obj)} (C : ExcC X.K D) (hz : Zc cls d oe) (hf : ∃ vs, oe.data = .fields vs) : CallR (X.suite a ((a, oe) :: pn)) (.builtin "isinstance") (rIsX X.K D a cls d) := by
  intro pins sh σ H zs us Q I rr hq
  obtain ⟨ec, dd, fs, c, cv, b, ed, hx, ez, hcv, hk, q⟩ := hq
  subst ez
  obtain ⟨u1, u2, eu, r1, r2⟩ := vals2 rr
  subst eu
  cases (show u1 = Value.ref a from r1)
  have e2 := hcv _ r2
  subst e2
  obtain ⟨hget, _⟩ := I.pin (a, oe) (List.mem_append.mpr (.inl List.mem_cons_self))
  obtain ⟨vs, hv⟩ := hf
  have ho : ObjOk X.prog X.w H sh.heap dd (.xd fs) := I.hok dd _ hx
  obtain ⟨mA, hns, _⟩ := ho
  obtain ⟨od, hod, _⟩ := lookIn_ns hns
  obtain ⟨cd, hcd, _⟩ := PySem.W.any_some C.hd
  have hcl : (PySem.W.clsIn X.K D).isSome = true := by rw [hcd]; rfl
  have J : PySem.W.InstAt sh.heap a oe D (some od) := ⟨hget, hz.1.trans ec, by unfold PySem.W.notCls; rw [hv], by rw [hz.2, ed]; exact hod⟩
  exact PySem.W.kia_one (PySem.W.kitx_exc hcl C.hg C.hk C.hs C.ha C.hn C.ht C.hm) I.kIn J hk (fun z => nomatch z) fun tk => ⟨.bl b, H, I.tok tk, rfl, q⟩
def rIsN (K : PySem.W.Frag) (D a : Addr) (cls : Value) (d : Option Addr) : List V → Hp → VK → Prop := fun xs H Q => cls = .ref D ∧ d = none ∧ rIsE K D a xs H Q
theorem call_isN {X : Cx} {a D : Addr} {oe : Obj} {cls : Value} {d : Option Addr} {pn : List (Addr × Obj)} (C : ExcC X.K D) (hz : Zc cls d oe) (hf : ∃ vs, oe.data = .fields vs) : CallR (X.suite a ((a, oe) :: pn)) (.builtin "isinstance") (rIsN X.K D a cls d) := by
  intro pins s σ H xs us Q I r h
  obtain ⟨e1, e2, h⟩ := h
  subst e1 e2
  exact call_isE C hz hf pins s σ H xs us Q I r h
/-- X(), X an error class without __init__ -/
theorem pmk_none {X : Cx} {C : Addr} {bmB : List Value} {B newId initId : String} {x : Str} {p pos : Pos} (F : PySem.ExcBaseFacts B newId initId bmB) (q : PySem.W.excIn X.K C bmB newId = true) (gC : X.mg x = some (.ref C)) (kC : PySem.W.keepIn X.K (.ref C) = true)
    (r : Raises X (.ref C)) (hg : Gl X x) (hdb : (x == ("__debug__" : Str)) = false := by decide) : PMk X (.Call (.Name x p) [] [] pos) (fun _ H Q => Q (.ref C) none H) := by
  intro pins s σ H Q I h
  refine wpAny_Call_Name_kw (ld_glob I hg gC ?_ hdb)
  refine PySem.W.callWith_K0 I.kIn kC ?_
  obtain ⟨bm, N, nm, qn, bs, hdct, sn, sub, ab, col, dd, k0, k1, k2, k3, k5, mN, hC, hN, hni, T⟩ := exc_obj I.kIn q
  refine wpAny_call_exc_subT F T hC hN hni (fun h' e hm => ?_) (Nat.zero_le _)
  exact mk_of I hm r h (I.hok.gone hm.new)
/-- a list drawn by a menu -/
def Drawn (ms ds : List Int) : Prop := ds.length = ms.length ∧ ∀ (i : Nat) (m : Int), ms[i]? = some m → ∃ d : Int, ds[i]? = some d ∧ 0 ≤ d ∧ d < m
theorem kitCls_own {K : PySem.W.Frag} {t : Value} {C : Addr} (hd : PySem.W.hasDictIn K C = true) (ty : PySem.W.typeIn K (.ref C) = some (.type "type")) : PySem.W.kitCls K t (.ref C) = PySem.W.subIn K t (.ref C) := by
  obtain ⟨cd, hc, _⟩ := PySem.W.any_some hd
  unfold PySem.W.kitCls
  simp [hc, ty]
theorem kit_self {K : PySem.W.Frag} {t : Value} : PySem.W.kitOne K t t = some true := by
  unfold PySem.W.kitOne
  rw [if_pos (beq_self_eq_true t)]
theorem kit_yes {K : PySem.W.Frag} {t : Value} {C : Addr} (hd : PySem.W.hasDictIn K C = true) (ty : PySem.W.typeIn K (.ref C) = some (.type "type")) (s : PySem.W.subIn K t (.ref C) = some true) : PySem.W.kitOne K t (.ref C) = some true := by
  unfold PySem.W.kitOne
  split
  · rfl
  · rw [kitCls_own hd ty]; exact s
theorem kit_no {K : PySem.W.Frag} {t : Value} {C : Addr} (hd : PySem.W.hasDictIn K C = true) (ty : PySem.W.typeIn K (.ref C) = some (.type "type")) (me : PySem.W.subIn K (.ref C) (.ref C) = some true) (s : PySem.W.subIn K t (.ref C) = some false) : PySem.W.kitOne K t (.ref C) = some false := by
  unfold PySem.W.kitOne
  split
  · rename_i e
    rw [beq_iff_eq] at e
    rw [e, me] at s
    cases s
  · rw [kitCls_own hd ty]; exact s
theorem kit_bi {K : PySem.W.Frag} {C : Addr} {n : String} {b : Bool} (hm : PySem.W.kitMeta n = true) (s : PySem.W.subIn K (.ref C) (.type n) = some b) : PySem.W.kitOne K (.ref C) (.type n) = some b := by
  unfold PySem.W.kitOne PySem.W.kitCls
  rw [if_neg (by simp)]
  show (if PySem.W.kitMeta n = true then PySem.W.subIn K (.ref C) (.type n) else none) = some b
  rw [if_pos hm]
  exact s
theorem drawn4 {a b c d : Int} {ds : List Int} (h : Drawn [a, b, c, d] ds) : ∃ w x y z, ds = [w, x, y, z] ∧ (0 ≤ w ∧ w < a) ∧ (0 ≤ x ∧ x < b) ∧ (0 ≤ y ∧ y < c) ∧ (0 ≤ z ∧ z < d) := by
  obtain ⟨hl, g⟩ := h
  match ds, hl with
  | [w, x, y, z], _ =>
    obtain ⟨w', e0, h0⟩ := g 0 a rfl
    obtain ⟨x', e1, h1⟩ := g 1 b rfl
    obtain ⟨y', e2, h2⟩ := g 2 c rfl
    obtain ⟨z', e3, h3⟩ := g 3 d rfl
    cases e0; cases e1; cases e2; cases e3
    exact ⟨_, _, _, _, rfl, h0, h1, h2, h3⟩
/-! ### own errors with one field and with two -/
def spErr1 (K : PySem.W.Frag) (C : Addr) (f : Str) : Sp := fun vs H Q _ => ∃ (a : Addr) (x : V), vs = [.ref a, x] ∧ OexC K C ∧ H a = some (exo a C none) ∧ ∀ d, H d = none → d ≠ a → Q .non (upd (upd H d (exd d [(f, x)])) a (exo a C (some d)))
def spErr2 (K : PySem.W.Frag) (C : Addr) (f g : Str) : Sp := fun vs H Q _ => ∃ (a : Addr) (x y : V), vs = [.ref a, x, y] ∧ OexC K C ∧ H a = some (exo a C none) ∧
  ∀ d, H d = none → d ≠ a → Q .non (upd (upd (upd H d (exd d [(f, x)])) a (exo a C (some d))) d (exd d [(g, y), (f, x)]))
theorem raise1 {K : PySem.W.Frag} {C : Addr} {f : Str} {H : Hp} {E : XK} {σ : L2.St} {ta : TA} {x : V} (hC : OexC K C) (hta : ∀ Q : List V → Hp → Prop, Q [x] H → ta σ H Q)
    (k : ∀ d H', Ex H H' → H' d = some (.xd [(f, x)]) → E (.ref C) (some d) H') : tMkO C (spErr1 K C f) [] ta σ H E := by
  refine hta _ ⟨by show (1 : Nat) ≤ 1000; decide, fun a ha => ⟨a, x, rfl, hC, upd_same, fun d hd hne => ?_⟩⟩
  have hd' : H d = none := by rw [upd_ne hne] at hd; exact hd
  have han : a ≠ d := fun e => hne e.symm
  refine ⟨rfl, d, _, upd_same, ?_, hd', k d _ (fun b o hb => ?_) upd_same⟩
  · rw [upd_ne hne, upd_same]
  · have h1 : b ≠ a := ne_of_none hb ha
    have h2 : b ≠ d := ne_of_none hb hd'
    rw [upd_ne h2, del_ne h1, upd_ne h1, upd_ne h2, upd_ne h1]
    exact hb
theorem raise2 {K : PySem.W.Frag} {C : Addr} {f g : Str} {H : Hp} {E : XK} {σ : L2.St} {ta : TA} {x y : V} (hC : OexC K C) (hta : ∀ Q : List V → Hp → Prop, Q [x, y] H → ta σ H Q)
    (k : ∀ d H', Ex H H' → H' d = some (.xd [(g, y), (f, x)]) → E (.ref C) (some d) H') : tMkO C (spErr2 K C f g) [] ta σ H E := by
  refine hta _ ⟨by show (2 : Nat) ≤ 1000; decide, fun a ha => ⟨a, x, y, rfl, hC, upd_same, fun d hd hne => ?_⟩⟩
  have hd' : H d = none := by rw [upd_ne hne] at hd; exact hd
  have han : a ≠ d := fun e => hne e.symm
  refine ⟨rfl, d, _, ?_, upd_same, hd', k d _ (fun b o hb => ?_) upd_same⟩
  · rw [upd_ne han, upd_same]
  · have h1 : b ≠ a := ne_of_none hb ha
    have h2 : b ≠ d := ne_of_none hb hd'
    rw [upd_ne h2, del_ne h1, upd_ne h2, upd_ne h1, upd_ne h2, upd_ne h1]
    exact hb
/-- what a cell of the script is worth -/
def cellA (ns : List Int) (k : Nat) : Int := if k < ns.length then (if ns.getD k 0 < 0 then - ns.getD k 0 else ns.getD k 0) else 0
theorem cellA_nn (ns : List Int) (k : Nat) : 0 ≤ cellA ns k := by
  unfold cellA
  split
  · split <;> omega
  · omega
/-! ### evaluation with a property; loops over what a call gives -/
def EvR (te : TE) (σ : L2.St) (H : Hp) (P : V → Hp → Prop) : Prop := ∀ H1, Ex H H1 → ∀ Q : VK, (∀ v H2, Ex H1 H2 → P v H2 → Q v H2) → te σ H1 Q
theorem er_ev {te : TE} {σ : L2.St} {H : Hp} {v : V} {P : V → Hp → Prop} (h : Ev te σ H v) (hp : ∀ H1, Ex H H1 → P v H1) : EvR te σ H P := fun H1 e Q q => h H1 e Q fun H2 e2 => q v H2 e2 (hp H2 (e.trans e2))
theorem EvR.mono {te : TE} {σ : L2.St} {H H' : Hp} {P : V → Hp → Prop} (e : Ex H H') (h : EvR te σ H P) : EvR te σ H' P := fun H1 a Q q => h H1 (e.trans a) Q q
theorem EvR.imp {te : TE} {σ : L2.St} {H : Hp} {P P' : V → Hp → Prop} (h : EvR te σ H P) (i : ∀ v H1, P v H1 → P' v H1) : EvR te σ H P' := fun H1 a Q q => h H1 a Q fun v H2 e p => q v H2 e (i v H2 p)
theorem er_L {te : TE} {σ : L2.St} {H : Hp} {xs : List V} (h : EvL te σ H xs) : EvR te σ H fun v H1 => ∃ p, v = .ref p ∧ H1 p = some (.lst xs) := fun H1 e Q q => h H1 e Q fun p H2 _ e2 hp => q _ H2 e2 ⟨p, rfl, hp⟩
theorem s_asgR {te : TE} {D : Ends} {σ : L2.St} {H : Hp} {i : Nat} {P : V → Hp → Prop} (h : EvR te σ H P) (k : ∀ v H1, Ex H H1 → P v H1 → D.nx (σ.set i (some v)) H1) : tAsg te (gName i) D σ H := h H (Ex.refl H) _ fun v H1 e p => k v H1 e p
theorem q_asgR {te : TE} {tz : TS} {D : Ends} {σ : L2.St} {H : Hp} {i : Nat} {P : V → Hp → Prop} (h : EvR te σ H P) (k : ∀ v H1, Ex H H1 → P v H1 → tz D (σ.set i (some v)) H1) : tSeq (tAsg te (gName i)) tz D σ H := s_asgR (D := { D with nx := tz D }) h k
theorem s_retR {te : TE} {D : Ends} {σ : L2.St} {H : Hp} {P : V → Hp → Prop} (h : EvR te σ H P) (k : ∀ v H1, Ex H H1 → P v H1 → D.rt v H1) : tRet te D σ H := h H (Ex.refl H) _ fun v H1 e p => k v H1 e p
theorem for_via {K : PySem.W.Frag} {tl : TE} {g : TG} {tu : TS} {D : Ends} {σ : L2.St} {H : Hp} {P : V → Hp → Prop} (h : EvR tl σ H P) (k : ∀ v H1, Ex H H1 → P v H1 → tFor (iList K (tC v)) g tu D σ H1) : tFor (iList K tl) g tu D σ H :=
  h H (Ex.refl H) _ fun v H1 e p => k v H1 e p
theorem q_forVia {K : PySem.W.Frag} {tl : TE} {g : TG} {tu tz : TS} {D : Ends} {σ : L2.St} {H : Hp} {P : V → Hp → Prop} (h : EvR tl σ H P) (k : ∀ v H1, Ex H H1 → P v H1 → tSeq (tFor (iList K (tC v)) g tu) tz D σ H1) : tSeq (tFor (iList K tl) g tu) tz D σ H :=
  h H (Ex.refl H) _ fun v H1 e p => k v H1 e p
theorem ev_int {σ : L2.St} {H : Hp} {te : TE} {z : Int} (h : Ev te σ H (.int z)) : Ev (tCB (fun xs H Q => (∃ i, xs = [V.int i] ∧ Q (V.int i) H) ∨ ∃ k, xs = [V.bl k] ∧ Q (V.int (if k = true then 1 else 0)) H) (tCons te tNil)) σ H (.int z) :=
  ev_cb (ea_cons h ea_nil) fun H1 _ _ q => .inl ⟨_, rfl, q H1 (Ex.refl H1)⟩
theorem el_rep {σ : L2.St} {H : Hp} {te tn : TE} {z k : Int} (h : Ev te σ H (.int z)) (hn : Ev tn σ H (.int k)) (hk : 0 ≤ k ∧ k ≤ 100000) : EvL (tOp rRep (tLst (tCons te tNil)) tn) σ H ((List.replicate k.toNat z).map V.int) := fun H1 e Q q =>
  el_lst (ea_cons h ea_nil) (by show 1 ≤ 100000; decide) H1 e _ fun p H2 hp e2 h2 => hn H2 (e.trans e2) _ fun H3 e3 => ⟨p, k, [.int z], rfl, rfl, e3 _ _ h2, by omega, by omega, by
    show 1 * k.toNat ≤ sizeLine
    exact Nat.le_trans (show 1 * k.toNat ≤ 100000 by omega) (by decide), fun l hl => q l _ (fresh_back (e2.trans e3) hl) ((e2.trans e3).trans (Ex.new hl)) (by
    rw [upd_same]
    have rp : ∀ m : Nat, (List.replicate m [V.int z]).flatten = (List.replicate m z).map V.int := fun m => by
      induction m with
      | zero => rfl
      | succ m ih => rw [List.replicate_succ, List.flatten_cons, ih, List.replicate_succ, List.map_cons]; rfl
    rw [rp])⟩
theorem er_call {sp : Sp} {dvs vs : List V} {E : XK} {ta : TA} {σ : L2.St} {H : Hp} {P : V → Hp → Prop} (h : EvA ta σ H vs) (hs : ∀ H1, Ex H H1 → ∀ Q : VK, (∀ v H2, Ex H1 H2 → P v H2 → Q v H2) → sp (vs ++ dvs) H1 Q E) : EvR (tCall sp dvs E ta) σ H P :=
  fun H1 e Q q => h H1 e _ fun H2 e2 => hs H2 (e.trans e2) Q fun v H3 e3 p => q v H3 (e2.trans e3) p
theorem el_cat {σ : L2.St} {H : Hp} {ta tb : TE} {xs ys : List V} (h1 : EvL ta σ H xs) (h2 : EvL tb σ H ys) (hz : xs.length + ys.length ≤ 100000) : EvL (tOp rCat ta tb) σ H (xs ++ ys) := fun H1 e Q q =>
  h1 H1 e _ fun a H2 ha e2 g2 => h2 H2 (e.trans e2) _ fun b H3 hb e3 g3 => ⟨a, b, xs, ys, rfl, rfl, e3 _ _ g2, g3, sz_of hz, fun p hp => q p _ (fresh_back (e2.trans e3) hp) ((e2.trans e3).trans (Ex.new hp)) upd_same⟩
theorem atI_last {α : Type} {xs : List α} {z : α} (h : xs.getLast? = some z) : atI xs (-1) = some z := by
  cases xs with
  | nil => cases h
  | cons x r =>
    rw [List.getLast?_eq_getElem?] at h
    unfold atI ixN
    rw [if_neg (by omega), if_pos (by rw [List.length_cons]; omega)]
    show (x :: r)[((-1 : Int) + ((x :: r).length : Int)).toNat]? = some z
    rw [← h]
    congr 1
    rw [List.length_cons]
    omega
/-- an if whose test fails -/
theorem q_skip {t : TT} {tu tz : TS} {D : Ends} {σ : L2.St} {H : Hp} (h : EvT t σ H false) (k : ∀ H1, Ex H H1 → tz D σ H1) : tSeq (tIfS t tu tNext) tz D σ H := q_when h (fun z => Bool.noConfusion z) fun _ H1 e => k H1 e
/-- .. whose test holds and that returns -/
theorem q_take {t : TT} {tu tz : TS} {D : Ends} {σ : L2.St} {H : Hp} (h : EvT t σ H true) (k : ∀ H1, Ex H H1 → tu { D with nx := tz D } σ H1) : tSeq (tIfS t tu tNext) tz D σ H := q_when h (fun _ H1 e => k H1 e) fun z => Bool.noConfusion z
theorem et_notT {t : TT} {σ : L2.St} {H : Hp} (h : EvT t σ H true) : EvT (tNot t) σ H false := et_not h
theorem et_orF {t u : TT} {σ : L2.St} {H : Hp} (h : EvT t σ H false) (h2 : EvT u σ H false) : EvT (tOr t u) σ H false := et_or h fun _ => h2
theorem et_andF {t u : TT} {σ : L2.St} {H : Hp} (h : EvT t σ H false) : EvT (tAnd t u) σ H false := et_and (b := true) h fun z => Bool.noConfusion z
theorem et_andT {t u : TT} {σ : L2.St} {H : Hp} {b : Bool} (h : EvT t σ H true) (h2 : EvT u σ H b) : EvT (tAnd t u) σ H b := et_and h fun _ => h2
theorem ev_ix {K : PySem.W.Frag} {σ : L2.St} {H : Hp} {ta tb : TE} {p : Addr} {xs : List V} {i : Int} {v : V} (ha : Ev ta σ H (.ref p)) (hb : Ev tb σ H (.int i)) (h : SqL K H p xs) (hv : atI xs i = some v) : Ev (tOp (rIxL K) ta tb) σ H v := ev_op ha hb (rv_ixL h hv)
theorem rv_isK {x : V} {H : Hp} {b : Bool} : RV rIsK x (.bl b) H (.bl (decide (x = .bl b))) := fun H1 _ _ q => ⟨b, rfl, q H1 (Ex.refl H1)⟩
def rIsNotK : R2 := fun x y H Q => ∃ b : Bool, y = .bl b ∧ Q (.bl (!decide (x = .bl b))) H
theorem op_isNotK {X : Cx} : OpR X (compareOp .IsNot) rIsNotK := by
  intro pins s σ H x y v u Q I rx ry h
  obtain ⟨b, hy, q⟩ := h
  subst hy
  cases (show u = Value.bool b from ry)
  have fin : ∀ k : Bool, k = (!decide (x = V.bl b)) → EP X pins σ Q (.bool k) s := fun k e => ⟨.bl k, H, I, rfl, by rw [e]; exact q⟩
  cases x with
  | non => cases (show v = Value.none from rx); exact wpAny_isNot_other rfl (fun z => by cases z) (fin _ (by simp))
  | bl a =>
    cases (show v = Value.bool a from rx)
    by_cases e : a = b
    · subst e; exact wpAny_isNot_self rfl (fin _ (by simp))
    · exact wpAny_isNot_other rfl (fun z => e (Value.bool.inj z)) (fin _ (by simp [e]))
  | int i => obtain ⟨t, ev⟩ := rx; subst ev; exact wpAny_isNot_other rfl (fun z => by cases z) (fin _ (by simp))
  | str i => obtain ⟨t, ev⟩ := rx; subst ev; exact wpAny_isNot_other rfl (fun z => by cases z) (fin _ (by simp))
  | byt i => obtain ⟨t, ev⟩ := rx; subst ev; exact wpAny_isNot_other rfl (fun z => by cases z) (fin _ (by simp))
  | flt i => obtain ⟨t, ev⟩ := rx; subst ev; exact wpAny_isNot_other rfl (fun z => by cases z) (fin _ (by simp))
  | ref a => cases (show v = Value.ref a from rx); exact wpAny_isNot_other rfl (fun z => by cases z) (fin _ (by simp))
  | ty n => cases (show v = Value.type n from rx); exact wpAny_isNot_other rfl (fun z => by cases z) (fin _ (by simp))
theorem rv_isNotK {x : V} {H : Hp} {b : Bool} : RV rIsNotK x (.bl b) H (.bl (!decide (x = .bl b))) := fun H1 _ _ q => ⟨b, rfl, q H1 (Ex.refl H1)⟩
theorem drawn_cons {m : Int} {ms ds : List Int} (h : Drawn (m :: ms) ds) : ∃ d r, ds = d :: r ∧ (0 ≤ d ∧ d < m) ∧ Drawn ms r := by
  obtain ⟨hl, g⟩ := h
  cases ds with
  | nil => cases hl
  | cons d r =>
    obtain ⟨d', e, h0, h1⟩ := g 0 m rfl
    cases e
    exact ⟨d, r, rfl, ⟨h0, h1⟩, by simpa using hl, fun i x hx => g (i + 1) x hx⟩
theorem drawn_nil {ds : List Int} (h : Drawn [] ds) : ds = [] := List.length_eq_zero_iff.mp h.1
/-! ### new things: what holds of them in each heap that has what is new -/
def NewP (P : Hp → Prop) (H H' : Hp) : Prop := ∀ G : Hp, (∀ b o, H b = none → H' b = some o → G b = some o) → P G
def EvNew (te : TE) (σ : L2.St) (H : Hp) (P : V → Hp → Prop) : Prop := ∀ H1, Ex H H1 → ∀ Q : VK, (∀ v H2, Ex H1 H2 → NewP (P v) H1 H2 → Q v H2) → te σ H1 Q
theorem NewP.self {P : Hp → Prop} {H H' : Hp} (h : NewP P H H') : P H' := h H' fun _ _ _ e => e
theorem NewP.out {P : Hp → Prop} {H H1 H2 H3 : Hp} (h : NewP P H1 H2) (e : Ex H H1) (e' : Ex H2 H3) : NewP P H H3 := fun G g => h G fun b o h1 h2 => g b o (fresh_back e h1) (e' _ _ h2)
theorem EvNew.er {te : TE} {σ : L2.St} {H : Hp} {P : V → Hp → Prop} (h : EvNew te σ H P) : EvR te σ H P := fun H1 e Q q => h H1 e Q fun v H2 e2 n => q v H2 e2 n.self
theorem EvNew.imp {te : TE} {σ : L2.St} {H : Hp} {P P' : V → Hp → Prop} (h : EvNew te σ H P) (i : ∀ v G, P v G → P' v G) : EvNew te σ H P' := fun H1 e Q q => h H1 e Q fun v H2 e2 n => q v H2 e2 fun G g => i v G (n G g)
theorem en_L {te : TE} {σ : L2.St} {H : Hp} {xs : List V} (h : EvL te σ H xs) : EvNew te σ H fun v G => ∃ p, v = .ref p ∧ G p = some (.lst xs) := fun H1 e Q q => h H1 e Q fun p H2 hp e2 h2 => q _ H2 e2 fun G g => ⟨p, rfl, g p _ hp h2⟩
theorem en_ev {te : TE} {σ : L2.St} {H : Hp} {v : V} {P : V → Prop} (h : Ev te σ H v) (p : P v) : EvNew te σ H fun v _ => P v := fun H1 e Q q => h H1 e Q fun H2 e2 => q v H2 e2 fun _ _ => p
/-- what a comprehension keeps: its list at D, each item with its property whatever D holds -/
def Kept (P : Nat → V → Hp → Prop) (H1 : Hp) (D : Addr) (i : Nat) (H : Hp) : Prop := H1 D = none ∧ Ex H1 H ∧ ∃ vs : List V, H D = some (.lst vs) ∧ vs.length = i ∧ ∀ (k : Nat) x, vs[k]? = some x → ∀ G : Hp, (∀ b o, b ≠ D → H1 b = none → H b = some o → G b = some o) → P k x G
theorem kept_turn {P : Nat → V → Hp → Prop} {H1 H : Hp} {D : Addr} {i : Nat} {te : TE} {σ2 : L2.St} (p : Kept P H1 D i H) (hi : i < 50000) (he : EvNew te σ2 H1 (P i)) :
    tYes σ2 H fun b H3 => if b = true then te σ2 H3 fun y H4 => ∃ acc, H4 D = some (.lst acc) ∧ acc.length < sizeLine ∧ Kept P H1 D (i + 1) (upd H4 D (.lst (acc ++ [y]))) else Kept P H1 D (i + 1) H3 := by
  obtain ⟨p1, p2, vs, p3, p4, p5⟩ := p
  show te σ2 H fun y H4 => ∃ acc, H4 D = some (.lst acc) ∧ acc.length < sizeLine ∧ Kept P H1 D (i + 1) (upd H4 D (.lst (acc ++ [y])))
  refine he H p2 _ fun y H4 e4 hy => ⟨vs, e4 _ _ p3, sz_lt (by omega), p1, Ex.mut (p2.trans e4) p1, vs ++ [y], upd_same, by simp [p4], fun k x hk G g => ?_⟩
  by_cases hki : k < vs.length
  · rw [List.getElem?_append_left hki] at hk
    exact p5 k x hk G fun b o hb h1 h2 => g b o hb h1 (by rw [upd_ne hb]; exact e4 _ _ h2)
  · have hlt := (List.getElem?_eq_some_iff.mp hk).1
    rw [List.length_append] at hlt
    have hlt' : k < vs.length + 1 := hlt
    have e : k = i := by omega
    subst e
    rw [List.getElem?_append_right (by omega), ← p4, Nat.sub_self] at hk
    cases hk
    refine hy G fun b o h1 h2 => ?_
    have hb : b ≠ D := fun e => by rw [e, p3] at h1; cases h1
    exact g b o hb (fresh_back p2 h1) (by rw [upd_ne hb]; exact h2)
theorem kept_end {P : Nat → V → Hp → Prop} {H1 H : Hp} {D : Addr} {n : Nat} (p : Kept P H1 D n H) : NewP (fun G => ∃ vs : List V, G D = some (.lst vs) ∧ vs.length = n ∧ ∀ (k : Nat) x, vs[k]? = some x → P k x G) H1 H := fun G g => by
  obtain ⟨p1, p2, vs, p3, p4, p5⟩ := p
  exact ⟨vs, g D _ p1 p3, p4, fun k x hk => p5 k x hk G fun b o _ h1 h2 => g b o h1 h2⟩
/-- a list whose items have a property -/
def ListP (n : Nat) (P : Nat → V → Hp → Prop) (v : V) (G : Hp) : Prop := ∃ (p : Addr) (vs : List V), v = .ref p ∧ G p = some (.lst vs) ∧ vs.length = n ∧ ∀ (k : Nat) x, vs[k]? = some x → P k x G
theorem en_lcR1 {σ : L2.St} {H : Hp} {te : TE} {ta : TA} {j : Nat} {vs : List Nat} {n : Int} (P : Nat → V → Hp → Prop) (h : EvA ta σ H [.int n]) (hn : 0 ≤ n ∧ n ≤ 40000) (hw : ∀ x, wipe ((wipe σ vs).set j (some x)) vs = wipe σ vs)
    (he : ∀ (i : Nat) H1, Ex H H1 → (i : Int) < n → EvNew te ((wipe σ vs).set j (some (.int (i : Int)))) H1 (P i)) : EvNew (tLc (iRng1 ta) (gName j) tYes te vs) σ H (ListP n.toNat P) := fun H0 e Q q => h H0 e _ fun H1 e1 => ⟨n, rfl, by omega, by omega, fun Dl hD =>
  lc_range (lo := 0) (n := n.toNat) (Kept P H1 Dl) ⟨hD, Ex.new hD, [], upd_same, rfl, fun k x hk => by cases hk⟩ (fun i H' hi p => by
    have e0 : (0 : Int) + (i : Int) = (i : Int) := Int.zero_add _
    show wipe ((wipe σ vs).set j (some (.int ((0 : Int) + (i : Int))))) vs = wipe σ vs ∧ tYes ((wipe σ vs).set j (some (.int ((0 : Int) + (i : Int))))) H' fun b H3 => if b = true then te ((wipe σ vs).set j (some (.int ((0 : Int) + (i : Int))))) H3 fun y H4 => ∃ acc, H4 Dl = some (.lst acc) ∧ acc.length < sizeLine ∧ Kept P H1 Dl (i + 1) (upd H4 Dl (.lst (acc ++ [y]))) else Kept P H1 Dl (i + 1) H3
    rw [e0]
    exact ⟨hw _, kept_turn p (by omega) (he i H1 (e.trans e1) (by omega))⟩)
    (fun H' p => q _ H' (e1.trans p.2.1) fun G g => by
      obtain ⟨ws, h1, h2, h3⟩ := (kept_end p).out e1 (Ex.refl _) G g
      exact ⟨Dl, ws, rfl, h1, h2, h3⟩)⟩
theorem en_lcL {K : PySem.W.Frag} {σ : L2.St} {H : Hp} {te tl : TE} {j : Nat} {vs : List Nat} {xs : List V} (P : Nat → V → Hp → Prop) (h : EvR tl σ H fun v H1 => ∃ a, v = .ref a ∧ SqL K H1 a xs) (hz : xs.length ≤ 40000) (hw : ∀ x, wipe ((wipe σ vs).set j (some x)) vs = wipe σ vs)
    (he : ∀ (i : Nat) (x : V) H1, Ex H H1 → xs[i]? = some x → EvNew te ((wipe σ vs).set j (some x)) H1 (P i)) : EvNew (tLc (iList K tl) (gName j) tYes te vs) σ H (ListP xs.length P) := fun H0 e Q q => h H0 e _ fun v H1 e1 hv => by
  obtain ⟨a, rfl, hx⟩ := hv
  exact ⟨a, rfl, ⟨xs, hx⟩, fun Dl hD =>
    lc_list (xs := xs) (Kept P H1 Dl) ⟨hD, Ex.new hD, [], upd_same, rfl, fun k x hk => by cases hk⟩ (fun i H' _ p => ex_l p.2.1 hx) (fun i x H' hi p => ⟨hw x, kept_turn p (by have := (List.getElem?_eq_some_iff.mp hi).1; omega) (he i x H1 (e.trans e1) hi)⟩)
    (fun H' p => q _ H' (e1.trans p.2.1) fun G g => by
      obtain ⟨ws, h1, h2, h3⟩ := (kept_end p).out e1 (Ex.refl _) G g
      exact ⟨Dl, ws, rfl, h1, h2, h3⟩)⟩

/-! ### order of data -/
def rLtD (K : PySem.W.Frag) : R2 := fun x y H Q => ∃ d e, Dp K H x d ∧ Dp K H y e ∧ PySem.W.alike d e = true ∧ d ≠ .none ∧ d.depth ≤ 64 ∧ Q (.bl (PySem.W.dataLt d e)) H
def rLeD (K : PySem.W.Frag) : R2 := fun x y H Q => ∃ d e, Dp K H x d ∧ Dp K H y e ∧ PySem.W.alike d e = true ∧ d ≠ .none ∧ d.depth ≤ 64 ∧ Q (.bl (!PySem.W.dataLt e d)) H
theorem op_ltD {X : Cx} {K : PySem.W.Frag} (hu : X.A.units + 64 < cLine) (hk : X.K = K := by rfl) : OpR X (compareOp .Lt) (rLtD K) := by
  subst hk
  intro pins s σ H x y v u Q I rx ry h
  obtain ⟨d, e, hd, he, al, dn, dp, q⟩ := h
  obtain ⟨as, r1⟩ := Dp.reads I d x v hd rx
  obtain ⟨bs, r2⟩ := Dp.reads I e y u he ry
  exact PySem.W.rcLt_alike d e X.A s v u as bs r1 r2 al dn (by have := Nat.min_le_left d.depth e.depth; omega) X.prog X.w X.xe (EP X pins σ Q) ⟨.bl _, H, I, rfl, q⟩
theorem op_leD {X : Cx} {K : PySem.W.Frag} (hu : X.A.units + 64 < cLine) (hk : X.K = K := by rfl) : OpR X (compareOp .LtE) (rLeD K) := by
  subst hk
  intro pins s σ H x y v u Q I rx ry h
  obtain ⟨d, e, hd, he, al, dn, dp, q⟩ := h
  obtain ⟨as, r1⟩ := Dp.reads I d x v hd rx
  obtain ⟨bs, r2⟩ := Dp.reads I e y u he ry
  exact PySem.W.rcLe_alike d e X.A s v u as bs r1 r2 al dn (by have := Nat.min_le_left d.depth e.depth; omega) X.prog X.w X.xe (EP X pins σ Q) ⟨.bl _, H, I, rfl, q⟩
theorem alike_ints : ∀ xs ys : List Int, PySem.W.alikeAll (xs.map PyData.int) (ys.map PyData.int) = true
  | [], [] => by simp [PySem.W.alikeAll]
  | [], y :: ys => by simp [PySem.W.alikeAll]
  | x :: xs, [] => by simp [PySem.W.alikeAll]
  | x :: xs, y :: ys => by simp [PySem.W.alikeAll, PySem.W.alike, alike_ints xs ys]

/-! ### what holds of a value in each heap that has what stood before and what is new -/
def Since (H H' G : Hp) : Prop := ∀ b o, H b = none → H' b = some o → G b = some o
def EvB (te : TE) (σ : L2.St) (H : Hp) (P : V → Hp → Prop) : Prop := ∀ H1, Ex H H1 → ∀ Q : VK, (∀ v H2, Ex H1 H2 → (∀ G, Ex H G → Since H1 H2 G → P v G) → Q v H2) → te σ H1 Q
theorem EvNew.eb {te : TE} {σ : L2.St} {H : Hp} {P : V → Hp → Prop} (h : EvNew te σ H P) : EvB te σ H P := fun H1 e Q q => h H1 e Q fun v H2 e2 n => q v H2 e2 fun G _ g => n G g
theorem EvB.er {te : TE} {σ : L2.St} {H : Hp} {P : V → Hp → Prop} (h : EvB te σ H P) : EvR te σ H P := fun H1 e Q q => h H1 e Q fun v H2 e2 n => q v H2 e2 (n H2 (e.trans e2) fun _ _ _ z => z)
theorem EvB.imp {te : TE} {σ : L2.St} {H : Hp} {P P' : V → Hp → Prop} (h : EvB te σ H P) (i : ∀ v G, Ex H G → P v G → P' v G) : EvB te σ H P' := fun H1 e Q q => h H1 e Q fun v H2 e2 n => q v H2 e2 fun G a g => i v G a (n G a g)
theorem eb_ev {te : TE} {σ : L2.St} {H : Hp} {v : V} {P : V → Hp → Prop} (h : Ev te σ H v) (p : ∀ G, Ex H G → P v G) : EvB te σ H P := fun H1 e Q q => h H1 e Q fun H2 e2 => q v H2 e2 fun G a _ => p G a
theorem eb_L {K : PySem.W.Frag} {te : TE} {σ : L2.St} {H : Hp} {xs : List V} (h : EvL te σ H xs) : EvB te σ H fun v G => ∃ p, v = .ref p ∧ SqL K G p xs := ((en_L h).imp fun v G ⟨p, a, b⟩ => ⟨p, a, sq_of b⟩).eb
theorem eb_held {K : PySem.W.Frag} {σ : L2.St} {H : Hp} {i : Nat} {p : Addr} {xs : List V} (h : σ[i]? = some (some (.ref p))) (hp : SqL K H p xs) : EvB (tVar i) σ H fun v G => ∃ p, v = .ref p ∧ SqL K G p xs := eb_ev (ev_var h) fun G e => ⟨p, rfl, ex_l e hp⟩
/-! ### what is walked, whatever it is -/
def EvI (wi : TI) (σ : L2.St) (H : Hp) (n : Nat) (Y : Nat → Hp → V → Hp → Prop) : Prop := ∀ H1, Ex H H1 → ∀ R : It → Hp → Prop, (∀ J H2, Ex H1 H2 → Walk J n (fun G => Ex H G ∧ Since H1 H2 G) Y → R J H2) → wi σ H1 R
theorem ei_list {K : PySem.W.Frag} {σ : L2.St} {H : Hp} {tl : TE} {xs : List V} (h : EvB tl σ H fun v G => ∃ p, v = .ref p ∧ SqL K G p xs) : EvI (iList K tl) σ H xs.length (YAt xs) := fun H1 e R r => h H1 e _ fun v H2 e2 hv => by
  obtain ⟨a, rfl, hx⟩ := hv H2 (e.trans e2) fun _ _ _ z => z
  exact ⟨a, rfl, ⟨xs, hx⟩, r _ _ e2 (walk_list.mono (fun G g => by
    obtain ⟨b, eb, hb⟩ := hv G g.1 g.2
    cases eb
    exact hb) fun _ _ _ _ _ _ y => y)⟩
theorem ei_tup {K : PySem.W.Frag} {σ : L2.St} {H : Hp} {tl : TE} {xs : List V} (h : EvB tl σ H fun v G => ∃ p, v = .ref p ∧ SqT K G p xs) : EvI (iTup K tl) σ H xs.length (YAt xs) := fun H1 e R r => h H1 e _ fun v H2 e2 hv => by
  obtain ⟨a, rfl, hx⟩ := hv H2 (e.trans e2) fun _ _ _ z => z
  exact ⟨a, rfl, ⟨xs, hx⟩, r _ _ e2 (walk_tup.mono (fun G g => by
    obtain ⟨b, eb, hb⟩ := hv G g.1 g.2
    cases eb
    exact hb) fun _ _ _ _ _ _ y => y)⟩
theorem ei_rng1 {σ : L2.St} {H : Hp} {ta : TA} {n : Int} (h : EvA ta σ H [.int n]) (hn : -100000 ≤ n ∧ n ≤ 100000) : EvI (iRng1 ta) σ H n.toNat (YFn fun i => .int (i : Int)) := fun H1 e R r => h H1 e _ fun H2 e2 =>
  ⟨n, rfl, by omega, by omega, r _ _ e2 (walk_range.mono (fun _ _ => True.intro) fun i G x G' _ _ y => ⟨y.1, by rw [y.2]; simp⟩)⟩
theorem ei_rng2 {σ : L2.St} {H : Hp} {ta : TA} {lo hi : Int} (h : EvA ta σ H [.int lo, .int hi]) (hn : (-100000 ≤ lo ∧ lo ≤ 100000) ∧ -100000 ≤ hi ∧ hi ≤ 100000) : EvI (iRng2 ta) σ H (hi - lo).toNat (YFn fun i => .int (lo + (i : Int))) := fun H1 e R r => h H1 e _ fun H2 e2 =>
  ⟨lo, hi, rfl, by omega, r _ _ e2 (walk_range.mono (fun _ _ => True.intro) fun i G x G' _ _ y => y)⟩
theorem ei_zip {K : PySem.W.Frag} {σ : L2.St} {H : Hp} {ta tb : TE} {xs ys : List V} {n : Nat} (h1 : EvB ta σ H fun v G => ∃ p, v = .ref p ∧ SqL K G p xs) (h2 : EvB tb σ H fun v G => ∃ p, v = .ref p ∧ SqL K G p ys) (hn : n = min xs.length ys.length) :
    EvI (iZip K (tCons ta (tCons tb tNil))) σ H n (YPair (fun i => xs[i]?) fun i => ys[i]?) := fun H1 e R r => h1 H1 e _ fun v H2 e2 hv => h2 H2 (e.trans e2) _ fun w H3 e3 hw => by
  have p1 : ∀ G, Ex H G → Since H1 H3 G → ∃ p, v = .ref p ∧ SqL K G p xs := fun G a g => hv G a fun b o z1 z2 => g b o z1 (e3 _ _ z2)
  have p2 : ∀ G, Ex H G → Since H1 H3 G → ∃ p, w = .ref p ∧ SqL K G p ys := fun G a g => hw G a fun b o z1 z2 => g b o (fresh_back e2 z1) z2
  have e3' := (e.trans e2).trans e3
  obtain ⟨a, rfl, hx⟩ := p1 H3 e3' fun _ _ _ z => z
  obtain ⟨b, rfl, hy⟩ := p2 H3 e3' fun _ _ _ z => z
  exact ⟨a, b, xs, ys, rfl, hx, hy, r _ _ (e2.trans e3) ((walk_zip hn).mono (fun G g => by
    obtain ⟨a', ea, ha⟩ := p1 G g.1 g.2
    obtain ⟨b', eb, hb⟩ := p2 G g.1 g.2
    cases ea
    cases eb
    exact ⟨ha, hb⟩) fun _ _ _ _ _ _ y => y)⟩
theorem ei_enum {K : PySem.W.Frag} {σ : L2.St} {H : Hp} {ta : TE} {xs : List V} (h : EvB ta σ H fun v G => ∃ p, v = .ref p ∧ SqL K G p xs) : EvI (iEnum K (tCons ta tNil)) σ H xs.length (YPair (fun i => some (.int (i : Int))) fun i => xs[i]?) := fun H1 e R r => h H1 e _ fun v H2 e2 hv => by
  obtain ⟨a, rfl, hx⟩ := hv H2 (e.trans e2) fun _ _ _ z => z
  exact ⟨a, xs, rfl, hx, r _ _ e2 (walk_enum.mono (fun G g => by
    obtain ⟨b, eb, hb⟩ := hv G g.1 g.2
    cases eb
    exact hb) fun _ _ _ _ _ _ y => y)⟩
theorem walk_ex {J : It} {n : Nat} {H H1 H2 : Hp} {Y : Nat → Hp → V → Hp → Prop} (e : Ex H H1) (e2 : Ex H1 H2) (w : Walk J n (fun G => Ex H G ∧ Since H1 H2 G) Y) : Walk J n (Ex H2) Y := w.mono (fun G g => ⟨(e.trans e2).trans g, fun b o _ z => g _ _ z⟩) fun _ _ _ _ _ _ y => y
/-- what a target binds at each turn -/
def BdG (g : TG) (σ : L2.St) (n : Nat) (Y : Nat → Hp → V → Hp → Prop) (τ : Nat → L2.St) : Prop := ∀ i H x H' (k : L2.St → Hp → Prop), i < n → Y i H x H' → (Ex H H' → k (τ i) H') → g x σ H' k
theorem bd_at {σ : L2.St} {n j : Nat} {xs : List V} : BdG (gName j) σ n (YAt xs) fun i => σ.set j (xs[i]?) := fun i H x H' k _ y c => by
  obtain ⟨rfl, hx⟩ := y
  show k (σ.set j (some x)) H'
  rw [← hx]
  exact c (Ex.refl _)
theorem bd_fn {σ : L2.St} {n j : Nat} {f : Nat → V} : BdG (gName j) σ n (YFn f) fun i => σ.set j (some (f i)) := fun i H x H' k _ y c => by
  obtain ⟨rfl, rfl⟩ := y
  exact c (Ex.refl _)
theorem bd_pair {K : PySem.W.Frag} {σ : L2.St} {n a b : Nat} {xs ys : Nat → Option V} : BdG (gTup K 2 (gCons (gName a) (gCons (gName b) gNil))) σ n (YPair xs ys) fun i => (σ.set a (xs i)).set b (ys i) := fun i H x H' k _ y c => by
  obtain ⟨T, u, v, rfl, hT, rfl, hu, hv⟩ := y
  refine ⟨T, [u, v], rfl, st_of upd_same, rfl, u, [v], rfl, v, [], rfl, rfl, ?_⟩
  rw [← hu, ← hv]
  exact c (Ex.new hT)
section
variable {wi : TI} {g : TG} {tt : TT} {te : TE} {tu tz : TS} {σ : L2.St} {H : Hp} {D : Ends} {n : Nat} {Y : Nat → Hp → V → Hp → Prop} {vs : List Nat} {τ : Nat → L2.St}
theorem s_forI (h : EvI wi σ H n Y) (k : ∀ H2, Ex H H2 → ∃ Pv : Nat → L2.St → Hp → Prop, Pv 0 σ H2 ∧ (∀ i σ' H', i ≤ n → Pv i σ' H' → Ex H2 H') ∧
    (∀ i x σ' H' H'', i < n → Pv i σ' H' → Y i H' x H'' → g x σ' H'' fun σ2 H3 => tu { D with nx := Pv (i + 1), ct := Pv (i + 1), bk := D.nx } σ2 H3) ∧ ∀ σ' H', Pv n σ' H' → D.nx σ' H') : tFor wi g tu D σ H :=
  h H (Ex.refl H) _ fun J H2 e2 w => by
    obtain ⟨Pv, h0, hG, hs, hd⟩ := k H2 e2
    exact for_it (walk_ex (Ex.refl H) e2 w) Pv h0 hG (fun i x σ' H' H'' hi p y => hs i x σ' H' H'' hi p y) hd
theorem q_forI (h : EvI wi σ H n Y) (k : ∀ H2, Ex H H2 → ∃ Pv : Nat → L2.St → Hp → Prop, Pv 0 σ H2 ∧ (∀ i σ' H', i ≤ n → Pv i σ' H' → Ex H2 H') ∧
    (∀ i x σ' H' H'', i < n → Pv i σ' H' → Y i H' x H'' → g x σ' H'' fun σ2 H3 => tu { D with nx := Pv (i + 1), ct := Pv (i + 1), bk := tz D } σ2 H3) ∧ ∀ σ' H', Pv n σ' H' → tz D σ' H') : tSeq (tFor wi g tu) tz D σ H := s_forI (D := { D with nx := tz D }) h k
/-- a comprehension that tests and tells plain values -/
theorem el_lc (f : Nat → Bool) (v : Nat → V) (h : EvI wi σ H n Y) (hn : n ≤ 40000) (hb : BdG g (wipe σ vs) n Y τ) (hw : ∀ i, i < n → wipe (τ i) vs = wipe σ vs)
    (ht : ∀ i H1, i < n → Ex H H1 → EvT tt (τ i) H1 (f i)) (he : ∀ i H1, i < n → Ex H H1 → f i = true → Ev te (τ i) H1 (v i)) : EvL (tLc wi g tt te vs) σ H (given n f v) := fun H0 e0 Q q =>
  h H0 e0 _ fun J H2 e2 w Dl hD => lc_it (walk_ex e0 e2 w) (Cw H2 f v Dl) ⟨hD, Ex.new hD, upd_same⟩ (fun i H' _ c => c.2.1)
    (fun i x H' H'' hi c y => hb i H' x H'' _ hi y fun e => ⟨hw i hi, by
      have c' : Cw H2 f v Dl i H'' := ⟨c.1, c.2.1.trans e, e _ _ c.2.2⟩
      exact cw_turn c' (by omega) (ht i H2 hi (e0.trans e2)) (fun hf => he i H2 hi (e0.trans e2) hf)⟩)
    (fun H' c => q Dl H' (fresh_back e2 c.1) (e2.trans c.2.1) c.2.2)
/-- .. that tells new things -/
theorem en_lc (P : Nat → V → Hp → Prop) (h : EvI wi σ H n Y) (hn : n ≤ 40000) (hb : BdG g (wipe σ vs) n Y τ) (hw : ∀ i, i < n → wipe (τ i) vs = wipe σ vs)
    (he : ∀ i H1, i < n → Ex H H1 → EvNew te (τ i) H1 (P i)) : EvNew (tLc wi g tYes te vs) σ H (ListP n P) := fun H0 e0 Q q =>
  h H0 e0 _ fun J H2 e2 w Dl hD => lc_it (walk_ex e0 e2 w) (Kept P H2 Dl) ⟨hD, Ex.new hD, [], upd_same, rfl, fun k x hk => by cases hk⟩ (fun i H' _ c => c.2.1)
    (fun i x H' H'' hi c y => hb i H' x H'' _ hi y fun e => ⟨hw i hi, by
      obtain ⟨c1, c2, us, c3, c4, c5⟩ := c
      have c' : Kept P H2 Dl i H'' := ⟨c1, c2.trans e, us, e _ _ c3, c4, fun k z hk G gg => c5 k z hk G fun b o hb h1 h2 => gg b o hb h1 (e _ _ h2)⟩
      exact kept_turn c' (by omega) (he i H2 hi (e0.trans e2))⟩)
    (fun H' c => q _ H' (e2.trans c.2.1) fun G gg => by
      obtain ⟨ws, h1, h2, h3⟩ := (kept_end c).out e2 (Ex.refl _) G gg
      exact ⟨Dl, ws, rfl, h1, h2, h3⟩)
theorem given_all {n : Nat} {v : Nat → V} : given n (fun _ => true) v = (List.range n).map v := by
  unfold given
  rw [List.filter_eq_self.mpr fun _ _ => rfl]
theorem yes_T : EvT tYes σ H true := fun H1 _ Q q => q H1 (Ex.refl H1)
/-- two sources, one within the other: all values in their order -/
theorem el_lc2 {wi1 : TI} {g1 : TG} {vs1 : List Nat} {n1 : Nat → Nat} {Y1 : Nat → Nat → Hp → V → Hp → Prop} {τ1 : Nat → Nat → L2.St} (v : Nat → Nat → V) (N : Nat) (h : EvI wi σ H n Y) (hN : N ≤ 40000) (hz : ∀ i, i ≤ n → ((List.range i).flatMap fun i => (List.range (n1 i)).map (v i)).length ≤ N) (hb : BdG g (wipe σ vs) n Y τ) (hw : ∀ i, i < n → wipe (τ i) vs = wipe σ vs)
    (h1 : ∀ i H1, i < n → Ex H H1 → EvI wi1 (τ i) H1 (n1 i) (Y1 i)) (hb1 : ∀ i, i < n → BdG g1 (wipe (τ i) vs1) (n1 i) (Y1 i) (τ1 i)) (hw1 : ∀ i j, i < n → j < n1 i → wipe (τ1 i j) vs1 = wipe (τ i) vs1)
    (he : ∀ i j H1, i < n → j < n1 i → Ex H H1 → Ev te (τ1 i j) H1 (v i j)) : EvL (tLc2 wi g tYes wi1 g1 tYes te vs vs1) σ H ((List.range n).flatMap fun i => (List.range (n1 i)).map (v i)) := fun H0 e0 Q q =>
  h H0 e0 _ fun J H2 e2 w Dl hD => by
    let All : Nat → List V := fun i => (List.range i).flatMap fun i => (List.range (n1 i)).map (v i)
    have all_succ : ∀ i, All (i + 1) = All i ++ (List.range (n1 i)).map (v i) := fun i => by
      show List.flatMap _ (List.range (i + 1)) = _
      rw [List.range_succ, List.flatMap_append]
      simp [All]
    let Pv : Nat → Hp → Prop := fun i H' => H2 Dl = none ∧ Ex H2 H' ∧ H' Dl = some (.lst (All i))
    refine ⟨fun i m H' => m = n - i ∧ i ≤ n ∧ Pv i H', ⟨n, by simp, Nat.zero_le _, hD, Ex.new hD, upd_same⟩, ?_⟩
    have w' := walk_ex e0 e2 w
    rintro i m H' ⟨rfl, hi, p⟩
    by_cases hlt : i < n
    · refine .inr ⟨w'.goes i H' hlt p.2.1, Pv (i + 1), fun H'' p' => ⟨n - (i + 1), by omega, rfl, hlt, p'⟩, fun x H'' y => hb i H' x H'' _ hlt (w'.yields i H' x H'' hlt p.2.1 y) fun e => ⟨hw i hlt, ?_⟩⟩
      show wi1 (τ i) H'' _
      refine h1 i H2 hlt (e0.trans e2) H'' (p.2.1.trans e) _ fun J1 H3 e3 w1 => ?_
      let Pw : Nat → Hp → Prop := fun j G => (∀ b o, b ≠ Dl → H3 b = some o → G b = some o) ∧ Ex H2 G ∧ G Dl = some (.lst (All i ++ (List.range j).map (v i)))
      have q3 : Ex H2 H3 := (p.2.1.trans e).trans e3
      have inner : ∀ j G, Pw j G → Ex H2 G ∧ Since H'' H3 G := fun j G pw => ⟨pw.2.1, fun b o z1 z2 => pw.1 b o (fun z => by rw [z, e _ _ p.2.2] at z1; cases z1) z2⟩
      refine ⟨fun j m G => m = n1 i - j ∧ j ≤ n1 i ∧ Pw j G, ⟨n1 i, by simp, Nat.zero_le _, fun b o _ z => z, q3, by rw [(e.trans e3) _ _ p.2.2]; simp⟩, ?_⟩
      rintro j m G ⟨rfl, hj, pw⟩
      by_cases hjl : j < n1 i
      · refine .inr ⟨w1.goes j G hjl (inner j G pw), Pw (j + 1), fun G' pw' => ⟨n1 i - (j + 1), by omega, rfl, hjl, pw'⟩, fun x1 G' y1 => ?_⟩
        refine hb1 i hlt j G x1 G' _ hjl (w1.yields j G x1 G' hjl (inner j G pw) y1) fun eG => ⟨hw1 i j hlt hjl, ?_⟩
        show te (τ1 i j) G' _
        refine he i j H2 hlt hjl (e0.trans e2) G' (pw.2.1.trans eG) _ fun G4 e4 => ⟨_, (eG.trans e4) _ _ pw.2.2, ?_, ?_⟩
        · have s1 := hz (i + 1) (by omega)
          have s2 : (All (i + 1)).length ≤ N := s1
          rw [all_succ] at s2
          simp only [List.length_append, List.length_map, List.length_range] at s2 ⊢
          exact sz_lt (by omega)
        · refine ⟨fun b o hb' z => by rw [upd_ne hb']; exact (eG.trans e4) _ _ (pw.1 b o hb' z), Ex.mut (pw.2.1.trans (eG.trans e4)) hD, ?_⟩
          rw [upd_same, List.range_succ, List.map_append, ← List.append_assoc]
          rfl
      · have ej : j = n1 i := by omega
        subst ej
        refine .inl ⟨w1.stops G (inner _ G pw), p.1, pw.2.1, ?_⟩
        rw [pw.2.2, all_succ]
    · have e : i = n := by omega
      subst e
      exact .inl ⟨w'.stops H' p.2.1, q Dl H' (fresh_back e2 p.1) (e2.trans p.2.1) p.2.2⟩
end

theorem pi_listK {X : Cx} {K : PySem.W.Frag} {tg l : Expr} {tl : TE} (hl : PE X l tl) (hk : X.K = K := by rfl) : PI X tg l (iList K tl) := by subst hk; exact pi_list hl
theorem cr_allK {X : Cx} {K : PySem.W.Frag} (hc : X.calm = true) (hk : X.K = K := by rfl) : CallR X (.builtin "all") (rAll K) := by subst hk; exact cr_all hc
/-- either of two rules of a call -/
def rOr (r1 r2 : List V → Hp → VK → Prop) : List V → Hp → VK → Prop := fun xs H Q => r1 xs H Q ∨ r2 xs H Q
theorem call_or {X : Cx} {f : Value} {r1 r2 : List V → Hp → VK → Prop} (h1 : CallR X f r1) (h2 : CallR X f r2) : CallR X f (rOr r1 r2) := fun pins s σ H xs us Q I r h => h.elim (h1 pins s σ H xs us Q I r) (h2 pins s σ H xs us Q I r)

/-! ### operators of own classes -/
section
variable {X : Cx} {CX : CXT} {pins : List (Addr × Obj)} {σ : L2.St} {H : Hp} {s : Shared} {f C : Addr} {fd : FuncData} {ps : List Str} {n : Nat} {sp : Sp}
theorem run_own {E : XK} {Q : VK} {us : List Value} {vs : List V} (F : FnOk X.prog X.w X.K X.mg X.base CX n f fd ps sp) (hr : Room n X.A) (hb : Binds X.K fd ps []) (hx : PassesAt CX X σ E)
    (I : Inv X pins σ H s) (r : Vals vs us) (h : sp vs H Q E) : wpAny (model X.prog X.w) X.A (call (.ref f) us) (PySem.W.CmpBack (EP X pins σ Q)) X.xe s := by
  have hl : us.length = ps.length := by rw [← r.length]; exact F.len _ _ _ _ h
  have b := hb s us I.kIn (by rw [List.append_nil]; exact hl)
  rw [List.append_nil] at b
  refine wpAny_call (codeAny_mono (F.run X.A X.stack s H ⟨us, []⟩ us vs Q E hr I.env0 b r h) fun r s' hq => ?_)
  cases r with
  | error e => exact hx pins H s e s' I hq
  | ok fl =>
    cases fl with
    | ret u =>
      obtain ⟨v, H', I', rv, q⟩ := I.after hq
      exact SlX.cmpback rv ⟨v, H', I', rv, q⟩
    | next => exact False.elim hq
    | brk => exact False.elim hq
    | cont => exact False.elim hq
end
/-- what an own operator asks: x an object of the class at C -/
def rOwn1 (C : Addr) (sp : Sp) (E : L2.St → XK) (σ : L2.St) : V → Hp → VK → Prop := fun x H Q => ∃ a dx fs, x = .ref a ∧ H a = some (.ins C dx fs) ∧ sp [x] H Q (E σ)
/-- .. y an object of the same class -/
def rOwn2 (C : Addr) (sp : Sp) (E : L2.St → XK) (σ : L2.St) : R2 := fun x y H Q => ∃ a dx fs b dy gs, x = .ref a ∧ H a = some (.ins C dx fs) ∧ y = .ref b ∧ H b = some (.ins C dy gs) ∧ sp [x, y] H Q (E σ)
/-- .. y an int -/
def rOwnI (C : Addr) (sp : Sp) (E : L2.St → XK) (σ : L2.St) : R2 := fun x y H Q => ∃ a dx fs i, x = .ref a ∧ H a = some (.ins C dx fs) ∧ y = .int i ∧ sp [x, y] H Q (E σ)
def OpS (X : Cx) (f : Value → Value → Sem Value) (r : L2.St → R2) : Prop :=
  ∀ (pins : List (Addr × Obj)) (s : Shared) (σ : L2.St) (H : Hp) (x y : V) (v u : Value) (Q : VK), Inv X pins σ H s → RelV x v → RelV y u → r σ x y H Q → wpAny (model X.prog X.w) X.A (f v u) (EP X pins σ Q) X.xe s
def UnS (X : Cx) (f : Value → Sem Value) (r : L2.St → V → Hp → VK → Prop) : Prop :=
  ∀ (pins : List (Addr × Obj)) (s : Shared) (σ : L2.St) (H : Hp) (x : V) (v : Value) (Q : VK), Inv X pins σ H s → RelV x v → r σ x H Q → wpAny (model X.prog X.w) X.A (f v) (EP X pins σ Q) X.xe s
def tOpS (r : L2.St → R2) (ta tb : TE) : TE := fun σ H Q => ta σ H fun x H1 => tb σ H1 fun y H2 => r σ x y H2 Q
def tUnS (r : L2.St → V → Hp → VK → Prop) (ta : TE) : TE := fun σ H Q => ta σ H fun x H1 => r σ x H1 Q
section
variable {X : Cx} {CX : CXT} {f C : Addr} {fd : FuncData} {ps : List Str} {n : Nat} {sp : Sp} {E : L2.St → XK} {op : Operator} {a b : Expr} {ta tb : TE} {pos : Pos}
theorem pe_opS {r : L2.St → R2} (ho : OpS X (binaryOp op) r) (ha : PE X a ta) (hb : PE X b tb) : PE X (.BinOp a op b pos) (tOpS r ta tb) := by
  refine ⟨fun pins s σ H Q I h => ?_⟩
  exact wpAny_BinOp (binT ha hb I h fun v u s2 x y H2 I2 rx ry q => ho pins s2 σ H2 x y v u Q I2 rx ry q)
theorem pe_unS {op : UnaryOp} {r : L2.St → V → Hp → VK → Prop} (ho : UnS X (unaryOp op) r) (ha : PE X a ta) : PE X (.UnaryOp op a pos) (tUnS r ta) := by
  refine ⟨fun pins s σ H Q I h => ?_⟩
  exact PyProof.Rows.UnaryOp_ (thn (ha.run pins s σ H _ I h) fun v s1 ⟨x, H1, I1, r1, q1⟩ => ho pins s1 σ H1 x v Q I1 r1 q1)
/-- the facts of a class with operators -/
structure Ops (K : PySem.W.Frag) (C : Addr) : Prop where
  first : PySem.W.selfFirst K C = true
  sub : PySem.W.subIn K (.type "int") (.ref C) = some false
theorem un_negO (m : Meth X.K C "__neg__" f) (F : FnOk X.prog X.w X.K X.mg X.base CX n f fd ps sp) (hr : Room n X.A) (hb : Binds X.K fd ps []) (hx : ∀ σ, PassesAt CX X σ (E σ)) : UnS X (unaryOp .USub) (rOwn1 C sp E) := by
  intro pins s σ H x v Q I rx h
  obtain ⟨a, dx, fs, rfl, ha, h⟩ := h
  cases rx
  obtain ⟨mA, J, _⟩ := ins_get I.hok ha
  obtain ⟨od, J, _⟩ := J.look
  obtain ⟨m', hF⟩ := I.fr
  refine PySem.W.ksp_neg hF I.ok.mod.kin J m.at_ m.fn (wpAny_mono (run_own (vs := [V.ref a]) F hr hb (hx σ) I (.cons rfl .nil) h) (fun v s' hv => ?_) fun _ _ e => e)
  cases v <;> first | exact hv.elim | exact hv
theorem un_invO (m : Meth X.K C "__invert__" f) (F : FnOk X.prog X.w X.K X.mg X.base CX n f fd ps sp) (hr : Room n X.A) (hb : Binds X.K fd ps []) (hx : ∀ σ, PassesAt CX X σ (E σ)) : UnS X (unaryOp .Invert) (rOwn1 C sp E) := by
  intro pins s σ H x v Q I rx h
  obtain ⟨a, dx, fs, rfl, ha, h⟩ := h
  cases rx
  obtain ⟨mA, J, _⟩ := ins_get I.hok ha
  obtain ⟨od, J, _⟩ := J.look
  obtain ⟨m', hF⟩ := I.fr
  refine PySem.W.ksp_inv hF I.ok.mod.kin J m.at_ m.fn (wpAny_mono (run_own (vs := [V.ref a]) F hr hb (hx σ) I (.cons rfl .nil) h) (fun v s' hv => ?_) fun _ _ e => e)
  cases v <;> first | exact hv.elim | exact hv
theorem op_own2 (o : Ops X.K C) (m : Meth X.K C (PySem.dunder op.info.2) f) (F : FnOk X.prog X.w X.K X.mg X.base CX n f fd ps sp) (hr : Room n X.A) (hb : Binds X.K fd ps []) (hx : ∀ σ, PassesAt CX X σ (E σ)) : OpS X (binaryOp op) (rOwn2 C sp E) := by
  intro pins s σ H x y v u Q I rx ry h
  obtain ⟨a, dx, fs, b, dy, gs, rfl, ha, rfl, hb', h⟩ := h
  cases rx
  cases ry
  obtain ⟨mA, J, _⟩ := ins_get I.hok ha
  obtain ⟨od, J, _⟩ := J.look
  obtain ⟨mB, J', _⟩ := ins_get I.hok hb'
  obtain ⟨od', J', _⟩ := J'.look
  obtain ⟨m', hF⟩ := I.fr
  exact PySem.W.binop_K hF I.ok.mod.kin J J'.type o.first m.at_ m.fn (run_own (vs := [V.ref a, V.ref b]) F hr hb (hx σ) I (.cons rfl (.cons rfl .nil)) h)
theorem op_ownI {rc : Option Value} {fo ro : Option Value} (o : Ops X.K C) (m : Meth X.K C (PySem.dunder op.info.2) f) (hrc : PySem.W.findIn X.K (.ref C) (dunderR op.info.2) = some rc) (hp : rc = none ∨ ∃ g : Addr, rc = some (.ref g))
    (h1 : PySem.W.findIn X.K (.type "int") (PySem.dunder op.info.2) = some fo) (h2 : PySem.W.findIn X.K (.type "int") (dunderR op.info.2) = some ro)
    (F : FnOk X.prog X.w X.K X.mg X.base CX n f fd ps sp) (hr : Room n X.A) (hb : Binds X.K fd ps []) (hx : ∀ σ, PassesAt CX X σ (E σ)) : OpS X (binaryOp op) (rOwnI C sp E) := by
  intro pins s σ H x y v u Q I rx ry h
  obtain ⟨a, dx, fs, i, rfl, ha, rfl, h⟩ := h
  cases rx
  obtain ⟨t, rfl⟩ := (show ∃ t, u = Value.int i t from ry)
  obtain ⟨mA, J, _⟩ := ins_get I.hok ha
  obtain ⟨od, J, _⟩ := J.look
  obtain ⟨m', hF⟩ := I.fr
  exact PySem.W.ksp_binT hF I.ok.mod.kin J rfl o.first m.at_ m.fn hrc hp h1 h2 o.sub (run_own (vs := [V.ref a, V.int i]) F hr hb (hx σ) I (.cons rfl (.cons ⟨t, rfl⟩ .nil)) h)
end
section
variable {X : Cx} {CX : CXT} {pins : List (Addr × Obj)} {σ : L2.St} {H : Hp} {s : Shared} {f C : Addr} {fd : FuncData} {ps : List Str} {n : Nat} {sp : Sp}
/-- .. called from a place A below the running body -/
theorem run_ownA {A : Around} {E : XK} {Q : VK} {us : List Value} {vs : List V} (F : FnOk X.prog X.w X.K X.mg X.base CX n f fd ps sp) (hr : Room n A) (hf : A.frames = X.A.frames) (hb : Binds X.K fd ps []) (hx : PassesAt CX X σ E)
    (I : Inv X pins σ H s) (r : Vals vs us) (h : sp vs H Q E) : wpAny (model X.prog X.w) A (call (.ref f) us) (EP X pins σ Q) X.xe s := by
  have hl : us.length = ps.length := by rw [← r.length]; exact F.len _ _ _ _ h
  have b := hb s us I.kIn (by rw [List.append_nil]; exact hl)
  rw [List.append_nil] at b
  have e0 : Env0 X.prog X.w X.K X.mg X.base A X.stack s H := by
    have e := I.env0
    exact ⟨by rw [hf]; exact e.frames, e.mod, e.bs, e.bsz, e.funs, e.frf, e.hok, e.bare⟩
  refine wpAny_call (codeAny_mono (F.run A X.stack s H ⟨us, []⟩ us vs Q E hr e0 b r h) fun r s' hq => ?_)
  cases r with
  | error e => exact hx pins H s e s' I hq
  | ok fl =>
    cases fl with
    | ret u => exact I.after hq
    | next => exact False.elim hq
    | brk => exact False.elim hq
    | cont => exact False.elim hq
theorem ty_looks {x : V} {u t : Value} (I : Inv X pins σ H s) (rx : RelV x u) (ty : TyX X.K H x t) : PySem.W.Looks (model X.prog X.w) s.heap (typeOf u) t := by
  obtain ⟨P, kx, hp, _⟩ := kit_of I rx ty
  exact kx.ty _ _ I.kIn hp
end
/-- x an object of the class at C, y of any known type -/
def rOwnC (K : PySem.W.Frag) (C : Addr) (sp : Sp) (E : L2.St → XK) (σ : L2.St) : R2 := fun x y H Q => ∃ a dx fs tb, x = .ref a ∧ H a = some (.ins C dx fs) ∧ TyX K H y tb ∧ PySem.W.notFirst K C tb = true ∧ sp [x, y] H Q (E σ)
/-- not ==: the other answer -/
def rOwnN (K : PySem.W.Frag) (C : Addr) (sp : Sp) (E : L2.St → XK) (σ : L2.St) : R2 := fun x y H Q => ∃ a dx fs tb, x = .ref a ∧ H a = some (.ins C dx fs) ∧ TyX K H y tb ∧ PySem.W.notFirst K C tb = true ∧ sp [x, y] H (fun v H' => ∃ b, v = .bl b ∧ Q (.bl (!b)) H') (E σ)
/-- y in x, x an object of the class at C -/
def rOwnIn (C : Addr) (sp : Sp) (E : L2.St → XK) (σ : L2.St) : R2 := fun y x H Q => ∃ a dx fs, x = .ref a ∧ H a = some (.ins C dx fs) ∧ sp [x, y] H (fun v H' => ∃ b, v = .bl b ∧ Q (.bl b) H') (E σ)
section
variable {X : Cx} {CX : CXT} {f C : Addr} {fd : FuncData} {ps : List Str} {n : Nat} {sp : Sp} {E : L2.St → XK} {a b : Expr} {ta tb : TE} {pos : Pos}
theorem pe_cmpS {op : CmpOp} {r : L2.St → R2} (ho : OpS X (compareOp op) r) (ha : PE X a ta) (hb : PE X b tb) (hm : behindInMarks op b = false) : PE X (.Compare a [op] [b] pos) (tOpS r ta tb) := by
  refine ⟨fun pins s σ H Q I h => ?_⟩
  exact wpAny_Compare1 (binT ha hb I h fun v u s2 x y H2 I2 rx ry q => ho pins s2 σ H2 x y v u Q I2 rx ry q) hm
theorem pt_cmpS {op : CmpOp} {r : L2.St → R2} (ho : OpS X (compareOp op) r) (ha : PE X a ta) (hb : PE X b tb) (hm : behindInMarks op b = false) : PT X (.Compare a [op] [b] pos) (tTest (tOpS r ta tb)) := by
  refine ⟨fun pins s σ H Q I h => ?_⟩
  refine wpAny_isTrue_Compare1 (thn (ha.run pins s σ H _ I h) fun v s1 ⟨x, H1, I1, r1, q1⟩ => thn (hb.run pins s1 σ H1 _ I1 q1) fun u s2 ⟨y, H2, I2, r2, q2⟩ =>
    thn (ho pins s2 σ H2 x y v u _ I2 r1 r2 q2) fun c s3 ⟨z, H3, I3, r3, k, e, q3⟩ => ?_) hm
  subst e
  cases r3
  exact wpAny_truthy_bool ⟨H3, I3, q3⟩
theorem op_ownC {K : PySem.W.Frag} {op : CmpOp} (hop : ∀ v u, compareOp op v u = richCompare op v u) (m : Meth X.K C (cmpInfo op).2.1 f) (F : FnOk X.prog X.w X.K X.mg X.base CX n f fd ps sp) (hr : Room n X.A) (hb : Binds X.K fd ps []) (hx : ∀ σ, PassesAt CX X σ (E σ))
    (hk : X.K = K := by rfl) : OpS X (compareOp op) (rOwnC K C sp E) := by
  subst hk
  intro pins s σ H x y v u Q I rx ry h
  obtain ⟨a, dx, fs, tb, rfl, ha, ty, nf, h⟩ := h
  cases rx
  obtain ⟨mA, J, _⟩ := ins_get I.hok ha
  obtain ⟨od, J, _⟩ := J.look
  obtain ⟨m', hF⟩ := I.fr
  rw [hop]
  exact PySem.W.cmp_K hr.units0 hF I.ok.mod.kin J (ty_looks I ry ty) nf m.at_ m.fn (run_own (vs := [V.ref a, y]) F hr hb (hx σ) I (.cons rfl (.cons ry .nil)) h)
/-- len of an object with an own __len__ -/
def rOwnLen (C : Addr) (sp : Sp) (E : XK) : List V → Hp → VK → Prop := fun xs H Q => ∃ a dx fs, xs = [.ref a] ∧ H a = some (.ins C dx fs) ∧ sp [.ref a] H (fun v H' => ∃ i : Int, v = .int i ∧ (0 ≤ i ∧ i < 2 ^ 63) ∧ Q (.int i) H') E
theorem call_lenO {E : XK} (m : Meth X.K C "__len__" f) (F : FnOk X.prog X.w X.K X.mg X.base CX n f fd ps sp) (hr : Room (n + 1) X.A) (hb : Binds X.K fd ps []) (hx : ∀ σ, PassesAt CX X σ E) : CallR X (.builtin "len") (rOwnLen C sp E) := by
  intro pins s σ H xs us Q I r h
  obtain ⟨a, dx, fs, rfl, ha, h⟩ := h
  obtain ⟨u, rfl, rx⟩ := vals1 r
  cases rx
  obtain ⟨mA, J, _⟩ := ins_get I.hok ha
  obtain ⟨od, J, _⟩ := J.look
  obtain ⟨m', hF⟩ := I.fr
  refine PySem.W.len_K hF I.ok.mod.kin J m.at_ m.fn (wpAny_mono (run_ownA (vs := [V.ref a]) F hr.in1 rfl hb (hx σ) I (.cons rfl .nil) h) (fun v s' hv => ?_) fun _ _ e => e)
  obtain ⟨z, H', I', rv, i, rfl, hi, q⟩ := hv
  obtain ⟨t, rfl⟩ := (show ∃ t, v = Value.int i t from rv)
  exact ⟨hi, ⟨.int i, H', I'.tok _, ⟨_, rfl⟩, q⟩⟩
theorem op_ownIn (m : Meth X.K C "__contains__" f) (F : FnOk X.prog X.w X.K X.mg X.base CX n f fd ps sp) (hr : Room n X.A) (hb : Binds X.K fd ps []) (hx : ∀ σ, PassesAt CX X σ (E σ)) : OpS X (compareOp .In) (rOwnIn C sp E) := by
  intro pins s σ H y x u v Q I ry rx h
  obtain ⟨a, dx, fs, rfl, ha, h⟩ := h
  cases rx
  obtain ⟨mA, J, _⟩ := ins_get I.hok ha
  obtain ⟨od, J, _⟩ := J.look
  have hX := I.kIn
  have one := run_own (vs := [V.ref a, y]) F hr hb (hx σ) I (.cons rfl (.cons ry .nil)) h
  show wpAny _ _ (do return Value.bool (← contains (.ref a) u)) _ X.xe s
  refine wpAny_bind ?_
  unfold contains
  refine wpAny_holding ?_
  refine wpAny_bind (wpAny_bind (J.type.here ((PySem.W.looks_findIn hX m.at_).here ?_)))
  show wpAny _ _ (if (some (Value.ref f) == some Value.none) = true then _ else _) _ X.xe s
  rw [if_neg (by simp)]
  unfold callSpecialUnlessNone?
  refine wpAny_bind (wpAny_bind (wpAny_bind (J.type.here ((PySem.W.looks_findIn hX m.at_).here ?_))))
  refine wpAny_holding (wpAny_bind ((PySem.W.bind_fn hX _ (beq_iff_eq.mp m.fn)).here ?_))
  show wpAny _ _ (if (Value.ref f == Value.none) = true then _ else _) _ X.xe s
  rw [if_neg (by simp)]
  refine wpAny_bind (wpAny_mono one (fun z s' hz => ?_) fun _ _ e => e)
  have hz' : (EP X pins σ fun v H' => ∃ b, v = .bl b ∧ Q (.bl b) H') z s' := by
    cases z <;> first | exact hz.elim | exact hz
  obtain ⟨v, H', I', rv, b, rfl, q⟩ := hz'
  cases (show z = Value.bool b from rv)
  refine wpAny_pure ?_
  exact wpAny_truthy_bool (wpAny_pure ⟨.bl b, H', I', rfl, q⟩)
end
/-! ### x op= y for classes without the in-place method -/
section
variable {prog : Program} {w : World} {A : Around} {R : Value → Shared → Prop} {s : Shared} {K : PySem.W.Frag} {x C f : Addr} {ox : Obj} {od : Option Obj} {y : Value} {nm : String}
/-- the first class of a class at C is the class itself -/
theorem mro_first (hc : PySem.W.selfFirst K C = true) : ∃ (d : ClassData) (r : List Value), PySem.W.clsIn K C = some d ∧ d.mro = .ref C :: r := by
  obtain ⟨d, hd, e⟩ := PySem.W.any_some hc
  cases q : d.mro with
  | nil => rw [q] at e; cases e
  | cons u r =>
    rw [q] at e
    cases (beq_iff_eq.mp e)
    exact ⟨d, r, hd, q⟩
theorem bin1_own {Q : Option Value → Shared → Prop} (X : K.In s.heap) (I : PySem.W.InstAt s.heap x ox C od) (hy : PySem.W.Looks (model prog w) s.heap (typeOf y) (.ref C)) (hc : PySem.W.selfFirst K C = true)
    (hs : PySem.W.findIn K (.ref C) (PySem.dunder nm) = some (some (.ref f))) (hf : PySem.W.isFn K (.ref f) = true) (h : wpAny (model prog w) A (call (.ref f) [.ref x, y]) (PySem.W.CmpBack fun v => Q (some v)) R s) :
    wpAny (model prog w) A (binaryOp1 nm (.ref x) y) Q R s := by
  obtain ⟨d, r, hd, hm⟩ := mro_first hc
  have fl := PySem.W.fills_K (M := model prog w) X hd hm hs
  unfold binaryOp1
  refine wpAny_bind (I.type.here ?_)
  refine wpAny_bind (hy.here ?_)
  refine wpAny_bind (fl.here ?_)
  simp only [beq_self_eq_true, if_true]
  refine wpAny_bind (wpAny_pure ?_)
  simp only [Bool.and_false, Bool.false_and, Bool.false_eq_true, if_false]
  refine wpAny_bind (wpAny_pure ?_)
  simp only [Bool.false_eq_true, if_false]
  refine wpAny_bind (m := tryMethod (.ref x) _ y) ?_
  unfold tryMethod
  refine wpAny_bind ?_
  refine PySem.W.special_fn X I hs (beq_iff_eq.mp hf) (wpAny_mono h (fun v t hv => ?_) fun _ _ z => z)
  cases v <;> first | exact hv.elim | exact wpAny_pure (wpAny_pure hv)
theorem no_inplace {M : Model} {h : Heap} {add : Bool} (X : K.In h) {d : ClassData} (hd : PySem.W.clsIn K C = some d) (hm : d.mro = [.ref C, .type "object"]) (hc : PySem.W.findIn K (.ref C) (dunderI nm) = some none)
    (ho : PySem.W.findIn K (.type "object") (dunderI nm) = some none) : PySem.W.Looks M h (fillsInplaceSlot (.ref C) nm add) false := by
  intro A Q E s k q
  have Lm : PySem.W.Looks M h (mroOf (.ref C)) d.mro := (PySem.W.looks_clsIn X hd).andThen (f := fun d => pure d.mro) .now
  have X' : K.In s.heap := X.keeps k
  have L1 : PySem.W.Looks M s.heap (typeLookup (.ref C) (dunderI nm)) none := PySem.W.looks_findIn X' hc
  have L2 : PySem.W.Looks M s.heap (typeLookup (.type "object") (dunderI nm)) none := PySem.W.looks_findIn X' ho
  unfold fillsInplaceSlot
  refine wpAny_bind ((Lm.keeps k).here ?_)
  rw [hm, List.anyM_cons]
  refine wpAny_bind (wpAny_bind (L1.here (wpAny_pure ?_)))
  simp only [Bool.false_eq_true, if_false]
  rw [List.anyM_cons]
  refine wpAny_bind (wpAny_bind (L2.here (wpAny_pure ?_)))
  simp only [Bool.false_eq_true, if_false]
  exact wpAny_pure q
theorem inplace_by {op : Operator} {Q : Value → Shared → Prop} (I : PySem.W.InstAt s.heap x ox C od) (L : PySem.W.Looks (model prog w) s.heap (fillsInplaceSlot (.ref C) op.info.2 (op == .Add)) false)
    (h : wpAny (model prog w) A (binaryOp1 op.info.2 (.ref x) y) (fun r t => ∃ v, r = some v ∧ Q v t) R s) : wpAny (model prog w) A (inplaceOp op (.ref x) y) Q R s := by
  unfold inplaceOp
  refine wpAny_holding ?_
  refine wpAny_bind (I.type.here ?_)
  refine wpAny_bind (L.here ?_)
  simp only [Bool.false_eq_true, if_false]
  refine wpAny_bind (wpAny_mono h (fun r t hr => ?_) fun _ _ z => z)
  obtain ⟨v, rfl, q⟩ := hr
  exact wpAny_pure q
theorem bin1_int {i : Int} {t : Tok} {Q : Option Value → Shared → Prop} {rc fo ro : Option Value} (X : K.In s.heap) (I : PySem.W.InstAt s.heap x ox C od) (hc : PySem.W.selfFirst K C = true)
    (hs : PySem.W.findIn K (.ref C) (PySem.dunder nm) = some (some (.ref f))) (hf : PySem.W.isFn K (.ref f) = true) (hr : PySem.W.findIn K (.ref C) (dunderR nm) = some rc) (hp : rc = none ∨ ∃ g : Addr, rc = some (.ref g))
    (h1 : PySem.W.findIn K (.type "int") (PySem.dunder nm) = some fo) (h2 : PySem.W.findIn K (.type "int") (dunderR nm) = some ro) (hsub : PySem.W.subIn K (.type "int") (.ref C) = some false)
    (h : wpAny (model prog w) A (call (.ref f) [.ref x, .int i t]) (PySem.W.CmpBack fun v => Q (some v)) R s) : wpAny (model prog w) A (binaryOp1 nm (.ref x) (.int i t)) Q R s := by
  obtain ⟨d, r, hd, hm⟩ := mro_first hc
  have la : PySem.W.Looks (model prog w) s.heap (fillsNumberSlot (.ref C) nm) true := PySem.W.fills_K X hd hm hs
  have lb : PySem.W.Looks (model prog w) s.heap (fillsNumberSlot (.type "int") nm) ((fo.isSome && !isSeqSlot fo) || (ro.isSome && !isSeqSlot ro)) := PySem.W.ksp_fillsT X h1 h2
  have ls : PySem.W.Looks (model prog w) s.heap (isSubtype (.type "int") (.ref C)) false := PySem.W.looks_subIn X hsub
  have lp : PySem.W.Looks (model prog w) s.heap (numberSlotInPython (.ref C) nm) true := PySem.W.ksp_inPy X hs hr hp
  have lq : PySem.W.Looks (model prog w) s.heap (numberSlotInPython (.type "int") nm) false := PySem.W.Looks.of_pure rfl
  have lt : PySem.W.Looks (model prog w) s.heap (typeLookup (.type "int") (dunderR nm)) ro := PySem.W.looks_findIn X h2
  have ly : PySem.W.Looks (model prog w) s.heap (typeOf (.int i t)) (.type "int") := PySem.W.Looks.of_pure rfl
  generalize ((fo.isSome && !isSeqSlot fo) || (ro.isSome && !isSeqSlot ro)) = right at lb
  have ne : (Value.ref C == Value.type "int") = false := by simp
  have one : wpAny (model prog w) A (tryMethod (.ref x) (PySem.dunder nm) (.int i t)) (fun r s' => ∃ v, r = some v ∧ Q (some v) s') R s := by
    unfold tryMethod
    refine wpAny_bind (PySem.W.special_fn X I hs (beq_iff_eq.mp hf) (wpAny_mono h (fun v s' hv => ?_) fun _ _ z => z))
    cases v <;> first | exact hv.elim | exact wpAny_pure ⟨_, rfl, hv⟩
  unfold binaryOp1
  refine wpAny_bind (I.type.here ?_)
  refine wpAny_bind (ly.here ?_)
  refine wpAny_bind (la.here ?_)
  simp only [ne, Bool.false_eq_true, if_false]
  refine wpAny_bind (lb.here ?_)
  cases right with
  | false =>
    simp only [Bool.and_false, Bool.false_and, Bool.false_eq_true, if_false, if_true]
    refine wpAny_bind (wpAny_pure ?_)
    simp only [Bool.false_eq_true, if_false]
    refine wpAny_bind (wpAny_mono one (fun r s' hr' => ?_) fun _ _ z => z)
    obtain ⟨v, rfl, q⟩ := hr'
    exact wpAny_pure q
  | true =>
    simp only [Bool.and_true, Bool.not_false, if_true]
    refine wpAny_bind (ls.here ?_)
    simp only [Bool.false_eq_true, if_false]
    refine wpAny_bind (lp.here ?_)
    simp only [if_true]
    refine wpAny_bind (lq.here ?_)
    simp only [Bool.not_false, if_true]
    refine wpAny_bind (lt.here ?_)
    refine wpAny_bind (wpAny_mono one (fun r s' hr' => ?_) fun _ _ z => z)
    obtain ⟨v, rfl, q⟩ := hr'
    exact wpAny_pure q
end
/-- what a class without in-place methods has -/
structure NoIn (K : PySem.W.Frag) (C : Addr) (d : ClassData) : Prop where
  at_ : PySem.W.clsIn K C = some d
  mro : d.mro = [.ref C, .type "object"]
section
variable {X : Cx} {CX : CXT} {f C : Addr} {fd : FuncData} {ps : List Str} {n : Nat} {sp : Sp} {E : XK} {op : Operator} {d : ClassData}
theorem ip_own2 (o : Ops X.K C) (ni : NoIn X.K C d) (m : Meth X.K C (PySem.dunder op.info.2) f) (h1 : PySem.W.findIn X.K (.ref C) (dunderI op.info.2) = some none) (h2 : PySem.W.findIn X.K (.type "object") (dunderI op.info.2) = some none)
    (F : FnOk X.prog X.w X.K X.mg X.base CX n f fd ps sp) (hr : Room n X.A) (hb : Binds X.K fd ps []) (hx : ∀ σ, PassesAt CX X σ E) : OpR X (inplaceOp op) (rOwn2 C sp (fun _ => E) []) := by
  intro pins s σ H x y v u Q I rx ry h
  obtain ⟨a, dx, fs, b, dy, gs, rfl, ha, rfl, hb', h⟩ := h
  cases rx
  cases ry
  obtain ⟨mA, J, _⟩ := ins_get I.hok ha
  obtain ⟨od, J, _⟩ := J.look
  obtain ⟨mB, J', _⟩ := ins_get I.hok hb'
  obtain ⟨od', J', _⟩ := J'.look
  refine inplace_by J (no_inplace I.kIn ni.at_ ni.mro h1 h2) (bin1_own I.kIn J J'.type o.first m.at_ m.fn (wpAny_mono (run_own (vs := [V.ref a, V.ref b]) F hr hb (hx σ) I (.cons rfl (.cons rfl .nil)) h) (fun v s' hv => ?_) fun _ _ e => e))
  cases v <;> first | exact hv.elim | exact ⟨_, rfl, hv⟩
theorem ip_ownI {rc fo ro : Option Value} (o : Ops X.K C) (ni : NoIn X.K C d) (m : Meth X.K C (PySem.dunder op.info.2) f) (hi1 : PySem.W.findIn X.K (.ref C) (dunderI op.info.2) = some none) (hi2 : PySem.W.findIn X.K (.type "object") (dunderI op.info.2) = some none)
    (hrc : PySem.W.findIn X.K (.ref C) (dunderR op.info.2) = some rc) (hp : rc = none ∨ ∃ g : Addr, rc = some (.ref g)) (h1 : PySem.W.findIn X.K (.type "int") (PySem.dunder op.info.2) = some fo) (h2 : PySem.W.findIn X.K (.type "int") (dunderR op.info.2) = some ro)
    (F : FnOk X.prog X.w X.K X.mg X.base CX n f fd ps sp) (hr : Room n X.A) (hb : Binds X.K fd ps []) (hx : ∀ σ, PassesAt CX X σ E) : OpR X (inplaceOp op) (rOwnI C sp (fun _ => E) []) := by
  intro pins s σ H x y v u Q I rx ry h
  obtain ⟨a, dx, fs, i, rfl, ha, rfl, h⟩ := h
  cases rx
  obtain ⟨t, rfl⟩ := (show ∃ t, u = Value.int i t from ry)
  obtain ⟨mA, J, _⟩ := ins_get I.hok ha
  obtain ⟨od, J, _⟩ := J.look
  refine inplace_by J (no_inplace I.kIn ni.at_ ni.mro hi1 hi2) (bin1_int I.kIn J o.first m.at_ m.fn hrc hp h1 h2 o.sub (wpAny_mono (run_own (vs := [V.ref a, V.int i]) F hr hb (hx σ) I (.cons rfl (.cons ⟨t, rfl⟩ .nil)) h) (fun v s' hv => ?_) fun _ _ e => e))
  cases v <;> first | exact hv.elim | exact ⟨_, rfl, hv⟩
end
theorem pAt {X : Cx} {CX : CXT} {E : XK} (h : Passes CX X E) : ∀ σ : L2.St, PassesAt CX X σ E := fun σ pins H s e s' I c => h pins σ H s e s' I c
/-- what a binary operator with an int on the right asks of the class at C -/
structure IntOp (K : PySem.W.Frag) (C : Addr) (nm : String) : Prop where
  rc : ∃ rc, PySem.W.findIn K (.ref C) (dunderR nm) = some rc ∧ (rc = none ∨ ∃ g : Addr, rc = some (.ref g))
  lo : ∃ fo, PySem.W.findIn K (.type "int") (PySem.dunder nm) = some fo
  ro : ∃ ro, PySem.W.findIn K (.type "int") (dunderR nm) = some ro
section
variable {X : Cx} {CX : CXT} {f C : Addr} {fd : FuncData} {ps : List Str} {n : Nat} {sp : Sp} {op : Operator}
theorem op_ownJ {E : L2.St → XK} (o : Ops X.K C) (m : Meth X.K C (PySem.dunder op.info.2) f) (j : IntOp X.K C op.info.2) (F : FnOk X.prog X.w X.K X.mg X.base CX n f fd ps sp) (hr : Room n X.A) (hb : Binds X.K fd ps []) (hx : ∀ σ, PassesAt CX X σ (E σ)) :
    OpS X (binaryOp op) (rOwnI C sp E) := by
  obtain ⟨⟨rc, h1, h2⟩, ⟨fo, h3⟩, ⟨ro, h4⟩⟩ := j
  exact op_ownI o m h1 h2 h3 h4 F hr hb hx
theorem ip_ownK {E : XK} (o : Ops X.K C) (ni : ∃ d, NoIn X.K C d) (m : Meth X.K C (PySem.dunder op.info.2) f) (h : PySem.W.findIn X.K (.ref C) (dunderI op.info.2) = some none ∧ PySem.W.findIn X.K (.type "object") (dunderI op.info.2) = some none)
    (F : FnOk X.prog X.w X.K X.mg X.base CX n f fd ps sp) (hr : Room n X.A) (hb : Binds X.K fd ps []) (hx : ∀ σ, PassesAt CX X σ E) : OpR X (inplaceOp op) (rOwn2 C sp (fun _ => E) []) := by
  obtain ⟨d, ni⟩ := ni
  exact ip_own2 o ni m h.1 h.2 F hr hb hx
theorem ip_ownJ {E : XK} (o : Ops X.K C) (ni : ∃ d, NoIn X.K C d) (m : Meth X.K C (PySem.dunder op.info.2) f) (j : IntOp X.K C op.info.2) (h : PySem.W.findIn X.K (.ref C) (dunderI op.info.2) = some none ∧ PySem.W.findIn X.K (.type "object") (dunderI op.info.2) = some none)
    (F : FnOk X.prog X.w X.K X.mg X.base CX n f fd ps sp) (hr : Room n X.A) (hb : Binds X.K fd ps []) (hx : ∀ σ, PassesAt CX X σ E) : OpR X (inplaceOp op) (rOwnI C sp (fun _ => E) []) := by
  obtain ⟨d, ni⟩ := ni
  obtain ⟨⟨rc, h1, h2⟩, ⟨fo, h3⟩, ⟨ro, h4⟩⟩ := j
  exact ip_ownI o ni m h.1 h.2 h1 h2 h3 h4 F hr hb hx
end

/-! ### try with several except clauses, each with a name or without -/
def endsA (D : Ends) : Option Nat → Ends
  | none => D
  | some i => { nx := fun σ H => D.nx (σ.set i none) H, rt := D.rt, bk := fun σ H => D.bk (σ.set i none) H, ct := fun σ H => D.ct (σ.set i none) H }
def putA (σ : L2.St) (a : Addr) : Option Nat → L2.St
  | none => σ
  | some i => σ.set i (some (.ref a))
abbrev Clause := Value × Option Nat × (Addr → Value → Option Addr → TS)
/-- what the clauses wish of what the body raises, one behind another -/
def wMas (K : PySem.W.Frag) (Wo : WX) (D : Ends) : List Clause → WX
  | [] => Wo
  | q :: r => fun cls d σ H => ∃ b, PySem.W.exmOne K cls q.1 = some b ∧ (b = true → ∀ a, H a = none → q.2.2 a cls d (endsA D q.2.1) (putA σ a q.2.1) H) ∧ (b = false → wMas K Wo D r cls d σ H)
inductive Clauses (X : Cx) : List ExceptHandler → List Clause → Prop
  | nil : Clauses X [] []
  | bare {x : Str} {c : Value} {ts : Addr → Value → Option Addr → TS} {s0 : Stmt} {sr : List Stmt} {p p' : Pos} {hs : List ExceptHandler} {l : List Clause} (hc : Names X x c)
      (hb : ∀ (a : Addr) (oe : Obj) (cls : Value) (d : Option Addr) (pn : List (Addr × Obj)), Zc cls d oe → (∃ vs, oe.data = .fields vs) → PSs (X.suite a ((a, oe) :: pn)) (s0 :: sr) (ts a cls d)) (r : Clauses X hs l) :
      Clauses X (.ExceptHandler (some (.Name x p)) none (s0 :: sr) p' :: hs) ((c, none, ts) :: l)
  | named {x n : Str} {i : Nat} {c : Value} {ts : Addr → Value → Option Addr → TS} {s0 : Stmt} {sr : List Stmt} {p p' : Pos} {hs : List ExceptHandler} {l : List Clause} (hi : X.N[i]? = some n) (hl : X.env.kindOf n = some .local) (hc : Names X x c)
      (hb : ∀ (a : Addr) (oe : Obj) (cls : Value) (d : Option Addr) (pn : List (Addr × Obj)), Zc cls d oe → (∃ vs, oe.data = .fields vs) → PSs (X.suite a ((a, oe) :: pn)) (s0 :: sr) (ts a cls d)) (r : Clauses X hs l) :
      Clauses X (.ExceptHandler (some (.Name x p)) (some n) (s0 :: sr) p' :: hs) ((c, some i, ts) :: l)
section
open PySem.Spec PyProof.Rows
variable {X : Cx} {body : List Stmt} {h0 : ExceptHandler} {hs : List ExceptHandler} {l : List Clause} {pos : Pos} {tb : WX → TS} {Wo : WX}
theorem ps_try_mas (hst : X.stack = X.env :: X.outer) (hfm : X.env.frame = some X.env.locals) (hND : X.N.Nodup) (tk : Takes X Wo)
    (hbody : ∀ (W : WX) (pn : List (Addr × Obj)) (xe : Value → Shared → Prop), Takes (X.tr pn xe) W → PassesOwn (model X.prog X.w) X.A X.env xe → PSs (X.tr pn xe) body (tb W))
    (hcl : Clauses X (h0 :: hs) l) : PS X (.Try body (h0 :: hs) [] [] pos) (fun D σ H => tb (wMas X.K Wo D l) D σ H) := by
  refine ⟨fun pins s σ H D I hq => ?_⟩
  have okX := I.ok
  have frX : X.A.frames = some (X.env :: X.outer) := by rw [okX.frames, hst]
  let fly : Value → Shared → Prop := fun e s1 => wpAny (model X.prog X.w) X.A (noteFrame e X.env) (fun _ s2 => wpAny (model X.prog X.w) X.A (setFlight e none) (fun _ s3 => wpAny (model X.prog X.w) X.A (handleBy e X.env (h0 :: hs)) (SP X pins D) X.xe s3) X.xe s2) X.xe s1
  refine wpAny_Try_except (wpAny_mono ((hbody (wMas X.K Wo D l) (X.pn ++ pins) fly (fun u t flown => ?_) PassesOwn.looking).run [] s σ H D (I.toTry _) hq) (fun f t done => ?_) fun e t z => z)
  · obtain ⟨a, B, sI, pins', σ1, G, cls, d, rfl, J0, nb, up, sky, na, os, ag, wish⟩ := flown
    have J : Inv X pins σ1 G sI := J0.ofTry okX
    show wpAny (model X.prog X.w) X.A (noteFrame (.ref a) X.env) _ _ _
    refine Sky.land Zc.steady frX hfm (show Sky B (X.env :: X.outer) a (Zc cls d) X.env.locals t.heap by rw [← hst]; exact sky) fun g fl upg => ?_
    have Jg : Inv X pins σ1 G { t with heap := g } := J.landed nb fl.1 (up.trans upg) os ag
    obtain ⟨ob, vb, at_b, zc_b, da_b⟩ := fl.there
    have apart : ∀ {g' : Heap} {o : Obj} {us : Array Value}, g'.FunFrames B (X.env :: X.outer) → g'.get? a = some o → o.data = .fields us → a ∉ frs (X.env :: X.outer) := fun {g' o us} ff ea da hm => by
      obtain ⟨_, o2, e2, nf⟩ := ff.mem hm
      rw [ea] at e2
      cases e2
      exact nf _ da
    have out1 := apart fl.2.2.1 at_b da_b
    have out2 : a ≠ X.env.locals := fun z => out1 (List.mem_filterMap.mpr ⟨X.env, List.mem_cons_self, by rw [hfm, z]⟩)
    have out3 : a ∉ X.fs := fun hm => by
      obtain ⟨e, he, q⟩ := List.mem_filterMap.mp hm
      exact out1 (List.mem_filterMap.mpr ⟨e, List.mem_cons_of_mem _ he, q⟩)
    have Sb := Jg.suite at_b da_b na out2 out3
    have look : ∀ {x : Str} {c : Value} {p : Pos} {R : Value → Shared → Prop} {R' : Value → Shared → Prop}, Names X x c → R c { t with heap := g } → wpAny (model X.prog X.w) (X.A.mark (some (.ref a))) (eval (.Name x p) X.env) R R' { t with heap := g } := fun {x c p R R'} hc q => by
      obtain ⟨hg, hdb, hm | ⟨hm, hv, hn⟩⟩ := hc
      · exact ld_glob (X := X.suite a ((a, ob) :: (X.pn ++ pins))) Sb hg hm q hdb
      · exact ld_blt (X := X.suite a ((a, ob) :: (X.pn ++ pins))) Sb hg hm hv q hn hdb
    have kind : PySem.W.Looks (model X.prog X.w) g (typeOf (.ref a)) cls := fun A Q E s k q => wpAny_typeOf_ref (k _ _ at_b) (by rw [zc_b.1]; exact q)
    have each : ∀ {hs' : List ExceptHandler} {l' : List Clause}, Clauses X hs' l' → wMas X.K Wo D l' cls d σ1 G → wpAny (model X.prog X.w) X.A (handleBy (.ref a) X.env hs') (SP X pins D) X.xe { t with heap := g } := by
      intro hs' l' hk
      induction hk with
      | nil =>
        intro wi
        refine wpAny_handleBy_nil ?_
        obtain ⟨_, _, _, oe, ue, TB, oT, te, g1, g2, g3, g4, g5⟩ := id fl
        unfold PySem.passOn
        refine wpAny_bind (wpAny_field g1 g3 g4 ?_)
        rw [if_neg (show ¬ ((Value.ref TB == Value.none) = true) from by simp)]
        have away : wpAny (model X.prog X.w) X.A (setFlight (.ref a) X.env.frame) (fun _ s4 => wpAny (model X.prog X.w) X.A (throw (.ref a) : Sem Flow) (SP X pins D) X.xe s4) X.xe { t with heap := g } := by
          rw [hfm]
          refine HandSPX.setFlight_upZ fl fun k hk up4 => wpAny_throw (tk _ _ ?_)
          exact ⟨a, B, sI, pins, σ1, G, cls, d, rfl, J, nb, (up.trans upg).trans up4, .inr (.inr (by rw [hst]; exact hk)), na, os, ag, wi⟩
        first
          | exact wpAny_bind (wpAny_pure (wpAny_bind away))
          | exact wpAny_bind away
      | @bare x c ts s0 sr p p' hs2 l2 hc hb r ih =>
        intro wi
        obtain ⟨b, hb1, yes, no⟩ := wi
        refine wpAny_handleBy_cons (codeAny_handlers_test ?_) (by intro q; cases q)
        refine look hc ((PySem.W.exm_one (M := model X.prog X.w) Jg.kIn kind hb1).here ?_)
        cases b with
        | false => exact ih (no rfl)
        | true =>
          refine codeAny_handlers_suite (HandSPX.lands_againZ fl fun k fl4 up4 => ?_)
          have J4 : Inv X pins σ1 G { t with heap := k } := J.landed nb fl4.1 ((up.trans upg).trans up4) os ag
          obtain ⟨o4, v4, e4, z4, d4⟩ := fl4.there
          refine wpAny_mono ((hb a o4 cls d (X.pn ++ pins) z4 ⟨_, d4⟩).run [] _ _ G _ (J4.suite e4 d4 na out2 out3) (yes rfl a na)) (fun f s6 r6 => ?_) (fun _ _ z => False.elim z)
          cases f with
          | ret u => obtain ⟨v6, σ6, H6, S6, rv, q6⟩ := r6; exact ⟨_, _, _, S6.unsuite okX, rv, q6⟩
          | next => obtain ⟨σ6, H6, S6, q6⟩ := r6; exact ⟨_, _, S6.unsuite okX, q6⟩
          | brk => obtain ⟨σ6, H6, S6, q6⟩ := r6; exact ⟨_, _, S6.unsuite okX, q6⟩
          | cont => obtain ⟨σ6, H6, S6, q6⟩ := r6; exact ⟨_, _, S6.unsuite okX, q6⟩
      | @named x n i c ts s0 sr p p' hs2 l2 hi hl hc hb r ih =>
        intro wi
        obtain ⟨b, hb1, yes, no⟩ := wi
        refine wpAny_handleBy_cons (codeAny_handlers_test ?_) (by intro q; cases q)
        refine look hc ((PySem.W.exm_one (M := model X.prog X.w) Jg.kIn kind hb1).here ?_)
        cases b with
        | false => exact ih (no rfl)
        | true =>
          refine codeAny_handlers_suite_as (HandSPX.lands_againZ fl fun k fl4 up4 => ?_)
          have J4 : Inv X pins σ1 G { t with heap := k } := J.landed nb fl4.1 ((up.trans upg).trans up4) os ag
          obtain ⟨o4, v4, e4, z4, d4⟩ := fl4.there
          refine store_ok (X := X.suite a ((a, o4) :: (X.pn ++ pins))) (v := .ref a) (J4.suite e4 d4 na out2 out3) hND hi (.inl hl) rfl (fun s5 S5 => ?_) (.inr hl)
          refine wpAny_mono ((hb a o4 cls d (X.pn ++ pins) z4 ⟨_, d4⟩).run [] s5 _ G _ S5 (yes rfl a na)) (fun f s6 r6 => ?_) (fun _ _ z => False.elim z)
          have leave : ∀ {σ6 : L2.St} {H6 : Hp} {R : Shared → Prop}, Inv (X.suite a ((a, o4) :: (X.pn ++ pins))) [] σ6 H6 s6 → (∀ s7, Inv X pins (σ6.set i none) H6 s7 → R s7) → wpAny (model X.prog X.w) X.A (do bindName X.env n .none; unbindBehindTheSuite X.env n p') (fun _ s7 => R s7) X.xe s6 :=
            fun {σ6 H6 R} S6 hr => gone_ok (S6.unsuite okX) hND hi hl hr
          cases f with
          | ret u => obtain ⟨v6, σ6, H6, S6, rv, q6⟩ := r6; exact leave S6 fun s7 J7 => ⟨_, _, _, J7, rv, q6⟩
          | next => obtain ⟨σ6, H6, S6, q6⟩ := r6; exact leave S6 fun s7 J7 => ⟨_, _, J7, q6⟩
          | brk => obtain ⟨σ6, H6, S6, q6⟩ := r6; exact leave S6 fun s7 J7 => ⟨_, _, J7, q6⟩
          | cont => obtain ⟨σ6, H6, S6, q6⟩ := r6; exact leave S6 fun s7 J7 => ⟨_, _, J7, q6⟩
    exact each hcl wish
  · cases f with
    | ret u => obtain ⟨v, σ', G', J', rv, q⟩ := done; exact ⟨v, σ', G', J'.ofTry okX, rv, q⟩
    | next => obtain ⟨σ', G', J', q⟩ := done; exact wpAny_execs_nil ⟨σ', G', J'.ofTry okX, q⟩
    | brk => obtain ⟨σ', G', J', q⟩ := done; exact ⟨σ', G', J'.ofTry okX, q⟩
    | cont => obtain ⟨σ', G', J', q⟩ := done; exact ⟨σ', G', J'.ofTry okX, q⟩
end

/-! ### fractions -/
def CDivV (_ j : Int) : Prop := j ≠ 0 ∧ j.natAbs.log2 < 9000
theorem op_fdivV {X : Cx} : OpR X (binaryOp .FloorDiv) (rI CDivV fun i j => .int (i.fdiv j)) := opI fun _ _ _ _ _ _ _ hc q => PyProof.Rows.floordiv_int hc.1 q (.inl (PyProof.noPylong_of_log2 hc.2))
def tCallNS (n m : Nat) (sp : Sp) (gV : List V → List V → List V) (E : L2.St → XK) (t tk : TA) : TE := fun σ H Q => t σ H fun vs H1 => tk σ H1 fun zs H2 =>
  vs.length = n ∧ zs.length = m ∧ sp (gV vs zs) H2 Q (E σ)
section
open PySem.Spec PyProof.Rows
variable {X : Cx} {CX : CXT} {k n : Nat} {f : Addr} {fd : FuncData} {ps ks : List Str} {sp : Sp} {E : L2.St → XK} {x : Str} {p pos : Pos} {e : Expr} {es : List Expr} {kws : List Keyword} {t tk : TA} {g : List Value → List Value → List Value} {gV : List V → List V → List V}
/-- f(e, .., k = v, ..) within a try -/
theorem pe_callNS (F : FnOk X.prog X.w X.K X.mg X.base CX k f fd ps sp) (hr : Room k X.A) (hg : Gl X x) (hm : X.mg x = some (.ref f)) (hk : PySem.W.keepIn X.K (.ref f) = true) (hb : KBn X.K fd ps n ks g gV) (hx : ∀ σ, PassesAt CX X σ (E σ))
    (ha : PA X (e :: es) t) (hkw : PK X kws tk) (hall : (backToKw pos (keywordEach kws X.env)).all (·.1.isSome) = true := by rfl) (hks : (backToKw pos (keywordEach kws X.env)).filterMap (·.1) = ks := by rfl)
    (hdb : (x == ("__debug__" : Str)) = false := by decide) (he : starEach (e :: es) X.env = (false, eval e X.env) :: starEach es X.env := by rfl) (hpl : ((backTo pos (starEach (e :: es) X.env)).any (·.1) || (backToKw pos (keywordEach kws X.env)).any (·.1.isNone)) = false := by rfl) :
    PE X (.Call (.Name x p) (e :: es) kws pos) (tCallNS n ks.length sp gV E t tk) := by
  refine ⟨fun pins s σ H Q I h => wpAny_Call_Name_kw (ld_glob I hg hm ?_ hdb)⟩
  refine PySem.W.callWith_KW (h₀ := X.base) I.ok.mod.kin hk hall (thn (ha.run pos pins s σ H _ I h) fun us s1 hu => ?_) hpl he
  obtain ⟨vs, H1, I1, r, q⟩ := hu
  refine thn (hkw.run pos pins s1 σ H1 _ I1 q) fun ws s2 hw => ?_
  obtain ⟨zs, H2, I2, rz, l1, l2, q2⟩ := hw
  refine ⟨I2.kIn, ?_⟩
  rw [hks]
  have r2 := hb.rel r rz
  refine wpAny_call (codeAny_mono (F.run X.A X.stack s2 H2 ⟨us, ks.zip ws⟩ (g us ws) (gV vs zs) Q (E σ) hr I2.env0 (hb.to s2 us ws I2.kIn (r.length.symm.trans l1) (rz.length.symm.trans l2)) r2 q2) fun r s' hq => ?_)
  cases r with
  | error e => exact hx σ pins H2 s2 e s' I2 hq
  | ok fl => cases fl with
    | ret u => exact I2.after hq
    | next => exact hq.elim
    | brk => exact hq.elim
    | cont => exact hq.elim
end
/-- t / u is p / q in lowest terms -/
structure Low (p q t u : Int) : Prop where
  pos : 0 < u
  cop : Nat.gcd t.natAbs u.natAbs = 1
  eq : t * q = p * u
  lt : t.natAbs ≤ p.natAbs
  lu : u.natAbs ≤ q.natAbs
def gc (p q : Int) : Int := if q < 0 then -((Nat.gcd p.natAbs q.natAbs : Nat) : Int) else ((Nat.gcd p.natAbs q.natAbs : Nat) : Int)
theorem gc_dvd (p q : Int) : gc p q ∣ p ∧ gc p q ∣ q := by
  have h1 : ((Nat.gcd p.natAbs q.natAbs : Nat) : Int) ∣ p := Int.ofNat_dvd_left.mpr (Nat.gcd_dvd_left _ _)
  have h2 : ((Nat.gcd p.natAbs q.natAbs : Nat) : Int) ∣ q := Int.ofNat_dvd_left.mpr (Nat.gcd_dvd_right _ _)
  unfold gc
  split
  · exact ⟨Int.neg_dvd.mpr h1, Int.neg_dvd.mpr h2⟩
  · exact ⟨h1, h2⟩
theorem gc_abs (p q : Int) : (gc p q).natAbs = Nat.gcd p.natAbs q.natAbs := by
  unfold gc
  split <;> omega
theorem gc_ne {p q : Int} (h : q ≠ 0) : gc p q ≠ 0 := by
  have g0 : 0 < Nat.gcd p.natAbs q.natAbs := Nat.gcd_pos_of_pos_right _ (by omega)
  have := gc_abs p q
  intro z
  rw [z] at this
  simp at this
  omega
theorem gc_le {p q : Int} (h : q ≠ 0) : (gc p q).natAbs ≤ q.natAbs := by
  rw [gc_abs]
  exact Nat.le_of_dvd (by omega) (Nat.gcd_dvd_right _ _)
theorem low_gc {p q : Int} (h : q ≠ 0) : Low p q (p.fdiv (gc p q)) (q.fdiv (gc p q)) := by
  obtain ⟨⟨a, ha⟩, ⟨b, hb⟩⟩ := gc_dvd p q
  have g0 := gc_ne (p := p) h
  have e1 : p.fdiv (gc p q) = a := by
    conv => lhs; arg 1; rw [ha]
    exact Int.mul_fdiv_cancel_left a g0
  have e2 : q.fdiv (gc p q) = b := by
    conv => lhs; arg 1; rw [hb]
    exact Int.mul_fdiv_cancel_left b g0
  rw [e1, e2]
  have ga := gc_abs p q
  have gp : 0 < Nat.gcd p.natAbs q.natAbs := Nat.gcd_pos_of_pos_right _ (by omega)
  have na : p.natAbs = Nat.gcd p.natAbs q.natAbs * a.natAbs := by
    conv => lhs; rw [ha]
    rw [Int.natAbs_mul, ga]
  have nb : q.natAbs = Nat.gcd p.natAbs q.natAbs * b.natAbs := by
    conv => lhs; rw [hb]
    rw [Int.natAbs_mul, ga]
  refine ⟨?_, ?_, ?_, ?_, ?_⟩
  · by_cases hq : q < 0
    · have hg : gc p q < 0 := by unfold gc; rw [if_pos hq]; omega
      rcases Int.lt_trichotomy b 0 with hb0 | hb0 | hb0
      · have := Int.mul_pos_of_neg_of_neg hg hb0
        omega
      · rw [hb0] at hb; simp at hb; omega
      · exact hb0
    · have hg : 0 < gc p q := by unfold gc; rw [if_neg hq]; omega
      rcases Int.lt_trichotomy b 0 with hb0 | hb0 | hb0
      · have := Int.mul_neg_of_pos_of_neg hg hb0
        omega
      · rw [hb0] at hb; simp at hb; omega
      · exact hb0
  · have e : Nat.gcd p.natAbs q.natAbs * Nat.gcd a.natAbs b.natAbs = Nat.gcd p.natAbs q.natAbs * 1 := by
      rw [← Nat.gcd_mul_left, ← na, ← nb, Nat.mul_one]
    exact Nat.eq_of_mul_eq_mul_left gp e
  · conv => lhs; rw [hb]
    conv => rhs; rw [ha]
    rw [← Int.mul_assoc, Int.mul_comm a]
  · rw [na]; exact Nat.le_mul_of_pos_left _ gp
  · rw [nb]; exact Nat.le_mul_of_pos_left _ gp
def ratF (t u : Int) : List (Str × V) := [("top", .int t), ("under", .int u)]
theorem putR {y z : V} : putF "under" z (putF "top" y []) = [(("top" : Str), y), (("under" : Str), z)] := by
  have h : ¬ ("top" : Str) = "under" := by decide +kernel
  show (if ("top" : Str) = "under" then _ else (("top" : Str), y) :: putF "under" z []) = _
  rw [if_neg h]
  rfl
def RatAt (C : Addr) (v : V) (H : Hp) (t u : Int) : Prop := ∃ a dx, v = .ref a ∧ H a = some (.ins C dx (ratF t u))
theorem RatAt.ex {C : Addr} {v : V} {H H' : Hp} {t u : Int} (e : Ex H H') (h : RatAt C v H t u) : RatAt C v H' t u := by
  obtain ⟨a, dx, rfl, h⟩ := h
  exact ⟨a, dx, rfl, e _ _ h⟩
theorem ev_top {K : PySem.W.Frag} {C : Addr} {te : TE} {σ : L2.St} {H : Hp} {v : V} {t u : Int} (h : Ev te σ H v) (hv : RatAt C v H t u) (c : Cls K C) (na : NoAttr K C "top") : Ev (tFld K te "top") σ H (.int t) := fun H1 e Q q => by
  obtain ⟨a, dx, rfl, hi⟩ := hv
  exact h H1 e _ fun H2 e2 => ⟨a, _, dx, _, _, rfl, e2 _ _ (e _ _ hi), c, na, rfl, q H2 e2⟩
theorem ev_under {K : PySem.W.Frag} {C : Addr} {te : TE} {σ : L2.St} {H : Hp} {v : V} {t u : Int} (h : Ev te σ H v) (hv : RatAt C v H t u) (c : Cls K C) (na : NoAttr K C "under") : Ev (tFld K te "under") σ H (.int u) := fun H1 e Q q => by
  obtain ⟨a, dx, rfl, hi⟩ := hv
  exact h H1 e _ fun H2 e2 => ⟨a, _, dx, _, _, rfl, e2 _ _ (e _ _ hi), c, na, by rfl, q H2 e2⟩
theorem log_lt {z : Int} {b : Nat} (h : z.natAbs < 2 ^ b) (h0 : 0 < b) : z.natAbs.log2 < b := PySem.Flt.log2_lt_of h0 h
structure Ads where
  f_BadNumber_init : Addr
  d_BadNumber_init : FuncData
  f_check_number : Addr
  d_check_number : FuncData
  f_check_looks : Addr
  d_check_looks : FuncData
  f_Ratio_init : Addr
  d_Ratio_init : FuncData
  f_floor_bound : Addr
  d_floor_bound : FuncData
  f_u_law_cell : Addr
  d_u_law_cell : FuncData
  f_u_law_draws : Addr
  d_u_law_draws : FuncData
  f_u_law_gcd : Addr
  d_u_law_gcd : FuncData
  f_u_law_is_int : Addr
  d_u_law_is_int : FuncData
  f_u_law_is_ratio : Addr
  d_u_law_is_ratio : FuncData
  f_u_law_worth : Addr
  d_u_law_worth : FuncData
  f_u_law_same : Addr
  d_u_law_same : FuncData
  f_u_law_long : Addr
  d_u_law_long : FuncData
  f_u_law_hours : Addr
  d_u_law_hours : FuncData
  f_u_law_size : Addr
  d_u_law_size : FuncData
  f_u_law_stake : Addr
  d_u_law_stake : FuncData
  f_u_law_floor : Addr
  d_u_law_floor : FuncData
  f_u_law_refused : Addr
  d_u_law_refused : FuncData
  f_u_law_refused_by_base : Addr
  d_u_law_refused_by_base : FuncData
  f_u_law_faulty : Addr
  d_u_law_faulty : FuncData
  f_law : Addr
  d_law : FuncData
  C_BadNumber : Addr
  C_TooMany : Addr
  C_WatchError : Addr
  C_ZeroUnder : Addr
  C_Ratio : Addr
structure Txt (K : PySem.W.Frag) (mg : Str → Option Value) (A : Ads) : Prop where
  F_BadNumber_init : Fun K "__init__" "BadNumber.__init__" s_BadNumber_init A.f_BadNumber_init A.d_BadNumber_init
  F_check_number : Fun K "check_number" "check_number" s_check_number A.f_check_number A.d_check_number
  g_check_number : mg "check_number" = some (.ref A.f_check_number)
  k_check_number : PySem.W.keepIn K (.ref A.f_check_number) = true
  F_check_looks : Fun K "check_looks" "check_looks" s_check_looks A.f_check_looks A.d_check_looks
  g_check_looks : mg "check_looks" = some (.ref A.f_check_looks)
  k_check_looks : PySem.W.keepIn K (.ref A.f_check_looks) = true
  F_Ratio_init : FunD K "__init__" "Ratio.__init__" (defArgs s_Ratio_init) (defBody s_Ratio_init) (defScope s_Ratio_init) ([.int 1] : List V) ([] : List (Str × V)) A.f_Ratio_init A.d_Ratio_init
  F_floor_bound : FunD K "floor_bound" "floor_bound" (defArgs s_floor_bound) (defBody s_floor_bound) (defScope s_floor_bound) ([] : List V) ([("looks", .int 0)] : List (Str × V)) A.f_floor_bound A.d_floor_bound
  g_floor_bound : mg "floor_bound" = some (.ref A.f_floor_bound)
  k_floor_bound : PySem.W.keepIn K (.ref A.f_floor_bound) = true
  F_u_law_cell : Fun K "_law_cell" "_law_cell" s_u_law_cell A.f_u_law_cell A.d_u_law_cell
  g_u_law_cell : mg "_law_cell" = some (.ref A.f_u_law_cell)
  k_u_law_cell : PySem.W.keepIn K (.ref A.f_u_law_cell) = true
  F_u_law_draws : Fun K "_law_draws" "_law_draws" s_u_law_draws A.f_u_law_draws A.d_u_law_draws
  g_u_law_draws : mg "_law_draws" = some (.ref A.f_u_law_draws)
  k_u_law_draws : PySem.W.keepIn K (.ref A.f_u_law_draws) = true
  F_u_law_gcd : Fun K "_law_gcd" "_law_gcd" s_u_law_gcd A.f_u_law_gcd A.d_u_law_gcd
  g_u_law_gcd : mg "_law_gcd" = some (.ref A.f_u_law_gcd)
  k_u_law_gcd : PySem.W.keepIn K (.ref A.f_u_law_gcd) = true
  F_u_law_is_int : Fun K "_law_is_int" "_law_is_int" s_u_law_is_int A.f_u_law_is_int A.d_u_law_is_int
  g_u_law_is_int : mg "_law_is_int" = some (.ref A.f_u_law_is_int)
  k_u_law_is_int : PySem.W.keepIn K (.ref A.f_u_law_is_int) = true
  F_u_law_is_ratio : Fun K "_law_is_ratio" "_law_is_ratio" s_u_law_is_ratio A.f_u_law_is_ratio A.d_u_law_is_ratio
  g_u_law_is_ratio : mg "_law_is_ratio" = some (.ref A.f_u_law_is_ratio)
  k_u_law_is_ratio : PySem.W.keepIn K (.ref A.f_u_law_is_ratio) = true
  F_u_law_worth : Fun K "_law_worth" "_law_worth" s_u_law_worth A.f_u_law_worth A.d_u_law_worth
  g_u_law_worth : mg "_law_worth" = some (.ref A.f_u_law_worth)
  k_u_law_worth : PySem.W.keepIn K (.ref A.f_u_law_worth) = true
  F_u_law_same : Fun K "_law_same" "_law_same" s_u_law_same A.f_u_law_same A.d_u_law_same
  g_u_law_same : mg "_law_same" = some (.ref A.f_u_law_same)
  k_u_law_same : PySem.W.keepIn K (.ref A.f_u_law_same) = true
  F_u_law_long : Fun K "_law_long" "_law_long" s_u_law_long A.f_u_law_long A.d_u_law_long
  g_u_law_long : mg "_law_long" = some (.ref A.f_u_law_long)
  k_u_law_long : PySem.W.keepIn K (.ref A.f_u_law_long) = true
  F_u_law_hours : Fun K "_law_hours" "_law_hours" s_u_law_hours A.f_u_law_hours A.d_u_law_hours
  g_u_law_hours : mg "_law_hours" = some (.ref A.f_u_law_hours)
  k_u_law_hours : PySem.W.keepIn K (.ref A.f_u_law_hours) = true
  F_u_law_size : Fun K "_law_size" "_law_size" s_u_law_size A.f_u_law_size A.d_u_law_size
  g_u_law_size : mg "_law_size" = some (.ref A.f_u_law_size)
  k_u_law_size : PySem.W.keepIn K (.ref A.f_u_law_size) = true
  F_u_law_stake : Fun K "_law_stake" "_law_stake" s_u_law_stake A.f_u_law_stake A.d_u_law_stake
  g_u_law_stake : mg "_law_stake" = some (.ref A.f_u_law_stake)
  k_u_law_stake : PySem.W.keepIn K (.ref A.f_u_law_stake) = true
  F_u_law_floor : Fun K "_law_floor" "_law_floor" s_u_law_floor A.f_u_law_floor A.d_u_law_floor
  g_u_law_floor : mg "_law_floor" = some (.ref A.f_u_law_floor)
  k_u_law_floor : PySem.W.keepIn K (.ref A.f_u_law_floor) = true
  F_u_law_refused : Fun K "_law_refused" "_law_refused" s_u_law_refused A.f_u_law_refused A.d_u_law_refused
  g_u_law_refused : mg "_law_refused" = some (.ref A.f_u_law_refused)
  k_u_law_refused : PySem.W.keepIn K (.ref A.f_u_law_refused) = true
  F_u_law_refused_by_base : Fun K "_law_refused_by_base" "_law_refused_by_base" s_u_law_refused_by_base A.f_u_law_refused_by_base A.d_u_law_refused_by_base
  g_u_law_refused_by_base : mg "_law_refused_by_base" = some (.ref A.f_u_law_refused_by_base)
  k_u_law_refused_by_base : PySem.W.keepIn K (.ref A.f_u_law_refused_by_base) = true
  F_u_law_faulty : Fun K "_law_faulty" "_law_faulty" s_u_law_faulty A.f_u_law_faulty A.d_u_law_faulty
  g_u_law_faulty : mg "_law_faulty" = some (.ref A.f_u_law_faulty)
  k_u_law_faulty : PySem.W.keepIn K (.ref A.f_u_law_faulty) = true
  F_law : Fun K "law" "law" s_law A.f_law A.d_law
  g_law : mg "law" = some (.ref A.f_law)
  k_law : PySem.W.keepIn K (.ref A.f_law) = true
  z_abs : mg "abs" = none
  z_len : mg "len" = none
  z_int : mg "int" = none
  z_bool : mg "bool" = none
  z_str : mg "str" = none
  z_list : mg "list" = none
  z_tuple : mg "tuple" = none
  z_isinstance : mg "isinstance" = none
  z_range : mg "range" = none
  z_ValueError : mg "ValueError" = none
  g_BadNumber : mg "BadNumber" = some (.ref A.C_BadNumber)
  g_TooMany : mg "TooMany" = some (.ref A.C_TooMany)
  g_WatchError : mg "WatchError" = some (.ref A.C_WatchError)
  g_ZeroUnder : mg "ZeroUnder" = some (.ref A.C_ZeroUnder)
  g_Ratio : mg "Ratio" = some (.ref A.C_Ratio)
  g_gcd : mg "gcd" = some (.builtin "math.gcd")
  ox_BadNumber : OexC K A.C_BadNumber
  ni_BadNumber : PySem.W.findIn K (.ref A.C_BadNumber) "__init__" = some (some (.ref A.f_BadNumber_init))
  ti_BadNumber : PySem.W.typeIn K (.ref A.f_BadNumber_init) = some (.type "function")
  nf_BadNumber_name : PySem.W.findIn K (.ref A.C_BadNumber) "name" = some none
  nf_BadNumber_value : PySem.W.findIn K (.ref A.C_BadNumber) "value" = some none
  xf_BadNumber : XfC K A.C_BadNumber
  ex_BadNumber : ExcC K A.C_BadNumber
  xP_ZeroUnder : PySem.W.excIn K A.C_ZeroUnder [.type "ValueError", .type "Exception", .type "BaseException", .type "object"] "ValueError.__new__" = true
  kP_ZeroUnder : PySem.W.keepIn K (.ref A.C_ZeroUnder) = true
  bP_ZeroUnder : PySem.W.subIn K (.ref A.C_ZeroUnder) (.type "BaseException") = some true
  tP_ZeroUnder : PySem.W.typeIn K (.ref A.C_ZeroUnder) = some (.type "type")
  ex_ZeroUnder : ExcC K A.C_ZeroUnder
  xm_BadNumber_WatchError : PySem.W.exmOne K (.ref A.C_BadNumber) (.ref A.C_WatchError) = some true
  xm_BadNumber_BadNumber : PySem.W.exmOne K (.ref A.C_BadNumber) (.ref A.C_BadNumber) = some true
  kit_BadNumber_ValueError : PySem.W.kitOne K (.ref A.C_BadNumber) (.type "ValueError") = some true
  kit_BadNumber_TooMany : PySem.W.kitOne K (.ref A.C_BadNumber) (.ref A.C_TooMany) = some false
  cl_Ratio : Cls K A.C_Ratio
  mk_Ratio : Mk K A.C_Ratio A.f_Ratio_init
  na_Ratio_top : NoAttr K A.C_Ratio "top"
  na_Ratio_under : NoAttr K A.C_Ratio "under"
  ty_Ratio : ∀ (H : Hp) (a dx : Addr) (fs : List (Str × V)), H a = some (.ins A.C_Ratio dx fs) → TyX K H (.ref a) (.ref A.C_Ratio)
section
variable {P : Program} {w : World} {K : PySem.W.Frag} {mg : Str → Option Value} {base : Heap} {A : Ads}
theorem sc_BadNumber_init : FnScope N_BadNumber_init (["self", "name", "value"] : List Str) (defScope s_BadNumber_init) := ⟨rfl, rfl, rfl, by decide +kernel, rfl, by decide +kernel, by decide +kernel⟩
theorem b_BadNumber_init (T : Txt K mg A) : Binds K A.d_BadNumber_init (["self", "name", "value"] : List Str) [] := T.F_BadNumber_init.binds (ps := (["self", "name", "value"] : List Str)) fun _ _ _ _ _ _ us hl => match us, hl with | [_, _, _], _ => rfl
theorem sc_check_number : FnScope N_check_number (["name", "number", "least", "most"] : List Str) (defScope s_check_number) := ⟨rfl, rfl, rfl, by decide +kernel, rfl, by decide +kernel, by decide +kernel⟩
theorem b_check_number (T : Txt K mg A) : Binds K A.d_check_number (["name", "number", "least", "most"] : List Str) [] := T.F_check_number.binds (ps := (["name", "number", "least", "most"] : List Str)) fun _ _ _ _ _ _ us hl => match us, hl with | [_, _, _, _], _ => rfl
theorem sc_check_looks : FnScope N_check_looks (["looks", "most"] : List Str) (defScope s_check_looks) := ⟨rfl, rfl, rfl, by decide +kernel, rfl, by decide +kernel, by decide +kernel⟩
theorem b_check_looks (T : Txt K mg A) : Binds K A.d_check_looks (["looks", "most"] : List Str) [] := T.F_check_looks.binds (ps := (["looks", "most"] : List Str)) fun _ _ _ _ _ _ us hl => match us, hl with | [_, _], _ => rfl
theorem sc_Ratio_init : FnScope N_Ratio_init (["self", "top", "under"] : List Str) (defScope s_Ratio_init) := ⟨rfl, rfl, rfl, by decide +kernel, rfl, by decide +kernel, by decide +kernel⟩
theorem bF_Ratio_init (T : Txt K mg A) : ∃ ds, Vals ([] : List V) ds ∧ Binds K A.d_Ratio_init (["self", "top", "under"] : List Str) ds := T.F_Ratio_init.binds1 (ps := (["self", "top", "under"] : List Str)) 3 1 (by simp) rfl fun _ _ _ _ _ _ _ us its hl hi => match us, its, hl, hi with | [_, _, _], [_], _, _ => ⟨_, rfl, rfl⟩
theorem b2_Ratio_init (T : Txt K mg A) : ∃ ds, Vals ([.int 1] : List V) ds ∧ Binds K A.d_Ratio_init (["self", "top", "under"] : List Str) ds := T.F_Ratio_init.binds1 (ps := (["self", "top", "under"] : List Str)) 2 0 (by simp) rfl fun _ _ _ _ _ _ _ us its hl hi => match us, its, hl, hi with | [_, _], [_], _, _ => ⟨_, rfl, rfl⟩
theorem b_Ratio_init (T : Txt K mg A) : Binds K A.d_Ratio_init (["self", "top", "under"] : List Str) [] := by
  obtain ⟨ds, hv, hb⟩ := bF_Ratio_init T
  cases hv
  exact hb
theorem sc_floor_bound : FnScope N_floor_bound (["hours", "size", "stake", "looks"] : List Str) (defScope s_floor_bound) := ⟨rfl, rfl, rfl, by decide +kernel, rfl, by decide +kernel, by decide +kernel⟩
theorem b3_floor_bound (T : Txt K mg A) : ∃ ds, Vals ([.int 0] : List V) ds ∧ Binds K A.d_floor_bound (["hours", "size", "stake", "looks"] : List Str) ds := T.F_floor_bound.binds0 (ps := (["hours", "size", "stake", "looks"] : List Str)) 3 (by simp) rfl fun D doc pm an cdv ct us ks hl hk => match us, ks, hl, hk with | [_, _, _], [_], _, _ => ⟨_, _, _, _, _, _, rfl, rfl, rfl⟩
theorem k3_floor_bound (T : Txt K mg A) : ∃ mv : List Value, KBn K A.d_floor_bound (["hours", "size", "stake", "looks"] : List Str) 3 (["looks"] : List Str) (fun us ws => us ++ ws) (fun vs zs => vs ++ zs) := T.F_floor_bound.kbinds0 (ps := (["hours", "size", "stake", "looks"] : List Str)) 3 (["looks"] : List Str) [] (fun us _ ws => us ++ ws) (by simp) (fun q hq => by cases hq) (fun r1 _ r3 => r1.append r3) fun D doc pm an cdv ct us mv ws hl hm hw => match us, mv, ws, hl, hm, hw with | [_, _, _], [], [_], _, _, _ => rfl
theorem sc_u_law_cell : FnScope N_u_law_cell (["script", "k"] : List Str) (defScope s_u_law_cell) := ⟨rfl, rfl, rfl, by decide +kernel, rfl, by decide +kernel, by decide +kernel⟩
theorem b_u_law_cell (T : Txt K mg A) : Binds K A.d_u_law_cell (["script", "k"] : List Str) [] := T.F_u_law_cell.binds (ps := (["script", "k"] : List Str)) fun _ _ _ _ _ _ us hl => match us, hl with | [_, _], _ => rfl
theorem sc_u_law_draws : FnScope N_u_law_draws (["cell", "salt", "menu"] : List Str) (defScope s_u_law_draws) := ⟨rfl, rfl, rfl, by decide +kernel, rfl, by decide +kernel, by decide +kernel⟩
theorem b_u_law_draws (T : Txt K mg A) : Binds K A.d_u_law_draws (["cell", "salt", "menu"] : List Str) [] := T.F_u_law_draws.binds (ps := (["cell", "salt", "menu"] : List Str)) fun _ _ _ _ _ _ us hl => match us, hl with | [_, _, _], _ => rfl
theorem sc_u_law_gcd : FnScope N_u_law_gcd (["a", "b"] : List Str) (defScope s_u_law_gcd) := ⟨rfl, rfl, rfl, by decide +kernel, rfl, by decide +kernel, by decide +kernel⟩
theorem b_u_law_gcd (T : Txt K mg A) : Binds K A.d_u_law_gcd (["a", "b"] : List Str) [] := T.F_u_law_gcd.binds (ps := (["a", "b"] : List Str)) fun _ _ _ _ _ _ us hl => match us, hl with | [_, _], _ => rfl
theorem sc_u_law_is_int : FnScope N_u_law_is_int (["x"] : List Str) (defScope s_u_law_is_int) := ⟨rfl, rfl, rfl, by decide +kernel, rfl, by decide +kernel, by decide +kernel⟩
theorem b_u_law_is_int (T : Txt K mg A) : Binds K A.d_u_law_is_int (["x"] : List Str) [] := T.F_u_law_is_int.binds (ps := (["x"] : List Str)) fun _ _ _ _ _ _ us hl => match us, hl with | [_], _ => rfl
theorem sc_u_law_is_ratio : FnScope N_u_law_is_ratio (["x"] : List Str) (defScope s_u_law_is_ratio) := ⟨rfl, rfl, rfl, by decide +kernel, rfl, by decide +kernel, by decide +kernel⟩
theorem b_u_law_is_ratio (T : Txt K mg A) : Binds K A.d_u_law_is_ratio (["x"] : List Str) [] := T.F_u_law_is_ratio.binds (ps := (["x"] : List Str)) fun _ _ _ _ _ _ us hl => match us, hl with | [_], _ => rfl
theorem sc_u_law_worth : FnScope N_u_law_worth (["x", "top", "under"] : List Str) (defScope s_u_law_worth) := ⟨rfl, rfl, rfl, by decide +kernel, rfl, by decide +kernel, by decide +kernel⟩
theorem b_u_law_worth (T : Txt K mg A) : Binds K A.d_u_law_worth (["x", "top", "under"] : List Str) [] := T.F_u_law_worth.binds (ps := (["x", "top", "under"] : List Str)) fun _ _ _ _ _ _ us hl => match us, hl with | [_, _, _], _ => rfl
theorem sc_u_law_same : FnScope N_u_law_same (["got", "due"] : List Str) (defScope s_u_law_same) := ⟨rfl, rfl, rfl, by decide +kernel, rfl, by decide +kernel, by decide +kernel⟩
theorem b_u_law_same (T : Txt K mg A) : Binds K A.d_u_law_same (["got", "due"] : List Str) [] := T.F_u_law_same.binds (ps := (["got", "due"] : List Str)) fun _ _ _ _ _ _ us hl => match us, hl with | [_, _], _ => rfl
theorem sc_u_law_long : FnScope N_u_law_long (["number", "times", "more"] : List Str) (defScope s_u_law_long) := ⟨rfl, rfl, rfl, by decide +kernel, rfl, by decide +kernel, by decide +kernel⟩
theorem b_u_law_long (T : Txt K mg A) : Binds K A.d_u_law_long (["number", "times", "more"] : List Str) [] := T.F_u_law_long.binds (ps := (["number", "times", "more"] : List Str)) fun _ _ _ _ _ _ us hl => match us, hl with | [_, _, _], _ => rfl
theorem sc_u_law_hours : FnScope N_u_law_hours (["numbers"] : List Str) (defScope s_u_law_hours) := ⟨rfl, rfl, rfl, by decide +kernel, rfl, by decide +kernel, by decide +kernel⟩
theorem b_u_law_hours (T : Txt K mg A) : Binds K A.d_u_law_hours (["numbers"] : List Str) [] := T.F_u_law_hours.binds (ps := (["numbers"] : List Str)) fun _ _ _ _ _ _ us hl => match us, hl with | [_], _ => rfl
theorem sc_u_law_size : FnScope N_u_law_size (["numbers", "hours"] : List Str) (defScope s_u_law_size) := ⟨rfl, rfl, rfl, by decide +kernel, rfl, by decide +kernel, by decide +kernel⟩
theorem b_u_law_size (T : Txt K mg A) : Binds K A.d_u_law_size (["numbers", "hours"] : List Str) [] := T.F_u_law_size.binds (ps := (["numbers", "hours"] : List Str)) fun _ _ _ _ _ _ us hl => match us, hl with | [_, _], _ => rfl
theorem sc_u_law_stake : FnScope N_u_law_stake (["numbers"] : List Str) (defScope s_u_law_stake) := ⟨rfl, rfl, rfl, by decide +kernel, rfl, by decide +kernel, by decide +kernel⟩
theorem b_u_law_stake (T : Txt K mg A) : Binds K A.d_u_law_stake (["numbers"] : List Str) [] := T.F_u_law_stake.binds (ps := (["numbers"] : List Str)) fun _ _ _ _ _ _ us hl => match us, hl with | [_], _ => rfl
theorem sc_u_law_floor : FnScope N_u_law_floor (["hours", "size", "stake"] : List Str) (defScope s_u_law_floor) := ⟨rfl, rfl, rfl, by decide +kernel, rfl, by decide +kernel, by decide +kernel⟩
theorem b_u_law_floor (T : Txt K mg A) : Binds K A.d_u_law_floor (["hours", "size", "stake"] : List Str) [] := T.F_u_law_floor.binds (ps := (["hours", "size", "stake"] : List Str)) fun _ _ _ _ _ _ us hl => match us, hl with | [_, _, _], _ => rfl
theorem sc_u_law_refused : FnScope N_u_law_refused (["given"] : List Str) (defScope s_u_law_refused) := ⟨rfl, rfl, rfl, by decide +kernel, rfl, by decide +kernel, by decide +kernel⟩
theorem b_u_law_refused (T : Txt K mg A) : Binds K A.d_u_law_refused (["given"] : List Str) [] := T.F_u_law_refused.binds (ps := (["given"] : List Str)) fun _ _ _ _ _ _ us hl => match us, hl with | [_], _ => rfl
theorem sc_u_law_refused_by_base : FnScope N_u_law_refused_by_base (["given"] : List Str) (defScope s_u_law_refused_by_base) := ⟨rfl, rfl, rfl, by decide +kernel, rfl, by decide +kernel, by decide +kernel⟩
theorem b_u_law_refused_by_base (T : Txt K mg A) : Binds K A.d_u_law_refused_by_base (["given"] : List Str) [] := T.F_u_law_refused_by_base.binds (ps := (["given"] : List Str)) fun _ _ _ _ _ _ us hl => match us, hl with | [_], _ => rfl
theorem sc_u_law_faulty : FnScope N_u_law_faulty (["good", "mask", "far"] : List Str) (defScope s_u_law_faulty) := ⟨rfl, rfl, rfl, by decide +kernel, rfl, by decide +kernel, by decide +kernel⟩
theorem b_u_law_faulty (T : Txt K mg A) : Binds K A.d_u_law_faulty (["good", "mask", "far"] : List Str) [] := T.F_u_law_faulty.binds (ps := (["good", "mask", "far"] : List Str)) fun _ _ _ _ _ _ us hl => match us, hl with | [_, _, _], _ => rfl
theorem sc_law : FnScope N_law (["script"] : List Str) (defScope s_law) := ⟨rfl, rfl, rfl, by decide +kernel, rfl, by decide +kernel, by decide +kernel⟩
theorem b_law (T : Txt K mg A) : Binds K A.d_law (["script"] : List Str) [] := T.F_law.binds (ps := (["script"] : List Str)) fun _ _ _ _ _ _ us hl => match us, hl with | [_], _ => rfl
theorem ok_BadNumber_init (T : Txt K mg A) : FnOk P w K mg base CX0 1 A.f_BadNumber_init A.d_BadNumber_init (["self", "name", "value"] : List Str) (spErr2 K A.C_BadNumber "name" "value") := by
  refine T.F_BadNumber_init.ok sc_BadNumber_init (fun vs H Q E h => ?_) (fun cdv Ar outer s H vs Q E hr h => ?_)
  · obtain ⟨a, x, y, rfl, _⟩ := h
    rfl
  · obtain ⟨a, x, y, rfl, hC, ha, k⟩ := h
    refine ⟨_, (pss_cons (ps_ost (pv 0) (pv 1))
        (pss_one (ps_ost (pv 0) (pv 2)))), ?_⟩
    refine ⟨_, rfl, _, rfl, a, _, rfl, hC, T.nf_BadNumber_name, .inl ⟨ha, fun d hd hne => ?_⟩⟩
    refine ⟨_, rfl, _, rfl, a, _, rfl, hC, T.nf_BadNumber_value, .inr ⟨d, _, upd_same, ?_, by show (1 : Nat) ≤ 900; decide, k d hd hne⟩⟩
    rw [upd_ne hne, upd_same]

def sp_chk (A : Ads) : Sp := fun vs H Q E => ∃ (nm : Str) (n lo hi : Int), vs = [.str nm, .int n, .int lo, .int hi] ∧ (lo ≤ n ∧ n ≤ hi → Q .non H) ∧
  (¬ (lo ≤ n ∧ n ≤ hi) → ∀ d H', Ex H H' → H' d = some (.xd [("value", .int n), ("name", .str nm)]) → E (.ref A.C_BadNumber) (some d) H')
theorem ok_check_number (T : Txt K mg A) : FnOk P w K mg base (L2.CX P w) 4 A.f_check_number A.d_check_number (["name", "number", "least", "most"] : List Str) (sp_chk A) := by
  refine T.F_check_number.okX sc_check_number (fun vs H Q E h => ?_) (fun cdv Ar outer s H vs Q E hr h => ?_)
  · obtain ⟨nm, n, lo, hi, rfl, _⟩ := h
    rfl
  · obtain ⟨nm, n, lo, hi, rfl, kQ, kE⟩ := h
    refine ⟨_, (pss_one (ps_if (PW.pt (pw_or (pt_cmpR op_lt (pv 1) (pv 2) (nomark _)) (pw_or1 (pt_cmpR op_gt (pv 1) (pv 3) (nomark _))))) (pss_one (ps_raise rfl (takes_of rfl rfl rfl rfl) (pmk_oex T.ox_BadNumber T.ni_BadNumber T.ti_BadNumber (ok_BadNumber_init T) (hr.mono (by omega)) (b_BadNumber_init T) .nil pass0 rfl T.g_BadNumber (pa_cons (pv 0) (pa_cons (pv 1) pa_nil))))) pss_nil)), ?_⟩
    refine ⟨_, rfl, _, rfl, n, lo, rfl, rfl, _, rfl, ?_⟩
    have fin : ¬ (lo ≤ n ∧ n ≤ hi) → tMkO A.C_BadNumber (spErr2 K A.C_BadNumber "name" "value") [] (tCons (tVar 0) (tCons (tVar 1) tNil)) (L2.start N_check_number [V.str nm, V.int n, V.int lo, V.int hi]) H E := fun hn =>
      raise2 (x := .str nm) (y := .int n) T.ox_BadNumber (fun Q q => ⟨_, rfl, _, rfl, q⟩) (kE hn)
    by_cases c1 : n < lo
    · exact wayT c1 (iteT (fin (by omega)))
    · refine wayF c1 ?_
      refine ⟨_, rfl, _, rfl, n, hi, rfl, rfl, _, rfl, ?_⟩
      by_cases c2 : hi < n
      · exact wayT c2 (fin (by omega))
      · refine wayF c2 ?_
        exact kQ (by omega)

def BadN (A : Ads) (nm : Str) (z : Int) (H : Hp) (E : XK) : Prop := ∀ d H', Ex H H' → H' d = some (.xd [("value", .int z), ("name", .str nm)]) → E (.ref A.C_BadNumber) (some d) H'
theorem BadN.mono {A : Ads} {nm : Str} {z : Int} {H H' : Hp} {E : XK} (e : Ex H H') (h : BadN A nm z H E) : BadN A nm z H' E := fun d G g => h d G (e.trans g)
def sp_looks (A : Ads) : Sp := fun vs H Q E => ∃ l m : Int, vs = [.int l, .int m] ∧ (0 ≤ l ∧ l ≤ m → Q .non H) ∧ (¬ (0 ≤ l ∧ l ≤ m) → BadN A "looks" l H E)
theorem ok_check_looks (T : Txt K mg A) : FnOk P w K mg base (L2.CX P w) 5 A.f_check_looks A.d_check_looks (["looks", "most"] : List Str) (sp_looks A) := by
  refine T.F_check_looks.okX sc_check_looks (fun vs H Q E h => ?_) (fun cdv Ar outer s H vs Q E hr h => ?_)
  · obtain ⟨l, m, rfl, _⟩ := h
    rfl
  · obtain ⟨l, m, rfl, k1, k2⟩ := h
    refine ⟨_, (pss_one (ps_expr (pe_call (ok_check_number T) (hr.mono (by omega)) rfl T.g_check_number T.k_check_number (b_check_number T) .nil (passes_call (takes_of rfl rfl rfl rfl) (fun _ _ _ _ h => h)) (pa_cons pe_str (pa_cons (pv 0) (pa_cons pe_int (pa_cons (pv 1) pa_nil))))))), ?_⟩
    exact ⟨_, rfl, _, rfl, _, l, 0, m, rfl, k1, k2⟩

def spRatInit (A : Ads) : Sp := fun vs H Q E => ∃ (x dx : Addr) (p q : Int), vs = [.ref x, .int p, .int q] ∧ H x = some (.ins A.C_Ratio dx []) ∧ q.natAbs < 2 ^ 8000 ∧ (q = 0 → ∀ H', Ex H H' → E (.ref A.C_ZeroUnder) none H') ∧
  (q ≠ 0 → ∀ t u, Low p q t u → ∀ H', (∀ b o, b ≠ x → H b = some o → H' b = some o) → H' x = some (.ins A.C_Ratio dx (ratF t u)) → Q .non H')
theorem ok_Ratio_init (T : Txt K mg A) : FnOk P w K mg base (L2.CX P w) 3 A.f_Ratio_init A.d_Ratio_init (["self", "top", "under"] : List Str) (spRatInit A) := by
  refine FunD.ok (CX := L2.CX P w) T.F_Ratio_init sc_Ratio_init (fun vs H Q E h => ?_) (fun cdv Ar outer s H vs Q E hr h => ?_)
  · obtain ⟨x, dx, p, q, rfl, _⟩ := h
    rfl
  · obtain ⟨x, dx, p, q, rfl, hx, hz, k1, k2⟩ := h
    refine ⟨_, (pss_cons (ps_if (pt_cmpR op_eq (pv 2) pe_int (nomark _)) (pss_one (ps_raise rfl (takes_of rfl rfl rfl rfl) (pmk_none PySem.F.excBase_ValueError T.xP_ZeroUnder T.g_ZeroUnder T.kP_ZeroUnder (raises_own T.bP_ZeroUnder T.tP_ZeroUnder) rfl))) pss_nil)
        (pss_cons (ps_set (i := 3) sc_Ratio_init.nd rfl (Or.inl rfl) (pe_callBfun cr_gcd rfl T.g_gcd (pa_cons (pv 1) (pa_cons (pv 2) pa_nil))))
        (pss_cons (ps_if (pt_cmpR op_lt (pv 2) pe_int (nomark _)) (pss_one (ps_set (i := 3) sc_Ratio_init.nd rfl (Or.inl rfl) (pe_un un_neg (pv 3)))) pss_nil)
        (pss_cons (ps_fld (pv 0) (pe_op op_fdivV (pv 1) (pv 3)) rfl)
        (pss_one (ps_fld (pv 0) (pe_op op_fdivV (pv 2) (pv 3)) rfl)))))), ?_⟩
    try dsimp only
    refine q_when (b := decide (q = 0)) (et_is (et_test (ev_op (ev_var (i := 2) rfl) ev_c (rv_eq rfl))) dec_ii) (fun hq H1 e1 => ?_) (fun hq H1 e1 => ?_)
    · exact k1 (of_decide_eq_true hq) H1 e1
    have hq := of_decide_eq_false hq
    try dsimp only
    refine q_asg (v := .int ((Nat.gcd p.natAbs q.natAbs : Nat) : Int)) (ev_gcd (ea_cons (ev_var (i := 1) rfl) (ea_cons (ev_var (i := 2) rfl) ea_nil))) fun H2 e2 => ?_
    replace e2 := e1.trans e2
    try dsimp only
    refine q_alt (b := decide (q < 0)) (fun σ' H' => σ' = [some (.ref x), some (.int p), some (.int q), some (.int (gc p q))] ∧ Ex H H') (et_test (ev_op (ev_var (i := 2) rfl) ev_c rv_I0)) (fun h H3 e3 W hW => ?_) (fun h H3 e3 => ?_) ?_
    · refine s_asg (v := .int (-((Nat.gcd p.natAbs q.natAbs : Nat) : Int))) (ev_un (ev_var (i := 3) rfl) ru_neg) fun H4 e4 => hW _ _ ⟨?_, e2.trans (e3.trans e4)⟩
      unfold gc
      rw [if_pos (of_decide_eq_true h)]
      rfl
    · refine ⟨?_, e2.trans e3⟩
      unfold gc
      rw [if_neg (of_decide_eq_false h)]
      rfl
    rintro σ' H3 ⟨rfl, e3⟩
    have gb : CDivV p (gc p q) := ⟨gc_ne hq, Nat.lt_of_lt_of_le (log_lt (Nat.lt_of_le_of_lt (gc_le hq) hz) (by decide)) (by decide)⟩
    have hx3 := e3 _ _ hx
    refine ⟨_, rfl, _, rfl, p, gc p q, rfl, rfl, gb, _, rfl, x, _, dx, [], rfl, hx3, T.cl_Ratio, T.na_Ratio_top, by decide, ?_⟩
    refine ⟨_, rfl, _, rfl, q, gc p q, rfl, rfl, gb, _, rfl, x, _, dx, _, rfl, upd_same, T.cl_Ratio, T.na_Ratio_under, by show (1 : Nat) < 1000; decide, ?_⟩
    refine k2 hq _ _ (low_gc hq) _ (fun b o hb h => ?_) ?_
    · rw [upd_ne hb, upd_ne hb]; exact e3 _ _ h
    · rw [upd_same, putR]; rfl

theorem ex_made {H H' : Hp} {x dx C : Addr} (hx : H x = none) (hdx : H dx = none) (h : ∀ b o, b ≠ x → (upd (upd H dx (.own x)) x (.ins C dx [])) b = some o → H' b = some o) : Ex H H' := fun b o hb => by
  have h1 : b ≠ x := ne_of_none hb hx
  refine h b o h1 ?_
  rw [upd_ne h1, upd_ne (ne_of_none hb hdx)]
  exact hb
/-- Ratio(p, q) -/
theorem er_rat {K : PySem.W.Frag} {A : Ads} {E : XK} {σ : L2.St} {H : Hp} {tp tq : TE} {p q : Int} (hp : Ev tp σ H (.int p)) (hq : Ev tq σ H (.int q)) (h0 : q ≠ 0) (hz : q.natAbs < 2 ^ 8000) :
    EvR (tMake A.C_Ratio (spRatInit A) [] E (tCons tp (tCons tq tNil))) σ H fun v H1 => ∃ t u, Low p q t u ∧ RatAt A.C_Ratio v H1 t u := fun H1 e Q k =>
  hp H1 e _ fun H2 e2 => hq H2 (e.trans e2) _ fun H3 e3 x dx hx hdx hne => ⟨x, dx, p, q, rfl, upd_same, hz, fun z => absurd z h0, fun _ t u hl H' ho hv =>
    ⟨rfl, k _ H' ((e2.trans e3).trans (ex_made hx hdx ho)) ⟨t, u, hl, x, dx, rfl, hv⟩⟩⟩
/-- Ratio(p) -/
theorem er_rat1 {K : PySem.W.Frag} {A : Ads} {E : XK} {σ : L2.St} {H : Hp} {tp : TE} {p : Int} (hp : Ev tp σ H (.int p)) :
    EvR (tMake A.C_Ratio (spRatInit A) [.int 1] E (tCons tp tNil)) σ H fun v H1 => ∃ t u, Low p 1 t u ∧ RatAt A.C_Ratio v H1 t u := fun H1 e Q k =>
  hp H1 e _ fun H2 e2 x dx hx hdx hne => ⟨x, dx, p, 1, rfl, upd_same, Nat.lt_of_lt_of_le (show (1 : Int).natAbs < 2 ^ 1 by decide) (Nat.pow_le_pow_right (by decide) (by decide)), fun z => absurd z (by decide), fun _ t u hl H' ho hv =>
    ⟨rfl, k _ H' (e2.trans (ex_made hx hdx ho)) ⟨t, u, hl, x, dx, rfl, hv⟩⟩⟩

/-- the number told, as p / q -/
def flV (h s k l : Int) : Int × Int := if l = 0 then (k * (h - s), h) else if s = 0 then (k, 1) else if s = h then (0, 1) else (k * (h - s), h - 1)
/-- the first number that does not fit -/
def flBad (h s k l : Int) : Option (Str × Int) := if h < 1 then some ("hours", h) else if ¬ (0 ≤ s ∧ s ≤ h) then some ("size", s) else if k < 0 then some ("stake", k) else if ¬ (0 ≤ l ∧ l ≤ 1) then some ("looks", l) else none
def spFloor (A : Ads) : Sp := fun vs H Q E => ∃ h s k l : Int, vs = [.int h, .int s, .int k, .int l] ∧ (flBad h s k l = none → h.natAbs < 2 ^ 400 ∧ k.natAbs < 2 ^ 400) ∧ (∀ nm z, flBad h s k l = some (nm, z) → BadN A nm z H E) ∧
  (flBad h s k l = none → ∀ v H', Ex H H' → (∃ t u, Low (flV h s k l).1 (flV h s k l).2 t u ∧ RatAt A.C_Ratio v H' t u) → Q v H')
theorem ok_floor_bound (T : Txt K mg A) : FnOk P w K mg base (L2.CX P w) 7 A.f_floor_bound A.d_floor_bound (["hours", "size", "stake", "looks"] : List Str) (spFloor A) := by
  refine FunD.ok (CX := L2.CX P w) T.F_floor_bound sc_floor_bound (fun vs H Q E h => ?_) (fun cdv Ar outer s H vs Q E hr h => ?_)
  · obtain ⟨h, s, k, l, rfl, _⟩ := h
    rfl
  · obtain ⟨h, s, k, l, rfl, hz, k1, k2⟩ := h
    refine ⟨_, (pss_cons (ps_if (pt_cmpR op_lt (pv 0) pe_int (nomark _)) (pss_one (ps_raise rfl (takes_of rfl rfl rfl rfl) (pmk_oex T.ox_BadNumber T.ni_BadNumber T.ti_BadNumber (ok_BadNumber_init T) (hr.mono (by omega)) (b_BadNumber_init T) .nil pass0 rfl T.g_BadNumber (pa_cons pe_str (pa_cons (pv 0) pa_nil))))) pss_nil)
        (pss_cons (ps_expr (pe_call (ok_check_number T) (hr.mono (by omega)) rfl T.g_check_number T.k_check_number (b_check_number T) .nil (passes_call (takes_of rfl rfl rfl rfl) (fun _ _ _ _ h => h)) (pa_cons pe_str (pa_cons (pv 1) (pa_cons pe_int (pa_cons (pv 0) pa_nil))))))
        (pss_cons (ps_if (pt_cmpR op_lt (pv 2) pe_int (nomark _)) (pss_one (ps_raise rfl (takes_of rfl rfl rfl rfl) (pmk_oex T.ox_BadNumber T.ni_BadNumber T.ti_BadNumber (ok_BadNumber_init T) (hr.mono (by omega)) (b_BadNumber_init T) .nil pass0 rfl T.g_BadNumber (pa_cons pe_str (pa_cons (pv 2) pa_nil))))) pss_nil)
        (pss_cons (ps_expr (pe_call (ok_check_looks T) (hr.mono (by omega)) rfl T.g_check_looks T.k_check_looks (b_check_looks T) .nil (passes_call (takes_of rfl rfl rfl rfl) (fun _ _ _ _ h => h)) (pa_cons (pv 3) (pa_cons pe_int pa_nil))))
        (pss_cons (ps_if (pt_cmpR op_eq (pv 3) pe_int (nomark _)) (pss_one (ps_ret (pe_make T.mk_Ratio (ok_Ratio_init T) (hr.mono (by omega)) rfl T.g_Ratio (b_Ratio_init T) .nil (passes_call (takes_of rfl rfl rfl rfl) (fun _ _ _ _ h => h)) (pa_cons (pe_op op_mulW (pv 2) (pe_op op_sub (pv 0) (pv 1))) (pa_cons (pv 0) pa_nil))))) pss_nil)
        (pss_cons (ps_if (pt_cmpR op_eq (pv 1) pe_int (nomark _)) (pss_one (ps_ret (pe_make T.mk_Ratio (ok_Ratio_init T) (hr.mono (by omega)) rfl T.g_Ratio (b2_Ratio_init T).choose_spec.2 (b2_Ratio_init T).choose_spec.1 (passes_call (takes_of rfl rfl rfl rfl) (fun _ _ _ _ h => h)) (pa_cons (pv 2) pa_nil)))) pss_nil)
        (pss_cons (ps_if (pt_cmpR op_eq (pv 1) (pv 0) (nomark _)) (pss_one (ps_ret (pe_make T.mk_Ratio (ok_Ratio_init T) (hr.mono (by omega)) rfl T.g_Ratio (b2_Ratio_init T).choose_spec.2 (b2_Ratio_init T).choose_spec.1 (passes_call (takes_of rfl rfl rfl rfl) (fun _ _ _ _ h => h)) (pa_cons pe_int pa_nil)))) pss_nil)
        (pss_one (ps_ret (pe_make T.mk_Ratio (ok_Ratio_init T) (hr.mono (by omega)) rfl T.g_Ratio (b_Ratio_init T) .nil (passes_call (takes_of rfl rfl rfl rfl) (fun _ _ _ _ h => h)) (pa_cons (pe_op op_mulW (pv 2) (pe_op op_sub (pv 0) (pv 1))) (pa_cons (pe_op op_sub (pv 0) pe_int) pa_nil)))))))))))), ?_⟩
    try dsimp only
    refine q_when (b := decide (h < 1)) (et_test (ev_op (ev_var (i := 0) rfl) ev_c rv_I0)) (fun hb H1 e1 => ?_) (fun hb H1 e1 => ?_)
    · exact raise2 (C := A.C_BadNumber) (f := "name") (g := "value") (x := .str "hours") (y := .int h) T.ox_BadNumber (fun Q q => ⟨_, rfl, q⟩) (fun d H' e' hx => k1 "hours" h (if_pos (of_decide_eq_true hb)) d H' (e1.trans e') hx)
    have h1 := of_decide_eq_false hb
    refine ⟨_, rfl, _, rfl, _, s, 0, h, rfl, fun hs => ?_, fun hs d H' e' hx => k1 "size" s (by unfold flBad; rw [if_neg h1, if_pos hs]) d H' (e1.trans e') hx⟩
    try dsimp only
    refine q_when (b := decide (k < 0)) (et_test (ev_op (ev_var (i := 2) rfl) ev_c rv_I0)) (fun hb H2 e2 => ?_) (fun hb H2 e2 => ?_)
    · exact raise2 (C := A.C_BadNumber) (f := "name") (g := "value") (x := .str "stake") (y := .int k) T.ox_BadNumber (fun Q q => ⟨_, rfl, q⟩) (fun d H' e' hx => k1 "stake" k (by unfold flBad; rw [if_neg h1, if_neg (fun z => z hs), if_pos (of_decide_eq_true hb)]) d H' ((e1.trans e2).trans e') hx)
    have h2 := of_decide_eq_false hb
    replace e2 := e1.trans e2
    refine ⟨_, rfl, l, 1, rfl, fun hl => ?_, fun hl d H' e' hx => k1 "looks" l (by unfold flBad; rw [if_neg h1, if_neg (fun z => z hs), if_neg h2, if_pos hl]) d H' (e2.trans e') hx⟩
    have hn : flBad h s k l = none := by unfold flBad; rw [if_neg h1, if_neg (fun z => z hs), if_neg h2, if_neg (fun z => z hl)]
    obtain ⟨hzh, hzk⟩ := hz hn
    have z8 : ∀ z : Int, z.natAbs < 2 ^ 400 → z.natAbs < 2 ^ 8000 := fun z h => Nat.lt_of_lt_of_le h (Nat.pow_le_pow_right (by decide) (by decide))
    have hsub : (h - s).natAbs < 2 ^ 400 := Nat.lt_of_le_of_lt (show (h - s).natAbs ≤ h.natAbs by omega) hzh
    have hmul : CMulW k (h - s) := wide_mul hzk hsub (by decide) (by decide) (by decide)
    have evm : ∀ G, Ev (tOp (rI CMulW fun i j => .int (i * j)) (tVar 2) (tOp (rI0 fun i j => .int (i - j)) (tVar 0) (tVar 1))) [some (.int h), some (.int s), some (.int k), some (.int l)] G (.int (k * (h - s))) := fun G => ev_op (ev_var rfl) (ev_op (ev_var rfl) (ev_var rfl) rv_I0) (rv_I hmul)
    try dsimp only
    refine q_when (b := decide (l = 0)) (et_is (et_test (ev_op (ev_var (i := 3) rfl) ev_c (rv_eq rfl))) dec_ii) (fun hb H3 e3 => ?_) (fun hb H3 e3 => ?_)
    · refine s_retR (er_rat (K := K) (evm _) (ev_var rfl) (by omega) (z8 _ hzh)) fun v H4 e4 hv => k2 hn v H4 (e2.trans (e3.trans e4)) ?_
      unfold flV
      rw [if_pos (of_decide_eq_true hb)]
      exact hv
    have l0 := of_decide_eq_false hb
    replace e3 := e2.trans e3
    try dsimp only
    refine q_when (b := decide (s = 0)) (et_is (et_test (ev_op (ev_var (i := 1) rfl) ev_c (rv_eq rfl))) dec_ii) (fun hb H4 e4 => ?_) (fun hb H4 e4 => ?_)
    · refine s_retR (er_rat1 (K := K) (ev_var (i := 2) rfl)) fun v H5 e5 hv => k2 hn v H5 (e3.trans (e4.trans e5)) ?_
      unfold flV
      rw [if_neg l0, if_pos (of_decide_eq_true hb)]
      exact hv
    have s0 := of_decide_eq_false hb
    replace e4 := e3.trans e4
    try dsimp only
    refine q_when (b := decide (s = h)) (et_is (et_test (ev_op (ev_var (i := 1) rfl) (ev_var (i := 0) rfl) (rv_eq rfl))) dec_ii) (fun hb H5 e5 => ?_) (fun hb H5 e5 => ?_)
    · refine s_retR (er_rat1 (K := K) (p := 0) ev_c) fun v H6 e6 hv => k2 hn v H6 (e4.trans (e5.trans e6)) ?_
      unfold flV
      rw [if_neg l0, if_neg s0, if_pos (of_decide_eq_true hb)]
      exact hv
    have sh := of_decide_eq_false hb
    replace e5 := e4.trans e5
    try dsimp only
    refine s_retR (er_rat (K := K) (q := h - 1) (evm _) (ev_op (ev_var (i := 0) rfl) ev_c rv_I0) (by omega) (z8 _ (Nat.lt_of_le_of_lt (show (h - 1).natAbs ≤ h.natAbs by omega) hzh))) fun v H6 e6 hv => k2 hn v H6 (e5.trans e6) ?_
    unfold flV
    rw [if_neg l0, if_neg s0, if_neg sh]
    exact hv

def sp_cell (K : PySem.W.Frag) : Sp := fun vs H Q _ => ∃ (a : Addr) (ns : List Int) (k : Nat), vs = [.ref a, .int (k : Int)] ∧ SqL K H a (ns.map V.int) ∧ Q (.int (cellA ns k)) H
theorem ev_cell {K : PySem.W.Frag} {E : XK} {σ : L2.St} {H : Hp} {ta tk : TE} {a : Addr} {ns : List Int} {k : Nat} {z : Int} (ha : Ev ta σ H (.ref a)) (hk : Ev tk σ H (.int z)) (hS : SqL K H a (ns.map V.int)) (hz : z = (k : Int) := by rfl) : Ev (tCall (sp_cell K) [] E (tCons ta (tCons tk tNil))) σ H (.int (cellA ns k)) := fun H1 e Q q =>
  ha H1 e _ fun H2 e2 => hk H2 (e.trans e2) _ fun H3 e3 => by subst hz; exact ⟨a, ns, k, rfl, ex_l ((e.trans e2).trans e3) hS, q H3 (e2.trans e3)⟩
theorem ok_u_law_cell (T : Txt K mg A) : FnOk P w K mg base CX0 1 A.f_u_law_cell A.d_u_law_cell (["script", "k"] : List Str) (sp_cell K) := by
  refine T.F_u_law_cell.ok sc_u_law_cell (fun vs H Q E h => ?_) (fun cdv Ar outer s H vs Q E hr h => ?_)
  · obtain ⟨a, ns, k, rfl, _⟩ := h
    rfl
  · obtain ⟨a, ns, k, rfl, hS, q⟩ := h
    refine ⟨_, (pss_cons (ps_if (pt_cmpR op_lt (pv 1) (pe_callB len_K (by rfl) T.z_len (by decide +kernel) (pa_cons (pv 0) pa_nil)) (nomark _)) (pss_one (ps_ret (pe_callB call_abs (by rfl) T.z_abs (by decide +kernel) (pa_cons (pe_ix ix_lK (pv 0) (pv 1) (fun _ _ => rfl)) pa_nil)))) pss_nil)
        (pss_one (ps_ret pe_int))), ?_⟩
    refine ⟨_, rfl, _, rfl, .ref a, _, rfl, .inl ⟨_, hS, rfl⟩, _, _, rfl, rfl, _, rfl, ?_⟩
    unfold cellA at q
    rw [List.length_map]
    by_cases hk : k < ns.length
    · refine wayT (show (k : Int) < (ns.length : Int) by omega) ?_
      rw [if_pos hk] at q
      refine ⟨_, rfl, _, rfl, a, _, _, .int (ns.getD k 0), rfl, rfl, hS, atI_nat ?_, _, rfl, q⟩
      rw [List.getElem?_map, List.getD_eq_getElem?_getD, List.getElem?_eq_getElem hk]
      rfl
    · refine wayF (show ¬ (k : Int) < (ns.length : Int) by omega) ?_
      rw [if_neg hk] at q
      exact q

def sp_draws (K : PySem.W.Frag) : Sp := fun vs H Q _ => ∃ (c s : Int) (m : Addr) (ms : List Int), vs = [.int c, .int s, .ref m] ∧ SqL K H m (ms.map V.int) ∧ 0 ≤ c ∧ (-1000000 ≤ s ∧ s ≤ 1000000) ∧ ms.length ≤ 64 ∧
  (∀ x ∈ ms, 1 ≤ x ∧ x.natAbs < 2 ^ 1000) ∧ ∀ p H' ds, H p = none → Ex H H' → H' p = some (.lst (ds.map V.int)) → Drawn ms ds → Q (.ref p) H'
theorem er_draws {K : PySem.W.Frag} {E : XK} {σ : L2.St} {H : Hp} {tc ts tm : TE} {c z : Int} {ms : List Int} (hc : Ev tc σ H (.int c)) (hs : Ev ts σ H (.int z)) (hm : EvL tm σ H (ms.map V.int)) (h0 : 0 ≤ c) (hz : -1000000 ≤ z ∧ z ≤ 1000000) (hl : ms.length ≤ 64)
    (hb : ∀ x ∈ ms, 1 ≤ x ∧ x.natAbs < 2 ^ 1000) : EvR (tCall (sp_draws K) [] E (tCons tc (tCons ts (tCons tm tNil)))) σ H fun v H1 => ∃ p ds, v = .ref p ∧ H1 p = some (.lst (ds.map V.int)) ∧ Drawn ms ds := fun H1 e Q q =>
  hc H1 e _ fun H2 e2 => hs H2 (e.trans e2) _ fun H3 e3 => hm H3 ((e.trans e2).trans e3) _ fun m H4 _ e4 h4 =>
    ⟨c, z, m, ms, rfl, sq_of h4, h0, hz, hl, hb, fun p H' ds hp e' h' hD => q _ H' ((e2.trans e3).trans (e4.trans e')) ⟨p, ds, rfl, h', hD⟩⟩
theorem drawn_more {ms ds : List Int} {i : Nat} {m d : Int} (h : Drawn (ms.take i) ds) (hm : ms[i]? = some m) (h0 : 0 ≤ d) (h1 : d < m) : Drawn (ms.take (i + 1)) (ds ++ [d]) := by
  have hi : i < ms.length := (List.getElem?_eq_some_iff.mp hm).1
  obtain ⟨hl, hd⟩ := h
  have hl' : ds.length = i := by rw [hl, List.length_take]; omega
  refine ⟨by rw [List.length_append, hl', List.length_take]; simp; omega, fun j x hj => ?_⟩
  by_cases hji : j < i
  · have hx : (ms.take i)[j]? = some x := by
      rw [List.getElem?_take_of_lt hji]
      rw [List.getElem?_take_of_lt (by omega)] at hj
      exact hj
    obtain ⟨d', e, z⟩ := hd j x hx
    exact ⟨d', by rw [List.getElem?_append_left (by omega)]; exact e, z⟩
  · have hlt : j < i + 1 := by
      have := (List.getElem?_eq_some_iff.mp hj).1
      rw [List.length_take] at this
      omega
    have ej : j = i := by omega
    subst ej
    rw [List.getElem?_take_of_lt hlt, hm] at hj
    cases hj
    exact ⟨d, by rw [List.getElem?_append_right (by omega), hl', Nat.sub_self]; rfl, h0, h1⟩
theorem ok_u_law_draws (T : Txt K mg A) : FnOk P w K mg base CX0 1 A.f_u_law_draws A.d_u_law_draws (["cell", "salt", "menu"] : List Str) (sp_draws K) := by
  refine T.F_u_law_draws.ok sc_u_law_draws (fun vs H Q E h => ?_) (fun cdv Ar outer s H vs Q E hr h => ?_)
  · obtain ⟨c, s, m, ms, rfl, _⟩ := h
    rfl
  · obtain ⟨c, sa, m, ms, rfl, hS, hc, hs, hl, hm, k⟩ := h
    refine ⟨_, (pss_cons (ps_set (i := 3) sc_u_law_draws.nd rfl (Or.inl rfl) (pe_lst pa_nil))
        (pss_cons (ps_set (i := 4) sc_u_law_draws.nd rfl (Or.inl rfl) (pe_op op_sub (pv 0) (pe_op op_pow pe_int pe_int)))
        (pss_cons (ps_set (i := 5) sc_u_law_draws.nd rfl (Or.inl rfl) (pe_op op_add (pv 0) (pe_op op_mul pe_int (pv 1))))
        (pss_cons (ps_for PassesOwn.never rfl (pi_range1 rfl T.z_range (pa_cons (pe_callB len_K (by rfl) T.z_len (by decide +kernel) (pa_cons (pv 2) pa_nil)) pa_nil)) (pg_name (i := 6) sc_u_law_draws.nd rfl (Or.inl rfl)) (pss_one (ps_if (pt_cmpR op_ge (pv 4) pe_int (nomark _)) (pss_cons (ps_expr (pe_bm PySem.F.plainAttrs_list PySem.F.slot_list_append PySem.F.type_list_append mt_append (pv 3) (pa_cons (pe_op op_mod (pe_callTy call_int1 (by rfl) T.z_int (by decide +kernel) (pa_cons (pv 4) pa_nil)) (pe_ix ix_lK (pv 2) (pv 6) (fun _ _ => rfl))) pa_nil)))
        (pss_one (ps_set (i := 4) sc_u_law_draws.nd rfl (Or.inl rfl) (pe_op op_fdivW (pv 4) (pe_ix ix_lK (pv 2) (pv 6) (fun _ _ => rfl)))))) (pss_cons (ps_set (i := 5) sc_u_law_draws.nd rfl (Or.inl rfl) (pe_op op_mod (pe_callTy call_int1 (by rfl) T.z_int (by decide +kernel) (pa_cons (pe_op op_add (pe_op op_add (pe_op op_mul (pv 5) (pv 5)) (pe_op op_mul pe_int (pe_op op_add (pv 6) pe_int))) pe_int) pa_nil)) pe_int))
        (pss_cons (ps_set (i := 5) sc_u_law_draws.nd rfl (Or.inl rfl) (pe_op op_mod (pe_callTy call_int1 (by rfl) T.z_int (by decide +kernel) (pa_cons (pe_op op_add (pe_op op_mul (pv 5) (pv 5)) (pe_op op_fdiv (pv 5) pe_int)) pa_nil)) pe_int))
        (pss_one (ps_expr (pe_bm PySem.F.plainAttrs_list PySem.F.slot_list_append PySem.F.type_list_append mt_append (pv 3) (pa_cons (pe_op op_mod (pe_callTy call_int1 (by rfl) T.z_int (by decide +kernel) (pa_cons (pe_op op_fdiv (pv 5) pe_int) pa_nil)) (pe_ix ix_lK (pv 2) (pv 6) (fun _ _ => rfl))) pa_nil)))))))))
        (pss_one (ps_ret (pv 3))))))), ?_⟩
    refine ⟨Nat.zero_le _, fun p hp => ?_⟩
    refine ⟨_, rfl, _, _, rfl, rfl, ⟨by decide, by decide, by decide⟩, _, _, rfl, rfl, ?_⟩
    refine ⟨_, rfl, _, rfl, _, _, rfl, rfl, .inl ⟨by decide, by decide⟩, _, _, rfl, rfl, ?_⟩
    have e10 : ((10 : Int) ^ (18 : Int).toNat) = 1000000000000000000 := by decide
    have hS1 : SqL K (upd H p (.lst [])) m (ms.map V.int) := ex_l (Ex.new hp) hS
    refine ⟨_, rfl, .ref m, _, rfl, .inl ⟨_, hS1, rfl⟩, _, rfl, by omega, by rw [List.length_map]; omega, ?_⟩
    refine for_range (lo := 0) (n := ((ms.map V.int).length : Int).toNat) (fun i σ H' => ∃ (ds : List Int) (rest mixed : Int) (kv : Option V), σ = [some (.int c), some (.int sa), some (.ref m), some (.ref p), some (.int rest), some (.int mixed), kv] ∧ Ex H H' ∧
        H' p = some (.lst (ds.map V.int)) ∧ Drawn (ms.take i) ds ∧ (0 ≤ rest ∨ (-18446744073709551616 < mixed ∧ mixed < 18446744073709551616))) ?_ ?_ ?_
    · refine ⟨[], _, _, none, rfl, Ex.new hp, upd_same, ⟨by simp, fun i x h => by simp at h⟩, ?_⟩
      rw [e10]
      omega
    · rintro i σ H' hi ⟨ds, rest, mixed, kv, rfl, ex, hH, hD, hr0⟩
      have hi' : i < ms.length := by simpa using hi
      obtain ⟨mi, hmi⟩ : ∃ mi, ms[i]? = some mi := ⟨ms[i], List.getElem?_eq_getElem hi'⟩
      have hmm := hm mi (List.mem_of_getElem? hmi)
      have hSi : SqL K H' m (ms.map V.int) := ex_l ex hS
      have hat : atI (ms.map V.int) (0 + (i : Int)) = some (.int mi) := by
        rw [Int.zero_add]
        refine atI_nat ?_
        rw [List.getElem?_map, hmi]
        rfl
      have hdl : ds.length ≤ 64 := by
        have := hD.1
        rw [List.length_take] at this
        omega
      have hsz : (ds.map V.int).length < sizeLine := by
        rw [List.length_map]
        exact Nat.lt_of_le_of_lt hdl (by decide)
      have e0 : (0 : Int) + (i : Int) = (i : Int) := Int.zero_add _
      refine ⟨_, rfl, _, _, rfl, rfl, _, rfl, way (fun hr => ?_) (fun hr => ?_)⟩
      · refine ⟨_, rfl, .inl ⟨rfl, _, SqL.of hH⟩, _, rfl, .inl ⟨rest, rfl, _, rfl, _, rfl, m, _, _, .int mi, rfl, rfl, hSi, hat, _, _, rfl, rfl, (by show (0 : Int) < mi; omega), p, _, _, rfl, rfl, hH, hsz, ?_⟩⟩
        have ex2 : Ex H (upd H' p (.lst (ds.map V.int ++ [.int (rest % mi)]))) := Ex.mut ex hp
        refine ⟨_, rfl, _, rfl, _, rfl, m, _, _, .int mi, rfl, rfl, ex_l ex2 hS, hat, _, _, rfl, rfl, wide_div (by omega) hmm.2 (by decide) (by decide), ?_⟩
        refine ⟨ds ++ [rest % mi], rest / mi, mixed, _, rfl, ex2, ?_, drawn_more hD hmi (Int.emod_nonneg _ (by omega)) (Int.emod_lt_of_pos _ (by omega)), .inl (Int.ediv_nonneg hr (by omega))⟩
        rw [upd_same, List.map_append]
        rfl
      · have hx : -18446744073709551616 < mixed ∧ mixed < 18446744073709551616 := by omega
        refine ⟨_, rfl, _, rfl, _, _, rfl, rfl, .inl ⟨hx.1, hx.2⟩, _, rfl, _, _, rfl, rfl, _, _, rfl, rfl, .inl ⟨by decide, by decide⟩, _, _, rfl, rfl, _, _, rfl, rfl, .inl ⟨_, rfl, _, _, rfl, rfl, (by show (0 : Int) < 2147483399; decide), ?_⟩⟩
        have b1 : ∀ z : Int, 0 ≤ z % 2147483399 ∧ z % 2147483399 < 2147483399 := fun z => ⟨Int.emod_nonneg _ (by decide), Int.emod_lt_of_pos _ (by decide)⟩
        have b2 : ∀ z : Int, 0 ≤ z % 2147483629 ∧ z % 2147483629 < 2147483629 := fun z => ⟨Int.emod_nonneg _ (by decide), Int.emod_lt_of_pos _ (by decide)⟩
        refine ⟨_, rfl, _, rfl, _, _, rfl, rfl, .inl ⟨Int.lt_of_lt_of_le (by decide) (b1 _).1, Int.lt_trans (b1 _).2 (by decide)⟩, _, rfl, _, _, rfl, rfl, ⟨by decide, by decide⟩, _, _, rfl, rfl, .inl ⟨_, rfl, _, _, rfl, rfl, (by show (0 : Int) < 2147483629; decide), ?_⟩⟩
        refine ⟨_, rfl, .inl ⟨rfl, _, SqL.of hH⟩, _, rfl, _, _, rfl, rfl, ⟨by decide, by decide⟩, .inl ⟨_, rfl, _, rfl, _, rfl, m, _, _, .int mi, rfl, rfl, hSi, hat, _, _, rfl, rfl, (by show (0 : Int) < mi; omega), p, _, _, rfl, rfl, hH, hsz, ?_⟩⟩
        refine ⟨ds ++ [((((mixed * mixed + 3571 * (0 + (i : Int) + 1) + 40692) % 2147483399) * ((mixed * mixed + 3571 * (0 + (i : Int) + 1) + 40692) % 2147483399) + ((mixed * mixed + 3571 * (0 + (i : Int) + 1) + 40692) % 2147483399) / 97) % 2147483629) / 8 % mi], rest, _, _, rfl, Ex.mut ex hp, ?_, drawn_more hD hmi (Int.emod_nonneg _ (by omega)) (Int.emod_lt_of_pos _ (by omega)), .inr ⟨Int.lt_of_lt_of_le (by decide) (b2 _).1, Int.lt_trans (b2 _).2 (by decide)⟩⟩
        rw [upd_same, List.map_append]
        rfl
    · rintro σ H' ⟨ds, rest, mixed, kv, rfl, ex, hH, hD, _⟩
      refine ⟨_, rfl, k p H' ds hp ex hH ?_⟩
      have e : ((ms.map V.int).length : Int).toNat = ms.length := by simp
      rw [e, List.take_length] at hD
      exact hD

def spGcd : Sp := fun vs H Q _ => ∃ a b : Int, vs = [.int a, .int b] ∧ ∀ H', Ex H H' → Q (.int ((Nat.gcd a.natAbs b.natAbs : Nat) : Int)) H'
theorem ev_abs {σ : L2.St} {H : Hp} {te : TE} {z : Int} (h : Ev te σ H (.int z)) : Ev (tCB (fun xs H Q => ∃ i, xs = [V.int i] ∧ Q (V.int (if i < 0 then -i else i)) H) (tCons te tNil)) σ H (.int (z.natAbs : Int)) :=
  ev_is (ev_cb (ea_cons h ea_nil) fun H1 _ _ q => ⟨z, rfl, q H1 (Ex.refl H1)⟩) (by congr 1; split <;> omega)
theorem ev_lawGcd {E : XK} {σ : L2.St} {H : Hp} {ta tb : TE} {a b : Int} (ha : Ev ta σ H (.int a)) (hb : Ev tb σ H (.int b)) : Ev (tCall spGcd [] E (tCons ta (tCons tb tNil))) σ H (.int ((Nat.gcd a.natAbs b.natAbs : Nat) : Int)) :=
  ev_call (ea_cons ha (ea_cons hb ea_nil)) fun H1 e Q q E => ⟨a, b, rfl, fun H' e' => q H' e'⟩
theorem ok_u_law_gcd (T : Txt K mg A) : FnOk P w K mg base CX0 1 A.f_u_law_gcd A.d_u_law_gcd (["a", "b"] : List Str) spGcd := by
  refine T.F_u_law_gcd.ok sc_u_law_gcd (fun vs H Q E h => ?_) (fun cdv Ar outer s H vs Q E hr h => ?_)
  · obtain ⟨a, b, rfl, _⟩ := h
    rfl
  · obtain ⟨a, b, rfl, k⟩ := h
    refine ⟨_, (pss_cons (ps_set (i := 0) sc_u_law_gcd.nd rfl (Or.inl rfl) (pe_callB call_abs (by rfl) T.z_abs (by decide +kernel) (pa_cons (pv 0) pa_nil)))
        (pss_cons (ps_set (i := 1) sc_u_law_gcd.nd rfl (Or.inl rfl) (pe_callB call_abs (by rfl) T.z_abs (by decide +kernel) (pa_cons (pv 1) pa_nil)))
        (pss_cons (ps_while PassesOwn.never (pt_cmpR op_gt (pv 1) pe_int (nomark _)) (pss_one (ps_par (i := 0) (j := 1) (by rfl) sc_u_law_gcd.nd rfl rfl (by decide) rfl rfl (pa_cons (pv 1) (pa_cons (pe_op op_mod (pe_callTy call_int1 (by rfl) T.z_int (by decide +kernel) (pa_cons (pv 0) pa_nil)) (pv 1)) pa_nil)) (by rfl))))
        (pss_one (ps_ret (pv 0)))))), ?_⟩
    try dsimp only
    refine q_asg (v := .int (a.natAbs : Int)) (ev_abs (ev_var (i := 0) rfl)) fun H1 e1 => ?_
    try dsimp only
    refine q_asg (v := .int (b.natAbs : Int)) (ev_abs (ev_var (i := 1) rfl)) fun H2 e2 => ?_
    replace e2 := e1.trans e2
    try dsimp only
    refine q_while (fun m σ' H' => ∃ x y : Nat, σ' = [some (.int (x : Int)), some (.int (y : Int))] ∧ Ex H H' ∧ Nat.gcd x y = Nat.gcd a.natAbs b.natAbs ∧ m = y) b.natAbs ⟨a.natAbs, b.natAbs, rfl, e2, rfl, rfl⟩ ?_
    rintro m σ' H' ⟨x, y, rfl, e, hg, rfl⟩
    refine ⟨decide ((0 : Int) < (m : Int)), et_test (ev_op (ev_var (i := 1) rfl) ev_c rv_I0), fun hb H3 e3 => ?_, fun hb H3 e3 => ?_⟩
    · have hm : 0 < m := by have := of_decide_eq_true hb; omega
      refine ⟨fun σ2 H4 => σ2 = [some (.int (m : Int)), some (.int ((x % m : Nat) : Int))] ∧ Ex H H4, fun σ2 H4 h => ⟨x % m, Nat.mod_lt _ hm, m, x % m, h.1, h.2, ?_, rfl⟩, ?_⟩
      · rw [← hg, Nat.gcd_comm, ← Nat.gcd_rec, Nat.gcd_comm]
      · refine ea_cons (ev_var (i := 1) rfl) (ea_cons (ev_op (ev_int (ev_var (i := 0) rfl)) (ev_var (i := 1) rfl) (rv_I (by omega))) ea_nil) H3 (Ex.refl _) _ fun H4 e4 => ⟨_, _, rfl, ?_, e.trans (e3.trans e4)⟩
        rw [Int.natCast_emod]
        rfl
    · have hm : m = 0 := by have := of_decide_eq_false hb; omega
      subst hm
      rw [Nat.gcd_zero_right] at hg
      refine s_ret (v := .int (x : Int)) (ev_var (i := 0) rfl) fun H4 e4 => ?_
      rw [hg]
      exact k H4 (e.trans (e3.trans e4))

theorem isi {K : PySem.W.Frag} {H : Hp} {x : V} {t n : String} {b : Bool} {Q : VK} (ty : TyX K H x (.type t)) (h : kitB t n = some b) (q : Q (.bl b) H) : rIsi K [x, .ty n] H Q := ⟨x, .ty n, _, _, b, rfl, .ty n, ty, kit_ty h, q⟩
def sp_is_int (K : PySem.W.Frag) : Sp := fun vs H Q _ => ∃ i : Int, vs = [.int i] ∧ Q (.bl true) H
theorem ok_u_law_is_int (T : Txt K mg A) : FnOk P w K mg base CX0 1 A.f_u_law_is_int A.d_u_law_is_int (["x"] : List Str) (sp_is_int K) := by
  refine T.F_u_law_is_int.ok sc_u_law_is_int (fun vs H Q E h => ?_) (fun cdv Ar outer s H vs Q E hr h => ?_)
  · obtain ⟨i, rfl, _⟩ := h
    rfl
  · obtain ⟨i, rfl, q⟩ := h
    refine ⟨_, (pss_one (ps_ret (pe_and (pe_callB isi_K (by rfl) T.z_isinstance (by decide +kernel) (pa_cons (pv 0) (pa_cons (pe_bltn (v := .ty "int") (by rfl) T.z_int (by decide +kernel) rfl) pa_nil))) (pe_one (pe_not (pe_callB isi_K (by rfl) T.z_isinstance (by decide +kernel) (pa_cons (pv 0) (pa_cons (pe_bltn (v := .ty "bool") (by rfl) T.z_bool (by decide +kernel) rfl) pa_nil)))))))), ?_⟩
    refine ⟨_, rfl, _, _, _, _, true, rfl, .ty _, .base (.int i), kit_ty (by decide +kernel), ⟨_, rfl, iteT ?_⟩⟩
    exact ⟨_, rfl, _, _, _, _, false, rfl, .ty _, .base (.int i), kit_ty (by decide +kernel), ⟨_, rfl, q⟩⟩

def spIsRat (A : Ads) : Sp := fun vs H Q _ => ∃ (v : V) (t u : Int), vs = [v] ∧ RatAt A.C_Ratio v H t u ∧ 0 < u ∧ Nat.gcd t.natAbs u.natAbs = 1 ∧ ∀ H', Ex H H' → Q (.bl true) H'
theorem ev_isInt {K : PySem.W.Frag} {E : XK} {σ : L2.St} {H : Hp} {te : TE} {z : Int} (h : Ev te σ H (.int z)) : Ev (tCall (sp_is_int K) [] E (tCons te tNil)) σ H (.bl true) := fun H1 e Q q => h H1 e _ fun H2 e2 => ⟨z, rfl, q H2 e2⟩
theorem ok_u_law_is_ratio (T : Txt K mg A) : FnOk P w K mg base CX0 2 A.f_u_law_is_ratio A.d_u_law_is_ratio (["x"] : List Str) (spIsRat A) := by
  refine T.F_u_law_is_ratio.ok sc_u_law_is_ratio (fun vs H Q E h => ?_) (fun cdv Ar outer s H vs Q E hr h => ?_)
  · obtain ⟨v, t, u, rfl, _⟩ := h
    rfl
  · obtain ⟨v, t, u, rfl, hv, hu, hg, k⟩ := h
    refine ⟨_, (pss_cons (ps_if (PW.pt (pw_or (pt_not (pt_val (pe_callB isi_K (by rfl) T.z_isinstance (by decide +kernel) (pa_cons (pv 0) (pa_cons (pe_glob (v := .ref A.C_Ratio) rfl T.g_Ratio rfl) pa_nil))))) (pw_or (pt_not (pt_val (pe_call (ok_u_law_is_int T) (hr.mono (by omega)) rfl T.g_u_law_is_int T.k_u_law_is_int (b_u_law_is_int T) .nil pass0 (pa_cons (pe_fldK (pv 0) rfl) pa_nil)))) (pw_or1 (pt_not (pt_val (pe_call (ok_u_law_is_int T) (hr.mono (by omega)) rfl T.g_u_law_is_int T.k_u_law_is_int (b_u_law_is_int T) .nil pass0 (pa_cons (pe_fldK (pv 0) rfl) pa_nil)))))))) (pss_one (ps_ret pe_bl)) pss_nil)
        (pss_one (ps_ret (pe_and (pe_cmpR op_ge (pe_fldK (pv 0) rfl) pe_int (nomark _)) (pe_one (pe_cmpR op_eq (pe_call (ok_u_law_gcd T) (hr.mono (by omega)) rfl T.g_u_law_gcd T.k_u_law_gcd (b_u_law_gcd T) .nil pass0 (pa_cons (pe_fldK (pv 0) rfl) (pa_cons (pe_fldK (pv 0) rfl) pa_nil))) pe_int (nomark _))))))), ?_⟩
    obtain ⟨a, dx, rfl, hi⟩ := id hv
    try dsimp only
    refine q_skip (et_orF (et_notT (et_B fun H1 e1 Q q => ⟨_, rfl, _, _, _, _, true, rfl, .own _, T.ty_Ratio H1 a dx _ (e1 _ _ hi), kit_self, q H1 (Ex.refl H1)⟩)) (et_orF (et_notT (et_B (ev_isInt (ev_top (ev_var rfl) hv T.cl_Ratio T.na_Ratio_top)))) (et_notT (et_B (ev_isInt (ev_under (ev_var rfl) hv T.cl_Ratio T.na_Ratio_under)))))) fun H1 e1 => ?_
    try dsimp only
    refine s_ret (v := .bl true) (ev_andV (a := true) (ev_is (ev_op (ev_under (ev_var rfl) (hv.ex e1) T.cl_Ratio T.na_Ratio_under) ev_c rv_I0) (by congr 1; exact decide_eq_true (by omega))) fun _ => ev_is (ev_op (ev_lawGcd (ev_top (ev_var rfl) (hv.ex e1) T.cl_Ratio T.na_Ratio_top) (ev_under (ev_var rfl) (hv.ex e1) T.cl_Ratio T.na_Ratio_under)) ev_c (rv_eq rfl)) (by rw [hg]; simp)) fun H2 e2 => k H2 (e1.trans e2)

/-- t / u in lowest terms, of the worth p / q -/
def IsRt (A : Ads) (v : V) (H : Hp) (p q : Int) : Prop := ∃ t u, Low p q t u ∧ RatAt A.C_Ratio v H t u
theorem IsRt.ex {A : Ads} {v : V} {H H' : Hp} {p q : Int} (e : Ex H H') (h : IsRt A v H p q) : IsRt A v H' p q := by
  obtain ⟨t, u, h1, h2⟩ := h
  exact ⟨t, u, h1, h2.ex e⟩
def spWorth (A : Ads) : Sp := fun vs H Q _ => ∃ (v : V) (p q : Int), vs = [v, .int p, .int q] ∧ IsRt A v H p q ∧ p.natAbs < 2 ^ 4000 ∧ q.natAbs < 2 ^ 4000 ∧ ∀ H', Ex H H' → Q (.bl true) H'
theorem ev_worth {A : Ads} {E : XK} {σ : L2.St} {H : Hp} {ta tb tc : TE} {p q : Int} (ha : EvR ta σ H fun v H1 => IsRt A v H1 p q) (hb : Ev tb σ H (.int p)) (hc : Ev tc σ H (.int q)) (zp : p.natAbs < 2 ^ 4000) (zq : q.natAbs < 2 ^ 4000) :
    Ev (tCall (spWorth A) [] E (tCons ta (tCons tb (tCons tc tNil)))) σ H (.bl true) := fun H1 e Q k =>
  ha H1 e _ fun v H2 e2 hv => hb H2 (e.trans e2) _ fun H3 e3 => hc H3 ((e.trans e2).trans e3) _ fun H4 e4 => ⟨v, p, q, rfl, hv.ex (e3.trans e4), zp, zq, fun H' e' => k H' (((e2.trans e3).trans e4).trans e')⟩
theorem ok_u_law_worth (T : Txt K mg A) : FnOk P w K mg base CX0 3 A.f_u_law_worth A.d_u_law_worth (["x", "top", "under"] : List Str) (spWorth A) := by
  refine T.F_u_law_worth.ok sc_u_law_worth (fun vs H Q E h => ?_) (fun cdv Ar outer s H vs Q E hr h => ?_)
  · obtain ⟨v, p, q, rfl, _⟩ := h
    rfl
  · obtain ⟨v, p, q, rfl, hv, zp, zq, k⟩ := h
    refine ⟨_, (pss_one (ps_ret (pe_and (pe_call (ok_u_law_is_ratio T) (hr.mono (by omega)) rfl T.g_u_law_is_ratio T.k_u_law_is_ratio (b_u_law_is_ratio T) .nil pass0 (pa_cons (pv 0) pa_nil)) (pe_one (pe_cmpR op_eq (pe_op op_mulW (pe_fldK (pv 0) rfl) (pv 2)) (pe_op op_mulW (pv 1) (pe_fldK (pv 0) rfl)) (nomark _)))))), ?_⟩
    obtain ⟨t, u, hl, hr⟩ := hv
    have m1 : CMulW t q := wide_mul (Nat.lt_of_le_of_lt hl.lt zp) zq (by decide) (by decide) (by decide)
    have m2 : CMulW p u := wide_mul zp (Nat.lt_of_le_of_lt hl.lu zq) (by decide) (by decide) (by decide)
    try dsimp only
    refine s_ret (v := .bl true) (ev_andV (a := true) (ev_call (ea_cons (ev_var (i := 0) rfl) ea_nil) fun H1 e Q q E => ⟨v, t, u, rfl, hr.ex e, hl.pos, hl.cop, fun H' e' => q H' e'⟩) fun _ =>
      ev_is (ev_op (ev_op (ev_top (ev_var (i := 0) rfl) hr T.cl_Ratio T.na_Ratio_top) (ev_var (i := 2) rfl) (rv_I m1)) (ev_op (ev_var (i := 1) rfl) (ev_under (ev_var (i := 0) rfl) hr T.cl_Ratio T.na_Ratio_under) (rv_I m2)) (rv_eq rfl)) (by rw [hl.eq]; simp)) fun H2 e2 => k H2 e2
/-- like data are told alike -/
def sp_same (K : PySem.W.Frag) (n : Nat) : Sp := fun vs H Q _ => ∃ (x y : V) (d : PyData), vs = [x, y] ∧ Dp K H x d ∧ Dp K H y d ∧ Flat n d ∧ Q (.bl true) H
theorem same_loop {K : PySem.W.Frag} {H : Hp} {n k : Nat} {xs ys : List V} {ds : List PyData} {x y : V} {kv : Option V} {Q : VK} {N : L2.St → Hp → Prop} {tb : TS} (hk : k = ds.length) (hx : DpAll K H xs ds) (hy : DpAll K H ys ds) (hf : ∀ d ∈ ds, Flat n d) (hl : ds.length ≤ 40000)
    (hb : ∀ (i : Nat) (u v : V) (d : PyData) (kv : Option V) (D : Ends), i < ds.length → xs[i]? = some u → ys[i]? = some v → Dp K H u d → Dp K H v d → Flat n d → D.nx [some x, some y, some (.int (i : Int))] H → tb D ([some x, some y, kv].set 2 (some (.int (i : Int)))) H)
    (hq : ∀ kv, N [some x, some y, kv] H) :
    ∃ W : Nat → Nat → L2.St → Hp → Prop, (∃ m, W 0 m [some x, some y, kv] H) ∧ ∀ i m σ H, W i m σ H →
      ((Itr 0 k).stop i H ∧ N σ H) ∨ ((Itr 0 k).go i H ∧ ∃ N' : L2.St → Hp → Prop, (∀ σ' H', N' σ' H' → ∃ m', m' < m ∧ W (i + 1) m' σ' H') ∧ ∀ z H', (Itr 0 k).yld i H z H' → gName 2 z σ H' fun σ2 H2 => tb { nx := N', ct := N', bk := N, rt := Q } σ2 H2) := by
  subst hk
  refine for_range (D := { nx := N, rt := Q }) (fun i σ H' => H' = H ∧ ∃ kv, σ = [some x, some y, kv]) ⟨rfl, _, rfl⟩ ?_ ?_
  · rintro i σ H' hi ⟨rfl, kv, rfl⟩
    obtain ⟨_, gx⟩ := dp_get hx
    obtain ⟨_, gy⟩ := dp_get hy
    have ed := List.getElem?_eq_getElem hi
    obtain ⟨u, eu, du⟩ := gx i _ ed
    obtain ⟨v, ev, dv⟩ := gy i _ ed
    show tb _ ([some x, some y, kv].set 2 (some (.int (0 + (i : Int))))) H'
    rw [Int.zero_add]
    exact hb i u v _ kv _ hi eu ev du dv (hf _ (List.getElem_mem hi)) ⟨rfl, _, rfl⟩
  · rintro σ H' ⟨rfl, kv, rfl⟩
    exact hq kv
theorem ok_u_law_same_n (T : Txt K mg A) : ∀ n, FnOk P w K mg base CX0 (n + 2) A.f_u_law_same A.d_u_law_same (["got", "due"] : List Str) (sp_same K n) := by
  intro n
  induction n with
  | zero => exact ⟨fun vs H Q E h => by obtain ⟨x, y, d, rfl, _⟩ := h; rfl, fun Ar outer s H args us vs Q E _ _ _ _ h => by obtain ⟨x, y, d, _, _, _, hf, _⟩ := h; exact hf.elim⟩
  | succ n ih =>
    refine T.F_u_law_same.ok sc_u_law_same (fun vs H Q E h => ?_) (fun cdv Ar outer s H vs Q E hr h => ?_)
    · obtain ⟨x, y, d, rfl, _⟩ := h
      rfl
    · obtain ⟨x, y, d, rfl, hx, hy, hf, q⟩ := h
      have ihx := ih
      refine ⟨_, (pss_cons (ps_if (pt_cmpR op_isN (pv 1) pe_non (nomark _)) (pss_one (ps_ret (pe_cmpR op_isN (pv 0) pe_non (nomark _)))) pss_nil)
        (pss_cons (ps_if (pt_cmpR op_isK (pv 1) pe_bl (nomark _)) (pss_one (ps_ret (pe_cmpR op_isK (pv 0) pe_bl (nomark _)))) pss_nil)
        (pss_cons (ps_if (pt_cmpR op_isK (pv 1) pe_bl (nomark _)) (pss_one (ps_ret (pe_cmpR op_isK (pv 0) pe_bl (nomark _)))) pss_nil)
        (pss_cons (ps_if (pt_val (pe_callB isi_K (by rfl) T.z_isinstance (by decide +kernel) (pa_cons (pv 1) (pa_cons (pe_bltn (v := .ty "int") (by rfl) T.z_int (by decide +kernel) rfl) pa_nil)))) (pss_one (ps_ret (pe_and (pe_call (ok_u_law_is_int T) (hr.mono (by omega)) rfl T.g_u_law_is_int T.k_u_law_is_int (b_u_law_is_int T) .nil pass0 (pa_cons (pv 0) pa_nil)) (pe_one (pe_cmpR op_eq (pv 0) (pv 1) (nomark _)))))) pss_nil)
        (pss_cons (ps_if (pt_val (pe_callB isi_K (by rfl) T.z_isinstance (by decide +kernel) (pa_cons (pv 1) (pa_cons (pe_bltn (v := .ty "str") (by rfl) T.z_str (by decide +kernel) rfl) pa_nil)))) (pss_one (ps_ret (pe_and (pe_callB isi_K (by rfl) T.z_isinstance (by decide +kernel) (pa_cons (pv 0) (pa_cons (pe_bltn (v := .ty "str") (by rfl) T.z_str (by decide +kernel) rfl) pa_nil))) (pe_one (pe_cmpR op_eq (pv 0) (pv 1) (nomark _)))))) pss_nil)
        (pss_cons (ps_if (pt_val (pe_callB isi_K (by rfl) T.z_isinstance (by decide +kernel) (pa_cons (pv 1) (pa_cons (pe_bltn (v := .ty "tuple") (by rfl) T.z_tuple (by decide +kernel) rfl) pa_nil)))) (pss_one (ps_if (PW.pt (pw_or (pt_not (pt_val (pe_callB isi_K (by rfl) T.z_isinstance (by decide +kernel) (pa_cons (pv 0) (pa_cons (pe_bltn (v := .ty "tuple") (by rfl) T.z_tuple (by decide +kernel) rfl) pa_nil))))) (pw_or1 (pt_cmpR op_ne (pe_callB len_K (by rfl) T.z_len (by decide +kernel) (pa_cons (pv 0) pa_nil)) (pe_callB len_K (by rfl) T.z_len (by decide +kernel) (pa_cons (pv 1) pa_nil)) (nomark _))))) (pss_one (ps_ret pe_bl)) pss_nil)) (pss_one (ps_if (PW.pt (pw_or (pt_not (pt_val (pe_callB isi_K (by rfl) T.z_isinstance (by decide +kernel) (pa_cons (pv 0) (pa_cons (pe_bltn (v := .ty "list") (by rfl) T.z_list (by decide +kernel) rfl) pa_nil))))) (pw_or1 (pt_cmpR op_ne (pe_callB len_K (by rfl) T.z_len (by decide +kernel) (pa_cons (pv 0) pa_nil)) (pe_callB len_K (by rfl) T.z_len (by decide +kernel) (pa_cons (pv 1) pa_nil)) (nomark _))))) (pss_one (ps_ret pe_bl)) pss_nil)))
        (pss_cons (ps_for PassesOwn.never rfl (pi_range1 rfl T.z_range (pa_cons (pe_callB len_K (by rfl) T.z_len (by decide +kernel) (pa_cons (pv 1) pa_nil)) pa_nil)) (pg_name (i := 2) sc_u_law_same.nd rfl (Or.inl rfl)) (pss_one (ps_if (pt_not (pt_val (pe_call ih (hr.mono (by omega)) rfl T.g_u_law_same T.k_u_law_same (b_u_law_same T) .nil pass0 (pa_cons (pe_ix ix_sK (pv 0) (pv 2) (fun _ _ => rfl)) (pa_cons (pe_ix ix_sK (pv 1) (pv 2) (fun _ _ => rfl)) pa_nil))))) (pss_one (ps_ret pe_bl)) pss_nil)))
        (pss_one (ps_ret pe_bl))))))))), ?_⟩
      cases hx with
      | non => cases hy; exact ⟨_, rfl, rfl, _, rfl, wayT rfl ⟨_, rfl, rfl, q⟩⟩
      | bl b =>
        cases hy
        refine ⟨_, rfl, rfl, _, rfl, wayF (fun z => by cases z) ?_⟩
        cases b with
        | true => exact ⟨_, rfl, _, rfl, _, rfl, wayT rfl ⟨_, rfl, _, rfl, q⟩⟩
        | false => exact ⟨_, rfl, _, rfl, _, rfl, wayF (fun z => by cases z) ⟨_, rfl, _, rfl, _, rfl, wayT rfl ⟨_, rfl, _, rfl, q⟩⟩⟩
      | int i =>
        cases hy
        refine ⟨_, rfl, rfl, _, rfl, wayF (fun z => by cases z) ⟨_, rfl, _, rfl, _, rfl, wayF (fun z => by cases z) ⟨_, rfl, _, rfl, _, rfl, wayF (fun z => by cases z) ?_⟩⟩⟩
        refine ⟨_, rfl, _, _, _, _, true, rfl, .ty _, .base (.int i), kit_ty (by decide +kernel), ⟨_, rfl, iteT ?_⟩⟩
        refine ⟨_, rfl, i, rfl, _, rfl, iteT ?_⟩
        refine ⟨_, rfl, _, rfl, rfl, ?_⟩
        rw [decide_eq_true rfl]
        exact q
      | str z =>
        cases hy
        refine ⟨_, rfl, rfl, _, rfl, wayF (fun z => by cases z) ⟨_, rfl, _, rfl, _, rfl, wayF (fun z => by cases z) ⟨_, rfl, _, rfl, _, rfl, wayF (fun z => by cases z) ?_⟩⟩⟩
        refine ⟨_, rfl, _, _, _, _, false, rfl, .ty _, .base (.str z), kit_ty (by decide +kernel), ⟨_, rfl, iteF ?_⟩⟩
        refine ⟨_, rfl, _, _, _, _, true, rfl, .ty _, .base (.str z), kit_ty (by decide +kernel), ⟨_, rfl, iteT ?_⟩⟩
        refine ⟨_, rfl, _, _, _, _, true, rfl, .ty _, .base (.str z), kit_ty (by decide +kernel), ⟨_, rfl, iteT ?_⟩⟩
        refine ⟨_, rfl, _, rfl, rfl, ?_⟩
        rw [decide_eq_true rfl]
        exact q
      | lst sx ax =>
        cases hy with
        | lst sy ay =>
          refine ⟨_, rfl, rfl, _, rfl, wayF (fun z => by cases z) ⟨_, rfl, _, rfl, _, rfl, wayF (fun z => by cases z) ⟨_, rfl, _, rfl, _, rfl, wayF (fun z => by cases z) ?_⟩⟩⟩
          refine ⟨_, rfl, _, _, _, _, false, rfl, .ty _, tyx_l sy, kit_ty (by decide +kernel), ⟨_, rfl, iteF ?_⟩⟩
          refine ⟨_, rfl, _, _, _, _, false, rfl, .ty _, tyx_l sy, kit_ty (by decide +kernel), ⟨_, rfl, iteF ?_⟩⟩
          refine ⟨_, rfl, _, _, _, _, false, rfl, .ty _, tyx_l sy, kit_ty (by decide +kernel), ⟨_, rfl, iteF ?_⟩⟩
          refine ⟨_, rfl, _, _, _, _, true, rfl, .ty _, tyx_l sx, kit_ty (by decide +kernel), ⟨_, rfl, iteF ?_⟩⟩
          have lx := (dp_get ax).1
          have ly := (dp_get ay).1
          refine ⟨_, rfl, _, _, rfl, .inl ⟨_, sx, rfl⟩, _, rfl, _, _, rfl, .inl ⟨_, sy, rfl⟩, rfl, _, rfl, wayNT (by rw [lx, ly]) ?_⟩
          have h40 := hf.1
          refine ⟨_, rfl, _, _, rfl, .inl ⟨_, sy, rfl⟩, _, rfl, by omega, by omega, same_loop (by omega) ax ay hf.2 hf.1 (fun i u v d kv D hi eu ev du dv fd hn => ?_) (fun kv => q)⟩
          refine ⟨_, rfl, _, rfl, .inl ⟨_, _, _, u, rfl, rfl, sx, atI_nat eu, ?_⟩⟩
          refine ⟨_, rfl, _, rfl, .inl ⟨_, _, _, v, rfl, rfl, sy, atI_nat ev, ?_⟩⟩
          exact ⟨u, v, d, rfl, du, dv, fd, _, rfl, iteF hn⟩
      | tup sx ax =>
        cases hy with
        | tup sy ay =>
          refine ⟨_, rfl, rfl, _, rfl, wayF (fun z => by cases z) ⟨_, rfl, _, rfl, _, rfl, wayF (fun z => by cases z) ⟨_, rfl, _, rfl, _, rfl, wayF (fun z => by cases z) ?_⟩⟩⟩
          refine ⟨_, rfl, _, _, _, _, false, rfl, .ty _, tyx_t sy, kit_ty (by decide +kernel), ⟨_, rfl, iteF ?_⟩⟩
          refine ⟨_, rfl, _, _, _, _, false, rfl, .ty _, tyx_t sy, kit_ty (by decide +kernel), ⟨_, rfl, iteF ?_⟩⟩
          refine ⟨_, rfl, _, _, _, _, true, rfl, .ty _, tyx_t sy, kit_ty (by decide +kernel), ⟨_, rfl, iteT ?_⟩⟩
          refine ⟨_, rfl, _, _, _, _, true, rfl, .ty _, tyx_t sx, kit_ty (by decide +kernel), ⟨_, rfl, iteF ?_⟩⟩
          have lx := (dp_get ax).1
          have ly := (dp_get ay).1
          refine ⟨_, rfl, _, _, rfl, .inr ⟨_, sx, rfl⟩, _, rfl, _, _, rfl, .inr ⟨_, sy, rfl⟩, rfl, _, rfl, wayNT (by rw [lx, ly]) ?_⟩
          have h40 := hf.1
          refine ⟨_, rfl, _, _, rfl, .inr ⟨_, sy, rfl⟩, _, rfl, by omega, by omega, same_loop (by omega) ax ay hf.2 hf.1 (fun i u v d kv D hi eu ev du dv fd hn => ?_) (fun kv => q)⟩
          refine ⟨_, rfl, _, rfl, .inr (.inl ⟨_, _, _, u, rfl, rfl, sx, atI_nat eu, ?_⟩)⟩
          refine ⟨_, rfl, _, rfl, .inr (.inl ⟨_, _, _, v, rfl, rfl, sy, atI_nat ev, ?_⟩)⟩
          exact ⟨u, v, d, rfl, du, dv, fd, _, rfl, iteF hn⟩
theorem ok_u_law_same (T : Txt K mg A) : FnOk P w K mg base CX0 6 A.f_u_law_same A.d_u_law_same (["got", "due"] : List Str) (sp_same K 4) := ok_u_law_same_n T 4

/-! ### data told twice -/
theorem ed_ev {K : PySem.W.Frag} {σ : L2.St} {H : Hp} {te : TE} {v : V} {d : PyData} (h : Ev te σ H v) (hd : ∀ H1, Ex H H1 → Dp K H1 v d) : EvR te σ H fun v H1 => Dp K H1 v d := er_ev h hd
theorem ed_int {K : PySem.W.Frag} {σ : L2.St} {H : Hp} {te : TE} {z : Int} (h : Ev te σ H (.int z)) : EvR te σ H fun v H1 => Dp K H1 v (.int z) := er_ev h fun _ _ => .int z
theorem ed_bl {K : PySem.W.Frag} {σ : L2.St} {H : Hp} {te : TE} {z : Bool} (h : Ev te σ H (.bl z)) : EvR te σ H fun v H1 => Dp K H1 v (.bool z) := er_ev h fun _ _ => .bl z
theorem ed_str {K : PySem.W.Frag} {σ : L2.St} {H : Hp} {te : TE} {z : Str} (h : Ev te σ H (.str z)) : EvR te σ H fun v H1 => Dp K H1 v (.str z) := er_ev h fun _ _ => .str z
theorem ed_L {K : PySem.W.Frag} {σ : L2.St} {H : Hp} {te : TE} {xs : List Int} (h : EvL te σ H (xs.map V.int)) : EvR te σ H fun v H1 => Dp K H1 v (.list (xs.map .int)) := (er_L h).imp fun v H1 q => by
  obtain ⟨p, rfl, hp⟩ := q
  exact .lst (sq_of hp) (dp_ints _)
theorem ed_held {K : PySem.W.Frag} {σ : L2.St} {H : Hp} {i : Nat} {p : Addr} {xs : List Int} (h : σ[i]? = some (some (.ref p))) (hp : SqL K H p (xs.map V.int)) : EvR (tVar i) σ H fun v H1 => Dp K H1 v (.list (xs.map .int)) := er_ev (ev_var h) fun H1 e => .lst (ex_l e hp) (dp_ints _)
def EvDs (K : PySem.W.Frag) (ta : TA) (σ : L2.St) (H : Hp) (ds : List PyData) : Prop := ∀ H1, Ex H H1 → ∀ Q : List V → Hp → Prop, (∀ vs H2, Ex H1 H2 → DpAll K H2 vs ds → Q vs H2) → ta σ H1 Q
theorem eds_nil {K : PySem.W.Frag} {σ : L2.St} {H : Hp} : EvDs K tNil σ H [] := fun H1 _ Q q => q [] H1 (Ex.refl H1) .nil
theorem eds_cons {K : PySem.W.Frag} {σ : L2.St} {H : Hp} {te : TE} {ta : TA} {d : PyData} {ds : List PyData} (h : EvR te σ H fun v H1 => Dp K H1 v d) (r : EvDs K ta σ H ds) : EvDs K (tCons te ta) σ H (d :: ds) := fun H1 e Q q =>
  h H1 e _ fun v H2 e2 hv => r H2 (e.trans e2) _ fun vs H3 e3 hs => q (v :: vs) H3 (e2.trans e3) (.cons (dp_ex e3 hv) hs)
theorem ed_tup {K : PySem.W.Frag} {σ : L2.St} {H : Hp} {ta : TA} {ds : List PyData} (h : EvDs K ta σ H ds) (hl : ds.length ≤ 1000) : EvR (tTup ta) σ H fun v H1 => Dp K H1 v (.tuple ds) := fun H1 e Q q =>
  h H1 e _ fun vs H2 e2 hs => by
    have l := (dp_get hs).1
    exact ⟨by rw [l]; exact Nat.le_trans hl (by decide), fun p hp => q _ _ (e2.trans (Ex.new hp)) (.tup (st_of upd_same) (dpa_ex (Ex.new hp) hs))⟩
theorem ed_lst {K : PySem.W.Frag} {σ : L2.St} {H : Hp} {ta : TA} {ds : List PyData} (h : EvDs K ta σ H ds) (hl : ds.length ≤ 1000) : EvR (tLst ta) σ H fun v H1 => Dp K H1 v (.list ds) := fun H1 e Q q =>
  h H1 e _ fun vs H2 e2 hs => by
    have l := (dp_get hs).1
    exact ⟨by rw [l]; exact Nat.le_trans hl (by decide), fun p hp => q _ _ (e2.trans (Ex.new hp)) (.lst (sq_of upd_same) (dpa_ex (Ex.new hp) hs))⟩
theorem ev_same {K : PySem.W.Frag} {E : XK} {σ : L2.St} {H : Hp} {ta tb : TE} {d : PyData} (ha : EvR ta σ H fun v H1 => Dp K H1 v d) (hb : EvR tb σ H fun v H1 => Dp K H1 v d) (hf : Flat 4 d) : Ev (tCall (sp_same K 4) [] E (tCons ta (tCons tb tNil))) σ H (.bl true) := fun H1 e Q q =>
  ha H1 e _ fun v H2 e2 hv => hb H2 (e.trans e2) _ fun w H3 e3 hw => ⟨v, w, d, rfl, dp_ex e3 hv, hw, hf, q H3 (e2.trans e3)⟩
theorem dp_rows {K : PySem.W.Frag} {H : Hp} : ∀ (vs : List V) (xss : List (List Int)), vs.length = xss.length → (∀ (i : Nat) v, vs[i]? = some v → ∃ p, v = .ref p ∧ SqL K H p ((xss.getD i []).map V.int)) → DpAll K H vs (xss.map fun xs => .list (xs.map .int))
  | [], [], _, _ => .nil
  | v :: vs, xs :: xss, hl, h => by
    obtain ⟨p, rfl, hp⟩ := h 0 v rfl
    exact .cons (.lst hp (dp_ints _)) (dp_rows vs xss (by simpa using hl) fun i u hu => h (i + 1) u hu)
theorem flat_rows {xss : List (List Int)} (h : xss.length ≤ 400) (hx : ∀ xs ∈ xss, xs.length ≤ 360) : Flat 4 (.list (xss.map fun xs => .list (xs.map .int))) :=
  ⟨by rw [List.length_map]; omega, fun d hd => by
    obtain ⟨xs, hm, rfl⟩ := List.mem_map.mp hd
    exact ⟨by rw [List.length_map]; have := hx xs hm; omega, fun d hd => by
      obtain ⟨i, _, rfl⟩ := List.mem_map.mp hd
      exact True.intro⟩⟩
/-- lists of ints within a list -/
structure Rows (K : PySem.W.Frag) (H : Hp) (a : Addr) (xss : List (List Int)) : Prop where
  all : ∃ vs : List V, SqL K H a vs ∧ vs.length = xss.length ∧ ∀ (i : Nat) v, vs[i]? = some v → ∃ p, v = .ref p ∧ SqL K H p ((xss.getD i []).map V.int)
theorem Rows.ex {K : PySem.W.Frag} {H H' : Hp} {a : Addr} {xss : List (List Int)} (e : Ex H H') (h : Rows K H a xss) : Rows K H' a xss := by
  obtain ⟨vs, h1, h2, h3⟩ := h.all
  exact ⟨vs, ex_l e h1, h2, fun i v hv => (h3 i v hv).imp fun p h => ⟨h.1, ex_l e h.2⟩⟩
theorem Rows.dp {K : PySem.W.Frag} {H : Hp} {a : Addr} {xss : List (List Int)} (h : Rows K H a xss) : Dp K H (.ref a) (.list (xss.map fun xs => .list (xs.map .int))) := by
  obtain ⟨vs, h1, h2, h3⟩ := h.all
  exact .lst h1 (dp_rows vs xss h2 h3)
theorem ed_rows {K : PySem.W.Frag} {σ : L2.St} {H : Hp} {i : Nat} {p : Addr} {xss : List (List Int)} (h : σ[i]? = some (some (.ref p))) (hp : Rows K H p xss) : EvR (tVar i) σ H fun v H1 => Dp K H1 v (.list (xss.map fun xs => .list (xs.map .int))) := er_ev (ev_var h) fun H1 e => (hp.ex e).dp
theorem getD_mem {α : Type} {xs : List α} {i : Nat} {d : α} (h : i < xs.length) : xs.getD i d ∈ xs := by
  rw [List.getD_eq_getElem?_getD, List.getElem?_eq_getElem h]
  exact List.getElem_mem _

def spLong : Sp := fun vs H Q _ => ∃ n t m : Int, vs = [.int n, .int t, .int m] ∧ (0 ≤ t ∧ t ≤ 1000) ∧ ∀ z H', Ex H H' → 0 ≤ z → z < 10 ^ 60 → Q (.int z) H'
theorem er_long {E : XK} {σ : L2.St} {H : Hp} {ta tb tc : TE} {n t m : Int} (ha : Ev ta σ H (.int n)) (hb : Ev tb σ H (.int t)) (hc : Ev tc σ H (.int m)) (ht : 0 ≤ t ∧ t ≤ 1000) : EvR (tCall spLong [] E (tCons ta (tCons tb (tCons tc tNil)))) σ H fun v _ => ∃ z : Int, v = .int z ∧ 0 ≤ z ∧ z < 10 ^ 60 :=
  er_call (ea_cons ha (ea_cons hb (ea_cons hc ea_nil))) fun H1 e Q q => ⟨n, t, m, rfl, ht, fun z H' e' h0 h1 => q _ H' e' ⟨z, rfl, h0, h1⟩⟩
theorem ok_u_law_long (T : Txt K mg A) : FnOk P w K mg base CX0 1 A.f_u_law_long A.d_u_law_long (["number", "times", "more"] : List Str) spLong := by
  refine T.F_u_law_long.ok sc_u_law_long (fun vs H Q E h => ?_) (fun cdv Ar outer s H vs Q E hr h => ?_)
  · obtain ⟨n, t, m, rfl, _⟩ := h
    rfl
  · obtain ⟨n, t, m, rfl, ht, k⟩ := h
    refine ⟨_, (pss_cons (ps_for PassesOwn.never rfl (pi_range1 rfl T.z_range (pa_cons (pv 1) pa_nil)) (pg_name (i := 3) sc_u_law_long.nd rfl (Or.inl rfl)) (pss_one (ps_set (i := 0) sc_u_law_long.nd rfl (Or.inl rfl) (pe_op op_add (pe_op op_mul (pv 0) pe_int) (pv 2)))))
        (pss_one (ps_ret (pe_op op_mod (pe_callTy call_int1 (by rfl) T.z_int (by decide +kernel) (pa_cons (pv 0) pa_nil)) (pe_op op_pow pe_int pe_int))))), ?_⟩
    try dsimp only
    refine q_forR1 (n := t) (ea_cons (ev_var (i := 1) rfl) ea_nil) (by omega) (fun i σ' H' => ∃ (z : Int) (kv : Option V), σ' = [some (.int z), some (.int t), some (.int m), kv] ∧ Ex H H') (fun H2 e2 => ⟨n, none, rfl, e2⟩) ?_ ?_
    · rintro i σ' H' hi ⟨z, kv, rfl, e⟩
      try dsimp only
      exact s_asg (v := .int (z * 1000 + m)) (by repeat' first | exact ev_c | exact ev_var rfl | exact ea_nil | apply ea_cons | apply ev_int | apply ev_op | apply ev_un | exact ru_neg | exact rv_I0 | exact rv_eq rfl | exact rv_ne rfl | exact rv_I (by decide) | exact rv_I (.inl ⟨by decide, by decide⟩) | exact rv_I (.inr ⟨by decide, by decide⟩) | exact rv_I (by omega) | exact rv_I (.inl ⟨by omega, by omega⟩) | exact rv_I (.inr ⟨by omega, by omega⟩)) fun H3 e3 => ⟨_, _, rfl, e.trans e3⟩
    rintro σ' H' ⟨z, kv, rfl, e⟩
    try dsimp only
    refine s_ret (v := .int (z % 10 ^ 60)) (ev_op (ev_int (ev_var (i := 0) rfl)) (ev_op ev_c ev_c (rv_I ⟨by decide, by decide, by decide⟩)) (rv_I (by decide))) fun H3 e3 => ?_
    exact k _ H3 (e.trans e3) (Int.emod_nonneg _ (by decide)) (Int.emod_lt_of_pos _ (by decide))

def Four (K : PySem.W.Frag) (H : Hp) (a : Addr) (m w x y z : Int) : Prop := SqL K H a [.int w, .int x, .int y, .int z] ∧ (0 ≤ w ∧ w < m) ∧ (0 ≤ x ∧ x < 10 ^ 60) ∧ (0 ≤ y ∧ y < 20) ∧ (0 ≤ z ∧ z < 1000)
def spHours (K : PySem.W.Frag) : Sp := fun vs H Q _ => ∃ (a : Addr) (w x y z : Int), vs = [.ref a] ∧ Four K H a 6 w x y z ∧ ∀ r H', Ex H H' → 1 ≤ r → r ≤ 10 ^ 59 → Q (.int r) H' 
theorem ok_u_law_hours (T : Txt K mg A) : FnOk P w K mg base CX0 2 A.f_u_law_hours A.d_u_law_hours (["numbers"] : List Str) (spHours K) := by
  refine T.F_u_law_hours.ok sc_u_law_hours (fun vs H Q E h => ?_) (fun cdv Ar outer s H vs Q E hr h => ?_)
  · obtain ⟨a, w, x, y, z, rfl, _⟩ := h
    rfl
  · obtain ⟨a, w, x, y, z, rfl, ⟨hS, bw, bx, b_y, bz⟩, k⟩ := h
    refine ⟨_, (pss_cons (ps_if (pt_cmpR op_lt (pe_ix ix_lK (pv 0) pe_int (fun _ _ => rfl)) pe_int (nomark _)) (pss_one (ps_ret (pe_op op_add pe_int (pe_ix ix_lK (pv 0) pe_int (fun _ _ => rfl))))) pss_nil)
        (pss_cons (ps_if (pt_cmpR op_lt (pe_ix ix_lK (pv 0) pe_int (fun _ _ => rfl)) pe_int (nomark _)) (pss_one (ps_ret (pe_op op_add pe_int (pe_op op_mod (pe_callTy call_int1 (by rfl) T.z_int (by decide +kernel) (pa_cons (pe_ix ix_lK (pv 0) pe_int (fun _ _ => rfl)) pa_nil)) pe_int)))) pss_nil)
        (pss_cons (ps_if (pt_cmpR op_eq (pe_ix ix_lK (pv 0) pe_int (fun _ _ => rfl)) pe_int (nomark _)) (pss_one (ps_ret (pe_op op_add pe_int (pe_op op_mod (pe_callTy call_int1 (by rfl) T.z_int (by decide +kernel) (pa_cons (pe_ix ix_lK (pv 0) pe_int (fun _ _ => rfl)) pa_nil)) (pe_op op_pow pe_int pe_int))))) pss_nil)
        (pss_one (ps_ret (pe_op op_add pe_int (pe_op op_mod (pe_callTy call_int1 (by rfl) T.z_int (by decide +kernel) (pa_cons (pe_call (ok_u_law_long T) (hr.mono (by omega)) rfl T.g_u_law_long T.k_u_law_long (b_u_law_long T) .nil pass0 (pa_cons (pe_ix ix_lK (pv 0) pe_int (fun _ _ => rfl)) (pa_cons (pe_ix ix_lK (pv 0) pe_int (fun _ _ => rfl)) (pa_cons (pe_ix ix_lK (pv 0) pe_int (fun _ _ => rfl)) pa_nil)))) pa_nil)) (pe_op op_pow pe_int pe_int)))))))), ?_⟩
    have b59 : (2 : Int) < 10 ^ 59 := by decide
    try dsimp only
    refine q_when (b := decide (w < 2)) (et_test (by repeat' first | exact ev_c | exact ev_var rfl | exact ea_nil | apply ea_cons | apply ev_int | exact rv_ixL hS rfl | apply ev_op | apply ev_un | exact ru_neg | exact rv_I0 | exact rv_eq rfl | exact rv_ne rfl | exact rv_I (by decide) | exact rv_I (.inl ⟨by decide, by decide⟩) | exact rv_I (.inr ⟨by decide, by decide⟩) | exact rv_I (by omega) | exact rv_I (.inl ⟨by omega, by omega⟩) | exact rv_I (.inr ⟨by omega, by omega⟩))) (fun hb H1 e1 => ?_) (fun hb H1 e1 => ?_)
    · have := of_decide_eq_true hb
      exact s_ret (v := .int (1 + w)) (by repeat' first | exact ev_c | exact ev_var rfl | exact ea_nil | apply ea_cons | apply ev_int | exact rv_ixL (ex_l e1 hS) rfl | apply ev_op | apply ev_un | exact ru_neg | exact rv_I0 | exact rv_eq rfl | exact rv_ne rfl | exact rv_I (by decide) | exact rv_I (.inl ⟨by decide, by decide⟩) | exact rv_I (.inr ⟨by decide, by decide⟩) | exact rv_I (by omega) | exact rv_I (.inl ⟨by omega, by omega⟩) | exact rv_I (.inr ⟨by omega, by omega⟩)) fun H2 e2 => k _ H2 (e1.trans e2) (by omega) (by omega)
    replace hS := ex_l e1 hS
    try dsimp only
    refine q_when (b := decide (w < 4)) (et_test (by repeat' first | exact ev_c | exact ev_var rfl | exact ea_nil | apply ea_cons | apply ev_int | exact rv_ixL hS rfl | apply ev_op | apply ev_un | exact ru_neg | exact rv_I0 | exact rv_eq rfl | exact rv_ne rfl | exact rv_I (by decide) | exact rv_I (.inl ⟨by decide, by decide⟩) | exact rv_I (.inr ⟨by decide, by decide⟩) | exact rv_I (by omega) | exact rv_I (.inl ⟨by omega, by omega⟩) | exact rv_I (.inr ⟨by omega, by omega⟩))) (fun hb H2 e2 => ?_) (fun hb H2 e2 => ?_)
    · have h0 := Int.emod_nonneg x (show (30 : Int) ≠ 0 by decide)
      have h1 := Int.emod_lt_of_pos x (show (0 : Int) < 30 by decide)
      have : (30 : Int) < 10 ^ 59 := by decide
      exact s_ret (v := .int (1 + x % 30)) (by repeat' first | exact ev_c | exact ev_var rfl | exact ea_nil | apply ea_cons | apply ev_int | exact rv_ixL (ex_l e2 hS) rfl | apply ev_op | apply ev_un | exact ru_neg | exact rv_I0 | exact rv_eq rfl | exact rv_ne rfl | exact rv_I (by decide) | exact rv_I (.inl ⟨by decide, by decide⟩) | exact rv_I (.inr ⟨by decide, by decide⟩) | exact rv_I (by omega) | exact rv_I (.inl ⟨by omega, by omega⟩) | exact rv_I (.inr ⟨by omega, by omega⟩)) fun H3 e3 => k _ H3 (e1.trans (e2.trans e3)) (by omega) (by omega)
    replace hS := ex_l e2 hS
    replace e2 := e1.trans e2
    have h0 := fun q : Int => Int.emod_nonneg q (show (10 ^ 59 : Int) ≠ 0 by decide)
    have h1 := fun q : Int => Int.emod_lt_of_pos q (show (0 : Int) < 10 ^ 59 by decide)
    try dsimp only
    refine q_when (b := decide (w = 4)) (et_is (et_test (by repeat' first | exact ev_c | exact ev_var rfl | exact ea_nil | apply ea_cons | apply ev_int | exact rv_ixL hS rfl | apply ev_op | apply ev_un | exact ru_neg | exact rv_I0 | exact rv_eq rfl | exact rv_ne rfl | exact rv_I (by decide) | exact rv_I (.inl ⟨by decide, by decide⟩) | exact rv_I (.inr ⟨by decide, by decide⟩) | exact rv_I (by omega) | exact rv_I (.inl ⟨by omega, by omega⟩) | exact rv_I (.inr ⟨by omega, by omega⟩))) dec_ii) (fun hb H3 e3 => ?_) (fun hb H3 e3 => ?_)
    · refine s_ret (v := .int (1 + x % 10 ^ 59)) (ev_op ev_c (ev_op (ev_int (ev_op (ev_var (i := 0) rfl) ev_c (rv_ixL (ex_l e3 hS) rfl))) (ev_op ev_c ev_c (rv_I ⟨by decide, by decide, by decide⟩)) (rv_I (by decide))) rv_I0) fun H4 e4 => k _ H4 (e2.trans (e3.trans e4)) (by have := h0 x; omega) (by have := h1 x; omega)
    replace hS := ex_l e3 hS
    replace e3 := e2.trans e3
    try dsimp only
    refine er_long (n := x) (t := y) (m := z) (ev_op (ev_var (i := 0) rfl) ev_c (rv_ixL hS rfl)) (ev_op (ev_var (i := 0) rfl) ev_c (rv_ixL hS rfl)) (ev_op (ev_var (i := 0) rfl) ev_c (rv_ixL hS rfl)) (by omega) H3 (Ex.refl _) _ fun v H4 e4 hv => ?_
    obtain ⟨r, rfl, r0, r1⟩ := hv
    refine .inl ⟨r, rfl, 10, 59, rfl, rfl, ⟨by decide, by decide, by decide⟩, r, 10 ^ 59, rfl, rfl, (by show (0 : Int) < 10 ^ 59; decide), 1, r % 10 ^ 59, rfl, rfl, k _ H4 (e3.trans e4) ?_ ?_⟩
    · have := h0 r; omega
    · have := h1 r; omega

def spSize (K : PySem.W.Frag) : Sp := fun vs H Q _ => ∃ (a : Addr) (w x y z h : Int), vs = [.ref a, .int h] ∧ Four K H a 8 w x y z ∧ 1 ≤ h ∧ ∀ r H', Ex H H' → 0 ≤ r → r ≤ h → Q (.int r) H' 
theorem ok_u_law_size (T : Txt K mg A) : FnOk P w K mg base CX0 2 A.f_u_law_size A.d_u_law_size (["numbers", "hours"] : List Str) (spSize K) := by
  refine T.F_u_law_size.ok sc_u_law_size (fun vs H Q E h => ?_) (fun cdv Ar outer s H vs Q E hr h => ?_)
  · obtain ⟨a, w, x, y, z, h, rfl, _⟩ := h
    rfl
  · obtain ⟨a, w, x, y, z, h, rfl, ⟨hS, bw, bx, b_y, bz⟩, hh, k⟩ := h
    refine ⟨_, (pss_cons (ps_if (pt_cmpR op_lt (pe_ix ix_lK (pv 0) pe_int (fun _ _ => rfl)) pe_int (nomark _)) (pss_one (ps_ret (pe_ix ix_lK (pv 0) pe_int (fun _ _ => rfl)))) pss_nil)
        (pss_cons (ps_if (pt_cmpR op_lt (pe_ix ix_lK (pv 0) pe_int (fun _ _ => rfl)) pe_int (nomark _)) (pss_one (ps_ret (pe_op op_sub (pe_op op_add (pv 1) (pe_ix ix_lK (pv 0) pe_int (fun _ _ => rfl))) pe_int))) pss_nil)
        (pss_cons (ps_if (pt_cmpR op_lt (pe_ix ix_lK (pv 0) pe_int (fun _ _ => rfl)) pe_int (nomark _)) (pss_one (ps_ret (pe_op op_mod (pe_callTy call_int1 (by rfl) T.z_int (by decide +kernel) (pa_cons (pe_ix ix_lK (pv 0) pe_int (fun _ _ => rfl)) pa_nil)) (pe_op op_add (pv 1) pe_int)))) pss_nil)
        (pss_one (ps_ret (pe_op op_mod (pe_callTy call_int1 (by rfl) T.z_int (by decide +kernel) (pa_cons (pe_call (ok_u_law_long T) (hr.mono (by omega)) rfl T.g_u_law_long T.k_u_law_long (b_u_law_long T) .nil pass0 (pa_cons (pe_ix ix_lK (pv 0) pe_int (fun _ _ => rfl)) (pa_cons (pe_ix ix_lK (pv 0) pe_int (fun _ _ => rfl)) (pa_cons (pe_ix ix_lK (pv 0) pe_int (fun _ _ => rfl)) pa_nil)))) pa_nil)) (pe_op op_add (pv 1) pe_int))))))), ?_⟩
    have h0 := fun q : Int => Int.emod_nonneg q (show (h + 1 : Int) ≠ 0 by omega)
    have h1 := fun q : Int => Int.emod_lt_of_pos q (show (0 : Int) < h + 1 by omega)
    try dsimp only
    refine q_when (b := decide (w < 2)) (et_test (by repeat' first | exact ev_c | exact ev_var rfl | exact ea_nil | apply ea_cons | apply ev_int | exact rv_ixL hS rfl | apply ev_op | apply ev_un | exact ru_neg | exact rv_I0 | exact rv_eq rfl | exact rv_ne rfl | exact rv_I (by decide) | exact rv_I (.inl ⟨by decide, by decide⟩) | exact rv_I (.inr ⟨by decide, by decide⟩) | exact rv_I (by omega) | exact rv_I (.inl ⟨by omega, by omega⟩) | exact rv_I (.inr ⟨by omega, by omega⟩))) (fun hb H1 e1 => ?_) (fun hb H1 e1 => ?_)
    · have := of_decide_eq_true hb
      exact s_ret (v := .int w) (by repeat' first | exact ev_c | exact ev_var rfl | exact ea_nil | apply ea_cons | apply ev_int | exact rv_ixL (ex_l e1 hS) rfl | apply ev_op | apply ev_un | exact ru_neg | exact rv_I0 | exact rv_eq rfl | exact rv_ne rfl | exact rv_I (by decide) | exact rv_I (.inl ⟨by decide, by decide⟩) | exact rv_I (.inr ⟨by decide, by decide⟩) | exact rv_I (by omega) | exact rv_I (.inl ⟨by omega, by omega⟩) | exact rv_I (.inr ⟨by omega, by omega⟩)) fun H2 e2 => k _ H2 (e1.trans e2) (by omega) (by omega)
    have w2 := of_decide_eq_false hb
    replace hS := ex_l e1 hS
    try dsimp only
    refine q_when (b := decide (w < 4)) (et_test (by repeat' first | exact ev_c | exact ev_var rfl | exact ea_nil | apply ea_cons | apply ev_int | exact rv_ixL hS rfl | apply ev_op | apply ev_un | exact ru_neg | exact rv_I0 | exact rv_eq rfl | exact rv_ne rfl | exact rv_I (by decide) | exact rv_I (.inl ⟨by decide, by decide⟩) | exact rv_I (.inr ⟨by decide, by decide⟩) | exact rv_I (by omega) | exact rv_I (.inl ⟨by omega, by omega⟩) | exact rv_I (.inr ⟨by omega, by omega⟩))) (fun hb H2 e2 => ?_) (fun hb H2 e2 => ?_)
    · have := of_decide_eq_true hb
      exact s_ret (v := .int (h + w - 3)) (by repeat' first | exact ev_c | exact ev_var rfl | exact ea_nil | apply ea_cons | apply ev_int | exact rv_ixL (ex_l e2 hS) rfl | apply ev_op | apply ev_un | exact ru_neg | exact rv_I0 | exact rv_eq rfl | exact rv_ne rfl | exact rv_I (by decide) | exact rv_I (.inl ⟨by decide, by decide⟩) | exact rv_I (.inr ⟨by decide, by decide⟩) | exact rv_I (by omega) | exact rv_I (.inl ⟨by omega, by omega⟩) | exact rv_I (.inr ⟨by omega, by omega⟩)) fun H3 e3 => k _ H3 (e1.trans (e2.trans e3)) (by omega) (by omega)
    replace hS := ex_l e2 hS
    replace e2 := e1.trans e2
    try dsimp only
    refine q_when (b := decide (w < 6)) (et_test (by repeat' first | exact ev_c | exact ev_var rfl | exact ea_nil | apply ea_cons | apply ev_int | exact rv_ixL hS rfl | apply ev_op | apply ev_un | exact ru_neg | exact rv_I0 | exact rv_eq rfl | exact rv_ne rfl | exact rv_I (by decide) | exact rv_I (.inl ⟨by decide, by decide⟩) | exact rv_I (.inr ⟨by decide, by decide⟩) | exact rv_I (by omega) | exact rv_I (.inl ⟨by omega, by omega⟩) | exact rv_I (.inr ⟨by omega, by omega⟩))) (fun hb H3 e3 => ?_) (fun hb H3 e3 => ?_)
    · refine s_ret (v := .int (x % (h + 1))) (ev_op (ev_int (ev_op (ev_var (i := 0) rfl) ev_c (rv_ixL (ex_l e3 hS) rfl))) (ev_op (ev_var (i := 1) rfl) ev_c rv_I0) (rv_I (by omega))) fun H4 e4 => k _ H4 (e2.trans (e3.trans e4)) (h0 x) (by have := h1 x; omega)
    replace hS := ex_l e3 hS
    replace e3 := e2.trans e3
    try dsimp only
    refine er_long (n := x) (t := y) (m := z) (ev_op (ev_var (i := 0) rfl) ev_c (rv_ixL hS rfl)) (ev_op (ev_var (i := 0) rfl) ev_c (rv_ixL hS rfl)) (ev_op (ev_var (i := 0) rfl) ev_c (rv_ixL hS rfl)) (by omega) H3 (Ex.refl _) _ fun v H4 e4 hv => ?_
    obtain ⟨r, rfl, r0, r1⟩ := hv
    exact .inl ⟨r, rfl, _, rfl, h, 1, rfl, rfl, r, h + 1, rfl, rfl, (by show (0 : Int) < h + 1; omega), k _ H4 (e3.trans e4) (h0 r) (by have := h1 r; omega)⟩

def spStake (K : PySem.W.Frag) : Sp := fun vs H Q _ => ∃ (a : Addr) (w x y z : Int), vs = [.ref a] ∧ Four K H a 6 w x y z ∧ ∀ r H', Ex H H' → 0 ≤ r → r < 10 ^ 60 → Q (.int r) H' 
theorem ok_u_law_stake (T : Txt K mg A) : FnOk P w K mg base CX0 2 A.f_u_law_stake A.d_u_law_stake (["numbers"] : List Str) (spStake K) := by
  refine T.F_u_law_stake.ok sc_u_law_stake (fun vs H Q E h => ?_) (fun cdv Ar outer s H vs Q E hr h => ?_)
  · obtain ⟨a, w, x, y, z, rfl, _⟩ := h
    rfl
  · obtain ⟨a, w, x, y, z, rfl, ⟨hS, bw, bx, b_y, bz⟩, k⟩ := h
    refine ⟨_, (pss_cons (ps_if (pt_cmpR op_eq (pe_ix ix_lK (pv 0) pe_int (fun _ _ => rfl)) pe_int (nomark _)) (pss_one (ps_ret pe_int)) pss_nil)
        (pss_cons (ps_if (pt_cmpR op_lt (pe_ix ix_lK (pv 0) pe_int (fun _ _ => rfl)) pe_int (nomark _)) (pss_one (ps_ret (pe_op op_mod (pe_callTy call_int1 (by rfl) T.z_int (by decide +kernel) (pa_cons (pe_ix ix_lK (pv 0) pe_int (fun _ _ => rfl)) pa_nil)) pe_int))) pss_nil)
        (pss_cons (ps_if (pt_cmpR op_eq (pe_ix ix_lK (pv 0) pe_int (fun _ _ => rfl)) pe_int (nomark _)) (pss_one (ps_ret (pe_ix ix_lK (pv 0) pe_int (fun _ _ => rfl)))) pss_nil)
        (pss_one (ps_ret (pe_call (ok_u_law_long T) (hr.mono (by omega)) rfl T.g_u_law_long T.k_u_law_long (b_u_law_long T) .nil pass0 (pa_cons (pe_ix ix_lK (pv 0) pe_int (fun _ _ => rfl)) (pa_cons (pe_ix ix_lK (pv 0) pe_int (fun _ _ => rfl)) (pa_cons (pe_ix ix_lK (pv 0) pe_int (fun _ _ => rfl)) pa_nil))))))))), ?_⟩
    have b60 : (61 : Int) < 10 ^ 60 := by decide
    try dsimp only
    refine q_when (b := decide (w = 0)) (et_is (et_test (by repeat' first | exact ev_c | exact ev_var rfl | exact ea_nil | apply ea_cons | apply ev_int | exact rv_ixL hS rfl | apply ev_op | apply ev_un | exact ru_neg | exact rv_I0 | exact rv_eq rfl | exact rv_ne rfl | exact rv_I (by decide) | exact rv_I (.inl ⟨by decide, by decide⟩) | exact rv_I (.inr ⟨by decide, by decide⟩) | exact rv_I (by omega) | exact rv_I (.inl ⟨by omega, by omega⟩) | exact rv_I (.inr ⟨by omega, by omega⟩))) dec_ii) (fun hb H1 e1 => ?_) (fun hb H1 e1 => ?_)
    · exact s_ret (v := .int 0) ev_c fun H2 e2 => k _ H2 (e1.trans e2) (by omega) (by omega)
    replace hS := ex_l e1 hS
    try dsimp only
    refine q_when (b := decide (w < 3)) (et_test (by repeat' first | exact ev_c | exact ev_var rfl | exact ea_nil | apply ea_cons | apply ev_int | exact rv_ixL hS rfl | apply ev_op | apply ev_un | exact ru_neg | exact rv_I0 | exact rv_eq rfl | exact rv_ne rfl | exact rv_I (by decide) | exact rv_I (.inl ⟨by decide, by decide⟩) | exact rv_I (.inr ⟨by decide, by decide⟩) | exact rv_I (by omega) | exact rv_I (.inl ⟨by omega, by omega⟩) | exact rv_I (.inr ⟨by omega, by omega⟩))) (fun hb H2 e2 => ?_) (fun hb H2 e2 => ?_)
    · have h0 := Int.emod_nonneg x (show (61 : Int) ≠ 0 by decide)
      have h1 := Int.emod_lt_of_pos x (show (0 : Int) < 61 by decide)
      exact s_ret (v := .int (x % 61)) (by repeat' first | exact ev_c | exact ev_var rfl | exact ea_nil | apply ea_cons | apply ev_int | exact rv_ixL (ex_l e2 hS) rfl | apply ev_op | apply ev_un | exact ru_neg | exact rv_I0 | exact rv_eq rfl | exact rv_ne rfl | exact rv_I (by decide) | exact rv_I (.inl ⟨by decide, by decide⟩) | exact rv_I (.inr ⟨by decide, by decide⟩) | exact rv_I (by omega) | exact rv_I (.inl ⟨by omega, by omega⟩) | exact rv_I (.inr ⟨by omega, by omega⟩)) fun H3 e3 => k _ H3 (e1.trans (e2.trans e3)) (by omega) (by omega)
    replace hS := ex_l e2 hS
    replace e2 := e1.trans e2
    try dsimp only
    refine q_when (b := decide (w = 3)) (et_is (et_test (by repeat' first | exact ev_c | exact ev_var rfl | exact ea_nil | apply ea_cons | apply ev_int | exact rv_ixL hS rfl | apply ev_op | apply ev_un | exact ru_neg | exact rv_I0 | exact rv_eq rfl | exact rv_ne rfl | exact rv_I (by decide) | exact rv_I (.inl ⟨by decide, by decide⟩) | exact rv_I (.inr ⟨by decide, by decide⟩) | exact rv_I (by omega) | exact rv_I (.inl ⟨by omega, by omega⟩) | exact rv_I (.inr ⟨by omega, by omega⟩))) dec_ii) (fun hb H3 e3 => ?_) (fun hb H3 e3 => ?_)
    · exact s_ret (v := .int x) (by repeat' first | exact ev_c | exact ev_var rfl | exact ea_nil | apply ea_cons | apply ev_int | exact rv_ixL (ex_l e3 hS) rfl | apply ev_op | apply ev_un | exact ru_neg | exact rv_I0 | exact rv_eq rfl | exact rv_ne rfl | exact rv_I (by decide) | exact rv_I (.inl ⟨by decide, by decide⟩) | exact rv_I (.inr ⟨by decide, by decide⟩) | exact rv_I (by omega) | exact rv_I (.inl ⟨by omega, by omega⟩) | exact rv_I (.inr ⟨by omega, by omega⟩)) fun H4 e4 => k _ H4 (e2.trans (e3.trans e4)) (by omega) (by omega)
    replace hS := ex_l e3 hS
    replace e3 := e2.trans e3
    try dsimp only
    refine er_long (n := x) (t := y) (m := z) (ev_op (ev_var (i := 0) rfl) ev_c (rv_ixL hS rfl)) (ev_op (ev_var (i := 0) rfl) ev_c (rv_ixL hS rfl)) (ev_op (ev_var (i := 0) rfl) ev_c (rv_ixL hS rfl)) (by omega) H3 (Ex.refl _) _ fun v H4 e4 hv => ?_
    obtain ⟨r, rfl, r0, r1⟩ := hv
    exact k _ H4 (e3.trans e4) r0 r1

def spFl (K : PySem.W.Frag) : Sp := fun vs H Q _ => ∃ h s k : Int, vs = [.int h, .int s, .int k] ∧ (h.natAbs < 2 ^ 400 ∧ s.natAbs < 2 ^ 400 ∧ k.natAbs < 2 ^ 400) ∧ ∀ p H', H p = none → Ex H H' → H' p = some (.tup [.int (flV h s k 1).1, .int (flV h s k 1).2]) → Q (.ref p) H' 
theorem ok_u_law_floor (T : Txt K mg A) : FnOk P w K mg base CX0 1 A.f_u_law_floor A.d_u_law_floor (["hours", "size", "stake"] : List Str) (spFl K) := by
  refine T.F_u_law_floor.ok sc_u_law_floor (fun vs H Q E h => ?_) (fun cdv Ar outer s H vs Q E hr h => ?_)
  · obtain ⟨h, s, k, rfl, _⟩ := h
    rfl
  · obtain ⟨h, s, k, rfl, ⟨zh, zs, zk⟩, kk⟩ := h
    refine ⟨_, (pss_cons (ps_if (pt_cmpR op_eq (pv 1) pe_int (nomark _)) (pss_one (ps_ret (pe_tup (pa_cons (pv 2) (pa_cons pe_int pa_nil))))) pss_nil)
        (pss_cons (ps_if (pt_cmpR op_eq (pv 1) (pv 0) (nomark _)) (pss_one (ps_ret (pe_tup (pa_cons pe_int (pa_cons pe_int pa_nil))))) pss_nil)
        (pss_one (ps_ret (pe_tup (pa_cons (pe_op op_mulW (pv 2) (pe_op op_sub (pv 0) (pv 1))) (pa_cons (pe_op op_sub (pv 0) pe_int) pa_nil))))))), ?_⟩
    have hmul : CMulW k (h - s) := wide_mul zk (show (h - s).natAbs < 2 ^ 401 from Nat.lt_of_le_of_lt (show (h - s).natAbs ≤ h.natAbs + s.natAbs by omega) (by rw [Nat.pow_succ]; omega)) (by decide) (by decide) (by decide)
    try dsimp only
    refine q_when (b := decide (s = 0)) (et_is (et_test (ev_op (ev_var (i := 1) rfl) ev_c (rv_eq rfl))) dec_ii) (fun hb H1 e1 => ?_) (fun hb H1 e1 => ?_)
    · refine s_retU (xs := [.int k, .int 1]) (eu_tup (ea_cons (ev_var (i := 2) rfl) (ea_cons ev_c ea_nil)) (by show 2 ≤ 100000; decide)) fun p H2 hp e2 h2 => kk p H2 (fresh_back e1 hp) (e1.trans e2) ?_
      unfold flV
      rw [if_neg (by decide), if_pos (of_decide_eq_true hb)]
      exact h2
    have s0 := of_decide_eq_false hb
    try dsimp only
    refine q_when (b := decide (s = h)) (et_is (et_test (ev_op (ev_var (i := 1) rfl) (ev_var (i := 0) rfl) (rv_eq rfl))) dec_ii) (fun hb H2 e2 => ?_) (fun hb H2 e2 => ?_)
    · refine s_retU (xs := [.int 0, .int 1]) (eu_tup (ea_cons ev_c (ea_cons ev_c ea_nil)) (by show 2 ≤ 100000; decide)) fun p H3 hp e3 h3 => kk p H3 (fresh_back (e1.trans e2) hp) ((e1.trans e2).trans e3) ?_
      unfold flV
      rw [if_neg (by decide), if_neg s0, if_pos (of_decide_eq_true hb)]
      exact h3
    have sh := of_decide_eq_false hb
    try dsimp only
    refine s_retU (xs := [.int (k * (h - s)), .int (h - 1)]) (eu_tup (ea_cons (ev_op (ev_var (i := 2) rfl) (ev_op (ev_var (i := 0) rfl) (ev_var (i := 1) rfl) rv_I0) (rv_I hmul)) (ea_cons (ev_op (ev_var (i := 0) rfl) ev_c rv_I0) ea_nil)) (by show 2 ≤ 100000; decide)) fun p H3 hp e3 h3 => kk p H3 (fresh_back (e1.trans e2) hp) ((e1.trans e2).trans e3) ?_
    unfold flV
    rw [if_neg (by decide), if_neg s0, if_neg sh]
    exact h3

theorem ev_xf {σ : L2.St} {H : Hp} {te : TE} {a C dd : Addr} {f : Str} {fs : List (Str × V)} {v : V} (h : Ev te σ H (.ref a)) (hx : H dd = some (.xd fs)) (hl : fs.lookup f = some v) : Ev (tXf a (.ref C) (some dd) C f te) σ H v := fun H1 e Q q => h H1 e _ fun H2 e2 => ⟨rfl, rfl, dd, fs, v, rfl, (e.trans e2) _ _ hx, hl, q H2 e2⟩
def spRefd (K : PySem.W.Frag) : Sp := fun vs H Q _ => ∃ (a : Addr) (h s k l z : Int) (nm : Str), vs = [.ref a] ∧ SqL K H a [.int h, .int s, .int k, .int l] ∧ flBad h s k l = some (nm, z) ∧
  ∀ v H', Ex H H' → Dp K H' v (.tuple [.str "BadNumber", .str nm, .int z]) → Q v H' 
theorem ok_u_law_refused (T : Txt K mg A) : FnOk P w K mg base CX0 9 A.f_u_law_refused A.d_u_law_refused (["given"] : List Str) (spRefd K) := by
  refine T.F_u_law_refused.ok sc_u_law_refused (fun vs H Q E h => ?_) (fun cdv Ar outer s H vs Q E hr h => ?_)
  · obtain ⟨a, h, s, k, l, z, nm, rfl, _⟩ := h
    rfl
  · obtain ⟨a, h, s, k, l, z, nm, rfl, hS, hbad, kk⟩ := h
    refine ⟨_, (pss_cons (ps_set (i := 1) sc_u_law_refused.nd rfl (Or.inl rfl) pe_non)
        (pss_cons (ps_try_as (i := 2) (Wout := fun _ _ _ _ => False) rfl rfl sc_u_law_refused.nd rfl rfl ⟨rfl, by decide, Or.inl T.g_BadNumber⟩ takes0 (fun W pn xe tk _ => (pss_one (ps_expr (pe_callNS (ok_floor_bound T) (hr.mono (by omega)) rfl T.g_floor_bound T.k_floor_bound (k3_floor_bound T).choose_spec (fun σ => passAt tk σ) (pa_cons (pe_ix ix_lK (pv 0) pe_int (fun _ _ => rfl)) (pa_cons (pe_ix ix_lK (pv 0) pe_int (fun _ _ => rfl)) (pa_cons (pe_ix ix_lK (pv 0) pe_int (fun _ _ => rfl)) pa_nil))) (pk_cons (pe_ix ix_lK (pv 0) pe_int (fun _ _ => rfl)) pk_nil))))) (fun a oe cls dd pn hz hf => (pss_one (ps_set (i := 1) sc_u_law_refused.nd rfl (Or.inl rfl) (pe_tup (pa_cons pe_str (pa_cons (pe_xf T.xf_BadNumber T.nf_BadNumber_name hz hf (pv 2)) (pa_cons (pe_xf T.xf_BadNumber T.nf_BadNumber_value hz hf (pv 2)) pa_nil))))))))
        (pss_one (ps_ret (pv 1))))), ?_⟩
    try dsimp only
    refine q_asg (v := .non) ev_c fun H1 e1 => ?_
    replace hS := ex_l e1 hS
    have ix : ∀ (j : Nat) (v : V) (G : Hp), Ex H1 G → [V.int h, .int s, .int k, .int l][j]? = some v → Ev (tOp (rIxL K) (tVar 0) (tC (.int (j : Int)))) [some (.ref a), some .non, none] G v := fun j v G e hj => ev_op (ev_var rfl) ev_c (rv_ixL (ex_l e hS) (atI_nat hj))
    try dsimp only
    refine ix 0 _ _ (Ex.refl _) rfl H1 (Ex.refl _) _ fun H2 e2 => ix 1 _ H2 e2 rfl H2 (Ex.refl _) _ fun H3 e3 => ix 2 _ H3 (e2.trans e3) rfl H3 (Ex.refl _) _ fun H4 e4 => ix 3 _ H4 ((e2.trans e3).trans e4) rfl H4 (Ex.refl _) _ fun H5 e5 => ?_
    have e15 := (((e1.trans e2).trans e3).trans e4).trans e5
    refine ⟨rfl, rfl, h, s, k, l, rfl, fun z => (by rw [hbad] at z; cases z), fun nm' z' hb d H6 e6 hx => ?_, fun z => (by rw [hbad] at z; cases z)⟩
    rw [hbad] at hb
    cases hb
    refine ⟨true, T.xm_BadNumber_BadNumber, fun _ ea hea => ?_, fun z => Bool.noConfusion z⟩
    try dsimp only
    refine s_asgR (ed_tup (K := K) (ds := [.str "BadNumber", .str nm, .int z]) (eds_cons (ed_str ev_c) (eds_cons (ed_str (ev_xf (ev_var (i := 2) rfl) hx rfl)) (eds_cons (ed_int (ev_xf (ev_var (i := 2) rfl) hx rfl)) eds_nil))) (by show 3 ≤ 1000; decide)) fun w H7 e7 hw => ?_
    exact ⟨_, rfl, kk w H7 (e15.trans (e6.trans e7)) hw⟩

def spRefB (K : PySem.W.Frag) : Sp := fun vs H Q _ => ∃ (a : Addr) (h s k l z : Int) (nm : Str), vs = [.ref a] ∧ SqL K H a [.int h, .int s, .int k, .int l] ∧ flBad h s k l = some (nm, z) ∧ ∀ H', Ex H H' → Q (.bl true) H' 
theorem ok_u_law_refused_by_base (T : Txt K mg A) : FnOk P w K mg base CX0 9 A.f_u_law_refused_by_base A.d_u_law_refused_by_base (["given"] : List Str) (spRefB K) := by
  refine T.F_u_law_refused_by_base.ok sc_u_law_refused_by_base (fun vs H Q E h => ?_) (fun cdv Ar outer s H vs Q E hr h => ?_)
  · obtain ⟨a, h, s, k, l, z, nm, rfl, _⟩ := h
    rfl
  · obtain ⟨a, h, s, k, l, z, nm, rfl, hS, hbad, kk⟩ := h
    refine ⟨_, (pss_cons (ps_set (i := 1) sc_u_law_refused_by_base.nd rfl (Or.inl rfl) pe_bl)
        (pss_cons (ps_try_as (i := 2) (Wout := fun _ _ _ _ => False) rfl rfl sc_u_law_refused_by_base.nd rfl rfl ⟨rfl, by decide, Or.inl T.g_WatchError⟩ takes0 (fun W pn xe tk _ => (pss_one (ps_expr (pe_callNS (ok_floor_bound T) (hr.mono (by omega)) rfl T.g_floor_bound T.k_floor_bound (k3_floor_bound T).choose_spec (fun σ => passAt tk σ) (pa_cons (pe_ix ix_lK (pv 0) pe_int (fun _ _ => rfl)) (pa_cons (pe_ix ix_lK (pv 0) pe_int (fun _ _ => rfl)) (pa_cons (pe_ix ix_lK (pv 0) pe_int (fun _ _ => rfl)) pa_nil))) (pk_cons (pe_ix ix_lK (pv 0) pe_int (fun _ _ => rfl)) pk_nil))))) (fun a oe cls dd pn hz hf => (pss_one (ps_set (i := 1) sc_u_law_refused_by_base.nd rfl (Or.inl rfl) (pe_and (pe_callB (call_isX T.ex_BadNumber hz hf) (by rfl) T.z_isinstance (by decide +kernel) (pa_cons (pv 2) (pa_cons (pe_bltn (v := .ty "ValueError") (by rfl) T.z_ValueError (by decide +kernel) rfl) pa_nil))) (pe_one (pe_not (pe_callB (call_isX T.ex_BadNumber hz hf) (by rfl) T.z_isinstance (by decide +kernel) (pa_cons (pv 2) (pa_cons (pe_glob (v := .ref A.C_TooMany) rfl T.g_TooMany rfl) pa_nil))))))))))
        (pss_one (ps_ret (pv 1))))), ?_⟩
    try dsimp only
    refine q_asg (v := .bl false) ev_c fun H1 e1 => ?_
    replace hS := ex_l e1 hS
    have ix : ∀ (j : Nat) (v : V) (G : Hp), Ex H1 G → [V.int h, .int s, .int k, .int l][j]? = some v → Ev (tOp (rIxL K) (tVar 0) (tC (.int (j : Int)))) [some (.ref a), some (.bl false), none] G v := fun j v G e hj => ev_op (ev_var rfl) ev_c (rv_ixL (ex_l e hS) (atI_nat hj))
    try dsimp only
    refine ix 0 _ _ (Ex.refl _) rfl H1 (Ex.refl _) _ fun H2 e2 => ix 1 _ H2 e2 rfl H2 (Ex.refl _) _ fun H3 e3 => ix 2 _ H3 (e2.trans e3) rfl H3 (Ex.refl _) _ fun H4 e4 => ix 3 _ H4 ((e2.trans e3).trans e4) rfl H4 (Ex.refl _) _ fun H5 e5 => ?_
    have e15 := (((e1.trans e2).trans e3).trans e4).trans e5
    refine ⟨rfl, rfl, h, s, k, l, rfl, fun z => (by rw [hbad] at z; cases z), fun nm' z' hb d H6 e6 hx => ?_, fun z => (by rw [hbad] at z; cases z)⟩
    refine ⟨true, T.xm_BadNumber_WatchError, fun _ ea hea => ?_, fun z => Bool.noConfusion z⟩
    try dsimp only
    refine s_asg (v := .bl true) (ev_is (ev_andV (a := true) (fun H7 e7 Q q => ?_) fun _ => ev_notV (a := false) fun H7 e7 Q q => ?_) rfl) fun H7 e7 => ⟨_, rfl, kk H7 (e15.trans (e6.trans e7))⟩
    · exact ⟨_, rfl, rfl, d, _, _, _, true, rfl, e7 _ _ hx, rfl, fun u h => h, T.kit_BadNumber_ValueError, q H7 (Ex.refl H7)⟩
    · exact ⟨_, rfl, rfl, d, _, _, _, false, rfl, e7 _ _ hx, rfl, fun u h => h, T.kit_BadNumber_TooMany, q H7 (Ex.refl H7)⟩

theorem rv_isN {x : V} {H : Hp} : RV (fun x y H Q => y = .non ∧ Q (.bl (decide (x = .non))) H) x .non H (.bl (decide (x = .non))) := fun H1 _ _ q => ⟨rfl, q H1 (Ex.refl H1)⟩
def nmF : Nat → Str
  | 0 => "hours"
  | 1 => "size"
  | 2 => "stake"
  | _ => "looks"
def hv (m : Int) : Nat → Int
  | 0 => m
  | i + 1 => hv m i / 2
def bit (m : Int) (i : Nat) : Bool := decide (hv m i % 2 = 1)
def Gs (w g : List Int) (b : Nat → Bool) : Nat → List Int
  | 0 => g
  | i + 1 => if b i = true then (Gs w g b i).set i (w.getD i 0) else Gs w g b i
def Du (w : List Int) (b : Nat → Bool) : Nat → Option (Str × Int)
  | 0 => none
  | i + 1 => match Du w b i with
    | some x => some x
    | none => if b i = true then some (nmF i, w.getD i 0) else none
theorem gs_len {w g : List Int} {b : Nat → Bool} : ∀ i, (Gs w g b i).length = g.length
  | 0 => rfl
  | i + 1 => by
    unfold Gs
    split
    · rw [List.length_set, gs_len i]
    · exact gs_len i
/-- wrong numbers for good ones -/
def Wrong (h : Int) (w : List Int) : Prop := ∃ a b c d : Int, w = [a, b, c, d] ∧ a < 1 ∧ ¬ (0 ≤ b ∧ b ≤ h) ∧ c < 0 ∧ ¬ (0 ≤ d ∧ d ≤ 1)
theorem faulty_end {h s k l : Int} {w : List Int} {b : Nat → Bool} (hw : Wrong h w) (hh : 1 ≤ h) (hs : 0 ≤ s ∧ s ≤ h) (hk : 0 ≤ k) (hl : 0 ≤ l ∧ l ≤ 1) : ∃ h' s' k' l' : Int, Gs w [h, s, k, l] b 4 = [h', s', k', l'] ∧ flBad h' s' k' l' = Du w b 4 := by
  obtain ⟨w0, w1, w2, w3, rfl, c0, c1, c2, c3⟩ := hw
  cases h0 : b 0 <;> cases h1 : b 1 <;> cases h2 : b 2 <;> cases h3 : b 3 <;>
    simp only [Gs, Du, h0, h1, h2, h3, nmF, if_true, List.set_cons_zero, List.set_cons_succ, List.getD_cons_zero, List.getD_cons_succ, Bool.false_eq_true, if_false] <;>
    refine ⟨_, _, _, _, rfl, ?_⟩ <;> unfold flBad <;> (repeat' split) <;> first | rfl | omega
def DueIs (K : PySem.W.Frag) (H : Hp) (g : Addr) (v : V) : Option (Str × Int) → Prop
  | none => v = .non
  | some x => ∃ q, v = .ref q ∧ q ≠ g ∧ H q = some (.tup [.str "BadNumber", .str x.1, .int x.2])
def spFaulty (K : PySem.W.Frag) : Sp := fun vs H Q _ => ∃ (a : Addr) (h s k l m f : Int), vs = [.ref a, .int m, .int f] ∧ SqL K H a [.int h, .int s, .int k, .int l] ∧ 1 ≤ h ∧ (0 ≤ s ∧ s ≤ h) ∧ 0 ≤ k ∧ (0 ≤ l ∧ l ≤ 1) ∧ 0 ≤ f ∧ ∀ H', Ex H H' → Q (.bl true) H'
def namesF : List V := [.str "hours", .str "size", .str "stake", .str "looks"]
theorem names_at {i : Nat} (hi : i < 4) : namesF[i]? = some (.str (nmF i)) := by
  match i, hi with
  | 0, _ => rfl
  | 1, _ => rfl
  | 2, _ => rfl
  | 3, _ => rfl
theorem wrong_at {h : Int} {w : List Int} (hw : Wrong h w) {i : Nat} (hi : i < 4) : (w.map V.int)[i]? = some (.int (w.getD i 0)) := by
  obtain ⟨a, b, c, d, rfl, _⟩ := hw
  match i, hi with
  | 0, _ => rfl
  | 1, _ => rfl
  | 2, _ => rfl
  | 3, _ => rfl
theorem ok_u_law_faulty (T : Txt K mg A) : FnOk P w K mg base CX0 11 A.f_u_law_faulty A.d_u_law_faulty (["good", "mask", "far"] : List Str) (spFaulty K) := by
  refine T.F_u_law_faulty.ok sc_u_law_faulty (fun vs H Q E h => ?_) (fun cdv Ar outer s H vs Q E hr h => ?_)
  · obtain ⟨a, h, s, k, l, m, f, rfl, _⟩ := h
    rfl
  · obtain ⟨a, h, s, k, l, m, f, rfl, hS, hh, hs, hk, hl, hf, kk⟩ := h
    refine ⟨_, (pss_cons (ps_set (i := 3) sc_u_law_faulty.nd rfl (Or.inl rfl) (pe_lst (pa_cons pe_str (pa_cons pe_str (pa_cons pe_str (pa_cons pe_str pa_nil))))))
        (pss_cons (ps_set (i := 4) sc_u_law_faulty.nd rfl (Or.inl rfl) (pe_callTy list_K (by rfl) T.z_list (by decide +kernel) (pa_cons (pv 0) pa_nil)))
        (pss_cons (ps_set (i := 5) sc_u_law_faulty.nd rfl (Or.inl rfl) (pe_lst (pa_cons (pe_op op_sub pe_int (pv 2)) (pa_cons (pe_op op_sub (pe_op op_sub pe_int pe_int) (pv 2)) (pa_cons (pe_op op_sub (pe_op op_sub pe_int pe_int) (pv 2)) (pa_cons (pe_op op_sub (pe_op op_sub pe_int pe_int) (pv 2)) pa_nil))))))
        (pss_cons (ps_if (pt_cmpR op_eq (pe_op op_mod (pe_callTy call_int1 (by rfl) T.z_int (by decide +kernel) (pa_cons (pv 2) pa_nil)) pe_int) pe_int (nomark _)) (pss_one (ps_set (i := 5) sc_u_law_faulty.nd rfl (Or.inl rfl) (pe_lst (pa_cons (pe_op op_sub pe_int (pv 2)) (pa_cons (pe_op op_add (pe_op op_add (pe_ix ix_lK (pv 0) pe_int (fun _ _ => rfl)) pe_int) (pv 2)) (pa_cons (pe_op op_sub (pe_op op_sub pe_int pe_int) (pv 2)) (pa_cons (pe_op op_add pe_int (pv 2)) pa_nil))))))) pss_nil)
        (pss_cons (ps_set (i := 6) sc_u_law_faulty.nd rfl (Or.inl rfl) pe_non)
        (pss_cons (ps_for PassesOwn.never rfl (pi_range1 rfl T.z_range (pa_cons pe_int pa_nil)) (pg_name (i := 7) sc_u_law_faulty.nd rfl (Or.inl rfl)) (pss_cons (ps_if (pt_cmpR op_eq (pe_op op_mod (pe_callTy call_int1 (by rfl) T.z_int (by decide +kernel) (pa_cons (pv 1) pa_nil)) pe_int) pe_int (nomark _)) (pss_cons (ps_asg (pe_ix ix_lK (pv 5) (pv 7) (fun _ _ => rfl)) (pg_sub (pv 4) (pv 7) set_list))
        (pss_one (ps_if (pt_cmpR op_isN (pv 6) pe_non (nomark _)) (pss_one (ps_set (i := 6) sc_u_law_faulty.nd rfl (Or.inl rfl) (pe_tup (pa_cons pe_str (pa_cons (pe_ix ix_lK (pv 3) (pv 7) (fun _ _ => rfl)) (pa_cons (pe_ix ix_lK (pv 5) (pv 7) (fun _ _ => rfl)) pa_nil)))))) pss_nil))) pss_nil)
        (pss_one (ps_set (i := 1) sc_u_law_faulty.nd rfl (Or.inl rfl) (pe_op op_fdiv (pv 1) pe_int)))))
        (pss_cons (ps_if (pt_cmpR op_isN (pv 6) pe_non (nomark _)) (pss_one (ps_ret pe_bl)) pss_nil)
        (pss_one (ps_ret (pe_and (pe_call (ok_u_law_same T) (hr.mono (by omega)) rfl T.g_u_law_same T.k_u_law_same (b_u_law_same T) .nil pass0 (pa_cons (pe_call (ok_u_law_refused T) (hr.mono (by omega)) rfl T.g_u_law_refused T.k_u_law_refused (b_u_law_refused T) .nil pass0 (pa_cons (pv 4) pa_nil)) (pa_cons (pv 6) pa_nil))) (pe_one (pe_call (ok_u_law_refused_by_base T) (hr.mono (by omega)) rfl T.g_u_law_refused_by_base T.k_u_law_refused_by_base (b_u_law_refused_by_base T) .nil pass0 (pa_cons (pv 4) pa_nil))))))))))))), ?_⟩
    try dsimp only
    refine q_asgL (xs := namesF) (el_lst (ea_cons ev_c (ea_cons ev_c (ea_cons ev_c (ea_cons ev_c ea_nil)))) (by decide)) fun np H1 hnp e1 hn1 => ?_
    try dsimp only
    refine ⟨_, rfl, a, _, rfl, .inl (ex_l e1 hS), fun gp hgp => ?_⟩
    have e2 : Ex H (upd H1 gp (.lst [.int h, .int s, .int k, .int l])) := e1.trans (Ex.new hgp)
    have hg2 : (upd H1 gp (.lst [.int h, .int s, .int k, .int l])) gp = some (.lst (([h, s, k, l] : List Int).map V.int)) := upd_same
    have hgH : H gp = none := fresh_back e1 hgp
    have npg : np ≠ gp := ne_of_none hn1 hgp
    have hn2 := Ex.new (o := .lst [.int h, .int s, .int k, .int l]) hgp _ _ hn1
    generalize upd H1 gp (.lst [.int h, .int s, .int k, .int l]) = H2 at e2 hg2 hn2 ⊢
    try dsimp only
    refine q_asgL (xs := ([0 - f, 0 - 1 - f, 0 - 1 - f, 0 - 1 - f] : List Int).map V.int) (el_lst (by repeat' first | exact ev_c | exact ev_var rfl | exact ea_nil | apply ea_cons | apply ev_int | apply ev_op | apply ev_un | exact ru_neg | exact rv_I0 | exact rv_eq rfl | exact rv_ne rfl | exact rv_I (by decide) | exact rv_I (.inl ⟨by decide, by decide⟩) | exact rv_I (.inr ⟨by decide, by decide⟩) | exact rv_I (by omega) | exact rv_I (.inl ⟨by omega, by omega⟩) | exact rv_I (.inr ⟨by omega, by omega⟩)) (by show 4 ≤ 100000; decide)) fun wp H3 hwp e3 hw3 => ?_
    have wg : wp ≠ gp := fun z => by rw [z, hg2] at hwp; cases hwp
    replace hg2 := e3 _ _ hg2
    replace hn2 := e3 _ _ hn2
    replace e3 := e2.trans e3
    replace hS := ex_l e3 hS
    try dsimp only
    refine q_alt (b := decide (f % 2 = 0)) (fun σ' H' => ∃ (w : List Int) (wp : Addr), σ' = [some (.ref a), some (.int m), some (.int f), some (.ref np), some (.ref gp), some (.ref wp), none, none] ∧ Ex H H' ∧ H' gp = some (.lst (([h, s, k, l] : List Int).map V.int)) ∧ H' np = some (.lst namesF) ∧ wp ≠ gp ∧ H' wp = some (.lst (w.map V.int)) ∧ Wrong h w)
      (et_is (et_test (by repeat' first | exact ev_c | exact ev_var rfl | exact ea_nil | apply ea_cons | apply ev_int | apply ev_op | apply ev_un | exact ru_neg | exact rv_I0 | exact rv_eq rfl | exact rv_ne rfl | exact rv_I (by decide) | exact rv_I (.inl ⟨by decide, by decide⟩) | exact rv_I (.inr ⟨by decide, by decide⟩) | exact rv_I (by omega) | exact rv_I (.inl ⟨by omega, by omega⟩) | exact rv_I (.inr ⟨by omega, by omega⟩))) dec_ii) (fun hb H4 e4 W hW => ?_) (fun hb H4 e4 => ?_) ?_
    · refine s_asgL (xs := ([0 - f, h + 1 + f, 0 - 1 - f, 2 + f] : List Int).map V.int) (el_lst (by repeat' first | exact ev_c | exact ev_var rfl | exact ea_nil | apply ea_cons | apply ev_int | exact rv_ixL (ex_l e4 hS) rfl | apply ev_op | apply ev_un | exact ru_neg | exact rv_I0 | exact rv_eq rfl | exact rv_ne rfl | exact rv_I (by decide) | exact rv_I (.inl ⟨by decide, by decide⟩) | exact rv_I (.inr ⟨by decide, by decide⟩) | exact rv_I (by omega) | exact rv_I (.inl ⟨by omega, by omega⟩) | exact rv_I (.inr ⟨by omega, by omega⟩)) (by show 4 ≤ 100000; decide)) fun wq H5 hwq e5 hw5 => hW _ _ ⟨_, wq, rfl, e3.trans (e4.trans e5), e5 _ _ (e4 _ _ hg2), e5 _ _ (e4 _ _ hn2), fun z => ?_, hw5, _, _, _, _, rfl, by omega, by omega, by omega, by omega⟩
      rw [z, e4 _ _ hg2] at hwq
      cases hwq
    · exact ⟨_, wp, rfl, e3.trans e4, e4 _ _ hg2, e4 _ _ hn2, wg, e4 _ _ hw3, _, _, _, _, rfl, by omega, by omega, by omega, by omega⟩
    clear hw3 wg hwp hg2 hn2 e3 wp hS e2
    rintro σ' H4 ⟨w, wp, rfl, e4, hg4, hn4, wg, hw4, hW⟩
    try dsimp only
    refine q_asg (v := .non) ev_c fun H5 e5 => ?_
    try dsimp only
    refine q_forR1 (n := 4) (ea_cons ev_c ea_nil) (by decide) (fun i σ' H' => ∃ (dv : V) (kv : Option V), σ' = [some (.ref a), some (.int (hv m i)), some (.int f), some (.ref np), some (.ref gp), some (.ref wp), some dv, kv] ∧ Ex H H' ∧
        H' gp = some (.lst ((Gs w [h, s, k, l] (bit m) i).map V.int)) ∧ H' np = some (.lst namesF) ∧ H' wp = some (.lst (w.map V.int)) ∧ DueIs K H' gp dv (Du w (bit m) i))
      (fun H6 e6 => ⟨.non, none, rfl, e4.trans (e5.trans e6), e6 _ _ (e5 _ _ hg4), e6 _ _ (e5 _ _ hn4), e6 _ _ (e5 _ _ hw4), rfl⟩) ?_ ?_
    · rintro i σ' H6 hi4 ⟨dv, kv, rfl, e6, hg6, hn6, hw6, hd6⟩
      have hi : i < 4 := by omega
      have wat := wrong_at hW hi
      try dsimp only
      refine q_alt (b := bit m i) (fun σ' H' => ∃ dv : V, σ' = [some (.ref a), some (.int (hv m i)), some (.int f), some (.ref np), some (.ref gp), some (.ref wp), some dv, some (.int (i : Int))] ∧ Ex H H' ∧
        H' gp = some (.lst ((Gs w [h, s, k, l] (bit m) (i + 1)).map V.int)) ∧ H' np = some (.lst namesF) ∧ H' wp = some (.lst (w.map V.int)) ∧ DueIs K H' gp dv (Du w (bit m) (i + 1)))
        (et_is (et_test (ev_op (ev_op (ev_int (ev_var (i := 1) rfl)) ev_c (rv_I (by decide))) ev_c (rv_eq rfl))) dec_ii) (fun hb H7 e7 W hWW => ?_) (fun hb H7 e7 => ?_) ?_
      · try dsimp only
        refine q_setL (j := i) (v := .int (w.getD i 0)) (e7 _ _ hg6) (ev_op (ev_var (i := 5) rfl) (ev_var (i := 7) rfl) (rv_ixL (sq_of (e7 _ _ hw6)) (atI_nat wat))) (ev_var (i := 4) rfl) (ev_var (i := 7) rfl) (by rw [List.length_map, gs_len]; exact hi) fun H8 e8 => ?_
        have e78 := e7.trans e8
        have hg9 : (upd H8 gp (.lst (((Gs w [h, s, k, l] (bit m) i).map V.int).set i (.int (w.getD i 0))))) gp = some (.lst ((Gs w [h, s, k, l] (bit m) (i + 1)).map V.int)) := by
          rw [upd_same]
          show _ = some (HO.lst ((if bit m i = true then _ else _ : List Int).map V.int))
          rw [if_pos hb, List.map_set]
        have hn9 : (upd H8 gp (.lst (((Gs w [h, s, k, l] (bit m) i).map V.int).set i (.int (w.getD i 0))))) np = some (.lst namesF) := by rw [upd_ne npg]; exact e78 _ _ hn6
        have hw9 : (upd H8 gp (.lst (((Gs w [h, s, k, l] (bit m) i).map V.int).set i (.int (w.getD i 0))))) wp = some (.lst (w.map V.int)) := by rw [upd_ne wg]; exact e78 _ _ hw6
        have e9 : Ex H (upd H8 gp (.lst (((Gs w [h, s, k, l] (bit m) i).map V.int).set i (.int (w.getD i 0))))) := Ex.mut (e6.trans e78) hgH
        have hd9 : DueIs K (upd H8 gp (.lst (((Gs w [h, s, k, l] (bit m) i).map V.int).set i (.int (w.getD i 0))))) gp dv (Du w (bit m) i) := by
          cases hdu : Du w (bit m) i with
          | none => rw [hdu] at hd6; exact hd6
          | some x =>
            rw [hdu] at hd6
            obtain ⟨q, rfl, hq, hx⟩ := hd6
            exact ⟨q, rfl, hq, by rw [upd_ne hq]; exact e78 _ _ hx⟩
        generalize upd H8 gp (.lst (((Gs w [h, s, k, l] (bit m) i).map V.int).set i (.int (w.getD i 0)))) = H9 at hg9 hn9 hw9 e9 hd9 ⊢
        try dsimp only
        refine s_when (b := decide (dv = .non)) (et_test (ev_op (ev_var (i := 6) rfl) ev_c rv_isN)) (fun hbn H10 e10 => ?_) (fun hbn H10 e10 => ?_)
        · have hdn : Du w (bit m) i = none := by
            cases hdu : Du w (bit m) i with
            | none => rfl
            | some x =>
              rw [hdu] at hd9
              obtain ⟨q, rfl, _⟩ := hd9
              exact absurd (of_decide_eq_true hbn) (by simp)
          refine s_asgU (xs := [.str "BadNumber", .str (nmF i), .int (w.getD i 0)]) (eu_tup (ea_cons ev_c (ea_cons (ev_op (ev_var (i := 3) rfl) (ev_var (i := 7) rfl) (rv_ixL (sq_of (e10 _ _ hn9)) (atI_nat (names_at hi)))) (ea_cons (ev_op (ev_var (i := 5) rfl) (ev_var (i := 7) rfl) (rv_ixL (sq_of (e10 _ _ hw9)) (atI_nat wat))) ea_nil))) (by show 3 ≤ 100000; decide)) fun q H11 hq e11 hx => ?_
          have e12 := e10.trans e11
          refine hWW _ _ ⟨.ref q, rfl, e9.trans e12, e12 _ _ hg9, e12 _ _ hn9, e12 _ _ hw9, ?_⟩
          show DueIs K H11 gp (.ref q) (match Du w (bit m) i with | some x => some x | none => if bit m i = true then some (nmF i, w.getD i 0) else none)
          rw [hdn]
          show DueIs K H11 gp (.ref q) (if bit m i = true then some (nmF i, w.getD i 0) else none)
          rw [if_pos hb]
          exact ⟨q, rfl, (fun z => by rw [z, e10 _ _ hg9] at hq; cases hq), hx⟩
        · refine hWW _ _ ⟨dv, rfl, e9.trans e10, e10 _ _ hg9, e10 _ _ hn9, e10 _ _ hw9, ?_⟩
          show DueIs K H10 gp dv (match Du w (bit m) i with | some x => some x | none => if bit m i = true then some (nmF i, w.getD i 0) else none)
          cases hdu : Du w (bit m) i with
          | none => rw [hdu] at hd9; exact absurd (show dv = .non from hd9) (of_decide_eq_false hbn)
          | some x =>
            rw [hdu] at hd9
            obtain ⟨q, rfl, hq, hx⟩ := hd9
            exact ⟨q, rfl, hq, e10 _ _ hx⟩
      · refine ⟨dv, rfl, e6.trans e7, ?_, e7 _ _ hn6, e7 _ _ hw6, ?_⟩
        · show H7 gp = some (HO.lst ((if bit m i = true then _ else _ : List Int).map V.int))
          rw [if_neg (by rw [hb]; decide)]
          exact e7 _ _ hg6
        · show DueIs K H7 gp dv (match Du w (bit m) i with | some x => some x | none => if bit m i = true then some (nmF i, w.getD i 0) else none)
          cases hdu : Du w (bit m) i with
          | none =>
            rw [hdu] at hd6
            show DueIs K H7 gp dv (if bit m i = true then some (nmF i, w.getD i 0) else none)
            rw [if_neg (by rw [hb]; decide)]
            exact hd6
          | some x =>
            rw [hdu] at hd6
            obtain ⟨q, rfl, hq, hx⟩ := hd6
            exact ⟨q, rfl, hq, e7 _ _ hx⟩
      · rintro σ' H7 ⟨dv', rfl, e7, hg7, hn7, hw7, hd7⟩
        try dsimp only
        exact s_asg (v := .int (hv m i / 2)) (ev_op (ev_var (i := 1) rfl) ev_c (rv_I ⟨by decide, by decide⟩)) fun H8 e8 => ⟨dv', _, rfl, e7.trans e8, e8 _ _ hg7, e8 _ _ hn7, e8 _ _ hw7, by
          cases hdu : Du w (bit m) (i + 1) with
          | none => rw [hdu] at hd7; exact hd7
          | some x =>
            rw [hdu] at hd7
            obtain ⟨q, rfl, hq, hx⟩ := hd7
            exact ⟨q, rfl, hq, e8 _ _ hx⟩⟩
    rintro σ' H6 ⟨dv, kv, rfl, e6, hg6, hn6, hw6, hd6⟩
    obtain ⟨h', s', k', l', hG, hB⟩ := faulty_end (b := bit m) hW hh hs hk hl
    replace hg6 : H6 gp = some (.lst [.int h', .int s', .int k', .int l']) := hg6.trans (by rw [show (4 : Int).toNat = 4 from rfl, hG]; rfl)
    replace hd6 : DueIs K H6 gp dv (Du w (bit m) 4) := hd6
    rw [← hB] at hd6
    try dsimp only
    refine q_when (b := decide (dv = .non)) (et_test (ev_op (ev_var (i := 6) rfl) ev_c rv_isN)) (fun hbn H7 e7 => ?_) (fun hbn H7 e7 => ?_)
    · exact s_ret (v := .bl true) ev_c fun H8 e8 => kk H8 (e6.trans (e7.trans e8))
    cases hbad : flBad h' s' k' l' with
    | none => rw [hbad] at hd6; exact absurd (show dv = .non from hd6) (of_decide_eq_false hbn)
    | some x =>
      rw [hbad] at hd6
      obtain ⟨q, rfl, hq, hx⟩ := hd6
      have dd : ∀ G, Ex H7 G → Dp K G (.ref q) (.tuple [.str "BadNumber", .str x.1, .int x.2]) := fun G e => .tup (st_of (e _ _ (e7 _ _ hx))) (.cons (.str _) (.cons (.str _) (.cons (.int _) .nil)))
      try dsimp only
      refine s_ret (v := .bl true) (ev_andV (a := true) (ev_same (d := .tuple [.str "BadNumber", .str x.1, .int x.2]) (fun H8 e8 Q2 q2 => ⟨_, rfl, gp, h', s', k', l', x.2, x.1, rfl, sq_of (e8 _ _ (e7 _ _ hg6)), hbad, fun v H9 e9 hv => q2 v H9 e9 hv⟩) (ed_ev (ev_var (i := 6) rfl) dd) ⟨by show 3 ≤ 40000; decide, fun d hd => by
        simp only [List.mem_cons, List.not_mem_nil, or_false] at hd
        rcases hd with rfl | rfl | rfl <;> exact True.intro⟩) fun _ => (fun H8 e8 Q2 q2 => ⟨_, rfl, gp, h', s', k', l', x.2, x.1, rfl, sq_of (e8 _ _ (e7 _ _ hg6)), hbad, fun H9 e9 => q2 H9 e9⟩)) fun H8 e8 => kk H8 (e6.trans (e7.trans e8))

theorem big200 {x : Int} (h0 : 0 ≤ x) (h : x ≤ 10 ^ 60) : x.natAbs < 2 ^ 200 := by
  have a : (10 : Int) ^ 60 < 2 ^ 200 := by decide
  have e : ((2 ^ 200 : Nat) : Int) = 2 ^ 200 := by decide
  omega
theorem big_up {x : Int} {b : Nat} (h0 : 0 ≤ x) (h : x ≤ 10 ^ 60) (hb : 200 ≤ b) : x.natAbs < 2 ^ b := Nat.lt_of_lt_of_le (big200 h0 h) (Nat.pow_le_pow_right (by decide) hb)
theorem er_four {K : PySem.W.Frag} {E : XK} {σ : L2.St} {H : Hp} {tc : TE} {c z m : Int} (hc : Ev tc σ H (.int c)) (h0 : 0 ≤ c) (hm : 1 ≤ m ∧ m ≤ 8) {t60 : TE} (h60 : Ev t60 σ H (.int (10 ^ 60))) (hz : -1000000 ≤ z ∧ z ≤ 1000000) :
    EvR (tCall (sp_draws K) [] E (tCons tc (tCons (tC (.int z)) (tCons (tLst (tCons (tC (.int m)) (tCons t60 (tCons (tC (.int 20)) (tCons (tC (.int 1000)) tNil))))) tNil)))) σ H fun v H1 => ∃ p w x y z, v = .ref p ∧ Four K H1 p m w x y z :=
  (er_draws (K := K) (ms := [m, 10 ^ 60, 20, 1000]) hc ev_c (el_lst (ea_cons ev_c (ea_cons h60 (ea_cons ev_c (ea_cons ev_c ea_nil)))) (by show 4 ≤ 100000; decide)) h0 hz (by show 4 ≤ 64; decide) (fun x hx => by
    have t60 : (1000 : Int) ≤ 10 ^ 60 := by decide
    simp only [List.mem_cons, List.not_mem_nil, or_false] at hx
    rcases hx with e | e | e | e <;> exact ⟨by omega, big_up (by omega) (by omega) (by decide)⟩)).imp fun v H1 hp => by
  obtain ⟨p, ds, rfl, hds, hD⟩ := hp
  obtain ⟨d0, ds, rfl, b0, hD⟩ := drawn_cons hD
  obtain ⟨d1, ds, rfl, b1, hD⟩ := drawn_cons hD
  obtain ⟨d2, ds, rfl, b2, hD⟩ := drawn_cons hD
  obtain ⟨d3, ds, rfl, b3, hD⟩ := drawn_cons hD
  obtain rfl := drawn_nil hD
  exact ⟨p, d0, d1, d2, d3, rfl, sq_of hds, b0, b1, b2, b3⟩
theorem sp_floor_ok {A : Ads} {E : XK} {H : Hp} {Q : VK} {h s k l : Int} (hh : 1 ≤ h ∧ h ≤ 10 ^ 60) (hs : 0 ≤ s ∧ s ≤ h) (hk : 0 ≤ k ∧ k ≤ 10 ^ 60) (hl : 0 ≤ l ∧ l ≤ 1) (q : ∀ v H2, Ex H H2 → IsRt A v H2 (flV h s k l).1 (flV h s k l).2 → Q v H2) :
    spFloor A [.int h, .int s, .int k, .int l] H Q E := by
  have hn : flBad h s k l = none := by unfold flBad; rw [if_neg (by omega), if_neg (fun z => z hs), if_neg (by omega), if_neg (fun z => z hl)]
  exact ⟨h, s, k, l, rfl, fun _ => ⟨big_up (by omega) hh.2 (by decide), big_up hk.1 hk.2 (by decide)⟩, fun nm z hz => (by rw [hn] at hz; cases hz), fun _ v H2 e hv => q v H2 e hv⟩
theorem er_floor {A : Ads} {E : XK} {σ : L2.St} {H : Hp} {ta tb tc : TE} {h s k : Int} (ha : Ev ta σ H (.int h)) (hb : Ev tb σ H (.int s)) (hc : Ev tc σ H (.int k)) (hh : 1 ≤ h ∧ h ≤ 10 ^ 60) (hs : 0 ≤ s ∧ s ≤ h) (hk : 0 ≤ k ∧ k ≤ 10 ^ 60) :
    EvR (tCall (spFloor A) [.int 0] E (tCons ta (tCons tb (tCons tc tNil)))) σ H fun v H1 => IsRt A v H1 (k * (h - s)) h :=
  er_call (ea_cons ha (ea_cons hb (ea_cons hc ea_nil))) fun H1 e Q q => sp_floor_ok hh hs hk (by decide) fun v H2 e2 hv => q v H2 e2 hv
theorem er_floorK {A : Ads} {E : XK} {σ : L2.St} {H : Hp} {ta tb tc td : TE} {h s k l : Int} {m : Nat} (hm : m = 1) (ha : Ev ta σ H (.int h)) (hb : Ev tb σ H (.int s)) (hc : Ev tc σ H (.int k)) (hd : Ev td σ H (.int l)) (hh : 1 ≤ h ∧ h ≤ 10 ^ 60) (hs : 0 ≤ s ∧ s ≤ h) (hk : 0 ≤ k ∧ k ≤ 10 ^ 60) (hl : 0 ≤ l ∧ l ≤ 1) :
    EvR (tCallN 3 m (spFloor A) (fun vs zs => vs ++ zs) E (tCons ta (tCons tb (tCons tc tNil))) (tCons td tNil)) σ H fun v H1 => IsRt A v H1 (flV h s k l).1 (flV h s k l).2 := fun H1 e Q q =>
  ea_cons ha (ea_cons hb (ea_cons hc ea_nil)) H1 e _ fun H2 e2 => ea_cons hd ea_nil H2 (e.trans e2) _ fun H3 e3 => ⟨rfl, hm.symm, sp_floor_ok hh hs hk hl fun v H4 e4 hv => q v H4 ((e2.trans e3).trans e4) hv⟩
theorem ev_faulty {K : PySem.W.Frag} {E : XK} {σ : L2.St} {H : Hp} {ta tb tc : TE} {h s k l m f : Int} (ha : EvL ta σ H [.int h, .int s, .int k, .int l]) (hb : Ev tb σ H (.int m)) (hc : Ev tc σ H (.int f)) (hh : 1 ≤ h) (hs : 0 ≤ s ∧ s ≤ h) (hk : 0 ≤ k) (hl : 0 ≤ l ∧ l ≤ 1) (hf : 0 ≤ f) :
    Ev (tCall (spFaulty K) [] E (tCons ta (tCons tb (tCons tc tNil)))) σ H (.bl true) := fun H1 e Q q =>
  ha H1 e _ fun p H2 _ e2 hp => hb H2 (e.trans e2) _ fun H3 e3 => hc H3 ((e.trans e2).trans e3) _ fun H4 e4 => ⟨p, h, s, k, l, m, f, rfl, sq_of ((e3.trans e4) _ _ hp), hh, hs, hk, hl, hf, fun H' e' => q H' (((e2.trans e3).trans e4).trans e')⟩
def spLaw (K : PySem.W.Frag) : Sp := fun vs H Q _ => ∃ (a : Addr) (ns : List Int), vs = [.ref a] ∧ SqL K H a (ns.map V.int) ∧ ns.length ≤ 63 ∧ ∀ H', Q (.bl true) H' 
theorem ok_law (T : Txt K mg A) : FnOk P w K mg base CX0 13 A.f_law A.d_law (["script"] : List Str) (spLaw K) := by
  refine T.F_law.ok sc_law (fun vs H Q E h => ?_) (fun cdv Ar outer s H vs Q E hr h => ?_)
  · obtain ⟨a, ns, rfl, _⟩ := h
    rfl
  · obtain ⟨a, ns, rfl, hS, hl, k⟩ := h
    refine ⟨_, (pss_cons (ps_set (i := 1) sc_law.nd rfl (Or.inl rfl) (pe_call (ok_u_law_hours T) (hr.mono (by omega)) rfl T.g_u_law_hours T.k_u_law_hours (b_u_law_hours T) .nil pass0 (pa_cons (pe_call (ok_u_law_draws T) (hr.mono (by omega)) rfl T.g_u_law_draws T.k_u_law_draws (b_u_law_draws T) .nil pass0 (pa_cons (pe_call (ok_u_law_cell T) (hr.mono (by omega)) rfl T.g_u_law_cell T.k_u_law_cell (b_u_law_cell T) .nil pass0 (pa_cons (pv 0) (pa_cons pe_int pa_nil))) (pa_cons pe_int (pa_cons (pe_lst (pa_cons pe_int (pa_cons (pe_op op_pow pe_int pe_int) (pa_cons pe_int (pa_cons pe_int pa_nil))))) pa_nil)))) pa_nil)))
        (pss_cons (ps_set (i := 2) sc_law.nd rfl (Or.inl rfl) (pe_call (ok_u_law_size T) (hr.mono (by omega)) rfl T.g_u_law_size T.k_u_law_size (b_u_law_size T) .nil pass0 (pa_cons (pe_call (ok_u_law_draws T) (hr.mono (by omega)) rfl T.g_u_law_draws T.k_u_law_draws (b_u_law_draws T) .nil pass0 (pa_cons (pe_call (ok_u_law_cell T) (hr.mono (by omega)) rfl T.g_u_law_cell T.k_u_law_cell (b_u_law_cell T) .nil pass0 (pa_cons (pv 0) (pa_cons pe_int pa_nil))) (pa_cons pe_int (pa_cons (pe_lst (pa_cons pe_int (pa_cons (pe_op op_pow pe_int pe_int) (pa_cons pe_int (pa_cons pe_int pa_nil))))) pa_nil)))) (pa_cons (pv 1) pa_nil))))
        (pss_cons (ps_set (i := 3) sc_law.nd rfl (Or.inl rfl) (pe_call (ok_u_law_stake T) (hr.mono (by omega)) rfl T.g_u_law_stake T.k_u_law_stake (b_u_law_stake T) .nil pass0 (pa_cons (pe_call (ok_u_law_draws T) (hr.mono (by omega)) rfl T.g_u_law_draws T.k_u_law_draws (b_u_law_draws T) .nil pass0 (pa_cons (pe_call (ok_u_law_cell T) (hr.mono (by omega)) rfl T.g_u_law_cell T.k_u_law_cell (b_u_law_cell T) .nil pass0 (pa_cons (pv 0) (pa_cons pe_int pa_nil))) (pa_cons pe_int (pa_cons (pe_lst (pa_cons pe_int (pa_cons (pe_op op_pow pe_int pe_int) (pa_cons pe_int (pa_cons pe_int pa_nil))))) pa_nil)))) pa_nil)))
        (pss_cons (ps_if (pt_not (pt_val (pe_call (ok_u_law_worth T) (hr.mono (by omega)) rfl T.g_u_law_worth T.k_u_law_worth (b_u_law_worth T) .nil pass0 (pa_cons (pe_call (ok_floor_bound T) (hr.mono (by omega)) rfl T.g_floor_bound T.k_floor_bound (b3_floor_bound T).choose_spec.2 (b3_floor_bound T).choose_spec.1 passL (pa_cons (pv 1) (pa_cons (pv 2) (pa_cons (pv 3) pa_nil)))) (pa_cons (pe_op op_mulW (pv 3) (pe_op op_sub (pv 1) (pv 2))) (pa_cons (pv 1) pa_nil)))))) (pss_one (ps_ret pe_bl)) pss_nil)
        (pss_cons (ps_set (i := 4) sc_law.nd rfl (Or.inl rfl) (pe_call (ok_u_law_floor T) (hr.mono (by omega)) rfl T.g_u_law_floor T.k_u_law_floor (b_u_law_floor T) .nil pass0 (pa_cons (pv 1) (pa_cons (pv 2) (pa_cons (pv 3) pa_nil)))))
        (pss_cons (ps_if (pt_not (pt_val (pe_call (ok_u_law_worth T) (hr.mono (by omega)) rfl T.g_u_law_worth T.k_u_law_worth (b_u_law_worth T) .nil pass0 (pa_cons (pe_callN (ok_floor_bound T) (hr.mono (by omega)) rfl T.g_floor_bound T.k_floor_bound (k3_floor_bound T).choose_spec passL (pa_cons (pv 1) (pa_cons (pv 2) (pa_cons (pv 3) pa_nil))) (pk_cons pe_int pk_nil)) (pa_cons (pe_ix ix_tK (pv 4) pe_int (fun _ _ => rfl)) (pa_cons (pe_ix ix_tK (pv 4) pe_int (fun _ _ => rfl)) pa_nil)))))) (pss_one (ps_ret pe_bl)) pss_nil)
        (pss_cons (ps_set (i := 5) sc_law.nd rfl (Or.inl rfl) (pe_call (ok_u_law_draws T) (hr.mono (by omega)) rfl T.g_u_law_draws T.k_u_law_draws (b_u_law_draws T) .nil pass0 (pa_cons (pe_call (ok_u_law_cell T) (hr.mono (by omega)) rfl T.g_u_law_cell T.k_u_law_cell (b_u_law_cell T) .nil pass0 (pa_cons (pv 0) (pa_cons pe_int pa_nil))) (pa_cons pe_int (pa_cons (pe_lst (pa_cons pe_int (pa_cons (pe_op op_pow pe_int pe_int) pa_nil))) pa_nil)))))
        (pss_cons (ps_if (pt_not (pt_val (pe_call (ok_u_law_faulty T) (hr.mono (by omega)) rfl T.g_u_law_faulty T.k_u_law_faulty (b_u_law_faulty T) .nil pass0 (pa_cons (pe_lst (pa_cons (pv 1) (pa_cons (pv 2) (pa_cons (pv 3) (pa_cons pe_int pa_nil))))) (pa_cons (pe_ix ix_lK (pv 5) pe_int (fun _ _ => rfl)) (pa_cons (pe_ix ix_lK (pv 5) pe_int (fun _ _ => rfl)) pa_nil)))))) (pss_one (ps_ret pe_bl)) pss_nil)
        (pss_one (ps_ret (pe_call (ok_u_law_worth T) (hr.mono (by omega)) rfl T.g_u_law_worth T.k_u_law_worth (b_u_law_worth T) .nil pass0 (pa_cons (pe_callN (ok_floor_bound T) (hr.mono (by omega)) rfl T.g_floor_bound T.k_floor_bound (k3_floor_bound T).choose_spec passL (pa_cons (pv 1) (pa_cons (pv 2) (pa_cons (pv 3) pa_nil))) (pk_cons pe_int pk_nil)) (pa_cons (pe_op op_mulW (pv 3) (pe_op op_sub (pv 1) (pv 2))) (pa_cons (pv 1) pa_nil)))))))))))))), ?_⟩
    have cp : CPow 10 60 := ⟨by decide, by decide, by decide⟩
    try dsimp only
    refine q_asgR (P := fun v _ => ∃ r : Int, v = .int r ∧ 1 ≤ r ∧ r ≤ 10 ^ 59) (fun H1 e1 Q q => er_four (K := K) (ev_cell (k := 0) (ev_var rfl) ev_c hS) (cellA_nn _ _) (by decide) (ev_op ev_c ev_c (rv_I cp)) (by decide) H1 e1 _ fun v H2 e2 hp => by
      obtain ⟨p, w, x, y, z, rfl, h4⟩ := hp
      exact ⟨p, w, x, y, z, rfl, h4, fun r H3 e3 r0 r1 => q _ H3 (e2.trans e3) ⟨r, rfl, r0, r1⟩⟩) fun v H1 e1 hp => ?_
    obtain ⟨h, rfl, h0, h1⟩ := hp
    replace hS := ex_l e1 hS
    try dsimp only
    refine q_asgR (P := fun v _ => ∃ r : Int, v = .int r ∧ 0 ≤ r ∧ r ≤ h) (fun H1 e1 Q q => er_four (K := K) (ev_cell (k := 1) (ev_var rfl) ev_c hS) (cellA_nn _ _) (by decide) (ev_op ev_c ev_c (rv_I cp)) (by decide) H1 e1 _ fun v H2 e2 hp => by
      obtain ⟨p, w, x, y, z, rfl, h4⟩ := hp
      exact ⟨_, rfl, p, w, x, y, z, h, rfl, h4, h0, fun r H3 e3 r0 r1 => q _ H3 (e2.trans e3) ⟨r, rfl, r0, r1⟩⟩) fun v H2 e2 hp => ?_
    obtain ⟨s, rfl, hs⟩ := hp
    replace hS := ex_l e2 hS
    try dsimp only
    refine q_asgR (P := fun v _ => ∃ r : Int, v = .int r ∧ 0 ≤ r ∧ r < 10 ^ 60) (fun H1 e1 Q q => er_four (K := K) (ev_cell (k := 2) (ev_var rfl) ev_c hS) (cellA_nn _ _) (by decide) (ev_op ev_c ev_c (rv_I cp)) (by decide) H1 e1 _ fun v H2 e2 hp => by
      obtain ⟨p, w, x, y, z, rfl, h4⟩ := hp
      exact ⟨p, w, x, y, z, rfl, h4, fun r H3 e3 r0 r1 => q _ H3 (e2.trans e3) ⟨r, rfl, r0, r1⟩⟩) fun v H3 e3 hp => ?_
    obtain ⟨kk, rfl, k0, k1⟩ := hp
    replace hS := ex_l e3 hS
    have p59 : (10 : Int) ^ 59 ≤ 10 ^ 60 := by decide
    have hh : 1 ≤ h ∧ h ≤ 10 ^ 60 := ⟨h0, by omega⟩
    have hk : 0 ≤ kk ∧ kk ≤ 10 ^ 60 := ⟨k0, by omega⟩
    have zh : h.natAbs < 2 ^ 400 := big_up (by omega) hh.2 (by decide)
    have zs : s.natAbs < 2 ^ 400 := big_up hs.1 (by omega) (by decide)
    have zk : kk.natAbs < 2 ^ 400 := big_up hk.1 hk.2 (by decide)
    have zd : (h - s).natAbs < 2 ^ 400 := big_up (by omega) (by omega) (by decide)
    have up : ∀ (z : Int) (b : Nat), z.natAbs < 2 ^ b → b ≤ 4000 → z.natAbs < 2 ^ 4000 := fun z b h hb => Nat.lt_of_lt_of_le h (Nat.pow_le_pow_right (by decide) hb)
    have zm : (kk * (h - s)).natAbs < 2 ^ 4000 := up _ _ (wide_lt zk zd) (by decide)
    have hmul : CMulW kk (h - s) := wide_mul zk zd (by decide) (by decide) (by decide)
    have z400 := up _ _ zh (by decide)
    have zf : (flV h s kk 1).1.natAbs < 2 ^ 4000 ∧ (flV h s kk 1).2.natAbs < 2 ^ 4000 := by
      have one : (1 : Int).natAbs < 2 ^ 4000 := up 1 1 (by decide) (by decide)
      have zero : (0 : Int).natAbs < 2 ^ 4000 := up 0 1 (by decide) (by decide)
      unfold flV
      rw [if_neg (by decide)]
      split
      · exact ⟨up _ _ zk (by decide), one⟩
      · split
        · exact ⟨zero, one⟩
        · exact ⟨zm, up _ _ (Nat.lt_of_le_of_lt (show (h - 1).natAbs ≤ h.natAbs by omega) zh) (by decide)⟩
    try dsimp only
    refine q_skip (et_notT (et_B (ev_worth (er_floor (ev_var (i := 1) rfl) (ev_var (i := 2) rfl) (ev_var (i := 3) rfl) hh hs hk) (ev_op (ev_var (i := 3) rfl) (ev_op (ev_var (i := 1) rfl) (ev_var (i := 2) rfl) rv_I0) (rv_I hmul)) (ev_var (i := 1) rfl) zm z400))) fun H4 e4 => ?_
    replace hS := ex_l e4 hS
    try dsimp only
    refine q_asgR (P := fun v H => ∃ p, v = .ref p ∧ H p = some (.tup [.int (flV h s kk 1).1, .int (flV h s kk 1).2])) (er_call (ea_cons (ev_var (i := 1) rfl) (ea_cons (ev_var (i := 2) rfl) (ea_cons (ev_var (i := 3) rfl) ea_nil))) fun H5 e5 Q q => ⟨h, s, kk, rfl, ⟨zh, zs, zk⟩, fun p H6 hp e6 hx => q _ H6 e6 ⟨p, rfl, hx⟩⟩) fun v H5 e5 hp => ?_
    obtain ⟨lp, rfl, hlp⟩ := hp
    replace hS := ex_l e5 hS
    try dsimp only
    refine q_skip (et_notT (et_B (ev_worth (er_floorK rfl (ev_var (i := 1) rfl) (ev_var (i := 2) rfl) (ev_var (i := 3) rfl) ev_c hh hs hk (by decide)) (ev_op (ev_var (i := 4) rfl) ev_c (rv_ixT (st_of hlp) rfl)) (ev_op (ev_var (i := 4) rfl) ev_c (rv_ixT (st_of hlp) rfl)) zf.1 zf.2))) fun H6 e6 => ?_
    replace hS := ex_l e6 hS
    try dsimp only
    refine q_asgR (er_draws (K := K) (ms := [16, 10 ^ 58]) (ev_cell (k := 3) (ev_var rfl) ev_c hS) ev_c (el_lst (ea_cons ev_c (ea_cons (ev_op ev_c ev_c (rv_I ⟨by decide, by decide, by decide⟩)) ea_nil)) (by show 2 ≤ 100000; decide)) (cellA_nn _ _) (by decide) (by show 2 ≤ 64; decide) (fun x hx => by
      have t58 : (1000 : Int) ≤ 10 ^ 58 := by decide
      have t60 : (10 : Int) ^ 58 ≤ 10 ^ 60 := by decide
      simp only [List.mem_cons, List.not_mem_nil, or_false] at hx
      rcases hx with e | e <;> exact ⟨by omega, big_up (by omega) (by omega) (by decide)⟩)) fun v H7 e7 hp => ?_
    obtain ⟨fp, ds, rfl, hds, hD⟩ := hp
    obtain ⟨d0, ds, rfl, b0, hD⟩ := drawn_cons hD
    obtain ⟨d1, ds, rfl, b1, hD⟩ := drawn_cons hD
    obtain rfl := drawn_nil hD
    try dsimp only
    refine q_skip (et_notT (et_B (ev_faulty (el_lst (ea_cons (ev_var (i := 1) rfl) (ea_cons (ev_var (i := 2) rfl) (ea_cons (ev_var (i := 3) rfl) (ea_cons ev_c ea_nil)))) (by show 4 ≤ 100000; decide)) (ev_op (ev_var (i := 5) rfl) ev_c (rv_ixL (sq_of hds) rfl)) (ev_op (ev_var (i := 5) rfl) ev_c (rv_ixL (sq_of hds) rfl)) h0 hs k0 (by decide) b1.1))) fun H8 e8 => ?_
    try dsimp only
    have hf0 : flV h s kk 0 = (kk * (h - s), h) := rfl
    exact s_ret (v := .bl true) (ev_worth (p := kk * (h - s)) (q := h) ((er_floorK (l := 0) rfl (ev_var (i := 1) rfl) (ev_var (i := 2) rfl) (ev_var (i := 3) rfl) ev_c hh hs hk (by decide)).imp fun v G hv => by rw [hf0] at hv; exact hv) (ev_op (ev_var (i := 3) rfl) (ev_op (ev_var (i := 1) rfl) (ev_var (i := 2) rfl) rv_I0) (rv_I hmul)) (ev_var (i := 1) rfl) zm z400) fun H9 e9 => k H9
theorem all_mk {l : PySem.W.OpenLaw} {w : World} {K : PySem.W.Frag} {h : Heap} {mg : Str → Option Value} {fa : Addr} (X : K.In h) (G : h.Ns mainGlobals mg) (hfa : mg "law" = some (.ref fa))
    {od0 an0 : Option Addr} {sl0 : Array (Option Value)} {oc0 kV0 dc0 pm0 cd0 ct0 : Value} {f0 : Addr}
    {od1 an1 : Option Addr} {sl1 : Array (Option Value)} {oc1 kV1 dc1 pm1 cd1 ct1 : Value} {f1 : Addr}
    {od2 an2 : Option Addr} {sl2 : Array (Option Value)} {oc2 kV2 dc2 pm2 cd2 ct2 : Value} {f2 : Addr}
    {od3 an3 : Option Addr} {sl3 : Array (Option Value)} {oc3 kV3 dc3 pm3 cd3 ct3 : Value} {f3 : Addr}
    {df3 : Addr} {do3 : Value} {dd3 : Option Addr} {dn3 : Nat} {ds3 : Array (Option Value)} {dt3_0 : Tok}
    {od4 an4 : Option Addr} {sl4 : Array (Option Value)} {oc4 dc4 pm4 cd4 ct4 : Value} {f4 : Addr}
    {kd4 : Addr} {kt4_0 : Tok}
    {od5 an5 : Option Addr} {sl5 : Array (Option Value)} {oc5 kV5 dc5 pm5 cd5 ct5 : Value} {f5 : Addr}
    {od6 an6 : Option Addr} {sl6 : Array (Option Value)} {oc6 kV6 dc6 pm6 cd6 ct6 : Value} {f6 : Addr}
    {od7 an7 : Option Addr} {sl7 : Array (Option Value)} {oc7 kV7 dc7 pm7 cd7 ct7 : Value} {f7 : Addr}
    {od8 an8 : Option Addr} {sl8 : Array (Option Value)} {oc8 kV8 dc8 pm8 cd8 ct8 : Value} {f8 : Addr}
    {od9 an9 : Option Addr} {sl9 : Array (Option Value)} {oc9 kV9 dc9 pm9 cd9 ct9 : Value} {f9 : Addr}
    {od10 an10 : Option Addr} {sl10 : Array (Option Value)} {oc10 kV10 dc10 pm10 cd10 ct10 : Value} {f10 : Addr}
    {od11 an11 : Option Addr} {sl11 : Array (Option Value)} {oc11 kV11 dc11 pm11 cd11 ct11 : Value} {f11 : Addr}
    {od12 an12 : Option Addr} {sl12 : Array (Option Value)} {oc12 kV12 dc12 pm12 cd12 ct12 : Value} {f12 : Addr}
    {od13 an13 : Option Addr} {sl13 : Array (Option Value)} {oc13 kV13 dc13 pm13 cd13 ct13 : Value} {f13 : Addr}
    {od14 an14 : Option Addr} {sl14 : Array (Option Value)} {oc14 kV14 dc14 pm14 cd14 ct14 : Value} {f14 : Addr}
    {od15 an15 : Option Addr} {sl15 : Array (Option Value)} {oc15 kV15 dc15 pm15 cd15 ct15 : Value} {f15 : Addr}
    {od16 an16 : Option Addr} {sl16 : Array (Option Value)} {oc16 kV16 dc16 pm16 cd16 ct16 : Value} {f16 : Addr}
    {od17 an17 : Option Addr} {sl17 : Array (Option Value)} {oc17 kV17 dc17 pm17 cd17 ct17 : Value} {f17 : Addr}
    {od18 an18 : Option Addr} {sl18 : Array (Option Value)} {oc18 kV18 dc18 pm18 cd18 ct18 : Value} {f18 : Addr}
    {od19 an19 : Option Addr} {sl19 : Array (Option Value)} {oc19 kV19 dc19 pm19 cd19 ct19 : Value} {f19 : Addr}
    {od20 an20 : Option Addr} {sl20 : Array (Option Value)} {oc20 kV20 dc20 pm20 cd20 ct20 : Value} {f20 : Addr}
    {C_BadNumber : Addr} {C_TooMany : Addr} {C_WatchError : Addr} {C_ZeroUnder : Addr} {C_Ratio : Addr}
    {nm_BadNumber q_BadNumber : Str} {N_BadNumber : Addr} {bs_BadNumber : List Value} {sn_BadNumber : List Str} {sub_BadNumber : List Value} {ab_BadNumber : Bool} {col_BadNumber : Option Bool} {dd_BadNumber : Option Addr} {m0_BadNumber m1_BadNumber m2_BadNumber m3_BadNumber m5_BadNumber : Option Value}
    (g_BadNumber : PySem.W.nsIn K mainGlobals "BadNumber" = some (some (.ref C_BadNumber)))
    (g_TooMany : PySem.W.nsIn K mainGlobals "TooMany" = some (some (.ref C_TooMany)))
    (g_WatchError : PySem.W.nsIn K mainGlobals "WatchError" = some (some (.ref C_WatchError)))
    (g_ZeroUnder : PySem.W.nsIn K mainGlobals "ZeroUnder" = some (some (.ref C_ZeroUnder)))
    (g_Ratio : PySem.W.nsIn K mainGlobals "Ratio" = some (some (.ref C_Ratio)))
    (a0 : PySem.W.findIn K (.ref C_BadNumber) "__init__" = some (some (.ref f0)))
    (l0 : K.lookup f0 = some ⟨oc0, od0, .func (PySem.W.fnOf "__init__" "BadNumber.__init__" (defArgs s_BadNumber_init) (defBody s_BadNumber_init) (defScope s_BadNumber_init) .none kV0 dc0 pm0 an0 cd0 ct0), sl0⟩)
    (c0 : PySem.W.codeIn K cd0 "BadNumber.__init__" = true)
    (k0 : PySem.W.keepIn K (.ref f0) = true)
    (a1 : PySem.W.nsIn K mainGlobals "check_number" = some (some (.ref f1)))
    (l1 : K.lookup f1 = some ⟨oc1, od1, .func (PySem.W.fnOf "check_number" "check_number" (defArgs s_check_number) (defBody s_check_number) (defScope s_check_number) .none kV1 dc1 pm1 an1 cd1 ct1), sl1⟩)
    (c1 : PySem.W.codeIn K cd1 "check_number" = true)
    (k1 : PySem.W.keepIn K (.ref f1) = true)
    (a2 : PySem.W.nsIn K mainGlobals "check_looks" = some (some (.ref f2)))
    (l2 : K.lookup f2 = some ⟨oc2, od2, .func (PySem.W.fnOf "check_looks" "check_looks" (defArgs s_check_looks) (defBody s_check_looks) (defScope s_check_looks) .none kV2 dc2 pm2 an2 cd2 ct2), sl2⟩)
    (c2 : PySem.W.codeIn K cd2 "check_looks" = true)
    (k2 : PySem.W.keepIn K (.ref f2) = true)
    (a3 : PySem.W.findIn K (.ref C_Ratio) "__init__" = some (some (.ref f3)))
    (l3 : K.lookup f3 = some ⟨oc3, od3, .func (PySem.W.fnOf "__init__" "Ratio.__init__" (defArgs s_Ratio_init) (defBody s_Ratio_init) (defScope s_Ratio_init) (.ref df3) kV3 dc3 pm3 an3 cd3 ct3), sl3⟩)
    (dl3 : K.lookup df3 = some ⟨do3, dd3, .seq #[.int 1 dt3_0] dn3, ds3⟩)
    (c3 : PySem.W.codeIn K cd3 "Ratio.__init__" = true)
    (k3 : PySem.W.keepIn K (.ref f3) = true)
    (a4 : PySem.W.nsIn K mainGlobals "floor_bound" = some (some (.ref f4)))
    (l4 : K.lookup f4 = some ⟨oc4, od4, .func (PySem.W.fnOf "floor_bound" "floor_bound" (defArgs s_floor_bound) (defBody s_floor_bound) (defScope s_floor_bound) .none (.ref kd4) dc4 pm4 an4 cd4 ct4), sl4⟩)
    (dk4_0 : PySem.W.nsIn K kd4 "looks" = some (some (.int 0 kt4_0)))
    (c4 : PySem.W.codeIn K cd4 "floor_bound" = true)
    (k4 : PySem.W.keepIn K (.ref f4) = true)
    (a5 : PySem.W.nsIn K mainGlobals "_law_cell" = some (some (.ref f5)))
    (l5 : K.lookup f5 = some ⟨oc5, od5, .func (PySem.W.fnOf "_law_cell" "_law_cell" (defArgs s_u_law_cell) (defBody s_u_law_cell) (defScope s_u_law_cell) .none kV5 dc5 pm5 an5 cd5 ct5), sl5⟩)
    (c5 : PySem.W.codeIn K cd5 "_law_cell" = true)
    (k5 : PySem.W.keepIn K (.ref f5) = true)
    (a6 : PySem.W.nsIn K mainGlobals "_law_draws" = some (some (.ref f6)))
    (l6 : K.lookup f6 = some ⟨oc6, od6, .func (PySem.W.fnOf "_law_draws" "_law_draws" (defArgs s_u_law_draws) (defBody s_u_law_draws) (defScope s_u_law_draws) .none kV6 dc6 pm6 an6 cd6 ct6), sl6⟩)
    (c6 : PySem.W.codeIn K cd6 "_law_draws" = true)
    (k6 : PySem.W.keepIn K (.ref f6) = true)
    (a7 : PySem.W.nsIn K mainGlobals "_law_gcd" = some (some (.ref f7)))
    (l7 : K.lookup f7 = some ⟨oc7, od7, .func (PySem.W.fnOf "_law_gcd" "_law_gcd" (defArgs s_u_law_gcd) (defBody s_u_law_gcd) (defScope s_u_law_gcd) .none kV7 dc7 pm7 an7 cd7 ct7), sl7⟩)
    (c7 : PySem.W.codeIn K cd7 "_law_gcd" = true)
    (k7 : PySem.W.keepIn K (.ref f7) = true)
    (a8 : PySem.W.nsIn K mainGlobals "_law_is_int" = some (some (.ref f8)))
    (l8 : K.lookup f8 = some ⟨oc8, od8, .func (PySem.W.fnOf "_law_is_int" "_law_is_int" (defArgs s_u_law_is_int) (defBody s_u_law_is_int) (defScope s_u_law_is_int) .none kV8 dc8 pm8 an8 cd8 ct8), sl8⟩)
    (c8 : PySem.W.codeIn K cd8 "_law_is_int" = true)
    (k8 : PySem.W.keepIn K (.ref f8) = true)
    (a9 : PySem.W.nsIn K mainGlobals "_law_is_ratio" = some (some (.ref f9)))
    (l9 : K.lookup f9 = some ⟨oc9, od9, .func (PySem.W.fnOf "_law_is_ratio" "_law_is_ratio" (defArgs s_u_law_is_ratio) (defBody s_u_law_is_ratio) (defScope s_u_law_is_ratio) .none kV9 dc9 pm9 an9 cd9 ct9), sl9⟩)
    (c9 : PySem.W.codeIn K cd9 "_law_is_ratio" = true)
    (k9 : PySem.W.keepIn K (.ref f9) = true)
    (a10 : PySem.W.nsIn K mainGlobals "_law_worth" = some (some (.ref f10)))
    (l10 : K.lookup f10 = some ⟨oc10, od10, .func (PySem.W.fnOf "_law_worth" "_law_worth" (defArgs s_u_law_worth) (defBody s_u_law_worth) (defScope s_u_law_worth) .none kV10 dc10 pm10 an10 cd10 ct10), sl10⟩)
    (c10 : PySem.W.codeIn K cd10 "_law_worth" = true)
    (k10 : PySem.W.keepIn K (.ref f10) = true)
    (a11 : PySem.W.nsIn K mainGlobals "_law_same" = some (some (.ref f11)))
    (l11 : K.lookup f11 = some ⟨oc11, od11, .func (PySem.W.fnOf "_law_same" "_law_same" (defArgs s_u_law_same) (defBody s_u_law_same) (defScope s_u_law_same) .none kV11 dc11 pm11 an11 cd11 ct11), sl11⟩)
    (c11 : PySem.W.codeIn K cd11 "_law_same" = true)
    (k11 : PySem.W.keepIn K (.ref f11) = true)
    (a12 : PySem.W.nsIn K mainGlobals "_law_long" = some (some (.ref f12)))
    (l12 : K.lookup f12 = some ⟨oc12, od12, .func (PySem.W.fnOf "_law_long" "_law_long" (defArgs s_u_law_long) (defBody s_u_law_long) (defScope s_u_law_long) .none kV12 dc12 pm12 an12 cd12 ct12), sl12⟩)
    (c12 : PySem.W.codeIn K cd12 "_law_long" = true)
    (k12 : PySem.W.keepIn K (.ref f12) = true)
    (a13 : PySem.W.nsIn K mainGlobals "_law_hours" = some (some (.ref f13)))
    (l13 : K.lookup f13 = some ⟨oc13, od13, .func (PySem.W.fnOf "_law_hours" "_law_hours" (defArgs s_u_law_hours) (defBody s_u_law_hours) (defScope s_u_law_hours) .none kV13 dc13 pm13 an13 cd13 ct13), sl13⟩)
    (c13 : PySem.W.codeIn K cd13 "_law_hours" = true)
    (k13 : PySem.W.keepIn K (.ref f13) = true)
    (a14 : PySem.W.nsIn K mainGlobals "_law_size" = some (some (.ref f14)))
    (l14 : K.lookup f14 = some ⟨oc14, od14, .func (PySem.W.fnOf "_law_size" "_law_size" (defArgs s_u_law_size) (defBody s_u_law_size) (defScope s_u_law_size) .none kV14 dc14 pm14 an14 cd14 ct14), sl14⟩)
    (c14 : PySem.W.codeIn K cd14 "_law_size" = true)
    (k14 : PySem.W.keepIn K (.ref f14) = true)
    (a15 : PySem.W.nsIn K mainGlobals "_law_stake" = some (some (.ref f15)))
    (l15 : K.lookup f15 = some ⟨oc15, od15, .func (PySem.W.fnOf "_law_stake" "_law_stake" (defArgs s_u_law_stake) (defBody s_u_law_stake) (defScope s_u_law_stake) .none kV15 dc15 pm15 an15 cd15 ct15), sl15⟩)
    (c15 : PySem.W.codeIn K cd15 "_law_stake" = true)
    (k15 : PySem.W.keepIn K (.ref f15) = true)
    (a16 : PySem.W.nsIn K mainGlobals "_law_floor" = some (some (.ref f16)))
    (l16 : K.lookup f16 = some ⟨oc16, od16, .func (PySem.W.fnOf "_law_floor" "_law_floor" (defArgs s_u_law_floor) (defBody s_u_law_floor) (defScope s_u_law_floor) .none kV16 dc16 pm16 an16 cd16 ct16), sl16⟩)
    (c16 : PySem.W.codeIn K cd16 "_law_floor" = true)
    (k16 : PySem.W.keepIn K (.ref f16) = true)
    (a17 : PySem.W.nsIn K mainGlobals "_law_refused" = some (some (.ref f17)))
    (l17 : K.lookup f17 = some ⟨oc17, od17, .func (PySem.W.fnOf "_law_refused" "_law_refused" (defArgs s_u_law_refused) (defBody s_u_law_refused) (defScope s_u_law_refused) .none kV17 dc17 pm17 an17 cd17 ct17), sl17⟩)
    (c17 : PySem.W.codeIn K cd17 "_law_refused" = true)
    (k17 : PySem.W.keepIn K (.ref f17) = true)
    (a18 : PySem.W.nsIn K mainGlobals "_law_refused_by_base" = some (some (.ref f18)))
    (l18 : K.lookup f18 = some ⟨oc18, od18, .func (PySem.W.fnOf "_law_refused_by_base" "_law_refused_by_base" (defArgs s_u_law_refused_by_base) (defBody s_u_law_refused_by_base) (defScope s_u_law_refused_by_base) .none kV18 dc18 pm18 an18 cd18 ct18), sl18⟩)
    (c18 : PySem.W.codeIn K cd18 "_law_refused_by_base" = true)
    (k18 : PySem.W.keepIn K (.ref f18) = true)
    (a19 : PySem.W.nsIn K mainGlobals "_law_faulty" = some (some (.ref f19)))
    (l19 : K.lookup f19 = some ⟨oc19, od19, .func (PySem.W.fnOf "_law_faulty" "_law_faulty" (defArgs s_u_law_faulty) (defBody s_u_law_faulty) (defScope s_u_law_faulty) .none kV19 dc19 pm19 an19 cd19 ct19), sl19⟩)
    (c19 : PySem.W.codeIn K cd19 "_law_faulty" = true)
    (k19 : PySem.W.keepIn K (.ref f19) = true)
    (a20 : PySem.W.nsIn K mainGlobals "law" = some (some (.ref f20)))
    (l20 : K.lookup f20 = some ⟨oc20, od20, .func (PySem.W.fnOf "law" "law" (defArgs s_law) (defBody s_law) (defScope s_law) .none kV20 dc20 pm20 an20 cd20 ct20), sl20⟩)
    (c20 : PySem.W.codeIn K cd20 "law" = true)
    (k20 : PySem.W.keepIn K (.ref f20) = true)
    (z_abs : PySem.W.nsIn K mainGlobals "abs" = some none)
    (z_len : PySem.W.nsIn K mainGlobals "len" = some none)
    (z_int : PySem.W.nsIn K mainGlobals "int" = some none)
    (z_bool : PySem.W.nsIn K mainGlobals "bool" = some none)
    (z_str : PySem.W.nsIn K mainGlobals "str" = some none)
    (z_list : PySem.W.nsIn K mainGlobals "list" = some none)
    (z_tuple : PySem.W.nsIn K mainGlobals "tuple" = some none)
    (z_isinstance : PySem.W.nsIn K mainGlobals "isinstance" = some none)
    (z_range : PySem.W.nsIn K mainGlobals "range" = some none)
    (z_ValueError : PySem.W.nsIn K mainGlobals "ValueError" = some none)
    (gG : PySem.W.nsIn K mainGlobals "gcd" = some (some (.builtin "math.gcd")))
    (exC_BadNumber : PySem.W.subIn K (.ref C_BadNumber) (.type "BaseException") = some true)
    (hdC_BadNumber : PySem.W.hasDictIn K C_BadNumber = true)
    (tyC_BadNumber : PySem.W.typeIn K (.ref C_BadNumber) = some (.type "type"))
    (meC_BadNumber : PySem.W.subIn K (.ref C_BadNumber) (.ref C_BadNumber) = some true)
    (xL_BadNumber : K.lookup C_BadNumber = some (excClassObj nm_BadNumber q_BadNumber C_BadNumber N_BadNumber bs_BadNumber [.ref C_WatchError, .type "ValueError", .type "Exception", .type "BaseException", .type "object"] true sn_BadNumber sub_BadNumber ab_BadNumber col_BadNumber dd_BadNumber m0_BadNumber m1_BadNumber m2_BadNumber m3_BadNumber m5_BadNumber "ValueError.__new__"))
    (sa_BadNumber : PySem.W.findIn K (.ref C_BadNumber) "__setattr__" = some (some (.builtin "object.__setattr__")))
    (kC_BadNumber : PySem.W.keepIn K (.ref C_BadNumber) = true)
    (ti_BadNumber : PySem.W.typeIn K (.ref f0) = some (.type "function"))
    (ga_BadNumber : PySem.W.findIn K (.ref C_BadNumber) "__getattribute__" = some (some (.builtin "BaseException.__getattribute__")))
    (gg_BadNumber : PySem.W.findIn K (.ref C_BadNumber) "__getattr__" = some none)
    (ha_BadNumber : PySem.W.findIn K (.ref C_BadNumber) "__class__" = some (some (.builtin "object.__class__")))
    (hn_ : PySem.W.specialIn K (.builtin "object.__class__") "__get__" = some (some (.builtin "getset_descriptor.__get__")))
    (ht_ : PySem.W.takesIn K (.builtin "object.__class__") = some true)
    (hm_BadNumber : PySem.W.mroIn K C_BadNumber (.type "object") = some true)
    (nf_BadNumber_name : PySem.W.findIn K (.ref C_BadNumber) "name" = some none)
    (nf_BadNumber_value : PySem.W.findIn K (.ref C_BadNumber) "value" = some none)
    (exC_ZeroUnder : PySem.W.subIn K (.ref C_ZeroUnder) (.type "BaseException") = some true)
    (hdC_ZeroUnder : PySem.W.hasDictIn K C_ZeroUnder = true)
    (tyC_ZeroUnder : PySem.W.typeIn K (.ref C_ZeroUnder) = some (.type "type"))
    (meC_ZeroUnder : PySem.W.subIn K (.ref C_ZeroUnder) (.ref C_ZeroUnder) = some true)
    (xP_ZeroUnder : PySem.W.excIn K C_ZeroUnder [.type "ValueError", .type "Exception", .type "BaseException", .type "object"] "ValueError.__new__" = true)
    (kP_ZeroUnder : PySem.W.keepIn K (.ref C_ZeroUnder) = true)
    (ga_ZeroUnder : PySem.W.findIn K (.ref C_ZeroUnder) "__getattribute__" = some (some (.builtin "BaseException.__getattribute__")))
    (gg_ZeroUnder : PySem.W.findIn K (.ref C_ZeroUnder) "__getattr__" = some none)
    (ha_ZeroUnder : PySem.W.findIn K (.ref C_ZeroUnder) "__class__" = some (some (.builtin "object.__class__")))
    (hm_ZeroUnder : PySem.W.mroIn K C_ZeroUnder (.type "object") = some true)
    (exC_WatchError : PySem.W.subIn K (.ref C_WatchError) (.type "BaseException") = some true)
    (hdC_WatchError : PySem.W.hasDictIn K C_WatchError = true)
    (tyC_WatchError : PySem.W.typeIn K (.ref C_WatchError) = some (.type "type"))
    (meC_WatchError : PySem.W.subIn K (.ref C_WatchError) (.ref C_WatchError) = some true)
    (sub_BadNumber_WatchError : PySem.W.subIn K (.ref C_BadNumber) (.ref C_WatchError) = some true)
    (sub_BadNumber_ValueError : PySem.W.subIn K (.ref C_BadNumber) (.type "ValueError") = some true)
    (exC_TooMany : PySem.W.subIn K (.ref C_TooMany) (.type "BaseException") = some true)
    (hdC_TooMany : PySem.W.hasDictIn K C_TooMany = true)
    (tyC_TooMany : PySem.W.typeIn K (.ref C_TooMany) = some (.type "type"))
    (meC_TooMany : PySem.W.subIn K (.ref C_TooMany) (.ref C_TooMany) = some true)
    (sub_BadNumber_TooMany : PySem.W.subIn K (.ref C_BadNumber) (.ref C_TooMany) = some false)
    (pg_Ratio : PySem.W.plainGet K C_Ratio Str.empty = true)
    (hd_Ratio : PySem.W.hasDictIn K C_Ratio = true)
    (po_Ratio : PySem.W.plainOver K C_Ratio = true)
    (sa_Ratio : PySem.W.findIn K (.ref C_Ratio) "__setattr__" = some (some (.builtin "object.__setattr__")))
    (mk_Ratio : PySem.W.makesIn K C_Ratio = true)
    (kc_Ratio : PySem.W.keepIn K (.ref C_Ratio) = true)
    (if_3 : PySem.W.isFn K (.ref f3) = true)
    (na_Ratio_top : PySem.W.findIn K (.ref C_Ratio) "top" = some none)
    (na_Ratio_under : PySem.W.findIn K (.ref C_Ratio) "under" = some none)
    (ha_Ratio : PySem.W.findIn K (.ref C_Ratio) "__class__" = some (some (.builtin "object.__class__")))
    (hm_Ratio : PySem.W.mroIn K C_Ratio (.type "object") = some true)
    : ∃ fd : FuncData, (∀ (s : Shared) (v : Value), BindsTo s fd ⟨[v], []⟩ [("script", v)]) ∧ ∀ base : Heap, K.In base → base.Ns mainGlobals mg → FnOk l.prog w K mg base CX0 13 fa fd ["script"] ((spLaw K)) := by
  have e := hfa.symm.trans (PySem.W.mg_of X G a20)
  cases e
  let A : Ads := {
    f_BadNumber_init := f0,
    d_BadNumber_init := PySem.W.fnOf "__init__" "BadNumber.__init__" (defArgs s_BadNumber_init) (defBody s_BadNumber_init) (defScope s_BadNumber_init) .none kV0 dc0 pm0 an0 cd0 ct0,
    f_check_number := f1,
    d_check_number := PySem.W.fnOf "check_number" "check_number" (defArgs s_check_number) (defBody s_check_number) (defScope s_check_number) .none kV1 dc1 pm1 an1 cd1 ct1,
    f_check_looks := f2,
    d_check_looks := PySem.W.fnOf "check_looks" "check_looks" (defArgs s_check_looks) (defBody s_check_looks) (defScope s_check_looks) .none kV2 dc2 pm2 an2 cd2 ct2,
    f_Ratio_init := f3,
    d_Ratio_init := PySem.W.fnOf "__init__" "Ratio.__init__" (defArgs s_Ratio_init) (defBody s_Ratio_init) (defScope s_Ratio_init) (.ref df3) kV3 dc3 pm3 an3 cd3 ct3,
    f_floor_bound := f4,
    d_floor_bound := PySem.W.fnOf "floor_bound" "floor_bound" (defArgs s_floor_bound) (defBody s_floor_bound) (defScope s_floor_bound) .none (.ref kd4) dc4 pm4 an4 cd4 ct4,
    f_u_law_cell := f5,
    d_u_law_cell := PySem.W.fnOf "_law_cell" "_law_cell" (defArgs s_u_law_cell) (defBody s_u_law_cell) (defScope s_u_law_cell) .none kV5 dc5 pm5 an5 cd5 ct5,
    f_u_law_draws := f6,
    d_u_law_draws := PySem.W.fnOf "_law_draws" "_law_draws" (defArgs s_u_law_draws) (defBody s_u_law_draws) (defScope s_u_law_draws) .none kV6 dc6 pm6 an6 cd6 ct6,
    f_u_law_gcd := f7,
    d_u_law_gcd := PySem.W.fnOf "_law_gcd" "_law_gcd" (defArgs s_u_law_gcd) (defBody s_u_law_gcd) (defScope s_u_law_gcd) .none kV7 dc7 pm7 an7 cd7 ct7,
    f_u_law_is_int := f8,
    d_u_law_is_int := PySem.W.fnOf "_law_is_int" "_law_is_int" (defArgs s_u_law_is_int) (defBody s_u_law_is_int) (defScope s_u_law_is_int) .none kV8 dc8 pm8 an8 cd8 ct8,
    f_u_law_is_ratio := f9,
    d_u_law_is_ratio := PySem.W.fnOf "_law_is_ratio" "_law_is_ratio" (defArgs s_u_law_is_ratio) (defBody s_u_law_is_ratio) (defScope s_u_law_is_ratio) .none kV9 dc9 pm9 an9 cd9 ct9,
    f_u_law_worth := f10,
    d_u_law_worth := PySem.W.fnOf "_law_worth" "_law_worth" (defArgs s_u_law_worth) (defBody s_u_law_worth) (defScope s_u_law_worth) .none kV10 dc10 pm10 an10 cd10 ct10,
    f_u_law_same := f11,
    d_u_law_same := PySem.W.fnOf "_law_same" "_law_same" (defArgs s_u_law_same) (defBody s_u_law_same) (defScope s_u_law_same) .none kV11 dc11 pm11 an11 cd11 ct11,
    f_u_law_long := f12,
    d_u_law_long := PySem.W.fnOf "_law_long" "_law_long" (defArgs s_u_law_long) (defBody s_u_law_long) (defScope s_u_law_long) .none kV12 dc12 pm12 an12 cd12 ct12,
    f_u_law_hours := f13,
    d_u_law_hours := PySem.W.fnOf "_law_hours" "_law_hours" (defArgs s_u_law_hours) (defBody s_u_law_hours) (defScope s_u_law_hours) .none kV13 dc13 pm13 an13 cd13 ct13,
    f_u_law_size := f14,
    d_u_law_size := PySem.W.fnOf "_law_size" "_law_size" (defArgs s_u_law_size) (defBody s_u_law_size) (defScope s_u_law_size) .none kV14 dc14 pm14 an14 cd14 ct14,
    f_u_law_stake := f15,
    d_u_law_stake := PySem.W.fnOf "_law_stake" "_law_stake" (defArgs s_u_law_stake) (defBody s_u_law_stake) (defScope s_u_law_stake) .none kV15 dc15 pm15 an15 cd15 ct15,
    f_u_law_floor := f16,
    d_u_law_floor := PySem.W.fnOf "_law_floor" "_law_floor" (defArgs s_u_law_floor) (defBody s_u_law_floor) (defScope s_u_law_floor) .none kV16 dc16 pm16 an16 cd16 ct16,
    f_u_law_refused := f17,
    d_u_law_refused := PySem.W.fnOf "_law_refused" "_law_refused" (defArgs s_u_law_refused) (defBody s_u_law_refused) (defScope s_u_law_refused) .none kV17 dc17 pm17 an17 cd17 ct17,
    f_u_law_refused_by_base := f18,
    d_u_law_refused_by_base := PySem.W.fnOf "_law_refused_by_base" "_law_refused_by_base" (defArgs s_u_law_refused_by_base) (defBody s_u_law_refused_by_base) (defScope s_u_law_refused_by_base) .none kV18 dc18 pm18 an18 cd18 ct18,
    f_u_law_faulty := f19,
    d_u_law_faulty := PySem.W.fnOf "_law_faulty" "_law_faulty" (defArgs s_u_law_faulty) (defBody s_u_law_faulty) (defScope s_u_law_faulty) .none kV19 dc19 pm19 an19 cd19 ct19,
    f_law := fa,
    d_law := PySem.W.fnOf "law" "law" (defArgs s_law) (defBody s_law) (defScope s_law) .none kV20 dc20 pm20 an20 cd20 ct20,
    C_BadNumber := C_BadNumber,
    C_TooMany := C_TooMany,
    C_WatchError := C_WatchError,
    C_ZeroUnder := C_ZeroUnder,
    C_Ratio := C_Ratio }
  have T : Txt K mg A := {
    F_BadNumber_init := fun_mk (st := s_BadNumber_init) l0 c0 k0,
    F_check_number := fun_mk (st := s_check_number) l1 c1 k1,
    g_check_number := PySem.W.mg_of X G a1,
    k_check_number := k1,
    F_check_looks := fun_mk (st := s_check_looks) l2 c2 k2,
    g_check_looks := PySem.W.mg_of X G a2,
    k_check_looks := k2,
    F_Ratio_init := ⟨⟨_, _, _, _, _, _, _, _, _, _, rfl, l3, c3, .inr ⟨by simp, df3, _, _, _, rfl, dl3, rfl, .cons ⟨_, rfl⟩ (.nil)⟩, .inl rfl⟩, k3⟩,
    F_floor_bound := ⟨⟨_, _, _, _, _, _, _, _, _, _, rfl, l4, c4, .inl ⟨rfl, rfl⟩, .inr ⟨kd4, rfl, fun q hq => by
      simp only [List.mem_cons, List.not_mem_nil, or_false] at hq
      obtain rfl := hq
      exact ⟨_, dk4_0, ⟨_, rfl⟩⟩⟩⟩, k4⟩,
    g_floor_bound := PySem.W.mg_of X G a4,
    k_floor_bound := k4,
    F_u_law_cell := fun_mk (st := s_u_law_cell) l5 c5 k5,
    g_u_law_cell := PySem.W.mg_of X G a5,
    k_u_law_cell := k5,
    F_u_law_draws := fun_mk (st := s_u_law_draws) l6 c6 k6,
    g_u_law_draws := PySem.W.mg_of X G a6,
    k_u_law_draws := k6,
    F_u_law_gcd := fun_mk (st := s_u_law_gcd) l7 c7 k7,
    g_u_law_gcd := PySem.W.mg_of X G a7,
    k_u_law_gcd := k7,
    F_u_law_is_int := fun_mk (st := s_u_law_is_int) l8 c8 k8,
    g_u_law_is_int := PySem.W.mg_of X G a8,
    k_u_law_is_int := k8,
    F_u_law_is_ratio := fun_mk (st := s_u_law_is_ratio) l9 c9 k9,
    g_u_law_is_ratio := PySem.W.mg_of X G a9,
    k_u_law_is_ratio := k9,
    F_u_law_worth := fun_mk (st := s_u_law_worth) l10 c10 k10,
    g_u_law_worth := PySem.W.mg_of X G a10,
    k_u_law_worth := k10,
    F_u_law_same := fun_mk (st := s_u_law_same) l11 c11 k11,
    g_u_law_same := PySem.W.mg_of X G a11,
    k_u_law_same := k11,
    F_u_law_long := fun_mk (st := s_u_law_long) l12 c12 k12,
    g_u_law_long := PySem.W.mg_of X G a12,
    k_u_law_long := k12,
    F_u_law_hours := fun_mk (st := s_u_law_hours) l13 c13 k13,
    g_u_law_hours := PySem.W.mg_of X G a13,
    k_u_law_hours := k13,
    F_u_law_size := fun_mk (st := s_u_law_size) l14 c14 k14,
    g_u_law_size := PySem.W.mg_of X G a14,
    k_u_law_size := k14,
    F_u_law_stake := fun_mk (st := s_u_law_stake) l15 c15 k15,
    g_u_law_stake := PySem.W.mg_of X G a15,
    k_u_law_stake := k15,
    F_u_law_floor := fun_mk (st := s_u_law_floor) l16 c16 k16,
    g_u_law_floor := PySem.W.mg_of X G a16,
    k_u_law_floor := k16,
    F_u_law_refused := fun_mk (st := s_u_law_refused) l17 c17 k17,
    g_u_law_refused := PySem.W.mg_of X G a17,
    k_u_law_refused := k17,
    F_u_law_refused_by_base := fun_mk (st := s_u_law_refused_by_base) l18 c18 k18,
    g_u_law_refused_by_base := PySem.W.mg_of X G a18,
    k_u_law_refused_by_base := k18,
    F_u_law_faulty := fun_mk (st := s_u_law_faulty) l19 c19 k19,
    g_u_law_faulty := PySem.W.mg_of X G a19,
    k_u_law_faulty := k19,
    F_law := fun_mk (st := s_law) l20 c20 k20,
    g_law := hfa,
    k_law := k20,
    z_abs := PySem.W.mg_none_of X G z_abs,
    z_len := PySem.W.mg_none_of X G z_len,
    z_int := PySem.W.mg_none_of X G z_int,
    z_bool := PySem.W.mg_none_of X G z_bool,
    z_str := PySem.W.mg_none_of X G z_str,
    z_list := PySem.W.mg_none_of X G z_list,
    z_tuple := PySem.W.mg_none_of X G z_tuple,
    z_isinstance := PySem.W.mg_none_of X G z_isinstance,
    z_range := PySem.W.mg_none_of X G z_range,
    z_ValueError := PySem.W.mg_none_of X G z_ValueError,
    g_BadNumber := PySem.W.mg_of X G g_BadNumber,
    g_TooMany := PySem.W.mg_of X G g_TooMany,
    g_WatchError := PySem.W.mg_of X G g_WatchError,
    g_ZeroUnder := PySem.W.mg_of X G g_ZeroUnder,
    g_Ratio := PySem.W.mg_of X G g_Ratio,
    g_gcd := PySem.W.mg_of X G gG,
    ox_BadNumber := ⟨⟨nm_BadNumber, q_BadNumber, N_BadNumber, bs_BadNumber, _, sn_BadNumber, sub_BadNumber, ab_BadNumber, col_BadNumber, dd_BadNumber, m0_BadNumber, m1_BadNumber, m2_BadNumber, m3_BadNumber, m5_BadNumber, xL_BadNumber, rfl⟩, sa_BadNumber, exC_BadNumber, tyC_BadNumber, kC_BadNumber⟩,
    ni_BadNumber := a0,
    ti_BadNumber := ti_BadNumber,
    nf_BadNumber_name := nf_BadNumber_name,
    nf_BadNumber_value := nf_BadNumber_value,
    xf_BadNumber := ⟨ga_BadNumber, gg_BadNumber, exC_BadNumber, hdC_BadNumber⟩,
    ex_BadNumber := ⟨ga_BadNumber, gg_BadNumber, exC_BadNumber, hdC_BadNumber, ha_BadNumber, hn_, ht_, hm_BadNumber⟩,
    xP_ZeroUnder := xP_ZeroUnder,
    kP_ZeroUnder := kP_ZeroUnder,
    bP_ZeroUnder := exC_ZeroUnder,
    tP_ZeroUnder := tyC_ZeroUnder,
    ex_ZeroUnder := ⟨ga_ZeroUnder, gg_ZeroUnder, exC_ZeroUnder, hdC_ZeroUnder, ha_ZeroUnder, hn_, ht_, hm_ZeroUnder⟩,
    xm_BadNumber_WatchError := PySem.W.exm_ref exC_WatchError hdC_WatchError tyC_WatchError sub_BadNumber_WatchError,
    xm_BadNumber_BadNumber := PySem.W.exm_ref exC_BadNumber hdC_BadNumber tyC_BadNumber meC_BadNumber,
    kit_BadNumber_ValueError := kit_bi (by decide +kernel) sub_BadNumber_ValueError,
    kit_BadNumber_TooMany := kit_no hdC_TooMany tyC_TooMany meC_TooMany sub_BadNumber_TooMany,
    cl_Ratio := ⟨pg_Ratio, hd_Ratio, po_Ratio, sa_Ratio⟩,
    mk_Ratio := ⟨mk_Ratio, a3, if_3, kc_Ratio⟩,
    na_Ratio_top := na_Ratio_top,
    na_Ratio_under := na_Ratio_under,
    ty_Ratio := fun H a dx fs e => .base (.ins e ⟨pg_Ratio, hd_Ratio, po_Ratio, sa_Ratio⟩ ha_Ratio hn_ ht_ hm_Ratio) }
  exact ⟨A.d_law, fun s v => .of_eq rfl, fun base _ _ => ok_law T⟩
end
theorem walk {l : PySem.W.OpenLaw} {q : Program} {loose : List Str} {XP : (Str → Option Value) → Heap → Prop} {YP : World → Heap → Prop} {d : DefRec} {K : Params → PySem.W.Frag} (hn : l.most = some 63) (hdf : d.params.defaults = [])
    (hY : ∀ (w : World) (h : Heap), YP w h → (K w.params).In h)
    (F : ∀ (w : World) (mg : Str → Option Value) (fa : Addr) (h : Heap), (K w.params).In h → h.Ns mainGlobals mg → mg d.name = some (.ref fa) →
      ∃ fd : FuncData, (∀ (s : Shared) (u : Value), BindsTo s fd ⟨[u], []⟩ [("script", u)]) ∧ ∀ base : Heap, (K w.params).In base → base.Ns mainGlobals mg → FnOk l.prog w (K w.params) mg base CX0 13 fa fd ["script"] ((spLaw) (K w.params))) :
    PySem.W.WalkO q loose XP YP l.row.toRowW d [] (fun f vs => PySem.call f vs) :=
  L2.walk_of (n := 63) (k := 13) (x := "script") (CX := fun _ => CX0) (sp := fun w => (spLaw) (K w.params)) hn (by decide) hdf ⟨rfl, by decide, by decide⟩ hY F (fun _ _ a ns hl _ hS => ⟨a, ns, rfl, hS, hl, fun _ => rfl⟩) fun _ _ _ _ _ z => z
end Pf
open PySem PySem.W PyProof.Rows
set_option maxRecDepth 100000 in
set_option maxHeartbeats 0 in
theorem PySem.Challenge.cw_watchbeats_k68_floor_told_holds : PySem.Challenge.rw_watchbeats_k68_floor_told.Holds := by
  w_on; o_law; k_head; (case hw => w_witness2)
  k_fill
  refine Pf.walk (l := PySem.Challenge.rw_watchbeats_k68_floor_told) rfl rfl (fun w h Y => PySem.W.kIn_of Y) ?F
  case F =>
    intro w mg fa h KX G hmg
    refine' Pf.all_mk KX G hmg ?g_BadNumber ?g_TooMany ?g_WatchError ?g_ZeroUnder ?g_Ratio ?a0 ?l0 ?c0 ?k0 ?a1 ?l1 ?c1 ?k1 ?a2 ?l2 ?c2 ?k2 ?a3 ?l3 ?dl3 ?c3 ?k3 ?a4 ?l4 ?dk4_0 ?c4 ?k4 ?a5 ?l5 ?c5 ?k5 ?a6 ?l6 ?c6 ?k6 ?a7 ?l7 ?c7 ?k7 ?a8 ?l8 ?c8 ?k8 ?a9 ?l9 ?c9 ?k9 ?a10 ?l10 ?c10 ?k10 ?a11 ?l11 ?c11 ?k11 ?a12 ?l12 ?c12 ?k12 ?a13 ?l13 ?c13 ?k13 ?a14 ?l14 ?c14 ?k14 ?a15 ?l15 ?c15 ?k15 ?a16 ?l16 ?c16 ?k16 ?a17 ?l17 ?c17 ?k17 ?a18 ?l18 ?c18 ?k18 ?a19 ?l19 ?c19 ?k19 ?a20 ?l20 ?c20 ?k20 ?z_abs ?z_len ?z_int ?z_bool ?z_str ?z_list ?z_tuple ?z_isinstance ?z_range ?z_ValueError ?gG ?exC_BadNumber ?hdC_BadNumber ?tyC_BadNumber ?meC_BadNumber ?xL_BadNumber ?sa_BadNumber ?kC_BadNumber ?ti_BadNumber ?ga_BadNumber ?gg_BadNumber ?ha_BadNumber ?hn_ ?ht_ ?hm_BadNumber ?nf_BadNumber_name ?nf_BadNumber_value ?exC_ZeroUnder ?hdC_ZeroUnder ?tyC_ZeroUnder ?meC_ZeroUnder ?xP_ZeroUnder ?kP_ZeroUnder ?ga_ZeroUnder ?gg_ZeroUnder ?ha_ZeroUnder ?hm_ZeroUnder ?exC_WatchError ?hdC_WatchError ?tyC_WatchError ?meC_WatchError ?sub_BadNumber_WatchError ?sub_BadNumber_ValueError ?exC_TooMany ?hdC_TooMany ?tyC_TooMany ?meC_TooMany ?sub_BadNumber_TooMany ?pg_Ratio ?hd_Ratio ?po_Ratio ?sa_Ratio ?mk_Ratio ?kc_Ratio ?if_3 ?na_Ratio_top ?na_Ratio_under ?ha_Ratio ?hm_Ratio
    (case g_BadNumber => k_is)
    (case g_TooMany => k_is)
    (case g_WatchError => k_is)
    (case g_ZeroUnder => k_is)
    (case g_Ratio => k_is)
    (case a0 => k_is)
    (case l0 => k_is)
    (case c0 => k_is)
    (case k0 => k_is)
    (case a1 => k_is)
    (case l1 => k_is)
    (case c1 => k_is)
    (case k1 => k_is)
    (case a2 => k_is)
    (case l2 => k_is)
    (case c2 => k_is)
    (case k2 => k_is)
    (case a3 => k_is)
    (case l3 => k_is)
    (case dl3 => k_is)
    (case c3 => k_is)
    (case k3 => k_is)
    (case a4 => k_is)
    (case l4 => k_is)
    (case dk4_0 => k_is)
    (case c4 => k_is)
    (case k4 => k_is)
    (case a5 => k_is)
    (case l5 => k_is)
    (case c5 => k_is)
    (case k5 => k_is)
    (case a6 => k_is)
    (case l6 => k_is)
    (case c6 => k_is)
    (case k6 => k_is)
    (case a7 => k_is)
    (case l7 => k_is)
    (case c7 => k_is)
    (case k7 => k_is)
    (case a8 => k_is)
    (case l8 => k_is)
    (case c8 => k_is)
    (case k8 => k_is)
    (case a9 => k_is)
    (case l9 => k_is)
    (case c9 => k_is)
    (case k9 => k_is)
    (case a10 => k_is)
    (case l10 => k_is)
    (case c10 => k_is)
    (case k10 => k_is)
    (case a11 => k_is)
    (case l11 => k_is)
    (case c11 => k_is)
    (case k11 => k_is)
    (case a12 => k_is)
    (case l12 => k_is)
    (case c12 => k_is)
    (case k12 => k_is)
    (case a13 => k_is)
    (case l13 => k_is)
    (case c13 => k_is)
    (case k13 => k_is)
    (case a14 => k_is)
    (case l14 => k_is)
    (case c14 => k_is)
    (case k14 => k_is)
    (case a15 => k_is)
    (case l15 => k_is)
    (case c15 => k_is)
    (case k15 => k_is)
    (case a16 => k_is)
    (case l16 => k_is)
    (case c16 => k_is)
    (case k16 => k_is)
    (case a17 => k_is)
    (case l17 => k_is)
    (case c17 => k_is)
    (case k17 => k_is)
    (case a18 => k_is)
    (case l18 => k_is)
    (case c18 => k_is)
    (case k18 => k_is)
    (case a19 => k_is)
    (case l19 => k_is)
    (case c19 => k_is)
    (case k19 => k_is)
    (case a20 => k_is)
    (case l20 => k_is)
    (case c20 => k_is)
    (case k20 => k_is)
    (case z_abs => k_is)
    (case z_len => k_is)
    (case z_int => k_is)
    (case z_bool => k_is)
    (case z_str => k_is)
    (case z_list => k_is)
    (case z_tuple => k_is)
    (case z_isinstance => k_is)
    (case z_range => k_is)
    (case z_ValueError => k_is)
    (case gG => k_is)
    (case exC_BadNumber => k_is)
    (case hdC_BadNumber => k_is)
    (case tyC_BadNumber => k_is)
    (case meC_BadNumber => first | rfl | k_is)
    (case xL_BadNumber => k_is)
    (case sa_BadNumber => k_is)
    (case kC_BadNumber => k_is)
    (case ti_BadNumber => k_is)
    (case ga_BadNumber => k_is)
    (case gg_BadNumber => k_is)
    (case ha_BadNumber => k_is)
    (case hn_ => k_is)
    (case ht_ => k_is)
    (case hm_BadNumber => k_is)
    (case nf_BadNumber_name => k_is)
    (case nf_BadNumber_value => k_is)
    (case exC_ZeroUnder => k_is)
    (case hdC_ZeroUnder => k_is)
    (case tyC_ZeroUnder => k_is)
    (case meC_ZeroUnder => first | rfl | k_is)
    (case xP_ZeroUnder => k_exc)
    (case kP_ZeroUnder => k_is)
    (case ga_ZeroUnder => k_is)
    (case gg_ZeroUnder => k_is)
    (case ha_ZeroUnder => k_is)
    (case hm_ZeroUnder => k_is)
    (case exC_WatchError => k_is)
    (case hdC_WatchError => k_is)
    (case tyC_WatchError => k_is)
    (case meC_WatchError => first | rfl | k_is)
    (case sub_BadNumber_WatchError => k_is)
    (case sub_BadNumber_ValueError => k_is)
    (case exC_TooMany => k_is)
    (case hdC_TooMany => k_is)
    (case tyC_TooMany => k_is)
    (case meC_TooMany => first | rfl | k_is)
    (case sub_BadNumber_TooMany => k_is)
    (case pg_Ratio => k_is)
    (case hd_Ratio => k_is)
    (case po_Ratio => k_is)
    (case sa_Ratio => k_is)
    (case mk_Ratio => k_is)
    (case kc_Ratio => k_is)
    (case if_3 => k_is)
    (case na_Ratio_top => k_is)
    (case na_Ratio_under => k_is)
    (case ha_Ratio => k_is)
    (case hm_Ratio => k_is)
#print axioms PySem.Challenge.cw_watchbeats_k68_floor_told_holds
