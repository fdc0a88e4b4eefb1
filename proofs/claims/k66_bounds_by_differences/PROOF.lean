import PyProof.Rows.All
import Wide.All
import OpenK.AllK
import Wide.FinOn
import HandS.ForMost
import HandS.Exc
import HandS.ExcInit
import HandS.ExcField
import HandS.ExcIs
import KE.KExcIs
import HandS.IsInst
import HandS.CallSlots
import HandS.WordsExc
import HandS.Wide
import HandS.Gcd
import HandS.Style
import HandS.Evl
import HandS.Property
import HandS.ClsMeth
import HandS.Deep
import HandS.IterVal
import HandS.OwnIter
import HandS.Conv
import KE.KOwnIter
import HandS.SortInts
import KE.KOpsOwn
import HandS.OwnEq
import HandS.SlotsOwn
import KE.DataCmp
import KE.SortData
import HandS.Walk
import KE.KCallOwn
import PyProof.InstNe
import PyProof.Conv_bool
import HandS.Text
import HandS.Replace
import HandS.Strs
import KE.GoesEnum
import HandS.Iter
import HandS.Zip
import KE.GoesZip
import KE.GoesMore
import HandS.Defaults
import HandS.MakeKwOnly
import KE.KStateDown
import HandS.Head0
import HandS.Head1
import HandS.Head2
import HandS.Head3
import HandS.HeadEnd
import HandS.HeadHook1
import HandS.HeadHook2
import HandS.HeadNt
import PySem.Challenge.RW_watchbeats_k66_bounds_by_differences
set_option Elab.async false
set_option linter.all false
set_option maxRecDepth 100000
set_option maxHeartbeats 4000000
/-! bounds by differences, def by def -/
namespace Pf
open PySem L2 Evl

def topS (i : Nat) : Stmt := PySem.Challenge.pw_watchbeats_k66_bounds_by_differences.main.body.getD i (.Pass ⟨0, 0, 0, 0⟩)
abbrev s_BadNumber_init : Stmt := inClass (topS 5) 0
abbrev N_BadNumber_init : List Str := ["self", "name", "value"]
abbrev s_TooMany_init : Stmt := inClass (topS 6) 0
abbrev N_TooMany_init : List Str := ["self", "name", "most"]
abbrev s_RepeatedHour_init : Stmt := inClass (topS 7) 0
abbrev N_RepeatedHour_init : List Str := ["self", "hour"]
abbrev s_WrongLength_init : Stmt := inClass (topS 13) 0
abbrev N_WrongLength_init : List Str := ["self", "length"]
abbrev s_BadName_init : Stmt := inClass (topS 15) 0
abbrev N_BadName_init : List Str := ["self", "name"]
abbrev s_RepeatedName_init : Stmt := inClass (topS 16) 0
abbrev N_RepeatedName_init : List Str := ["self", "name"]
abbrev s_Lot_init : Stmt := inClass (topS 26) 1
abbrev N_Lot_init : List Str := ["self", "hours", "members", "taken", "member", "hour"]
abbrev s_Lot_members : Stmt := inClass (topS 26) 3
abbrev N_Lot_members : List Str := ["self"]
abbrev s_Lot_len : Stmt := inClass (topS 26) 6
abbrev N_Lot_len : List Str := ["self"]
abbrev s_Lot_iter : Stmt := inClass (topS 26) 7
abbrev N_Lot_iter : List Str := ["self"]
abbrev s_Lot_contains : Stmt := inClass (topS 26) 8
abbrev N_Lot_contains : List Str := ["self", "x"]
abbrev s_Lot_eq : Stmt := inClass (topS 26) 9
abbrev N_Lot_eq : List Str := ["self", "other"]
abbrev s_Lot_invert : Stmt := inClass (topS 26) 13
abbrev N_Lot_invert : List Str := ["self", "hour"]
abbrev s_check_name : Stmt := topS 22
abbrev N_check_name : List Str := ["name", "letter"]
abbrev s_check_new_name : Stmt := topS 23
abbrev N_check_new_name : List Str := ["name", "names"]
abbrev s_House_init : Stmt := inClass (topS 21) 4
abbrev N_House_init : List Str := ["self", "hours", "gates", "names", "stakes", "name", "stake"]
abbrev s_House_len : Stmt := inClass (topS 21) 7
abbrev N_House_len : List Str := ["self"]
abbrev s_u_check_row : Stmt := topS 33
abbrev N_u_check_row : List Str := ["house", "row", "strength"]
abbrev s_Watch_init : Stmt := inClass (topS 32) 1
abbrev N_Watch_init : List Str := ["self", "house", "rows", "row"]
abbrev s_Watch_of_lots : Stmt := inClass (topS 32) 2
abbrev N_Watch_of_lots : List Str := ["cls", "house", "lots", "lot", "hour"]
abbrev s_Ratio_init : Stmt := inClass (topS 36) 1
abbrev N_Ratio_init : List Str := ["self", "top", "under", "shared"]
abbrev s_as_ratio : Stmt := topS 38
abbrev N_as_ratio : List Str := ["number"]
abbrev s_Ratio_add : Stmt := inClass (topS 36) 6
abbrev N_Ratio_add : List Str := ["self", "other", "second"]
abbrev s_Ratio_mul : Stmt := inClass (topS 36) 10
abbrev N_Ratio_mul : List Str := ["self", "other", "second"]
abbrev s_u_lead : Stmt := topS 37
abbrev N_u_lead : List Str := ["ratio", "number", "second"]
abbrev s_Ratio_lt : Stmt := inClass (topS 36) 19
abbrev N_Ratio_lt : List Str := ["self", "other"]
abbrev s_Ratio_gt : Stmt := inClass (topS 36) 21
abbrev N_Ratio_gt : List Str := ["self", "other"]
abbrev s_greatest : Stmt := topS 39
abbrev N_greatest : List Str := ["ratios", "most", "ratio"]
abbrev s_meetings : Stmt := topS 30
abbrev N_meetings : List Str := ["one", "other", "counts", "x", "y", "by"]
abbrev s_no_look_bound : Stmt := topS 41
abbrev N_no_look_bound : List Str := ["house", "lots", "stake", "lot"]
abbrev s_u_means_after : Stmt := topS 43
abbrev N_u_means_after : List Str := ["seen", "tried", "first", "means", "counts", "count"]
abbrev s_one_look_bound : Stmt := topS 42
abbrev N_one_look_bound : List Str := ["house", "lots", "means", "g", "seen", "f", "tried", "mean"]
abbrev s_u_law_cell : Stmt := topS 45
abbrev N_u_law_cell : List Str := ["script", "k"]
abbrev s_u_law_draws : Stmt := topS 46
abbrev N_u_law_draws : List Str := ["cell", "salt", "menu", "found", "rest", "mixed", "k"]
abbrev s_u_law_two : Stmt := topS 47
abbrev N_u_law_two : List Str := ["n", "power", "k"]
abbrev s_u_law_bits : Stmt := topS 48
abbrev N_u_law_bits : List Str := ["n", "number", "found", "h"]
abbrev s_u_law_name : Stmt := topS 49
abbrev N_u_law_name : List Str := ["number", "letters", "word", "k"]
abbrev s_u_law_names : Stmt := topS 50
abbrev N_u_law_names : List Str := ["numbers", "letters", "names", "number", "word", "turn"]
abbrev s_u_law_gates : Stmt := topS 51
abbrev N_u_law_gates : List Str := ["numbers", "stakes", "names", "k"]
abbrev s_u_law_gcd : Stmt := topS 52
abbrev N_u_law_gcd : List Str := ["a", "b"]
abbrev s_u_law_is_int : Stmt := topS 53
abbrev N_u_law_is_int : List Str := ["x"]
abbrev s_u_law_is_ratio : Stmt := topS 54
abbrev N_u_law_is_ratio : List Str := ["x"]
abbrev s_u_law_worth : Stmt := topS 55
abbrev N_u_law_worth : List Str := ["x", "top", "under"]
abbrev s_u_law_same : Stmt := topS 56
abbrev N_u_law_same : List Str := ["got", "due", "k"]
abbrev s_u_law_greater : Stmt := topS 57
abbrev N_u_law_greater : List Str := ["one", "other"]
abbrev s_u_law_no_look : Stmt := topS 58
abbrev N_u_law_no_look : List Str := ["stakes", "sets", "n", "found", "g"]
abbrev s_u_law_one_look : Stmt := topS 59
abbrev N_u_law_one_look : List Str := ["stakes", "sets", "n", "found", "g", "guard", "seen", "t", "f", "d", "empty"]
abbrev s_u_law_told : Stmt := topS 60
abbrev N_u_law_told : List Str := ["house", "lots", "stakes", "sets", "n", "without", "after_one"]
abbrev s_u_law_refused : Stmt := topS 61
abbrev N_u_law_refused : List Str := ["house", "lots", "looked", "caught", "e"]
abbrev s_u_law_refused_by_base : Stmt := topS 62
abbrev N_u_law_refused_by_base : List Str := ["house", "lots", "caught", "e"]
abbrev s_u_law_faults : Stmt := topS 63
abbrev N_u_law_faults : List Str := ["house", "lots", "at", "wide", "strange", "replaced", "looked"]
abbrev s_u_law_sets : Stmt := topS 64
abbrev N_u_law_sets : List Str := ["script", "gates", "n", "sets", "g", "numbers", "hours", "t"]
abbrev s_law : Stmt := topS 65
abbrev N_law : List Str := ["script", "sizes", "gates", "n", "marks", "stakes", "stake", "others", "sets", "lots", "hours", "h", "passed", "house", "beside", "g"]

theorem some_int {ns : List Int} {i : Nat} {y : V} (h : (ns.map V.int)[i]? = some y) : ∃ u, y = V.int u ∧ ns[i]? = some u := by
  rw [List.getElem?_map] at h
  cases e : ns[i]? with
  | none => rw [e] at h; cases h
  | some u => rw [e] at h; exact ⟨u, (Option.some.inj h).symm, rfl⟩
theorem wayT {c A B : Prop} [Decidable c] (h : c) (a : A) : if decide c = true then A else B := by rw [decide_eq_true h]; exact iteT a
theorem wayF {c A B : Prop} [Decidable c] (h : ¬ c) (b : B) : if decide c = true then A else B := by rw [decide_eq_false h]; exact iteF b
theorem way {c A B : Prop} [Decidable c] (a : c → A) (b : ¬ c → B) : if decide c = true then A else B := by
  by_cases h : c
  · exact wayT h (a h)
  · exact wayF h (b h)
theorem wayNT {c A B : Prop} [Decidable c] (h : c) (b : B) : if (!decide c) = true then A else B := by rw [decide_eq_true h]; exact iteF b
theorem wayNF {c A B : Prop} [Decidable c] (h : ¬ c) (a : A) : if (!decide c) = true then A else B := by rw [decide_eq_false h]; exact iteT a
theorem dec_ii {a b : Int} : decide (V.int a = V.int b) = decide (a = b) := by simp
theorem dec_bb {a b : Bool} : decide (V.bl a = V.bl b) = decide (a = b) := by simp
/-- the names of a comprehension's block within another scope -/
def relS (scope outer : Scope) : Scope := { scope with names := scope.names.map fun (n, k) => if (k == .free && outer.kind == .function && outer.names.lookup n == some .cell) then (n, .cell) else (n, k) }
/-- the ints that a comprehension over a range gives -/
def pick (n : Nat) (f : Nat → Bool) (g : Nat → Int) : List Int := ((List.range n).filter f).map g
theorem given_pick (n : Nat) (f : Nat → Bool) (g : Nat → Int) : given n f (fun i => V.int (g i)) = (pick n f g).map V.int := by
  unfold given pick
  rw [List.map_map]
  rfl
theorem pick_len (n : Nat) (f : Nat → Bool) (g : Nat → Int) : (pick n f g).length ≤ n := by
  unfold pick
  rw [List.length_map]
  have := List.length_filter_le f (List.range n)
  rwa [List.length_range] at this
theorem pick_congr {n : Nat} {f f' : Nat → Bool} {g : Nat → Int} (h : ∀ i, i < n → f i = f' i) : pick n f g = pick n f' g := by
  unfold pick
  rw [List.filter_congr fun i hi => h i (List.mem_range.mp hi)]
theorem el_rng2 {σ : L2.St} {H : Hp} {te : TE} {tt : TT} {ta : TA} {j : Nat} {vs : List Nat} {lo hi : Int} (f : Nat → Bool) (v : Nat → V) (h : EvA ta σ H [.int lo, .int hi]) (hn : 0 ≤ lo ∧ lo ≤ 40000 ∧ -40000 ≤ hi ∧ hi ≤ 40000)
    (hw : ∀ x, wipe ((wipe σ vs).set j (some x)) vs = wipe σ vs)
    (ht : ∀ (i : Nat) H1, Ex H H1 → lo + (i : Int) < hi → EvT tt ((wipe σ vs).set j (some (.int (lo + (i : Int))))) H1 (f i))
    (he : ∀ (i : Nat) H1, Ex H H1 → lo + (i : Int) < hi → f i = true → Ev te ((wipe σ vs).set j (some (.int (lo + (i : Int))))) H1 (v i)) :
    EvL (tLc (iRng2 ta) (gName j) tt te vs) σ H (given (hi - lo).toNat f v) := by
  intro H0 e Q q
  refine h H0 e _ fun H1 e1 => ⟨lo, hi, rfl, ⟨by omega, by omega, by omega, by omega⟩, fun D hD => ?_⟩
  exact lc_range (lo := lo) (n := (hi - lo).toNat) (Cw H1 f v D) ⟨hD, Ex.new hD, upd_same⟩
    (fun i H' hi' p => ⟨hw _, cw_turn p (by omega) (ht i H1 (e.trans e1) (by omega)) (fun hf => he i H1 (e.trans e1) (by omega) hf)⟩)
    (fun H' p => q D H' (fresh_back e1 p.1) (e1.trans p.2.1) p.2.2)
theorem given_list (xs : List Int) (p : Int → Bool) : given (xs.map V.int).length (fun i => p (xs.getD i 0)) (fun i => V.int (xs.getD i 0)) = (xs.filter p).map V.int := by
  rw [List.length_map]
  induction xs with
  | nil => rfl
  | cons x xs ih =>
    unfold given at ih ⊢
    rw [List.length_cons, List.range_succ_eq_map, List.filter_cons, List.filter_map]
    have e : ∀ (z : List Nat), (z.filter ((fun i => p ((x :: xs).getD i 0)) ∘ Nat.succ)) = z.filter fun i => p (xs.getD i 0) := fun z => List.filter_congr fun i _ => by simp
    rw [e]
    by_cases hp : p x = true
    · rw [if_pos (by simpa using hp), List.filter_cons, if_pos hp, List.map_cons, List.map_cons, ← ih, List.map_map]
      simp
    · rw [if_neg (by simpa using hp), List.filter_cons, if_neg hp, ← ih, List.map_map]
      simp
theorem el_lst1 {K : PySem.W.Frag} {σ : L2.St} {H : Hp} {te tl : TE} {tt : TT} {j : Nat} {vs : List Nat} {a : Addr} (xs : List Int) (p : Int → Bool) (h : Ev tl σ H (.ref a)) (hx : SqL K H a (xs.map V.int)) (hz : xs.length ≤ 40000)
    (hw : ∀ x, wipe ((wipe σ vs).set j (some x)) vs = wipe σ vs)
    (ht : ∀ (x : Int) H1, Ex H H1 → x ∈ xs → EvT tt ((wipe σ vs).set j (some (.int x))) H1 (p x))
    (he : ∀ (x : Int) H1, Ex H H1 → x ∈ xs → Ev te ((wipe σ vs).set j (some (.int x))) H1 (.int x)) :
    EvL (tLc (iList K tl) (gName j) tt te vs) σ H ((xs.filter p).map V.int) := by
  rw [← given_list]
  have get : ∀ (i : Nat) (x : V), (xs.map V.int)[i]? = some x → x = .int (xs.getD i 0) ∧ xs.getD i 0 ∈ xs := fun i x hi => by
    obtain ⟨u, e, hu⟩ := some_int hi
    rw [List.getD_eq_getElem?_getD, hu]
    exact ⟨e, List.mem_of_getElem? hu⟩
  refine el_lcL _ _ h hx (by rw [List.length_map]; exact hz) hw (fun i x H1 e1 hi => ?_) (fun i x H1 e1 hi _ => ?_)
  · obtain ⟨rfl, hm⟩ := get i x hi
    exact ht _ H1 e1 hm
  · obtain ⟨rfl, hm⟩ := get i x hi
    exact he _ H1 e1 hm
theorem given_gen {α : Type} (d : α) (ps : List α) (p : α → Bool) (v : α → V) : given ps.length (fun i => p (ps.getD i d)) (fun i => v (ps.getD i d)) = (ps.filter p).map v := by
  induction ps with
  | nil => rfl
  | cons x xs ih =>
    unfold given at ih ⊢
    rw [List.length_cons, List.range_succ_eq_map, List.filter_cons, List.filter_map]
    have e : ∀ (z : List Nat), (z.filter ((fun i => p ((x :: xs).getD i d)) ∘ Nat.succ)) = z.filter fun i => p (xs.getD i d) := fun z => List.filter_congr fun i _ => by simp
    rw [e]
    by_cases hp : p x = true
    · rw [if_pos (by simpa using hp), List.filter_cons, if_pos hp, List.map_cons, List.map_cons, ← ih, List.map_map]
      simp
    · rw [if_neg (by simpa using hp), List.filter_cons, if_neg hp, ← ih, List.map_map]
      simp
/-- a comprehension over a list whose items stand for the things of ps, the target of any form -/
theorem el_lstG {α : Type} (d : α) {K : PySem.W.Frag} {σ : L2.St} {H : Hp} {te tl : TE} {tt : TT} {g : TG} {vs : List Nat} {a : Addr} (xs : List V) (ps : List α) (p : α → Bool) (v : α → V) (τ : α → L2.St)
    (h : Ev tl σ H (.ref a)) (hx : SqL K H a xs) (hl : xs.length = ps.length) (hz : ps.length ≤ 40000)
    (hg : ∀ (i : Nat) x y H1 (k : L2.St → Hp → Prop), Ex H H1 → xs[i]? = some x → ps[i]? = some y → k (τ y) H1 → g x (wipe σ vs) H1 k)
    (hw : ∀ y, wipe (τ y) vs = wipe σ vs) (ht : ∀ y H1, Ex H H1 → y ∈ ps → EvT tt (τ y) H1 (p y)) (he : ∀ y H1, Ex H H1 → y ∈ ps → p y = true → Ev te (τ y) H1 (v y)) :
    EvL (tLc (iList K tl) g tt te vs) σ H ((ps.filter p).map v) := by
  rw [← given_gen d ps p v]
  intro H0 e0 Q q
  refine h H0 e0 _ fun H1 e1 => ⟨a, rfl, ⟨xs, ex_l (e0.trans e1) hx⟩, fun D hD => ?_⟩
  refine lc_list (xs := xs) (Cw H1 (fun i => p (ps.getD i d)) (fun i => v (ps.getD i d)) D) ⟨hD, Ex.new hD, upd_same⟩ (fun i H' _ c => ex_l ((e0.trans e1).trans c.2.1) hx) (fun i x H' hi c => ?_)
    (fun H' c => by rw [hl] at c; exact q D H' (fresh_back e1 c.1) (e1.trans c.2.1) c.2.2)
  have hil : i < ps.length := by
    have := (List.getElem?_eq_some_iff.mp hi).1
    omega
  have hy : ps[i]? = some (ps.getD i d) := by rw [List.getD_eq_getElem?_getD, List.getElem?_eq_getElem hil]; rfl
  refine hg i x _ H' _ ((e0.trans e1).trans c.2.1) hi hy ⟨hw _, ?_⟩
  exact cw_turn c (by omega) (ht _ H1 (e0.trans e1) (List.mem_of_getElem? hy)) (fun hf => he _ H1 (e0.trans e1) (List.mem_of_getElem? hy) hf)
/-- an if without else, then what follows where M holds -/
theorem q_alt {b : Bool} {t : TT} {tu tz : TS} {D : Ends} {σ : L2.St} {H : Hp} (M : L2.St → Hp → Prop) (h : EvT t σ H b) (h1 : b = true → ∀ H1, Ex H H1 → ∀ W : L2.St → Hp → Prop, (∀ σ' H', M σ' H' → W σ' H') → tu { D with nx := W } σ H1)
    (h2 : b = false → ∀ H1, Ex H H1 → M σ H1) (k : ∀ σ' H', M σ' H' → tz D σ' H') : tSeq (tIfS t tu tNext) tz D σ H :=
  q_when h (fun hb H1 e1 => h1 hb H1 e1 _ k) (fun hb H1 e1 => k _ _ (h2 hb H1 e1))
theorem q_two {b : Bool} {t : TT} {tu tw tz : TS} {D : Ends} {σ : L2.St} {H : Hp} (M : L2.St → Hp → Prop) (h : EvT t σ H b) (h1 : b = true → ∀ H1, Ex H H1 → ∀ W : L2.St → Hp → Prop, (∀ σ' H', M σ' H' → W σ' H') → tu { D with nx := W } σ H1)
    (h2 : b = false → ∀ H1, Ex H H1 → ∀ W : L2.St → Hp → Prop, (∀ σ' H', M σ' H' → W σ' H') → tw { D with nx := W } σ H1) (k : ∀ σ' H', M σ' H' → tz D σ' H') : tSeq (tIfS t tu tw) tz D σ H :=
  q_if h (fun hb H1 e1 => h1 hb H1 e1 _ k) (fun hb H1 e1 => h2 hb H1 e1 _ k)
/-- .. over a list that was just made -/
theorem el_lstN {α : Type} (d : α) {K : PySem.W.Frag} {σ : L2.St} {H : Hp} {te tl : TE} {tt : TT} {g : TG} {vs : List Nat} (xs : List V) (ps : List α) (p : α → Bool) (v : α → V) (τ : α → L2.St)
    (h : EvL tl σ H xs) (hl : xs.length = ps.length) (hz : ps.length ≤ 40000) (hg : ∀ (i : Nat) x y H1 (k : L2.St → Hp → Prop), Ex H H1 → xs[i]? = some x → ps[i]? = some y → k (τ y) H1 → g x (wipe σ vs) H1 k)
    (hw : ∀ y, wipe (τ y) vs = wipe σ vs) (ht : ∀ y H1, Ex H H1 → y ∈ ps → EvT tt (τ y) H1 (p y)) (he : ∀ y H1, Ex H H1 → y ∈ ps → p y = true → Ev te (τ y) H1 (v y)) :
    EvL (tLc (iList K tl) g tt te vs) σ H ((ps.filter p).map v) := by
  intro H0 e0 Q q
  refine h H0 e0 _ fun a H1 ha e1 h1 => ?_
  refine el_lstG (K := K) (te := te) (tl := tC (.ref a)) (tt := tt) (g := g) (vs := vs) (σ := σ) (H := H1) d xs ps p v τ ev_c (sq_of h1) hl hz (fun i x y H2 k e2 => hg i x y H2 k ((e0.trans e1).trans e2)) hw (fun y H2 e2 => ht y H2 ((e0.trans e1).trans e2)) (fun y H2 e2 => he y H2 ((e0.trans e1).trans e2)) H1 (Ex.refl _) Q fun b H2 hb e2 h2 => q b H2 (fresh_back e1 hb) (e1.trans e2) h2
theorem pick_succ {n : Nat} {f : Nat → Bool} {g : Nat → Int} : pick (n + 1) f g = pick n f g ++ (if f n = true then [g n] else []) := by
  unfold pick
  rw [List.range_succ, List.filter_append, List.map_append, List.filter_cons]
  by_cases h : f n = true
  · rw [if_pos h, if_pos h]; rfl
  · rw [if_neg h, if_neg h]; rfl
theorem ev_gcd {σ : L2.St} {H : Hp} {ta : TA} {a b : Int} (h : EvA ta σ H [.int a, .int b]) : Ev (tCB rGcd ta) σ H (.int ((Nat.gcd a.natAbs b.natAbs : Nat) : Int)) :=
  ev_cb h fun H1 _ _ q => ⟨a, b, rfl, q H1 (Ex.refl H1)⟩
/-! ### rules whose reading says K by its own letter (within a comprehension's block too) -/
theorem ix_lK {X : Cx} {K : PySem.W.Frag} (h : X.K = K := by rfl) : IxR X (rIxL K) := by subst h; exact ix_list
theorem ix_tK {X : Cx} {K : PySem.W.Frag} (h : X.K = K := by rfl) : IxR X (rIxT K) := by subst h; exact ix_tup
theorem ix_sK {X : Cx} {K : PySem.W.Frag} (h : X.K = K := by rfl) : IxR X (rIx K) := by subst h; exact ix_seq
def rLenK (K : PySem.W.Frag) : List V → Hp → VK → Prop := fun xs H Q => ∃ x n, xs = [x] ∧ LenV K x H n ∧ Q (.int (n : Nat)) H
theorem len_K {X : Cx} {K : PySem.W.Frag} (h : X.K = K := by rfl) : CallR X (.builtin "len") (rLenK K) := by subst h; exact call_len
def rListK (K : PySem.W.Frag) : List V → Hp → VK → Prop := fun zs H Q => ∃ p ys, zs = [.ref p] ∧ (SqL K H p ys ∨ SqT K H p ys) ∧
  ∀ l, H l = none → Q (.ref l) (upd H l (.lst ys))
theorem list_K {X : Cx} {K : PySem.W.Frag} (h : X.K = K := by rfl) : CallR X (.type "list") (rListK K) := by subst h; exact call_list_of
theorem in_K {X : Cx} {K : PySem.W.Frag} (h : X.K = K := by rfl) : OpR X (compareOp .In) (rIn K false) := by subst h; exact op_in_seq
theorem notin_K {X : Cx} {K : PySem.W.Frag} (h : X.K = K := by rfl) : OpR X (compareOp .NotIn) (rIn K true) := by subst h; exact op_notIn_seq
theorem pg_tupK {X : Cx} {K : PySem.W.Frag} {pos : Pos} {es : List Expr} {k : Nat} {t : TGs} {n : Nat} (hk : X.K = K) (hc : X.calm = true) (h : PGs X es t)
    (hn : (assignEach es X.env).length = n := by rfl) (hst : (assignEach es X.env).findIdx? (·.1) = none := by rfl) : PG X (.Tuple es k pos) (gTup K n t) := by subst hk; exact pg_tup hc h hn hst
theorem pe_fldK {X : Cx} {K : PySem.W.Frag} {e : Expr} {f : Str} {pos : Pos} {ta : TE} (he : PE X e ta) (hb : attributeBase e f X.env (eval e X.env) = eval e X.env) (hk : X.K = K := by rfl) : PE X (.Attribute e f pos) (tFld K ta f) := by subst hk; exact pe_fld he hb
theorem eqD_K {X : Cx} {K : PySem.W.Frag} (hu : X.A.units + 64 < cLine) (hk : X.K = K := by rfl) : OpR X (compareOp .Eq) (rEqD K) := by subst hk; exact op_eqD hu
theorem neD_K {X : Cx} {K : PySem.W.Frag} (hu : X.A.units + 64 < cLine) (hk : X.K = K := by rfl) : OpR X (compareOp .NotEq) (rNeD K) := by subst hk; exact op_neD hu
theorem isi_K {X : Cx} {K : PySem.W.Frag} (h : X.K = K := by rfl) : CallR X (.builtin "isinstance") (rIsi K) := by subst h; exact call_isi
/-! ### data -/
/-- data of a depth below n, of lists and tuples that are not too long -/
def Flat : Nat → PyData → Prop
  | 0, _ => False
  | n + 1, .list ds => ds.length ≤ 40000 ∧ ∀ d ∈ ds, Flat n d
  | n + 1, .tuple ds => ds.length ≤ 40000 ∧ ∀ d ∈ ds, Flat n d
  | _ + 1, .dict _ => False
  | _ + 1, _ => True
theorem dp_get {K : PySem.W.Frag} {H : Hp} : ∀ {xs : List V} {ds : List PyData}, DpAll K H xs ds → xs.length = ds.length ∧ ∀ (i : Nat) (d : PyData), ds[i]? = some d → ∃ x, xs[i]? = some x ∧ Dp K H x d
  | _, _, .nil => ⟨rfl, fun i d h => by simp at h⟩
  | _, _, .cons a r => by
    obtain ⟨l, g⟩ := dp_get r
    refine ⟨by simp [l], fun i d h => ?_⟩
    cases i with
    | zero => exact ⟨_, rfl, by simp at h; subst h; exact a⟩
    | succ i => simpa using g i d (by simpa using h)
theorem flatI {ns : List Int} (h : ns.length ≤ 360) : Flat 4 (.list (ns.map .int)) :=
  ⟨by rw [List.length_map]; omega, fun d hd => by
    obtain ⟨i, _, rfl⟩ := List.mem_map.mp hd
    exact True.intro⟩
theorem dp_ints {K : PySem.W.Frag} {H : Hp} : ∀ ns : List Int, DpAll K H (ns.map V.int) (ns.map PyData.int)
  | [] => .nil
  | n :: ns => .cons (.int n) (dp_ints ns)
mutual
theorem dp_ex {K : PySem.W.Frag} {H H' : Hp} (e : Ex H H') : ∀ {v : V} {d : PyData}, Dp K H v d → Dp K H' v d
  | _, _, .non => .non
  | _, _, .bl b => .bl b
  | _, _, .int i => .int i
  | _, _, .str x => .str x
  | _, _, .lst s a => .lst (ex_l e s) (dpa_ex e a)
  | _, _, .tup s a => .tup (ex_t e s) (dpa_ex e a)
theorem dpa_ex {K : PySem.W.Frag} {H H' : Hp} (e : Ex H H') : ∀ {vs : List V} {ds : List PyData}, DpAll K H vs ds → DpAll K H' vs ds
  | _, _, .nil => .nil
  | _, _, .cons a r => .cons (dp_ex e a) (dpa_ex e r)
end
theorem tyx_l {K : PySem.W.Frag} {H : Hp} {a : Addr} {xs : List V} (h : SqL K H a xs) : TyX K H (.ref a) (.type "list") := by
  rcases h with (h | ⟨o, h⟩) | ⟨o, its, n, h, c, _⟩
  · exact .base (.lst h)
  · exact .base (.frz h)
  · exact .kList h c
theorem tyx_t {K : PySem.W.Frag} {H : Hp} {a : Addr} {xs : List V} (h : SqT K H a xs) : TyX K H (.ref a) (.type "tuple") := by
  rcases h with (h | ⟨o, h⟩) | ⟨o, its, n, h, c, _⟩
  · exact .base (.tup h)
  · exact .fTuple h
  · exact .kTuple h c
/-- x is True, x is False, whatever x is -/
def rIsK : R2 := fun x y H Q => ∃ b : Bool, y = .bl b ∧ Q (.bl (decide (x = .bl b))) H
theorem op_isK {X : Cx} : OpR X (compareOp .Is) rIsK := by
  intro pins s σ H x y v u Q I rx ry h
  obtain ⟨b, hy, q⟩ := h
  subst hy
  cases (show u = Value.bool b from ry)
  have fin : ∀ k : Bool, k = decide (x = V.bl b) → EP X pins σ Q (.bool k) s := fun k e => ⟨.bl k, H, I, rfl, by rw [e]; exact q⟩
  cases x with
  | non => cases (show v = Value.none from rx); exact wpAny_is_other rfl (fun z => by cases z) (fin _ (by simp))
  | bl a =>
    cases (show v = Value.bool a from rx)
    by_cases e : a = b
    · subst e; exact wpAny_is_self rfl (fin _ (by simp))
    · exact wpAny_is_other rfl (fun z => e (Value.bool.inj z)) (fin _ (by simp [e]))
  | int i => obtain ⟨t, ev⟩ := rx; subst ev; exact wpAny_is_other rfl (fun z => by cases z) (fin _ (by simp))
  | str i => obtain ⟨t, ev⟩ := rx; subst ev; exact wpAny_is_other rfl (fun z => by cases z) (fin _ (by simp))
  | byt i => obtain ⟨t, ev⟩ := rx; subst ev; exact wpAny_is_other rfl (fun z => by cases z) (fin _ (by simp))
  | flt i => obtain ⟨t, ev⟩ := rx; subst ev; exact wpAny_is_other rfl (fun z => by cases z) (fin _ (by simp))
  | ref a => cases (show v = Value.ref a from rx); exact wpAny_is_other rfl (fun z => by cases z) (fin _ (by simp))
  | ty n => cases (show v = Value.type n from rx); exact wpAny_is_other rfl (fun z => by cases z) (fin _ (by simp))
theorem atI_ints {ns : List Int} {i : Int} (h0 : 0 ≤ i) (h1 : i < (ns.length : Int)) : atI (ns.map V.int) i = some (.int (ns.getD i.toNat 0)) := by
  obtain ⟨j, rfl⟩ : ∃ j : Nat, i = (j : Int) := ⟨i.toNat, by omega⟩
  refine atI_nat ?_
  have hj : j < ns.length := by omega
  rw [List.getElem?_map, Int.toNat_natCast, List.getD_eq_getElem?_getD, List.getElem?_eq_getElem hj]
  rfl
/-! ### a caught error with fields -/
def rIsX (K : PySem.W.Frag) (D a : Addr) (cls : Value) (d : Option Addr) : List V → Hp → VK → Prop := fun xs H Q => cls = .ref D ∧ ∃ (dd : Addr) (fs : List (Str × V)) (c : V) (cv : Value) (b : Bool),
  d = some dd ∧ H dd = some (.xd fs) ∧ xs = [.ref a, c] ∧ (∀ u, RelV c u → u = cv) ∧ PySem.W.kitOne K (.ref D) cv = some b ∧ Q (.bl b) H
theorem call_isX {X : Cx} {a D : Addr} {oe : Obj} {cls : Value} {d : Option Addr} {pn : List (Addr × Obj)} (C : ExcC X.K D) (hz : Zc cls d oe) (hf : ∃ vs, oe.data = .fields vs) : CallR (X.suite a ((a, oe) :: pn)) (.builtin "isinstance") (rIsX X.K D a cls d) := by
  intro pins sh σ H zs us Q I rr hq
  obtain ⟨ec, dd, fs, c, cv, b, ed, hx, ez, hcv, hk, q⟩ := hq
  subst ez
  obtain ⟨u1, u2, eu, r1, r2⟩ := vals2 rr
  subst eu
  cases (show u1 = Value.ref a from r1)
  have e2 := hcv _ r2
  subst e2
  obtain ⟨hget, _⟩ := I.pin (a, oe) (List.mem_append.mpr (.inl List.mem_cons_self))
  obtain ⟨vs, hv⟩ := hf
  have ho : ObjOk X.prog X.w H sh.heap dd (.xd fs) := I.hok dd _ hx
  obtain ⟨mA, hns, _⟩ := ho
  obtain ⟨od, hod, _⟩ := lookIn_ns hns
  obtain ⟨cd, hcd, _⟩ := PySem.W.any_some C.hd
  have hcl : (PySem.W.clsIn X.K D).isSome = true := by rw [hcd]; rfl
  have J : PySem.W.InstAt sh.heap a oe D (some od) := ⟨hget, hz.1.trans ec, by unfold PySem.W.notCls; rw [hv], by rw [hz.2, ed]; exact hod⟩
  exact PySem.W.kia_one (PySem.W.kitx_exc hcl C.hg C.hk C.hs C.ha C.hn C.ht C.hm) I.kIn J hk (fun z => nomatch z) fun tk => ⟨.bl b, H, I.tok tk, rfl, q⟩
def rIsN (K : PySem.W.Frag) (D a : Addr) (cls : Value) (d : Option Addr) : List V → Hp → VK → Prop := fun xs H Q => cls = .ref D ∧ d = none ∧ rIsE K D a xs H Q
theorem call_isN {X : Cx} {a D : Addr} {oe : Obj} {cls : Value} {d : Option Addr} {pn : List (Addr × Obj)} (C : ExcC X.K D) (hz : Zc cls d oe) (hf : ∃ vs, oe.data = .fields vs) : CallR (X.suite a ((a, oe) :: pn)) (.builtin "isinstance") (rIsN X.K D a cls d) := by
  intro pins s σ H xs us Q I r h
  obtain ⟨e1, e2, h⟩ := h
  subst e1 e2
  exact call_isE C hz hf pins s σ H xs us Q I r h
/-- X(), X an error class without __init__ -/
theorem pmk_none {X : Cx} {C : Addr} {bmB : List Value} {B newId initId : String} {x : Str} {p pos : Pos} (F : PySem.ExcBaseFacts B newId initId bmB) (q : PySem.W.excIn X.K C bmB newId = true) (gC : X.mg x = some (.ref C)) (kC : PySem.W.keepIn X.K (.ref C) = true)
    (r : Raises X (.ref C)) (hg : Gl X x) (hdb : (x == ("__debug__" : Str)) = false := by decide) : PMk X (.Call (.Name x p) [] [] pos) (fun _ H Q => Q (.ref C) none H) := by
  intro pins s σ H Q I h
  refine wpAny_Call_Name_kw (ld_glob I hg gC ?_ hdb)
  refine PySem.W.callWith_K0 I.kIn kC ?_
  obtain ⟨bm, N, nm, qn, bs, hdct, sn, sub, ab, col, dd, k0, k1, k2, k3, k5, mN, hC, hN, hni, T⟩ := exc_obj I.kIn q
  refine wpAny_call_exc_subT F T hC hN hni (fun h' e hm => ?_) (Nat.zero_le _)
  exact mk_of I hm r h (I.hok.gone hm.new)
/-- a list drawn by a menu -/
def Drawn (ms ds : List Int) : Prop := ds.length = ms.length ∧ ∀ (i : Nat) (m : Int), ms[i]? = some m → ∃ d : Int, ds[i]? = some d ∧ 0 ≤ d ∧ d < m
theorem kitCls_own {K : PySem.W.Frag} {t : Value} {C : Addr} (hd : PySem.W.hasDictIn K C = true) (ty : PySem.W.typeIn K (.ref C) = some (.type "type")) : PySem.W.kitCls K t (.ref C) = PySem.W.subIn K t (.ref C) := by
  obtain ⟨cd, hc, _⟩ := PySem.W.any_some hd
  unfold PySem.W.kitCls
  simp [hc, ty]
theorem kit_self {K : PySem.W.Frag} {t : Value} : PySem.W.kitOne K t t = some true := by
  unfold PySem.W.kitOne
  rw [if_pos (beq_self_eq_true t)]
theorem kit_yes {K : PySem.W.Frag} {t : Value} {C : Addr} (hd : PySem.W.hasDictIn K C = true) (ty : PySem.W.typeIn K (.ref C) = some (.type "type")) (s : PySem.W.subIn K t (.ref C) = some true) : PySem.W.kitOne K t (.ref C) = some true := by
  unfold PySem.W.kitOne
  split
  · rfl
  · rw [kitCls_own hd ty]; exact s
theorem kit_no {K : PySem.W.Frag} {t : Value} {C : Addr} (hd : PySem.W.hasDictIn K C = true) (ty : PySem.W.typeIn K (.ref C) = some (.type "type")) (me : PySem.W.subIn K (.ref C) (.ref C) = some true) (s : PySem.W.subIn K t (.ref C) = some false) : PySem.W.kitOne K t (.ref C) = some false := by
  unfold PySem.W.kitOne
  split
  · rename_i e
    rw [beq_iff_eq] at e
    rw [e, me] at s
    cases s
  · rw [kitCls_own hd ty]; exact s
theorem kit_bi {K : PySem.W.Frag} {C : Addr} {n : String} {b : Bool} (hm : PySem.W.kitMeta n = true) (s : PySem.W.subIn K (.ref C) (.type n) = some b) : PySem.W.kitOne K (.ref C) (.type n) = some b := by
  unfold PySem.W.kitOne PySem.W.kitCls
  rw [if_neg (by simp)]
  show (if PySem.W.kitMeta n = true then PySem.W.subIn K (.ref C) (.type n) else none) = some b
  rw [if_pos hm]
  exact s
theorem drawn4 {a b c d : Int} {ds : List Int} (h : Drawn [a, b, c, d] ds) : ∃ w x y z, ds = [w, x, y, z] ∧ (0 ≤ w ∧ w < a) ∧ (0 ≤ x ∧ x < b) ∧ (0 ≤ y ∧ y < c) ∧ (0 ≤ z ∧ z < d) := by
  obtain ⟨hl, g⟩ := h
  match ds, hl with
  | [w, x, y, z], _ =>
    obtain ⟨w', e0, h0⟩ := g 0 a rfl
    obtain ⟨x', e1, h1⟩ := g 1 b rfl
    obtain ⟨y', e2, h2⟩ := g 2 c rfl
    obtain ⟨z', e3, h3⟩ := g 3 d rfl
    cases e0; cases e1; cases e2; cases e3
    exact ⟨_, _, _, _, rfl, h0, h1, h2, h3⟩
/-! ### own errors with one field and with two -/
def spErr1 (K : PySem.W.Frag) (C : Addr) (f : Str) : Sp := fun vs H Q _ => ∃ (a : Addr) (x : V), vs = [.ref a, x] ∧ OexC K C ∧ H a = some (exo a C none) ∧ ∀ d, H d = none → d ≠ a → Q .non (upd (upd H d (exd d [(f, x)])) a (exo a C (some d)))
def spErr2 (K : PySem.W.Frag) (C : Addr) (f g : Str) : Sp := fun vs H Q _ => ∃ (a : Addr) (x y : V), vs = [.ref a, x, y] ∧ OexC K C ∧ H a = some (exo a C none) ∧
  ∀ d, H d = none → d ≠ a → Q .non (upd (upd (upd H d (exd d [(f, x)])) a (exo a C (some d))) d (exd d [(g, y), (f, x)]))
theorem raise1 {K : PySem.W.Frag} {C : Addr} {f : Str} {H : Hp} {E : XK} {σ : L2.St} {ta : TA} {x : V} (hC : OexC K C) (hta : ∀ Q : List V → Hp → Prop, Q [x] H → ta σ H Q)
    (k : ∀ d H', Ex H H' → H' d = some (.xd [(f, x)]) → E (.ref C) (some d) H') : tMkO C (spErr1 K C f) [] ta σ H E := by
  refine hta _ ⟨by show (1 : Nat) ≤ 1000; decide, fun a ha => ⟨a, x, rfl, hC, upd_same, fun d hd hne => ?_⟩⟩
  have hd' : H d = none := by rw [upd_ne hne] at hd; exact hd
  have han : a ≠ d := fun e => hne e.symm
  refine ⟨rfl, d, _, upd_same, ?_, hd', k d _ (fun b o hb => ?_) upd_same⟩
  · rw [upd_ne hne, upd_same]
  · have h1 : b ≠ a := ne_of_none hb ha
    have h2 : b ≠ d := ne_of_none hb hd'
    rw [upd_ne h2, del_ne h1, upd_ne h1, upd_ne h2, upd_ne h1]
    exact hb
theorem raise2 {K : PySem.W.Frag} {C : Addr} {f g : Str} {H : Hp} {E : XK} {σ : L2.St} {ta : TA} {x y : V} (hC : OexC K C) (hta : ∀ Q : List V → Hp → Prop, Q [x, y] H → ta σ H Q)
    (k : ∀ d H', Ex H H' → H' d = some (.xd [(g, y), (f, x)]) → E (.ref C) (some d) H') : tMkO C (spErr2 K C f g) [] ta σ H E := by
  refine hta _ ⟨by show (2 : Nat) ≤ 1000; decide, fun a ha => ⟨a, x, y, rfl, hC, upd_same, fun d hd hne => ?_⟩⟩
  have hd' : H d = none := by rw [upd_ne hne] at hd; exact hd
  have han : a ≠ d := fun e => hne e.symm
  refine ⟨rfl, d, _, ?_, upd_same, hd', k d _ (fun b o hb => ?_) upd_same⟩
  · rw [upd_ne han, upd_same]
  · have h1 : b ≠ a := ne_of_none hb ha
    have h2 : b ≠ d := ne_of_none hb hd'
    rw [upd_ne h2, del_ne h1, upd_ne h2, upd_ne h1, upd_ne h2, upd_ne h1]
    exact hb
/-- what a cell of the script is worth -/
def cellA (ns : List Int) (k : Nat) : Int := if k < ns.length then (if ns.getD k 0 < 0 then - ns.getD k 0 else ns.getD k 0) else 0
theorem cellA_nn (ns : List Int) (k : Nat) : 0 ≤ cellA ns k := by
  unfold cellA
  split
  · split <;> omega
  · omega
/-! ### evaluation with a property; loops over what a call gives -/
def EvR (te : TE) (σ : L2.St) (H : Hp) (P : V → Hp → Prop) : Prop := ∀ H1, Ex H H1 → ∀ Q : VK, (∀ v H2, Ex H1 H2 → P v H2 → Q v H2) → te σ H1 Q
theorem er_ev {te : TE} {σ : L2.St} {H : Hp} {v : V} {P : V → Hp → Prop} (h : Ev te σ H v) (hp : ∀ H1, Ex H H1 → P v H1) : EvR te σ H P := fun H1 e Q q => h H1 e Q fun H2 e2 => q v H2 e2 (hp H2 (e.trans e2))
theorem EvR.mono {te : TE} {σ : L2.St} {H H' : Hp} {P : V → Hp → Prop} (e : Ex H H') (h : EvR te σ H P) : EvR te σ H' P := fun H1 a Q q => h H1 (e.trans a) Q q
theorem EvR.imp {te : TE} {σ : L2.St} {H : Hp} {P P' : V → Hp → Prop} (h : EvR te σ H P) (i : ∀ v H1, P v H1 → P' v H1) : EvR te σ H P' := fun H1 a Q q => h H1 a Q fun v H2 e p => q v H2 e (i v H2 p)
theorem er_L {te : TE} {σ : L2.St} {H : Hp} {xs : List V} (h : EvL te σ H xs) : EvR te σ H fun v H1 => ∃ p, v = .ref p ∧ H1 p = some (.lst xs) := fun H1 e Q q => h H1 e Q fun p H2 _ e2 hp => q _ H2 e2 ⟨p, rfl, hp⟩
theorem s_asgR {te : TE} {D : Ends} {σ : L2.St} {H : Hp} {i : Nat} {P : V → Hp → Prop} (h : EvR te σ H P) (k : ∀ v H1, Ex H H1 → P v H1 → D.nx (σ.set i (some v)) H1) : tAsg te (gName i) D σ H := h H (Ex.refl H) _ fun v H1 e p => k v H1 e p
theorem q_asgR {te : TE} {tz : TS} {D : Ends} {σ : L2.St} {H : Hp} {i : Nat} {P : V → Hp → Prop} (h : EvR te σ H P) (k : ∀ v H1, Ex H H1 → P v H1 → tz D (σ.set i (some v)) H1) : tSeq (tAsg te (gName i)) tz D σ H := s_asgR (D := { D with nx := tz D }) h k
theorem s_retR {te : TE} {D : Ends} {σ : L2.St} {H : Hp} {P : V → Hp → Prop} (h : EvR te σ H P) (k : ∀ v H1, Ex H H1 → P v H1 → D.rt v H1) : tRet te D σ H := h H (Ex.refl H) _ fun v H1 e p => k v H1 e p
theorem for_via {K : PySem.W.Frag} {tl : TE} {g : TG} {tu : TS} {D : Ends} {σ : L2.St} {H : Hp} {P : V → Hp → Prop} (h : EvR tl σ H P) (k : ∀ v H1, Ex H H1 → P v H1 → tFor (iList K (tC v)) g tu D σ H1) : tFor (iList K tl) g tu D σ H :=
  h H (Ex.refl H) _ fun v H1 e p => k v H1 e p
theorem q_forVia {K : PySem.W.Frag} {tl : TE} {g : TG} {tu tz : TS} {D : Ends} {σ : L2.St} {H : Hp} {P : V → Hp → Prop} (h : EvR tl σ H P) (k : ∀ v H1, Ex H H1 → P v H1 → tSeq (tFor (iList K (tC v)) g tu) tz D σ H1) : tSeq (tFor (iList K tl) g tu) tz D σ H :=
  h H (Ex.refl H) _ fun v H1 e p => k v H1 e p
theorem ev_int {σ : L2.St} {H : Hp} {te : TE} {z : Int} (h : Ev te σ H (.int z)) : Ev (tCB (fun xs H Q => (∃ i, xs = [V.int i] ∧ Q (V.int i) H) ∨ ∃ k, xs = [V.bl k] ∧ Q (V.int (if k = true then 1 else 0)) H) (tCons te tNil)) σ H (.int z) :=
  ev_cb (ea_cons h ea_nil) fun H1 _ _ q => .inl ⟨_, rfl, q H1 (Ex.refl H1)⟩
theorem el_rep {σ : L2.St} {H : Hp} {te tn : TE} {z k : Int} (h : Ev te σ H (.int z)) (hn : Ev tn σ H (.int k)) (hk : 0 ≤ k ∧ k ≤ 100000) : EvL (tOp rRep (tLst (tCons te tNil)) tn) σ H ((List.replicate k.toNat z).map V.int) := fun H1 e Q q =>
  el_lst (ea_cons h ea_nil) (by show 1 ≤ 100000; decide) H1 e _ fun p H2 hp e2 h2 => hn H2 (e.trans e2) _ fun H3 e3 => ⟨p, k, [.int z], rfl, rfl, e3 _ _ h2, by omega, by omega, by
    show 1 * k.toNat ≤ sizeLine
    exact Nat.le_trans (show 1 * k.toNat ≤ 100000 by omega) (by decide), fun l hl => q l _ (fresh_back (e2.trans e3) hl) ((e2.trans e3).trans (Ex.new hl)) (by
    rw [upd_same]
    have rp : ∀ m : Nat, (List.replicate m [V.int z]).flatten = (List.replicate m z).map V.int := fun m => by
      induction m with
      | zero => rfl
      | succ m ih => rw [List.replicate_succ, List.flatten_cons, ih, List.replicate_succ, List.map_cons]; rfl
    rw [rp])⟩
theorem er_call {sp : Sp} {dvs vs : List V} {E : XK} {ta : TA} {σ : L2.St} {H : Hp} {P : V → Hp → Prop} (h : EvA ta σ H vs) (hs : ∀ H1, Ex H H1 → ∀ Q : VK, (∀ v H2, Ex H1 H2 → P v H2 → Q v H2) → sp (vs ++ dvs) H1 Q E) : EvR (tCall sp dvs E ta) σ H P :=
  fun H1 e Q q => h H1 e _ fun H2 e2 => hs H2 (e.trans e2) Q fun v H3 e3 p => q v H3 (e2.trans e3) p
theorem el_cat {σ : L2.St} {H : Hp} {ta tb : TE} {xs ys : List V} (h1 : EvL ta σ H xs) (h2 : EvL tb σ H ys) (hz : xs.length + ys.length ≤ 100000) : EvL (tOp rCat ta tb) σ H (xs ++ ys) := fun H1 e Q q =>
  h1 H1 e _ fun a H2 ha e2 g2 => h2 H2 (e.trans e2) _ fun b H3 hb e3 g3 => ⟨a, b, xs, ys, rfl, rfl, e3 _ _ g2, g3, sz_of hz, fun p hp => q p _ (fresh_back (e2.trans e3) hp) ((e2.trans e3).trans (Ex.new hp)) upd_same⟩
theorem atI_last {α : Type} {xs : List α} {z : α} (h : xs.getLast? = some z) : atI xs (-1) = some z := by
  cases xs with
  | nil => cases h
  | cons x r =>
    rw [List.getLast?_eq_getElem?] at h
    unfold atI ixN
    rw [if_neg (by omega), if_pos (by rw [List.length_cons]; omega)]
    show (x :: r)[((-1 : Int) + ((x :: r).length : Int)).toNat]? = some z
    rw [← h]
    congr 1
    rw [List.length_cons]
    omega
/-- an if whose test fails -/
theorem q_skip {t : TT} {tu tz : TS} {D : Ends} {σ : L2.St} {H : Hp} (h : EvT t σ H false) (k : ∀ H1, Ex H H1 → tz D σ H1) : tSeq (tIfS t tu tNext) tz D σ H := q_when h (fun z => Bool.noConfusion z) fun _ H1 e => k H1 e
/-- .. whose test holds and that returns -/
theorem q_take {t : TT} {tu tz : TS} {D : Ends} {σ : L2.St} {H : Hp} (h : EvT t σ H true) (k : ∀ H1, Ex H H1 → tu { D with nx := tz D } σ H1) : tSeq (tIfS t tu tNext) tz D σ H := q_when h (fun _ H1 e => k H1 e) fun z => Bool.noConfusion z
theorem et_notT {t : TT} {σ : L2.St} {H : Hp} (h : EvT t σ H true) : EvT (tNot t) σ H false := et_not h
theorem et_orF {t u : TT} {σ : L2.St} {H : Hp} (h : EvT t σ H false) (h2 : EvT u σ H false) : EvT (tOr t u) σ H false := et_or h fun _ => h2
theorem et_andF {t u : TT} {σ : L2.St} {H : Hp} (h : EvT t σ H false) : EvT (tAnd t u) σ H false := et_and (b := true) h fun z => Bool.noConfusion z
theorem et_andT {t u : TT} {σ : L2.St} {H : Hp} {b : Bool} (h : EvT t σ H true) (h2 : EvT u σ H b) : EvT (tAnd t u) σ H b := et_and h fun _ => h2
theorem ev_ix {K : PySem.W.Frag} {σ : L2.St} {H : Hp} {ta tb : TE} {p : Addr} {xs : List V} {i : Int} {v : V} (ha : Ev ta σ H (.ref p)) (hb : Ev tb σ H (.int i)) (h : SqL K H p xs) (hv : atI xs i = some v) : Ev (tOp (rIxL K) ta tb) σ H v := ev_op ha hb (rv_ixL h hv)
theorem rv_isK {x : V} {H : Hp} {b : Bool} : RV rIsK x (.bl b) H (.bl (decide (x = .bl b))) := fun H1 _ _ q => ⟨b, rfl, q H1 (Ex.refl H1)⟩
def rIsNotK : R2 := fun x y H Q => ∃ b : Bool, y = .bl b ∧ Q (.bl (!decide (x = .bl b))) H
theorem op_isNotK {X : Cx} : OpR X (compareOp .IsNot) rIsNotK := by
  intro pins s σ H x y v u Q I rx ry h
  obtain ⟨b, hy, q⟩ := h
  subst hy
  cases (show u = Value.bool b from ry)
  have fin : ∀ k : Bool, k = (!decide (x = V.bl b)) → EP X pins σ Q (.bool k) s := fun k e => ⟨.bl k, H, I, rfl, by rw [e]; exact q⟩
  cases x with
  | non => cases (show v = Value.none from rx); exact wpAny_isNot_other rfl (fun z => by cases z) (fin _ (by simp))
  | bl a =>
    cases (show v = Value.bool a from rx)
    by_cases e : a = b
    · subst e; exact wpAny_isNot_self rfl (fin _ (by simp))
    · exact wpAny_isNot_other rfl (fun z => e (Value.bool.inj z)) (fin _ (by simp [e]))
  | int i => obtain ⟨t, ev⟩ := rx; subst ev; exact wpAny_isNot_other rfl (fun z => by cases z) (fin _ (by simp))
  | str i => obtain ⟨t, ev⟩ := rx; subst ev; exact wpAny_isNot_other rfl (fun z => by cases z) (fin _ (by simp))
  | byt i => obtain ⟨t, ev⟩ := rx; subst ev; exact wpAny_isNot_other rfl (fun z => by cases z) (fin _ (by simp))
  | flt i => obtain ⟨t, ev⟩ := rx; subst ev; exact wpAny_isNot_other rfl (fun z => by cases z) (fin _ (by simp))
  | ref a => cases (show v = Value.ref a from rx); exact wpAny_isNot_other rfl (fun z => by cases z) (fin _ (by simp))
  | ty n => cases (show v = Value.type n from rx); exact wpAny_isNot_other rfl (fun z => by cases z) (fin _ (by simp))
theorem rv_isNotK {x : V} {H : Hp} {b : Bool} : RV rIsNotK x (.bl b) H (.bl (!decide (x = .bl b))) := fun H1 _ _ q => ⟨b, rfl, q H1 (Ex.refl H1)⟩
theorem drawn_cons {m : Int} {ms ds : List Int} (h : Drawn (m :: ms) ds) : ∃ d r, ds = d :: r ∧ (0 ≤ d ∧ d < m) ∧ Drawn ms r := by
  obtain ⟨hl, g⟩ := h
  cases ds with
  | nil => cases hl
  | cons d r =>
    obtain ⟨d', e, h0, h1⟩ := g 0 m rfl
    cases e
    exact ⟨d, r, rfl, ⟨h0, h1⟩, by simpa using hl, fun i x hx => g (i + 1) x hx⟩
theorem drawn_nil {ds : List Int} (h : Drawn [] ds) : ds = [] := List.length_eq_zero_iff.mp h.1
/-! ### new things: what holds of them in each heap that has what is new -/
def NewP (P : Hp → Prop) (H H' : Hp) : Prop := ∀ G : Hp, (∀ b o, H b = none → H' b = some o → G b = some o) → P G
def EvNew (te : TE) (σ : L2.St) (H : Hp) (P : V → Hp → Prop) : Prop := ∀ H1, Ex H H1 → ∀ Q : VK, (∀ v H2, Ex H1 H2 → NewP (P v) H1 H2 → Q v H2) → te σ H1 Q
theorem NewP.self {P : Hp → Prop} {H H' : Hp} (h : NewP P H H') : P H' := h H' fun _ _ _ e => e
theorem NewP.out {P : Hp → Prop} {H H1 H2 H3 : Hp} (h : NewP P H1 H2) (e : Ex H H1) (e' : Ex H2 H3) : NewP P H H3 := fun G g => h G fun b o h1 h2 => g b o (fresh_back e h1) (e' _ _ h2)
theorem EvNew.er {te : TE} {σ : L2.St} {H : Hp} {P : V → Hp → Prop} (h : EvNew te σ H P) : EvR te σ H P := fun H1 e Q q => h H1 e Q fun v H2 e2 n => q v H2 e2 n.self
theorem EvNew.imp {te : TE} {σ : L2.St} {H : Hp} {P P' : V → Hp → Prop} (h : EvNew te σ H P) (i : ∀ v G, P v G → P' v G) : EvNew te σ H P' := fun H1 e Q q => h H1 e Q fun v H2 e2 n => q v H2 e2 fun G g => i v G (n G g)
theorem en_L {te : TE} {σ : L2.St} {H : Hp} {xs : List V} (h : EvL te σ H xs) : EvNew te σ H fun v G => ∃ p, v = .ref p ∧ G p = some (.lst xs) := fun H1 e Q q => h H1 e Q fun p H2 hp e2 h2 => q _ H2 e2 fun G g => ⟨p, rfl, g p _ hp h2⟩
theorem en_ev {te : TE} {σ : L2.St} {H : Hp} {v : V} {P : V → Prop} (h : Ev te σ H v) (p : P v) : EvNew te σ H fun v _ => P v := fun H1 e Q q => h H1 e Q fun H2 e2 => q v H2 e2 fun _ _ => p
/-- what a comprehension keeps: its list at D, each item with its property whatever D holds -/
def Kept (P : Nat → V → Hp → Prop) (H1 : Hp) (D : Addr) (i : Nat) (H : Hp) : Prop := H1 D = none ∧ Ex H1 H ∧ ∃ vs : List V, H D = some (.lst vs) ∧ vs.length = i ∧ ∀ (k : Nat) x, vs[k]? = some x → ∀ G : Hp, (∀ b o, b ≠ D → H1 b = none → H b = some o → G b = some o) → P k x G
theorem kept_turn {P : Nat → V → Hp → Prop} {H1 H : Hp} {D : Addr} {i : Nat} {te : TE} {σ2 : L2.St} (p : Kept P H1 D i H) (hi : i < 50000) (he : EvNew te σ2 H1 (P i)) :
    tYes σ2 H fun b H3 => if b = true then te σ2 H3 fun y H4 => ∃ acc, H4 D = some (.lst acc) ∧ acc.length < sizeLine ∧ Kept P H1 D (i + 1) (upd H4 D (.lst (acc ++ [y]))) else Kept P H1 D (i + 1) H3 := by
  obtain ⟨p1, p2, vs, p3, p4, p5⟩ := p
  show te σ2 H fun y H4 => ∃ acc, H4 D = some (.lst acc) ∧ acc.length < sizeLine ∧ Kept P H1 D (i + 1) (upd H4 D (.lst (acc ++ [y])))
  refine he H p2 _ fun y H4 e4 hy => ⟨vs, e4 _ _ p3, sz_lt (by omega), p1, Ex.mut (p2.trans e4) p1, vs ++ [y], upd_same, by simp [p4], fun k x hk G g => ?_⟩
  by_cases hki : k < vs.length
  · rw [List.getElem?_append_left hki] at hk
    exact p5 k x hk G fun b o hb h1 h2 => g b o hb h1 (by rw [upd_ne hb]; exact e4 _ _ h2)
  · have hlt := (List.getElem?_eq_some_iff.mp hk).1
    rw [List.length_append] at hlt
    have hlt' : k < vs.length + 1 := hlt
    have e : k = i := by omega
    subst e
    rw [List.getElem?_append_right (by omega), ← p4, Nat.sub_self] at hk
    cases hk
    refine hy G fun b o h1 h2 => ?_
    have hb : b ≠ D := fun e => by rw [e, p3] at h1; cases h1
    exact g b o hb (fresh_back p2 h1) (by rw [upd_ne hb]; exact h2)
theorem kept_end {P : Nat → V → Hp → Prop} {H1 H : Hp} {D : Addr} {n : Nat} (p : Kept P H1 D n H) : NewP (fun G => ∃ vs : List V, G D = some (.lst vs) ∧ vs.length = n ∧ ∀ (k : Nat) x, vs[k]? = some x → P k x G) H1 H := fun G g => by
  obtain ⟨p1, p2, vs, p3, p4, p5⟩ := p
  exact ⟨vs, g D _ p1 p3, p4, fun k x hk => p5 k x hk G fun b o _ h1 h2 => g b o h1 h2⟩
/-- a list whose items have a property -/
def ListP (n : Nat) (P : Nat → V → Hp → Prop) (v : V) (G : Hp) : Prop := ∃ (p : Addr) (vs : List V), v = .ref p ∧ G p = some (.lst vs) ∧ vs.length = n ∧ ∀ (k : Nat) x, vs[k]? = some x → P k x G
theorem en_lcR1 {σ : L2.St} {H : Hp} {te : TE} {ta : TA} {j : Nat} {vs : List Nat} {n : Int} (P : Nat → V → Hp → Prop) (h : EvA ta σ H [.int n]) (hn : 0 ≤ n ∧ n ≤ 40000) (hw : ∀ x, wipe ((wipe σ vs).set j (some x)) vs = wipe σ vs)
    (he : ∀ (i : Nat) H1, Ex H H1 → (i : Int) < n → EvNew te ((wipe σ vs).set j (some (.int (i : Int)))) H1 (P i)) : EvNew (tLc (iRng1 ta) (gName j) tYes te vs) σ H (ListP n.toNat P) := fun H0 e Q q => h H0 e _ fun H1 e1 => ⟨n, rfl, by omega, by omega, fun Dl hD =>
  lc_range (lo := 0) (n := n.toNat) (Kept P H1 Dl) ⟨hD, Ex.new hD, [], upd_same, rfl, fun k x hk => by cases hk⟩ (fun i H' hi p => by
    have e0 : (0 : Int) + (i : Int) = (i : Int) := Int.zero_add _
    show wipe ((wipe σ vs).set j (some (.int ((0 : Int) + (i : Int))))) vs = wipe σ vs ∧ tYes ((wipe σ vs).set j (some (.int ((0 : Int) + (i : Int))))) H' fun b H3 => if b = true then te ((wipe σ vs).set j (some (.int ((0 : Int) + (i : Int))))) H3 fun y H4 => ∃ acc, H4 Dl = some (.lst acc) ∧ acc.length < sizeLine ∧ Kept P H1 Dl (i + 1) (upd H4 Dl (.lst (acc ++ [y]))) else Kept P H1 Dl (i + 1) H3
    rw [e0]
    exact ⟨hw _, kept_turn p (by omega) (he i H1 (e.trans e1) (by omega))⟩)
    (fun H' p => q _ H' (e1.trans p.2.1) fun G g => by
      obtain ⟨ws, h1, h2, h3⟩ := (kept_end p).out e1 (Ex.refl _) G g
      exact ⟨Dl, ws, rfl, h1, h2, h3⟩)⟩
theorem en_lcL {K : PySem.W.Frag} {σ : L2.St} {H : Hp} {te tl : TE} {j : Nat} {vs : List Nat} {xs : List V} (P : Nat → V → Hp → Prop) (h : EvR tl σ H fun v H1 => ∃ a, v = .ref a ∧ SqL K H1 a xs) (hz : xs.length ≤ 40000) (hw : ∀ x, wipe ((wipe σ vs).set j (some x)) vs = wipe σ vs)
    (he : ∀ (i : Nat) (x : V) H1, Ex H H1 → xs[i]? = some x → EvNew te ((wipe σ vs).set j (some x)) H1 (P i)) : EvNew (tLc (iList K tl) (gName j) tYes te vs) σ H (ListP xs.length P) := fun H0 e Q q => h H0 e _ fun v H1 e1 hv => by
  obtain ⟨a, rfl, hx⟩ := hv
  exact ⟨a, rfl, ⟨xs, hx⟩, fun Dl hD =>
    lc_list (xs := xs) (Kept P H1 Dl) ⟨hD, Ex.new hD, [], upd_same, rfl, fun k x hk => by cases hk⟩ (fun i H' _ p => ex_l p.2.1 hx) (fun i x H' hi p => ⟨hw x, kept_turn p (by have := (List.getElem?_eq_some_iff.mp hi).1; omega) (he i x H1 (e.trans e1) hi)⟩)
    (fun H' p => q _ H' (e1.trans p.2.1) fun G g => by
      obtain ⟨ws, h1, h2, h3⟩ := (kept_end p).out e1 (Ex.refl _) G g
      exact ⟨Dl, ws, rfl, h1, h2, h3⟩)⟩

/-! ### order of data -/
def rLtD (K : PySem.W.Frag) : R2 := fun x y H Q => ∃ d e, Dp K H x d ∧ Dp K H y e ∧ PySem.W.alike d e = true ∧ d ≠ .none ∧ d.depth ≤ 64 ∧ Q (.bl (PySem.W.dataLt d e)) H
def rLeD (K : PySem.W.Frag) : R2 := fun x y H Q => ∃ d e, Dp K H x d ∧ Dp K H y e ∧ PySem.W.alike d e = true ∧ d ≠ .none ∧ d.depth ≤ 64 ∧ Q (.bl (!PySem.W.dataLt e d)) H
theorem op_ltD {X : Cx} {K : PySem.W.Frag} (hu : X.A.units + 64 < cLine) (hk : X.K = K := by rfl) : OpR X (compareOp .Lt) (rLtD K) := by
  subst hk
  intro pins s σ H x y v u Q I rx ry h
  obtain ⟨d, e, hd, he, al, dn, dp, q⟩ := h
  obtain ⟨as, r1⟩ := Dp.reads I d x v hd rx
  obtain ⟨bs, r2⟩ := Dp.reads I e y u he ry
  exact PySem.W.rcLt_alike d e X.A s v u as bs r1 r2 al dn (by have := Nat.min_le_left d.depth e.depth; omega) X.prog X.w X.xe (EP X pins σ Q) ⟨.bl _, H, I, rfl, q⟩
theorem op_leD {X : Cx} {K : PySem.W.Frag} (hu : X.A.units + 64 < cLine) (hk : X.K = K := by rfl) : OpR X (compareOp .LtE) (rLeD K) := by
  subst hk
  intro pins s σ H x y v u Q I rx ry h
  obtain ⟨d, e, hd, he, al, dn, dp, q⟩ := h
  obtain ⟨as, r1⟩ := Dp.reads I d x v hd rx
  obtain ⟨bs, r2⟩ := Dp.reads I e y u he ry
  exact PySem.W.rcLe_alike d e X.A s v u as bs r1 r2 al dn (by have := Nat.min_le_left d.depth e.depth; omega) X.prog X.w X.xe (EP X pins σ Q) ⟨.bl _, H, I, rfl, q⟩
theorem alike_ints : ∀ xs ys : List Int, PySem.W.alikeAll (xs.map PyData.int) (ys.map PyData.int) = true
  | [], [] => by simp [PySem.W.alikeAll]
  | [], y :: ys => by simp [PySem.W.alikeAll]
  | x :: xs, [] => by simp [PySem.W.alikeAll]
  | x :: xs, y :: ys => by simp [PySem.W.alikeAll, PySem.W.alike, alike_ints xs ys]

/-! ### what holds of a value in each heap that has what stood before and what is new -/
def Since (H H' G : Hp) : Prop := ∀ b o, H b = none → H' b = some o → G b = some o
def EvB (te : TE) (σ : L2.St) (H : Hp) (P : V → Hp → Prop) : Prop := ∀ H1, Ex H H1 → ∀ Q : VK, (∀ v H2, Ex H1 H2 → (∀ G, Ex H G → Since H1 H2 G → P v G) → Q v H2) → te σ H1 Q
theorem EvNew.eb {te : TE} {σ : L2.St} {H : Hp} {P : V → Hp → Prop} (h : EvNew te σ H P) : EvB te σ H P := fun H1 e Q q => h H1 e Q fun v H2 e2 n => q v H2 e2 fun G _ g => n G g
theorem EvB.er {te : TE} {σ : L2.St} {H : Hp} {P : V → Hp → Prop} (h : EvB te σ H P) : EvR te σ H P := fun H1 e Q q => h H1 e Q fun v H2 e2 n => q v H2 e2 (n H2 (e.trans e2) fun _ _ _ z => z)
theorem EvB.imp {te : TE} {σ : L2.St} {H : Hp} {P P' : V → Hp → Prop} (h : EvB te σ H P) (i : ∀ v G, Ex H G → P v G → P' v G) : EvB te σ H P' := fun H1 e Q q => h H1 e Q fun v H2 e2 n => q v H2 e2 fun G a g => i v G a (n G a g)
theorem eb_ev {te : TE} {σ : L2.St} {H : Hp} {v : V} {P : V → Hp → Prop} (h : Ev te σ H v) (p : ∀ G, Ex H G → P v G) : EvB te σ H P := fun H1 e Q q => h H1 e Q fun H2 e2 => q v H2 e2 fun G a _ => p G a
theorem eb_L {K : PySem.W.Frag} {te : TE} {σ : L2.St} {H : Hp} {xs : List V} (h : EvL te σ H xs) : EvB te σ H fun v G => ∃ p, v = .ref p ∧ SqL K G p xs := ((en_L h).imp fun v G ⟨p, a, b⟩ => ⟨p, a, sq_of b⟩).eb
theorem eb_held {K : PySem.W.Frag} {σ : L2.St} {H : Hp} {i : Nat} {p : Addr} {xs : List V} (h : σ[i]? = some (some (.ref p))) (hp : SqL K H p xs) : EvB (tVar i) σ H fun v G => ∃ p, v = .ref p ∧ SqL K G p xs := eb_ev (ev_var h) fun G e => ⟨p, rfl, ex_l e hp⟩
/-! ### what is walked, whatever it is -/
def EvI (wi : TI) (σ : L2.St) (H : Hp) (n : Nat) (Y : Nat → Hp → V → Hp → Prop) : Prop := ∀ H1, Ex H H1 → ∀ R : It → Hp → Prop, (∀ J H2, Ex H1 H2 → Walk J n (fun G => Ex H G ∧ Since H1 H2 G) Y → R J H2) → wi σ H1 R
theorem ei_list {K : PySem.W.Frag} {σ : L2.St} {H : Hp} {tl : TE} {xs : List V} (h : EvB tl σ H fun v G => ∃ p, v = .ref p ∧ SqL K G p xs) : EvI (iList K tl) σ H xs.length (YAt xs) := fun H1 e R r => h H1 e _ fun v H2 e2 hv => by
  obtain ⟨a, rfl, hx⟩ := hv H2 (e.trans e2) fun _ _ _ z => z
  exact ⟨a, rfl, ⟨xs, hx⟩, r _ _ e2 (walk_list.mono (fun G g => by
    obtain ⟨b, eb, hb⟩ := hv G g.1 g.2
    cases eb
    exact hb) fun _ _ _ _ _ _ y => y)⟩
theorem ei_tup {K : PySem.W.Frag} {σ : L2.St} {H : Hp} {tl : TE} {xs : List V} (h : EvB tl σ H fun v G => ∃ p, v = .ref p ∧ SqT K G p xs) : EvI (iTup K tl) σ H xs.length (YAt xs) := fun H1 e R r => h H1 e _ fun v H2 e2 hv => by
  obtain ⟨a, rfl, hx⟩ := hv H2 (e.trans e2) fun _ _ _ z => z
  exact ⟨a, rfl, ⟨xs, hx⟩, r _ _ e2 (walk_tup.mono (fun G g => by
    obtain ⟨b, eb, hb⟩ := hv G g.1 g.2
    cases eb
    exact hb) fun _ _ _ _ _ _ y => y)⟩
theorem ei_rng1 {σ : L2.St} {H : Hp} {ta : TA} {n : Int} (h : EvA ta σ H [.int n]) (hn : -100000 ≤ n ∧ n ≤ 100000) : EvI (iRng1 ta) σ H n.toNat (YFn fun i => .int (i : Int)) := fun H1 e R r => h H1 e _ fun H2 e2 =>
  ⟨n, rfl, by omega, by omega, r _ _ e2 (walk_range.mono (fun _ _ => True.intro) fun i G x G' _ _ y => ⟨y.1, by rw [y.2]; simp⟩)⟩
theorem ei_rng2 {σ : L2.St} {H : Hp} {ta : TA} {lo hi : Int} (h : EvA ta σ H [.int lo, .int hi]) (hn : (-100000 ≤ lo ∧ lo ≤ 100000) ∧ -100000 ≤ hi ∧ hi ≤ 100000) : EvI (iRng2 ta) σ H (hi - lo).toNat (YFn fun i => .int (lo + (i : Int))) := fun H1 e R r => h H1 e _ fun H2 e2 =>
  ⟨lo, hi, rfl, by omega, r _ _ e2 (walk_range.mono (fun _ _ => True.intro) fun i G x G' _ _ y => y)⟩
theorem ei_zip {K : PySem.W.Frag} {σ : L2.St} {H : Hp} {ta tb : TE} {xs ys : List V} {n : Nat} (h1 : EvB ta σ H fun v G => ∃ p, v = .ref p ∧ SqL K G p xs) (h2 : EvB tb σ H fun v G => ∃ p, v = .ref p ∧ SqL K G p ys) (hn : n = min xs.length ys.length) :
    EvI (iZip K (tCons ta (tCons tb tNil))) σ H n (YPair (fun i => xs[i]?) fun i => ys[i]?) := fun H1 e R r => h1 H1 e _ fun v H2 e2 hv => h2 H2 (e.trans e2) _ fun w H3 e3 hw => by
  have p1 : ∀ G, Ex H G → Since H1 H3 G → ∃ p, v = .ref p ∧ SqL K G p xs := fun G a g => hv G a fun b o z1 z2 => g b o z1 (e3 _ _ z2)
  have p2 : ∀ G, Ex H G → Since H1 H3 G → ∃ p, w = .ref p ∧ SqL K G p ys := fun G a g => hw G a fun b o z1 z2 => g b o (fresh_back e2 z1) z2
  have e3' := (e.trans e2).trans e3
  obtain ⟨a, rfl, hx⟩ := p1 H3 e3' fun _ _ _ z => z
  obtain ⟨b, rfl, hy⟩ := p2 H3 e3' fun _ _ _ z => z
  exact ⟨a, b, xs, ys, rfl, hx, hy, r _ _ (e2.trans e3) ((walk_zip hn).mono (fun G g => by
    obtain ⟨a', ea, ha⟩ := p1 G g.1 g.2
    obtain ⟨b', eb, hb⟩ := p2 G g.1 g.2
    cases ea
    cases eb
    exact ⟨ha, hb⟩) fun _ _ _ _ _ _ y => y)⟩
theorem ei_enum {K : PySem.W.Frag} {σ : L2.St} {H : Hp} {ta : TE} {xs : List V} (h : EvB ta σ H fun v G => ∃ p, v = .ref p ∧ SqL K G p xs) : EvI (iEnum K (tCons ta tNil)) σ H xs.length (YPair (fun i => some (.int (i : Int))) fun i => xs[i]?) := fun H1 e R r => h H1 e _ fun v H2 e2 hv => by
  obtain ⟨a, rfl, hx⟩ := hv H2 (e.trans e2) fun _ _ _ z => z
  exact ⟨a, xs, rfl, hx, r _ _ e2 (walk_enum.mono (fun G g => by
    obtain ⟨b, eb, hb⟩ := hv G g.1 g.2
    cases eb
    exact hb) fun _ _ _ _ _ _ y => y)⟩
theorem walk_ex {J : It} {n : Nat} {H H1 H2 : Hp} {Y : Nat → Hp → V → Hp → Prop} (e : Ex H H1) (e2 : Ex H1 H2) (w : Walk J n (fun G => Ex H G ∧ Since H1 H2 G) Y) : Walk J n (Ex H2) Y := w.mono (fun G g => ⟨(e.trans e2).trans g, fun b o _ z => g _ _ z⟩) fun _ _ _ _ _ _ y => y
/-- what a target binds at each turn -/
def BdG (g : TG) (σ : L2.St) (n : Nat) (Y : Nat → Hp → V → Hp → Prop) (τ : Nat → L2.St) : Prop := ∀ i H x H' (k : L2.St → Hp → Prop), i < n → Y i H x H' → (Ex H H' → k (τ i) H') → g x σ H' k
theorem bd_at {σ : L2.St} {n j : Nat} {xs : List V} : BdG (gName j) σ n (YAt xs) fun i => σ.set j (xs[i]?) := fun i H x H' k _ y c => by
  obtain ⟨rfl, hx⟩ := y
  show k (σ.set j (some x)) H'
  rw [← hx]
  exact c (Ex.refl _)
theorem bd_fn {σ : L2.St} {n j : Nat} {f : Nat → V} : BdG (gName j) σ n (YFn f) fun i => σ.set j (some (f i)) := fun i H x H' k _ y c => by
  obtain ⟨rfl, rfl⟩ := y
  exact c (Ex.refl _)
theorem bd_pair {K : PySem.W.Frag} {σ : L2.St} {n a b : Nat} {xs ys : Nat → Option V} : BdG (gTup K 2 (gCons (gName a) (gCons (gName b) gNil))) σ n (YPair xs ys) fun i => (σ.set a (xs i)).set b (ys i) := fun i H x H' k _ y c => by
  obtain ⟨T, u, v, rfl, hT, rfl, hu, hv⟩ := y
  refine ⟨T, [u, v], rfl, st_of upd_same, rfl, u, [v], rfl, v, [], rfl, rfl, ?_⟩
  rw [← hu, ← hv]
  exact c (Ex.new hT)
section
variable {wi : TI} {g : TG} {tt : TT} {te : TE} {tu tz : TS} {σ : L2.St} {H : Hp} {D : Ends} {n : Nat} {Y : Nat → Hp → V → Hp → Prop} {vs : List Nat} {τ : Nat → L2.St}
theorem s_forI (h : EvI wi σ H n Y) (k : ∀ H2, Ex H H2 → ∃ Pv : Nat → L2.St → Hp → Prop, Pv 0 σ H2 ∧ (∀ i σ' H', i ≤ n → Pv i σ' H' → Ex H2 H') ∧
    (∀ i x σ' H' H'', i < n → Pv i σ' H' → Y i H' x H'' → g x σ' H'' fun σ2 H3 => tu { D with nx := Pv (i + 1), ct := Pv (i + 1), bk := D.nx } σ2 H3) ∧ ∀ σ' H', Pv n σ' H' → D.nx σ' H') : tFor wi g tu D σ H :=
  h H (Ex.refl H) _ fun J H2 e2 w => by
    obtain ⟨Pv, h0, hG, hs, hd⟩ := k H2 e2
    exact for_it (walk_ex (Ex.refl H) e2 w) Pv h0 hG (fun i x σ' H' H'' hi p y => hs i x σ' H' H'' hi p y) hd
theorem q_forI (h : EvI wi σ H n Y) (k : ∀ H2, Ex H H2 → ∃ Pv : Nat → L2.St → Hp → Prop, Pv 0 σ H2 ∧ (∀ i σ' H', i ≤ n → Pv i σ' H' → Ex H2 H') ∧
    (∀ i x σ' H' H'', i < n → Pv i σ' H' → Y i H' x H'' → g x σ' H'' fun σ2 H3 => tu { D with nx := Pv (i + 1), ct := Pv (i + 1), bk := tz D } σ2 H3) ∧ ∀ σ' H', Pv n σ' H' → tz D σ' H') : tSeq (tFor wi g tu) tz D σ H := s_forI (D := { D with nx := tz D }) h k
/-- a comprehension that tests and tells plain values -/
theorem el_lc (f : Nat → Bool) (v : Nat → V) (h : EvI wi σ H n Y) (hn : n ≤ 40000) (hb : BdG g (wipe σ vs) n Y τ) (hw : ∀ i, i < n → wipe (τ i) vs = wipe σ vs)
    (ht : ∀ i H1, i < n → Ex H H1 → EvT tt (τ i) H1 (f i)) (he : ∀ i H1, i < n → Ex H H1 → f i = true → Ev te (τ i) H1 (v i)) : EvL (tLc wi g tt te vs) σ H (given n f v) := fun H0 e0 Q q =>
  h H0 e0 _ fun J H2 e2 w Dl hD => lc_it (walk_ex e0 e2 w) (Cw H2 f v Dl) ⟨hD, Ex.new hD, upd_same⟩ (fun i H' _ c => c.2.1)
    (fun i x H' H'' hi c y => hb i H' x H'' _ hi y fun e => ⟨hw i hi, by
      have c' : Cw H2 f v Dl i H'' := ⟨c.1, c.2.1.trans e, e _ _ c.2.2⟩
      exact cw_turn c' (by omega) (ht i H2 hi (e0.trans e2)) (fun hf => he i H2 hi (e0.trans e2) hf)⟩)
    (fun H' c => q Dl H' (fresh_back e2 c.1) (e2.trans c.2.1) c.2.2)
/-- .. that tells new things -/
theorem en_lc (P : Nat → V → Hp → Prop) (h : EvI wi σ H n Y) (hn : n ≤ 40000) (hb : BdG g (wipe σ vs) n Y τ) (hw : ∀ i, i < n → wipe (τ i) vs = wipe σ vs)
    (he : ∀ i H1, i < n → Ex H H1 → EvNew te (τ i) H1 (P i)) : EvNew (tLc wi g tYes te vs) σ H (ListP n P) := fun H0 e0 Q q =>
  h H0 e0 _ fun J H2 e2 w Dl hD => lc_it (walk_ex e0 e2 w) (Kept P H2 Dl) ⟨hD, Ex.new hD, [], upd_same, rfl, fun k x hk => by cases hk⟩ (fun i H' _ c => c.2.1)
    (fun i x H' H'' hi c y => hb i H' x H'' _ hi y fun e => ⟨hw i hi, by
      obtain ⟨c1, c2, us, c3, c4, c5⟩ := c
      have c' : Kept P H2 Dl i H'' := ⟨c1, c2.trans e, us, e _ _ c3, c4, fun k z hk G gg => c5 k z hk G fun b o hb h1 h2 => gg b o hb h1 (e _ _ h2)⟩
      exact kept_turn c' (by omega) (he i H2 hi (e0.trans e2))⟩)
    (fun H' c => q _ H' (e2.trans c.2.1) fun G gg => by
      obtain ⟨ws, h1, h2, h3⟩ := (kept_end c).out e2 (Ex.refl _) G gg
      exact ⟨Dl, ws, rfl, h1, h2, h3⟩)
theorem given_all {n : Nat} {v : Nat → V} : given n (fun _ => true) v = (List.range n).map v := by
  unfold given
  rw [List.filter_eq_self.mpr fun _ _ => rfl]
theorem yes_T : EvT tYes σ H true := fun H1 _ Q q => q H1 (Ex.refl H1)
/-- two sources, one within the other: all values in their order -/
theorem el_lc2 {wi1 : TI} {g1 : TG} {vs1 : List Nat} {n1 : Nat → Nat} {Y1 : Nat → Nat → Hp → V → Hp → Prop} {τ1 : Nat → Nat → L2.St} (v : Nat → Nat → V) (N : Nat) (h : EvI wi σ H n Y) (hN : N ≤ 1000000) (hz : ∀ i, i ≤ n → ((List.range i).flatMap fun i => (List.range (n1 i)).map (v i)).length ≤ N) (hb : BdG g (wipe σ vs) n Y τ) (hw : ∀ i, i < n → wipe (τ i) vs = wipe σ vs)
    (h1 : ∀ i H1, i < n → Ex H H1 → EvI wi1 (τ i) H1 (n1 i) (Y1 i)) (hb1 : ∀ i, i < n → BdG g1 (wipe (τ i) vs1) (n1 i) (Y1 i) (τ1 i)) (hw1 : ∀ i j, i < n → j < n1 i → wipe (τ1 i j) vs1 = wipe (τ i) vs1)
    (he : ∀ i j H1, i < n → j < n1 i → Ex H H1 → Ev te (τ1 i j) H1 (v i j)) : EvL (tLc2 wi g tYes wi1 g1 tYes te vs vs1) σ H ((List.range n).flatMap fun i => (List.range (n1 i)).map (v i)) := fun H0 e0 Q q =>
  h H0 e0 _ fun J H2 e2 w Dl hD => by
    let All : Nat → List V := fun i => (List.range i).flatMap fun i => (List.range (n1 i)).map (v i)
    have all_succ : ∀ i, All (i + 1) = All i ++ (List.range (n1 i)).map (v i) := fun i => by
      show List.flatMap _ (List.range (i + 1)) = _
      rw [List.range_succ, List.flatMap_append]
      simp [All]
    let Pv : Nat → Hp → Prop := fun i H' => H2 Dl = none ∧ Ex H2 H' ∧ H' Dl = some (.lst (All i))
    refine ⟨fun i m H' => m = n - i ∧ i ≤ n ∧ Pv i H', ⟨n, by simp, Nat.zero_le _, hD, Ex.new hD, upd_same⟩, ?_⟩
    have w' := walk_ex e0 e2 w
    rintro i m H' ⟨rfl, hi, p⟩
    by_cases hlt : i < n
    · refine .inr ⟨w'.goes i H' hlt p.2.1, Pv (i + 1), fun H'' p' => ⟨n - (i + 1), by omega, rfl, hlt, p'⟩, fun x H'' y => hb i H' x H'' _ hlt (w'.yields i H' x H'' hlt p.2.1 y) fun e => ⟨hw i hlt, ?_⟩⟩
      show wi1 (τ i) H'' _
      refine h1 i H2 hlt (e0.trans e2) H'' (p.2.1.trans e) _ fun J1 H3 e3 w1 => ?_
      let Pw : Nat → Hp → Prop := fun j G => (∀ b o, b ≠ Dl → H3 b = some o → G b = some o) ∧ Ex H2 G ∧ G Dl = some (.lst (All i ++ (List.range j).map (v i)))
      have q3 : Ex H2 H3 := (p.2.1.trans e).trans e3
      have inner : ∀ j G, Pw j G → Ex H2 G ∧ Since H'' H3 G := fun j G pw => ⟨pw.2.1, fun b o z1 z2 => pw.1 b o (fun z => by rw [z, e _ _ p.2.2] at z1; cases z1) z2⟩
      refine ⟨fun j m G => m = n1 i - j ∧ j ≤ n1 i ∧ Pw j G, ⟨n1 i, by simp, Nat.zero_le _, fun b o _ z => z, q3, by rw [(e.trans e3) _ _ p.2.2]; simp⟩, ?_⟩
      rintro j m G ⟨rfl, hj, pw⟩
      by_cases hjl : j < n1 i
      · refine .inr ⟨w1.goes j G hjl (inner j G pw), Pw (j + 1), fun G' pw' => ⟨n1 i - (j + 1), by omega, rfl, hjl, pw'⟩, fun x1 G' y1 => ?_⟩
        refine hb1 i hlt j G x1 G' _ hjl (w1.yields j G x1 G' hjl (inner j G pw) y1) fun eG => ⟨hw1 i j hlt hjl, ?_⟩
        show te (τ1 i j) G' _
        refine he i j H2 hlt hjl (e0.trans e2) G' (pw.2.1.trans eG) _ fun G4 e4 => ⟨_, (eG.trans e4) _ _ pw.2.2, ?_, ?_⟩
        · have s1 := hz (i + 1) (by omega)
          have s2 : (All (i + 1)).length ≤ N := s1
          rw [all_succ] at s2
          simp only [List.length_append, List.length_map, List.length_range] at s2 ⊢
          exact Nat.lt_of_le_of_lt (show _ ≤ 1000000 by omega) (by decide)
        · refine ⟨fun b o hb' z => by rw [upd_ne hb']; exact (eG.trans e4) _ _ (pw.1 b o hb' z), Ex.mut (pw.2.1.trans (eG.trans e4)) hD, ?_⟩
          rw [upd_same, List.range_succ, List.map_append, ← List.append_assoc]
          rfl
      · have ej : j = n1 i := by omega
        subst ej
        refine .inl ⟨w1.stops G (inner _ G pw), p.1, pw.2.1, ?_⟩
        rw [pw.2.2, all_succ]
    · have e : i = n := by omega
      subst e
      exact .inl ⟨w'.stops H' p.2.1, q Dl H' (fresh_back e2 p.1) (e2.trans p.2.1) p.2.2⟩
end

theorem pi_listK {X : Cx} {K : PySem.W.Frag} {tg l : Expr} {tl : TE} (hl : PE X l tl) (hk : X.K = K := by rfl) : PI X tg l (iList K tl) := by subst hk; exact pi_list hl
theorem cr_allK {X : Cx} {K : PySem.W.Frag} (hc : X.calm = true) (hk : X.K = K := by rfl) : CallR X (.builtin "all") (rAll K) := by subst hk; exact cr_all hc
theorem cr_sumK {X : Cx} {K : PySem.W.Frag} (hc : X.calm = true) (hk : X.K = K := by rfl) : CallR X (.builtin "sum") (rSum K) := by subst hk; exact cr_sum hc
theorem ev_sumN {K : PySem.W.Frag} {σ : L2.St} {H : Hp} {te : TE} {ns : List Int} (h : EvL te σ H (ns.map V.int)) : Ev (tCB (rSum K) (tCons te tNil)) σ H (.int ns.sum) := fun H1 e Q q => h H1 e _ fun p H2 _ e2 hp => ⟨p, ns, rfl, sq_of hp, q H2 e2⟩
/-- either of two rules of a call -/
def rOr (r1 r2 : List V → Hp → VK → Prop) : List V → Hp → VK → Prop := fun xs H Q => r1 xs H Q ∨ r2 xs H Q
theorem call_or {X : Cx} {f : Value} {r1 r2 : List V → Hp → VK → Prop} (h1 : CallR X f r1) (h2 : CallR X f r2) : CallR X f (rOr r1 r2) := fun pins s σ H xs us Q I r h => h.elim (h1 pins s σ H xs us Q I r) (h2 pins s σ H xs us Q I r)

/-! ### lots -/
def lotF (n : Int) (l : Addr) : List (Str × V) := [("hours", .int n), ("_members", .ref l)]
/-- v is a lot of n hours with the members ms -/
def LotAt (C : Addr) (H : Hp) (v : V) (n : Int) (ms : List Int) : Prop := ∃ a dx l, v = .ref a ∧ H a = some (.ins C dx (lotF n l)) ∧ H l = some (.lst (ms.map V.int))
theorem LotAt.ex {C : Addr} {H H' : Hp} {v : V} {n : Int} {ms : List Int} (e : Ex H H') (h : LotAt C H v n ms) : LotAt C H' v n ms := by
  obtain ⟨a, dx, l, rfl, h1, h2⟩ := h
  exact ⟨a, dx, l, rfl, e _ _ h1, e _ _ h2⟩
/-- the first residue that was seen before -/
def scanR (n : Int) : List Int → List Int → Option Int
  | _, [] => none
  | seen, m :: r => if m % n ∈ seen then some (m % n) else scanR n (seen ++ [m % n]) r
def resid (n : Int) (S : List Int) : List Int := pick n.toNat (fun h => decide ((h : Int) ∈ S)) fun h => (h : Int)
def flags (N : Nat) (S : List Int) : List V := (List.range N).map fun h : Nat => V.bl (decide ((h : Int) ∈ S))
theorem flags_nil (N : Nat) : (List.replicate N [V.bl false]).flatten = flags N [] := by
  unfold flags
  induction N with
  | zero => rfl
  | succ N ih =>
    rw [List.range_succ, List.map_append, ← ih, List.replicate_succ', List.flatten_append]
    simp
theorem flags_get {N : Nat} {S : List Int} {j : Nat} (h : j < N) : (flags N S)[j]? = some (.bl (decide ((j : Int) ∈ S))) := by
  unfold flags
  rw [List.getElem?_map, List.getElem?_range h]
  rfl
theorem flags_len {N : Nat} {S : List Int} : (flags N S).length = N := by
  unfold flags
  rw [List.length_map, List.length_range]
theorem flags_set {N : Nat} {S : List Int} {j : Nat} (h : j < N) : (flags N S).set j (.bl true) = flags N (S ++ [(j : Int)]) := by
  refine List.ext_getElem? fun i => ?_
  by_cases hi : i < N
  · rw [flags_get hi]
    by_cases e : i = j
    · subst e
      rw [List.getElem?_set_self (by rw [flags_len]; exact hi)]
      simp
    · rw [List.getElem?_set_ne (by omega), flags_get hi]
      have : ¬ (i : Int) = (j : Int) := by omega
      simp [this]
  · rw [List.getElem?_eq_none (by rw [List.length_set, flags_len]; omega), List.getElem?_eq_none (by rw [flags_len]; omega)]
theorem el_rng1 {σ : L2.St} {H : Hp} {te : TE} {tt : TT} {ta : TA} {j : Nat} {vs : List Nat} {n : Int} (f : Nat → Bool) (v : Nat → V) (h : EvA ta σ H [.int n]) (hn : 0 ≤ n ∧ n ≤ 40000)
    (hw : ∀ x, wipe ((wipe σ vs).set j (some x)) vs = wipe σ vs)
    (ht : ∀ (i : Nat) H1, Ex H H1 → (i : Int) < n → EvT tt ((wipe σ vs).set j (some (.int (i : Int)))) H1 (f i))
    (he : ∀ (i : Nat) H1, Ex H H1 → (i : Int) < n → f i = true → Ev te ((wipe σ vs).set j (some (.int (i : Int)))) H1 (v i)) :
    EvL (tLc (iRng1 ta) (gName j) tt te vs) σ H (given n.toNat f v) := el_lcR1 f v h hn hw ht he
theorem putF2 {y z : V} : putF "_members" z (putF "hours" y []) = [(("hours" : Str), y), (("_members" : Str), z)] := by
  have h : ¬ ("hours" : Str) = "_members" := by decide +kernel
  show (if ("hours" : Str) = "_members" then _ else (("hours" : Str), y) :: putF "_members" z []) = _
  rw [if_neg h]
  rfl

/-! ### for x in o, o of a class whose __iter__ tells the iterator of a list that o holds -/
/-- a def whose promise may speak of the number of objects that stand when it is called -/
structure FnS (P : Program) (w : World) (K : PySem.W.Frag) (mg : Str → Option Value) (base : Heap) (k : Nat) (f : Addr) (fd : FuncData) (ps : List Str) (sp : Nat → Sp) : Prop where
  go : ∀ (A : Around) (outer : List Env) (s : Shared) (H : Hp) (args : Args) (us : List Value) (vs : List V) (Q : VK) (E : XK),
    Room k A → Env0 P w K mg base A outer s H → BindsTo s fd args (ps.zip us) → Vals vs us → sp s.heap.objs.size vs H Q E →
    codeAny (model P w) A (.call (.ref f) args) (CR CX0 outer P w H s Q E) s
theorem fnS_mk {P : Program} {w : World} {K : PySem.W.Frag} {mg : Str → Option Value} {base : Heap} {x qual : Str} {st : Stmt} {f : Addr} {fd : FuncData} {N ps : List Str} {k : Nat} {sp : Nat → Sp}
    (F : Fun K x qual st f fd) (S : FnScope N ps (defScope st)) (len : ∀ n vs H Q E, sp n vs H Q E → vs.length = ps.length)
    (bd : ∀ (cdv : Value) (A : Around) (outer : List Env) (s : Shared) (H : Hp) (vs : List V) (Q : VK) (E : XK),
      Room k (A.deeper (PyProof.Rows.envOfC qual (defScope st) s.heap.objs.size f cdv)) → sp s.heap.objs.size vs H Q E →
      ∃ t, PSs (cxOf CX0 P w K mg base N qual (defScope st) f cdv A outer s H E) (defBody st) t ∧ t { nx := fun _ H' => Q .non H', rt := Q } (L2.start N vs) H) : FnS P w K mg base (k + 1) f fd ps sp := by
  obtain ⟨oc, od, kV, doc, pm, an, cdv, ct, osl, rfl, lk, hcd⟩ := F.ex
  constructor
  intro A outer s H args us vs Q E hr e0 hb rv hsp
  have many := len _ _ _ _ _ hsp
  have held : K.In s.heap := e0.mod.kin.keeps fun b o e => (e0.bs b o e).1
  have wide : s.heap.NoLimit := e0.mod.nolimit.keeps fun b o e => (e0.bs b o e).1
  have kinds : ∀ y ∈ ps.zip us, (defScope st).names.lookup y.1 = some .local ∨ ((defScope st).names.lookup y.1 = some .cell ∧ ((cellsFrom (s.heap.objs.size + 1) (defScope st).names []).lookup y.1).isSome = true) := by
    rintro ⟨n, v⟩ hy
    cases S.par n (List.of_mem_zip hy).1 with
    | inl q => exact .inl q
    | inr q => exact .inr ⟨q, PySem.W.cellsFrom_some _ _ _ (.inl q)⟩
  refine codeAny_call_function hr.depth (held _ _ lk) rfl S.co S.gen rfl (PySem.W.codeRec_of held hcd)
    (hb _ _ _ _ ?_)
  refine wpAny_newFunctionEnv_cells S.kind kinds fun env he s1 x1 => ?_
  cases he
  refine ⟨wide.keeps x1.toInCall.keep, codeAny_func ?_⟩
  obtain ⟨t, ht, hq⟩ := bd cdv A outer s H vs Q E (hr.deeper _) hsp
  have I := inv_start (E := E) (CX := CX0) S hr.hd e0 many rv x1
  refine wpAny_mono (ht.run [] s1 (L2.start N vs) H _ I hq) (fun fl s' hs => ?_) (fun e s' hs => hs)
  cases fl with
  | ret u =>
    obtain ⟨v, σ', H', J, r, q⟩ := hs
    exact ⟨v, H', J.os, J.bare, J.base, J.hok, r, q⟩
  | next =>
    obtain ⟨σ', H', J, q⟩ := hs
    exact ⟨V.non, H', J.os, J.bare, J.base, J.hok, rfl, q⟩
  | brk => obtain ⟨_, _, _, q⟩ := hs; exact q.elim
  | cont => obtain ⟨_, _, _, q⟩ := hs; exact q.elim
def spIt (K : PySem.W.Frag) (C : Addr) (fld : Str) (n : Nat) : Sp := fun vs H Q _ => ∃ (a dx l : Addr) (fs : List (Str × V)) (xs : List V), vs = [.ref a] ∧ H a = some (.ins C dx fs) ∧ fs.lookup fld = some (.ref l) ∧ SqL K H l xs ∧
  ∀ it, H it = none → n ≤ it → Q (.ref it) (upd H it (ItO l it 0))
/-- the list that o holds -/
def tOwn (C : Addr) (fld : Str) (te : TE) : TE := fun σ H Q => te σ H fun x H1 => ∃ (a dx l : Addr) (fs : List (Str × V)), x = .ref a ∧ H1 a = some (.ins C dx fs) ∧ fs.lookup fld = some (.ref l) ∧ Q (.ref l) H1
theorem ev_own {σ : L2.St} {H : Hp} {te : TE} {C a dx l : Addr} {fld : Str} {fs : List (Str × V)} (h : Ev te σ H (.ref a)) (hi : H a = some (.ins C dx fs)) (hl : fs.lookup fld = some (.ref l)) : Ev (tOwn C fld te) σ H (.ref l) := fun H1 e Q q =>
  h H1 e _ fun H2 e2 => ⟨a, dx, l, fs, rfl, e2 _ _ (e _ _ hi), hl, q H2 e2⟩
theorem pi_own {X : Cx} {K : PySem.W.Frag} {tg e : Expr} {te : TE} {C f : Addr} {fd : FuncData} {fld : Str} {n : Nat} (hk : X.K = K) (he : PE X e te) (hm : Meth K C "__iter__" f)
    (F : FnS X.prog X.w X.K X.mg X.base n f fd ["self"] (spIt K C fld)) (hr : Room n X.A) (hb : Binds X.K fd ["self"] []) : PI X tg e (iList K (tOwn C fld te)) := by
  subst hk
  refine ⟨fun pins s σ H R I h => ?_⟩
  refine thn (he.run pins s σ H _ I h) fun u s1 ⟨x, H1, I1, rx, a, dx, l, fs, ex, ea, el, l', e2, ⟨xs, hq⟩, q⟩ => ?_
  subst ex
  cases e2
  obtain rfl : u = Value.ref a := rx
  obtain ⟨mA, J0, _⟩ := ins_get I1.hok ea
  obtain ⟨od, J, _⟩ := J0.look
  obtain ⟨m, hF⟩ := I1.fr
  refine PySem.W.owit_iter hF I1.ok.mod.kin J hm.at_ hm.fn ?_
  have h2 := hb s1 [.ref a] I1.kIn rfl
  refine wpAny_call (codeAny_mono (F.go X.A X.stack s1 H1 ⟨[.ref a], []⟩ [.ref a] [.ref a] (fun v H' => ∃ it, v = .ref it ∧ H1 it = none ∧ s1.heap.objs.size ≤ it ∧ H' = upd H1 it (ItO l it 0)) E0 hr I1.env0 (by simpa using h2) (.cons rfl .nil)
    ⟨a, dx, l, fs, xs, rfl, ea, el, hq, fun it hit hn => ⟨it, rfl, hit, hn, rfl⟩⟩) fun r s' hce => ?_)
  cases r with
  | error e => exact False.elim hce
  | ok fl =>
    cases fl with
    | next => exact False.elim hce
    | brk => exact False.elim hce
    | cont => exact False.elim hce
    | ret u =>
      obtain ⟨v, H2, I2, rv, it, ev, hit, hsz, eH⟩ := I1.after hce
      subst ev eH
      cases rv
      have hi : (upd H1 it (ItO l it 0)) it = some (ItO l it 0) := upd_same
      have eo := itO_get I2 hi
      have hT : s'.TypeIs (.ref it) "list_iterator" := ⟨_, eo, rfl⟩
      show PySem.W.OwitIt _ _ _ _ (Value.ref it) s'
      unfold PySem.W.OwitIt
      refine wpAny_specialOf (name := Str.ofString "__next__") hT slot_listiter_next.lookup ?_
      have I3 := ItX.inv_drop I2 hi
      refine ⟨it, [it], _, _, _, rfl, I3, turn_list l it, ⟨_, eo, rfl, rfl⟩, fun b hb => ?_, ?_⟩
      · have e : b = it := by simpa using hb
        rw [e]
        exact ItX.inv_fp I2 hi (Nat.le_trans I1.sz hsz)
      · rw [ItX.dropH_upd hit]
        exact q

/-! ### ascending hours -/
def Asc (lo hi : Int) (xs : List Int) : Prop := xs.Pairwise (· < ·) ∧ ∀ x ∈ xs, lo ≤ x ∧ x < hi
theorem Asc.nil {lo hi : Int} : Asc lo hi [] := ⟨.nil, fun x h => by cases h⟩
theorem Asc.append {lo mid mid' hi : Int} {xs ys : List Int} (h : Asc lo mid xs) (g : Asc mid' hi ys) (h1 : lo ≤ mid') (h2 : mid ≤ mid') (h3 : mid ≤ hi) : Asc lo hi (xs ++ ys) := by
  refine ⟨List.pairwise_append.mpr ⟨h.1, g.1, fun x hx y hy => ?_⟩, fun x hx => ?_⟩
  · have := h.2 x hx
    have := g.2 y hy
    omega
  · rcases List.mem_append.mp hx with hx | hx
    · have := h.2 x hx
      omega
    · have := g.2 x hx
      omega
theorem Asc.mono {lo hi lo' hi' : Int} {xs : List Int} (h : Asc lo hi xs) (h1 : lo' ≤ lo) (h2 : hi ≤ hi') : Asc lo' hi' xs := ⟨h.1, fun x hx => by have := h.2 x hx; omega⟩
theorem Asc.filter {lo hi : Int} {xs : List Int} (p : Int → Bool) (h : Asc lo hi xs) : Asc lo hi (xs.filter p) := ⟨h.1.filter p, fun x hx => h.2 x (List.mem_filter.mp hx).1⟩
theorem asc_range {f : Nat → Bool} : ∀ n : Nat, Asc 0 (n : Int) (pick n f fun i => (i : Int))
  | 0 => by unfold pick; exact .nil
  | n + 1 => by
    rw [pick_succ]
    refine (asc_range n).append (mid' := (n : Int)) ?_ (by omega) (by omega) (by omega)
    by_cases h : f n = true
    · rw [if_pos h]
      exact ⟨List.pairwise_singleton _ _, fun x hx => by cases List.mem_singleton.mp hx; omega⟩
    · rw [if_neg h]
      exact .nil
theorem Asc.len {xs : List Int} : ∀ {lo hi : Int}, Asc lo hi xs → (xs.length : Int) ≤ max 0 (hi - lo) := by
  induction xs with
  | nil => intro lo hi _; simp; omega
  | cons x xs ih =>
    intro lo hi h
    have hx := h.2 x List.mem_cons_self
    have h' : Asc (x + 1) hi xs := ⟨(List.pairwise_cons.mp h.1).2, fun y hy => by
      have a := (List.pairwise_cons.mp h.1).1 y hy
      have b := h.2 y (List.mem_cons_of_mem _ hy)
      omega⟩
    have := ih h'
    simp only [List.length_cons]
    omega
theorem asc_shift {c : Int} {bs : List Int} (p : Int → Bool) (h : Asc 0 25 bs) : Asc c (c + 25) ((bs.filter p).map fun b => c + b) := by
  have hf := h.filter p
  refine ⟨List.pairwise_map.mpr (hf.1.imp fun {a b} hab => by show c + a < c + b; omega), fun x hx => ?_⟩
  obtain ⟨b, hb, rfl⟩ := List.mem_map.mp hx
  have := hf.2 b hb
  omega
theorem rg_pick (n : Int) : rgV 0 n = (pick n.toNat (fun _ => true) fun i => (i : Int)).map V.int := by
  unfold rgV pick
  rw [List.filter_eq_self.mpr fun _ _ => rfl, List.map_map, Int.sub_zero]
  exact List.map_congr_left fun i _ => congrArg V.int (Int.zero_add _)
theorem ev_lenN' {K : PySem.W.Frag} {σ : L2.St} {H : Hp} {ta : TE} {xs : List V} (ha : EvL ta σ H xs) : Ev (tCB (rLenK K) (tCons ta tNil)) σ H (.int (xs.length : Int)) := fun H1 e Q q =>
  ha H1 e _ fun p H2 _ e2 hp => ⟨.ref p, xs.length, rfl, .inl ⟨_, sq_of hp, rfl⟩, q H2 e2⟩
theorem rep_ints (m : Nat) (c : Int) : (List.replicate m [V.int c]).flatten = (List.replicate m c).map V.int := by
  induction m with
  | zero => rfl
  | succ m ih => rw [List.replicate_succ, List.flatten_cons, ih, List.replicate_succ, List.map_cons]; rfl
/-! ### counts of pairs -/
def cntP (n : Int) (P : List (Int × Int)) : List Int := (List.range n.toNat).map fun d : Nat => ((P.filter fun p => decide ((p.1 - p.2) % n = (d : Int))).length : Int)
theorem cntP_nil (n : Int) : (List.replicate n.toNat [V.int 0]).flatten = (cntP n []).map V.int := by
  unfold cntP
  generalize n.toNat = N
  induction N with
  | zero => rfl
  | succ N ih =>
    rw [List.range_succ, List.map_append, List.map_append, List.replicate_succ', List.flatten_append, ih]
    simp
theorem cntP_len {n : Int} {P : List (Int × Int)} : (cntP n P).length = n.toNat := by
  unfold cntP
  rw [List.length_map, List.length_range]
theorem cntP_get {n : Int} {P : List (Int × Int)} {d : Nat} (h : d < n.toNat) : (cntP n P)[d]? = some ((P.filter fun p => decide ((p.1 - p.2) % n = (d : Int))).length : Int) := by
  unfold cntP
  rw [List.getElem?_map, List.getElem?_range h]
  rfl
theorem cntP_set {n x y : Int} {P : List (Int × Int)} {d : Nat} (h : d < n.toNat) (hd : (x - y) % n = (d : Int)) :
    (cntP n P).set d (((P.filter fun p => decide ((p.1 - p.2) % n = (d : Int))).length : Int) + 1) = cntP n (P ++ [(x, y)]) := by
  refine List.ext_getElem? fun i => ?_
  by_cases hi : i < n.toNat
  · rw [cntP_get hi]
    by_cases e : i = d
    · subst e
      rw [List.getElem?_set_self (by rw [cntP_len]; exact hi), List.filter_append]
      simp [hd]
    · rw [List.getElem?_set_ne (by omega), cntP_get hi, List.filter_append]
      have : ¬ (d : Int) = (i : Int) := by omega
      simp [hd, this]
  · rw [List.getElem?_eq_none (by rw [List.length_set, cntP_len]; omega), List.getElem?_eq_none (by rw [cntP_len]; omega)]
def prod (xs ys : List Int) : List (Int × Int) := xs.flatMap fun x => ys.map fun y => (x, y)
theorem prod_take {xs ys : List Int} {i : Nat} {x : Int} (h : xs[i]? = some x) : prod (xs.take (i + 1)) ys = prod (xs.take i) ys ++ ys.map fun y => (x, y) := by
  unfold prod
  rw [List.take_succ, h, List.flatMap_append]
  simp

/-! ### ascending lists of hours as members of a lot -/
theorem asc_unique : ∀ {xs ys : List Int}, xs.Pairwise (· < ·) → ys.Pairwise (· < ·) → (∀ z, z ∈ xs ↔ z ∈ ys) → xs = ys
  | [], [], _, _, _ => rfl
  | [], y :: ys, _, _, h => by have := (h y).mpr List.mem_cons_self; cases this
  | x :: xs, [], _, _, h => by have := (h x).mp List.mem_cons_self; cases this
  | x :: xs, y :: ys, hx, hy, h => by
    have hx' := List.pairwise_cons.mp hx
    have hy' := List.pairwise_cons.mp hy
    have e : x = y := by
      have a : y ≤ x := by
        rcases List.mem_cons.mp ((h x).mp List.mem_cons_self) with z | z
        · omega
        · have := hy'.1 x z; omega
      have b : x ≤ y := by
        rcases List.mem_cons.mp ((h y).mpr List.mem_cons_self) with z | z
        · omega
        · have := hx'.1 y z; omega
      omega
    subst e
    rw [asc_unique hx'.2 hy'.2 fun z => ?_]
    constructor
    · intro hz
      rcases List.mem_cons.mp ((h z).mp (List.mem_cons_of_mem _ hz)) with q | q
      · have := hx'.1 z hz; omega
      · exact q
    · intro hz
      rcases List.mem_cons.mp ((h z).mpr (List.mem_cons_of_mem _ hz)) with q | q
      · have := hy'.1 z hz; omega
      · exact q
theorem asc_mod {n : Int} {xs : List Int} (h : Asc 0 n xs) : (xs.map fun x => x % n) = xs := by
  have e : ∀ x ∈ xs, (fun x => x % n) x = id x := fun x hx => Int.emod_eq_of_lt (h.2 x hx).1 (h.2 x hx).2
  rw [List.map_congr_left e, List.map_id]
theorem asc_resid {n : Int} {xs : List Int} (hn : 0 ≤ n) (h : Asc 0 n xs) : resid n (xs.map fun x => x % n) = xs := by
  rw [asc_mod h]
  unfold resid
  refine asc_unique (asc_range n.toNat).1 h.1 fun z => ?_
  unfold pick
  constructor
  · intro hz
    obtain ⟨i, hi, rfl⟩ := List.mem_map.mp hz
    exact of_decide_eq_true (List.mem_filter.mp hi).2
  · intro hz
    have b := h.2 z hz
    refine List.mem_map.mpr ⟨z.toNat, List.mem_filter.mpr ⟨List.mem_range.mpr (by omega), decide_eq_true ?_⟩, by omega⟩
    rw [show ((z.toNat : Nat) : Int) = z by omega]
    exact hz
theorem asc_scan {n : Int} : ∀ {xs : List Int} (seen : List Int), Asc 0 n xs → (∀ x ∈ xs, x ∉ seen) → scanR n seen xs = none
  | [], _, _, _ => rfl
  | x :: xs, seen, h, hs => by
    have b := h.2 x List.mem_cons_self
    have e : x % n = x := Int.emod_eq_of_lt b.1 b.2
    have hp := List.pairwise_cons.mp h.1
    unfold scanR
    rw [e, if_neg (hs x List.mem_cons_self)]
    refine asc_scan _ ⟨hp.2, fun y hy => h.2 y (List.mem_cons_of_mem _ hy)⟩ fun y hy hm => ?_
    rcases List.mem_append.mp hm with q | q
    · exact hs y (List.mem_cons_of_mem _ hy) q
    · have := hp.1 y hy
      have := List.mem_singleton.mp q
      omega
/-! ### counts two ways -/
def cnt (n : Int) (xs ys : List Int) : List Int := (List.range n.toNat).map fun d : Nat => ((ys.filter fun y => decide ((y + (d : Int)) % n ∈ xs)).length : Int)
theorem mod_turn {n x y d : Int} (hn : 0 < n) (hx : 0 ≤ x ∧ x < n) (hd : 0 ≤ d ∧ d < n) : (x - y) % n = d ↔ (y + d) % n = x := by
  constructor
  · intro h
    have e := Int.emod_add_mul_ediv (x - y) n
    have e2 : y + d = x + n * (-((x - y) / n)) := by rw [Int.mul_neg]; omega
    rw [e2, Int.add_mul_emod_self_left]
    exact Int.emod_eq_of_lt hx.1 hx.2
  · intro h
    have e := Int.emod_add_mul_ediv (y + d) n
    have e2 : x - y = d + n * (-((y + d) / n)) := by rw [Int.mul_neg]; omega
    rw [e2, Int.add_mul_emod_self_left]
    exact Int.emod_eq_of_lt hd.1 hd.2
theorem prod_cons {x : Int} {xs ys : List Int} : prod (x :: xs) ys = (ys.map fun y => (x, y)) ++ prod xs ys := by
  unfold prod
  rw [List.flatMap_cons]
theorem filt_or {ys : List Int} {p q : Int → Bool} (h : ∀ y ∈ ys, ¬ (p y = true ∧ q y = true)) : (ys.filter fun y => p y || q y).length = (ys.filter p).length + (ys.filter q).length := by
  induction ys with
  | nil => rfl
  | cons y ys ih =>
    have := ih fun z hz => h z (List.mem_cons_of_mem _ hz)
    have hy := h y List.mem_cons_self
    simp only [List.filter_cons]
    cases hp : p y <;> cases hq : q y <;> simp [hp, hq] at hy ⊢ <;> omega
theorem pairs_cnt {n : Int} {ys : List Int} (hn : 0 < n) {d : Int} (hd : 0 ≤ d ∧ d < n) : ∀ {xs : List Int}, Asc 0 n xs →
    ((prod xs ys).filter fun p => decide ((p.1 - p.2) % n = d)).length = (ys.filter fun y => decide ((y + d) % n ∈ xs)).length
  | [], _ => by
    have e : (ys.filter fun y => decide ((y + d) % n ∈ ([] : List Int))) = [] := List.filter_eq_nil_iff.mpr fun y _ => by simp
    rw [e]
    rfl
  | x :: xs, h => by
    have hp := List.pairwise_cons.mp h.1
    have hx := h.2 x List.mem_cons_self
    have ih := pairs_cnt (ys := ys) hn hd (xs := xs) ⟨hp.2, fun y hy => h.2 y (List.mem_cons_of_mem _ hy)⟩
    rw [prod_cons, List.filter_append, List.length_append, ih, List.filter_map, List.length_map]
    have e1 : (ys.filter ((fun p : Int × Int => decide ((p.1 - p.2) % n = d)) ∘ fun y => (x, y))) = ys.filter fun y => decide ((y + d) % n = x) :=
      List.filter_congr fun y _ => decide_eq_decide.mpr (mod_turn hn hx hd)
    have e2 : (ys.filter fun y => decide ((y + d) % n ∈ x :: xs)) = ys.filter fun y => decide ((y + d) % n = x) || decide ((y + d) % n ∈ xs) :=
      List.filter_congr fun y _ => by rw [← Bool.decide_or]; exact decide_eq_decide.mpr List.mem_cons
    rw [e1, e2, filt_or]
    rintro y _ ⟨h1, h2⟩
    have h1 := of_decide_eq_true h1
    have h2 := of_decide_eq_true h2
    rw [h1] at h2
    have := hp.1 x h2
    omega
theorem cnt_eq {n : Int} {xs ys : List Int} (hn : 0 < n) (h : Asc 0 n xs) : cntP n (prod xs ys) = cnt n xs ys := by
  unfold cntP cnt
  refine List.map_congr_left fun d hd => ?_
  have := List.mem_range.mp hd
  rw [pairs_cnt hn (by omega) h]
theorem swap_cons {x : Int} {xs : List Int} {r : Int × Int → Bool} : ∀ ys : List Int, ((prod ys (x :: xs)).filter r).length = (ys.filter fun y => r (y, x)).length + ((prod ys xs).filter r).length
  | [] => rfl
  | y :: ys => by
    rw [prod_cons, prod_cons, List.filter_append, List.filter_append, List.length_append, List.length_append, swap_cons ys, List.map_cons, List.filter_cons, List.filter_cons]
    cases r (y, x) <;> simp <;> omega
theorem swap_cnt {ys : List Int} {p : Int × Int → Bool} : ∀ xs : List Int, ((prod xs ys).filter p).length = ((prod ys xs).filter fun q => p (q.2, q.1)).length
  | [] => by
    have e : prod ys [] = [] := by
      unfold prod
      simp
    rw [e]
    rfl
  | x :: xs => by
    rw [prod_cons, List.filter_append, List.length_append, swap_cnt xs, swap_cons, List.filter_map, List.length_map]
    rfl
theorem cnt_back {n : Int} {xs ys : List Int} (hn : 0 < n) (h : Asc 0 n xs) : ((List.range n.toNat).map fun d : Nat => (cnt n xs ys).getD ((0 - (d : Int)) % n).toNat 0) = cntP n (prod ys xs) := by
  rw [← cnt_eq hn h]
  unfold cntP
  refine List.map_congr_left fun d hd => ?_
  have hd' := List.mem_range.mp hd
  have m0 : 0 ≤ (0 - (d : Int)) % n := Int.emod_nonneg _ (by omega)
  have m1 : (0 - (d : Int)) % n < n := Int.emod_lt_of_pos _ hn
  rw [List.getD_eq_getElem?_getD, List.getElem?_map, List.getElem?_range (by omega), Option.map_some, Option.getD_some, swap_cnt]
  have e : (fun q : Int × Int => decide (((q.2, q.1).1 - (q.2, q.1).2) % n = ((((0 - (d : Int)) % n).toNat : Nat) : Int))) = fun q : Int × Int => decide ((q.1 - q.2) % n = (d : Int)) := by
    funext q
    refine decide_eq_decide.mpr ?_
    rw [show ((((0 - (d : Int)) % n).toNat : Nat) : Int) = (0 - (d : Int)) % n by omega]
    show (q.2 - q.1) % n = (0 - (d : Int)) % n ↔ (q.1 - q.2) % n = (d : Int)
    have hd2 : (d : Int) % n = (d : Int) := Int.emod_eq_of_lt (by omega) (by omega)
    constructor
    · intro z
      have := Int.emod_emod_of_dvd (0 - (q.2 - q.1)) (Int.dvd_refl n)
      have z2 : (0 - (q.2 - q.1)) % n = (0 - (0 - (d : Int))) % n := by rw [Int.sub_emod, z, ← Int.sub_emod]
      rw [show q.1 - q.2 = 0 - (q.2 - q.1) by omega, z2, show (0 : Int) - (0 - (d : Int)) = (d : Int) by omega, hd2]
    · intro z
      have z2 : (0 - (q.1 - q.2)) % n = (0 - (d : Int)) % n := by rw [Int.sub_emod, z, ← hd2, ← Int.sub_emod, hd2]
      rw [show q.2 - q.1 = 0 - (q.1 - q.2) by omega, z2]
  rw [e]
theorem inV_ints {i : Int} {xs : List Int} : inV (V.int i) (xs.map V.int) = decide (i ∈ xs) := by
  unfold inV
  induction xs with
  | nil => rfl
  | cons x xs ih =>
    rw [List.map_cons, List.any_cons, ih]
    by_cases h : x = i
    · subst h
      simp [eqV]
    · have h' : ¬ i = x := fun z => h z.symm
      simp [eqV, h, h']

/-! ### operators of own classes -/
section
variable {X : Cx} {CX : CXT} {pins : List (Addr × Obj)} {σ : L2.St} {H : Hp} {s : Shared} {f C : Addr} {fd : FuncData} {ps : List Str} {n : Nat} {sp : Sp}
theorem run_own {E : XK} {Q : VK} {us : List Value} {vs : List V} (F : FnOk X.prog X.w X.K X.mg X.base CX n f fd ps sp) (hr : Room n X.A) (hb : Binds X.K fd ps []) (hx : PassesAt CX X σ E)
    (I : Inv X pins σ H s) (r : Vals vs us) (h : sp vs H Q E) : wpAny (model X.prog X.w) X.A (call (.ref f) us) (PySem.W.CmpBack (EP X pins σ Q)) X.xe s := by
  have hl : us.length = ps.length := by rw [← r.length]; exact F.len _ _ _ _ h
  have b := hb s us I.kIn (by rw [List.append_nil]; exact hl)
  rw [List.append_nil] at b
  refine wpAny_call (codeAny_mono (F.run X.A X.stack s H ⟨us, []⟩ us vs Q E hr I.env0 b r h) fun r s' hq => ?_)
  cases r with
  | error e => exact hx pins H s e s' I hq
  | ok fl =>
    cases fl with
    | ret u =>
      obtain ⟨v, H', I', rv, q⟩ := I.after hq
      exact SlX.cmpback rv ⟨v, H', I', rv, q⟩
    | next => exact False.elim hq
    | brk => exact False.elim hq
    | cont => exact False.elim hq
end
/-- what an own operator asks: x an object of the class at C -/
def rOwn1 (C : Addr) (sp : Sp) (E : L2.St → XK) (σ : L2.St) : V → Hp → VK → Prop := fun x H Q => ∃ a dx fs, x = .ref a ∧ H a = some (.ins C dx fs) ∧ sp [x] H Q (E σ)
/-- .. y an object of the same class -/
def rOwn2 (C : Addr) (sp : Sp) (E : L2.St → XK) (σ : L2.St) : R2 := fun x y H Q => ∃ a dx fs b dy gs, x = .ref a ∧ H a = some (.ins C dx fs) ∧ y = .ref b ∧ H b = some (.ins C dy gs) ∧ sp [x, y] H Q (E σ)
/-- .. y an int -/
def rOwnI (C : Addr) (sp : Sp) (E : L2.St → XK) (σ : L2.St) : R2 := fun x y H Q => ∃ a dx fs i, x = .ref a ∧ H a = some (.ins C dx fs) ∧ y = .int i ∧ sp [x, y] H Q (E σ)
def OpS (X : Cx) (f : Value → Value → Sem Value) (r : L2.St → R2) : Prop :=
  ∀ (pins : List (Addr × Obj)) (s : Shared) (σ : L2.St) (H : Hp) (x y : V) (v u : Value) (Q : VK), Inv X pins σ H s → RelV x v → RelV y u → r σ x y H Q → wpAny (model X.prog X.w) X.A (f v u) (EP X pins σ Q) X.xe s
def UnS (X : Cx) (f : Value → Sem Value) (r : L2.St → V → Hp → VK → Prop) : Prop :=
  ∀ (pins : List (Addr × Obj)) (s : Shared) (σ : L2.St) (H : Hp) (x : V) (v : Value) (Q : VK), Inv X pins σ H s → RelV x v → r σ x H Q → wpAny (model X.prog X.w) X.A (f v) (EP X pins σ Q) X.xe s
def tOpS (r : L2.St → R2) (ta tb : TE) : TE := fun σ H Q => ta σ H fun x H1 => tb σ H1 fun y H2 => r σ x y H2 Q
def tUnS (r : L2.St → V → Hp → VK → Prop) (ta : TE) : TE := fun σ H Q => ta σ H fun x H1 => r σ x H1 Q
section
variable {X : Cx} {CX : CXT} {f C : Addr} {fd : FuncData} {ps : List Str} {n : Nat} {sp : Sp} {E : L2.St → XK} {op : Operator} {a b : Expr} {ta tb : TE} {pos : Pos}
theorem pe_opS {r : L2.St → R2} (ho : OpS X (binaryOp op) r) (ha : PE X a ta) (hb : PE X b tb) : PE X (.BinOp a op b pos) (tOpS r ta tb) := by
  refine ⟨fun pins s σ H Q I h => ?_⟩
  exact wpAny_BinOp (binT ha hb I h fun v u s2 x y H2 I2 rx ry q => ho pins s2 σ H2 x y v u Q I2 rx ry q)
theorem pe_unS {op : UnaryOp} {r : L2.St → V → Hp → VK → Prop} (ho : UnS X (unaryOp op) r) (ha : PE X a ta) : PE X (.UnaryOp op a pos) (tUnS r ta) := by
  refine ⟨fun pins s σ H Q I h => ?_⟩
  exact PyProof.Rows.UnaryOp_ (thn (ha.run pins s σ H _ I h) fun v s1 ⟨x, H1, I1, r1, q1⟩ => ho pins s1 σ H1 x v Q I1 r1 q1)
/-- the facts of a class with operators -/
structure Ops (K : PySem.W.Frag) (C : Addr) : Prop where
  first : PySem.W.selfFirst K C = true
  sub : PySem.W.subIn K (.type "int") (.ref C) = some false
theorem un_negO (m : Meth X.K C "__neg__" f) (F : FnOk X.prog X.w X.K X.mg X.base CX n f fd ps sp) (hr : Room n X.A) (hb : Binds X.K fd ps []) (hx : ∀ σ, PassesAt CX X σ (E σ)) : UnS X (unaryOp .USub) (rOwn1 C sp E) := by
  intro pins s σ H x v Q I rx h
  obtain ⟨a, dx, fs, rfl, ha, h⟩ := h
  cases rx
  obtain ⟨mA, J, _⟩ := ins_get I.hok ha
  obtain ⟨od, J, _⟩ := J.look
  obtain ⟨m', hF⟩ := I.fr
  refine PySem.W.ksp_neg hF I.ok.mod.kin J m.at_ m.fn (wpAny_mono (run_own (vs := [V.ref a]) F hr hb (hx σ) I (.cons rfl .nil) h) (fun v s' hv => ?_) fun _ _ e => e)
  cases v <;> first | exact hv.elim | exact hv
theorem un_invO (m : Meth X.K C "__invert__" f) (F : FnOk X.prog X.w X.K X.mg X.base CX n f fd ps sp) (hr : Room n X.A) (hb : Binds X.K fd ps []) (hx : ∀ σ, PassesAt CX X σ (E σ)) : UnS X (unaryOp .Invert) (rOwn1 C sp E) := by
  intro pins s σ H x v Q I rx h
  obtain ⟨a, dx, fs, rfl, ha, h⟩ := h
  cases rx
  obtain ⟨mA, J, _⟩ := ins_get I.hok ha
  obtain ⟨od, J, _⟩ := J.look
  obtain ⟨m', hF⟩ := I.fr
  refine PySem.W.ksp_inv hF I.ok.mod.kin J m.at_ m.fn (wpAny_mono (run_own (vs := [V.ref a]) F hr hb (hx σ) I (.cons rfl .nil) h) (fun v s' hv => ?_) fun _ _ e => e)
  cases v <;> first | exact hv.elim | exact hv
theorem op_own2 (o : Ops X.K C) (m : Meth X.K C (PySem.dunder op.info.2) f) (F : FnOk X.prog X.w X.K X.mg X.base CX n f fd ps sp) (hr : Room n X.A) (hb : Binds X.K fd ps []) (hx : ∀ σ, PassesAt CX X σ (E σ)) : OpS X (binaryOp op) (rOwn2 C sp E) := by
  intro pins s σ H x y v u Q I rx ry h
  obtain ⟨a, dx, fs, b, dy, gs, rfl, ha, rfl, hb', h⟩ := h
  cases rx
  cases ry
  obtain ⟨mA, J, _⟩ := ins_get I.hok ha
  obtain ⟨od, J, _⟩ := J.look
  obtain ⟨mB, J', _⟩ := ins_get I.hok hb'
  obtain ⟨od', J', _⟩ := J'.look
  obtain ⟨m', hF⟩ := I.fr
  exact PySem.W.binop_K hF I.ok.mod.kin J J'.type o.first m.at_ m.fn (run_own (vs := [V.ref a, V.ref b]) F hr hb (hx σ) I (.cons rfl (.cons rfl .nil)) h)
theorem op_ownI {rc : Option Value} {fo ro : Option Value} (o : Ops X.K C) (m : Meth X.K C (PySem.dunder op.info.2) f) (hrc : PySem.W.findIn X.K (.ref C) (dunderR op.info.2) = some rc) (hp : rc = none ∨ ∃ g : Addr, rc = some (.ref g))
    (h1 : PySem.W.findIn X.K (.type "int") (PySem.dunder op.info.2) = some fo) (h2 : PySem.W.findIn X.K (.type "int") (dunderR op.info.2) = some ro)
    (F : FnOk X.prog X.w X.K X.mg X.base CX n f fd ps sp) (hr : Room n X.A) (hb : Binds X.K fd ps []) (hx : ∀ σ, PassesAt CX X σ (E σ)) : OpS X (binaryOp op) (rOwnI C sp E) := by
  intro pins s σ H x y v u Q I rx ry h
  obtain ⟨a, dx, fs, i, rfl, ha, rfl, h⟩ := h
  cases rx
  obtain ⟨t, rfl⟩ := (show ∃ t, u = Value.int i t from ry)
  obtain ⟨mA, J, _⟩ := ins_get I.hok ha
  obtain ⟨od, J, _⟩ := J.look
  obtain ⟨m', hF⟩ := I.fr
  exact PySem.W.ksp_binT hF I.ok.mod.kin J rfl o.first m.at_ m.fn hrc hp h1 h2 o.sub (run_own (vs := [V.ref a, V.int i]) F hr hb (hx σ) I (.cons rfl (.cons ⟨t, rfl⟩ .nil)) h)
end
section
variable {X : Cx} {CX : CXT} {pins : List (Addr × Obj)} {σ : L2.St} {H : Hp} {s : Shared} {f C : Addr} {fd : FuncData} {ps : List Str} {n : Nat} {sp : Sp}
/-- .. called from a place A below the running body -/
theorem run_ownA {A : Around} {E : XK} {Q : VK} {us : List Value} {vs : List V} (F : FnOk X.prog X.w X.K X.mg X.base CX n f fd ps sp) (hr : Room n A) (hf : A.frames = X.A.frames) (hb : Binds X.K fd ps []) (hx : PassesAt CX X σ E)
    (I : Inv X pins σ H s) (r : Vals vs us) (h : sp vs H Q E) : wpAny (model X.prog X.w) A (call (.ref f) us) (EP X pins σ Q) X.xe s := by
  have hl : us.length = ps.length := by rw [← r.length]; exact F.len _ _ _ _ h
  have b := hb s us I.kIn (by rw [List.append_nil]; exact hl)
  rw [List.append_nil] at b
  have e0 : Env0 X.prog X.w X.K X.mg X.base A X.stack s H := by
    have e := I.env0
    exact ⟨by rw [hf]; exact e.frames, e.mod, e.bs, e.bsz, e.funs, e.frf, e.hok, e.bare⟩
  refine wpAny_call (codeAny_mono (F.run A X.stack s H ⟨us, []⟩ us vs Q E hr e0 b r h) fun r s' hq => ?_)
  cases r with
  | error e => exact hx pins H s e s' I hq
  | ok fl =>
    cases fl with
    | ret u => exact I.after hq
    | next => exact False.elim hq
    | brk => exact False.elim hq
    | cont => exact False.elim hq
theorem ty_looks {x : V} {u t : Value} (I : Inv X pins σ H s) (rx : RelV x u) (ty : TyX X.K H x t) : PySem.W.Looks (model X.prog X.w) s.heap (typeOf u) t := by
  obtain ⟨P, kx, hp, _⟩ := kit_of I rx ty
  exact kx.ty _ _ I.kIn hp
end
/-- x an object of the class at C, y of any known type -/
def rOwnC (K : PySem.W.Frag) (C : Addr) (sp : Sp) (E : L2.St → XK) (σ : L2.St) : R2 := fun x y H Q => ∃ a dx fs tb, x = .ref a ∧ H a = some (.ins C dx fs) ∧ TyX K H y tb ∧ PySem.W.notFirst K C tb = true ∧ sp [x, y] H Q (E σ)
/-- not ==: the other answer -/
def rOwnN (K : PySem.W.Frag) (C : Addr) (sp : Sp) (E : L2.St → XK) (σ : L2.St) : R2 := fun x y H Q => ∃ a dx fs tb, x = .ref a ∧ H a = some (.ins C dx fs) ∧ TyX K H y tb ∧ PySem.W.notFirst K C tb = true ∧ sp [x, y] H (fun v H' => ∃ b, v = .bl b ∧ Q (.bl (!b)) H') (E σ)
/-- y in x, x an object of the class at C -/
def rOwnIn (C : Addr) (sp : Sp) (E : L2.St → XK) (σ : L2.St) : R2 := fun y x H Q => ∃ a dx fs, x = .ref a ∧ H a = some (.ins C dx fs) ∧ sp [x, y] H (fun v H' => ∃ b, v = .bl b ∧ Q (.bl b) H') (E σ)
section
variable {X : Cx} {CX : CXT} {f C : Addr} {fd : FuncData} {ps : List Str} {n : Nat} {sp : Sp} {E : L2.St → XK} {a b : Expr} {ta tb : TE} {pos : Pos}
theorem pe_cmpS {op : CmpOp} {r : L2.St → R2} (ho : OpS X (compareOp op) r) (ha : PE X a ta) (hb : PE X b tb) (hm : behindInMarks op b = false) : PE X (.Compare a [op] [b] pos) (tOpS r ta tb) := by
  refine ⟨fun pins s σ H Q I h => ?_⟩
  exact wpAny_Compare1 (binT ha hb I h fun v u s2 x y H2 I2 rx ry q => ho pins s2 σ H2 x y v u Q I2 rx ry q) hm
theorem pt_cmpS {op : CmpOp} {r : L2.St → R2} (ho : OpS X (compareOp op) r) (ha : PE X a ta) (hb : PE X b tb) (hm : behindInMarks op b = false) : PT X (.Compare a [op] [b] pos) (tTest (tOpS r ta tb)) := by
  refine ⟨fun pins s σ H Q I h => ?_⟩
  refine wpAny_isTrue_Compare1 (thn (ha.run pins s σ H _ I h) fun v s1 ⟨x, H1, I1, r1, q1⟩ => thn (hb.run pins s1 σ H1 _ I1 q1) fun u s2 ⟨y, H2, I2, r2, q2⟩ =>
    thn (ho pins s2 σ H2 x y v u _ I2 r1 r2 q2) fun c s3 ⟨z, H3, I3, r3, k, e, q3⟩ => ?_) hm
  subst e
  cases r3
  exact wpAny_truthy_bool ⟨H3, I3, q3⟩
theorem op_ownC {K : PySem.W.Frag} {op : CmpOp} (hop : ∀ v u, compareOp op v u = richCompare op v u) (m : Meth X.K C (cmpInfo op).2.1 f) (F : FnOk X.prog X.w X.K X.mg X.base CX n f fd ps sp) (hr : Room n X.A) (hb : Binds X.K fd ps []) (hx : ∀ σ, PassesAt CX X σ (E σ))
    (hk : X.K = K := by rfl) : OpS X (compareOp op) (rOwnC K C sp E) := by
  subst hk
  intro pins s σ H x y v u Q I rx ry h
  obtain ⟨a, dx, fs, tb, rfl, ha, ty, nf, h⟩ := h
  cases rx
  obtain ⟨mA, J, _⟩ := ins_get I.hok ha
  obtain ⟨od, J, _⟩ := J.look
  obtain ⟨m', hF⟩ := I.fr
  rw [hop]
  exact PySem.W.cmp_K hr.units0 hF I.ok.mod.kin J (ty_looks I ry ty) nf m.at_ m.fn (run_own (vs := [V.ref a, y]) F hr hb (hx σ) I (.cons rfl (.cons ry .nil)) h)
/-- len of an object with an own __len__ -/
def rOwnLen (C : Addr) (sp : Sp) (E : XK) : List V → Hp → VK → Prop := fun xs H Q => ∃ a dx fs, xs = [.ref a] ∧ H a = some (.ins C dx fs) ∧ sp [.ref a] H (fun v H' => ∃ i : Int, v = .int i ∧ (0 ≤ i ∧ i < 2 ^ 63) ∧ Q (.int i) H') E
theorem call_lenO {E : XK} (m : Meth X.K C "__len__" f) (F : FnOk X.prog X.w X.K X.mg X.base CX n f fd ps sp) (hr : Room (n + 1) X.A) (hb : Binds X.K fd ps []) (hx : ∀ σ, PassesAt CX X σ E) : CallR X (.builtin "len") (rOwnLen C sp E) := by
  intro pins s σ H xs us Q I r h
  obtain ⟨a, dx, fs, rfl, ha, h⟩ := h
  obtain ⟨u, rfl, rx⟩ := vals1 r
  cases rx
  obtain ⟨mA, J, _⟩ := ins_get I.hok ha
  obtain ⟨od, J, _⟩ := J.look
  obtain ⟨m', hF⟩ := I.fr
  refine PySem.W.len_K hF I.ok.mod.kin J m.at_ m.fn (wpAny_mono (run_ownA (vs := [V.ref a]) F hr.in1 rfl hb (hx σ) I (.cons rfl .nil) h) (fun v s' hv => ?_) fun _ _ e => e)
  obtain ⟨z, H', I', rv, i, rfl, hi, q⟩ := hv
  obtain ⟨t, rfl⟩ := (show ∃ t, v = Value.int i t from rv)
  exact ⟨hi, ⟨.int i, H', I'.tok _, ⟨_, rfl⟩, q⟩⟩
theorem op_ownIn (m : Meth X.K C "__contains__" f) (F : FnOk X.prog X.w X.K X.mg X.base CX n f fd ps sp) (hr : Room n X.A) (hb : Binds X.K fd ps []) (hx : ∀ σ, PassesAt CX X σ (E σ)) : OpS X (compareOp .In) (rOwnIn C sp E) := by
  intro pins s σ H y x u v Q I ry rx h
  obtain ⟨a, dx, fs, rfl, ha, h⟩ := h
  cases rx
  obtain ⟨mA, J, _⟩ := ins_get I.hok ha
  obtain ⟨od, J, _⟩ := J.look
  have hX := I.kIn
  have one := run_own (vs := [V.ref a, y]) F hr hb (hx σ) I (.cons rfl (.cons ry .nil)) h
  show wpAny _ _ (do return Value.bool (← contains (.ref a) u)) _ X.xe s
  refine wpAny_bind ?_
  unfold contains
  refine wpAny_holding ?_
  refine wpAny_bind (wpAny_bind (J.type.here ((PySem.W.looks_findIn hX m.at_).here ?_)))
  show wpAny _ _ (if (some (Value.ref f) == some Value.none) = true then _ else _) _ X.xe s
  rw [if_neg (by simp)]
  unfold callSpecialUnlessNone?
  refine wpAny_bind (wpAny_bind (wpAny_bind (J.type.here ((PySem.W.looks_findIn hX m.at_).here ?_))))
  refine wpAny_holding (wpAny_bind ((PySem.W.bind_fn hX _ (beq_iff_eq.mp m.fn)).here ?_))
  show wpAny _ _ (if (Value.ref f == Value.none) = true then _ else _) _ X.xe s
  rw [if_neg (by simp)]
  refine wpAny_bind (wpAny_mono one (fun z s' hz => ?_) fun _ _ e => e)
  have hz' : (EP X pins σ fun v H' => ∃ b, v = .bl b ∧ Q (.bl b) H') z s' := by
    cases z <;> first | exact hz.elim | exact hz
  obtain ⟨v, H', I', rv, b, rfl, q⟩ := hz'
  cases (show z = Value.bool b from rv)
  refine wpAny_pure ?_
  exact wpAny_truthy_bool (wpAny_pure ⟨.bl b, H', I', rfl, q⟩)
end
/-! ### x op= y for classes without the in-place method -/
section
variable {prog : Program} {w : World} {A : Around} {R : Value → Shared → Prop} {s : Shared} {K : PySem.W.Frag} {x C f : Addr} {ox : Obj} {od : Option Obj} {y : Value} {nm : String}
/-- the first class of a class at C is the class itself -/
theorem mro_first (hc : PySem.W.selfFirst K C = true) : ∃ (d : ClassData) (r : List Value), PySem.W.clsIn K C = some d ∧ d.mro = .ref C :: r := by
  obtain ⟨d, hd, e⟩ := PySem.W.any_some hc
  cases q : d.mro with
  | nil => rw [q] at e; cases e
  | cons u r =>
    rw [q] at e
    cases (beq_iff_eq.mp e)
    exact ⟨d, r, hd, q⟩
theorem bin1_own {Q : Option Value → Shared → Prop} (X : K.In s.heap) (I : PySem.W.InstAt s.heap x ox C od) (hy : PySem.W.Looks (model prog w) s.heap (typeOf y) (.ref C)) (hc : PySem.W.selfFirst K C = true)
    (hs : PySem.W.findIn K (.ref C) (PySem.dunder nm) = some (some (.ref f))) (hf : PySem.W.isFn K (.ref f) = true) (h : wpAny (model prog w) A (call (.ref f) [.ref x, y]) (PySem.W.CmpBack fun v => Q (some v)) R s) :
    wpAny (model prog w) A (binaryOp1 nm (.ref x) y) Q R s := by
  obtain ⟨d, r, hd, hm⟩ := mro_first hc
  have fl := PySem.W.fills_K (M := model prog w) X hd hm hs
  unfold binaryOp1
  refine wpAny_bind (I.type.here ?_)
  refine wpAny_bind (hy.here ?_)
  refine wpAny_bind (fl.here ?_)
  simp only [beq_self_eq_true, if_true]
  refine wpAny_bind (wpAny_pure ?_)
  simp only [Bool.and_false, Bool.false_and, Bool.false_eq_true, if_false]
  refine wpAny_bind (wpAny_pure ?_)
  simp only [Bool.false_eq_true, if_false]
  refine wpAny_bind (m := tryMethod (.ref x) _ y) ?_
  unfold tryMethod
  refine wpAny_bind ?_
  refine PySem.W.special_fn X I hs (beq_iff_eq.mp hf) (wpAny_mono h (fun v t hv => ?_) fun _ _ z => z)
  cases v <;> first | exact hv.elim | exact wpAny_pure (wpAny_pure hv)
theorem no_inplace {M : Model} {h : Heap} {add : Bool} (X : K.In h) {d : ClassData} (hd : PySem.W.clsIn K C = some d) (hm : d.mro = [.ref C, .type "object"]) (hc : PySem.W.findIn K (.ref C) (dunderI nm) = some none)
    (ho : PySem.W.findIn K (.type "object") (dunderI nm) = some none) : PySem.W.Looks M h (fillsInplaceSlot (.ref C) nm add) false := by
  intro A Q E s k q
  have Lm : PySem.W.Looks M h (mroOf (.ref C)) d.mro := (PySem.W.looks_clsIn X hd).andThen (f := fun d => pure d.mro) .now
  have X' : K.In s.heap := X.keeps k
  have L1 : PySem.W.Looks M s.heap (typeLookup (.ref C) (dunderI nm)) none := PySem.W.looks_findIn X' hc
  have L2 : PySem.W.Looks M s.heap (typeLookup (.type "object") (dunderI nm)) none := PySem.W.looks_findIn X' ho
  unfold fillsInplaceSlot
  refine wpAny_bind ((Lm.keeps k).here ?_)
  rw [hm, List.anyM_cons]
  refine wpAny_bind (wpAny_bind (L1.here (wpAny_pure ?_)))
  simp only [Bool.false_eq_true, if_false]
  rw [List.anyM_cons]
  refine wpAny_bind (wpAny_bind (L2.here (wpAny_pure ?_)))
  simp only [Bool.false_eq_true, if_false]
  exact wpAny_pure q
theorem inplace_by {op : Operator} {Q : Value → Shared → Prop} (I : PySem.W.InstAt s.heap x ox C od) (L : PySem.W.Looks (model prog w) s.heap (fillsInplaceSlot (.ref C) op.info.2 (op == .Add)) false)
    (h : wpAny (model prog w) A (binaryOp1 op.info.2 (.ref x) y) (fun r t => ∃ v, r = some v ∧ Q v t) R s) : wpAny (model prog w) A (inplaceOp op (.ref x) y) Q R s := by
  unfold inplaceOp
  refine wpAny_holding ?_
  refine wpAny_bind (I.type.here ?_)
  refine wpAny_bind (L.here ?_)
  simp only [Bool.false_eq_true, if_false]
  refine wpAny_bind (wpAny_mono h (fun r t hr => ?_) fun _ _ z => z)
  obtain ⟨v, rfl, q⟩ := hr
  exact wpAny_pure q
theorem bin1_int {i : Int} {t : Tok} {Q : Option Value → Shared → Prop} {rc fo ro : Option Value} (X : K.In s.heap) (I : PySem.W.InstAt s.heap x ox C od) (hc : PySem.W.selfFirst K C = true)
    (hs : PySem.W.findIn K (.ref C) (PySem.dunder nm) = some (some (.ref f))) (hf : PySem.W.isFn K (.ref f) = true) (hr : PySem.W.findIn K (.ref C) (dunderR nm) = some rc) (hp : rc = none ∨ ∃ g : Addr, rc = some (.ref g))
    (h1 : PySem.W.findIn K (.type "int") (PySem.dunder nm) = some fo) (h2 : PySem.W.findIn K (.type "int") (dunderR nm) = some ro) (hsub : PySem.W.subIn K (.type "int") (.ref C) = some false)
    (h : wpAny (model prog w) A (call (.ref f) [.ref x, .int i t]) (PySem.W.CmpBack fun v => Q (some v)) R s) : wpAny (model prog w) A (binaryOp1 nm (.ref x) (.int i t)) Q R s := by
  obtain ⟨d, r, hd, hm⟩ := mro_first hc
  have la : PySem.W.Looks (model prog w) s.heap (fillsNumberSlot (.ref C) nm) true := PySem.W.fills_K X hd hm hs
  have lb : PySem.W.Looks (model prog w) s.heap (fillsNumberSlot (.type "int") nm) ((fo.isSome && !isSeqSlot fo) || (ro.isSome && !isSeqSlot ro)) := PySem.W.ksp_fillsT X h1 h2
  have ls : PySem.W.Looks (model prog w) s.heap (isSubtype (.type "int") (.ref C)) false := PySem.W.looks_subIn X hsub
  have lp : PySem.W.Looks (model prog w) s.heap (numberSlotInPython (.ref C) nm) true := PySem.W.ksp_inPy X hs hr hp
  have lq : PySem.W.Looks (model prog w) s.heap (numberSlotInPython (.type "int") nm) false := PySem.W.Looks.of_pure rfl
  have lt : PySem.W.Looks (model prog w) s.heap (typeLookup (.type "int") (dunderR nm)) ro := PySem.W.looks_findIn X h2
  have ly : PySem.W.Looks (model prog w) s.heap (typeOf (.int i t)) (.type "int") := PySem.W.Looks.of_pure rfl
  generalize ((fo.isSome && !isSeqSlot fo) || (ro.isSome && !isSeqSlot ro)) = right at lb
  have ne : (Value.ref C == Value.type "int") = false := by simp
  have one : wpAny (model prog w) A (tryMethod (.ref x) (PySem.dunder nm) (.int i t)) (fun r s' => ∃ v, r = some v ∧ Q (some v) s') R s := by
    unfold tryMethod
    refine wpAny_bind (PySem.W.special_fn X I hs (beq_iff_eq.mp hf) (wpAny_mono h (fun v s' hv => ?_) fun _ _ z => z))
    cases v <;> first | exact hv.elim | exact wpAny_pure ⟨_, rfl, hv⟩
  unfold binaryOp1
  refine wpAny_bind (I.type.here ?_)
  refine wpAny_bind (ly.here ?_)
  refine wpAny_bind (la.here ?_)
  simp only [ne, Bool.false_eq_true, if_false]
  refine wpAny_bind (lb.here ?_)
  cases right with
  | false =>
    simp only [Bool.and_false, Bool.false_and, Bool.false_eq_true, if_false, if_true]
    refine wpAny_bind (wpAny_pure ?_)
    simp only [Bool.false_eq_true, if_false]
    refine wpAny_bind (wpAny_mono one (fun r s' hr' => ?_) fun _ _ z => z)
    obtain ⟨v, rfl, q⟩ := hr'
    exact wpAny_pure q
  | true =>
    simp only [Bool.and_true, Bool.not_false, if_true]
    refine wpAny_bind (ls.here ?_)
    simp only [Bool.false_eq_true, if_false]
    refine wpAny_bind (lp.here ?_)
    simp only [if_true]
    refine wpAny_bind (lq.here ?_)
    simp only [Bool.not_false, if_true]
    refine wpAny_bind (lt.here ?_)
    refine wpAny_bind (wpAny_mono one (fun r s' hr' => ?_) fun _ _ z => z)
    obtain ⟨v, rfl, q⟩ := hr'
    exact wpAny_pure q
end
/-- what a class without in-place methods has -/
structure NoIn (K : PySem.W.Frag) (C : Addr) (d : ClassData) : Prop where
  at_ : PySem.W.clsIn K C = some d
  mro : d.mro = [.ref C, .type "object"]
section
variable {X : Cx} {CX : CXT} {f C : Addr} {fd : FuncData} {ps : List Str} {n : Nat} {sp : Sp} {E : XK} {op : Operator} {d : ClassData}
theorem ip_own2 (o : Ops X.K C) (ni : NoIn X.K C d) (m : Meth X.K C (PySem.dunder op.info.2) f) (h1 : PySem.W.findIn X.K (.ref C) (dunderI op.info.2) = some none) (h2 : PySem.W.findIn X.K (.type "object") (dunderI op.info.2) = some none)
    (F : FnOk X.prog X.w X.K X.mg X.base CX n f fd ps sp) (hr : Room n X.A) (hb : Binds X.K fd ps []) (hx : ∀ σ, PassesAt CX X σ E) : OpR X (inplaceOp op) (rOwn2 C sp (fun _ => E) []) := by
  intro pins s σ H x y v u Q I rx ry h
  obtain ⟨a, dx, fs, b, dy, gs, rfl, ha, rfl, hb', h⟩ := h
  cases rx
  cases ry
  obtain ⟨mA, J, _⟩ := ins_get I.hok ha
  obtain ⟨od, J, _⟩ := J.look
  obtain ⟨mB, J', _⟩ := ins_get I.hok hb'
  obtain ⟨od', J', _⟩ := J'.look
  refine inplace_by J (no_inplace I.kIn ni.at_ ni.mro h1 h2) (bin1_own I.kIn J J'.type o.first m.at_ m.fn (wpAny_mono (run_own (vs := [V.ref a, V.ref b]) F hr hb (hx σ) I (.cons rfl (.cons rfl .nil)) h) (fun v s' hv => ?_) fun _ _ e => e))
  cases v <;> first | exact hv.elim | exact ⟨_, rfl, hv⟩
theorem ip_ownI {rc fo ro : Option Value} (o : Ops X.K C) (ni : NoIn X.K C d) (m : Meth X.K C (PySem.dunder op.info.2) f) (hi1 : PySem.W.findIn X.K (.ref C) (dunderI op.info.2) = some none) (hi2 : PySem.W.findIn X.K (.type "object") (dunderI op.info.2) = some none)
    (hrc : PySem.W.findIn X.K (.ref C) (dunderR op.info.2) = some rc) (hp : rc = none ∨ ∃ g : Addr, rc = some (.ref g)) (h1 : PySem.W.findIn X.K (.type "int") (PySem.dunder op.info.2) = some fo) (h2 : PySem.W.findIn X.K (.type "int") (dunderR op.info.2) = some ro)
    (F : FnOk X.prog X.w X.K X.mg X.base CX n f fd ps sp) (hr : Room n X.A) (hb : Binds X.K fd ps []) (hx : ∀ σ, PassesAt CX X σ E) : OpR X (inplaceOp op) (rOwnI C sp (fun _ => E) []) := by
  intro pins s σ H x y v u Q I rx ry h
  obtain ⟨a, dx, fs, i, rfl, ha, rfl, h⟩ := h
  cases rx
  obtain ⟨t, rfl⟩ := (show ∃ t, u = Value.int i t from ry)
  obtain ⟨mA, J, _⟩ := ins_get I.hok ha
  obtain ⟨od, J, _⟩ := J.look
  refine inplace_by J (no_inplace I.kIn ni.at_ ni.mro hi1 hi2) (bin1_int I.kIn J o.first m.at_ m.fn hrc hp h1 h2 o.sub (wpAny_mono (run_own (vs := [V.ref a, V.int i]) F hr hb (hx σ) I (.cons rfl (.cons ⟨t, rfl⟩ .nil)) h) (fun v s' hv => ?_) fun _ _ e => e))
  cases v <;> first | exact hv.elim | exact ⟨_, rfl, hv⟩
end
theorem pAt {X : Cx} {CX : CXT} {E : XK} (h : Passes CX X E) : ∀ σ : L2.St, PassesAt CX X σ E := fun σ pins H s e s' I c => h pins σ H s e s' I c
/-- what a binary operator with an int on the right asks of the class at C -/
structure IntOp (K : PySem.W.Frag) (C : Addr) (nm : String) : Prop where
  rc : ∃ rc, PySem.W.findIn K (.ref C) (dunderR nm) = some rc ∧ (rc = none ∨ ∃ g : Addr, rc = some (.ref g))
  lo : ∃ fo, PySem.W.findIn K (.type "int") (PySem.dunder nm) = some fo
  ro : ∃ ro, PySem.W.findIn K (.type "int") (dunderR nm) = some ro
section
variable {X : Cx} {CX : CXT} {f C : Addr} {fd : FuncData} {ps : List Str} {n : Nat} {sp : Sp} {op : Operator}
theorem op_ownJ {E : L2.St → XK} (o : Ops X.K C) (m : Meth X.K C (PySem.dunder op.info.2) f) (j : IntOp X.K C op.info.2) (F : FnOk X.prog X.w X.K X.mg X.base CX n f fd ps sp) (hr : Room n X.A) (hb : Binds X.K fd ps []) (hx : ∀ σ, PassesAt CX X σ (E σ)) :
    OpS X (binaryOp op) (rOwnI C sp E) := by
  obtain ⟨⟨rc, h1, h2⟩, ⟨fo, h3⟩, ⟨ro, h4⟩⟩ := j
  exact op_ownI o m h1 h2 h3 h4 F hr hb hx
theorem ip_ownK {E : XK} (o : Ops X.K C) (ni : ∃ d, NoIn X.K C d) (m : Meth X.K C (PySem.dunder op.info.2) f) (h : PySem.W.findIn X.K (.ref C) (dunderI op.info.2) = some none ∧ PySem.W.findIn X.K (.type "object") (dunderI op.info.2) = some none)
    (F : FnOk X.prog X.w X.K X.mg X.base CX n f fd ps sp) (hr : Room n X.A) (hb : Binds X.K fd ps []) (hx : ∀ σ, PassesAt CX X σ E) : OpR X (inplaceOp op) (rOwn2 C sp (fun _ => E) []) := by
  obtain ⟨d, ni⟩ := ni
  exact ip_own2 o ni m h.1 h.2 F hr hb hx
theorem ip_ownJ {E : XK} (o : Ops X.K C) (ni : ∃ d, NoIn X.K C d) (m : Meth X.K C (PySem.dunder op.info.2) f) (j : IntOp X.K C op.info.2) (h : PySem.W.findIn X.K (.ref C) (dunderI op.info.2) = some none ∧ PySem.W.findIn X.K (.type "object") (dunderI op.info.2) = some none)
    (F : FnOk X.prog X.w X.K X.mg X.base CX n f fd ps sp) (hr : Room n X.A) (hb : Binds X.K fd ps []) (hx : ∀ σ, PassesAt CX X σ E) : OpR X (inplaceOp op) (rOwnI C sp (fun _ => E) []) := by
  obtain ⟨d, ni⟩ := ni
  obtain ⟨⟨rc, h1, h2⟩, ⟨fo, h3⟩, ⟨ro, h4⟩⟩ := j
  exact ip_ownI o ni m h.1 h.2 h1 h2 h3 h4 F hr hb hx
end

/-! ### try with several except clauses, each with a name or without -/
def endsA (D : Ends) : Option Nat → Ends
  | none => D
  | some i => { nx := fun σ H => D.nx (σ.set i none) H, rt := D.rt, bk := fun σ H => D.bk (σ.set i none) H, ct := fun σ H => D.ct (σ.set i none) H }
def putA (σ : L2.St) (a : Addr) : Option Nat → L2.St
  | none => σ
  | some i => σ.set i (some (.ref a))
abbrev Clause := Value × Option Nat × (Addr → Value → Option Addr → TS)
/-- what the clauses wish of what the body raises, one behind another -/
def wMas (K : PySem.W.Frag) (Wo : WX) (D : Ends) : List Clause → WX
  | [] => Wo
  | q :: r => fun cls d σ H => ∃ b, PySem.W.exmOne K cls q.1 = some b ∧ (b = true → ∀ a, H a = none → q.2.2 a cls d (endsA D q.2.1) (putA σ a q.2.1) H) ∧ (b = false → wMas K Wo D r cls d σ H)
inductive Clauses (X : Cx) : List ExceptHandler → List Clause → Prop
  | nil : Clauses X [] []
  | bare {x : Str} {c : Value} {ts : Addr → Value → Option Addr → TS} {s0 : Stmt} {sr : List Stmt} {p p' : Pos} {hs : List ExceptHandler} {l : List Clause} (hc : Names X x c)
      (hb : ∀ (a : Addr) (oe : Obj) (cls : Value) (d : Option Addr) (pn : List (Addr × Obj)), Zc cls d oe → (∃ vs, oe.data = .fields vs) → PSs (X.suite a ((a, oe) :: pn)) (s0 :: sr) (ts a cls d)) (r : Clauses X hs l) :
      Clauses X (.ExceptHandler (some (.Name x p)) none (s0 :: sr) p' :: hs) ((c, none, ts) :: l)
  | named {x n : Str} {i : Nat} {c : Value} {ts : Addr → Value → Option Addr → TS} {s0 : Stmt} {sr : List Stmt} {p p' : Pos} {hs : List ExceptHandler} {l : List Clause} (hi : X.N[i]? = some n) (hl : X.env.kindOf n = some .local) (hc : Names X x c)
      (hb : ∀ (a : Addr) (oe : Obj) (cls : Value) (d : Option Addr) (pn : List (Addr × Obj)), Zc cls d oe → (∃ vs, oe.data = .fields vs) → PSs (X.suite a ((a, oe) :: pn)) (s0 :: sr) (ts a cls d)) (r : Clauses X hs l) :
      Clauses X (.ExceptHandler (some (.Name x p)) (some n) (s0 :: sr) p' :: hs) ((c, some i, ts) :: l)
section
open PySem.Spec PyProof.Rows
variable {X : Cx} {body : List Stmt} {h0 : ExceptHandler} {hs : List ExceptHandler} {l : List Clause} {pos : Pos} {tb : WX → TS} {Wo : WX}
theorem ps_try_mas (hst : X.stack = X.env :: X.outer) (hfm : X.env.frame = some X.env.locals) (hND : X.N.Nodup) (tk : Takes X Wo)
    (hbody : ∀ (W : WX) (pn : List (Addr × Obj)) (xe : Value → Shared → Prop), Takes (X.tr pn xe) W → PassesOwn (model X.prog X.w) X.A X.env xe → PSs (X.tr pn xe) body (tb W))
    (hcl : Clauses X (h0 :: hs) l) : PS X (.Try body (h0 :: hs) [] [] pos) (fun D σ H => tb (wMas X.K Wo D l) D σ H) := by
  refine ⟨fun pins s σ H D I hq => ?_⟩
  have okX := I.ok
  have frX : X.A.frames = some (X.env :: X.outer) := by rw [okX.frames, hst]
  let fly : Value → Shared → Prop := fun e s1 => wpAny (model X.prog X.w) X.A (noteFrame e X.env) (fun _ s2 => wpAny (model X.prog X.w) X.A (setFlight e none) (fun _ s3 => wpAny (model X.prog X.w) X.A (handleBy e X.env (h0 :: hs)) (SP X pins D) X.xe s3) X.xe s2) X.xe s1
  refine wpAny_Try_except (wpAny_mono ((hbody (wMas X.K Wo D l) (X.pn ++ pins) fly (fun u t flown => ?_) PassesOwn.looking).run [] s σ H D (I.toTry _) hq) (fun f t done => ?_) fun e t z => z)
  · obtain ⟨a, B, sI, pins', σ1, G, cls, d, rfl, J0, nb, up, sky, na, os, ag, wish⟩ := flown
    have J : Inv X pins σ1 G sI := J0.ofTry okX
    show wpAny (model X.prog X.w) X.A (noteFrame (.ref a) X.env) _ _ _
    refine Sky.land Zc.steady frX hfm (show Sky B (X.env :: X.outer) a (Zc cls d) X.env.locals t.heap by rw [← hst]; exact sky) fun g fl upg => ?_
    have Jg : Inv X pins σ1 G { t with heap := g } := J.landed nb fl.1 (up.trans upg) os ag
    obtain ⟨ob, vb, at_b, zc_b, da_b⟩ := fl.there
    have apart : ∀ {g' : Heap} {o : Obj} {us : Array Value}, g'.FunFrames B (X.env :: X.outer) → g'.get? a = some o → o.data = .fields us → a ∉ frs (X.env :: X.outer) := fun {g' o us} ff ea da hm => by
      obtain ⟨_, o2, e2, nf⟩ := ff.mem hm
      rw [ea] at e2
      cases e2
      exact nf _ da
    have out1 := apart fl.2.2.1 at_b da_b
    have out2 : a ≠ X.env.locals := fun z => out1 (List.mem_filterMap.mpr ⟨X.env, List.mem_cons_self, by rw [hfm, z]⟩)
    have out3 : a ∉ X.fs := fun hm => by
      obtain ⟨e, he, q⟩ := List.mem_filterMap.mp hm
      exact out1 (List.mem_filterMap.mpr ⟨e, List.mem_cons_of_mem _ he, q⟩)
    have Sb := Jg.suite at_b da_b na out2 out3
    have look : ∀ {x : Str} {c : Value} {p : Pos} {R : Value → Shared → Prop} {R' : Value → Shared → Prop}, Names X x c → R c { t with heap := g } → wpAny (model X.prog X.w) (X.A.mark (some (.ref a))) (eval (.Name x p) X.env) R R' { t with heap := g } := fun {x c p R R'} hc q => by
      obtain ⟨hg, hdb, hm | ⟨hm, hv, hn⟩⟩ := hc
      · exact ld_glob (X := X.suite a ((a, ob) :: (X.pn ++ pins))) Sb hg hm q hdb
      · exact ld_blt (X := X.suite a ((a, ob) :: (X.pn ++ pins))) Sb hg hm hv q hn hdb
    have kind : PySem.W.Looks (model X.prog X.w) g (typeOf (.ref a)) cls := fun A Q E s k q => wpAny_typeOf_ref (k _ _ at_b) (by rw [zc_b.1]; exact q)
    have each : ∀ {hs' : List ExceptHandler} {l' : List Clause}, Clauses X hs' l' → wMas X.K Wo D l' cls d σ1 G → wpAny (model X.prog X.w) X.A (handleBy (.ref a) X.env hs') (SP X pins D) X.xe { t with heap := g } := by
      intro hs' l' hk
      induction hk with
      | nil =>
        intro wi
        refine wpAny_handleBy_nil ?_
        obtain ⟨_, _, _, oe, ue, TB, oT, te, g1, g2, g3, g4, g5⟩ := id fl
        unfold PySem.passOn
        refine wpAny_bind (wpAny_field g1 g3 g4 ?_)
        rw [if_neg (show ¬ ((Value.ref TB == Value.none) = true) from by simp)]
        have away : wpAny (model X.prog X.w) X.A (setFlight (.ref a) X.env.frame) (fun _ s4 => wpAny (model X.prog X.w) X.A (throw (.ref a) : Sem Flow) (SP X pins D) X.xe s4) X.xe { t with heap := g } := by
          rw [hfm]
          refine HandSPX.setFlight_upZ fl fun k hk up4 => wpAny_throw (tk _ _ ?_)
          exact ⟨a, B, sI, pins, σ1, G, cls, d, rfl, J, nb, (up.trans upg).trans up4, .inr (.inr (by rw [hst]; exact hk)), na, os, ag, wi⟩
        first
          | exact wpAny_bind (wpAny_pure (wpAny_bind away))
          | exact wpAny_bind away
      | @bare x c ts s0 sr p p' hs2 l2 hc hb r ih =>
        intro wi
        obtain ⟨b, hb1, yes, no⟩ := wi
        refine wpAny_handleBy_cons (codeAny_handlers_test ?_) (by intro q; cases q)
        refine look hc ((PySem.W.exm_one (M := model X.prog X.w) Jg.kIn kind hb1).here ?_)
        cases b with
        | false => exact ih (no rfl)
        | true =>
          refine codeAny_handlers_suite (HandSPX.lands_againZ fl fun k fl4 up4 => ?_)
          have J4 : Inv X pins σ1 G { t with heap := k } := J.landed nb fl4.1 ((up.trans upg).trans up4) os ag
          obtain ⟨o4, v4, e4, z4, d4⟩ := fl4.there
          refine wpAny_mono ((hb a o4 cls d (X.pn ++ pins) z4 ⟨_, d4⟩).run [] _ _ G _ (J4.suite e4 d4 na out2 out3) (yes rfl a na)) (fun f s6 r6 => ?_) (fun _ _ z => False.elim z)
          cases f with
          | ret u => obtain ⟨v6, σ6, H6, S6, rv, q6⟩ := r6; exact ⟨_, _, _, S6.unsuite okX, rv, q6⟩
          | next => obtain ⟨σ6, H6, S6, q6⟩ := r6; exact ⟨_, _, S6.unsuite okX, q6⟩
          | brk => obtain ⟨σ6, H6, S6, q6⟩ := r6; exact ⟨_, _, S6.unsuite okX, q6⟩
          | cont => obtain ⟨σ6, H6, S6, q6⟩ := r6; exact ⟨_, _, S6.unsuite okX, q6⟩
      | @named x n i c ts s0 sr p p' hs2 l2 hi hl hc hb r ih =>
        intro wi
        obtain ⟨b, hb1, yes, no⟩ := wi
        refine wpAny_handleBy_cons (codeAny_handlers_test ?_) (by intro q; cases q)
        refine look hc ((PySem.W.exm_one (M := model X.prog X.w) Jg.kIn kind hb1).here ?_)
        cases b with
        | false => exact ih (no rfl)
        | true =>
          refine codeAny_handlers_suite_as (HandSPX.lands_againZ fl fun k fl4 up4 => ?_)
          have J4 : Inv X pins σ1 G { t with heap := k } := J.landed nb fl4.1 ((up.trans upg).trans up4) os ag
          obtain ⟨o4, v4, e4, z4, d4⟩ := fl4.there
          refine store_ok (X := X.suite a ((a, o4) :: (X.pn ++ pins))) (v := .ref a) (J4.suite e4 d4 na out2 out3) hND hi (.inl hl) rfl (fun s5 S5 => ?_) (.inr hl)
          refine wpAny_mono ((hb a o4 cls d (X.pn ++ pins) z4 ⟨_, d4⟩).run [] s5 _ G _ S5 (yes rfl a na)) (fun f s6 r6 => ?_) (fun _ _ z => False.elim z)
          have leave : ∀ {σ6 : L2.St} {H6 : Hp} {R : Shared → Prop}, Inv (X.suite a ((a, o4) :: (X.pn ++ pins))) [] σ6 H6 s6 → (∀ s7, Inv X pins (σ6.set i none) H6 s7 → R s7) → wpAny (model X.prog X.w) X.A (do bindName X.env n .none; unbindBehindTheSuite X.env n p') (fun _ s7 => R s7) X.xe s6 :=
            fun {σ6 H6 R} S6 hr => gone_ok (S6.unsuite okX) hND hi hl hr
          cases f with
          | ret u => obtain ⟨v6, σ6, H6, S6, rv, q6⟩ := r6; exact leave S6 fun s7 J7 => ⟨_, _, _, J7, rv, q6⟩
          | next => obtain ⟨σ6, H6, S6, q6⟩ := r6; exact leave S6 fun s7 J7 => ⟨_, _, J7, q6⟩
          | brk => obtain ⟨σ6, H6, S6, q6⟩ := r6; exact leave S6 fun s7 J7 => ⟨_, _, J7, q6⟩
          | cont => obtain ⟨σ6, H6, S6, q6⟩ := r6; exact leave S6 fun s7 J7 => ⟨_, _, J7, q6⟩
    exact each hcl wish
  · cases f with
    | ret u => obtain ⟨v, σ', G', J', rv, q⟩ := done; exact ⟨v, σ', G', J'.ofTry okX, rv, q⟩
    | next => obtain ⟨σ', G', J', q⟩ := done; exact wpAny_execs_nil ⟨σ', G', J'.ofTry okX, q⟩
    | brk => obtain ⟨σ', G', J', q⟩ := done; exact ⟨σ', G', J'.ofTry okX, q⟩
    | cont => obtain ⟨σ', G', J', q⟩ := done; exact ⟨σ', G', J'.ofTry okX, q⟩
end

/-! ### an int on the left, an own object on the right -/
section
open PySem.Spec PyProof.Rows
variable {prog : Program} {w : World} {A : Around} {E : Value → Shared → Prop} {s : Shared} {K : PySem.W.Frag}
theorem no_int {i : Int} {t : Tok} {a C dx : Addr} {f : Int → Int → Sem Fin} {nm : String} {Q : Fin → Shared → Prop} (hg : s.heap.get? a = some (PySem.W.instObj C dx)) (q : Q (.done (.ret .notImplemented)) s) :
    wpAny (model prog w) A (Builtin.Int.intBinary nm f false ⟨[.int i t, .ref a], []⟩) Q E s := by
  unfold Builtin.Int.intBinary
  refine wpAny_bind (wpAny_pure (wpAny_bind (wpAny_pure (wpAny_bind ?_))))
  unfold asInt?
  exact wpAny_bind (wpAny_load hg (wpAny_pure (wpAny_bind (wpAny_rule (wpAny_pure q)))))
theorem call_no {i : Int} {t : Tok} {a C dx : Addr} {f : Int → Int → Sem Fin} {nm id : String} {name : Str} {Q : Value → Shared → Prop} (slot : Slot "int" name id) (entry : entryFor table id = some (Builtin.Int.intBinary nm f false))
    (ha : argsOk id ⟨[.int i t, .ref a], []⟩) (hg : s.heap.get? a = some (PySem.W.instObj C dx)) (q : Q .notImplemented s) : wpAny (model prog w) A (call (.builtin id) [.int i t, .ref a]) Q E s :=
  wpAny_call_entry slot (typeIs_int s i t) entry (no_int hg ⟨_, rfl, q⟩) ha
open PySem.W in
/-- i op o: what int gives up, the class's reflected method tells -/
theorem binop_refl {op : Operator} {o C fr fl dx : Addr} {ox : Obj} {od : Option Obj} {i : Int} {t : Tok} {hb : Heap} {L : Addr} {m : Str → Option Value} {f : Int → Int → Sem Fin} {nb id : String} {Q : Value → Shared → Prop} (F : Fr hb L s.heap m) (Xb : K.In hb) (I : InstAt s.heap o ox C od)
    (hg : s.heap.get? o = some (instObj C dx)) (hc : selfFirst K C = true) (hl : findIn K (.ref C) (PySem.dunder op.info.2) = some (some (.ref fl))) (hs : findIn K (.ref C) (dunderR op.info.2) = some (some (.ref fr))) (hf : isFn K (.ref fr) = true)
    (hsub : subIn K (.ref C) (.type "int") = some false) (fills : fillsNumberSlot (.type "int") op.info.2 = pure true) (slot : Slot "int" (PySem.dunder op.info.2) id) (entry : entryFor table id = some (Builtin.Int.intBinary nb f false)) (ha : argsOk id ⟨[.int i t, .ref o], []⟩)
    (h : wpAny (model prog w) A (call (.ref fr) [.ref o, .int i t]) (PySem.W.CmpBack Q) E s) : wpAny (model prog w) A (binaryOp op (.int i t) (.ref o)) Q E s := by
  have X1 := Xb.keeps F.keep
  obtain ⟨kd, more, hkd, hkm⟩ := ksp_first hc
  rcases hi : op.info with ⟨sy, n2⟩
  rw [hi] at hs hl fills slot
  dsimp only at hs hl fills slot
  have two := ksp_try X1 I hs hf h
  have one : wpAny (model prog w) A (tryMethod (.int i t) (PySem.dunder n2) (.ref o)) (fun r s' => r = none ∧ s' = s) E s := wpAny_tryMethod_declines (typeIs_int s i t) slot (call_no slot entry ha hg ⟨rfl, rfl, rfl⟩)
  obtain ⟨h2, g2, d2, t2, o2⟩ := s
  have M1 : Looks (model prog w) h2 (typeOf (.ref o)) (.ref C) := I.type
  have M2 : Looks (model prog w) h2 (typeOf (.int i t)) (.type "int") := Looks.of_pure rfl
  have M3 : Looks (model prog w) h2 (fillsNumberSlot (.ref C) n2) true := fills_K X1 hkd hkm hl
  have M4 : Looks (model prog w) h2 (fillsNumberSlot (.type "int") n2) true := Looks.of_pure fills
  have M5 : Looks (model prog w) h2 (isSubtype (.ref C) (.type "int")) false := looks_subIn X1 hsub
  have M6 : Looks (model prog w) h2 (numberSlotInPython (.type "int") n2) false := Looks.of_pure rfl
  have unlike : (Value.type "int" == Value.ref C) = false := Bool.eq_false_iff.mpr fun z => by cases beq_iff_eq.mp z
  simp only [binaryOp, hi]
  refine wpAny_holding (wpAny_bind ?_)
  unfold binaryOp1
  refine wpAny_bind (M2.at (wpAny_bind (M1.at (wpAny_bind (M4.at ?_)))))
  simp only [unlike, Bool.false_eq_true, if_false]
  ksp_lk
  refine wpAny_mono one (fun r s' z => ?_) fun _ _ e => e
  obtain ⟨rfl, rfl⟩ := z
  ksp_lk
  refine wpAny_mono two (fun r s' z => ?_) fun _ _ e => e
  obtain ⟨v, rfl, q⟩ := z
  ksp_lk
  exact q
open PySem.Calls in
theorem abs_own {o C f : Addr} {ox : Obj} {od : Option Obj} {Q : Value → Shared → Prop} (X1 : K.In s.heap) (I : PySem.W.InstAt s.heap o ox C od) (hs : PySem.W.findIn K (.ref C) "__abs__" = some (some (.ref f))) (hf : PySem.W.isFn K (.ref f) = true)
    (h : wpAny (model prog w) A.in1 (call (.ref f) [.ref o]) Q E s) : wpAny (model prog w) A (call (.builtin "abs") [.ref o]) Q E s := by
  refine call_function_entry kind_abs plain_abs entry_abs (args_abs _) ?_
  unfold Builtin.«abs»
  refine wpAny_bind (m := PySem.oneArg "abs" _) (wpAny_pure ?_)
  exact wpAny_bind (m := callSpecial? (.ref o) (Str.ofString "__abs__")) (PySem.W.special_fn X1 I hs (beq_iff_eq.mp hf) (wpAny_mono h (fun r s' hr => wpAny_pure ⟨_, rfl, hr⟩) fun _ _ y => y))
end
/-- the int's side of an operator: the method that gives up -/
structure IntSide (op : Operator) : Prop where
  fills : fillsNumberSlot (.type "int") op.info.2 = pure true
  gives : ∃ (id nb : String) (f : Int → Int → Sem Fin), Slot "int" (PySem.dunder op.info.2) id ∧ entryFor table id = some (Builtin.Int.intBinary nb f false) ∧ ∀ a b, argsOk id ⟨[a, b], []⟩
theorem side_add : IntSide .Add := ⟨PySem.F.fills_int_add, "int.__add__", "__add__", _, PySem.F.slot_int_add, PySem.F.entry_int_add, PySem.F.args_int_add_2⟩
theorem side_sub : IntSide .Sub := ⟨PySem.F.fills_int_sub, "int.__sub__", "__sub__", _, PySem.F.slot_int_sub, PySem.F.entry_int_sub, PySem.F.args_int_sub_2⟩
theorem side_mul : IntSide .Mult := ⟨PySem.F.fills_int_mul, "int.__mul__", "__mul__", _, PySem.F.slot_int_mul, PySem.F.entry_int_mul, PySem.F.args_int_mul_2⟩
/-- an int, then an object of the class -/
def rOwnR (C : Addr) (sp : Sp) (E : L2.St → XK) (σ : L2.St) : R2 := fun x y H Q => ∃ a dx fs i, y = .ref a ∧ H a = some (.ins C dx fs) ∧ x = .int i ∧ sp [y, x] H Q (E σ)
def rAlt (r1 r2 : L2.St → R2) (σ : L2.St) : R2 := fun x y H Q => r1 σ x y H Q ∨ r2 σ x y H Q
def uOr (r1 r2 : L2.St → V → Hp → VK → Prop) (σ : L2.St) : V → Hp → VK → Prop := fun x H Q => r1 σ x H Q ∨ r2 σ x H Q
def rNegI (_ : L2.St) : V → Hp → VK → Prop := fun x H Q => ∃ i, x = .int i ∧ Q (.int (-i)) H
section
open PySem.Spec PyProof.Rows
variable {X : Cx} {CX : CXT} {f fl C : Addr} {fd : FuncData} {ps : List Str} {n : Nat} {sp : Sp} {op : Operator} {E : L2.St → XK}
theorem op_ownR (o : Ops X.K C) (li : PySem.W.subIn X.K (.ref C) (.type "int") = some false) (ml : Meth X.K C (PySem.dunder op.info.2) fl) (m : Meth X.K C (dunderR op.info.2) f) (si : IntSide op) (F : FnOk X.prog X.w X.K X.mg X.base CX n f fd ps sp) (hr : Room n X.A) (hb : Binds X.K fd ps []) (hx : ∀ σ, PassesAt CX X σ (E σ)) :
    OpS X (binaryOp op) (rOwnR C sp E) := by
  intro pins s σ H x y v u Q I rx ry h
  obtain ⟨a, dx, fs, i, rfl, ha, rfl, h⟩ := h
  cases ry
  obtain ⟨t, rfl⟩ := (show ∃ t, v = Value.int i t from rx)
  obtain ⟨mA, J0, _⟩ := ins_get I.hok ha
  have hg := J0.1
  obtain ⟨od, J, _⟩ := J0.look
  obtain ⟨m', hF⟩ := I.fr
  obtain ⟨id, nb, g, h1, h2, h3⟩ := si.gives
  exact binop_refl hF I.ok.mod.kin J hg o.first ml.at_ m.at_ m.fn li si.fills h1 h2 (h3 _ _) (run_own (vs := [V.ref a, V.int i]) F hr hb (hx σ) I (.cons rfl (.cons ⟨t, rfl⟩ .nil)) h)
theorem ops_or {g : Value → Value → Sem Value} {r1 r2 : L2.St → R2} (h1 : OpS X g r1) (h2 : OpS X g r2) : OpS X g (rAlt r1 r2) := fun pins s σ H x y v u Q I rx ry h => h.elim (h1 pins s σ H x y v u Q I rx ry) (h2 pins s σ H x y v u Q I rx ry)
theorem uns_or {g : Value → Sem Value} {r1 r2 : L2.St → V → Hp → VK → Prop} (h1 : UnS X g r1) (h2 : UnS X g r2) : UnS X g (uOr r1 r2) := fun pins s σ H x v Q I rx h => h.elim (h1 pins s σ H x v Q I rx) (h2 pins s σ H x v Q I rx)
theorem un_negI : UnS X (unaryOp .USub) rNegI := by
  intro pins s σ H x v Q I rx h
  obtain ⟨i, rfl, q⟩ := h
  obtain ⟨t, rfl⟩ := (show ∃ t, v = Value.int i t from rx)
  exact neg_int ⟨.int (-i), H, I.tok _, ⟨_, rfl⟩, q⟩
def rOwnAbs (C : Addr) (sp : Sp) (E : XK) : List V → Hp → VK → Prop := fun xs H Q => ∃ a dx fs, xs = [.ref a] ∧ H a = some (.ins C dx fs) ∧ sp [.ref a] H Q E
theorem call_absO {E : XK} (m : Meth X.K C "__abs__" f) (F : FnOk X.prog X.w X.K X.mg X.base CX n f fd ps sp) (hr : Room (n + 1) X.A) (hb : Binds X.K fd ps []) (hx : ∀ σ, PassesAt CX X σ E) : CallR X (.builtin "abs") (rOwnAbs C sp E) := by
  intro pins s σ H xs us Q I r h
  obtain ⟨a, dx, fs, rfl, ha, h⟩ := h
  obtain ⟨u, rfl, rx⟩ := vals1 r
  cases rx
  obtain ⟨mA, J, _⟩ := ins_get I.hok ha
  obtain ⟨od, J, _⟩ := J.look
  exact abs_own I.kIn J m.at_ m.fn (run_ownA (vs := [V.ref a]) F hr.in1 rfl hb (hx σ) I (.cons rfl .nil) h)
theorem callr_or {b : Value} {r1 r2 : List V → Hp → VK → Prop} (h1 : CallR X b r1) (h2 : CallR X b r2) : CallR X b (fun xs H Q => r1 xs H Q ∨ r2 xs H Q) := fun pins s σ H xs us Q I r h => h.elim (h1 pins s σ H xs us Q I r) (h2 pins s σ H xs us Q I r)
/-- a term that is never reached -/
theorem pe_never {e : Expr} : PE X e (fun _ _ _ => False) := ⟨fun _ _ _ _ _ _ h => h.elim⟩
end

/-! ### comparisons: an int on the left; != -/
section
open PySem.Spec PyProof.Rows
variable {prog : Program} {w : World} {A : Around} {E : Value → Shared → Prop} {s : Shared} {K : PySem.W.Frag} {o C f dx : Addr} {ox : Obj} {od : Option Obj} {i : Int} {t : Tok} {hb : Heap} {L : Addr} {m : Str → Option Value}
theorem try_no {g : Int → Int → Sem Fin} {nb id : String} {name : Str} (slot : Slot "int" name id) (entry : entryFor table id = some (Builtin.Int.intBinary nb g false)) (ha : argsOk id ⟨[.int i t, .ref o], []⟩) (hg : s.heap.get? o = some (PySem.W.instObj C dx)) :
    wpAny (model prog w) A (tryCompare (.int i t) name (.ref o)) (fun r s' => r = none ∧ s' = s) E s := wpAny_tryCompare_declines (typeIs_int s i t) slot (call_no slot entry ha hg ⟨rfl, rfl, rfl⟩)
open PySem.W in
theorem try_own {name : Str} {b : Value} {Q : Value → Shared → Prop} (X1 : K.In s.heap) (I : InstAt s.heap o ox C od) (hs : findIn K (.ref C) name = some (some (.ref f))) (hf : isFn K (.ref f) = true) (h : wpAny (model prog w) A (call (.ref f) [.ref o, b]) (PySem.W.CmpBack Q) E s) :
    wpAny (model prog w) A (tryCompare (.ref o) name b) (fun r s' => ∃ v, r = some v ∧ Q v s') E s := by
  unfold tryCompare
  refine wpAny_bind (ifBound_K X1 I hs hf (wpAny_mono h (fun v s' z => ?_) fun _ _ e => e))
  cases v <;> first | exact z.elim | exact wpAny_pure ⟨_, rfl, z⟩
open PySem.W in
theorem cmp_refl {op : CmpOp} {g : Int → Int → Sem Fin} {nb id : String} {Q : Value → Shared → Prop} (hu : A.units < cLine) (X1 : K.In s.heap) (I : InstAt s.heap o ox C od) (hg : s.heap.get? o = some (instObj C dx)) (hsub : subIn K (.ref C) (.type "int") = some false)
    (slot : Slot "int" (cmpInfo op).2.1 id) (entry : entryFor table id = some (Builtin.Int.intBinary nb g false)) (ha : argsOk id ⟨[.int i t, .ref o], []⟩) (hot : oneThing? op (.int i t) (.ref o) = none)
    (two : wpAny (model prog w) A (tryCompare (.ref o) (cmpInfo op).2.2 (.int i t)) (fun r s' => ∃ v, r = some v ∧ Q v s') E s) : wpAny (model prog w) A (richCompare op (.int i t) (.ref o)) Q E s := by
  have one := try_no (prog := prog) (w := w) (A := A) (E := E) slot entry ha hg
  unfold richCompare
  simp only [hot]
  refine wpAny_holding (wpAny_bind (wpAny_cRoomFor hu ?_))
  refine wpAny_bind ((Looks.of_pure (show typeOf (.int i t) = pure (.type "int") from rfl)).here (wpAny_bind (I.type.here ?_)))
  have unlike : (Value.type "int" != Value.ref C) = true := by simp
  simp only [unlike, if_true]
  refine wpAny_bind ((looks_subIn X1 hsub).here ?_)
  simp only [Bool.false_eq_true, if_false, Bool.not_false, if_true]
  refine wpAny_bind (wpAny_mono one (fun r s' z => ?_) fun _ _ e => e)
  obtain ⟨rfl, rfl⟩ := z
  refine wpAny_bind (wpAny_mono two (fun r s' z => ?_) fun _ _ e => e)
  obtain ⟨v, rfl, q⟩ := z
  exact wpAny_pure q
open PySem.W in
theorem ifBound_B {name : Str} {id : String} {args : List Value} {Q : Option Value → Shared → Prop} (X1 : K.In s.heap) (I : InstAt s.heap o ox C od) (hs : findIn K (.ref C) name = some (some (.builtin id))) (bd : ∀ self, bindSpecial (.builtin id) self = pure (.builtin id, [self]))
    (h : wpAny (model prog w) A (call (.builtin id) (.ref o :: args)) (fun v => Q (some v)) E s) : wpAny (model prog w) A (callSpecialIfBound? (.ref o) name args) Q E s := by
  simp only [callSpecialIfBound?, bindSpecialIfBound?]
  refine wpAny_holding (wpAny_bind (wpAny_bind (wpAny_bind (I.type.here ((looks_findIn X1 hs).here (wpAny_bind (wpAny_askSetting (wpAny_ite ?_))))))))
  have last : wpAny (model prog w) A (call (.builtin id) ([.ref o] ++ args) >>= fun v => pure (some v)) Q E s := wpAny_bind (wpAny_mono h (fun v s' z => wpAny_pure z) fun _ _ z => z)
  split
  · exact wpAny_bind ((Looks.of_pure (bd _)).here (wpAny_pure (by exact last)))
  · exact wpAny_tryCatch (wpAny_bind ((Looks.of_pure (bd _)).here (wpAny_pure (by exact last))))
open PySem.W in
theorem ne_own {b : Value} {Q : Value → Shared → Prop} (hu : A.units + 1 < cLine) (X1 : K.In s.heap) (I : InstAt s.heap o ox C od) (hm : mroIn K C (.type "object") = some true) (hn : findIn K (.ref C) "__ne__" = some (some (.builtin "object.__ne__"))) (hs : findIn K (.ref C) "__eq__" = some (some (.ref f))) (hf : isFn K (.ref f) = true)
    (h : wpAny (model prog w) A.in1 (call (.ref f) [.ref o, b]) (fun v s' => ∃ k, v = .bool k ∧ Q (.bool (!k)) s') E s) : wpAny (model prog w) A (tryCompare (.ref o) "__ne__" b) (fun r s' => ∃ v, r = some v ∧ Q v s') E s := by
  unfold tryCompare
  refine wpAny_bind (ifBound_B (id := "object.__ne__") X1 I hn (fun _ => rfl) ?_)
  refine wpAny_call (codeAny_call_builtin PySem.F.cmp_object.ne.plain PySem.F.cmpEntry_ne (check_slot (i := "object.__ne__") (owner := "object") (n := "__ne__") PySem.F.cmpKind_ne PySem.F.cmpSplit_ne (I.type.andThen (looks_mroIn X1 hm)) (PySem.F.cmpArgs_ne _ _) ?_))
  unfold Builtin.«object.__ne__»
  refine wpAny_bind (m := slotArgs "__ne__" 1 _) (wpAny_pure ?_)
  refine wpAny_bind (m := cRoomFor _ _) (wpAny_cRoomFor (show A.units + 1 < cLine from hu) ?_)
  refine wpAny_bind (m := callSpecialIfBound? (.ref o) (Str.ofString "__eq__") _) (ifBound_K X1 I hs hf (wpAny_mono h (fun r s' z => ?_) fun _ _ y => y))
  obtain ⟨k, rfl, q⟩ := z
  exact wpAny_bind (wpAny_truthy_bool (wpAny_pure (wpAny_pure ⟨_, rfl, q⟩)))
open PySem.W in
theorem ne_left {b tb : Value} {Q : Value → Shared → Prop} (hu : A.units + 1 < cLine) (X1 : K.In s.heap) (I : InstAt s.heap o ox C od) (lb : Looks (model prog w) s.heap (typeOf b) tb) (nf : notFirst K C tb = true)
    (one : wpAny (model prog w) A (tryCompare (.ref o) "__ne__" b) (fun r s' => ∃ v, r = some v ∧ Q v s') E s) : wpAny (model prog w) A (richCompare .NotEq (.ref o) b) Q E s := by
  unfold richCompare
  simp only [oneThing_ref]
  refine wpAny_holding (wpAny_bind (wpAny_cRoomFor (by omega) (wpAny_bind (I.type.here (wpAny_bind (lb.here ?_))))))
  split
  · rename_i q
    have e : subIn K tb (.ref C) = some false := by
      rcases Bool.or_eq_true_iff.mp nf with e | e
      · rw [beq_iff_eq.mp e] at q
        simp at q
      · exact beq_iff_eq.mp e
    refine wpAny_bind ((looks_subIn X1 e).here ?_)
    simp only [Bool.false_eq_true, if_false]
    refine wpAny_bind (wpAny_mono one (fun r s' z => ?_) fun _ _ e => e)
    obtain ⟨v, rfl, z⟩ := z
    exact wpAny_pure z
  · refine wpAny_bind (wpAny_pure ?_)
    simp only [Bool.false_eq_true, if_false]
    refine wpAny_bind (wpAny_mono one (fun r s' z => ?_) fun _ _ e => e)
    obtain ⟨v, rfl, z⟩ := z
    exact wpAny_pure z
open PySem.W in
theorem bool_own {Q : Value → Shared → Prop} (F : Fr hb L s.heap m) (Xb : K.In hb) (I : InstAt s.heap o ox C od) (hs : findIn K (.ref C) "__bool__" = some (some (.ref f))) (hf : isFn K (.ref f) = true)
    (h : wpAny (model prog w) A.in1.in1 (call (.ref f) [.ref o]) (fun v s' => ∃ k, v = .bool k ∧ Q (.bool k) s') E s) : wpAny (model prog w) A (call (.type "bool") [.ref o]) Q E s := by
  refine callType_codes (T := "bool") (Bi := Builtin.«object.__init__») (Q₁ := fun r s₁ => ∃ k, r = .bool k ∧ Q r s₁) PySem.F.called_bool (PySem.F.typeCall_bool_1 _) PySem.F.entry_object_init ?_ ?_
  · refine codeAny_of_tree ?_
    show wpAny _ A.in1.in1 (do checkBuiltinCall "bool.__new__" ⟨[.type "bool", .ref o], []⟩; again (.builtin "bool.__new__" ⟨[.type "bool", .ref o], []⟩)) _ _ s
    refine wpAny_bind (wpAny_of_eq (PySem.F.newCall_bool_1 _) (wpAny_pure ⟨plainId_quiet (by decide +kernel) _, codeAny_builtin PySem.F.entry_bool_new ?_⟩))
    rw [Around.under_plainId (by decide +kernel) _]
    unfold Builtin.«bool.__new__»
    refine wpAny_bind (wpAny_of_eq (show isType (.type "bool") = pure true from rfl) ?_)
    simp only [Bool.not_true, Bool.false_eq_true, if_false]
    refine wpAny_bind (wpAny_of_eq PySem.F.conv_sub_bool ?_)
    simp only [Bool.not_true, Bool.false_eq_true, if_false]
    refine wpAny_bind (wpAny_pure ?_)
    refine wpAny_bind (truthy_K F Xb I hs hf (wpAny_mono h (fun v s' z => ?_) fun _ _ y => y))
    obtain ⟨k, rfl, q⟩ := z
    exact wpAny_pure ⟨k, rfl, q⟩
  · rintro obj s₁ ⟨k, rfl, q⟩
    exact ⟨PySem.typeIs_bool _ _, PySem.F.args_object_init_2 _ _, object_init_meets PySem.F.called_bool.init.lookup PySem.F.called_bool.made (by decide) prog w A.in1 _ s₁ ⟨PySem.typeIs_bool _ _, rfl, q⟩⟩
end
structure CmpSide (op : CmpOp) : Prop where
  gives : ∃ (id nb : String) (f : Int → Int → Sem Fin), Slot "int" (cmpInfo op).2.1 id ∧ entryFor table id = some (Builtin.Int.intBinary nb f false) ∧ ∀ a b, argsOk id ⟨[a, b], []⟩
  one : ∀ (i : Int) (t : Tok) (a : Addr), oneThing? op (.int i t) (.ref a) = none
theorem side_lt : CmpSide .Lt := ⟨⟨"int.__lt__", "__lt__", _, PySem.F.slot_int_lt, PySem.F.entry_int_lt, PySem.F.args_int_lt_2⟩, fun _ _ _ => rfl⟩
theorem side_le : CmpSide .LtE := ⟨⟨"int.__le__", "__le__", _, PySem.F.slot_int_le, PySem.F.entry_int_le, PySem.F.args_int_le_2⟩, fun _ _ _ => rfl⟩
theorem side_gt : CmpSide .Gt := ⟨⟨"int.__gt__", "__gt__", _, PySem.F.slot_int_gt, PySem.F.entry_int_gt, PySem.F.args_int_gt_2⟩, fun _ _ _ => rfl⟩
theorem side_ge : CmpSide .GtE := ⟨⟨"int.__ge__", "__ge__", _, PySem.F.slot_int_ge, PySem.F.entry_int_ge, PySem.F.args_int_ge_2⟩, fun _ _ _ => rfl⟩
theorem side_eq : CmpSide .Eq := ⟨⟨"int.__eq__", "__eq__", _, PySem.F.slot_int_eq, PySem.F.entry_int_eq, PySem.F.args_int_eq_2⟩, fun _ _ _ => rfl⟩
theorem side_ne : CmpSide .NotEq := ⟨⟨"int.__ne__", "__ne__", _, PySem.F.slot_int_ne, PySem.F.entry_int_ne, PySem.F.args_int_ne_2⟩, fun _ _ _ => rfl⟩
/-- the opposite of what a promise of a truth value tells -/
def notK (Q : VK) : VK := fun v H => ∃ k : Bool, v = .bl k ∧ Q (.bl (!k)) H
def rOwnNe (K : PySem.W.Frag) (C : Addr) (sp : Sp) (E : L2.St → XK) (σ : L2.St) : R2 := fun x y H Q => ∃ a dx fs tb, x = .ref a ∧ H a = some (.ins C dx fs) ∧ TyX K H y tb ∧ PySem.W.notFirst K C tb = true ∧ sp [x, y] H (notK Q) (E σ)
def rOwnNeR (C : Addr) (sp : Sp) (E : L2.St → XK) (σ : L2.St) : R2 := fun x y H Q => ∃ a dx fs i, y = .ref a ∧ H a = some (.ins C dx fs) ∧ x = .int i ∧ sp [y, x] H (notK Q) (E σ)
/-- what != asks of a class with an own __eq__ and no __ne__ -/
structure NeOf (K : PySem.W.Frag) (C : Addr) : Prop where
  ob : PySem.W.mroIn K C (.type "object") = some true
  ne : PySem.W.findIn K (.ref C) "__ne__" = some (some (.builtin "object.__ne__"))
section
open PySem.Spec PyProof.Rows
variable {X : Cx} {CX : CXT} {f C : Addr} {fd : FuncData} {ps : List Str} {n : Nat} {sp : Sp} {op : CmpOp} {E : L2.St → XK}
theorem op_ownCR (hop : ∀ v u, compareOp op v u = richCompare op v u) (li : PySem.W.subIn X.K (.ref C) (.type "int") = some false) (m : Meth X.K C (cmpInfo op).2.2 f) (si : CmpSide op) (F : FnOk X.prog X.w X.K X.mg X.base CX n f fd ps sp) (hr : Room n X.A) (hb : Binds X.K fd ps []) (hx : ∀ σ, PassesAt CX X σ (E σ)) :
    OpS X (compareOp op) (rOwnR C sp E) := by
  intro pins s σ H x y v u Q I rx ry h
  obtain ⟨a, dx, fs, i, rfl, ha, rfl, h⟩ := h
  cases ry
  obtain ⟨t, rfl⟩ := (show ∃ t, v = Value.int i t from rx)
  obtain ⟨mA, J0, _⟩ := ins_get I.hok ha
  have hg := J0.1
  obtain ⟨od, J, _⟩ := J0.look
  obtain ⟨id, nb, g, h1, h2, h3⟩ := si.gives
  rw [hop]
  exact cmp_refl hr.units0 I.kIn J hg li h1 h2 (h3 _ _) (si.one _ _ _) (try_own I.kIn J m.at_ m.fn (run_own (vs := [V.ref a, V.int i]) F hr hb (hx σ) I (.cons rfl (.cons ⟨t, rfl⟩ .nil)) h))
theorem back_not {pins : List (Addr × Obj)} {σ : L2.St} {Q : VK} {v : Value} {s' : Shared} (h : EP X pins σ (notK Q) v s') : ∃ k, v = Value.bool k ∧ EP X pins σ Q (.bool (!k)) s' := by
  obtain ⟨x, H', I', rv, k, rfl, q⟩ := h
  exact ⟨k, rv, .bl (!k), H', I', rfl, q⟩
theorem op_neO {K : PySem.W.Frag} (d : NeOf X.K C) (m : Meth X.K C "__eq__" f) (F : FnOk X.prog X.w X.K X.mg X.base CX n f fd ps sp) (hr : Room (n + 1) X.A) (hb : Binds X.K fd ps []) (hx : ∀ σ, PassesAt CX X σ (E σ)) (hk : X.K = K := by rfl) : OpS X (compareOp .NotEq) (rOwnNe K C sp E) := by
  subst hk
  intro pins s σ H x y v u Q I rx ry h
  obtain ⟨a, dx, fs, tb, rfl, ha, ty, nf, h⟩ := h
  cases rx
  obtain ⟨mA, J, _⟩ := ins_get I.hok ha
  obtain ⟨od, J, _⟩ := J.look
  have hu : X.A.units + 1 < cLine := by have := hr.un; omega
  show wpAny _ _ (richCompare .NotEq (.ref a) u) _ _ _
  exact ne_left hu I.kIn J (ty_looks I ry ty) nf (ne_own hu I.kIn J d.ob d.ne m.at_ m.fn (wpAny_mono (run_ownA (vs := [V.ref a, y]) F hr.in1 rfl hb (hx σ) I (.cons rfl (.cons ry .nil)) h) (fun v s' z => back_not z) fun _ _ e => e))
theorem op_neR (d : NeOf X.K C) (li : PySem.W.subIn X.K (.ref C) (.type "int") = some false) (m : Meth X.K C "__eq__" f) (F : FnOk X.prog X.w X.K X.mg X.base CX n f fd ps sp) (hr : Room (n + 1) X.A) (hb : Binds X.K fd ps []) (hx : ∀ σ, PassesAt CX X σ (E σ)) : OpS X (compareOp .NotEq) (rOwnNeR C sp E) := by
  intro pins s σ H x y v u Q I rx ry h
  obtain ⟨a, dx, fs, i, rfl, ha, rfl, h⟩ := h
  cases ry
  obtain ⟨t, rfl⟩ := (show ∃ t, v = Value.int i t from rx)
  obtain ⟨mA, J0, _⟩ := ins_get I.hok ha
  have hg := J0.1
  obtain ⟨od, J, _⟩ := J0.look
  obtain ⟨id, nb, g, h1, h2, h3⟩ := side_ne.gives
  have hu : X.A.units + 1 < cLine := by have := hr.un; omega
  show wpAny _ _ (richCompare .NotEq (.int i t) (.ref a)) _ _ _
  exact cmp_refl hr.units0 I.kIn J hg li h1 h2 (h3 _ _) rfl (ne_own hu I.kIn J d.ob d.ne m.at_ m.fn (wpAny_mono (run_ownA (vs := [V.ref a, V.int i]) F hr.in1 rfl hb (hx σ) I (.cons rfl (.cons ⟨t, rfl⟩ .nil)) h) (fun v s' z => back_not z) fun _ _ e => e))
def rOwnBool (C : Addr) (sp : Sp) (E : XK) : List V → Hp → VK → Prop := fun xs H Q => ∃ a dx fs, xs = [.ref a] ∧ H a = some (.ins C dx fs) ∧ sp [.ref a] H (fun v H' => ∃ k : Bool, v = .bl k ∧ Q (.bl k) H') E
theorem call_boolO {E : XK} (m : Meth X.K C "__bool__" f) (F : FnOk X.prog X.w X.K X.mg X.base CX n f fd ps sp) (hr : Room (n + 2) X.A) (hb : Binds X.K fd ps []) (hx : ∀ σ, PassesAt CX X σ E) : CallR X (.type "bool") (rOwnBool C sp E) := by
  intro pins s σ H xs us Q I r h
  obtain ⟨a, dx, fs, rfl, ha, h⟩ := h
  obtain ⟨u, rfl, rx⟩ := vals1 r
  cases rx
  obtain ⟨mA, J, _⟩ := ins_get I.hok ha
  obtain ⟨od, J, _⟩ := J.look
  obtain ⟨m', hF⟩ := I.fr
  refine bool_own hF I.ok.mod.kin J m.at_ m.fn (wpAny_mono (run_ownA (vs := [V.ref a]) F hr.in1.in1 rfl hb (hx σ) I (.cons rfl .nil) h) (fun v s' hv => ?_) fun _ _ e => e)
  obtain ⟨z, H', I', rv, k, rfl, q⟩ := hv
  exact ⟨k, rv, .bl k, H', I', rfl, q⟩
end
/-- o.m(e, ..) within a try -/
def tMethS (C : Addr) (m : Str) (sp : Sp) (dvs : List V) (E : L2.St → XK) (ta : TE) (t : TA) : TE := fun σ H Q => ta σ H fun x H1 => ∃ a dx fs, x = .ref a ∧ H1 a = some (.ins C dx fs) ∧ fs.lookup m = none ∧
  t σ H1 fun vs H2 => sp (x :: (vs ++ dvs)) H2 Q (E σ)
section
open PySem.Spec PyProof.Rows
variable {X : Cx} {CX : CXT} {k : Nat} {f C : Addr} {fd : FuncData} {ps : List Str} {sp : Sp} {dvs : List V} {ds : List Value} {E : L2.St → XK} {m : Str} {pos apos : Pos} {e o : Expr} {es : List Expr} {ta : TE} {t : TA}
theorem pe_methS {pl : Sem Bool} (he : PE X o ta) (c : Cls X.K C) (hm : Meth X.K C m f) (F : FnOk X.prog X.w X.K X.mg X.base CX k f fd ps sp) (hr : Room k X.A) (hb : Binds X.K fd ps ds) (hd : Vals dvs ds) (hx : ∀ σ, PassesAt CX X σ (E σ)) (ha : PA X (e :: es) t)
    (hst : starEach (e :: es) X.env = (false, eval e X.env) :: starEach es X.env := by rfl) (hpl : (backTo pos (starEach es X.env)).any (·.1) = false := by rfl)
    (ht : eval (.Call (.Attribute o m apos) (e :: es) [] pos) X.env = (do
      let v0 ← eval o X.env
      standAt apos.atName
      let (g0, first0) ← holding [v0] (getMethod v0 m pl)
      callWith pos g0 first0 (backTo pos (starEach (e :: es) X.env)) (backToKw pos (keywordEach [] X.env))) := by rfl) :
    PE X (.Call (.Attribute o m apos) (e :: es) [] pos) (tMethS C m sp dvs E ta t) := by
  refine ⟨fun pins s σ H Q I h => PySem.W.methodCall_KW (pl := pl) (thn (he.run pins s σ H _ I h) fun u s1 hu => ?_) ht⟩
  obtain ⟨x, H1, I1, rx, a, dx, fs, ex, ea, l, q⟩ := hu
  subst ex
  obtain rfl : u = Value.ref a := rx
  refine getmeth_ok I1 ea c hm l ?_
  refine PySem.W.callWith_K (first := [.ref a]) (h₀ := X.base) I.ok.mod.kin hm.kp (thn (ha.run pos pins s1 σ H1 _ I1 q) fun us s2 hw => ?_) hst hpl
  obtain ⟨vs, H2, I2, r, q2⟩ := hw
  exact ⟨I2.kIn, run_fnSD (us := .ref a :: us) (vs := .ref a :: vs) F hr hb hd (hx σ) I2 (.cons rfl r) q2⟩
end

/-! ### class methods -/
section
open PySem.Spec PyProof.Rows
variable {X : Cx} {CX : CXT} {k i : Nat} {f C p0 g : Addr} {fd : FuncData} {ps : List Str} {sp : Sp} {dvs : List V} {ds : List Value} {E : XK} {x m : Str} {p pos apos : Pos} {e o : Expr} {es : List Expr} {t : TA} {ta : TE} {mc : Value}
def tMakeV (i : Nat) (C : Addr) (sp : Sp) (dvs : List V) (E : XK) (t : TA) : TE := fun σ H Q => σ[i]? = some (some (.ref C)) ∧ tMake C sp dvs E t σ H Q
/-- cls(e, ..) -/
theorem pe_makeV (M : Mk X.K C f) (F : FnOk X.prog X.w X.K X.mg X.base CX k f fd ps sp) (hr : Room (k + 1) X.A) (hN : X.N[i]? = some x) (hv : Vis X.env.scope x) (hb : Binds X.K fd ps ds) (hd : Vals dvs ds) (hx : Passes CX X E) (ha : PA X (e :: es) t)
    (h1 : (x == ("__debug__" : Str)) = false := by decide) (h2 : (x == ("__classdict__" : Str)) = false := by decide) (he : starEach (e :: es) X.env = (false, eval e X.env) :: starEach es X.env := by rfl) (hpl : (backTo pos (starEach es X.env)).any (·.1) = false := by rfl) :
    PE X (.Call (.Name x p) (e :: es) [] pos) (tMakeV i C sp dvs E t) := by
  refine ⟨fun pins s σ H Q I h => ?_⟩
  obtain ⟨hs, h⟩ := h
  refine wpAny_Call_Name_kw (thn ((pe_var (pos := p) (i := i) hN hv h1 h2).run pins s σ H (fun v H1 => v = .ref C ∧ H1 = H) I ⟨.ref C, hs, rfl, rfl⟩) fun u s1 z => ?_)
  obtain ⟨v, H1, I1, r1, ev, eH⟩ := z
  subst ev
  rw [eH] at I1
  cases r1
  refine PySem.W.callWith_K (h₀ := X.base) I.ok.mod.kin M.kp (thn (ha.run pos pins s1 σ H _ I1 h) fun us s2 z => ?_) he hpl
  obtain ⟨vs, H2, I2, r, q⟩ := z
  exact ⟨I2.kIn, run_make M F hr hb hd hx I2 r q⟩
def tCMethS (C : Addr) (sp : Sp) (E : L2.St → XK) (ta : TE) (t : TA) : TE := fun σ H Q => ta σ H fun x H1 => x = .ref C ∧ t σ H1 fun vs H2 => sp (.ref C :: vs) H2 Q (E σ)
/-- C.m(e, ..) within a try -/
theorem pe_cmethS {pl : Sem Bool} {ES : L2.St → XK} (ho : PE X o ta) (r : ClX.CRead X.K C mc) (c : ClX.CMet X.K C mc m p0 g) (F : FnR X.prog X.w X.K X.mg X.base CX k g sp) (hr : Room k X.A) (hx : ∀ σ, PassesAt CX X σ (ES σ)) (ha : PA X (e :: es) t)
    (hst : starEach (e :: es) X.env = (false, eval e X.env) :: starEach es X.env := by rfl) (hpl : (backTo pos (starEach es X.env)).any (·.1) = false := by rfl)
    (ht : eval (.Call (.Attribute o m apos) (e :: es) [] pos) X.env = (do
      let v0 ← eval o X.env
      standAt apos.atName
      let (g0, first0) ← holding [v0] (getMethod v0 m pl)
      callWith pos g0 first0 (backTo pos (starEach (e :: es) X.env)) (backToKw pos (keywordEach [] X.env))) := by rfl) :
    PE X (.Call (.Attribute o m apos) (e :: es) [] pos) (tCMethS C sp ES ta t) := by
  refine ⟨fun pins s σ H Q I h => PySem.W.methodCall_KW (pl := pl) (thn (ho.run pins s σ H _ I h) fun u s1 z => ?_) ht⟩
  obtain ⟨v, H1, I1, rx, ex, q⟩ := z
  subst ex
  obtain rfl : u = Value.ref C := rx
  refine ClX.getmethcm_ok I1 r c fun s2 I2 => ?_
  refine ClX.callwith_cm I2 (ClX.base_none I1 (Nat.le_refl _)) c.fi (thn (ha.run pos _ s2 σ H1 _ I2 q) fun us s3 z => ?_) hst hpl
  obtain ⟨vs, H2, I3, rv, q2⟩ := z
  refine ⟨⟨ClX.pin_at I3, I3.kIn⟩, ?_⟩
  have run : codeAny (model X.prog X.w) X.A (.call (.ref g) ⟨.ref C :: us, []⟩) (fun r s' => match r with | .ok (.ret v) => EP X _ σ Q v s' | .ok _ => False | .error e => X.xe e s') s3 :=
    codeAny_mono (F X.A X.stack s3 H2 (.ref C :: us) (.ref C :: vs) Q (ES σ) hr I3.env0 (.cons rfl rv) q2) fun r4 s4 hq => by
      cases r4 with
      | error e => exact hx σ _ H2 s3 e s4 I3 hq
      | ok fl => cases fl with
        | ret u => exact I3.after hq
        | next => exact hq.elim
        | brk => exact hq.elim
        | cont => exact hq.elim
  exact thn (wpAny_call (PySem.W.method_call (ClX.pin_at I3) run)) fun _ _ y => ClX.unpinE y
end

/-! ### hours with a property -/
def hrs (n : Int) (p : Int → Bool) : List Int := pick n.toNat (fun h => p (h : Int)) fun h => (h : Int)
theorem mem_hrs {n z : Int} {p : Int → Bool} : z ∈ hrs n p ↔ (0 ≤ z ∧ z < n) ∧ p z = true := by
  unfold hrs pick
  constructor
  · intro h
    obtain ⟨i, hi, rfl⟩ := List.mem_map.mp h
    have a := List.mem_filter.mp hi
    have b := List.mem_range.mp a.1
    exact ⟨⟨by omega, by omega⟩, a.2⟩
  · rintro ⟨⟨h0, h1⟩, h2⟩
    have e : ((z.toNat : Nat) : Int) = z := by omega
    exact List.mem_map.mpr ⟨z.toNat, List.mem_filter.mpr ⟨List.mem_range.mpr (by omega), by rw [e]; exact h2⟩, e⟩
theorem asc_hrs {n : Int} {p : Int → Bool} (hn : 0 ≤ n) : Asc 0 n (hrs n p) := by
  have h := asc_range (f := fun h => p (h : Int)) n.toNat
  rw [show ((n.toNat : Nat) : Int) = n by omega] at h
  exact h
theorem hrs_eq {n : Int} {p : Int → Bool} {xs : List Int} (hn : 0 ≤ n) (h : Asc 0 n xs) (hp : ∀ z, 0 ≤ z → z < n → (z ∈ xs ↔ p z = true)) : hrs n p = xs := by
  refine asc_unique (asc_hrs hn).1 h.1 fun z => ?_
  rw [mem_hrs]
  constructor
  · rintro ⟨⟨h0, h1⟩, h2⟩
    exact (hp z h0 h1).mpr h2
  · intro hz
    have b := h.2 z hz
    exact ⟨b, (hp z b.1 b.2).mp hz⟩
theorem hrs_congr {n : Int} {p q : Int → Bool} (h : ∀ z, 0 ≤ z → z < n → p z = q z) : hrs n p = hrs n q := by
  unfold hrs
  exact pick_congr fun i hi => h (i : Int) (by omega) (by omega)
theorem resid_hrs {n : Int} {S : List Int} {p : Int → Bool} (hp : ∀ z, 0 ≤ z → z < n → (z ∈ S ↔ p z = true)) : resid n S = hrs n p := by
  unfold resid hrs
  refine pick_congr fun i hi => ?_
  have := hp (i : Int) (by omega) (by omega)
  rw [Bool.eq_iff_iff, decide_eq_true_iff]
  exact this
theorem scan_nodup {n : Int} : ∀ {ms seen : List Int}, (ms.map (· % n)).Nodup → (∀ x ∈ ms, x % n ∉ seen) → scanR n seen ms = none
  | [], _, _, _ => rfl
  | x :: xs, seen, hd, hs => by
    have h := List.nodup_cons.mp hd
    unfold scanR
    rw [if_neg (hs x List.mem_cons_self)]
    refine scan_nodup h.2 fun y hy hm => ?_
    rcases List.mem_append.mp hm with q | q
    · exact hs y (List.mem_cons_of_mem _ hy) q
    · exact h.1 (List.mem_map.mpr ⟨y, hy, List.mem_singleton.mp q⟩)
theorem nodup_map {xs : List Int} {g : Int → Int} (hd : xs.Nodup) (hi : ∀ x ∈ xs, ∀ y ∈ xs, g x = g y → x = y) : (xs.map g).Nodup := by
  induction xs with
  | nil => exact .nil
  | cons x xs ih =>
    have h := List.nodup_cons.mp hd
    refine List.nodup_cons.mpr ⟨fun hm => ?_, ih h.2 fun a ha b hb => hi a (List.mem_cons_of_mem _ ha) b (List.mem_cons_of_mem _ hb)⟩
    obtain ⟨y, hy, e⟩ := List.mem_map.mp hm
    have := hi y (List.mem_cons_of_mem _ hy) x List.mem_cons_self e
    rw [this] at hy
    exact h.1 hy
theorem Asc.nodup {lo hi : Int} {xs : List Int} (h : Asc lo hi xs) : xs.Nodup := h.1.imp fun {a b} hab => by omega
theorem small_eq {n a b : Int} (hn : 0 < n) (h1 : a - b < n) (h2 : b - a < n) (h : a % n = b % n) : a = b := by
  have ea := Int.mul_ediv_add_emod a n
  have eb := Int.mul_ediv_add_emod b n
  have e : a - b = n * (a / n - b / n) := by rw [Int.mul_sub]; omega
  generalize a / n - b / n = q at e
  rcases Int.lt_trichotomy q 0 with hq | hq | hq
  · have := Int.mul_le_mul_of_nonneg_left (show q ≤ -1 by omega) (show 0 ≤ n by omega)
    omega
  · rw [hq] at e
    omega
  · have := Int.mul_le_mul_of_nonneg_left (show 1 ≤ q by omega) (show 0 ≤ n by omega)
    omega
/-- residues of moved hours -/
theorem mem_plus {n k z : Int} {xs : List Int} (hn : 0 < n) (h : Asc 0 n xs) (h0 : 0 ≤ z) (h1 : z < n) : z ∈ (xs.map fun x => x + k).map (· % n) ↔ (z - k) % n ∈ xs := by
  constructor
  · intro hz
    obtain ⟨y, hy, rfl⟩ := List.mem_map.mp hz
    obtain ⟨x, hx, rfl⟩ := List.mem_map.mp hy
    have b := h.2 x hx
    rw [Int.sub_emod, Int.emod_emod, ← Int.sub_emod, show x + k - k = x by omega, Int.emod_eq_of_lt b.1 b.2]
    exact hx
  · intro hz
    refine List.mem_map.mpr ⟨_, List.mem_map.mpr ⟨_, hz, rfl⟩, ?_⟩
    show ((z - k) % n + k) % n = z
    rw [Int.add_emod, Int.emod_emod, ← Int.add_emod, show z - k + k = z by omega, Int.emod_eq_of_lt h0 h1]
theorem nodup_plus {n k : Int} {xs : List Int} (hn : 0 < n) (h : Asc 0 n xs) : ((xs.map fun x => x + k).map (· % n)).Nodup := by
  rw [List.map_map]
  refine nodup_map h.nodup fun x hx y hy e => ?_
  have a := h.2 x hx
  have b := h.2 y hy
  have := small_eq hn (a := x + k) (b := y + k) (by omega) (by omega) e
  omega
theorem mem_minus {n z : Int} {xs : List Int} (hn : 0 < n) (h : Asc 0 n xs) (h0 : 0 ≤ z) (h1 : z < n) : z ∈ (xs.map fun x => -x).map (· % n) ↔ (0 - z) % n ∈ xs := by
  constructor
  · intro hz
    obtain ⟨y, hy, rfl⟩ := List.mem_map.mp hz
    obtain ⟨x, hx, rfl⟩ := List.mem_map.mp hy
    have b := h.2 x hx
    rw [Int.sub_emod, Int.emod_emod, ← Int.sub_emod, show 0 - -x = x by omega, Int.emod_eq_of_lt b.1 b.2]
    exact hx
  · intro hz
    refine List.mem_map.mpr ⟨_, List.mem_map.mpr ⟨_, hz, rfl⟩, ?_⟩
    show (-((0 - z) % n)) % n = z
    rw [show -((0 - z) % n) = 0 - (0 - z) % n by omega, Int.sub_emod, Int.emod_emod, ← Int.sub_emod, show 0 - (0 - z) = z by omega, Int.emod_eq_of_lt h0 h1]
theorem nodup_minus {n : Int} {xs : List Int} (hn : 0 < n) (h : Asc 0 n xs) : ((xs.map fun x => -x).map (· % n)).Nodup := by
  rw [List.map_map]
  refine nodup_map h.nodup fun x hx y hy e => ?_
  have a := h.2 x hx
  have b := h.2 y hy
  have := small_eq hn (a := -x) (b := -y) (by omega) (by omega) e
  omega
theorem mem_self {n z : Int} {xs : List Int} (h : Asc 0 n xs) : z ∈ xs.map (· % n) ↔ z ∈ xs := by
  have := asc_mod h
  rw [this]
/-- ints told apart -/
theorem eqv_ints : ∀ xs ys : List Int, PyData.eqvAll (xs.map PyData.int) (ys.map PyData.int) = decide (xs = ys)
  | [], [] => by simp [PyData.eqvAll]
  | [], y :: ys => by simp [PyData.eqvAll]
  | x :: xs, [] => by simp [PyData.eqvAll]
  | x :: xs, y :: ys => by
    rw [List.map_cons, List.map_cons, PyData.eqvAll, eqv_ints xs ys, PyData.eqv]
    by_cases e : x = y
    · subst e; simp
    · simp [e]
theorem eqv_intsL {xs ys : List Int} : PyData.eqv (.list (xs.map PyData.int)) (.list (ys.map PyData.int)) = decide (xs = ys) := by
  rw [PyData.eqv, eqv_ints]
theorem lay_ints : ∀ xs : List Int, PyData.canLayAll0 (xs.map PyData.int) = true
  | [] => by simp [PyData.canLayAll0]
  | x :: xs => by
    have := lay_ints xs
    simp [PyData.canLayAll0, PyData.canLay0, this]
theorem depth_ints : ∀ xs : List Int, PyData.depthAll (xs.map PyData.int) ≤ 1
  | [] => by simp [PyData.depthAll]
  | x :: xs => by
    have := depth_ints xs
    simp [PyData.depthAll, PyData.depth]
    omega
theorem shaped_ints (xs : List Int) : SeqAt.shaped (.list (xs.map PyData.int)) = true := by
  have h1 := lay_ints xs
  have h2 := depth_ints xs
  unfold SeqAt.shaped
  simp [PyData.canLay0, PyData.depth, h1]
  omega
/-- v is a lot: its hours and members -/
structure LotIs (C : Addr) (v : V) (H : Hp) (n : Int) (xs : List Int) : Prop where
  at_ : LotAt C H v n xs
  hn : 1 ≤ n ∧ n ≤ 360
  asc : Asc 0 n xs
theorem LotIs.ex {C : Addr} {v : V} {H H' : Hp} {n : Int} {xs : List Int} (e : Ex H H') (h : LotIs C v H n xs) : LotIs C v H' n xs := ⟨h.at_.ex e, h.hn, h.asc⟩
theorem LotIs.len {C : Addr} {v : V} {H : Hp} {n : Int} {xs : List Int} (h : LotIs C v H n xs) : xs.length ≤ 360 := by
  have := h.asc.len
  have := h.hn
  omega

/-! ### fractions -/
def CDivV (_ j : Int) : Prop := j ≠ 0 ∧ j.natAbs.log2 < 9000
theorem op_fdivV {X : Cx} : OpR X (binaryOp .FloorDiv) (rI CDivV fun i j => .int (i.fdiv j)) := opI fun _ _ _ _ _ _ _ hc q => PyProof.Rows.floordiv_int hc.1 q (.inl (PyProof.noPylong_of_log2 hc.2))
def tCallNS (n m : Nat) (sp : Sp) (gV : List V → List V → List V) (E : L2.St → XK) (t tk : TA) : TE := fun σ H Q => t σ H fun vs H1 => tk σ H1 fun zs H2 =>
  vs.length = n ∧ zs.length = m ∧ sp (gV vs zs) H2 Q (E σ)
section
open PySem.Spec PyProof.Rows
variable {X : Cx} {CX : CXT} {k n : Nat} {f : Addr} {fd : FuncData} {ps ks : List Str} {sp : Sp} {E : L2.St → XK} {x : Str} {p pos : Pos} {e : Expr} {es : List Expr} {kws : List Keyword} {t tk : TA} {g : List Value → List Value → List Value} {gV : List V → List V → List V}
/-- f(e, .., k = v, ..) within a try -/
theorem pe_callNS (F : FnOk X.prog X.w X.K X.mg X.base CX k f fd ps sp) (hr : Room k X.A) (hg : Gl X x) (hm : X.mg x = some (.ref f)) (hk : PySem.W.keepIn X.K (.ref f) = true) (hb : KBn X.K fd ps n ks g gV) (hx : ∀ σ, PassesAt CX X σ (E σ))
    (ha : PA X (e :: es) t) (hkw : PK X kws tk) (hall : (backToKw pos (keywordEach kws X.env)).all (·.1.isSome) = true := by rfl) (hks : (backToKw pos (keywordEach kws X.env)).filterMap (·.1) = ks := by rfl)
    (hdb : (x == ("__debug__" : Str)) = false := by decide) (he : starEach (e :: es) X.env = (false, eval e X.env) :: starEach es X.env := by rfl) (hpl : ((backTo pos (starEach (e :: es) X.env)).any (·.1) || (backToKw pos (keywordEach kws X.env)).any (·.1.isNone)) = false := by rfl) :
    PE X (.Call (.Name x p) (e :: es) kws pos) (tCallNS n ks.length sp gV E t tk) := by
  refine ⟨fun pins s σ H Q I h => wpAny_Call_Name_kw (ld_glob I hg hm ?_ hdb)⟩
  refine PySem.W.callWith_KW (h₀ := X.base) I.ok.mod.kin hk hall (thn (ha.run pos pins s σ H _ I h) fun us s1 hu => ?_) hpl he
  obtain ⟨vs, H1, I1, r, q⟩ := hu
  refine thn (hkw.run pos pins s1 σ H1 _ I1 q) fun ws s2 hw => ?_
  obtain ⟨zs, H2, I2, rz, l1, l2, q2⟩ := hw
  refine ⟨I2.kIn, ?_⟩
  rw [hks]
  have r2 := hb.rel r rz
  refine wpAny_call (codeAny_mono (F.run X.A X.stack s2 H2 ⟨us, ks.zip ws⟩ (g us ws) (gV vs zs) Q (E σ) hr I2.env0 (hb.to s2 us ws I2.kIn (r.length.symm.trans l1) (rz.length.symm.trans l2)) r2 q2) fun r s' hq => ?_)
  cases r with
  | error e => exact hx σ pins H2 s2 e s' I2 hq
  | ok fl => cases fl with
    | ret u => exact I2.after hq
    | next => exact hq.elim
    | brk => exact hq.elim
    | cont => exact hq.elim
end
/-- t / u is p / q in lowest terms -/
structure Low (p q t u : Int) : Prop where
  pos : 0 < u
  cop : Nat.gcd t.natAbs u.natAbs = 1
  eq : t * q = p * u
  lt : t.natAbs ≤ p.natAbs
  lu : u.natAbs ≤ q.natAbs
def gc (p q : Int) : Int := if q < 0 then -((Nat.gcd p.natAbs q.natAbs : Nat) : Int) else ((Nat.gcd p.natAbs q.natAbs : Nat) : Int)
theorem gc_dvd (p q : Int) : gc p q ∣ p ∧ gc p q ∣ q := by
  have h1 : ((Nat.gcd p.natAbs q.natAbs : Nat) : Int) ∣ p := Int.ofNat_dvd_left.mpr (Nat.gcd_dvd_left _ _)
  have h2 : ((Nat.gcd p.natAbs q.natAbs : Nat) : Int) ∣ q := Int.ofNat_dvd_left.mpr (Nat.gcd_dvd_right _ _)
  unfold gc
  split
  · exact ⟨Int.neg_dvd.mpr h1, Int.neg_dvd.mpr h2⟩
  · exact ⟨h1, h2⟩
theorem gc_abs (p q : Int) : (gc p q).natAbs = Nat.gcd p.natAbs q.natAbs := by
  unfold gc
  split <;> omega
theorem gc_ne {p q : Int} (h : q ≠ 0) : gc p q ≠ 0 := by
  have g0 : 0 < Nat.gcd p.natAbs q.natAbs := Nat.gcd_pos_of_pos_right _ (by omega)
  have := gc_abs p q
  intro z
  rw [z] at this
  simp at this
  omega
theorem gc_le {p q : Int} (h : q ≠ 0) : (gc p q).natAbs ≤ q.natAbs := by
  rw [gc_abs]
  exact Nat.le_of_dvd (by omega) (Nat.gcd_dvd_right _ _)
theorem low_gc {p q : Int} (h : q ≠ 0) : Low p q (p.fdiv (gc p q)) (q.fdiv (gc p q)) := by
  obtain ⟨⟨a, ha⟩, ⟨b, hb⟩⟩ := gc_dvd p q
  have g0 := gc_ne (p := p) h
  have e1 : p.fdiv (gc p q) = a := by
    conv => lhs; arg 1; rw [ha]
    exact Int.mul_fdiv_cancel_left a g0
  have e2 : q.fdiv (gc p q) = b := by
    conv => lhs; arg 1; rw [hb]
    exact Int.mul_fdiv_cancel_left b g0
  rw [e1, e2]
  have ga := gc_abs p q
  have gp : 0 < Nat.gcd p.natAbs q.natAbs := Nat.gcd_pos_of_pos_right _ (by omega)
  have na : p.natAbs = Nat.gcd p.natAbs q.natAbs * a.natAbs := by
    conv => lhs; rw [ha]
    rw [Int.natAbs_mul, ga]
  have nb : q.natAbs = Nat.gcd p.natAbs q.natAbs * b.natAbs := by
    conv => lhs; rw [hb]
    rw [Int.natAbs_mul, ga]
  refine ⟨?_, ?_, ?_, ?_, ?_⟩
  · by_cases hq : q < 0
    · have hg : gc p q < 0 := by unfold gc; rw [if_pos hq]; omega
      rcases Int.lt_trichotomy b 0 with hb0 | hb0 | hb0
      · have := Int.mul_pos_of_neg_of_neg hg hb0
        omega
      · rw [hb0] at hb; simp at hb; omega
      · exact hb0
    · have hg : 0 < gc p q := by unfold gc; rw [if_neg hq]; omega
      rcases Int.lt_trichotomy b 0 with hb0 | hb0 | hb0
      · have := Int.mul_neg_of_pos_of_neg hg hb0
        omega
      · rw [hb0] at hb; simp at hb; omega
      · exact hb0
  · have e : Nat.gcd p.natAbs q.natAbs * Nat.gcd a.natAbs b.natAbs = Nat.gcd p.natAbs q.natAbs * 1 := by
      rw [← Nat.gcd_mul_left, ← na, ← nb, Nat.mul_one]
    exact Nat.eq_of_mul_eq_mul_left gp e
  · conv => lhs; rw [hb]
    conv => rhs; rw [ha]
    rw [← Int.mul_assoc, Int.mul_comm a]
  · rw [na]; exact Nat.le_mul_of_pos_left _ gp
  · rw [nb]; exact Nat.le_mul_of_pos_left _ gp
def ratF (t u : Int) : List (Str × V) := [("top", .int t), ("under", .int u)]
theorem putR {y z : V} : putF "under" z (putF "top" y []) = [(("top" : Str), y), (("under" : Str), z)] := by
  have h : ¬ ("top" : Str) = "under" := by decide +kernel
  show (if ("top" : Str) = "under" then _ else (("top" : Str), y) :: putF "under" z []) = _
  rw [if_neg h]
  rfl
def RatAt (C : Addr) (v : V) (H : Hp) (t u : Int) : Prop := ∃ a dx, v = .ref a ∧ H a = some (.ins C dx (ratF t u))
theorem RatAt.ex {C : Addr} {v : V} {H H' : Hp} {t u : Int} (e : Ex H H') (h : RatAt C v H t u) : RatAt C v H' t u := by
  obtain ⟨a, dx, rfl, h⟩ := h
  exact ⟨a, dx, rfl, e _ _ h⟩
theorem ev_top {K : PySem.W.Frag} {C : Addr} {te : TE} {σ : L2.St} {H : Hp} {v : V} {t u : Int} (h : Ev te σ H v) (hv : RatAt C v H t u) (c : Cls K C) (na : NoAttr K C "top") : Ev (tFld K te "top") σ H (.int t) := fun H1 e Q q => by
  obtain ⟨a, dx, rfl, hi⟩ := hv
  exact h H1 e _ fun H2 e2 => ⟨a, _, dx, _, _, rfl, e2 _ _ (e _ _ hi), c, na, rfl, q H2 e2⟩
theorem ev_under {K : PySem.W.Frag} {C : Addr} {te : TE} {σ : L2.St} {H : Hp} {v : V} {t u : Int} (h : Ev te σ H v) (hv : RatAt C v H t u) (c : Cls K C) (na : NoAttr K C "under") : Ev (tFld K te "under") σ H (.int u) := fun H1 e Q q => by
  obtain ⟨a, dx, rfl, hi⟩ := hv
  exact h H1 e _ fun H2 e2 => ⟨a, _, dx, _, _, rfl, e2 _ _ (e _ _ hi), c, na, by rfl, q H2 e2⟩
theorem log_lt {z : Int} {b : Nat} (h : z.natAbs < 2 ^ b) (h0 : 0 < b) : z.natAbs.log2 < b := PySem.Flt.log2_lt_of h0 h

/-! ### an object made within a try -/
section
open PySem.Spec PyProof.Rows
variable {X : Cx} {CX : CXT} {k : Nat} {f C : Addr} {fd : FuncData} {ps : List Str} {sp : Sp} {dvs : List V} {ds : List Value} {E : L2.St → XK} {x : Str} {p pos : Pos} {e : Expr} {es : List Expr} {t : TA}
def tMakeS (C : Addr) (sp : Sp) (dvs : List V) (E : L2.St → XK) (t : TA) : TE := fun σ H Q => t σ H fun vs H1 => ∀ x dx, H1 x = none → H1 dx = none → dx ≠ x →
  sp (.ref x :: (vs ++ dvs)) (upd (upd H1 dx (.own x)) x (.ins C dx [])) (fun v H2 => v = .non ∧ Q (.ref x) H2) (E σ)
theorem pe_makeS (M : Mk X.K C f) (F : FnOk X.prog X.w X.K X.mg X.base CX k f fd ps sp) (hr : Room (k + 1) X.A) (hg : Gl X x) (hm : X.mg x = some (.ref C)) (hb : Binds X.K fd ps ds) (hd : Vals dvs ds) (hx : ∀ σ, PassesAt CX X σ (E σ))
    (ha : PA X (e :: es) t) (hdb : (x == ("__debug__" : Str)) = false := by decide) (he : starEach (e :: es) X.env = (false, eval e X.env) :: starEach es X.env := by rfl) (hpl : (backTo pos (starEach es X.env)).any (·.1) = false := by rfl) :
    PE X (.Call (.Name x p) (e :: es) [] pos) (tMakeS C sp dvs E t) := by
  refine ⟨fun pins s σ H Q I h => wpAny_Call_Name_kw (ld_glob I hg hm ?_ hdb)⟩
  refine PySem.W.callWith_K (h₀ := X.base) I.ok.mod.kin M.kp (thn (ha.run pos pins s σ H _ I h) fun us s1 hu => ?_) he hpl
  obtain ⟨vs, H1, J, r, q⟩ := hu
  refine ⟨J.kIn, ?_⟩
  have hq := q (s1.heap.objs.size + 1) s1.heap.objs.size (J.hok.fresh (Nat.le_succ _)) (J.hok.fresh (Nat.le_refl _)) (Nat.ne_of_lt (Nat.lt_succ_self _))
  have J2 := Inv.made (C := C) J
  have r2 : Vals (V.ref (s1.heap.objs.size + 1) :: (vs ++ dvs)) (Value.ref (s1.heap.objs.size + 1) :: (us ++ ds)) := .cons rfl (r.append hd)
  have hl : (Value.ref (s1.heap.objs.size + 1) :: us ++ ds).length = ps.length := by
    have e0 := r2.length
    rw [F.len _ _ _ _ hq] at e0
    exact e0.symm
  have go := F.run _ X.stack _ _ ⟨Value.ref (s1.heap.objs.size + 1) :: us, []⟩ (Value.ref (s1.heap.objs.size + 1) :: (us ++ ds)) _ _ (E σ) (hr.make C us []) (J2.env0.make C us []) (hb _ (Value.ref (s1.heap.objs.size + 1) :: us) J2.kIn hl) r2 hq
  refine wpAny_call (make_map (f := f) J.kIn M.makes M.init (beq_iff_eq.mp M.fn) (codeAny_mono go fun r3 s3 hq3 => ?_))
  cases r3 with
  | error e => exact hx σ pins _ _ e s3 J2 hq3
  | ok fl => cases fl with
    | ret u =>
      obtain ⟨v, H3, J3, rv, ev, q3⟩ := J2.after hq3
      subst ev
      exact ⟨rv, ⟨V.ref (s1.heap.objs.size + 1), H3, J3, rfl, q3⟩⟩
    | next => exact hq3.elim
    | brk => exact hq3.elim
    | cont => exact hq3.elim
end

structure Sz (z : Int) : Prop where
  lt : z.natAbs < 2 ^ 3900
theorem szr_of {z : Int} {b : Nat} (h : z.natAbs < 2 ^ b) (hb : b ≤ 3900) : Sz z := ⟨Nat.lt_of_lt_of_le h (Nat.pow_le_pow_right (by decide) hb)⟩
theorem Sz.le {y z : Int} (h : Sz z) (hy : y.natAbs ≤ z.natAbs) : Sz y := ⟨Nat.lt_of_le_of_lt hy h.lt⟩
theorem Sz.mul {y z : Int} (h : Sz y) (g : Sz z) : CMulW y z := wide_mul h.lt g.lt (by decide) (by decide) (by decide)
theorem Sz.low {y z : Int} (h : Sz y) (g : Sz z) : (y * z).natAbs < 2 ^ 8000 := Nat.lt_of_lt_of_le (wide_lt h.lt g.lt) (Nat.pow_le_pow_right (by decide) (by decide))
theorem sz_neg {z : Int} (h : Sz z) : Sz (-z) := h.le (by omega)
theorem low_of {p q t u : Int} (hu : 0 < u) (hg : Nat.gcd t.natAbs u.natAbs = 1) (he : t * q = p * u) (hq : q ≠ 0) : Low p q t u := by
  have e : t.natAbs * q.natAbs = p.natAbs * u.natAbs := by rw [← Int.natAbs_mul, he, Int.natAbs_mul]
  refine ⟨hu, hg, he, ?_, ?_⟩
  · have d : t.natAbs ∣ p.natAbs := Nat.Coprime.dvd_of_dvd_mul_right (k := t.natAbs) (n := u.natAbs) hg ⟨q.natAbs, e.symm⟩
    by_cases hp : p = 0
    · subst hp
      rw [Int.zero_mul] at he
      have : t = 0 := (Int.mul_eq_zero.mp he).resolve_right hq
      omega
    · exact Nat.le_of_dvd (by omega) d
  · have d : u.natAbs ∣ q.natAbs := Nat.Coprime.dvd_of_dvd_mul_left (k := u.natAbs) (m := t.natAbs) (by rw [Nat.Coprime, Nat.gcd_comm]; exact hg) ⟨p.natAbs, by rw [e, Nat.mul_comm]⟩
    exact Nat.le_of_dvd (by omega) d
theorem low_same {p q p' q' t u : Int} (h : Low p q t u) (e : p * q' = p' * q) (hq : q ≠ 0) (hq' : q' ≠ 0) : Low p' q' t u := by
  refine low_of h.pos h.cop ?_ hq'
  have h1 := h.eq
  have : q * (t * q') = q * (p' * u) := by grind
  exact Int.eq_of_mul_eq_mul_left hq this
theorem low_int {c : Int} : Low c 1 c 1 := ⟨by decide, by simp, rfl, Nat.le_refl _, Nat.le_refl _⟩
theorem mul_ne {b d : Int} (hb : b ≠ 0) (hd : d ≠ 0) : b * d ≠ 0 := fun z => (Int.mul_eq_zero.mp z).elim hb hd
theorem low_add {a b c d t u t' u' T U : Int} (h1 : Low a b t u) (h2 : Low c d t' u') (h : Low (t * u' + t' * u) (u * u') T U) (hb : b ≠ 0) (hd : d ≠ 0) : Low (a * d + c * b) (b * d) T U := by
  have e1 := h1.eq
  have e2 := h2.eq
  have p1 := h1.pos
  have p2 := h2.pos
  exact low_same h (by grind) (mul_ne (by omega) (by omega)) (mul_ne hb hd)
theorem low_mul {a b c d t u t' u' T U : Int} (h1 : Low a b t u) (h2 : Low c d t' u') (h : Low (t * t') (u * u') T U) (hb : b ≠ 0) (hd : d ≠ 0) : Low (a * c) (b * d) T U := by
  have e1 := h1.eq
  have e2 := h2.eq
  have p1 := h1.pos
  have p2 := h2.pos
  exact low_same h (by grind) (mul_ne (by omega) (by omega)) (mul_ne hb hd)
theorem low_neg {a b t u T U : Int} (h1 : Low a b t u) (h : Low (-t) u T U) (hb : b ≠ 0) : Low (-a) b T U := by
  have e1 := h1.eq
  have p1 := h1.pos
  exact low_same h (by grind) (by omega) hb
theorem low_abs {a b t u T U : Int} (h1 : Low a b t u) (h : Low (t.natAbs : Int) u T U) (hb : 0 < b) : Low (a.natAbs : Int) b T U := by
  have p1 := h1.pos
  refine low_same h ?_ (by omega) (by omega)
  have e : t.natAbs * b.natAbs = a.natAbs * u.natAbs := by rw [← Int.natAbs_mul, h1.eq, Int.natAbs_mul]
  have e2 : ((t.natAbs * b.natAbs : Nat) : Int) = ((a.natAbs * u.natAbs : Nat) : Int) := by rw [e]
  rw [Int.natCast_mul, Int.natCast_mul] at e2
  rwa [show (b.natAbs : Int) = b by omega, show (u.natAbs : Int) = u by omega] at e2

/-! ### letters and words -/
def LET : Str := "abcdefghijklmnopqrstuvwxyz"
theorem let_list : LET.cps.toList = (List.range 26).map fun c => 97 + c := by decide +kernel
theorem mem_let {c : Nat} : c ∈ LET.cps.toList ↔ 97 ≤ c ∧ c ≤ 122 := by
  rw [let_list]
  constructor
  · intro h
    obtain ⟨i, hi, rfl⟩ := List.mem_map.mp h
    have := List.mem_range.mp hi
    omega
  · rintro ⟨h0, h1⟩
    exact List.mem_map.mpr ⟨c - 97, List.mem_range.mpr (by omega), by omega⟩
theorem let_at {i : Int} (h : 0 ≤ i ∧ i < 26) : atI LET.cps.toList i = some (97 + i.toNat) := by
  have h2 := atI_nat (xs := LET.cps.toList) (j := i.toNat) (v := 97 + i.toNat) (by rw [let_list, List.getElem?_map, List.getElem?_range (by omega)]; rfl)
  rwa [Int.toNat_of_nonneg h.1] at h2
theorem let_occ {c : Nat} (h : 97 ≤ c ∧ c ≤ 122) : Builtin.Str.occurrences LET ⟨#[c]⟩ 0 LET.length 1 = [c - 97] := by
  have e : ∀ i : Nat, i < 26 → Builtin.Str.occurrences LET ⟨#[97 + i]⟩ 0 LET.length 1 = [i] := by decide +kernel
  have := e (c - 97) (by omega)
  rwa [show 97 + (c - 97) = c by omega] at this
/-- a text by its signs -/
def txt (l : List Nat) : Str := ⟨l.toArray⟩
theorem txt_list (l : List Nat) : (txt l).cps.toList = l := rfl
theorem txt_len (l : List Nat) : (txt l).length = l.length := by simp [txt, Str.length]
theorem txt_of (z : Str) : txt z.cps.toList = z := by cases z; simp [txt]
theorem txt_inj {a b : List Nat} (h : txt a = txt b) : a = b := by
  have := congrArg (fun z : Str => z.cps.toList) h
  simpa [txt] using this
theorem txt_add (a b : List Nat) : txt a ++ txt b = txt (a ++ b) := by
  show (⟨_ ++ _⟩ : Str) = _
  simp [txt]
theorem txt_one (c : Nat) : (⟨#[c]⟩ : Str) = txt [c] := rfl
/-- 1 to 8 letters -/
structure Word (z : Str) : Prop where
  len : 1 ≤ z.length ∧ z.length ≤ 8
  all : ∀ c ∈ z.cps.toList, 97 ≤ c ∧ c ≤ 122
theorem cut_last {l : List Nat} : cutS (txt l) none (some (-1)) = txt l.dropLast := by
  unfold cutS
  rw [HT.sIx_none, txt_len, txt_list, List.drop_zero, Nat.sub_zero, List.dropLast_eq_take]
  show txt _ = txt _
  congr 2
  show (if (-1 : Int) < 0 then ((-1 : Int) + (l.length : Int)).toNat else min (-1 : Int).toNat l.length) = _
  rw [if_pos (by decide)]
  omega
/-- one letter on, at the end -/
def bump (p : List Nat) (c i : Nat) : Str := txt (p ++ [97 + (c + i) % 26])
theorem bump_inj {p : List Nat} {c i j : Nat} (hi : i < 26) (hj : j < 26) (h : bump p c i = bump p c j) : i = j := by
  have e := List.append_inj_right' (txt_inj h) rfl
  simp at e
  omega
theorem word_split {z : Str} (h : Word z) : ∃ (p : List Nat) (c : Nat), c < 26 ∧ p.length ≤ 7 ∧ (∀ d ∈ p, 97 ≤ d ∧ d ≤ 122) ∧ z = bump p c 0 := by
  obtain ⟨⟨h1, h2⟩, ha⟩ := h
  have hl : z.cps.toList.length = z.length := by simp [Str.length]
  have hne : z.cps.toList ≠ [] := fun e => by rw [e] at hl; simp at hl; omega
  have hm := ha _ (List.getLast_mem hne)
  have hs := List.dropLast_concat_getLast hne
  refine ⟨z.cps.toList.dropLast, z.cps.toList.getLast hne - 97, by omega, by rw [List.length_dropLast]; omega, fun d hd => ha d (List.dropLast_subset _ hd), ?_⟩
  unfold bump
  rw [show 97 + (z.cps.toList.getLast hne - 97 + 0) % 26 = z.cps.toList.getLast hne by omega, hs, txt_of]
theorem bump_word {p : List Nat} {c i : Nat} (hp : p.length ≤ 7) (ha : ∀ d ∈ p, 97 ≤ d ∧ d ≤ 122) : Word (bump p c i) := by
  refine ⟨?_, fun d hd => ?_⟩
  · unfold bump
    rw [txt_len, List.length_append]
    simp
    omega
  · unfold bump at hd
    rw [txt_list] at hd
    rcases List.mem_append.mp hd with h | h
    · exact ha d h
    · have := List.mem_singleton.mp h
      omega
theorem bump_next {p : List Nat} {c i : Nat} : txt p ++ (⟨#[97 + ((97 + (c + i) % 26) - 97 + 1) % 26]⟩ : Str) = bump p c (i + 1) := by
  rw [txt_one, txt_add]
  unfold bump
  congr 3
  omega
theorem nodup_sub {α : Type} [DecidableEq α] : ∀ {l m : List α}, l.Nodup → (∀ x ∈ l, x ∈ m) → l.length ≤ m.length
  | [], _, _, _ => Nat.zero_le _
  | x :: l, m, hd, hs => by
    have h := List.nodup_cons.mp hd
    have hx := hs x List.mem_cons_self
    have ih := nodup_sub (m := m.erase x) h.2 fun y hy => (List.mem_erase_of_ne fun e => h.1 (by rw [← e]; exact hy)).mpr (hs y (List.mem_cons_of_mem _ hy))
    rw [List.length_erase_of_mem hx] at ih
    have := List.length_pos_of_mem hx
    rw [List.length_cons]
    omega
theorem bumps_out {p : List Nat} {c : Nat} {ns : List Str} (hn : ns.length ≤ 7) (h : ∀ s : Nat, s < 8 → bump p c s ∈ ns) : False := by
  have hd : ((List.range 8).map (bump p c)).Nodup := by
    refine List.pairwise_map.mpr (List.Pairwise.imp_of_mem (fun {i j} hi hj hne e => hne (bump_inj (by have := List.mem_range.mp hi; omega) (by have := List.mem_range.mp hj; omega) e)) List.nodup_range)
  have := nodup_sub hd (m := ns) fun x hx => by
    obtain ⟨i, hi, rfl⟩ := List.mem_map.mp hx
    exact h i (List.mem_range.mp hi)
  rw [List.length_map, List.length_range] at this
  omega
theorem inV_strs {x : Str} {ns : List Str} : inV (V.str x) (ns.map V.str) = decide (x ∈ ns) := by
  unfold inV
  induction ns with
  | nil => rfl
  | cons y ns ih =>
    rw [List.map_cons, List.any_cons, ih]
    by_cases h : y = x
    · subst h
      simp [eqV]
    · have h' : ¬ x = y := fun z => h z.symm
      simp [eqV, h, h']
theorem strs_flat (ns : List Str) : (ns.map V.str).all flatV = true := by
  rw [List.all_map, List.all_eq_true]
  exact fun _ _ => rfl
theorem some_str {ns : List Str} {i : Nat} {y : V} (h : (ns.map V.str)[i]? = some y) : ∃ u, y = V.str u ∧ ns[i]? = some u := by
  rw [List.getElem?_map] at h
  cases e : ns[i]? with
  | none => rw [e] at h; cases h
  | some u => rw [e] at h; exact ⟨u, (Option.some.inj h).symm, rfl⟩
/-! ### terms on texts -/
theorem rv_addS {H : Hp} {x y : Str} (h : x.length + y.length ≤ 100000) : RV (fun x y H Q => ∃ i j, x = .str i ∧ y = .str j ∧ i.length + j.length ≤ sizeLine ∧ Q (.str (i ++ j)) H) (.str x) (.str y) H (.str (x ++ y)) := fun H1 _ Q q => ⟨x, y, rfl, rfl, sz_of h, q H1 (Ex.refl H1)⟩
theorem ev_slS {te : TE} {tl th : TO} {σ : L2.St} {H : Hp} {z : Str} {lo hi : Option Int} (h : Ev te σ H (.str z)) (h1 : EvO tl σ H lo) (h2 : EvO th σ H hi) (hz : z.length ≤ 100000) : Ev (L2.tSl rSlS te tl th) σ H (.str (cutS z lo hi)) := fun H1 e Q q =>
  h H1 e _ fun H2 e2 => h1 H2 (e.trans e2) _ fun H3 e3 => h2 H3 ((e.trans e2).trans e3) _ fun H4 e4 => ⟨z, rfl, sz_of hz, q H4 ((e2.trans e3).trans e4)⟩
theorem ev_letIx {to te : TE} {σ : L2.St} {H : Hp} {c : Nat} (ho : Ev to σ H (.str LET)) (he : Ev te σ H (.str ⟨#[c]⟩)) (hc : 97 ≤ c ∧ c ≤ 122) : Ev (tM1 (fun x xs H Q => ∃ a b i rest, x = .str a ∧ xs = [.str b] ∧ Builtin.Str.occurrences a b 0 a.length 1 = i :: rest ∧ Q (.int (i : Nat)) H) to te) σ H (.int ((c - 97 : Nat) : Int)) := fun H1 e Q q =>
  ho H1 e _ fun H2 e2 => ⟨⟨_, rfl⟩, he H2 (e.trans e2) _ fun H3 e3 => ⟨LET, _, c - 97, [], rfl, rfl, let_occ hc, q H3 (e2.trans e3)⟩⟩
theorem ei_str {σ : L2.St} {H : Hp} {te : TE} {z : Str} (h : Ev te σ H (.str z)) : EvI (iStr te) σ H z.cps.size (fun i G v G' => G' = G ∧ ∃ c, z.cps[i]? = some c ∧ v = .str ⟨#[c]⟩) := fun H1 e R r => h H1 e _ fun H2 e2 =>
  ⟨z, rfl, r _ _ e2 (walk_str.mono (fun _ _ => True.intro) fun _ _ _ _ _ _ y => y)⟩
theorem rv_niS {H : Hp} {c : Nat} {z : Str} : RV (fun x y H Q => ∃ (c : Nat) (z : Str), x = .str ⟨#[c]⟩ ∧ y = .str z ∧ Q (.bl (!decide (c ∈ z.cps.toList))) H) (.str ⟨#[c]⟩) (.str z) H (.bl (!decide (c ∈ z.cps.toList))) := fun H1 _ Q q => ⟨c, z, rfl, rfl, q H1 (Ex.refl H1)⟩
theorem ev_lenS {K : PySem.W.Frag} {te : TE} {σ : L2.St} {H : Hp} {z : Str} (h : Ev te σ H (.str z)) (hz : z.length ≤ 100000) : Ev (tCB (rLenK K) (tCons te tNil)) σ H (.int (z.length : Int)) := ev_cb (ea_cons h ea_nil) fun H2 e2 Q q => ⟨.str z, z.length, rfl, ⟨sz_of hz, rfl⟩, q H2 (Ex.refl H2)⟩

/-! ### houses -/
theorem in_getD {α : Type} {xs : List α} {i : Nat} {d : α} (h : i < xs.length) : xs.getD i d ∈ xs := by
  rw [List.getD_eq_getElem?_getD, List.getElem?_eq_getElem h]
  exact List.getElem_mem _
def houF (n : Int) (p q : Addr) : List (Str × V) := [("hours", .int n), ("names", .ref p), ("stakes", .ref q)]
/-- v is a house of these hours and gates -/
def HouseIs (C : Addr) (v : V) (H : Hp) (n : Int) (gs : List (Str × Int)) : Prop := ∃ a dx p q, v = .ref a ∧ H a = some (.ins C dx (houF n p q)) ∧ H p = some (.tup ((gs.map (·.1)).map V.str)) ∧ H q = some (.tup ((gs.map (·.2)).map V.int))
theorem HouseIs.ex {C : Addr} {v : V} {H H' : Hp} {n : Int} {gs : List (Str × Int)} (e : Ex H H') (h : HouseIs C v H n gs) : HouseIs C v H' n gs := by
  obtain ⟨a, dx, p, q, rfl, h1, h2, h3⟩ := h
  exact ⟨a, dx, p, q, rfl, e _ _ h1, e _ _ h2, e _ _ h3⟩
/-- a list of pairs of a name and a stake -/
structure Gates (K : PySem.W.Frag) (H : Hp) (p : Addr) (gs : List (Str × Int)) : Prop where
  all : ∃ vs : List V, SqL K H p vs ∧ vs.length = gs.length ∧ ∀ (i : Nat) v, vs[i]? = some v → ∃ t, v = .ref t ∧ ∀ g, gs[i]? = some g → SqT K H t [.str g.1, .int g.2]
theorem Gates.ex {K : PySem.W.Frag} {H H' : Hp} {p : Addr} {gs : List (Str × Int)} (e : Ex H H') (h : Gates K H p gs) : Gates K H' p gs := by
  obtain ⟨vs, h1, h2, h3⟩ := h.all
  exact ⟨vs, ex_l e h1, h2, fun i v hv => (h3 i v hv).imp fun t h => ⟨h.1, fun g hg => ex_t e (h.2 g hg)⟩⟩
def goodName (z : Str) : Bool := decide (1 ≤ z.length ∧ z.length ≤ 8) && z.cps.toList.all fun c => decide (c ∈ LET.cps.toList)
theorem word_good {z : Str} (h : Word z) : goodName z = true := by
  unfold goodName
  rw [Bool.and_eq_true, decide_eq_true_iff, List.all_eq_true]
  exact ⟨h.len, fun c hc => decide_eq_true (mem_let.mpr (h.all c hc))⟩
inductive HErr where
  | hours
  | noGates
  | manyGates
  | name (z : Str)
  | again (z : Str)
  | stake (s : Int)
  | cells
/-- the first fault of the gates -/
def scanG : List Str → List (Str × Int) → Option HErr
  | _, [] => none
  | seen, g :: r => if goodName g.1 = false then some (.name g.1) else if g.1 ∈ seen then some (.again g.1) else if g.2 < 0 ∨ 60 < g.2 then some (.stake g.2) else scanG (seen ++ [g.1]) r
def houseErr (n : Int) (gs : List (Str × Int)) : Option HErr := if n < 1 ∨ 24 < n then some .hours else if gs.length = 0 then some .noGates else if 4 < gs.length then some .manyGates else
  match scanG [] gs with
  | some e => some e
  | none => if 48 < n * (gs.length : Int) then some .cells else none
theorem scan_good : ∀ {gs : List (Str × Int)} {seen : List Str}, (∀ g ∈ gs, Word g.1 ∧ 0 ≤ g.2 ∧ g.2 ≤ 60) → (seen ++ gs.map (·.1)).Nodup → scanG seen gs = none
  | [], _, _, _ => rfl
  | g :: gs, seen, h, hd => by
    have hg := h g List.mem_cons_self
    unfold scanG
    rw [List.map_cons] at hd
    have hn : g.1 ∉ seen := fun hm => (List.nodup_append.mp hd).2.2 _ hm _ List.mem_cons_self rfl
    rw [if_neg (by rw [word_good hg.1]; simp), if_neg hn, if_neg (by omega)]
    refine scan_good (fun x hx => h x (List.mem_cons_of_mem _ hx)) ?_
    rw [List.append_assoc]
    exact hd
theorem house_good {n : Int} {gs : List (Str × Int)} (hn : 1 ≤ n ∧ n ≤ 24) (hl : 1 ≤ gs.length ∧ gs.length ≤ 4) (hg : ∀ g ∈ gs, Word g.1 ∧ 0 ≤ g.2 ∧ g.2 ≤ 60) (hd : (gs.map (·.1)).Nodup) (hc : n * (gs.length : Int) ≤ 48) : houseErr n gs = none := by
  unfold houseErr
  rw [if_neg (by omega), if_neg (by omega), if_neg (by omega), scan_good hg (by simpa using hd)]
  exact if_neg (by omega)

/-! ### spreads of tries -/
abbrev T3 := Int × Int × Int
structure TripT (K : PySem.W.Frag) (H : Hp) (p : Addr) (ts : List T3) : Prop where
  all : ∃ vs : List V, SqT K H p vs ∧ vs.length = ts.length ∧ ∀ (i : Nat) v, vs[i]? = some v → ∃ t, v = .ref t ∧ ∀ x, ts[i]? = some x → SqT K H t [.int x.1, .int x.2.1, .int x.2.2]
theorem TripT.ex {K : PySem.W.Frag} {H H' : Hp} {p : Addr} {ts : List T3} (e : Ex H H') (h : TripT K H p ts) : TripT K H' p ts := by
  obtain ⟨vs, h1, h2, h3⟩ := h.all
  exact ⟨vs, ex_t e h1, h2, fun i v hv => (h3 i v hv).imp fun t h => ⟨h.1, fun g hg => ex_t e (h.2 g hg)⟩⟩
def inHouse (n : Int) (m : Nat) (g h : Int) : Bool := decide ((0 ≤ g ∧ g < (m : Int)) ∧ 0 ≤ h ∧ h < n)
def lexLe (a b c d : Int) : Bool := decide (a < c ∨ (a = c ∧ b ≤ d))
/-- the index of the first wrong triple -/
def firstW (n : Int) (m : Nat) : Nat → Int → Int → List T3 → Option Nat
  | _, _, _, [] => none
  | k, b, c, t :: r => if (!inHouse n m t.1 t.2.1 || decide (t.2.2 < 1) || lexLe t.1 t.2.1 b c) = true then some k else firstW n m (k + 1) t.1 t.2.1 r
inductive TRes where
  | wrong (k : Nat)
  | many
  | ok (z : Int)
def triesRes (n : Int) (m : Nat) (ts : List T3) : TRes := match firstW n m 0 (-1) (-1) ts with
  | some k => .wrong k
  | none => if 6 < (ts.map (·.2.2)).sum then .many else .ok (ts.map (·.2.2)).sum
theorem lex_data {a b c d : Int} : (!PySem.W.dataLt (.tuple [.int c, .int d]) (.tuple [.int a, .int b])) = lexLe a b c d := by
  have h : PySem.W.dataLt (.tuple [.int c, .int d]) (.tuple [.int a, .int b]) = decide ([c, d] < [a, b]) := by
    rw [PySem.W.dataLt_tuple]
    exact PySem.W.dataLt_ints [c, d] [a, b]
  rw [h]
  unfold lexLe
  rw [← decide_not, decide_eq_decide, List.cons_lt_cons_iff, List.cons_lt_cons_iff]
  simp
  omega

theorem sl_listK {X : Cx} {K : PySem.W.Frag} (h : X.K = K := by rfl) : SlR X (rSlL K) := by subst h; exact sl_list
/-! ### rows of triples -/
def triV (t : T3) : List V := [.int t.1, .int t.2.1, .int t.2.2]
def RowL (K : PySem.W.Frag) (H : Hp) (p : Addr) (rs : List (Addr × T3)) : Prop := SqL K H p (rs.map fun r => V.ref r.1) ∧ ∀ r ∈ rs, SqT K H r.1 (triV r.2)
def RowT (K : PySem.W.Frag) (H : Hp) (p : Addr) (rs : List (Addr × T3)) : Prop := SqT K H p (rs.map fun r => V.ref r.1) ∧ ∀ r ∈ rs, SqT K H r.1 (triV r.2)
theorem RowL.ex {K : PySem.W.Frag} {H H' : Hp} {p : Addr} {rs : List (Addr × T3)} (e : Ex H H') (h : RowL K H p rs) : RowL K H' p rs := ⟨ex_l e h.1, fun r hr => ex_t e (h.2 r hr)⟩
theorem RowT.ex {K : PySem.W.Frag} {H H' : Hp} {p : Addr} {rs : List (Addr × T3)} (e : Ex H H') (h : RowT K H p rs) : RowT K H' p rs := ⟨ex_t e h.1, fun r hr => ex_t e (h.2 r hr)⟩
theorem RowT.trip {K : PySem.W.Frag} {H : Hp} {p : Addr} {rs : List (Addr × T3)} (h : RowT K H p rs) : TripT K H p (rs.map (·.2)) := by
  refine ⟨_, h.1, by simp, fun i v hv => ?_⟩
  rw [List.getElem?_map] at hv
  cases e : rs[i]? with
  | none => rw [e] at hv; cases hv
  | some r =>
    rw [e] at hv
    cases hv
    refine ⟨r.1, rfl, fun x hx => ?_⟩
    rw [List.getElem?_map, e] at hx
    cases hx
    exact h.2 r (List.mem_of_getElem? e)
theorem row_at {rs : List (Addr × T3)} {i : Nat} {r : Addr × T3} (h : rs[i]? = some r) : atI (rs.map fun r => V.ref r.1) (i : Int) = some (.ref r.1) := atI_nat (by rw [List.getElem?_map, h]; rfl)
def isWrong (m n : Int) (ts : List T3) (k : Nat) : Bool :=
  let t := ts.getD k (0, 0, 0)
  let u := ts.getD (k - 1) (0, 0, 0)
  (decide (t.1 < 0) || (decide (m ≤ t.1) || (decide (t.2.1 < 0) || (decide (n ≤ t.2.1) || decide (t.2.2 < 1))))) || (decide ((0 : Int) < (k : Int)) && decide (t.1 * n + t.2.1 ≤ u.1 * n + u.2.1))
def dueD (n : Int) (m : Nat) (ts : List T3) : PyData := match triesRes n m ts with
  | .wrong k => .tuple [.str "BadSpread", .int (k : Int), .bool true, .bool false]
  | .many => .tuple [.str "TooMany", .str "tries", .int 6, .bool true, .bool false]
  | .ok z => .tuple [.str "number", .int z]
theorem lex_lin {n a b c d : Int} (h1 : 0 ≤ b ∧ b < n) (h2 : 0 ≤ d ∧ d < n) : lexLe a b c d = decide (a * n + b ≤ c * n + d) := by
  unfold lexLe
  rw [decide_eq_decide]
  constructor
  · rintro (h | ⟨rfl, h⟩)
    · have : (a + 1) * n ≤ c * n := Int.mul_le_mul_of_nonneg_right (by omega) (by omega)
      rw [Int.add_mul] at this
      omega
    · omega
  · intro h
    rcases Int.lt_trichotomy a c with h' | rfl | h'
    · exact .inl h'
    · exact .inr ⟨rfl, by omega⟩
    · have : (c + 1) * n ≤ a * n := Int.mul_le_mul_of_nonneg_right (by omega) (by omega)
      rw [Int.add_mul] at this
      omega
theorem first_find {n : Int} {m : Nat} {ts : List T3} : ∀ (j k : Nat) (b c : Int), k + j = ts.length → (k = 0 → b = -1 ∧ c = -1) → (0 < k → ∃ z, ts[k - 1]? = some (b, c, z) ∧ 0 ≤ b ∧ 0 ≤ c ∧ c < n) →
    firstW n m k b c (ts.drop k) = (List.range' k j).find? (isWrong m n ts)
  | 0, k, b, c, hk, _, _ => by rw [List.drop_of_length_le (by omega)]; rfl
  | j + 1, k, b, c, hk, h0, h1 => by
    have hi : k < ts.length := by omega
    have e1 : ts[k]? = some ts[k] := List.getElem?_eq_getElem hi
    rw [List.drop_eq_getElem_cons hi, List.range'_succ, List.find?_cons]
    generalize ts[k] = t at *
    obtain ⟨g, h, z⟩ := t
    have gd : ts.getD k (0, 0, 0) = (g, h, z) := by rw [List.getD_eq_getElem?_getD, e1]; rfl
    have key : (!inHouse n m g h || decide (z < 1) || lexLe g h b c) = isWrong m n ts k := by
      unfold isWrong
      rw [gd]
      dsimp only
      by_cases hv : inHouse n m g h = true
      · have hv' : (0 ≤ g ∧ g < (m : Int)) ∧ 0 ≤ h ∧ h < n := of_decide_eq_true hv
        rw [hv, decide_eq_false (by omega : ¬ g < 0), decide_eq_false (by omega : ¬ (m : Int) ≤ g), decide_eq_false (by omega : ¬ h < 0), decide_eq_false (by omega : ¬ n ≤ h)]
        by_cases hk0 : k = 0
        · obtain ⟨rfl, rfl⟩ := h0 hk0
          subst hk0
          have : lexLe g h (-1) (-1) = false := by
            unfold lexLe
            exact decide_eq_false (by omega)
          rw [this]
          simp
        · obtain ⟨z', hz', hb⟩ := h1 (by omega)
          have gd' : ts.getD (k - 1) (0, 0, 0) = (b, c, z') := by rw [List.getD_eq_getElem?_getD, hz']; rfl
          rw [gd', lex_lin hv'.2 hb.2, decide_eq_true (by omega : (0 : Int) < (k : Int))]
          simp
      · have hv' : ¬ ((0 ≤ g ∧ g < (m : Int)) ∧ 0 ≤ h ∧ h < n) := fun z => hv (decide_eq_true z)
        have : (decide (g < 0) || (decide ((m : Int) ≤ g) || (decide (h < 0) || (decide (n ≤ h) || decide (z < 1))))) = true := by
          simp only [Bool.or_eq_true, decide_eq_true_iff]
          omega
        rw [this, Bool.eq_false_iff.mpr hv]
        simp
    cases hw : isWrong m n ts k with
    | true => exact if_pos (by rw [key, hw])
    | false =>
      refine (if_neg (by rw [key, hw]; simp)).trans ?_
      have hv : inHouse n m g h = true := by
        rw [hw] at key
        cases hh : inHouse n m g h with
        | true => rfl
        | false => rw [hh] at key; simp at key
      have hv' : (0 ≤ g ∧ g < (m : Int)) ∧ 0 ≤ h ∧ h < n := of_decide_eq_true hv
      exact first_find j (k + 1) g h (by omega) (by omega) fun _ => ⟨z, by rw [Nat.add_sub_cancel]; exact e1, hv'.1.1, hv'.2.1, hv'.2.2⟩
theorem first_eq {n : Int} {m : Nat} {ts : List T3} : firstW n m 0 (-1) (-1) ts = (List.range ts.length).find? (isWrong m n ts) := by
  rw [List.range_eq_range']
  exact first_find ts.length 0 (-1) (-1) (by omega) (fun _ => ⟨rfl, rfl⟩) (fun h => absurd h (by omega))
theorem pick_head {n : Nat} {f : Nat → Bool} : (pick n f fun i => (i : Int)).head? = ((List.range n).find? f).map (fun i : Nat => (i : Int)) := by
  unfold pick
  rw [List.head?_map, List.head?_filter]

theorem sqT_mut {K : PySem.W.Frag} {H : Hp} {l t : Addr} {o : HO} {xs ys : List V} (hl : H l = some (.lst ys)) (h : SqT K H t xs) : SqT K (upd H l o) t xs := by
  have ne : ∀ {z : HO}, H t = some z → (∀ ys, z ≠ .lst ys) → t ≠ l := fun hz hn e => by
    rw [e, hl] at hz
    exact hn _ (Option.some.inj hz).symm
  rcases h with (h | ⟨o', h⟩) | h
  · exact .inl (.inl (by rw [upd_ne (ne h fun _ z => by cases z)]; exact h))
  · exact .inl (.inr ⟨o', by rw [upd_ne (ne h fun _ z => by cases z)]; exact h⟩)
  · exact .inr h
theorem inV_ints' {i : Int} {xs : List Int} : inV (V.int i) (xs.map V.int) = decide (i ∈ xs) := by
  unfold inV
  induction xs with
  | nil => rfl
  | cons y ns ih =>
    rw [List.map_cons, List.any_cons, ih]
    by_cases h : y = i
    · subst h
      simp [eqV]
    · have h' : ¬ i = y := fun z => h z.symm
      simp [eqV, h, h']
theorem ints_flat' (ns : List Int) : (ns.map V.int).all flatV = true := by
  rw [List.all_map, List.all_eq_true]
  exact fun _ _ => rfl
theorem cut_map {α : Type} (f : α → V) (l : List α) (lo hi : Option Int) : ∃ l' : List α, cutV (l.map f) lo hi = l'.map f ∧ (∀ x ∈ l', x ∈ l) ∧ l'.length ≤ l.length := by
  refine ⟨(l.drop (HT.sIx l.length 0 lo)).take (HT.sIx l.length l.length hi - HT.sIx l.length 0 lo), ?_, fun x hx => List.mem_of_mem_drop (List.mem_of_mem_take hx), ?_⟩
  · unfold cutV
    rw [List.length_map, List.map_take, List.map_drop]
  · rw [List.length_take, List.length_drop]
    omega
theorem cut_mapN {α : Type} (f : α → V) (l : List α) {lo hi : Int} (h0 : 0 ≤ lo) (h1 : 0 ≤ hi) : ∃ l' : List α, cutV (l.map f) (some lo) (some hi) = l'.map f ∧ (∀ x ∈ l', x ∈ l) ∧ (l'.length : Int) ≤ max 0 (hi - lo) := by
  refine ⟨(l.drop (HT.sIx l.length 0 (some lo))).take (HT.sIx l.length l.length (some hi) - HT.sIx l.length 0 (some lo)), ?_, fun x hx => List.mem_of_mem_drop (List.mem_of_mem_take hx), ?_⟩
  · unfold cutV
    rw [List.length_map, List.map_take, List.map_drop]
  · obtain ⟨a, rfl⟩ := Int.eq_ofNat_of_zero_le h0
    obtain ⟨b, rfl⟩ := Int.eq_ofNat_of_zero_le h1
    rw [List.length_take, List.length_drop, HT.sIx_nat, HT.sIx_nat]
    omega
theorem q_unp3 {K : PySem.W.Frag} {te : TE} {tz : TS} {D : Ends} {σ : L2.St} {H : Hp} {i j l n : Nat} {t : Addr} {x y z : V} (h : Ev te σ H (.ref t)) (ht : SqT K H t [x, y, z]) (k : ∀ H1, Ex H H1 → tz D (((σ.set i (some x)).set j (some y)).set l (some z)) H1) (hn : n = 3 := by rfl) :
    tSeq (tAsg te (gTup K n (gCons (gName i) (gCons (gName j) (gCons (gName l) gNil))))) tz D σ H := by
  subst hn
  exact h H (Ex.refl H) _ fun H1 e => ⟨t, _, rfl, ex_t e ht, rfl, x, _, rfl, y, _, rfl, z, _, rfl, rfl, k H1 e⟩
theorem s_setU {te ta tb : TE} {D : Ends} {σ : L2.St} {H : Hp} {l : Addr} {xs ys : List V} {k : Int} {j : Nat} (hl : H l = some (.lst xs)) (h : EvU te σ H ys) (ho : Ev ta σ H (.ref l)) (hi : Ev tb σ H (.int k)) (hj : ixN xs.length k = some j)
    (kk : ∀ p H1, H p = none → Ex H H1 → H1 p = some (.tup ys) → D.nx σ (upd H1 l (.lst (xs.set j (.ref p))))) : tAsg te (gSub ta tb rSetL) D σ H := h H (Ex.refl H) _ fun p H1 hp e1 h1 => ho H1 e1 _ fun H2 e2 => hi H2 (e1.trans e2) _ fun H3 e3 =>
  ⟨l, xs, k, j, rfl, rfl, ((e1.trans e2).trans e3) l _ hl, hj, kk p H3 hp ((e1.trans e2).trans e3) ((e2.trans e3) _ _ h1)⟩
theorem ixN_last {n : Nat} (h : 0 < n) : ixN n (-1) = some (n - 1) := by
  unfold ixN
  rw [if_neg (by omega), if_pos (by omega)]
  congr 1
  omega
theorem el_copy {K : PySem.W.Frag} {te : TE} {σ : L2.St} {H : Hp} {p : Addr} {xs : List V} (h : Ev te σ H (.ref p)) (hp : SqL K H p xs) : EvL (tCB (rListK K) (tCons te tNil)) σ H xs := fun H1 e Q q =>
  h H1 e _ fun H2 e2 => ⟨p, xs, rfl, .inl (ex_l (e.trans e2) hp), fun l hl => q l _ (fresh_back e2 hl) (e2.trans (Ex.new hl)) upd_same⟩
/-- a new row, its triples left open -/
def IsTri (K : PySem.W.Frag) (v : V) (H : Hp) : Prop := ∃ r : Addr × T3, v = .ref r.1 ∧ SqT K H r.1 (triV r.2)
def IsRow (K : PySem.W.Frag) (lo hi : Nat) (v : V) (H : Hp) : Prop := ∃ (p : Addr) (rs : List (Addr × T3)), v = .ref p ∧ (lo ≤ rs.length ∧ rs.length ≤ hi) ∧ H p = some (.lst (rs.map fun r => V.ref r.1)) ∧ ∀ r ∈ rs, SqT K H r.1 (triV r.2)
def Tris (K : PySem.W.Frag) (n : Nat) (vs : List V) (H : Hp) : Prop := ∃ rs : List (Addr × T3), vs = rs.map (fun r => V.ref r.1) ∧ rs.length = n ∧ ∀ r ∈ rs, SqT K H r.1 (triV r.2)
def EvAR (ta : TA) (σ : L2.St) (H : Hp) (P : List V → Hp → Prop) : Prop := ∀ H1, Ex H H1 → ∀ Q : List V → Hp → Prop, (∀ vs H2, Ex H1 H2 → P vs H2 → Q vs H2) → ta σ H1 Q
theorem at_nil {K : PySem.W.Frag} {σ : L2.St} {H : Hp} : EvAR tNil σ H (Tris K 0) := fun H1 _ Q q => q [] H1 (Ex.refl H1) ⟨[], rfl, rfl, fun r hr => by cases hr⟩
theorem at_cons {K : PySem.W.Frag} {σ : L2.St} {H : Hp} {te : TE} {ta : TA} {n : Nat} (h : EvR te σ H (IsTri K)) (r : EvAR ta σ H (Tris K n)) : EvAR (tCons te ta) σ H (Tris K (n + 1)) := fun H1 e Q q =>
  h H1 e _ fun v H2 e2 hv => r H2 (e.trans e2) _ fun vs H3 e3 hs => by
    obtain ⟨x, rfl, hx⟩ := hv
    obtain ⟨rs, rfl, hl, hr⟩ := hs
    refine q _ H3 (e2.trans e3) ⟨x :: rs, rfl, by rw [List.length_cons, hl], fun y hy => ?_⟩
    rcases List.mem_cons.mp hy with rfl | hy
    · exact ex_t e3 hx
    · exact hr y hy
theorem er_tri {K : PySem.W.Frag} {σ : L2.St} {H : Hp} {t1 t2 t3 : TE} {x y z : Int} (h1 : Ev t1 σ H (.int x)) (h2 : Ev t2 σ H (.int y)) (h3 : Ev t3 σ H (.int z)) : EvR (tTup (tCons t1 (tCons t2 (tCons t3 tNil)))) σ H (IsTri K) := fun H1 e Q q =>
  eu_tup (ea_cons h1 (ea_cons h2 (ea_cons h3 ea_nil))) (by show 3 ≤ 100000; decide) H1 e _ fun p H2 hp e2 h2 => q _ H2 e2 ⟨(p, x, y, z), rfl, st_of h2⟩
theorem er_row {K : PySem.W.Frag} {σ : L2.St} {H : Hp} {ta : TA} {n : Nat} (h : EvAR ta σ H (Tris K n)) (hn : n ≤ 1000) : EvR (tLst ta) σ H (IsRow K n n) := fun H1 e Q q =>
  h H1 e _ fun vs H2 e2 hs => by
    obtain ⟨rs, rfl, hl, hr⟩ := hs
    exact ⟨by rw [List.length_map, hl]; exact Nat.le_trans hn (by decide), fun p hp => q _ _ (e2.trans (Ex.new hp)) ⟨p, rs, rfl, by omega, upd_same, fun r hm => ex_t (Ex.new hp) (hr r hm)⟩⟩
theorem er_catR {K : PySem.W.Frag} {σ : L2.St} {H : Hp} {ta tb : TE} {a b c d : Nat} (h1 : EvR ta σ H (IsRow K a b)) (h2 : EvR tb σ H (IsRow K c d)) (hz : b + d ≤ 1000) : EvR (tOp rCat ta tb) σ H (IsRow K (a + c) (b + d)) := fun H1 e Q q =>
  h1 H1 e _ fun v H2 e2 hv => h2 H2 (e.trans e2) _ fun w H3 e3 hw => by
    obtain ⟨p1, r1, rfl, l1, s1, t1⟩ := hv
    obtain ⟨p2, r2, rfl, l2, s2, t2⟩ := hw
    exact ⟨p1, p2, _, _, rfl, rfl, e3 _ _ s1, s2, sz_of (by rw [List.length_map, List.length_map]; omega), fun p hp => q _ _ ((e2.trans e3).trans (Ex.new hp)) ⟨p, r1 ++ r2, rfl, by rw [List.length_append]; omega, by rw [List.map_append]; exact upd_same, fun r hr => ex_t (Ex.new hp) ((List.mem_append.mp hr).elim (fun z => ex_t e3 (t1 r z)) (t2 r))⟩⟩
theorem er_sl {K : PySem.W.Frag} {te : TE} {tl th : TO} {σ : L2.St} {H : Hp} {p : Addr} {rs : List (Addr × T3)} {lo hi : Option Int} (h : Ev te σ H (.ref p)) (hr : RowL K H p rs) (h1 : EvO tl σ H lo) (h2 : EvO th σ H hi) : EvR (tSl (rSlL K) te tl th) σ H (IsRow K 0 rs.length) := fun H1 e Q q => by
  obtain ⟨l', c1, c2, c3⟩ := cut_map (fun r : Addr × T3 => V.ref r.1) rs lo hi
  exact el_sl h h1 h2 hr.1 H1 e _ fun b H2 hb e2 h2 => q _ H2 e2 ⟨b, l', rfl, by omega, by rw [← c1]; exact h2, fun r hm => ex_t (e.trans e2) (hr.2 r (c2 r hm))⟩
theorem atI_row {rs : List (Addr × T3)} {i : Int} (h : -1 ≤ i) (h1 : i < (rs.length : Int)) (h0 : 0 < rs.length) : ∃ r ∈ rs, atI (rs.map fun r => V.ref r.1) i = some (.ref r.1) := by
  by_cases c : 0 ≤ i
  · obtain ⟨k, rfl⟩ := Int.eq_ofNat_of_zero_le c
    have hk : k < rs.length := by omega
    exact ⟨rs[k], List.getElem_mem hk, row_at (List.getElem?_eq_getElem hk)⟩
  · have : i = -1 := by omega
    subst this
    have hne : rs ≠ [] := by rintro rfl; simp at h0
    exact ⟨rs.getLast hne, List.getLast_mem hne, atI_last (by rw [List.getLast?_map, List.getLast?_eq_some_getLast hne]; rfl)⟩
theorem drawn_at {ms ds : List Int} {i : Nat} {m : Int} (h : Drawn ms ds) (hm : ms[i]? = some m) : 0 ≤ ds.getD i 0 ∧ ds.getD i 0 < m := by
  obtain ⟨d, h1, h2⟩ := h.2 i m hm
  rw [List.getD_eq_getElem?_getD, h1]
  exact h2

/-! ### enumerate(tuple) -/
section
open PySem.Spec PyProof.Rows
theorem F_typeCall_enum1 (v : Value) : PySem.checkTypeCall "enumerate" ⟨[v], []⟩ = pure () := PySem.F.typeCall_enumerate_1 v
theorem meets_enum_newB1 {v : Value} {o : Obj} {H : Heap → Prop} (B : PySem.Begins v o H) :
    Meets (Builtin.«enumerate.__new__» ⟨[.type "enumerate", v], []⟩) (fun _ R s => H s.heap ∧
      R (.ok (.ret (.ref (s.heap.push o).objs.size))) { s with heap := (s.heap.push o).push { cls := .type "enumerate", data := .fields #[.none, .bool false, .ref s.heap.objs.size, PySem.rawInt 0, .none, .none] } }) :=
  .of_wp fun prog w A R s h => by
    obtain ⟨hp, g, d, tk, os⟩ := s; obtain ⟨h1, h⟩ := h
    have hsub := PySem.sub_enumerate
    have q1 : ∀ {A' : Around} {E : Value → Shared → Prop} {Q : Value → Shared → Prop}, Q (.ref hp.objs.size) ⟨hp.push o, g, d, tk, os⟩ → wpAny (model prog w) A' (pyIter v) Q E ⟨hp, g, d, tk, os⟩ :=
      fun q => B.iter prog w _ _ ⟨hp, g, d, tk, os⟩ _ h1 q
    wp_walk using q1
    refine wpAny_stack_any fun st => wpAny_pure ?_
    split
    · rename_i c _ _ _ _ _
      cases (c == Value.type "enumerate")
      · wp_walk using q1
        exact ⟨_, rfl, h⟩
      · wp_walk using q1
        exact ⟨_, rfl, h⟩
    · wp_walk using q1
      exact ⟨_, rfl, h⟩
theorem call_enum_tuple {prog : Program} {w : World} {A : Around} {E : Value → Shared → Prop} {s : Shared} {a : Addr} {items : Array Value} {Q : Value → Shared → Prop} (h1 : s.heap.IsTuple a items)
    (h : ∀ h', PySem.IsEnum h' (s.heap.objs.size + 1) s.heap.objs.size 0 .none → h'.IsTupleIter s.heap.objs.size a 0 → h'.objs.size = s.heap.objs.size + 2 →
      (∀ b o, s.heap.get? b = some o → h'.get? b = some o) → Q (.ref (s.heap.objs.size + 1)) { s with heap := h' }) :
    wpAny (model prog w) A (call (.type "enumerate") [.ref a]) Q E s := by
  refine PySem.callType_new PySem.F.called_enumerate (by decide) (PySem.F.typeCall_enumerate_1 _) (PySem.F.newCall_enumerate_1 _) (fun obj => PySem.F.args_object_init_2 obj _) PySem.F.entry_enumerate_new
    (meets_enum_newB1 (PySem.begins_tuple a items)) ⟨h1, ?_⟩
  have hz : (s.heap.push { cls := .type "tuple_iterator", data := .fields #[.ref a, .int 0 0] }).objs.size = s.heap.objs.size + 1 := Heap.size_push ..
  show _ ∧ _
  rw [hz]
  have he : PySem.IsEnum ((s.heap.push { cls := .type "tuple_iterator", data := .fields #[.ref a, .int 0 0] }).push { cls := .type "enumerate", data := .fields #[.none, .bool false, .ref s.heap.objs.size, PySem.rawInt 0, .none, .none] }) (s.heap.objs.size + 1) s.heap.objs.size 0 .none := by
    have := Heap.get?_push_size (s.heap.push { cls := .type "tuple_iterator", data := .fields #[.ref a, .int 0 0] }) (o := { cls := .type "enumerate", data := .fields #[.none, .bool false, .ref s.heap.objs.size, PySem.rawInt 0, .none, .none] }) rfl
    rw [hz] at this; exact this
  refine ⟨⟨_, he, rfl⟩, h _ he ⟨_, Heap.get?_push_of_some _ (Heap.get?_push_size _ rfl), rfl, rfl⟩ (by rw [Heap.size_push, hz]) fun b o x => Heap.get?_push_of_some _ (Heap.get?_push_of_some _ x)⟩
def IteT (K : PySem.W.Frag) (a : Addr) : It :=
  ⟨fun i H => ∃ (xs : List V) (x : V), SqT K H a xs ∧ xs[i]? = some x, fun i H v H' => ∃ T x, v = .ref T ∧ H T = none ∧ H' = upd H T (.tup [.int (i : Nat), x]) ∧ ∀ xs, SqT K H a xs → xs[i]? = some x, fun i H => ∃ xs : List V, SqT K H a xs ∧ xs.length ≤ i⟩
theorem turn_enumT {P : Program} {w : World} {K : PySem.W.Frag} {elts : List Expr} {kk : Nat} {tpos : Pos} (a e it : Addr) :
    Turn P w K (.Tuple elts kk tpos) (IteT K a) [e, it] e (fun i h => (∃ old, PySem.IsEnum h e it ((i : Nat) : Int) old) ∧ h.IsTupleIter it a i ∧ e ≠ it ∧ e ≠ a ∧ a ≠ it) where
  mem := by simp
  obj := fun i h st b hb => by
    obtain ⟨⟨old, he⟩, ⟨o, ho, hc, hd⟩, _⟩ := st
    have e' : b = e ∨ b = it := by simpa using hb
    rcases e' with z | z
    · rw [z]; exact ⟨_, he, fun v q => nomatch q⟩
    · rw [z]; exact ⟨o, ho, fun v q => by rw [hd] at q; cases q⟩
  keep := fun i h h' st k => let ⟨⟨old, he⟩, hi, hne⟩ := st; ⟨⟨old, k e (by simp) _ he⟩, hi.at fun o q => k it (by simp) o q, hne⟩
  item := by
    intro X hP hw hK hc i pins s σ H E I hf st hg
    subst hP hw hK
    obtain ⟨⟨old, he⟩, hit, hne, hea, hai⟩ := st
    obtain ⟨xs, x, hq, hx⟩ := hg
    obtain ⟨its, rv, p, hz⟩ := I.tuple hq
    obtain ⟨u, hu, ru⟩ := rv.get hx
    have p' : s.heap.IsTuple a its.toArray := p
    have hel : e < s.heap.objs.size := Heap.lt_size he
    have hil : it < s.heap.objs.size := by obtain ⟨_, q, _⟩ := hit; exact Heap.lt_size q
    have hlt : i < its.toArray.size := by
      have := (List.getElem?_eq_some_iff.mp hu).1
      simpa using this
    refine PySem.wpAny_pyNext_enum_itemD (PySem.Draws.tuple (A := X.A.in1) (I.ok.hd hc) it a hai its.toArray) he ⟨hit, p'⟩ hlt hne (by simp [hne, hea]) fun y h' tk hy ho hst' hT hsz hk => ?_
    obtain rfl : y = u := by
      have e1 : its.toArray[i]? = some u := by simpa using hu
      have e2 : its.toArray[i]? = some y := hy
      rw [e1] at e2
      exact (Option.some.inj e2).symm
    refine ⟨_, rfl, PySem.wpAny_letOwnedTupleGo_enum (s := { s with heap := h', toks := tk + 1 }) ho fun h'' he' sb => ?_⟩
    have hT2 : h''.get? s.heap.objs.size = some { cls := .type "tuple", data := .seq #[.int i tk, y] } := (sb.2 _ (Nat.ne_of_gt hel)).trans hT
    have new : ObjOk X.prog X.w (upd H s.heap.objs.size (.tup [.int (i : Nat), x])) h'' s.heap.objs.size (.tup [.int (i : Nat), x]) :=
      ⟨by show 2 ≤ sizeLine; decide, [.int i tk, y], .cons ⟨_, rfl⟩ (.cons ru .nil), ⟨_, hT2, rfl, _, rfl⟩⟩
    have I1 : Inv X pins σ (upd H s.heap.objs.size (.tup [.int (i : Nat), x])) { s with heap := h'', toks := tk + 1 } :=
      I.turnedNew (ch := [e, it]) (fun b ob hb q => (sb.2 b (fun z => hb (by simp [z]))).trans (hk b ob (fun z => hb (by simp [z])) (fun z => hb (by simp [z])) q)) hf (Nat.le_refl _) new
    refine ⟨.ref s.heap.objs.size, _, I1, rfl, ⟨_, x, rfl, I.hok.fresh (Nat.le_refl _), rfl, fun ys hy => by rw [I.tuple_inj hy hq]; exact hx⟩, ⟨⟨y, ?_⟩, hst'.1.at fun o q => (sb.2 it (Ne.symm hne)).trans q, hne, hea, hai⟩, fun b hb => ?_⟩
    · have e1 : ((i + 1 : Nat) : Int) = (i : Int) + 1 := by omega
      rw [e1]; exact he'
    · have hb' : b < s.heap.objs.size := by
        have e' : b = e ∨ b = it := by simpa using hb
        rcases e' with z | z
        · rw [z]; exact hel
        · rw [z]; exact hil
      rw [upd_ne (Nat.ne_of_lt hb')]
      exact (hf b hb).1
  done := by
    intro X hP hw hK hc i pins s σ H E I hf st hg
    subst hP hw hK
    obtain ⟨⟨old, he⟩, hit, hne, hea, hai⟩ := st
    obtain ⟨xs, hq, hx⟩ := hg
    obtain ⟨its, rv, p, hz⟩ := I.tuple hq
    have p' : s.heap.IsTuple a its.toArray := p
    obtain ⟨f0, f1, f2, f3, f4, f5⟩ := hf it (by simp)
    have hl := rv.length
    have hend : its.toArray[i]? = none := by simp; omega
    have hT : s.TypeIs (.ref e) "enumerate" := ⟨_, he, rfl⟩
    unfold pyNext
    refine wpAny_bind (wpAny_attempt (PySem.wpAny_callSpecial?_slot (name := Str.ofString "__next__") hT PySem.F.slot_enumerate_next
      (PySem.wpAny_call_entry PySem.F.slot_enumerate_next hT PySem.F.entry_enumerate_next ?_ (PySem.F.args_enumerate_next_1 _))))
    show wpAny _ _ (field (.ref e) 2 >>= _) _ _ _
    refine wpAny_bind (wpAny_field he rfl (x := .ref it) rfl ?_)
    refine wpAny_bind (PySem.wpAny_nextOf_tuple_end (I.ok.hd hc) hit p' hend fun h' y he' hy' => ?_)
    obtain ⟨o, ho, hc⟩ := hy'
    refine wpAny_bind (PySem.wpAny_isInstance (T := "StopIteration") (b := true) ⟨o, ho, hc⟩ PySem.isSubtype_stop ?_)
    exact wpAny_pure ⟨rfl, I.turned (t' := s.toks) (fun b o hb q => he' b o hb q) f0 f1 f3 f4 f5⟩
  self := fun A i s Q E st h => let ⟨⟨_, he⟩, _⟩ := st; PySem.wpAny_pyIter_enum he h
def iEnumT (K : PySem.W.Frag) (ta : TA) : TI := fun σ H R => ta σ H fun vs H1 => ∃ a xs, vs = [.ref a] ∧ SqT K H1 a xs ∧ R (IteT K a) H1
theorem pi_enumT {X : Cx} {K : PySem.W.Frag} {e : Expr} {ta : TA} {p pos tpos : Pos} {elts : List Expr} {kk : Nat} (hg : Gl X "enumerate") (hm : X.mg "enumerate" = none) (ha : PA X [e] ta) (hK : X.K = K := by rfl) (hs : starEach [e] X.env = [(false, eval e X.env)] := by rfl) :
    PI X (.Tuple elts kk tpos) (.Call (.Name "enumerate" p) [e] [] pos) (iEnumT K ta) := by
  subst hK
  refine ⟨fun pins s σ H R I h => ?_⟩
  refine Call_ (ld_blt I hg hm boot_enumerate (PyProof.Rows.callWith_type1 (thn (ha.run pos pins s σ H _ I h) fun us s1 ⟨vs, H1, I1, r1, q1⟩ => ?_) hs rfl))
  obtain ⟨a, xs, ex, hq, q⟩ := q1
  subst ex
  cases r1 with
  | cons r rr =>
    cases rr
    cases r
    obtain ⟨its, rv, p', hz⟩ := I1.tuple hq
    have pt : s1.heap.IsTuple a its.toArray := p'
    have hal : a < s1.heap.objs.size := by obtain ⟨o, ho, _⟩ := pt; exact Heap.lt_size ho
    refine call_enum_tuple pt fun h' he hit hsz hk => PySem.wpAny_pyIter_enum he ?_
    have I2 : Inv X pins σ H1 { s1 with heap := h' } := I1.kept (t' := s1.toks) hk
    refine ⟨s1.heap.objs.size + 1, [s1.heap.objs.size + 1, s1.heap.objs.size], _, _, H1, rfl, I2, turn_enumT a (s1.heap.objs.size + 1) s1.heap.objs.size, ⟨⟨.none, he⟩, hit, Nat.succ_ne_self _, Nat.ne_of_gt (Nat.lt_succ_of_lt hal), Nat.ne_of_lt hal⟩, fun b hb => ?_, q⟩
    have e' : b = s1.heap.objs.size + 1 ∨ b = s1.heap.objs.size := by simpa using hb
    have hle : s1.heap.objs.size ≤ b := by
      rcases e' with z | z
      · rw [z]; exact Nat.le_add_right _ _
      · rw [z]; exact Nat.le_refl _
    exact I1.fpOk hle (I1.hok.fresh hle)
theorem walk_enumT {K : PySem.W.Frag} {a : Addr} {xs : List V} : Walk (IteT K a) xs.length (fun H => SqT K H a xs) (YPair (fun i => some (.int (i : Nat))) (fun i => xs[i]?)) :=
  ⟨fun i _ hi q => ⟨xs, xs[i], q, by simp [hi]⟩, fun _ q => ⟨xs, q, Nat.le_refl _⟩, fun i H x H' _ q y => by
    obtain ⟨T, z, rfl, hT, rfl, hall⟩ := y
    exact ⟨T, _, z, rfl, hT, rfl, rfl, hall xs q⟩⟩
theorem ei_enumT {K : PySem.W.Frag} {σ : L2.St} {H : Hp} {ta : TE} {xs : List V} (h : EvB ta σ H fun v G => ∃ p, v = .ref p ∧ SqT K G p xs) : EvI (iEnumT K (tCons ta tNil)) σ H xs.length (YPair (fun i => some (.int (i : Int))) fun i => xs[i]?) := fun H1 e R r => h H1 e _ fun v H2 e2 hv => by
  obtain ⟨a, rfl, hx⟩ := hv H2 (e.trans e2) fun _ _ _ z => z
  exact ⟨a, xs, rfl, hx, r _ _ e2 (walk_enumT.mono (fun G g => by
    obtain ⟨b, eb, hb⟩ := hv G g.1 g.2
    cases eb
    exact hb) fun _ _ _ _ _ _ y => y)⟩
end

/-! ### a[b] of an own class -/
/-- x an object of the class at C, its __getitem__ asked -/
def rOwnIx (C : Addr) (sp : Sp) (E : XK) : R2 := fun x y H Q => ∃ a dx fs, x = .ref a ∧ H a = some (.ins C dx fs) ∧ sp [x, y] H Q E
section
open PySem.Spec PyProof.Rows
variable {X : Cx} {CX : CXT} {f C : Addr} {fd : FuncData} {ps : List Str} {n : Nat} {sp : Sp} {E : XK} {a b : Expr} {ta tb : TE} {pos : Pos}
theorem pe_ixO (m : Meth X.K C "__getitem__" f) (hfi : PySem.W.fnIn X.K f = true) (F : FnOk X.prog X.w X.K X.mg X.base CX n f fd ps sp) (hr : Room (n + 1) X.A) (hb : Binds X.K fd ps []) (hx : ∀ σ, PassesAt CX X σ E)
    (ha : PE X a ta) (hb2 : PE X b tb) (hs : ∀ o i, subscripted b true o i = runValue (.builtin "lifetime.subscript" ⟨[o, i], []⟩)) : PE X (.Subscript a b pos) (tOp (rOwnIx C sp E) ta tb) := by
  refine ⟨fun pins s σ H Q I h => ?_⟩
  refine Subscript_ (binT ha hb2 I h fun v u s2 x y H2 I2 rx ry q => ?_)
  obtain ⟨a, dx, fs, rfl, ha', h⟩ := q
  cases rx
  obtain ⟨mA, J, _⟩ := ins_get I2.hok ha'
  obtain ⟨od, J, _⟩ := J.look
  obtain ⟨m', hF⟩ := I2.fr
  exact PySem.W.sub_K hF I2.ok.mod.kin J m.at_ hfi m.fn (run_ownA (vs := [V.ref a, y]) F hr.in1 rfl hb (hx σ) I2 (.cons rfl (.cons ry .nil)) h) (hs _ _)
end
theorem ev_ownIx {C : Addr} {sp : Sp} {E : XK} {ta tb : TE} {σ : L2.St} {H : Hp} {a dx : Addr} {fs : List (Str × V)} {y z : V} (ha : Ev ta σ H (.ref a)) (hi : H a = some (.ins C dx fs)) (hb : Ev tb σ H y) (hs : ∀ H1, Ex H H1 → ∀ Q : VK, (∀ H2, Ex H1 H2 → Q z H2) → sp [.ref a, y] H1 Q E) : Ev (tOp (rOwnIx C sp E) ta tb) σ H z := fun H1 e Q q =>
  ha H1 e _ fun H2 e2 => hb H2 (e.trans e2) _ fun H3 e3 => ⟨a, dx, fs, rfl, ((e.trans e2).trans e3) _ _ hi, hs H3 ((e.trans e2).trans e3) Q fun H4 e4 => q H4 ((e2.trans e3).trans e4)⟩
theorem ev_ownIxU {C : Addr} {sp : Sp} {E : XK} {ta tb : TE} {σ : L2.St} {H : Hp} {a dx : Addr} {fs : List (Str × V)} {ys : List V} {z : V} (ha : Ev ta σ H (.ref a)) (hi : H a = some (.ins C dx fs)) (hb : EvU tb σ H ys) (hs : ∀ p H1, Ex H H1 → H1 p = some (.tup ys) → ∀ Q : VK, (∀ H2, Ex H1 H2 → Q z H2) → sp [.ref a, .ref p] H1 Q E) : Ev (tOp (rOwnIx C sp E) ta tb) σ H z := fun H1 e Q q =>
  ha H1 e _ fun H2 e2 => hb H2 (e.trans e2) _ fun p H3 _ e3 hp => ⟨a, dx, fs, rfl, ((e.trans e2).trans e3) _ _ hi, hs p H3 ((e.trans e2).trans e3) hp Q fun H4 e4 => q H4 ((e2.trans e3).trans e4)⟩
/-! ### watches -/
def watF (h w : V) : List (Str × V) := [("house", h), ("_rows", w)]
/-- a list of lists of ints -/
structure RowsL (K : PySem.W.Frag) (H : Hp) (a : Addr) (xss : List (List Int)) : Prop where
  all : ∃ vs : List V, SqL K H a vs ∧ vs.length = xss.length ∧ ∀ (i : Nat) v, vs[i]? = some v → ∃ p, v = .ref p ∧ SqL K H p ((xss.getD i []).map V.int)
theorem RowsL.ex {K : PySem.W.Frag} {H H' : Hp} {a : Addr} {xss : List (List Int)} (e : Ex H H') (h : RowsL K H a xss) : RowsL K H' a xss := by
  obtain ⟨vs, h1, h2, h3⟩ := h.all
  exact ⟨vs, ex_l e h1, h2, fun i v hv => (h3 i v hv).imp fun p h => ⟨h.1, ex_l e h.2⟩⟩
/-- a tuple of tuples of ints -/
def RowsU (w : V) (H : Hp) (xss : List (List Int)) : Prop := ∃ p vs, w = .ref p ∧ H p = some (.tup vs) ∧ vs.length = xss.length ∧ ∀ (i : Nat) v, vs[i]? = some v → ∃ t, v = .ref t ∧ H t = some (.tup ((xss.getD i []).map V.int))
theorem RowsU.ex {w : V} {H H' : Hp} {xss : List (List Int)} (e : Ex H H') (h : RowsU w H xss) : RowsU w H' xss := by
  obtain ⟨p, vs, rfl, h1, h2, h3⟩ := h
  exact ⟨p, vs, rfl, e _ _ h1, h2, fun i v hv => (h3 i v hv).imp fun t h => ⟨h.1, e _ _ h.2⟩⟩
def WatchIs (C : Addr) (v : V) (H : Hp) (h : V) (xss : List (List Int)) : Prop := ∃ a dx w, v = .ref a ∧ H a = some (.ins C dx (watF h w)) ∧ RowsU w H xss
theorem WatchIs.ex {C : Addr} {v h : V} {H H' : Hp} {xss : List (List Int)} (e : Ex H H') (q : WatchIs C v H h xss) : WatchIs C v H' h xss := by
  obtain ⟨a, dx, w, rfl, h1, h2⟩ := q
  exact ⟨a, dx, w, rfl, e _ _ h1, h2.ex e⟩
structure Shape (n : Int) (m : Nat) (xss : List (List Int)) : Prop where
  len : xss.length = m
  row : ∀ xs ∈ xss, (xs.length : Int) = n
  val : ∀ xs ∈ xss, ∀ x ∈ xs, 0 ≤ x ∧ x ≤ 96
def rTupOf (K : PySem.W.Frag) : List V → Hp → VK → Prop := fun xs H Q => ∃ p ys, xs = [V.ref p] ∧ ((SqL K H p ys ∧ ∀ (l : Addr), H l = none → Q (V.ref l) (upd H l (HO.tup ys))) ∨ SqT K H p ys ∧ Q (V.ref p) H)
theorem tup_K {X : Cx} {K : PySem.W.Frag} (h : X.K = K := by rfl) : CallR X (.type "tuple") (rTupOf K) := by subst h; exact call_tuple_of
theorem en_tupL {K : PySem.W.Frag} {te : TE} {σ : L2.St} {H : Hp} {p : Addr} {xs : List V} (h : Ev te σ H (.ref p)) (hp : SqL K H p xs) : EvNew (tCB (rTupOf K) (tCons te tNil)) σ H fun v G => ∃ t, v = .ref t ∧ G t = some (.tup xs) := fun H1 e Q q =>
  h H1 e _ fun H2 e2 => ⟨p, xs, rfl, .inl ⟨ex_l (e.trans e2) hp, fun l hl => q _ _ (e2.trans (Ex.new hl)) fun G g => ⟨l, rfl, g l _ (fresh_back e2 hl) upd_same⟩⟩⟩
theorem en_tupN {K : PySem.W.Frag} {te : TE} {σ : L2.St} {H : Hp} {n : Nat} {P : Nat → V → Hp → Prop} (h : EvNew te σ H (ListP n P)) : EvNew (tCB (rTupOf K) (tCons te tNil)) σ H fun v G => ∃ p vs, v = .ref p ∧ G p = some (.tup vs) ∧ vs.length = n ∧ ∀ (k : Nat) x, vs[k]? = some x → P k x G := fun H1 e Q q =>
  h H1 e _ fun v H2 e2 hv => by
    obtain ⟨p, vs, rfl, hp, hl, _⟩ := hv.self
    refine ⟨p, vs, rfl, .inl ⟨sq_of hp, fun l hn => q _ _ (e2.trans (Ex.new hn)) fun G g => ?_⟩⟩
    have g2 : ∀ b o, H1 b = none → H2 b = some o → G b = some o := fun b o h1 h2 => g b o h1 (by rw [upd_ne (fun z => by rw [z, hn] at h2; cases h2)]; exact h2)
    obtain ⟨p', vs', e', hp', hl', ha'⟩ := hv G g2
    cases e'
    have hf : H1 p = none := by
      obtain ⟨p3, vs3, e3, hp3, _⟩ := hv (fun b => match H1 b with | none => H2 b | some _ => none) (fun b o h1 h2 => by simp only [h1, h2])
      cases e3
      cases hq : H1 p with
      | none => rfl
      | some o => simp only [hq] at hp3; cases hp3
    have hv2 := g2 p _ hf hp
    rw [hp'] at hv2
    cases hv2
    exact ⟨l, vs, rfl, g l _ (fresh_back e2 hn) upd_same, hl', ha'⟩
theorem sqL_ins {K : PySem.W.Frag} {H : Hp} {x p C dx : Addr} {fs : List (Str × V)} {o : HO} {xs : List V} (hx : H x = some (.ins C dx fs)) (h : SqL K H p xs) : SqL K (upd H x o) p xs := by
  have ne : ∀ {z : HO}, H p = some z → (∀ a b c, z ≠ .ins a b c) → p ≠ x := fun hz hn e => by
    rw [e, hx] at hz
    exact hn _ _ _ (Option.some.inj hz).symm
  rcases h with (h | ⟨o', h⟩) | h
  · exact .inl (.inl (by rw [upd_ne (ne h fun _ _ _ z => by cases z)]; exact h))
  · exact .inl (.inr ⟨o', by rw [upd_ne (ne h fun _ _ _ z => by cases z)]; exact h⟩)
  · exact .inr h
theorem RowsL.ins {K : PySem.W.Frag} {H : Hp} {x p C dx : Addr} {fs : List (Str × V)} {o : HO} {xss : List (List Int)} (hx : H x = some (.ins C dx fs)) (h : RowsL K H p xss) : RowsL K (upd H x o) p xss := by
  obtain ⟨vs, h1, h2, h3⟩ := h.all
  exact ⟨vs, sqL_ins hx h1, h2, fun i v hv => (h3 i v hv).imp fun p h => ⟨h.1, sqL_ins hx h.2⟩⟩
/-- a comprehension over a tuple whose items stand for the things of ps, the target of any form -/
theorem el_tupG {α : Type} (d : α) {K : PySem.W.Frag} {σ : L2.St} {H : Hp} {te tl : TE} {tt : TT} {g : TG} {vs : List Nat} {a : Addr} (xs : List V) (ps : List α) (p : α → Bool) (v : α → V) (τ : α → L2.St)
    (h : Ev tl σ H (.ref a)) (hx : SqT K H a xs) (hl : xs.length = ps.length) (hz : ps.length ≤ 40000)
    (hg : ∀ (i : Nat) x y H1 (k : L2.St → Hp → Prop), Ex H H1 → xs[i]? = some x → ps[i]? = some y → k (τ y) H1 → g x (wipe σ vs) H1 k)
    (hw : ∀ y, wipe (τ y) vs = wipe σ vs) (ht : ∀ y H1, Ex H H1 → y ∈ ps → EvT tt (τ y) H1 (p y)) (he : ∀ y H1, Ex H H1 → y ∈ ps → p y = true → Ev te (τ y) H1 (v y)) :
    EvL (tLc (iTup K tl) g tt te vs) σ H ((ps.filter p).map v) := by
  rw [← given_gen d ps p v]
  intro H0 e0 Q q
  refine h H0 e0 _ fun H1 e1 => ⟨a, rfl, ⟨xs, ex_t (e0.trans e1) hx⟩, fun D hD => ?_⟩
  refine lc_tup (xs := xs) (Cw H1 (fun i => p (ps.getD i d)) (fun i => v (ps.getD i d)) D) ⟨hD, Ex.new hD, upd_same⟩ (fun i H' _ c => ex_t ((e0.trans e1).trans c.2.1) hx) (fun i x H' hi c => ?_)
    (fun H' c => by rw [hl] at c; exact q D H' (fresh_back e1 c.1) (e1.trans c.2.1) c.2.2)
  have hil : i < ps.length := by
    have := (List.getElem?_eq_some_iff.mp hi).1
    omega
  have hy : ps[i]? = some (ps.getD i d) := by rw [List.getD_eq_getElem?_getD, List.getElem?_eq_getElem hil]; rfl
  refine hg i x _ H' _ ((e0.trans e1).trans c.2.1) hi hy ⟨hw _, ?_⟩
  exact cw_turn c (by omega) (ht _ H1 (e0.trans e1) (List.mem_of_getElem? hy)) (fun hf => he _ H1 (e0.trans e1) (List.mem_of_getElem? hy) hf)
theorem ev_whouse {K : PySem.W.Frag} {C : Addr} {te : TE} {σ : L2.St} {H : Hp} {a dx : Addr} {h w : V} (he : Ev te σ H (.ref a)) (hi : H a = some (.ins C dx (watF h w))) (c : Cls K C) (na : NoAttr K C "house") : Ev (tFld K te "house") σ H h := fun H1 e Q q' =>
  he H1 e _ fun H2 e2 => ⟨a, _, dx, _, _, rfl, e2 _ _ (e _ _ hi), c, na, rfl, q' H2 e2⟩
theorem ev_wrows {K : PySem.W.Frag} {C : Addr} {te : TE} {σ : L2.St} {H : Hp} {a dx : Addr} {h w : V} (he : Ev te σ H (.ref a)) (hi : H a = some (.ins C dx (watF h w))) (c : Cls K C) (na : NoAttr K C "_rows") : Ev (tFld K te "_rows") σ H w := fun H1 e Q q' =>
  he H1 e _ fun H2 e2 => ⟨a, _, dx, _, _, rfl, e2 _ _ (e _ _ hi), c, na, rfl, q' H2 e2⟩
theorem en_copyT {K : PySem.W.Frag} {te : TE} {σ : L2.St} {H : Hp} {p : Addr} {xs : List V} (h : Ev te σ H (.ref p)) (hp : SqT K H p xs) : EvNew (tCB (rListK K) (tCons te tNil)) σ H fun v G => ∃ t, v = .ref t ∧ G t = some (.lst xs) := fun H1 e Q q =>
  h H1 e _ fun H2 e2 => ⟨p, xs, rfl, .inr (ex_t (e.trans e2) hp), fun l hl => q _ _ (e2.trans (Ex.new hl)) fun G g => ⟨l, rfl, g l _ (fresh_back e2 hl) upd_same⟩⟩
def watVal (xss : List (List Int)) (n g h : Int) : Int := (xss.getD g.toNat []).getD (h % n).toNat 0

/-! ### rows under way -/
def RowsM (H0 H : Hp) (p : Addr) (qs : List (Addr × List Int)) : Prop := H0 p = none ∧ H p = some (.lst (qs.map fun q => V.ref q.1)) ∧ (qs.map (·.1)).Nodup ∧ ∀ q ∈ qs, q.1 ≠ p ∧ H0 q.1 = none ∧ H q.1 = some (.lst (q.2.map V.int))
theorem RowsM.ex {H0 H H' : Hp} {p : Addr} {qs : List (Addr × List Int)} (e : Ex H H') (h : RowsM H0 H p qs) : RowsM H0 H' p qs := ⟨h.1, e _ _ h.2.1, h.2.2.1, fun q hq => ⟨(h.2.2.2 q hq).1, (h.2.2.2 q hq).2.1, e _ _ (h.2.2.2 q hq).2.2⟩⟩
theorem RowsM.base {H0 H1 H : Hp} {p : Addr} {qs : List (Addr × List Int)} (e : Ex H0 H1) (h : RowsM H1 H p qs) : RowsM H0 H p qs := ⟨fresh_back e h.1, h.2.1, h.2.2.1, fun q hq => ⟨(h.2.2.2 q hq).1, fresh_back e (h.2.2.2 q hq).2.1, (h.2.2.2 q hq).2.2⟩⟩
theorem RowsM.rows {K : PySem.W.Frag} {H0 H : Hp} {p : Addr} {qs : List (Addr × List Int)} (h : RowsM H0 H p qs) : RowsL K H p (qs.map (·.2)) := by
  refine ⟨_, sq_of h.2.1, by simp, fun i v hv => ?_⟩
  rw [List.getElem?_map] at hv
  cases e : qs[i]? with
  | none => rw [e] at hv; cases hv
  | some q =>
    rw [e] at hv
    cases hv
    refine ⟨q.1, rfl, ?_⟩
    rw [List.getD_eq_getElem?_getD, List.getElem?_map, e]
    exact sq_of (h.2.2.2 q (List.mem_of_getElem? e)).2.2
/-! ### spreads that are good -/
def okT (n : Int) (m : Nat) (b c : Int) (t : T3) : Prop := inHouse n m t.1 t.2.1 = true ∧ 1 ≤ t.2.2 ∧ lexLe t.1 t.2.1 b c = false
def Good (n : Int) (m : Nat) : Int → Int → List T3 → Prop
  | _, _, [] => True
  | b, c, t :: r => okT n m b c t ∧ Good n m t.1 t.2.1 r
def lastB : Int → Int → List T3 → Int × Int
  | b, c, [] => (b, c)
  | _, _, t :: r => lastB t.1 t.2.1 r
theorem okT.not {n : Int} {m : Nat} {b c : Int} {t : T3} (h : okT n m b c t) : ¬ (!inHouse n m t.1 t.2.1 || decide (t.2.2 < 1) || lexLe t.1 t.2.1 b c) = true := by
  obtain ⟨h1, h2, h3⟩ := h
  rw [h1, h3, decide_eq_false (by omega)]
  simp
theorem firstW_pre {n : Int} {m : Nat} {r : List T3} : ∀ {ts : List T3} {k : Nat} {b c : Int}, Good n m b c ts → firstW n m k b c (ts ++ r) = firstW n m (k + ts.length) (lastB b c ts).1 (lastB b c ts).2 r
  | [], k, b, c, _ => rfl
  | t :: ts, k, b, c, h => by
    show (if (!inHouse n m t.1 t.2.1 || decide (t.2.2 < 1) || lexLe t.1 t.2.1 b c) = true then some k else firstW n m (k + 1) t.1 t.2.1 (ts ++ r)) = _
    rw [if_neg h.1.not, firstW_pre h.2, List.length_cons, show k + 1 + ts.length = k + (ts.length + 1) by omega]
    rfl
theorem good_none {n : Int} {m : Nat} {ts : List T3} {k : Nat} {b c : Int} (h : Good n m b c ts) : firstW n m k b c ts = none := by
  have := firstW_pre (r := []) (k := k) h
  rw [List.append_nil] at this
  rw [this]
  rfl
theorem good_app {n : Int} {m : Nat} {r : List T3} : ∀ {ts : List T3} {b c : Int}, Good n m b c (ts ++ r) ↔ Good n m b c ts ∧ Good n m (lastB b c ts).1 (lastB b c ts).2 r
  | [], b, c => by simp [Good, lastB]
  | t :: ts, b, c => by
    show okT n m b c t ∧ Good n m t.1 t.2.1 (ts ++ r) ↔ (okT n m b c t ∧ Good n m t.1 t.2.1 ts) ∧ _
    rw [good_app, and_assoc]
    rfl
theorem good_ok {n : Int} {m : Nat} {ts : List T3} (h : Good n m (-1) (-1) ts) (hs : (ts.map (·.2.2)).sum ≤ 6) : triesRes n m ts = .ok (ts.map (·.2.2)).sum := by
  unfold triesRes
  rw [good_none h]
  exact if_neg (by omega)
theorem lastB_app {ts : List T3} {t : T3} : ∀ {b c : Int}, lastB b c (ts ++ [t]) = (t.1, t.2.1) := by
  induction ts with
  | nil => intro b c; rfl
  | cons u ts ih => intro b c; exact ih

/-! ### zip(tuple, list) -/
section
open PySem.Spec PyProof.Rows
def IteM (K : PySem.W.Frag) (a b : Addr) : It :=
  ⟨fun i H => ∃ (us : List V) (vs : List V) (p q : V), SqT K H a us ∧ SqL K H b vs ∧ us[i]? = some p ∧ vs[i]? = some q,
    fun i H v H' => ∃ T p q, v = .ref T ∧ H T = none ∧ H' = upd H T (.tup [p, q]) ∧ (∀ us, SqT K H a us → us[i]? = some p) ∧ ∀ vs, SqL K H b vs → vs[i]? = some q,
    fun i H => ∃ us vs : List V, SqT K H a us ∧ SqL K H b vs ∧ i = min us.length vs.length⟩
theorem sep_of {z TI TO i1 i2 a b : Addr} (D : ZipApart z TI TO i1 i2 a b) : ZipSep2 z TI TO i1 i2 [i1, a] [i2, b] := by
  refine ⟨D.TIz, D.TOz, D.TITO, D.TIi1, by simp, ?_, ?_, D.TIi2, by simp, ?_, ?_, ?_, ?_⟩
  all_goals simp only [List.mem_cons, List.not_mem_nil, or_false, not_or]
  · exact ⟨Ne.symm D.i1z, Ne.symm D.l1z⟩
  · exact ⟨D.TOi1, Ne.symm D.l1TO⟩
  · exact ⟨Ne.symm D.i2z, Ne.symm D.l2z⟩
  · exact ⟨D.TOi2, Ne.symm D.l2TO⟩
  · exact ⟨D.i12, Ne.symm D.l2i1⟩
  · exact ⟨Ne.symm D.i12, Ne.symm D.l1i2⟩
theorem turn_zipM {P : Program} {w : World} {K : PySem.W.Frag} {elts : List Expr} {kk : Nat} {tpos : Pos} {a b z TI TO i1 i2 : Addr} (D : ZipApart z TI TO i1 i2 a b) :
    Turn P w K (.Tuple elts kk tpos) (IteM K a b) [z, TI, TO, i1, i2] z (fun i h => IsZip h z TI TO .none ∧ IsTupOf2 h TI (.ref i1) (.ref i2) ∧ (∃ p q, IsTupOf2 h TO p q) ∧ h.IsTupleIter i1 a i ∧ h.IsListIter i2 b i) where
  mem := List.mem_cons_self
  obj := fun i h st c hc => by
    obtain ⟨s1, s2, ⟨p, q, s3⟩, ⟨o4, s4, _, d4⟩, ⟨o5, s5, _, d5⟩⟩ := st
    rcases (show c = z ∨ c = TI ∨ c = TO ∨ c = i1 ∨ c = i2 by simpa using hc) with rfl | rfl | rfl | rfl | rfl
    · exact ⟨_, s1, nofun⟩
    · exact ⟨_, s2, nofun⟩
    · exact ⟨_, s3, nofun⟩
    · exact ⟨o4, s4, fun v e => by rw [d4] at e; cases e⟩
    · exact ⟨o5, s5, fun v e => by rw [d5] at e; cases e⟩
  keep := fun i h h' st k => by
    obtain ⟨s1, s2, ⟨p, q, s3⟩, s4, s5⟩ := st
    exact ⟨k _ (by simp) _ s1, k _ (by simp) _ s2, ⟨p, q, k _ (by simp) _ s3⟩, s4.at fun o e => k _ (by simp) o e, s5.at fun o e => k _ (by simp) o e⟩
  item := by
    intro X hP hw hK hc i pins s σ H E I hf st hg
    subst hP hw hK
    obtain ⟨s1, s2, ⟨p0, q0, s3⟩, s4, s5⟩ := st
    obtain ⟨us, vs, x, y, hu, hv, hx, hy⟩ := hg
    obtain ⟨ms, rm, pm, _⟩ := I.tuple hu
    obtain ⟨ns, rn, pn, _⟩ := I.list hv
    obtain ⟨x', ex, rx⟩ := rm.get hx
    obtain ⟨y', ey, ry⟩ := rn.get hy
    have zl : z < s.heap.objs.size := Heap.lt_size s1
    have hz : s.heap.IsTuple a ms.toArray := pm
    have j1 : i < ms.toArray.size := by have := (List.getElem?_eq_some_iff.mp ex).1; simpa using this
    have j2 : i < ns.toArray.size := by have := (List.getElem?_eq_some_iff.mp ey).1; simpa using this
    have hhd := I.ok.hd hc
    refine PySem.wpAny_pyNext_zipD2_item (sep_of D) (Draws.tuple (A := X.A.in1) hhd i1 a D.l1i1 ms.toArray) (Draws.list (A := X.A.in1) hhd i2 b D.l2i2 ns.toArray) s1 s2 s3 ⟨s4, hz⟩ ⟨s5, pn.isList⟩ j1 j2 fun u v h' tk hu' hv' z' TO' st1 st2 hT hsz hk => ?_
    obtain rfl : u = x' := by
      have e1 : ms[i]? = some u := by simpa using hu'
      rw [ex] at e1
      exact (Option.some.inj e1).symm
    obtain rfl : v = y' := by
      have e1 : ns[i]? = some v := by simpa using hv'
      rw [ey] at e1
      exact (Option.some.inj e1).symm
    refine ⟨_, rfl, wpAny_letOwnedTupleGo_zip (s := { s with heap := h', toks := tk }) z' fun h'' z'' sb => ?_⟩
    have gT : h''.get? s.heap.objs.size = some { cls := .type "tuple", data := .seq #[u, v] } := (sb.2 _ (Nat.ne_of_gt zl)).trans hT
    have nw : ObjOk X.prog X.w (upd H s.heap.objs.size (.tup [x, y])) h'' s.heap.objs.size (.tup [x, y]) := ⟨by show 2 ≤ sizeLine; decide, [u, v], .cons rx (.cons ry .nil), ⟨_, gT, rfl, _, rfl⟩⟩
    have I1 : Inv X pins σ (upd H s.heap.objs.size (.tup [x, y])) { s with heap := h'', toks := tk } :=
      I.turnedNew (ch := [z, TI, TO, i1, i2]) (fun c o hb e => by
        simp only [List.mem_cons, List.not_mem_nil, or_false, not_or] at hb
        exact (sb.2 c hb.1).trans (hk c o hb.1 hb.2.2.1 hb.2.2.2.1 hb.2.2.2.2 e)) hf (Nat.le_refl _) nw
    refine ⟨.ref s.heap.objs.size, _, I1, rfl, ⟨_, x, y, rfl, I.hok.fresh (Nat.le_refl _), rfl, fun l hl => by rw [I.tuple_inj hl hu]; exact hx, fun l hl => by rw [I.list_inj hl hv]; exact hy⟩,
      ⟨z'', (sb.2 _ D.TIz).trans (hk _ _ D.TIz D.TITO D.TIi1 D.TIi2 s2), ⟨u, v, (sb.2 _ D.TOz).trans TO'⟩, st1.1.at fun o e => (sb.2 _ D.i1z).trans e, st2.1.at fun o e => (sb.2 _ D.i2z).trans e⟩, fun c hcm => ?_⟩
    obtain ⟨o4, g4, _⟩ := s4
    obtain ⟨o5, g5, _⟩ := s5
    have cl : c < s.heap.objs.size := by
      rcases (show c = z ∨ c = TI ∨ c = TO ∨ c = i1 ∨ c = i2 by simpa using hcm) with rfl | rfl | rfl | rfl | rfl
      · exact zl
      · exact Heap.lt_size s2
      · exact Heap.lt_size s3
      · exact Heap.lt_size g4
      · exact Heap.lt_size g5
    rw [upd_ne (Nat.ne_of_lt cl)]
    exact (hf c hcm).1
  done := by
    intro X hP hw hK hc i pins s σ H E I hf st hg
    subst hP hw hK
    obtain ⟨s1, s2, ⟨p0, q0, s3⟩, s4, s5⟩ := st
    obtain ⟨us, vs, hu, hv, hend⟩ := hg
    obtain ⟨ms, rm, pm, _⟩ := I.tuple hu
    obtain ⟨ns, rn, pn, _⟩ := I.list hv
    have hz : s.heap.IsTuple a ms.toArray := pm
    have l1 := rm.length
    have l2 := rn.length
    have hhd := I.ok.hd hc
    refine PySem.wpAny_pyNext_zipD2_end (sep_of D) (Draws.tuple (A := X.A.in1) hhd i1 a D.l1i1 ms.toArray) (Draws.list (A := X.A.in1) hhd i2 b D.l2i2 ns.toArray) s1 s2 s3 ⟨s4, hz⟩ ⟨s5, pn.isList⟩ (by simp; omega) (by simp; omega) (by simp; omega) fun h' tk hk => ⟨rfl, I.turnedL (t' := tk) (ch := [z, TI, TO, i1, i2]) (fun c o hb e => by
        simp only [List.mem_cons, List.not_mem_nil, or_false, not_or] at hb
        exact hk c o hb.1 hb.2.2.1 hb.2.2.2.1 hb.2.2.2.2 e) hf⟩
  self := fun A i s Q E st h => wpAny_pyIter_zip st.1 h
def iZipM (K : PySem.W.Frag) (ta : TA) : TI := fun σ H R => ta σ H fun vs H1 => ∃ a b xs ys, vs = [.ref a, .ref b] ∧ SqT K H1 a xs ∧ SqL K H1 b ys ∧ R (IteM K a b) H1
theorem pi_zipM {X : Cx} {K : PySem.W.Frag} {e e2 : Expr} {ta : TA} {p pos tpos : Pos} {elts : List Expr} {kk : Nat} (hg : Gl X "zip") (hm : X.mg "zip" = none) (ha : PA X [e, e2] ta) (hK : X.K = K := by rfl)
    (hs : starEach [e, e2] X.env = (false, eval e X.env) :: starEach [e2] X.env := by rfl) (hpl : (backTo pos (starEach [e2] X.env)).any (·.1) = false := by rfl) :
    PI X (.Tuple elts kk tpos) (.Call (.Name "zip" p) [e, e2] [] pos) (iZipM K ta) := by
  subst hK
  refine ⟨fun pins s σ H R I h => ?_⟩
  refine Call_ (ld_blt I hg hm PyProof.Rows.boot_zip (PyProof.Rows.callWith_type1 (thn (ha.run pos pins s σ H _ I h) fun us s1 ⟨vs, H1, I1, r1, q1⟩ => ?_) hs hpl))
  obtain ⟨a, b, xs, ys, ex, hx, hy, q⟩ := q1
  subst ex
  cases r1 with
  | cons r rr =>
    cases rr with
    | cons r' rr =>
      cases rr
      cases r
      cases r'
      obtain ⟨ms, rm, pm, _⟩ := I1.tuple hx
      obtain ⟨ns, rn, pn, _⟩ := I1.list hy
      have hz : s1.heap.IsTuple a ms.toArray := pm
      obtain ⟨o1, g1, _⟩ := id hz
      refine PySem.zip_begins2 (PySem.begins_tuple a ms.toArray) (PySem.begins_list b ns.toArray) hz pn.isList fun h' k1 k2 k3 k4 k5 _ hk => wpAny_pyIter_zip k1 ?_
      have I2 : Inv X pins σ H1 { s1 with heap := h' } := I1.kept (t' := s1.toks) hk
      refine ⟨s1.heap.objs.size + 4, [s1.heap.objs.size + 4, s1.heap.objs.size + 2, s1.heap.objs.size + 3, s1.heap.objs.size, s1.heap.objs.size + 1], _, _, H1, rfl, I2, turn_zipM (PySem.W.ktu_apart s1.heap.objs.size a b (Heap.lt_size g1) pn.lt), ⟨k1, k2, ⟨_, _, k3⟩, ⟨_, k4, rfl, rfl⟩, ⟨_, k5, rfl, rfl⟩⟩, fun c hcm => ?_, q⟩
      have hle : s1.heap.objs.size ≤ c := by
        rcases (show c = s1.heap.objs.size + 4 ∨ c = s1.heap.objs.size + 2 ∨ c = s1.heap.objs.size + 3 ∨ c = s1.heap.objs.size ∨ c = s1.heap.objs.size + 1 by simpa using hcm) with e | e | e | e | e <;> rw [e]
        · exact Nat.le_add_right _ _
        · exact Nat.le_add_right _ _
        · exact Nat.le_add_right _ _
        · exact Nat.le_refl _
        · exact Nat.le_add_right _ _
      exact I1.fpOk hle (I1.hok.fresh hle)
theorem walk_zipM {K : PySem.W.Frag} {a b : Addr} {xs ys : List V} {n : Nat} (hn : n = min xs.length ys.length) : Walk (IteM K a b) n (fun H => SqT K H a xs ∧ SqL K H b ys) (YPair (fun i => xs[i]?) (fun i => ys[i]?)) :=
  ⟨fun i _ hi q => ⟨xs, ys, xs[i]'(by omega), ys[i]'(by omega), q.1, q.2, by simp, by simp⟩, fun _ q => ⟨xs, ys, q.1, q.2, by omega⟩, fun i H x H' _ q y => by
    obtain ⟨T, u, v, rfl, hT, rfl, h1, h2⟩ := y
    exact ⟨T, u, v, rfl, hT, rfl, h1 xs q.1, h2 ys q.2⟩⟩
theorem ei_zipM {K : PySem.W.Frag} {σ : L2.St} {H : Hp} {ta tb : TE} {xs ys : List V} {n : Nat} (h1 : EvB ta σ H fun v G => ∃ p, v = .ref p ∧ SqT K G p xs) (h2 : EvB tb σ H fun v G => ∃ p, v = .ref p ∧ SqL K G p ys) (hn : n = min xs.length ys.length) :
    EvI (iZipM K (tCons ta (tCons tb tNil))) σ H n (YPair (fun i => xs[i]?) fun i => ys[i]?) := fun H1 e R r => h1 H1 e _ fun v H2 e2 hv => h2 H2 (e.trans e2) _ fun w H3 e3 hw => by
  have s3 := (e.trans e2).trans e3
  have pv : ∀ G, Ex H G → Since H1 H3 G → ∃ p, v = .ref p ∧ SqT K G p xs := fun G g gs => hv G g fun b o z1 z2 => gs b o z1 (e3 _ _ z2)
  have pw : ∀ G, Ex H G → Since H1 H3 G → ∃ p, w = .ref p ∧ SqL K G p ys := fun G g gs => hw G g fun b o z1 z2 => gs b o (fresh_back e2 z1) z2
  obtain ⟨a, ea, qa⟩ := pv H3 s3 fun _ _ _ z => z
  obtain ⟨b, eb, qb⟩ := pw H3 s3 fun _ _ _ z => z
  subst ea eb
  refine ⟨a, b, xs, ys, rfl, qa, qb, r _ _ (e2.trans e3) ((walk_zipM hn).mono (fun G g => ?_) fun _ _ _ _ _ _ y => y)⟩
  obtain ⟨a', ea, ha⟩ := pv G g.1 g.2
  obtain ⟨b', eb, hb⟩ := pw G g.1 g.2
  cases ea
  cases eb
  exact ⟨ha, hb⟩
end

/-! ### watches turned and stretched -/
theorem Shape.row' {n m : Nat} {xss : List (List Int)} (h : Shape (n : Int) m xss) : ∀ xs ∈ xss, xs.length = n := fun xs hx => by have := h.row xs hx; omega
theorem Shape.map {n m : Nat} {xss : List (List Int)} {f : List Int → List Int} (h : Shape (n : Int) m xss) (hl : ∀ xs, xs.length = n → (f xs).length = n) (hv : ∀ xs, ∀ y ∈ f xs, y ∈ xs ∨ y = 0) : Shape (n : Int) m (xss.map f) :=
  ⟨by rw [List.length_map]; exact h.len, fun xs hx => by
    obtain ⟨ys, hy, rfl⟩ := List.mem_map.mp hx
    rw [hl ys (h.row' ys hy)], fun xs hx y hm => by
    obtain ⟨ys, hy, rfl⟩ := List.mem_map.mp hx
    rcases hv ys y hm with h1 | h1
    · exact h.val ys hy y h1
    · omega⟩
def turnR (n : Nat) (k : Int) (xs : List Int) : List Int := (List.range n).map fun (i : Nat) => xs.getD (((i : Int) - k) % (n : Int)).toNat 0
theorem getD_or {xs : List Int} {i : Nat} : xs.getD i 0 ∈ xs ∨ xs.getD i 0 = 0 := by
  rw [List.getD_eq_getElem?_getD]
  cases e : xs[i]? with
  | none => exact .inr rfl
  | some y => exact .inl (List.mem_of_getElem? e)
theorem turn_shape {n m : Nat} {k : Int} {xss : List (List Int)} (h : Shape (n : Int) m xss) : Shape (n : Int) m (xss.map (turnR n k)) :=
  h.map (fun xs _ => by simp [turnR]) fun xs y hy => by
    obtain ⟨i, _, rfl⟩ := List.mem_map.mp hy
    exact getD_or
/-- each strength put at its place, one after the other -/
def moveP (n : Nat) (idx : Nat → Nat) (xs : List Int) (i : Nat) : List Int := (List.range i).foldl (fun acc h => acc.set (idx h) (xs.getD h 0)) (List.replicate n 0)
theorem moveP_succ {n : Nat} {idx : Nat → Nat} {xs : List Int} {i : Nat} : moveP n idx xs (i + 1) = (moveP n idx xs i).set (idx i) (xs.getD i 0) := by
  unfold moveP
  rw [List.range_succ, List.foldl_append]
  rfl
theorem moveP_len {n : Nat} {idx : Nat → Nat} {xs : List Int} : ∀ {i : Nat}, (moveP n idx xs i).length = n
  | 0 => by simp [moveP]
  | i + 1 => by rw [moveP_succ, List.length_set, moveP_len]
theorem moveP_or {n : Nat} {idx : Nat → Nat} {xs : List Int} : ∀ {i : Nat} {y : Int}, y ∈ moveP n idx xs i → y ∈ xs ∨ y = 0
  | 0, y, h => .inr (List.mem_replicate.mp (by simpa [moveP] using h)).2
  | i + 1, y, h => by
    rw [moveP_succ] at h
    rcases List.mem_or_eq_of_mem_set h with h | h
    · exact moveP_or h
    · rw [h]; exact getD_or
def moveR (n : Nat) (f b : Int) (xs : List Int) : List Int := moveP n (fun h => ((f * (h : Int) + b) % (n : Int)).toNat) xs n
theorem move_shape {n m : Nat} {f b : Int} {xss : List (List Int)} (h : Shape (n : Int) m xss) : Shape (n : Int) m (xss.map (moveR n f b)) := h.map (fun xs _ => moveP_len) fun xs y hy => moveP_or hy
/-- where no place is met twice, each place holds what was sent there -/
theorem moveP_at {n : Nat} {idx : Nat → Nat} {xs : List Int} : ∀ {i : Nat}, i ≤ n → (∀ h, h < i → idx h < n) → (∀ h h', h < i → h' < i → idx h = idx h' → h = h') → ∀ h, h < i → (moveP n idx xs i).getD (idx h) 0 = xs.getD h 0
  | 0, _, _, _, h, hh => absurd hh (Nat.not_lt_zero _)
  | i + 1, hi, hb, hinj, h, hh => by
    rw [moveP_succ, List.getD_eq_getElem?_getD]
    by_cases e : h = i
    · subst e
      rw [List.getElem?_set_self (by rw [moveP_len]; exact hb h hh)]
      rfl
    · rw [List.getElem?_set_ne (fun z => e (hinj i h (by omega) hh z).symm), ← List.getD_eq_getElem?_getD]
      exact moveP_at (by omega) (fun h hh => hb h (by omega)) (fun a b ha hb' => hinj a b (by omega) (by omega)) h (by omega)
/-- a walk while something that was made before it is changed -/
theorem s_forB {wi : TI} {g : TG} {tu : TS} {σ : L2.St} {H0 H : Hp} {D : Ends} {n : Nat} {Y : Nat → Hp → V → Hp → Prop} (e : Ex H0 H) (h : EvI wi σ H0 n Y) (k : ∀ H2, Ex H H2 → ∃ Pv : Nat → L2.St → Hp → Prop, Pv 0 σ H2 ∧ (∀ i σ' H', i ≤ n → Pv i σ' H' → Ex H0 H' ∧ Since H H2 H') ∧
    (∀ i x σ' H' H'', i < n → Pv i σ' H' → Y i H' x H'' → g x σ' H'' fun σ2 H3 => tu { D with nx := Pv (i + 1), ct := Pv (i + 1), bk := D.nx } σ2 H3) ∧ ∀ σ' H', Pv n σ' H' → D.nx σ' H') : tFor wi g tu D σ H :=
  h H e _ fun J H2 e2 w => by
    obtain ⟨Pv, h0, hG, hs, hd⟩ := k H2 e2
    exact for_it w Pv h0 hG (fun i x σ' H' H'' hi p y => hs i x σ' H' H'' hi p y) hd
theorem q_forB {wi : TI} {g : TG} {tu tz : TS} {σ : L2.St} {H0 H : Hp} {D : Ends} {n : Nat} {Y : Nat → Hp → V → Hp → Prop} (e : Ex H0 H) (h : EvI wi σ H0 n Y) (k : ∀ H2, Ex H H2 → ∃ Pv : Nat → L2.St → Hp → Prop, Pv 0 σ H2 ∧ (∀ i σ' H', i ≤ n → Pv i σ' H' → Ex H0 H' ∧ Since H H2 H') ∧
    (∀ i x σ' H' H'', i < n → Pv i σ' H' → Y i H' x H'' → g x σ' H'' fun σ2 H3 => tu { D with nx := Pv (i + 1), ct := Pv (i + 1), bk := tz D } σ2 H3) ∧ ∀ σ' H', Pv n σ' H' → tz D σ' H') : tSeq (tFor wi g tu) tz D σ H := s_forB (D := { D with nx := tz D }) e h k
theorem since_ex {H H2 G G' : Hp} (h : Since H H2 G) (e : Ex G G') : Since H H2 G' := fun b o h1 h2 => e _ _ (h b o h1 h2)
theorem since_mut {H H2 G : Hp} {a : Addr} {o o' : HO} (h : Since H H2 G) (ha : H a = some o) : Since H H2 (upd G a o') := fun b z h1 h2 => by
  rw [upd_ne (fun q => by rw [q, ha] at h1; cases h1)]
  exact h b z h1 h2
/-- one more row -/
theorem RowsM.more {H0 H : Hp} {p b : Addr} {qs : List (Addr × List Int)} {ys : List Int} (h : RowsM H0 H p qs) (hb : H0 b = none) (hp : b ≠ p) (hn : ∀ q ∈ qs, q.1 ≠ b) (hy : H b = some (.lst (ys.map V.int))) : RowsM H0 (upd H p (.lst ((qs.map fun q => V.ref q.1) ++ [V.ref b]))) p (qs ++ [(b, ys)]) := by
  refine ⟨h.1, by rw [upd_same, List.map_append]; rfl, ?_, fun q hq => ?_⟩
  · rw [List.map_append]
    refine List.nodup_append.mpr ⟨h.2.2.1, List.pairwise_singleton _ _, fun x hx y hy e => ?_⟩
    obtain ⟨q, hq, rfl⟩ := List.mem_map.mp hx
    rw [List.mem_singleton.mp hy] at e
    exact hn q hq e
  · rcases List.mem_append.mp hq with h' | h'
    · obtain ⟨z1, z2, z3⟩ := h.2.2.2 q h'
      exact ⟨z1, z2, by rw [upd_ne z1]; exact z3⟩
    · rw [List.mem_singleton.mp h']
      exact ⟨hp, hb, by rw [upd_ne hp]; exact hy⟩
theorem RowsM.mut {H0 H : Hp} {p b : Addr} {o : HO} {qs : List (Addr × List Int)} (h : RowsM H0 H p qs) (hp : b ≠ p) (hn : ∀ q ∈ qs, q.1 ≠ b) : RowsM H0 (upd H b o) p qs :=
  ⟨h.1, by rw [upd_ne (Ne.symm hp)]; exact h.2.1, h.2.2.1, fun q hq => ⟨(h.2.2.2 q hq).1, (h.2.2.2 q hq).2.1, by rw [upd_ne (hn q hq)]; exact (h.2.2.2 q hq).2.2⟩⟩
theorem el_isW {te : TE} {σ : L2.St} {H : Hp} {xs ys : List V} (h : EvL te σ H xs) (e : xs = ys) : EvL te σ H ys := by subst e; exact h
theorem el_rngY {σ : L2.St} {H : Hp} {te : TE} {ta : TA} {j n : Nat} {vs : List Nat} (v : Nat → V) (h : EvA ta σ H [.int (n : Int)]) (hn : n ≤ 40000) (hw : ∀ x, wipe ((wipe σ vs).set j (some x)) vs = wipe σ vs)
    (he : ∀ (i : Nat) H1, i < n → Ex H H1 → Ev te ((wipe σ vs).set j (some (.int (i : Int)))) H1 (v i)) : EvL (tLc (iRng1 ta) (gName j) tYes te vs) σ H ((List.range n).map v) := by
  have r := ei_rng1 h (by omega)
  rw [Int.toNat_natCast] at r
  rw [← given_all]
  exact el_lc (fun _ => true) v r hn bd_fn (fun i _ => hw _) (fun _ _ _ _ => yes_T) fun i H1 hi e _ => he i H1 hi e

/-! ### tuples told alike -/
theorem eqv_intsT {xs ys : List Int} : PyData.eqv (.tuple (xs.map PyData.int)) (.tuple (ys.map PyData.int)) = decide (xs = ys) := by
  rw [PyData.eqv, eqv_ints]
theorem shaped_intsT (xs : List Int) : SeqAt.shaped (.tuple (xs.map PyData.int)) = true := by
  have h1 := lay_ints xs
  have h2 := depth_ints xs
  unfold SeqAt.shaped
  simp [PyData.canLay0, PyData.depth, h1]
  omega
theorem eqv_strs : ∀ xs ys : List Str, PyData.eqvAll (xs.map PyData.str) (ys.map PyData.str) = decide (xs = ys)
  | [], [] => by simp [PyData.eqvAll]
  | [], y :: ys => by simp [PyData.eqvAll]
  | x :: xs, [] => by simp [PyData.eqvAll]
  | x :: xs, y :: ys => by
    rw [List.map_cons, List.map_cons, PyData.eqvAll, eqv_strs xs ys, PyData.eqv]
    by_cases e : x = y
    · subst e; simp
    · simp [e]
theorem word_ok {x : Str} (h : Word x) : PyData.strOk x = true := by
  unfold PyData.strOk
  rw [Array.all_eq_true']
  intro c hc
  have := h.all c (by simpa using hc)
  exact decide_eq_true (by omega)
theorem lay_strs : ∀ xs : List Str, (∀ x ∈ xs, Word x) → PyData.canLayAll0 (xs.map PyData.str) = true
  | [], _ => by simp [PyData.canLayAll0]
  | x :: xs, h => by
    have := lay_strs xs fun y hy => h y (List.mem_cons_of_mem _ hy)
    simp [PyData.canLayAll0, PyData.canLay0, this, word_ok (h x List.mem_cons_self)]
theorem depth_strs : ∀ xs : List Str, PyData.depthAll (xs.map PyData.str) ≤ 1
  | [] => by simp [PyData.depthAll]
  | x :: xs => by
    have := depth_strs xs
    simp [PyData.depthAll, PyData.depth]
    omega
theorem eqv_strsT {xs ys : List Str} : PyData.eqv (.tuple (xs.map PyData.str)) (.tuple (ys.map PyData.str)) = decide (xs = ys) := by
  rw [PyData.eqv, eqv_strs]
theorem shaped_strsT (xs : List Str) (h : ∀ x ∈ xs, Word x) : SeqAt.shaped (.tuple (xs.map PyData.str)) = true := by
  have h1 := lay_strs xs h
  have h2 := depth_strs xs
  unfold SeqAt.shaped
  simp [PyData.canLay0, PyData.depth, h1]
  omega
theorem dp_strsB {K : PySem.W.Frag} {H : Hp} : ∀ ss : List Str, DpAll K H (ss.map V.str) (ss.map PyData.str)
  | [] => .nil
  | s :: ss => .cons (.str s) (dp_strsB ss)
theorem rv_eqTI {K : PySem.W.Frag} {H : Hp} {a b : Addr} {xs ys : List Int} (h1 : H a = some (.tup (xs.map V.int))) (h2 : H b = some (.tup (ys.map V.int))) : RV (rEqD K) (.ref a) (.ref b) H (.bl (decide (xs = ys))) := fun H1 e Q q =>
  ⟨.tuple (xs.map .int), .tuple (ys.map .int), .tup (st_of (e _ _ h1)) (dp_ints _), .tup (st_of (e _ _ h2)) (dp_ints _), shaped_intsT _, shaped_intsT _, by rw [eqv_intsT]; exact q H1 (Ex.refl H1)⟩
theorem rv_eqTS {K : PySem.W.Frag} {H : Hp} {a b : Addr} {xs ys : List Str} (h1 : H a = some (.tup (xs.map V.str))) (h2 : H b = some (.tup (ys.map V.str))) (w1 : ∀ x ∈ xs, Word x) (w2 : ∀ x ∈ ys, Word x) : RV (rEqD K) (.ref a) (.ref b) H (.bl (decide (xs = ys))) := fun H1 e Q q =>
  ⟨.tuple (xs.map .str), .tuple (ys.map .str), .tup (st_of (e _ _ h1)) (dp_strsB _), .tup (st_of (e _ _ h2)) (dp_strsB _), shaped_strsT _ w1, shaped_strsT _ w2, by rw [eqv_strsT]; exact q H1 (Ex.refl H1)⟩
theorem pairs_eq : ∀ {gs fs : List (Str × Int)}, (gs.map (·.1) = fs.map (·.1) ∧ gs.map (·.2) = fs.map (·.2)) ↔ gs = fs
  | [], [] => by simp
  | [], f :: fs => by simp
  | g :: gs, [] => by simp
  | g :: gs, f :: fs => by
    have := pairs_eq (gs := gs) (fs := fs)
    simp only [List.map_cons, List.cons.injEq, ← this]
    constructor
    · rintro ⟨⟨h1, h2⟩, h3, h4⟩
      exact ⟨Prod.ext h1 h3, h2, h4⟩
    · rintro ⟨rfl, h2, h4⟩
      exact ⟨⟨rfl, h2⟩, rfl, h4⟩

/-! ### watches in full -/
inductive WErr where
  | wlen (k : Nat)
  | str (x : Int)
def badStr (x : Int) : Bool := decide (x < 0 ∨ 96 < x)
def rowAll (n : Nat) (xs : List Int) : List WErr := (if xs.length = n then [] else [.wlen xs.length]) ++ (xs.filter badStr).map .str
def watchAll (n m : Nat) (xss : List (List Int)) : List WErr := (if xss.length = m then [] else [.wlen xss.length]) ++ xss.flatMap (rowAll n)
def watchErr (n m : Nat) (xss : List (List Int)) : Option WErr := (watchAll n m xss).head?
theorem row_good {n : Nat} {xs : List Int} (h : rowAll n xs = []) : xs.length = n ∧ ∀ x ∈ xs, 0 ≤ x ∧ x ≤ 96 := by
  unfold rowAll at h
  by_cases c : xs.length = n
  · rw [if_pos c, List.nil_append, List.map_eq_nil_iff, List.filter_eq_nil_iff] at h
    exact ⟨c, fun x hx => by
      have hb : badStr x = false := by simpa using h x hx
      unfold badStr at hb
      have := of_decide_eq_false hb
      omega⟩
  · rw [if_neg c] at h
    simp at h
theorem watch_good {n m : Nat} {xss : List (List Int)} (h : watchErr n m xss = none) : Shape (n : Int) m xss := by
  unfold watchErr watchAll at h
  rw [List.head?_eq_none_iff] at h
  by_cases c : xss.length = m
  · rw [if_pos c, List.nil_append, List.flatMap_eq_nil_iff] at h
    exact ⟨c, fun xs hx => by rw [(row_good (h xs hx)).1], fun xs hx => (row_good (h xs hx)).2⟩
  · rw [if_neg c] at h
    simp at h
theorem good_row {n : Nat} {xs : List Int} (h1 : xs.length = n) (h2 : ∀ x ∈ xs, 0 ≤ x ∧ x ≤ 96) : rowAll n xs = [] := by
  unfold rowAll
  rw [if_pos h1, List.nil_append, List.map_eq_nil_iff, List.filter_eq_nil_iff]
  intro x hx
  have := h2 x hx
  unfold badStr
  rw [decide_eq_false (by omega)]
  simp
theorem good_watch {n m : Nat} {xss : List (List Int)} (h : Shape (n : Int) m xss) : watchErr n m xss = none := by
  unfold watchErr watchAll
  rw [if_pos h.len, List.nil_append, List.head?_eq_none_iff, List.flatMap_eq_nil_iff]
  exact fun xs hx => good_row (by have := h.row xs hx; omega) (h.val xs hx)
theorem pi_zipAK {X : Cx} {K : PySem.W.Frag} {e e2 : Expr} {ta : TA} {p pos tpos : Pos} {elts : List Expr} {kk : Nat} (hg : Gl X "zip") (hm : X.mg "zip" = none) (ha : PA X [e, e2] ta) (hK : X.K = K := by rfl)
    (hs : starEach [e, e2] X.env = (false, eval e X.env) :: starEach [e2] X.env := by rfl) (hpl : (backTo pos (starEach [e2] X.env)).any (·.1) = false := by rfl) :
    PI X (.Tuple elts kk tpos) (.Call (.Name "zip" p) [e, e2] [] pos) (RZ.iZipA K ta) := by
  subst hK
  exact RZ.pi_zipA hg hm ha hs hpl
theorem walk_zipT2 {K : PySem.W.Frag} {a b : Addr} {xs ys : List V} {n : Nat} (hn : n = min xs.length ys.length) : Walk (RZ.ItzT K a b) n (fun H => SqT K H a xs ∧ SqT K H b ys) (YPair (fun i => xs[i]?) (fun i => ys[i]?)) :=
  ⟨fun i _ hi q => ⟨xs, ys, xs[i]'(by omega), ys[i]'(by omega), q.1, q.2, by simp, by simp⟩, fun _ q => ⟨xs, ys, q.1, q.2, by omega⟩, fun i H x H' _ q y => by
    obtain ⟨T, u, v, rfl, hT, rfl, h1, h2⟩ := y
    exact ⟨T, u, v, rfl, hT, rfl, h1 xs q.1, h2 ys q.2⟩⟩
theorem ei_zipT {K : PySem.W.Frag} {σ : L2.St} {H : Hp} {ta tb : TE} {xs ys : List V} {n : Nat} (h1 : EvB ta σ H fun v G => ∃ p, v = .ref p ∧ SqT K G p xs) (h2 : EvB tb σ H fun v G => ∃ p, v = .ref p ∧ SqT K G p ys) (hn : n = min xs.length ys.length) :
    EvI (RZ.iZipA K (tCons ta (tCons tb tNil))) σ H n (YPair (fun i => xs[i]?) fun i => ys[i]?) := fun H1 e R r => h1 H1 e _ fun v H2 e2 hv => h2 H2 (e.trans e2) _ fun w H3 e3 hw => by
  have s3 := (e.trans e2).trans e3
  have pv : ∀ G, Ex H G → Since H1 H3 G → ∃ p, v = .ref p ∧ SqT K G p xs := fun G g gs => hv G g fun b o z1 z2 => gs b o z1 (e3 _ _ z2)
  have pw : ∀ G, Ex H G → Since H1 H3 G → ∃ p, w = .ref p ∧ SqT K G p ys := fun G g gs => hw G g fun b o z1 z2 => gs b o (fresh_back e2 z1) z2
  obtain ⟨a, ea, qa⟩ := pv H3 s3 fun _ _ _ z => z
  obtain ⟨b, eb, qb⟩ := pw H3 s3 fun _ _ _ z => z
  subst ea eb
  refine ⟨a, b, xs, ys, rfl, .inr ⟨qa, qb, r _ _ (e2.trans e3) ((walk_zipT2 hn).mono (fun G g => ?_) fun _ _ _ _ _ _ y => y)⟩⟩
  obtain ⟨a', ea, ha⟩ := pv G g.1 g.2
  obtain ⟨b', eb, hb⟩ := pw G g.1 g.2
  cases ea
  cases eb
  exact ⟨ha, hb⟩
set_option genInjectivity false in
set_option genSizeOf false in
structure Ads where
  f_BadNumber_init : Addr
  d_BadNumber_init : FuncData
  f_TooMany_init : Addr
  d_TooMany_init : FuncData
  f_RepeatedHour_init : Addr
  d_RepeatedHour_init : FuncData
  f_WrongLength_init : Addr
  d_WrongLength_init : FuncData
  f_BadName_init : Addr
  d_BadName_init : FuncData
  f_RepeatedName_init : Addr
  d_RepeatedName_init : FuncData
  f_Lot_init : Addr
  d_Lot_init : FuncData
  f_Lot_members : Addr
  d_Lot_members : FuncData
  f_Lot_len : Addr
  d_Lot_len : FuncData
  f_Lot_iter : Addr
  d_Lot_iter : FuncData
  f_Lot_contains : Addr
  d_Lot_contains : FuncData
  f_Lot_eq : Addr
  d_Lot_eq : FuncData
  f_Lot_invert : Addr
  d_Lot_invert : FuncData
  f_check_name : Addr
  d_check_name : FuncData
  f_check_new_name : Addr
  d_check_new_name : FuncData
  f_House_init : Addr
  d_House_init : FuncData
  f_House_len : Addr
  d_House_len : FuncData
  f_u_check_row : Addr
  d_u_check_row : FuncData
  f_Watch_init : Addr
  d_Watch_init : FuncData
  f_Watch_of_lots : Addr
  d_Watch_of_lots : FuncData
  f_Ratio_init : Addr
  d_Ratio_init : FuncData
  f_as_ratio : Addr
  d_as_ratio : FuncData
  f_Ratio_add : Addr
  d_Ratio_add : FuncData
  f_Ratio_mul : Addr
  d_Ratio_mul : FuncData
  f_u_lead : Addr
  d_u_lead : FuncData
  f_Ratio_lt : Addr
  d_Ratio_lt : FuncData
  f_Ratio_gt : Addr
  d_Ratio_gt : FuncData
  f_greatest : Addr
  d_greatest : FuncData
  f_meetings : Addr
  d_meetings : FuncData
  f_no_look_bound : Addr
  d_no_look_bound : FuncData
  f_u_means_after : Addr
  d_u_means_after : FuncData
  f_one_look_bound : Addr
  d_one_look_bound : FuncData
  f_u_law_cell : Addr
  d_u_law_cell : FuncData
  f_u_law_draws : Addr
  d_u_law_draws : FuncData
  f_u_law_two : Addr
  d_u_law_two : FuncData
  f_u_law_bits : Addr
  d_u_law_bits : FuncData
  f_u_law_name : Addr
  d_u_law_name : FuncData
  f_u_law_names : Addr
  d_u_law_names : FuncData
  f_u_law_gates : Addr
  d_u_law_gates : FuncData
  f_u_law_gcd : Addr
  d_u_law_gcd : FuncData
  f_u_law_is_int : Addr
  d_u_law_is_int : FuncData
  f_u_law_is_ratio : Addr
  d_u_law_is_ratio : FuncData
  f_u_law_worth : Addr
  d_u_law_worth : FuncData
  f_u_law_same : Addr
  d_u_law_same : FuncData
  f_u_law_greater : Addr
  d_u_law_greater : FuncData
  f_u_law_no_look : Addr
  d_u_law_no_look : FuncData
  f_u_law_one_look : Addr
  d_u_law_one_look : FuncData
  f_u_law_told : Addr
  d_u_law_told : FuncData
  f_u_law_refused : Addr
  d_u_law_refused : FuncData
  f_u_law_refused_by_base : Addr
  d_u_law_refused_by_base : FuncData
  f_u_law_faults : Addr
  d_u_law_faults : FuncData
  f_u_law_sets : Addr
  d_u_law_sets : FuncData
  f_law : Addr
  d_law : FuncData
  C_ZeroUnder : Addr
  C_BadNumber : Addr
  C_TooMany : Addr
  C_RepeatedHour : Addr
  C_OtherHours : Addr
  C_WrongLength : Addr
  C_BadName : Addr
  C_RepeatedName : Addr
  C_WatchError : Addr
  C_Lot : Addr
  C_House : Addr
  C_Watch : Addr
  C_Ratio : Addr
  p_Lot_members : Addr
  p_Watch_of_lots : Addr
structure Txt (K : PySem.W.Frag) (mg : Str → Option Value) (A : Ads) : Prop where
  F_BadNumber_init : Fun K "__init__" "BadNumber.__init__" s_BadNumber_init A.f_BadNumber_init A.d_BadNumber_init
  F_TooMany_init : Fun K "__init__" "TooMany.__init__" s_TooMany_init A.f_TooMany_init A.d_TooMany_init
  F_RepeatedHour_init : Fun K "__init__" "RepeatedHour.__init__" s_RepeatedHour_init A.f_RepeatedHour_init A.d_RepeatedHour_init
  F_WrongLength_init : Fun K "__init__" "WrongLength.__init__" s_WrongLength_init A.f_WrongLength_init A.d_WrongLength_init
  F_BadName_init : Fun K "__init__" "BadName.__init__" s_BadName_init A.f_BadName_init A.d_BadName_init
  F_RepeatedName_init : Fun K "__init__" "RepeatedName.__init__" s_RepeatedName_init A.f_RepeatedName_init A.d_RepeatedName_init
  F_Lot_init : Fun K "__init__" "Lot.__init__" s_Lot_init A.f_Lot_init A.d_Lot_init
  F_Lot_members : Fun K "members" "Lot.members" s_Lot_members A.f_Lot_members A.d_Lot_members
  F_Lot_len : Fun K "__len__" "Lot.__len__" s_Lot_len A.f_Lot_len A.d_Lot_len
  F_Lot_iter : Fun K "__iter__" "Lot.__iter__" s_Lot_iter A.f_Lot_iter A.d_Lot_iter
  F_Lot_contains : Fun K "__contains__" "Lot.__contains__" s_Lot_contains A.f_Lot_contains A.d_Lot_contains
  F_Lot_eq : Fun K "__eq__" "Lot.__eq__" s_Lot_eq A.f_Lot_eq A.d_Lot_eq
  F_Lot_invert : Fun K "__invert__" "Lot.__invert__" s_Lot_invert A.f_Lot_invert A.d_Lot_invert
  F_check_name : Fun K "check_name" "check_name" s_check_name A.f_check_name A.d_check_name
  g_check_name : mg "check_name" = some (.ref A.f_check_name)
  k_check_name : PySem.W.keepIn K (.ref A.f_check_name) = true
  F_check_new_name : Fun K "check_new_name" "check_new_name" s_check_new_name A.f_check_new_name A.d_check_new_name
  g_check_new_name : mg "check_new_name" = some (.ref A.f_check_new_name)
  k_check_new_name : PySem.W.keepIn K (.ref A.f_check_new_name) = true
  F_House_init : Fun K "__init__" "House.__init__" s_House_init A.f_House_init A.d_House_init
  F_House_len : Fun K "__len__" "House.__len__" s_House_len A.f_House_len A.d_House_len
  F_u_check_row : Fun K "_check_row" "_check_row" s_u_check_row A.f_u_check_row A.d_u_check_row
  g_u_check_row : mg "_check_row" = some (.ref A.f_u_check_row)
  k_u_check_row : PySem.W.keepIn K (.ref A.f_u_check_row) = true
  F_Watch_init : Fun K "__init__" "Watch.__init__" s_Watch_init A.f_Watch_init A.d_Watch_init
  F_Watch_of_lots : Fun K "of_lots" "Watch.of_lots" s_Watch_of_lots A.f_Watch_of_lots A.d_Watch_of_lots
  F_Ratio_init : FunD K "__init__" "Ratio.__init__" (defArgs s_Ratio_init) (defBody s_Ratio_init) (defScope s_Ratio_init) ([.int 1] : List V) ([] : List (Str × V)) A.f_Ratio_init A.d_Ratio_init
  F_as_ratio : Fun K "as_ratio" "as_ratio" s_as_ratio A.f_as_ratio A.d_as_ratio
  g_as_ratio : mg "as_ratio" = some (.ref A.f_as_ratio)
  k_as_ratio : PySem.W.keepIn K (.ref A.f_as_ratio) = true
  F_Ratio_add : Fun K "__add__" "Ratio.__add__" s_Ratio_add A.f_Ratio_add A.d_Ratio_add
  F_Ratio_mul : Fun K "__mul__" "Ratio.__mul__" s_Ratio_mul A.f_Ratio_mul A.d_Ratio_mul
  F_u_lead : Fun K "_lead" "_lead" s_u_lead A.f_u_lead A.d_u_lead
  g_u_lead : mg "_lead" = some (.ref A.f_u_lead)
  k_u_lead : PySem.W.keepIn K (.ref A.f_u_lead) = true
  F_Ratio_lt : Fun K "__lt__" "Ratio.__lt__" s_Ratio_lt A.f_Ratio_lt A.d_Ratio_lt
  F_Ratio_gt : Fun K "__gt__" "Ratio.__gt__" s_Ratio_gt A.f_Ratio_gt A.d_Ratio_gt
  F_greatest : Fun K "greatest" "greatest" s_greatest A.f_greatest A.d_greatest
  g_greatest : mg "greatest" = some (.ref A.f_greatest)
  k_greatest : PySem.W.keepIn K (.ref A.f_greatest) = true
  F_meetings : Fun K "meetings" "meetings" s_meetings A.f_meetings A.d_meetings
  g_meetings : mg "meetings" = some (.ref A.f_meetings)
  k_meetings : PySem.W.keepIn K (.ref A.f_meetings) = true
  F_no_look_bound : Fun K "no_look_bound" "no_look_bound" s_no_look_bound A.f_no_look_bound A.d_no_look_bound
  g_no_look_bound : mg "no_look_bound" = some (.ref A.f_no_look_bound)
  k_no_look_bound : PySem.W.keepIn K (.ref A.f_no_look_bound) = true
  F_u_means_after : Fun K "_means_after" "_means_after" s_u_means_after A.f_u_means_after A.d_u_means_after
  g_u_means_after : mg "_means_after" = some (.ref A.f_u_means_after)
  k_u_means_after : PySem.W.keepIn K (.ref A.f_u_means_after) = true
  F_one_look_bound : Fun K "one_look_bound" "one_look_bound" s_one_look_bound A.f_one_look_bound A.d_one_look_bound
  g_one_look_bound : mg "one_look_bound" = some (.ref A.f_one_look_bound)
  k_one_look_bound : PySem.W.keepIn K (.ref A.f_one_look_bound) = true
  F_u_law_cell : Fun K "_law_cell" "_law_cell" s_u_law_cell A.f_u_law_cell A.d_u_law_cell
  g_u_law_cell : mg "_law_cell" = some (.ref A.f_u_law_cell)
  k_u_law_cell : PySem.W.keepIn K (.ref A.f_u_law_cell) = true
  F_u_law_draws : Fun K "_law_draws" "_law_draws" s_u_law_draws A.f_u_law_draws A.d_u_law_draws
  g_u_law_draws : mg "_law_draws" = some (.ref A.f_u_law_draws)
  k_u_law_draws : PySem.W.keepIn K (.ref A.f_u_law_draws) = true
  F_u_law_two : Fun K "_law_two" "_law_two" s_u_law_two A.f_u_law_two A.d_u_law_two
  g_u_law_two : mg "_law_two" = some (.ref A.f_u_law_two)
  k_u_law_two : PySem.W.keepIn K (.ref A.f_u_law_two) = true
  F_u_law_bits : Fun K "_law_bits" "_law_bits" s_u_law_bits A.f_u_law_bits A.d_u_law_bits
  g_u_law_bits : mg "_law_bits" = some (.ref A.f_u_law_bits)
  k_u_law_bits : PySem.W.keepIn K (.ref A.f_u_law_bits) = true
  F_u_law_name : Fun K "_law_name" "_law_name" s_u_law_name A.f_u_law_name A.d_u_law_name
  g_u_law_name : mg "_law_name" = some (.ref A.f_u_law_name)
  k_u_law_name : PySem.W.keepIn K (.ref A.f_u_law_name) = true
  F_u_law_names : Fun K "_law_names" "_law_names" s_u_law_names A.f_u_law_names A.d_u_law_names
  g_u_law_names : mg "_law_names" = some (.ref A.f_u_law_names)
  k_u_law_names : PySem.W.keepIn K (.ref A.f_u_law_names) = true
  F_u_law_gates : Fun K "_law_gates" "_law_gates" s_u_law_gates A.f_u_law_gates A.d_u_law_gates
  g_u_law_gates : mg "_law_gates" = some (.ref A.f_u_law_gates)
  k_u_law_gates : PySem.W.keepIn K (.ref A.f_u_law_gates) = true
  F_u_law_gcd : Fun K "_law_gcd" "_law_gcd" s_u_law_gcd A.f_u_law_gcd A.d_u_law_gcd
  g_u_law_gcd : mg "_law_gcd" = some (.ref A.f_u_law_gcd)
  k_u_law_gcd : PySem.W.keepIn K (.ref A.f_u_law_gcd) = true
  F_u_law_is_int : Fun K "_law_is_int" "_law_is_int" s_u_law_is_int A.f_u_law_is_int A.d_u_law_is_int
  g_u_law_is_int : mg "_law_is_int" = some (.ref A.f_u_law_is_int)
  k_u_law_is_int : PySem.W.keepIn K (.ref A.f_u_law_is_int) = true
  F_u_law_is_ratio : Fun K "_law_is_ratio" "_law_is_ratio" s_u_law_is_ratio A.f_u_law_is_ratio A.d_u_law_is_ratio
  g_u_law_is_ratio : mg "_law_is_ratio" = some (.ref A.f_u_law_is_ratio)
  k_u_law_is_ratio : PySem.W.keepIn K (.ref A.f_u_law_is_ratio) = true
  F_u_law_worth : Fun K "_law_worth" "_law_worth" s_u_law_worth A.f_u_law_worth A.d_u_law_worth
  g_u_law_worth : mg "_law_worth" = some (.ref A.f_u_law_worth)
  k_u_law_worth : PySem.W.keepIn K (.ref A.f_u_law_worth) = true
  F_u_law_same : Fun K "_law_same" "_law_same" s_u_law_same A.f_u_law_same A.d_u_law_same
  g_u_law_same : mg "_law_same" = some (.ref A.f_u_law_same)
  k_u_law_same : PySem.W.keepIn K (.ref A.f_u_law_same) = true
  F_u_law_greater : Fun K "_law_greater" "_law_greater" s_u_law_greater A.f_u_law_greater A.d_u_law_greater
  g_u_law_greater : mg "_law_greater" = some (.ref A.f_u_law_greater)
  k_u_law_greater : PySem.W.keepIn K (.ref A.f_u_law_greater) = true
  F_u_law_no_look : Fun K "_law_no_look" "_law_no_look" s_u_law_no_look A.f_u_law_no_look A.d_u_law_no_look
  g_u_law_no_look : mg "_law_no_look" = some (.ref A.f_u_law_no_look)
  k_u_law_no_look : PySem.W.keepIn K (.ref A.f_u_law_no_look) = true
  F_u_law_one_look : Fun K "_law_one_look" "_law_one_look" s_u_law_one_look A.f_u_law_one_look A.d_u_law_one_look
  g_u_law_one_look : mg "_law_one_look" = some (.ref A.f_u_law_one_look)
  k_u_law_one_look : PySem.W.keepIn K (.ref A.f_u_law_one_look) = true
  F_u_law_told : Fun K "_law_told" "_law_told" s_u_law_told A.f_u_law_told A.d_u_law_told
  g_u_law_told : mg "_law_told" = some (.ref A.f_u_law_told)
  k_u_law_told : PySem.W.keepIn K (.ref A.f_u_law_told) = true
  F_u_law_refused : Fun K "_law_refused" "_law_refused" s_u_law_refused A.f_u_law_refused A.d_u_law_refused
  g_u_law_refused : mg "_law_refused" = some (.ref A.f_u_law_refused)
  k_u_law_refused : PySem.W.keepIn K (.ref A.f_u_law_refused) = true
  F_u_law_refused_by_base : Fun K "_law_refused_by_base" "_law_refused_by_base" s_u_law_refused_by_base A.f_u_law_refused_by_base A.d_u_law_refused_by_base
  g_u_law_refused_by_base : mg "_law_refused_by_base" = some (.ref A.f_u_law_refused_by_base)
  k_u_law_refused_by_base : PySem.W.keepIn K (.ref A.f_u_law_refused_by_base) = true
  F_u_law_faults : Fun K "_law_faults" "_law_faults" s_u_law_faults A.f_u_law_faults A.d_u_law_faults
  g_u_law_faults : mg "_law_faults" = some (.ref A.f_u_law_faults)
  k_u_law_faults : PySem.W.keepIn K (.ref A.f_u_law_faults) = true
  F_u_law_sets : Fun K "_law_sets" "_law_sets" s_u_law_sets A.f_u_law_sets A.d_u_law_sets
  g_u_law_sets : mg "_law_sets" = some (.ref A.f_u_law_sets)
  k_u_law_sets : PySem.W.keepIn K (.ref A.f_u_law_sets) = true
  F_law : Fun K "law" "law" s_law A.f_law A.d_law
  g_law : mg "law" = some (.ref A.f_law)
  k_law : PySem.W.keepIn K (.ref A.f_law) = true
  c_LONGEST_NAME : ∃ t, mg "_LONGEST_NAME" = some (.int 8 t)
  c_LETTERS : ∃ t, mg "_LETTERS" = some (.str "abcdefghijklmnopqrstuvwxyz" t)
  z_abs : mg "abs" = none
  z_len : mg "len" = none
  z_int : mg "int" = none
  z_bool : mg "bool" = none
  z_str : mg "str" = none
  z_list : mg "list" = none
  z_tuple : mg "tuple" = none
  z_isinstance : mg "isinstance" = none
  z_range : mg "range" = none
  z_ValueError : mg "ValueError" = none
  z_min : mg "min" = none
  z_max : mg "max" = none
  z_enumerate : mg "enumerate" = none
  z_zip : mg "zip" = none
  z_iter : mg "iter" = none
  g_ZeroUnder : mg "ZeroUnder" = some (.ref A.C_ZeroUnder)
  g_BadNumber : mg "BadNumber" = some (.ref A.C_BadNumber)
  g_TooMany : mg "TooMany" = some (.ref A.C_TooMany)
  g_RepeatedHour : mg "RepeatedHour" = some (.ref A.C_RepeatedHour)
  g_OtherHours : mg "OtherHours" = some (.ref A.C_OtherHours)
  g_WrongLength : mg "WrongLength" = some (.ref A.C_WrongLength)
  g_BadName : mg "BadName" = some (.ref A.C_BadName)
  g_RepeatedName : mg "RepeatedName" = some (.ref A.C_RepeatedName)
  g_WatchError : mg "WatchError" = some (.ref A.C_WatchError)
  g_Lot : mg "Lot" = some (.ref A.C_Lot)
  g_House : mg "House" = some (.ref A.C_House)
  g_Watch : mg "Watch" = some (.ref A.C_Watch)
  g_Ratio : mg "Ratio" = some (.ref A.C_Ratio)
  si_list : PySem.W.subIn K (.type "list") (.ref A.C_Watch) = some false
  kit_list_Watch : PySem.W.kitOne K (.type "list") (.ref A.C_Watch) = some false
  g_gcd : mg "gcd" = some (.builtin "math.gcd")
  kit_int_Ratio : PySem.W.kitOne K (.type "int") (.ref A.C_Ratio) = some false
  ox_BadNumber : OexC K A.C_BadNumber
  ni_BadNumber : PySem.W.findIn K (.ref A.C_BadNumber) "__init__" = some (some (.ref A.f_BadNumber_init))
  ti_BadNumber : PySem.W.typeIn K (.ref A.f_BadNumber_init) = some (.type "function")
  nf_BadNumber_name : PySem.W.findIn K (.ref A.C_BadNumber) "name" = some none
  nf_BadNumber_value : PySem.W.findIn K (.ref A.C_BadNumber) "value" = some none
  xf_BadNumber : XfC K A.C_BadNumber
  ex_BadNumber : ExcC K A.C_BadNumber
  ox_TooMany : OexC K A.C_TooMany
  ni_TooMany : PySem.W.findIn K (.ref A.C_TooMany) "__init__" = some (some (.ref A.f_TooMany_init))
  ti_TooMany : PySem.W.typeIn K (.ref A.f_TooMany_init) = some (.type "function")
  nf_TooMany_name : PySem.W.findIn K (.ref A.C_TooMany) "name" = some none
  nf_TooMany_most : PySem.W.findIn K (.ref A.C_TooMany) "most" = some none
  xf_TooMany : XfC K A.C_TooMany
  ex_TooMany : ExcC K A.C_TooMany
  ox_BadName : OexC K A.C_BadName
  ni_BadName : PySem.W.findIn K (.ref A.C_BadName) "__init__" = some (some (.ref A.f_BadName_init))
  ti_BadName : PySem.W.typeIn K (.ref A.f_BadName_init) = some (.type "function")
  nf_BadName_name : PySem.W.findIn K (.ref A.C_BadName) "name" = some none
  xf_BadName : XfC K A.C_BadName
  ex_BadName : ExcC K A.C_BadName
  ox_RepeatedName : OexC K A.C_RepeatedName
  ni_RepeatedName : PySem.W.findIn K (.ref A.C_RepeatedName) "__init__" = some (some (.ref A.f_RepeatedName_init))
  ti_RepeatedName : PySem.W.typeIn K (.ref A.f_RepeatedName_init) = some (.type "function")
  nf_RepeatedName_name : PySem.W.findIn K (.ref A.C_RepeatedName) "name" = some none
  xf_RepeatedName : XfC K A.C_RepeatedName
  ex_RepeatedName : ExcC K A.C_RepeatedName
  ox_WrongLength : OexC K A.C_WrongLength
  ni_WrongLength : PySem.W.findIn K (.ref A.C_WrongLength) "__init__" = some (some (.ref A.f_WrongLength_init))
  ti_WrongLength : PySem.W.typeIn K (.ref A.f_WrongLength_init) = some (.type "function")
  nf_WrongLength_length : PySem.W.findIn K (.ref A.C_WrongLength) "length" = some none
  xf_WrongLength : XfC K A.C_WrongLength
  ex_WrongLength : ExcC K A.C_WrongLength
  ox_RepeatedHour : OexC K A.C_RepeatedHour
  ni_RepeatedHour : PySem.W.findIn K (.ref A.C_RepeatedHour) "__init__" = some (some (.ref A.f_RepeatedHour_init))
  ti_RepeatedHour : PySem.W.typeIn K (.ref A.f_RepeatedHour_init) = some (.type "function")
  nf_RepeatedHour_hour : PySem.W.findIn K (.ref A.C_RepeatedHour) "hour" = some none
  xf_RepeatedHour : XfC K A.C_RepeatedHour
  ex_RepeatedHour : ExcC K A.C_RepeatedHour
  xP_ZeroUnder : PySem.W.excIn K A.C_ZeroUnder [.type "ValueError", .type "Exception", .type "BaseException", .type "object"] "ValueError.__new__" = true
  kP_ZeroUnder : PySem.W.keepIn K (.ref A.C_ZeroUnder) = true
  bP_ZeroUnder : PySem.W.subIn K (.ref A.C_ZeroUnder) (.type "BaseException") = some true
  tP_ZeroUnder : PySem.W.typeIn K (.ref A.C_ZeroUnder) = some (.type "type")
  ex_ZeroUnder : ExcC K A.C_ZeroUnder
  xP_OtherHours : PySem.W.excIn K A.C_OtherHours [.type "ValueError", .type "Exception", .type "BaseException", .type "object"] "ValueError.__new__" = true
  kP_OtherHours : PySem.W.keepIn K (.ref A.C_OtherHours) = true
  bP_OtherHours : PySem.W.subIn K (.ref A.C_OtherHours) (.type "BaseException") = some true
  tP_OtherHours : PySem.W.typeIn K (.ref A.C_OtherHours) = some (.type "type")
  ex_OtherHours : ExcC K A.C_OtherHours
  xm_WrongLength_WrongLength : PySem.W.exmOne K (.ref A.C_WrongLength) (.ref A.C_WrongLength) = some true
  xm_OtherHours_WrongLength : PySem.W.exmOne K (.ref A.C_OtherHours) (.ref A.C_WrongLength) = some false
  xm_OtherHours_OtherHours : PySem.W.exmOne K (.ref A.C_OtherHours) (.ref A.C_OtherHours) = some true
  xm_OtherHours_WatchError : PySem.W.exmOne K (.ref A.C_OtherHours) (.ref A.C_WatchError) = some true
  kit_OtherHours_ValueError : PySem.W.kitOne K (.ref A.C_OtherHours) (.type "ValueError") = some true
  kit_OtherHours_WrongLength : PySem.W.kitOne K (.ref A.C_OtherHours) (.ref A.C_WrongLength) = some false
  kit_Ratio_int : PySem.W.kitOne K (.ref A.C_Ratio) (.type "int") = some false
  kit_Ratio_Ratio : PySem.W.kitOne K (.ref A.C_Ratio) (.ref A.C_Ratio) = some true
  cl_House : Cls K A.C_House
  mk_House : Mk K A.C_House A.f_House_init
  na_House_hours : NoAttr K A.C_House "hours"
  na_House_names : NoAttr K A.C_House "names"
  na_House_stakes : NoAttr K A.C_House "stakes"
  ty_House : ∀ (H : Hp) (a dx : Addr) (fs : List (Str × V)), H a = some (.ins A.C_House dx fs) → TyX K H (.ref a) (.ref A.C_House)
  rd_House : ∃ mc, ClX.CRead K A.C_House mc ∧ (∃ t, ClX.CVal K A.C_House mc "MOST_HOURS" (.int 24) (.int 24 t)) ∧ (∃ t, ClX.CVal K A.C_House mc "MOST_GATES" (.int 4) (.int 4 t)) ∧ (∃ t, ClX.CVal K A.C_House mc "MOST_CELLS" (.int 48) (.int 48 t)) ∧ (∃ t, ClX.CVal K A.C_House mc "MOST_STAKE" (.int 60) (.int 60 t))
  cl_Watch : Cls K A.C_Watch
  mk_Watch : Mk K A.C_Watch A.f_Watch_init
  na_Watch_house : NoAttr K A.C_Watch "house"
  na_Watch_rows : NoAttr K A.C_Watch "_rows"
  ty_Watch : ∀ (H : Hp) (a dx : Addr) (fs : List (Str × V)), H a = some (.ins A.C_Watch dx fs) → TyX K H (.ref a) (.ref A.C_Watch)
  rd_Watch : ∃ mc, ClX.CRead K A.C_Watch mc ∧ (∃ t, ClX.CVal K A.C_Watch mc "MOST" (.int 96) (.int 96 t))
  cl_Lot : Cls K A.C_Lot
  mk_Lot : Mk K A.C_Lot A.f_Lot_init
  na_Lot_hours : NoAttr K A.C_Lot "hours"
  na_Lot_members : NoAttr K A.C_Lot "_members"
  ne_Lot : NeOf K A.C_Lot
  ty_Lot : ∀ (H : Hp) (a dx : Addr) (fs : List (Str × V)), H a = some (.ins A.C_Lot dx fs) → TyX K H (.ref a) (.ref A.C_Lot)
  rd_Lot : ∃ mc, ClX.CRead K A.C_Lot mc ∧ (∃ t, ClX.CVal K A.C_Lot mc "MOST" (.int 360) (.int 360 t))
  cl_Ratio : Cls K A.C_Ratio
  mk_Ratio : Mk K A.C_Ratio A.f_Ratio_init
  na_Ratio_top : NoAttr K A.C_Ratio "top"
  na_Ratio_under : NoAttr K A.C_Ratio "under"
  op_Ratio : Ops K A.C_Ratio
  D_Ratio_add : Meth K A.C_Ratio (PySem.dunder "add") A.f_Ratio_add
  D_Ratio_mul : Meth K A.C_Ratio (PySem.dunder "mul") A.f_Ratio_mul
  li_Ratio : PySem.W.subIn K (.ref A.C_Ratio) (.type "int") = some false
  I_Ratio_mul : IntOp K A.C_Ratio "mul"
  ty_Ratio : ∀ (H : Hp) (a dx : Addr) (fs : List (Str × V)), H a = some (.ins A.C_Ratio dx fs) → TyX K H (.ref a) (.ref A.C_Ratio)
  P_Lot_members : PropOf K A.C_Lot "members" A.p_Lot_members A.f_Lot_members
  M_Lot_len : Meth K A.C_Lot "__len__" A.f_Lot_len
  M_Lot_iter : Meth K A.C_Lot "__iter__" A.f_Lot_iter
  M_Lot_contains : Meth K A.C_Lot "__contains__" A.f_Lot_contains
  M_Lot_eq : Meth K A.C_Lot "__eq__" A.f_Lot_eq
  M_Lot_invert : Meth K A.C_Lot "__invert__" A.f_Lot_invert
  M_House_len : Meth K A.C_House "__len__" A.f_House_len
  CM_Watch_of_lots : ∃ mc, ClX.CRead K A.C_Watch mc ∧ ClX.CMet K A.C_Watch mc "of_lots" A.p_Watch_of_lots A.f_Watch_of_lots
  M_Ratio_add : Meth K A.C_Ratio "__add__" A.f_Ratio_add
  M_Ratio_mul : Meth K A.C_Ratio "__mul__" A.f_Ratio_mul
  M_Ratio_lt : Meth K A.C_Ratio "__lt__" A.f_Ratio_lt
  M_Ratio_gt : Meth K A.C_Ratio "__gt__" A.f_Ratio_gt
section
variable {P : Program} {w : World} {K : PySem.W.Frag} {mg : Str → Option Value} {base : Heap} {A : Ads}
theorem sc_BadNumber_init : FnScope N_BadNumber_init (["self", "name", "value"] : List Str) (defScope s_BadNumber_init) := ⟨rfl, rfl, rfl, by decide +kernel, rfl, by decide +kernel, by decide +kernel⟩
theorem ln0 {us : List Value} (h : us.length = 0) : us = [] := List.length_eq_zero_iff.mp h
theorem ln1 {us : List Value} (h : us.length = 1) : ∃ a0, us = [a0] := by
  cases us with
  | nil => cases h
  | cons a us =>
    obtain rfl := ln0 (us := us) (Nat.succ.inj h)
    exact ⟨a, rfl⟩
theorem ln2 {us : List Value} (h : us.length = 2) : ∃ a0 a1, us = [a0, a1] := by
  cases us with
  | nil => cases h
  | cons a us =>
    obtain ⟨a1, rfl⟩ := ln1 (us := us) (Nat.succ.inj h)
    exact ⟨a, a1, rfl⟩
theorem ln3 {us : List Value} (h : us.length = 3) : ∃ a0 a1 a2, us = [a0, a1, a2] := by
  cases us with
  | nil => cases h
  | cons a us =>
    obtain ⟨a1, a2, rfl⟩ := ln2 (us := us) (Nat.succ.inj h)
    exact ⟨a, a1, a2, rfl⟩
theorem b_BadNumber_init (T : Txt K mg A) : Binds K A.d_BadNumber_init (["self", "name", "value"] : List Str) [] := T.F_BadNumber_init.binds (ps := (["self", "name", "value"] : List Str)) fun _ _ _ _ _ _ us hl => by
  obtain ⟨_, _, _, rfl⟩ := ln3 (us := us) hl
  rfl
theorem sc_TooMany_init : FnScope N_TooMany_init (["self", "name", "most"] : List Str) (defScope s_TooMany_init) := ⟨rfl, rfl, rfl, by decide +kernel, rfl, by decide +kernel, by decide +kernel⟩
theorem b_TooMany_init (T : Txt K mg A) : Binds K A.d_TooMany_init (["self", "name", "most"] : List Str) [] := T.F_TooMany_init.binds (ps := (["self", "name", "most"] : List Str)) fun _ _ _ _ _ _ us hl => by
  obtain ⟨_, _, _, rfl⟩ := ln3 (us := us) hl
  rfl
theorem sc_RepeatedHour_init : FnScope N_RepeatedHour_init (["self", "hour"] : List Str) (defScope s_RepeatedHour_init) := ⟨rfl, rfl, rfl, by decide +kernel, rfl, by decide +kernel, by decide +kernel⟩
theorem b_RepeatedHour_init (T : Txt K mg A) : Binds K A.d_RepeatedHour_init (["self", "hour"] : List Str) [] := T.F_RepeatedHour_init.binds (ps := (["self", "hour"] : List Str)) fun _ _ _ _ _ _ us hl => by
  obtain ⟨_, _, rfl⟩ := ln2 (us := us) hl
  rfl
theorem sc_WrongLength_init : FnScope N_WrongLength_init (["self", "length"] : List Str) (defScope s_WrongLength_init) := ⟨rfl, rfl, rfl, by decide +kernel, rfl, by decide +kernel, by decide +kernel⟩
theorem b_WrongLength_init (T : Txt K mg A) : Binds K A.d_WrongLength_init (["self", "length"] : List Str) [] := T.F_WrongLength_init.binds (ps := (["self", "length"] : List Str)) fun _ _ _ _ _ _ us hl => by
  obtain ⟨_, _, rfl⟩ := ln2 (us := us) hl
  rfl
theorem sc_BadName_init : FnScope N_BadName_init (["self", "name"] : List Str) (defScope s_BadName_init) := ⟨rfl, rfl, rfl, by decide +kernel, rfl, by decide +kernel, by decide +kernel⟩
theorem b_BadName_init (T : Txt K mg A) : Binds K A.d_BadName_init (["self", "name"] : List Str) [] := T.F_BadName_init.binds (ps := (["self", "name"] : List Str)) fun _ _ _ _ _ _ us hl => by
  obtain ⟨_, _, rfl⟩ := ln2 (us := us) hl
  rfl
theorem sc_RepeatedName_init : FnScope N_RepeatedName_init (["self", "name"] : List Str) (defScope s_RepeatedName_init) := ⟨rfl, rfl, rfl, by decide +kernel, rfl, by decide +kernel, by decide +kernel⟩
theorem b_RepeatedName_init (T : Txt K mg A) : Binds K A.d_RepeatedName_init (["self", "name"] : List Str) [] := T.F_RepeatedName_init.binds (ps := (["self", "name"] : List Str)) fun _ _ _ _ _ _ us hl => by
  obtain ⟨_, _, rfl⟩ := ln2 (us := us) hl
  rfl
theorem sc_Lot_init : FnScope N_Lot_init (["self", "hours", "members"] : List Str) (defScope s_Lot_init) := ⟨rfl, rfl, rfl, by decide +kernel, rfl, by decide +kernel, by decide +kernel⟩
theorem b_Lot_init (T : Txt K mg A) : Binds K A.d_Lot_init (["self", "hours", "members"] : List Str) [] := T.F_Lot_init.binds (ps := (["self", "hours", "members"] : List Str)) fun _ _ _ _ _ _ us hl => by
  obtain ⟨_, _, _, rfl⟩ := ln3 (us := us) hl
  rfl
theorem sc_Lot_members : FnScope N_Lot_members (["self"] : List Str) (defScope s_Lot_members) := ⟨rfl, rfl, rfl, by decide +kernel, rfl, by decide +kernel, by decide +kernel⟩
theorem b_Lot_members (T : Txt K mg A) : Binds K A.d_Lot_members (["self"] : List Str) [] := T.F_Lot_members.binds (ps := (["self"] : List Str)) fun _ _ _ _ _ _ us hl => by
  obtain ⟨_, rfl⟩ := ln1 (us := us) hl
  rfl
theorem sc_Lot_len : FnScope N_Lot_len (["self"] : List Str) (defScope s_Lot_len) := ⟨rfl, rfl, rfl, by decide +kernel, rfl, by decide +kernel, by decide +kernel⟩
theorem b_Lot_len (T : Txt K mg A) : Binds K A.d_Lot_len (["self"] : List Str) [] := T.F_Lot_len.binds (ps := (["self"] : List Str)) fun _ _ _ _ _ _ us hl => by
  obtain ⟨_, rfl⟩ := ln1 (us := us) hl
  rfl
theorem sc_Lot_iter : FnScope N_Lot_iter (["self"] : List Str) (defScope s_Lot_iter) := ⟨rfl, rfl, rfl, by decide +kernel, rfl, by decide +kernel, by decide +kernel⟩
theorem b_Lot_iter (T : Txt K mg A) : Binds K A.d_Lot_iter (["self"] : List Str) [] := T.F_Lot_iter.binds (ps := (["self"] : List Str)) fun _ _ _ _ _ _ us hl => by
  obtain ⟨_, rfl⟩ := ln1 (us := us) hl
  rfl
theorem sc_Lot_contains : FnScope N_Lot_contains (["self", "x"] : List Str) (defScope s_Lot_contains) := ⟨rfl, rfl, rfl, by decide +kernel, rfl, by decide +kernel, by decide +kernel⟩
theorem b_Lot_contains (T : Txt K mg A) : Binds K A.d_Lot_contains (["self", "x"] : List Str) [] := T.F_Lot_contains.binds (ps := (["self", "x"] : List Str)) fun _ _ _ _ _ _ us hl => by
  obtain ⟨_, _, rfl⟩ := ln2 (us := us) hl
  rfl
theorem sc_Lot_eq : FnScope N_Lot_eq (["self", "other"] : List Str) (defScope s_Lot_eq) := ⟨rfl, rfl, rfl, by decide +kernel, rfl, by decide +kernel, by decide +kernel⟩
theorem b_Lot_eq (T : Txt K mg A) : Binds K A.d_Lot_eq (["self", "other"] : List Str) [] := T.F_Lot_eq.binds (ps := (["self", "other"] : List Str)) fun _ _ _ _ _ _ us hl => by
  obtain ⟨_, _, rfl⟩ := ln2 (us := us) hl
  rfl
theorem sc_Lot_invert : FnScope N_Lot_invert (["self"] : List Str) (defScope s_Lot_invert) := ⟨rfl, rfl, rfl, by decide +kernel, rfl, by decide +kernel, by decide +kernel⟩
theorem b_Lot_invert (T : Txt K mg A) : Binds K A.d_Lot_invert (["self"] : List Str) [] := T.F_Lot_invert.binds (ps := (["self"] : List Str)) fun _ _ _ _ _ _ us hl => by
  obtain ⟨_, rfl⟩ := ln1 (us := us) hl
  rfl
theorem sc_check_name : FnScope N_check_name (["name"] : List Str) (defScope s_check_name) := ⟨rfl, rfl, rfl, by decide +kernel, rfl, by decide +kernel, by decide +kernel⟩
theorem b_check_name (T : Txt K mg A) : Binds K A.d_check_name (["name"] : List Str) [] := T.F_check_name.binds (ps := (["name"] : List Str)) fun _ _ _ _ _ _ us hl => by
  obtain ⟨_, rfl⟩ := ln1 (us := us) hl
  rfl
theorem sc_check_new_name : FnScope N_check_new_name (["name", "names"] : List Str) (defScope s_check_new_name) := ⟨rfl, rfl, rfl, by decide +kernel, rfl, by decide +kernel, by decide +kernel⟩
theorem b_check_new_name (T : Txt K mg A) : Binds K A.d_check_new_name (["name", "names"] : List Str) [] := T.F_check_new_name.binds (ps := (["name", "names"] : List Str)) fun _ _ _ _ _ _ us hl => by
  obtain ⟨_, _, rfl⟩ := ln2 (us := us) hl
  rfl
theorem sc_House_init : FnScope N_House_init (["self", "hours", "gates"] : List Str) (defScope s_House_init) := ⟨rfl, rfl, rfl, by decide +kernel, rfl, by decide +kernel, by decide +kernel⟩
theorem b_House_init (T : Txt K mg A) : Binds K A.d_House_init (["self", "hours", "gates"] : List Str) [] := T.F_House_init.binds (ps := (["self", "hours", "gates"] : List Str)) fun _ _ _ _ _ _ us hl => by
  obtain ⟨_, _, _, rfl⟩ := ln3 (us := us) hl
  rfl
theorem sc_House_len : FnScope N_House_len (["self"] : List Str) (defScope s_House_len) := ⟨rfl, rfl, rfl, by decide +kernel, rfl, by decide +kernel, by decide +kernel⟩
theorem b_House_len (T : Txt K mg A) : Binds K A.d_House_len (["self"] : List Str) [] := T.F_House_len.binds (ps := (["self"] : List Str)) fun _ _ _ _ _ _ us hl => by
  obtain ⟨_, rfl⟩ := ln1 (us := us) hl
  rfl
theorem sc_u_check_row : FnScope N_u_check_row (["house", "row"] : List Str) (defScope s_u_check_row) := ⟨rfl, rfl, rfl, by decide +kernel, rfl, by decide +kernel, by decide +kernel⟩
theorem b_u_check_row (T : Txt K mg A) : Binds K A.d_u_check_row (["house", "row"] : List Str) [] := T.F_u_check_row.binds (ps := (["house", "row"] : List Str)) fun _ _ _ _ _ _ us hl => by
  obtain ⟨_, _, rfl⟩ := ln2 (us := us) hl
  rfl
theorem sc_Watch_init : FnScope N_Watch_init (["self", "house", "rows"] : List Str) (defScope s_Watch_init) := ⟨rfl, rfl, rfl, by decide +kernel, rfl, by decide +kernel, by decide +kernel⟩
theorem b_Watch_init (T : Txt K mg A) : Binds K A.d_Watch_init (["self", "house", "rows"] : List Str) [] := T.F_Watch_init.binds (ps := (["self", "house", "rows"] : List Str)) fun _ _ _ _ _ _ us hl => by
  obtain ⟨_, _, _, rfl⟩ := ln3 (us := us) hl
  rfl
theorem sc_Watch_of_lots : FnScope N_Watch_of_lots (["cls", "house", "lots"] : List Str) (defScope s_Watch_of_lots) := ⟨rfl, rfl, rfl, by decide +kernel, rfl, by decide +kernel, by decide +kernel⟩
theorem b_Watch_of_lots (T : Txt K mg A) : Binds K A.d_Watch_of_lots (["cls", "house", "lots"] : List Str) [] := T.F_Watch_of_lots.binds (ps := (["cls", "house", "lots"] : List Str)) fun _ _ _ _ _ _ us hl => by
  obtain ⟨_, _, _, rfl⟩ := ln3 (us := us) hl
  rfl
theorem sc_Ratio_init : FnScope N_Ratio_init (["self", "top", "under"] : List Str) (defScope s_Ratio_init) := ⟨rfl, rfl, rfl, by decide +kernel, rfl, by decide +kernel, by decide +kernel⟩
theorem bF_Ratio_init (T : Txt K mg A) : ∃ ds, Vals ([] : List V) ds ∧ Binds K A.d_Ratio_init (["self", "top", "under"] : List Str) ds := T.F_Ratio_init.binds1 (ps := (["self", "top", "under"] : List Str)) 3 1 (by simp) rfl fun _ _ _ _ _ _ _ us its hl hi => match us, its, hl, hi with | [_, _, _], [_], _, _ => ⟨_, rfl, rfl⟩
theorem b2_Ratio_init (T : Txt K mg A) : ∃ ds, Vals ([.int 1] : List V) ds ∧ Binds K A.d_Ratio_init (["self", "top", "under"] : List Str) ds := T.F_Ratio_init.binds1 (ps := (["self", "top", "under"] : List Str)) 2 0 (by simp) rfl fun _ _ _ _ _ _ _ us its hl hi => match us, its, hl, hi with | [_, _], [_], _, _ => ⟨_, rfl, rfl⟩
theorem b_Ratio_init (T : Txt K mg A) : Binds K A.d_Ratio_init (["self", "top", "under"] : List Str) [] := by
  obtain ⟨ds, hv, hb⟩ := bF_Ratio_init T
  cases hv
  exact hb
theorem sc_as_ratio : FnScope N_as_ratio (["number"] : List Str) (defScope s_as_ratio) := ⟨rfl, rfl, rfl, by decide +kernel, rfl, by decide +kernel, by decide +kernel⟩
theorem b_as_ratio (T : Txt K mg A) : Binds K A.d_as_ratio (["number"] : List Str) [] := T.F_as_ratio.binds (ps := (["number"] : List Str)) fun _ _ _ _ _ _ us hl => by
  obtain ⟨_, rfl⟩ := ln1 (us := us) hl
  rfl
theorem sc_Ratio_add : FnScope N_Ratio_add (["self", "other"] : List Str) (defScope s_Ratio_add) := ⟨rfl, rfl, rfl, by decide +kernel, rfl, by decide +kernel, by decide +kernel⟩
theorem b_Ratio_add (T : Txt K mg A) : Binds K A.d_Ratio_add (["self", "other"] : List Str) [] := T.F_Ratio_add.binds (ps := (["self", "other"] : List Str)) fun _ _ _ _ _ _ us hl => by
  obtain ⟨_, _, rfl⟩ := ln2 (us := us) hl
  rfl
theorem sc_Ratio_mul : FnScope N_Ratio_mul (["self", "other"] : List Str) (defScope s_Ratio_mul) := ⟨rfl, rfl, rfl, by decide +kernel, rfl, by decide +kernel, by decide +kernel⟩
theorem b_Ratio_mul (T : Txt K mg A) : Binds K A.d_Ratio_mul (["self", "other"] : List Str) [] := T.F_Ratio_mul.binds (ps := (["self", "other"] : List Str)) fun _ _ _ _ _ _ us hl => by
  obtain ⟨_, _, rfl⟩ := ln2 (us := us) hl
  rfl
theorem sc_u_lead : FnScope N_u_lead (["ratio", "number"] : List Str) (defScope s_u_lead) := ⟨rfl, rfl, rfl, by decide +kernel, rfl, by decide +kernel, by decide +kernel⟩
theorem b_u_lead (T : Txt K mg A) : Binds K A.d_u_lead (["ratio", "number"] : List Str) [] := T.F_u_lead.binds (ps := (["ratio", "number"] : List Str)) fun _ _ _ _ _ _ us hl => by
  obtain ⟨_, _, rfl⟩ := ln2 (us := us) hl
  rfl
theorem sc_Ratio_lt : FnScope N_Ratio_lt (["self", "other"] : List Str) (defScope s_Ratio_lt) := ⟨rfl, rfl, rfl, by decide +kernel, rfl, by decide +kernel, by decide +kernel⟩
theorem b_Ratio_lt (T : Txt K mg A) : Binds K A.d_Ratio_lt (["self", "other"] : List Str) [] := T.F_Ratio_lt.binds (ps := (["self", "other"] : List Str)) fun _ _ _ _ _ _ us hl => by
  obtain ⟨_, _, rfl⟩ := ln2 (us := us) hl
  rfl
theorem sc_Ratio_gt : FnScope N_Ratio_gt (["self", "other"] : List Str) (defScope s_Ratio_gt) := ⟨rfl, rfl, rfl, by decide +kernel, rfl, by decide +kernel, by decide +kernel⟩
theorem b_Ratio_gt (T : Txt K mg A) : Binds K A.d_Ratio_gt (["self", "other"] : List Str) [] := T.F_Ratio_gt.binds (ps := (["self", "other"] : List Str)) fun _ _ _ _ _ _ us hl => by
  obtain ⟨_, _, rfl⟩ := ln2 (us := us) hl
  rfl
theorem sc_greatest : FnScope N_greatest (["ratios"] : List Str) (defScope s_greatest) := ⟨rfl, rfl, rfl, by decide +kernel, rfl, by decide +kernel, by decide +kernel⟩
theorem b_greatest (T : Txt K mg A) : Binds K A.d_greatest (["ratios"] : List Str) [] := T.F_greatest.binds (ps := (["ratios"] : List Str)) fun _ _ _ _ _ _ us hl => by
  obtain ⟨_, rfl⟩ := ln1 (us := us) hl
  rfl
theorem sc_meetings : FnScope N_meetings (["one", "other"] : List Str) (defScope s_meetings) := ⟨rfl, rfl, rfl, by decide +kernel, rfl, by decide +kernel, by decide +kernel⟩
theorem b_meetings (T : Txt K mg A) : Binds K A.d_meetings (["one", "other"] : List Str) [] := T.F_meetings.binds (ps := (["one", "other"] : List Str)) fun _ _ _ _ _ _ us hl => by
  obtain ⟨_, _, rfl⟩ := ln2 (us := us) hl
  rfl
theorem sc_no_look_bound : FnScope N_no_look_bound (["house", "lots"] : List Str) (defScope s_no_look_bound) := ⟨rfl, rfl, rfl, by decide +kernel, rfl, by decide +kernel, by decide +kernel⟩
theorem b_no_look_bound (T : Txt K mg A) : Binds K A.d_no_look_bound (["house", "lots"] : List Str) [] := T.F_no_look_bound.binds (ps := (["house", "lots"] : List Str)) fun _ _ _ _ _ _ us hl => by
  obtain ⟨_, _, rfl⟩ := ln2 (us := us) hl
  rfl
theorem sc_u_means_after : FnScope N_u_means_after (["seen", "tried", "first"] : List Str) (defScope s_u_means_after) := ⟨rfl, rfl, rfl, by decide +kernel, rfl, by decide +kernel, by decide +kernel⟩
theorem b_u_means_after (T : Txt K mg A) : Binds K A.d_u_means_after (["seen", "tried", "first"] : List Str) [] := T.F_u_means_after.binds (ps := (["seen", "tried", "first"] : List Str)) fun _ _ _ _ _ _ us hl => by
  obtain ⟨_, _, _, rfl⟩ := ln3 (us := us) hl
  rfl
theorem sc_one_look_bound : FnScope N_one_look_bound (["house", "lots"] : List Str) (defScope s_one_look_bound) := ⟨rfl, rfl, rfl, by decide +kernel, rfl, by decide +kernel, by decide +kernel⟩
theorem b_one_look_bound (T : Txt K mg A) : Binds K A.d_one_look_bound (["house", "lots"] : List Str) [] := T.F_one_look_bound.binds (ps := (["house", "lots"] : List Str)) fun _ _ _ _ _ _ us hl => by
  obtain ⟨_, _, rfl⟩ := ln2 (us := us) hl
  rfl
theorem sc_u_law_cell : FnScope N_u_law_cell (["script", "k"] : List Str) (defScope s_u_law_cell) := ⟨rfl, rfl, rfl, by decide +kernel, rfl, by decide +kernel, by decide +kernel⟩
theorem b_u_law_cell (T : Txt K mg A) : Binds K A.d_u_law_cell (["script", "k"] : List Str) [] := T.F_u_law_cell.binds (ps := (["script", "k"] : List Str)) fun _ _ _ _ _ _ us hl => by
  obtain ⟨_, _, rfl⟩ := ln2 (us := us) hl
  rfl
theorem sc_u_law_draws : FnScope N_u_law_draws (["cell", "salt", "menu"] : List Str) (defScope s_u_law_draws) := ⟨rfl, rfl, rfl, by decide +kernel, rfl, by decide +kernel, by decide +kernel⟩
theorem b_u_law_draws (T : Txt K mg A) : Binds K A.d_u_law_draws (["cell", "salt", "menu"] : List Str) [] := T.F_u_law_draws.binds (ps := (["cell", "salt", "menu"] : List Str)) fun _ _ _ _ _ _ us hl => by
  obtain ⟨_, _, _, rfl⟩ := ln3 (us := us) hl
  rfl
theorem sc_u_law_two : FnScope N_u_law_two (["n"] : List Str) (defScope s_u_law_two) := ⟨rfl, rfl, rfl, by decide +kernel, rfl, by decide +kernel, by decide +kernel⟩
theorem b_u_law_two (T : Txt K mg A) : Binds K A.d_u_law_two (["n"] : List Str) [] := T.F_u_law_two.binds (ps := (["n"] : List Str)) fun _ _ _ _ _ _ us hl => by
  obtain ⟨_, rfl⟩ := ln1 (us := us) hl
  rfl
theorem sc_u_law_bits : FnScope N_u_law_bits (["n", "number"] : List Str) (defScope s_u_law_bits) := ⟨rfl, rfl, rfl, by decide +kernel, rfl, by decide +kernel, by decide +kernel⟩
theorem b_u_law_bits (T : Txt K mg A) : Binds K A.d_u_law_bits (["n", "number"] : List Str) [] := T.F_u_law_bits.binds (ps := (["n", "number"] : List Str)) fun _ _ _ _ _ _ us hl => by
  obtain ⟨_, _, rfl⟩ := ln2 (us := us) hl
  rfl
theorem sc_u_law_name : FnScope N_u_law_name (["number"] : List Str) (defScope s_u_law_name) := ⟨rfl, rfl, rfl, by decide +kernel, rfl, by decide +kernel, by decide +kernel⟩
theorem b_u_law_name (T : Txt K mg A) : Binds K A.d_u_law_name (["number"] : List Str) [] := T.F_u_law_name.binds (ps := (["number"] : List Str)) fun _ _ _ _ _ _ us hl => by
  obtain ⟨_, rfl⟩ := ln1 (us := us) hl
  rfl
theorem sc_u_law_names : FnScope N_u_law_names (["numbers"] : List Str) (defScope s_u_law_names) := ⟨rfl, rfl, rfl, by decide +kernel, rfl, by decide +kernel, by decide +kernel⟩
theorem b_u_law_names (T : Txt K mg A) : Binds K A.d_u_law_names (["numbers"] : List Str) [] := T.F_u_law_names.binds (ps := (["numbers"] : List Str)) fun _ _ _ _ _ _ us hl => by
  obtain ⟨_, rfl⟩ := ln1 (us := us) hl
  rfl
theorem sc_u_law_gates : FnScope N_u_law_gates (["numbers", "stakes"] : List Str) (defScope s_u_law_gates) := ⟨rfl, rfl, rfl, by decide +kernel, rfl, by decide +kernel, by decide +kernel⟩
theorem b_u_law_gates (T : Txt K mg A) : Binds K A.d_u_law_gates (["numbers", "stakes"] : List Str) [] := T.F_u_law_gates.binds (ps := (["numbers", "stakes"] : List Str)) fun _ _ _ _ _ _ us hl => by
  obtain ⟨_, _, rfl⟩ := ln2 (us := us) hl
  rfl
theorem sc_u_law_gcd : FnScope N_u_law_gcd (["a", "b"] : List Str) (defScope s_u_law_gcd) := ⟨rfl, rfl, rfl, by decide +kernel, rfl, by decide +kernel, by decide +kernel⟩
theorem b_u_law_gcd (T : Txt K mg A) : Binds K A.d_u_law_gcd (["a", "b"] : List Str) [] := T.F_u_law_gcd.binds (ps := (["a", "b"] : List Str)) fun _ _ _ _ _ _ us hl => by
  obtain ⟨_, _, rfl⟩ := ln2 (us := us) hl
  rfl
theorem sc_u_law_is_int : FnScope N_u_law_is_int (["x"] : List Str) (defScope s_u_law_is_int) := ⟨rfl, rfl, rfl, by decide +kernel, rfl, by decide +kernel, by decide +kernel⟩
theorem b_u_law_is_int (T : Txt K mg A) : Binds K A.d_u_law_is_int (["x"] : List Str) [] := T.F_u_law_is_int.binds (ps := (["x"] : List Str)) fun _ _ _ _ _ _ us hl => by
  obtain ⟨_, rfl⟩ := ln1 (us := us) hl
  rfl
theorem sc_u_law_is_ratio : FnScope N_u_law_is_ratio (["x"] : List Str) (defScope s_u_law_is_ratio) := ⟨rfl, rfl, rfl, by decide +kernel, rfl, by decide +kernel, by decide +kernel⟩
theorem b_u_law_is_ratio (T : Txt K mg A) : Binds K A.d_u_law_is_ratio (["x"] : List Str) [] := T.F_u_law_is_ratio.binds (ps := (["x"] : List Str)) fun _ _ _ _ _ _ us hl => by
  obtain ⟨_, rfl⟩ := ln1 (us := us) hl
  rfl
theorem sc_u_law_worth : FnScope N_u_law_worth (["x", "top", "under"] : List Str) (defScope s_u_law_worth) := ⟨rfl, rfl, rfl, by decide +kernel, rfl, by decide +kernel, by decide +kernel⟩
theorem b_u_law_worth (T : Txt K mg A) : Binds K A.d_u_law_worth (["x", "top", "under"] : List Str) [] := T.F_u_law_worth.binds (ps := (["x", "top", "under"] : List Str)) fun _ _ _ _ _ _ us hl => by
  obtain ⟨_, _, _, rfl⟩ := ln3 (us := us) hl
  rfl
theorem sc_u_law_same : FnScope N_u_law_same (["got", "due"] : List Str) (defScope s_u_law_same) := ⟨rfl, rfl, rfl, by decide +kernel, rfl, by decide +kernel, by decide +kernel⟩
theorem b_u_law_same (T : Txt K mg A) : Binds K A.d_u_law_same (["got", "due"] : List Str) [] := T.F_u_law_same.binds (ps := (["got", "due"] : List Str)) fun _ _ _ _ _ _ us hl => by
  obtain ⟨_, _, rfl⟩ := ln2 (us := us) hl
  rfl
theorem sc_u_law_greater : FnScope N_u_law_greater (["one", "other"] : List Str) (defScope s_u_law_greater) := ⟨rfl, rfl, rfl, by decide +kernel, rfl, by decide +kernel, by decide +kernel⟩
theorem b_u_law_greater (T : Txt K mg A) : Binds K A.d_u_law_greater (["one", "other"] : List Str) [] := T.F_u_law_greater.binds (ps := (["one", "other"] : List Str)) fun _ _ _ _ _ _ us hl => by
  obtain ⟨_, _, rfl⟩ := ln2 (us := us) hl
  rfl
theorem sc_u_law_no_look : FnScope N_u_law_no_look (["stakes", "sets", "n"] : List Str) (defScope s_u_law_no_look) := ⟨rfl, rfl, rfl, by decide +kernel, rfl, by decide +kernel, by decide +kernel⟩
theorem b_u_law_no_look (T : Txt K mg A) : Binds K A.d_u_law_no_look (["stakes", "sets", "n"] : List Str) [] := T.F_u_law_no_look.binds (ps := (["stakes", "sets", "n"] : List Str)) fun _ _ _ _ _ _ us hl => by
  obtain ⟨_, _, _, rfl⟩ := ln3 (us := us) hl
  rfl
theorem sc_u_law_one_look : FnScope N_u_law_one_look (["stakes", "sets", "n"] : List Str) (defScope s_u_law_one_look) := ⟨rfl, rfl, rfl, by decide +kernel, rfl, by decide +kernel, by decide +kernel⟩
theorem b_u_law_one_look (T : Txt K mg A) : Binds K A.d_u_law_one_look (["stakes", "sets", "n"] : List Str) [] := T.F_u_law_one_look.binds (ps := (["stakes", "sets", "n"] : List Str)) fun _ _ _ _ _ _ us hl => by
  obtain ⟨_, _, _, rfl⟩ := ln3 (us := us) hl
  rfl
theorem sc_u_law_told : FnScope N_u_law_told (["house", "lots", "stakes", "sets"] : List Str) (defScope s_u_law_told) := ⟨rfl, rfl, rfl, by decide +kernel, rfl, by decide +kernel, by decide +kernel⟩
theorem ln4 {us : List Value} (h : us.length = 4) : ∃ a0 a1 a2 a3, us = [a0, a1, a2, a3] := by
  cases us with
  | nil => cases h
  | cons a us =>
    obtain ⟨a1, a2, a3, rfl⟩ := ln3 (us := us) (Nat.succ.inj h)
    exact ⟨a, a1, a2, a3, rfl⟩
theorem b_u_law_told (T : Txt K mg A) : Binds K A.d_u_law_told (["house", "lots", "stakes", "sets"] : List Str) [] := T.F_u_law_told.binds (ps := (["house", "lots", "stakes", "sets"] : List Str)) fun _ _ _ _ _ _ us hl => by
  obtain ⟨_, _, _, _, rfl⟩ := ln4 (us := us) hl
  rfl
theorem sc_u_law_refused : FnScope N_u_law_refused (["house", "lots", "looked"] : List Str) (defScope s_u_law_refused) := ⟨rfl, rfl, rfl, by decide +kernel, rfl, by decide +kernel, by decide +kernel⟩
theorem b_u_law_refused (T : Txt K mg A) : Binds K A.d_u_law_refused (["house", "lots", "looked"] : List Str) [] := T.F_u_law_refused.binds (ps := (["house", "lots", "looked"] : List Str)) fun _ _ _ _ _ _ us hl => by
  obtain ⟨_, _, _, rfl⟩ := ln3 (us := us) hl
  rfl
theorem sc_u_law_refused_by_base : FnScope N_u_law_refused_by_base (["house", "lots"] : List Str) (defScope s_u_law_refused_by_base) := ⟨rfl, rfl, rfl, by decide +kernel, rfl, by decide +kernel, by decide +kernel⟩
theorem b_u_law_refused_by_base (T : Txt K mg A) : Binds K A.d_u_law_refused_by_base (["house", "lots"] : List Str) [] := T.F_u_law_refused_by_base.binds (ps := (["house", "lots"] : List Str)) fun _ _ _ _ _ _ us hl => by
  obtain ⟨_, _, rfl⟩ := ln2 (us := us) hl
  rfl
theorem sc_u_law_faults : FnScope N_u_law_faults (["house", "lots", "at", "wide"] : List Str) (defScope s_u_law_faults) := ⟨rfl, rfl, rfl, by decide +kernel, rfl, by decide +kernel, by decide +kernel⟩
theorem b_u_law_faults (T : Txt K mg A) : Binds K A.d_u_law_faults (["house", "lots", "at", "wide"] : List Str) [] := T.F_u_law_faults.binds (ps := (["house", "lots", "at", "wide"] : List Str)) fun _ _ _ _ _ _ us hl => by
  obtain ⟨_, _, _, _, rfl⟩ := ln4 (us := us) hl
  rfl
theorem sc_u_law_sets : FnScope N_u_law_sets (["script", "gates", "n"] : List Str) (defScope s_u_law_sets) := ⟨rfl, rfl, rfl, by decide +kernel, rfl, by decide +kernel, by decide +kernel⟩
theorem b_u_law_sets (T : Txt K mg A) : Binds K A.d_u_law_sets (["script", "gates", "n"] : List Str) [] := T.F_u_law_sets.binds (ps := (["script", "gates", "n"] : List Str)) fun _ _ _ _ _ _ us hl => by
  obtain ⟨_, _, _, rfl⟩ := ln3 (us := us) hl
  rfl
theorem sc_law : FnScope N_law (["script"] : List Str) (defScope s_law) := ⟨rfl, rfl, rfl, by decide +kernel, rfl, by decide +kernel, by decide +kernel⟩
theorem b_law (T : Txt K mg A) : Binds K A.d_law (["script"] : List Str) [] := T.F_law.binds (ps := (["script"] : List Str)) fun _ _ _ _ _ _ us hl => by
  obtain ⟨_, rfl⟩ := ln1 (us := us) hl
  rfl
theorem ok_BadNumber_init (T : Txt K mg A) : FnOk P w K mg base CX0 1 A.f_BadNumber_init A.d_BadNumber_init (["self", "name", "value"] : List Str) (spErr2 K A.C_BadNumber "name" "value") := by
  refine T.F_BadNumber_init.ok sc_BadNumber_init (fun vs H Q E h => ?_) (fun cdv Ar outer s H vs Q E hr h => ?_)
  · obtain ⟨a, x, y, rfl, _⟩ := h
    rfl
  · obtain ⟨a, x, y, rfl, hC, ha, k⟩ := h
    refine ⟨_, (pss_cons (ps_ost (pv 0) (pv 1))
        (pss_one (ps_ost (pv 0) (pv 2)))), ?_⟩
    refine ⟨_, rfl, _, rfl, a, _, rfl, hC, T.nf_BadNumber_name, .inl ⟨ha, fun d hd hne => ?_⟩⟩
    refine ⟨_, rfl, _, rfl, a, _, rfl, hC, T.nf_BadNumber_value, .inr ⟨d, _, upd_same, ?_, by show (1 : Nat) ≤ 900; decide, k d hd hne⟩⟩
    rw [upd_ne hne, upd_same]
theorem ok_TooMany_init (T : Txt K mg A) : FnOk P w K mg base CX0 1 A.f_TooMany_init A.d_TooMany_init (["self", "name", "most"] : List Str) (spErr2 K A.C_TooMany "name" "most") := by
  refine T.F_TooMany_init.ok sc_TooMany_init (fun vs H Q E h => ?_) (fun cdv Ar outer s H vs Q E hr h => ?_)
  · obtain ⟨a, x, y, rfl, _⟩ := h
    rfl
  · obtain ⟨a, x, y, rfl, hC, ha, k⟩ := h
    refine ⟨_, (pss_cons (ps_ost (pv 0) (pv 1))
        (pss_one (ps_ost (pv 0) (pv 2)))), ?_⟩
    refine ⟨_, rfl, _, rfl, a, _, rfl, hC, T.nf_TooMany_name, .inl ⟨ha, fun d hd hne => ?_⟩⟩
    refine ⟨_, rfl, _, rfl, a, _, rfl, hC, T.nf_TooMany_most, .inr ⟨d, _, upd_same, ?_, by show (1 : Nat) ≤ 900; decide, k d hd hne⟩⟩
    rw [upd_ne hne, upd_same]
theorem ok_RepeatedHour_init (T : Txt K mg A) : FnOk P w K mg base CX0 1 A.f_RepeatedHour_init A.d_RepeatedHour_init (["self", "hour"] : List Str) (spErr1 K A.C_RepeatedHour "hour") := by
  refine T.F_RepeatedHour_init.ok sc_RepeatedHour_init (fun vs H Q E h => ?_) (fun cdv Ar outer s H vs Q E hr h => ?_)
  · obtain ⟨a, x, rfl, _⟩ := h
    rfl
  · obtain ⟨a, x, rfl, hC, ha, k⟩ := h
    refine ⟨_, (pss_one (ps_ost (pv 0) (pv 1))), ?_⟩
    exact ⟨_, rfl, _, rfl, a, _, rfl, hC, T.nf_RepeatedHour_hour, .inl ⟨ha, fun d hd hne => k d hd hne⟩⟩
theorem ok_WrongLength_init (T : Txt K mg A) : FnOk P w K mg base CX0 1 A.f_WrongLength_init A.d_WrongLength_init (["self", "length"] : List Str) (spErr1 K A.C_WrongLength "length") := by
  refine T.F_WrongLength_init.ok sc_WrongLength_init (fun vs H Q E h => ?_) (fun cdv Ar outer s H vs Q E hr h => ?_)
  · obtain ⟨a, x, rfl, _⟩ := h
    rfl
  · obtain ⟨a, x, rfl, hC, ha, k⟩ := h
    refine ⟨_, (pss_one (ps_ost (pv 0) (pv 1))), ?_⟩
    exact ⟨_, rfl, _, rfl, a, _, rfl, hC, T.nf_WrongLength_length, .inl ⟨ha, fun d hd hne => k d hd hne⟩⟩
theorem ok_BadName_init (T : Txt K mg A) : FnOk P w K mg base CX0 1 A.f_BadName_init A.d_BadName_init (["self", "name"] : List Str) (spErr1 K A.C_BadName "name") := by
  refine T.F_BadName_init.ok sc_BadName_init (fun vs H Q E h => ?_) (fun cdv Ar outer s H vs Q E hr h => ?_)
  · obtain ⟨a, x, rfl, _⟩ := h
    rfl
  · obtain ⟨a, x, rfl, hC, ha, k⟩ := h
    refine ⟨_, (pss_one (ps_ost (pv 0) (pv 1))), ?_⟩
    exact ⟨_, rfl, _, rfl, a, _, rfl, hC, T.nf_BadName_name, .inl ⟨ha, fun d hd hne => k d hd hne⟩⟩
theorem ok_RepeatedName_init (T : Txt K mg A) : FnOk P w K mg base CX0 1 A.f_RepeatedName_init A.d_RepeatedName_init (["self", "name"] : List Str) (spErr1 K A.C_RepeatedName "name") := by
  refine T.F_RepeatedName_init.ok sc_RepeatedName_init (fun vs H Q E h => ?_) (fun cdv Ar outer s H vs Q E hr h => ?_)
  · obtain ⟨a, x, rfl, _⟩ := h
    rfl
  · obtain ⟨a, x, rfl, hC, ha, k⟩ := h
    refine ⟨_, (pss_one (ps_ost (pv 0) (pv 1))), ?_⟩
    exact ⟨_, rfl, _, rfl, a, _, rfl, hC, T.nf_RepeatedName_name, .inl ⟨ha, fun d hd hne => k d hd hne⟩⟩

def spLotInit (K : PySem.W.Frag) (A : Ads) : Sp := fun vs H Q E => ∃ (x dx a : Addr) (n : Int) (ms : List Int), vs = [.ref x, .int n, .ref a] ∧ H x = some (.ins A.C_Lot dx []) ∧ SqL K H a (ms.map V.int) ∧
  (¬ (1 ≤ n ∧ n ≤ 360) → ∀ d H', Ex H H' → H' d = some (.xd [("value", .int n), ("name", .str "hours")]) → E (.ref A.C_BadNumber) (some d) H') ∧
  (1 ≤ n ∧ n ≤ 360 → ∀ r, scanR n [] ms = some r → ∀ d H', Ex H H' → H' d = some (.xd [("hour", .int r)]) → E (.ref A.C_RepeatedHour) (some d) H') ∧
  (1 ≤ n ∧ n ≤ 360 → scanR n [] ms = none → ∀ l H', (∀ b o, b ≠ x → H b = some o → H' b = some o) → H l = none → H' x = some (.ins A.C_Lot dx (lotF n l)) → H' l = some (.lst ((resid n (ms.map (· % n))).map V.int)) → Q .non H')
theorem ok_Lot_init (T : Txt K mg A) : FnOk P w K mg base (L2.CX P w) 4 A.f_Lot_init A.d_Lot_init (["self", "hours", "members"] : List Str) (spLotInit K A) := by
  refine T.F_Lot_init.okX sc_Lot_init (fun vs H Q E h => ?_) (fun cdv Ar outer s H vs Q E hr h => ?_)
  · obtain ⟨x, dx, a, n, ms, rfl, _⟩ := h
    rfl
  · obtain ⟨x, dx, a, n, ms, rfl, hx, hS, k1, k2, k3⟩ := h
    refine ⟨_, (pss_cons (ps_if (PW.pt (pw_or (pt_cmpR op_lt (pv 1) pe_int (nomark _)) (pw_or1 (pt_cmpR op_gt (pv 1) (ClX.pe_cval (pe_glob (v := .ref A.C_Lot) rfl T.g_Lot rfl)) (nomark _))))) (pss_one (ps_raise rfl (takes_of rfl rfl rfl rfl) (pmk_oex T.ox_BadNumber T.ni_BadNumber T.ti_BadNumber (ok_BadNumber_init T) (hr.mono (by omega)) (b_BadNumber_init T) .nil pass0 rfl T.g_BadNumber (pa_cons pe_str (pa_cons (pv 1) pa_nil))))) pss_nil)
        (pss_cons (ps_set (i := 3) sc_Lot_init.nd rfl (Or.inr rfl) (pe_op op_rep (pe_lst (pa_cons pe_bl pa_nil)) (pv 1)))
        (pss_cons (ps_for (passes_of rfl) rfl (pi_listK (pv 2)) (pg_name (i := 4) sc_Lot_init.nd rfl (Or.inl rfl)) (pss_cons (ps_if (pt_val (pe_ix ix_lK (pv 3) (pe_op op_mod (pv 4) (pv 1)) (fun _ _ => rfl))) (pss_one (ps_raise rfl (takes_of rfl rfl rfl rfl) (pmk_oex T.ox_RepeatedHour T.ni_RepeatedHour T.ti_RepeatedHour (ok_RepeatedHour_init T) (hr.mono (by omega)) (b_RepeatedHour_init T) .nil pass0 rfl T.g_RepeatedHour (pa_cons (pe_op op_mod (pv 4) (pv 1)) pa_nil)))) pss_nil)
        (pss_one (ps_asg pe_bl (pg_sub (pv 3) (pe_op op_mod (pv 4) (pv 1)) set_list)))))
        (pss_cons (ps_fld (pv 0) (pv 1) rfl)
        (pss_one (ps_fld (pv 0) (pe_lc (own := [("hour", 5)]) (g := gName 5) rfl sc_Lot_init.nd (pi_range1 rfl T.z_range (pa_cons (pv 1) pa_nil)) (blkOk_by (own := [("hour", 5)]) (N := N_Lot_init) (sc := defScope s_Lot_init) (by decide +kernel)) (fun _ _ _ _ _ => (pg_name (i := 5) sc_Lot_init.nd rfl (Or.inl rfl))) (fun _ _ _ _ _ => (pts_one (pt_val (pe_ix ix_lK (pv 3) (pv 5) (fun _ _ => rfl))))) (fun _ _ _ _ _ => (pv 5))) rfl)))))), ?_⟩
    obtain ⟨mc, rdL, tL, cvL⟩ := T.rd_Lot
    refine ⟨_, rfl, n, 1, rfl, rfl, _, rfl, ?_⟩
    by_cases hn : 1 ≤ n ∧ n ≤ 360
    case neg =>
      have fin := raise2 (C := A.C_BadNumber) (f := "name") (g := "value") (σ := L2.start N_Lot_init [V.ref x, V.int n, V.ref a]) (ta := tCons (tC (.str "hours")) (tCons (tVar 1) tNil)) (x := .str "hours") (y := .int n) T.ox_BadNumber (fun Q q => ⟨_, rfl, q⟩) (k1 hn)
      by_cases c1 : n < 1
      · exact wayT c1 (iteT fin)
      · exact wayF c1 ⟨_, rfl, A.C_Lot, mc, _, _, rfl, rdL, cvL, n, 360, rfl, rfl, _, rfl, wayT (show 360 < n by omega) fin⟩
    refine wayF (by omega) ⟨_, rfl, A.C_Lot, mc, _, _, rfl, rdL, cvL, n, 360, rfl, rfl, _, rfl, wayF (by omega) ?_⟩
    refine ⟨by show 1 ≤ sizeLine; decide, fun q hq => ⟨_, rfl, q, n, _, rfl, rfl, upd_same, by omega, by omega, ?_, fun tk htk => ?_⟩⟩
    · show 1 * n.toNat ≤ sizeLine
      exact Nat.le_trans (show 1 * n.toNat ≤ 360 by omega) (by decide)
    have htk0 : H tk = none := fresh_back (Ex.new hq) htk
    have ex0 : ∀ o, Ex H (upd (upd H q (.lst [.bl false])) tk o) := fun o => (Ex.new hq).trans (Ex.new htk)
    rw [flags_nil]
    dsimp only
    refine q_forLn (K := K) (a := a) (xs := ms.map V.int) (ev_var rfl) (ex_l (ex0 _) hS)
      (fun i σ' H' => ∃ mv : Option V, σ' = [some (.ref x), some (.int n), some (.ref a), some (.ref tk), mv, none] ∧ Ex H H' ∧ H' tk = some (.lst (flags n.toNat ((ms.take i).map (· % n)))) ∧
        scanR n [] ms = scanR n ((ms.take i).map (· % n)) (ms.drop i))
      (fun H2 e2 => ⟨none, rfl, (ex0 _).trans e2, e2 _ _ upd_same, rfl⟩) (fun i σ' H' _ ⟨_, _, e, _⟩ => ex_l e hS) ?_ ?_
    · rintro i y σ' H' hi ⟨mv, rfl, ex, ht, hsc⟩
      obtain ⟨m, rfl, hm⟩ := some_int hi
      have m0 : 0 ≤ m % n := Int.emod_nonneg _ (by omega)
      have m1 : m % n < n := Int.emod_lt_of_pos _ (by omega)
      obtain ⟨j, hj⟩ : ∃ j : Nat, m % n = (j : Int) := ⟨(m % n).toNat, by omega⟩
      have hjn : j < n.toNat := by omega
      have hil : i < ms.length := (List.getElem?_eq_some_iff.mp hm).1
      have hd : ms.drop i = m :: ms.drop (i + 1) := by
        rw [List.drop_eq_getElem_cons hil]
        rw [List.getElem?_eq_getElem hil] at hm
        rw [Option.some.inj hm]
      have htake : (ms.take (i + 1)).map (· % n) = (ms.take i).map (· % n) ++ [(j : Int)] := by
        rw [List.take_succ, hm, List.map_append]
        show _ ++ [m % n] = _
        rw [hj]
      have hat : ∀ S : List Int, atI (flags n.toNat S) (m % n) = some (.bl (decide ((j : Int) ∈ S))) := fun S => by
        rw [hj]
        exact atI_nat (flags_get hjn)
      refine ⟨_, rfl, _, rfl, _, rfl, _, _, rfl, rfl, (by show (0 : Int) < n; omega), tk, _, _, _, rfl, rfl, SqL.of ht, hat _, _, rfl, ?_⟩
      rw [hd] at hsc
      refine way (fun hc => ?_) (fun hc => ?_)
      · refine raise1 (C := A.C_RepeatedHour) (f := "hour") (x := .int (m % n)) T.ox_RepeatedHour (fun Q q => ⟨_, rfl, _, rfl, _, _, rfl, rfl, (by show (0 : Int) < n; omega), q⟩) (fun d H2 e2 h2 => k2 hn (m % n) ?_ d H2 (ex.trans e2) h2)
        rw [hsc]
        unfold scanR
        rw [if_pos (by rw [hj]; exact hc)]
      · refine ⟨_, rfl, _, rfl, _, rfl, _, _, rfl, rfl, (by show (0 : Int) < n; omega), tk, _, _, j, rfl, rfl, ht, ?_, ?_⟩
        · show ixN (flags n.toNat _).length (m % n) = some j
          rw [hj]
          exact ixN_nat (by rw [flags_len]; exact hjn)
        · refine ⟨_, rfl, Ex.mut ex htk0, ?_, ?_⟩
          · rw [upd_same, flags_set hjn, htake]
          · rw [hsc, htake]
            conv => lhs; unfold scanR
            rw [if_neg (by rw [hj]; exact hc), hj]
    · rintro σ' H' ⟨mv, rfl, ex, ht, hsc⟩
      rw [List.length_map, List.take_length] at ht hsc
      rw [List.drop_length] at hsc
      have hx' := ex _ _ hx
      refine ⟨_, rfl, _, rfl, x, _, dx, [], rfl, hx', T.cl_Lot, T.na_Lot_hours, by decide, ?_⟩
      have xtk : tk ≠ x := fun e => by rw [e, hx] at htk0; cases htk0
      have ev : EvL _ [some (V.ref x), some (V.int n), some (V.ref a), some (V.ref tk), mv, none] (upd H' x (.ins A.C_Lot dx (putF "hours" (.int n) []))) (given n.toNat (fun h => decide ((h : Int) ∈ ms.map (· % n))) fun h => .int (h : Int)) :=
        el_rng1 (tt := tB (tOp (rIxL K) (tVar 3) (tVar 5))) (te := tVar 5) (ta := tCons (tVar 1) tNil) (j := 5) (vs := [5]) _ _ (ea_cons (ev_var rfl) ea_nil) (by omega) (fun x => rfl)
          (fun i H1 e1 hi => et_B (ev_op (ev_var rfl) (ev_var rfl) (rv_ixL (sq_of (e1 _ _ (by rw [upd_ne xtk]; exact ht))) (atI_nat (flags_get (by omega))))))
          (fun i H1 _ hi _ => ev_var rfl)
      dsimp only [sFld]
      refine ev _ (Ex.refl _) _ fun l H4 hl e4 h4 => ?_
      have hl0 : H' l = none := by
        by_cases e : l = x
        · rw [e, upd_same] at hl; cases hl
        · rw [upd_ne e] at hl; exact hl
      refine ⟨_, rfl, x, _, dx, _, rfl, e4 _ _ upd_same, T.cl_Lot, T.na_Lot_members, (by show 1 < 1000; decide), ?_⟩
      have lx : l ≠ x := fun e => by rw [e, upd_same] at hl; cases hl
      refine k3 hn (by rw [hsc]; rfl) l _ (fun b o hb ho => ?_) (fresh_back ex hl0) ?_ ?_
      · rw [upd_ne hb]
        exact e4 _ _ (by rw [upd_ne hb]; exact ex _ _ ho)
      · rw [upd_same, putF2]
        rfl
      · rw [upd_ne lx, h4, given_pick]
        rfl
/-- a lot is made: what spLotInit asks is answered by what is wished of the lot and of the errors -/
theorem mk_lot {K : PySem.W.Frag} {A : Ads} {H : Hp} {Q : VK} {E : XK} {l : Addr} {n : Int} {ms : List Int} (hS : SqL K H l (ms.map V.int))
    (k1 : ¬ (1 ≤ n ∧ n ≤ 360) → ∀ d H', Ex H H' → H' d = some (.xd [("value", .int n), ("name", .str "hours")]) → E (.ref A.C_BadNumber) (some d) H')
    (k2 : 1 ≤ n ∧ n ≤ 360 → ∀ r, scanR n [] ms = some r → ∀ d H', Ex H H' → H' d = some (.xd [("hour", .int r)]) → E (.ref A.C_RepeatedHour) (some d) H')
    (k3 : 1 ≤ n ∧ n ≤ 360 → scanR n [] ms = none → ∀ a dx m H', H a = none → H m = none → Ex H H' → H' a = some (.ins A.C_Lot dx (lotF n m)) → H' m = some (.lst ((resid n (ms.map (· % n))).map V.int)) → Q (.ref a) H') :
    ∀ x dx, H x = none → H dx = none → dx ≠ x → spLotInit K A (.ref x :: ([.int n, .ref l] ++ [])) (upd (upd H dx (.own x)) x (.ins A.C_Lot dx [])) (fun v H2 => v = .non ∧ Q (.ref x) H2) E := by
  intro x dx hx hdx hne
  have e0 : Ex H (upd (upd H dx (.own x)) x (.ins A.C_Lot dx [])) := fun b o hb => by rw [upd_ne (ne_of_none hb hx), upd_ne (ne_of_none hb hdx)]; exact hb
  refine ⟨x, dx, l, n, ms, rfl, upd_same, ex_l e0 hS, fun hn d H' e hd => k1 hn d H' (e0.trans e) hd, fun hn r hr d H' e hd => k2 hn r hr d H' (e0.trans e) hd, fun hn hs m H' hk hm h1 h2 => ⟨rfl, k3 hn hs x dx m H' hx (fresh_back e0 hm) (fun b o hb => ?_) h1 h2⟩⟩
  exact hk b o (ne_of_none hb hx) (e0 b o hb)
/-- .. what is wished told of the address -/
theorem mk_lotP {K : PySem.W.Frag} {A : Ads} {H : Hp} {P : Addr → Hp → Prop} {E : XK} {l : Addr} {n : Int} {ms : List Int} (hS : SqL K H l (ms.map V.int)) (hn : 1 ≤ n ∧ n ≤ 360) (hs : scanR n [] ms = none)
    (k : ∀ a dx m H', H a = none → H m = none → Ex H H' → H' a = some (.ins A.C_Lot dx (lotF n m)) → H' m = some (.lst ((resid n (ms.map (· % n))).map V.int)) → P a H') :
    ∀ x dx, H x = none → H dx = none → dx ≠ x → spLotInit K A (.ref x :: ([.int n, .ref l] ++ [])) (upd (upd H dx (.own x)) x (.ins A.C_Lot dx [])) (fun v H2 => v = .non ∧ P x H2) E := by
  intro x dx hx hdx hne
  have h := mk_lot (K := K) (A := A) (H := H) (Q := fun v H2 => ∃ y, v = .ref y ∧ P y H2) (E := E) (l := l) (n := n) (ms := ms) hS (fun z => absurd hn z) (fun _ r hr => by rw [hs] at hr; cases hr) (fun _ _ a dx m H' ha hm e g1 g2 => ⟨a, rfl, k a dx m H' ha hm e g1 g2⟩) x dx hx hdx hne
  obtain ⟨x1, dx1, a1, n1, ms1, e1, h1, h2, h3, h4, h5⟩ := h
  refine ⟨x1, dx1, a1, n1, ms1, e1, h1, h2, h3, h4, fun z1 z2 l H' a b c d => ?_⟩
  obtain ⟨r1, y, r2, r3⟩ := h5 z1 z2 l H' a b c d
  cases r2
  exact ⟨r1, r3⟩
def spLotMembers (A : Ads) : Sp := fun vs H Q _ => ∃ (a dx l : Addr) (n : Int) (ms : List Int), vs = [.ref a] ∧ H a = some (.ins A.C_Lot dx (lotF n l)) ∧ H l = some (.lst (ms.map V.int)) ∧
  ∀ p H', H p = none → Ex H H' → H' p = some (.lst (ms.map V.int)) → Q (.ref p) H' 
theorem ok_Lot_members (T : Txt K mg A) : FnOk P w K mg base CX0 1 A.f_Lot_members A.d_Lot_members (["self"] : List Str) (spLotMembers A) := by
  refine T.F_Lot_members.ok sc_Lot_members (fun vs H Q E h => ?_) (fun cdv Ar outer s H vs Q E hr h => ?_)
  · obtain ⟨a, dx, l, n, ms, rfl, _⟩ := h
    rfl
  · obtain ⟨a, dx, l, n, ms, rfl, h1, h2, k⟩ := h
    refine ⟨_, (pss_one (ps_ret (pe_callTy list_K (by rfl) T.z_list (by decide +kernel) (pa_cons (pe_fldK (pv 0) rfl) pa_nil)))), ?_⟩
    exact ⟨_, rfl, a, _, dx, _, _, rfl, h1, T.cl_Lot, T.na_Lot_members, rfl, l, _, rfl, .inl (SqL.of h2), fun p hp => k p _ hp (Ex.new hp) upd_same⟩

/-- a lot is made of numbers with different residues -/
theorem mk_lotS {K : PySem.W.Frag} {A : Ads} {H : Hp} {Q : VK} {E : XK} {l : Addr} {n : Int} {ms : List Int} {p : Int → Bool} (hS : SqL K H l (ms.map V.int)) (hn : 1 ≤ n ∧ n ≤ 360) (hd : (ms.map (· % n)).Nodup)
    (hp : ∀ z, 0 ≤ z → z < n → (z ∈ ms.map (· % n) ↔ p z = true)) (k : ∀ v H', Ex H H' → NewP (fun G => LotIs A.C_Lot v G n (hrs n p)) H H' → Q v H') :
    ∀ x dx, H x = none → H dx = none → dx ≠ x → spLotInit K A (.ref x :: ([.int n, .ref l] ++ [])) (upd (upd H dx (.own x)) x (.ins A.C_Lot dx [])) (fun v H2 => v = .non ∧ Q (.ref x) H2) E := by
  have h := mk_lotP (A := A) (H := H) (P := fun a H2 => Q (.ref a) H2) (E := E) hS hn (scan_nodup hd fun x _ z => by cases z) fun a dx m H' ha hm e g1 g2 => k (.ref a) H' e fun G g => ⟨⟨a, dx, m, rfl, g _ _ ha g1, by rw [g _ _ hm g2, resid_hrs hp]⟩, hn, asc_hrs (by omega)⟩
  exact h
theorem en_mkLot {K : PySem.W.Frag} {A : Ads} {E : XK} {σ : L2.St} {H : Hp} {tn tl : TE} {n : Int} {ms : List Int} {p : Int → Bool} (hs : Ev tn σ H (.int n)) (hl : EvR tl σ H fun v H1 => ∃ p, v = .ref p ∧ SqL K H1 p (ms.map V.int)) (hn : 1 ≤ n ∧ n ≤ 360) (hd : (ms.map (· % n)).Nodup)
    (hp : ∀ z, 0 ≤ z → z < n → (z ∈ ms.map (· % n) ↔ p z = true)) : EvNew (tMake A.C_Lot (spLotInit K A) [] E (tCons tn (tCons tl tNil))) σ H fun v H1 => LotIs A.C_Lot v H1 n (hrs n p) := fun H1 e Q q =>
  hs H1 e _ fun H2 e2 => hl H2 (e.trans e2) _ fun v H3 e3 hv => by
    obtain ⟨l, rfl, hS⟩ := hv
    exact mk_lotS hS hn hd hp fun w H' e' hw => q w H' ((e2.trans e3).trans e') (hw.out (e2.trans e3) (Ex.refl _))
/-- .. of ascending hours -/
theorem en_mkAsc {K : PySem.W.Frag} {A : Ads} {E : XK} {σ : L2.St} {H : Hp} {tn tl : TE} {n : Int} {xs : List Int} (hs : Ev tn σ H (.int n)) (hl : EvR tl σ H fun v H1 => ∃ p, v = .ref p ∧ SqL K H1 p (xs.map V.int)) (hn : 1 ≤ n ∧ n ≤ 360) (hA : Asc 0 n xs) :
    EvNew (tMake A.C_Lot (spLotInit K A) [] E (tCons tn (tCons tl tNil))) σ H fun v H1 => LotIs A.C_Lot v H1 n xs := by
  have h := en_mkLot (K := K) (A := A) (E := E) (p := fun z => decide (z ∈ xs)) hs hl hn (by rw [asc_mod hA]; exact hA.nodup) (fun z z0 z1 => by rw [mem_self hA]; simp)
  rw [hrs_eq (by omega) hA fun z _ _ => by simp] at h
  exact h
theorem er_mkAsc {K : PySem.W.Frag} {A : Ads} {E : XK} {σ : L2.St} {H : Hp} {tn tl : TE} {n : Int} {xs : List Int} (hs : Ev tn σ H (.int n)) (hl : EvR tl σ H fun v H1 => ∃ p, v = .ref p ∧ SqL K H1 p (xs.map V.int)) (hn : 1 ≤ n ∧ n ≤ 360) (hA : Asc 0 n xs) :
    EvR (tMake A.C_Lot (spLotInit K A) [] E (tCons tn (tCons tl tNil))) σ H fun v H1 => LotIs A.C_Lot v H1 n xs := (en_mkAsc hs hl hn hA).er
theorem er_listK {K : PySem.W.Frag} {σ : L2.St} {H : Hp} {te : TE} {xs : List V} (h : EvR te σ H fun v H1 => ∃ p, v = .ref p ∧ SqL K H1 p xs) : EvR (tCB (rListK K) (tCons te tNil)) σ H fun v H1 => ∃ p, v = .ref p ∧ SqL K H1 p xs := fun H1 e Q q =>
  h H1 e _ fun v H2 e2 hv => by
    obtain ⟨p, rfl, hp⟩ := hv
    exact ⟨p, xs, rfl, .inl hp, fun l hl => q _ _ (e2.trans (Ex.new hl)) ⟨l, rfl, SqL.of upd_same⟩⟩
theorem er_list {K : PySem.W.Frag} {σ : L2.St} {H : Hp} {te : TE} {xs : List V} (h : EvL te σ H xs) : EvR te σ H fun v H1 => ∃ p, v = .ref p ∧ SqL K H1 p xs := fun H1 e Q q => h H1 e Q fun p H2 _ e2 h2 => q _ H2 e2 ⟨p, rfl, sq_of h2⟩
theorem er_held {K : PySem.W.Frag} {σ : L2.St} {H : Hp} {i : Nat} {p : Addr} {xs : List V} (h : σ[i]? = some (some (.ref p))) (hp : SqL K H p xs) : EvR (tVar i) σ H fun v H1 => ∃ p, v = .ref p ∧ SqL K H1 p xs := er_ev (ev_var h) fun H1 e => ⟨p, rfl, ex_l e hp⟩
/-- what an operator of a lot promises -/
def spLot1 (A : Ads) (g : Int → List Int → List Int) : Sp := fun vs H Q _ => ∃ (v : V) (n : Int) (xs : List Int), vs = [v] ∧ LotIs A.C_Lot v H n xs ∧ ∀ w H', Ex H H' → NewP (fun G => LotIs A.C_Lot w G n (g n xs)) H H' → Q w H'
def spLotI (A : Ads) (g : Int → Int → List Int → List Int) : Sp := fun vs H Q _ => ∃ (v : V) (n k : Int) (xs : List Int), vs = [v, .int k] ∧ LotIs A.C_Lot v H n xs ∧ ∀ w H', Ex H H' → NewP (fun G => LotIs A.C_Lot w G n (g n k xs)) H H' → Q w H'
def spLot2 (A : Ads) (g : Int → List Int → List Int → List Int) : Sp := fun vs H Q E => ∃ (v w : V) (n m : Int) (xs ys : List Int), vs = [v, w] ∧ LotIs A.C_Lot v H n xs ∧ LotIs A.C_Lot w H m ys ∧
  (n ≠ m → ∀ H', Ex H H' → E (.ref A.C_OtherHours) none H') ∧ (n = m → ∀ z H', Ex H H' → NewP (fun G => LotIs A.C_Lot z G n (g n xs ys)) H H' → Q z H')
def spLotLen (A : Ads) : Sp := fun vs H Q _ => ∃ (v : V) (n : Int) (xs : List Int), vs = [v] ∧ LotIs A.C_Lot v H n xs ∧ ∀ H', Ex H H' → Q (.int (xs.length : Int)) H'
def spLotEq (A : Ads) : Sp := fun vs H Q _ => ∃ (v w : V) (n m : Int) (xs ys : List Int), vs = [v, w] ∧ LotIs A.C_Lot v H n xs ∧ LotIs A.C_Lot w H m ys ∧ ∀ H', Ex H H' → Q (.bl (decide (n = m ∧ xs = ys))) H'
def spMems (A : Ads) : Sp := fun vs H Q _ => ∃ (v : V) (n : Int) (xs : List Int), vs = [v] ∧ LotIs A.C_Lot v H n xs ∧ ∀ p H', H p = none → Ex H H' → H' p = some (.lst (xs.map V.int)) → Q (.ref p) H'
theorem mems_of {A : Ads} {vs : List V} {H : Hp} {Q : VK} {E : XK} (h : spMems A vs H Q E) : spLotMembers A vs H Q E := by
  obtain ⟨v, n, xs, rfl, ⟨⟨a, dx, l, rfl, h1, h2⟩, _, _⟩, k⟩ := h
  exact ⟨a, dx, l, n, xs, rfl, h1, h2, k⟩
/-- the members that a lot holds -/
theorem ev_mems {K : PySem.W.Frag} {A : Ads} {te : TE} {σ : L2.St} {H : Hp} {a dx l : Addr} {n : Int} (h : Ev te σ H (.ref a)) (hi : H a = some (.ins A.C_Lot dx (lotF n l))) (c : Cls K A.C_Lot) (na : NoAttr K A.C_Lot "_members") : Ev (tFld K te "_members") σ H (.ref l) := fun H1 e Q q =>
  h H1 e _ fun H2 e2 => ⟨a, _, dx, _, _, rfl, e2 _ _ (e _ _ hi), c, na, rfl, q H2 e2⟩
theorem ev_hours {K : PySem.W.Frag} {A : Ads} {te : TE} {σ : L2.St} {H : Hp} {a dx l : Addr} {n : Int} (h : Ev te σ H (.ref a)) (hi : H a = some (.ins A.C_Lot dx (lotF n l))) (c : Cls K A.C_Lot) (na : NoAttr K A.C_Lot "hours") : Ev (tFld K te "hours") σ H (.int n) := fun H1 e Q q =>
  h H1 e _ fun H2 e2 => ⟨a, _, dx, _, _, rfl, e2 _ _ (e _ _ hi), c, na, rfl, q H2 e2⟩
/-- a comprehension over a list of ints, each put through g -/
theorem el_map {K : PySem.W.Frag} {σ : L2.St} {H : Hp} {te tl : TE} {tt : TT} {j : Nat} {vs : List Nat} {a : Addr} (xs : List Int) (p : Int → Bool) (g : Int → Int) (h : Ev tl σ H (.ref a)) (hx : SqL K H a (xs.map V.int)) (hz : xs.length ≤ 40000)
    (hw : ∀ x, wipe ((wipe σ vs).set j (some x)) vs = wipe σ vs) (ht : ∀ (x : Int) H1, Ex H H1 → x ∈ xs → EvT tt ((wipe σ vs).set j (some (.int x))) H1 (p x))
    (he : ∀ (x : Int) H1, Ex H H1 → x ∈ xs → p x = true → Ev te ((wipe σ vs).set j (some (.int x))) H1 (.int (g x))) : EvL (tLc (iList K tl) (gName j) tt te vs) σ H (((xs.filter p).map g).map V.int) := by
  have e := el_lstG (K := K) (te := te) (tl := tl) (tt := tt) (g := gName j) (vs := vs) (σ := σ) (H := H) 0 (xs.map V.int) xs p (fun x => V.int (g x)) (fun x => (wipe σ vs).set j (some (.int x))) h hx (List.length_map _) hz
    (fun i x y H1 kk _ h1 h2 hk => by
      obtain ⟨u, rfl, hu⟩ := some_int h1
      rw [hu] at h2
      cases h2
      exact hk) (fun y => hw _) ht he
  rw [List.map_map]
  exact e
theorem el_mapA {K : PySem.W.Frag} {σ : L2.St} {H : Hp} {te tl : TE} {j : Nat} {vs : List Nat} {a : Addr} (xs : List Int) (g : Int → Int) (h : Ev tl σ H (.ref a)) (hx : SqL K H a (xs.map V.int)) (hz : xs.length ≤ 40000)
    (hw : ∀ x, wipe ((wipe σ vs).set j (some x)) vs = wipe σ vs)
    (he : ∀ (x : Int) H1, Ex H H1 → x ∈ xs → Ev te ((wipe σ vs).set j (some (.int x))) H1 (.int (g x))) : EvL (tLc (iList K tl) (gName j) tYes te vs) σ H ((xs.map g).map V.int) := by
  have e := el_map (K := K) (te := te) (tl := tl) (tt := tYes) (j := j) (vs := vs) (σ := σ) (H := H) xs (fun _ => true) g h hx hz hw (fun x H1 _ _ => fun H2 _ Q q => q H2 (Ex.refl H2)) (fun x H1 e1 hx _ => he x H1 e1 hx)
  rw [List.filter_eq_self.mpr fun _ _ => rfl] at e
  exact e
/-- the hours that a list of marks tells -/
theorem el_marks {K : PySem.W.Frag} {σ : L2.St} {H : Hp} {te : TE} {tt : TT} {ta : TA} {j : Nat} {vs : List Nat} {n : Int} (p : Int → Bool) (h : EvA ta σ H [.int n]) (hn : 1 ≤ n ∧ n ≤ 360) (hw : ∀ x, wipe ((wipe σ vs).set j (some x)) vs = wipe σ vs)
    (ht : ∀ (z : Int) H1, Ex H H1 → 0 ≤ z → z < n → EvT tt ((wipe σ vs).set j (some (.int z))) H1 (p z)) (he : ∀ (z : Int) H1, Ev te ((wipe σ vs).set j (some (.int z))) H1 (.int z)) : EvL (tLc (iRng1 ta) (gName j) tt te vs) σ H ((hrs n p).map V.int) := by
  have e := el_rng1 (te := te) (tt := tt) (ta := ta) (j := j) (vs := vs) (fun i => p (i : Int)) (fun i => V.int (i : Int)) h (by omega) hw (fun i H1 e hi => ht _ H1 e (by omega) hi) (fun i H1 e hi _ => he _ H1)
  rw [given_pick] at e
  exact e
theorem int_flat (xs : List Int) : (xs.map V.int).all flatV = true := by
  rw [List.all_map, List.all_eq_true]
  exact fun _ _ => rfl
theorem rv_inI {K : PySem.W.Frag} {H : Hp} {a : Addr} {x : Int} {xs : List Int} (h : SqL K H a (xs.map V.int)) : RV (rIn K false) (.int x) (.ref a) H (.bl (decide (x ∈ xs))) := by
  have := rv_inL (neg := false) (x := .int x) h rfl (int_flat xs)
  rw [inV_ints] at this
  exact this
theorem rv_niI {K : PySem.W.Frag} {H : Hp} {a : Addr} {x : Int} {xs : List Int} (h : SqL K H a (xs.map V.int)) : RV (rIn K true) (.int x) (.ref a) H (.bl (!decide (x ∈ xs))) := by
  have := rv_inL (neg := true) (x := .int x) h rfl (int_flat xs)
  rw [inV_ints] at this
  exact this
/-- sorted(..) of different ints -/
theorem sorted_hrs {n : Int} {zs ys : List Int} {p : Int → Bool} (hn : 0 ≤ n) (hp : ys.Perm zs) (ho : ys.Pairwise (· ≤ ·)) (hd : zs.Nodup) (hm : ∀ z, z ∈ zs ↔ z ∈ hrs n p) : ys = hrs n p := by
  have nd : ys.Nodup := hp.nodup_iff.mpr hd
  refine asc_unique ?_ (asc_hrs hn).1 fun z => by rw [hp.mem_iff]; exact hm z
  exact (ho.and nd).imp fun {a b} h => by
    have h1 : a ≤ b := h.1
    have h2 : a ≠ b := h.2
    omega
theorem asc_of_sorted {n : Int} {zs ys : List Int} (hp : ys.Perm zs) (ho : ys.Pairwise (· ≤ ·)) (hd : zs.Nodup) (hm : ∀ z ∈ zs, 0 ≤ z ∧ z < n) : Asc 0 n ys := by
  have nd : ys.Nodup := hp.nodup_iff.mpr hd
  refine ⟨(ho.and nd).imp fun {a b} h => ?_, fun z hz => hm z (hp.mem_iff.mp hz)⟩
  have h1 : a ≤ b := h.1
  have h2 : a ≠ b := h.2
  omega
theorem cr_sortedK {X : Cx} {K : PySem.W.Frag} (h : X.K = K := by rfl) : CallR X (.builtin "sorted") (rSortedI K) := by subst h; exact cr_sortedI
theorem er_sorted {K : PySem.W.Frag} {σ : L2.St} {H : Hp} {tl : TE} {zs : List Int} (h : EvL tl σ H (zs.map V.int)) : EvR (tCB (rSortedI K) (tCons tl tNil)) σ H fun v H1 => ∃ (p : Addr) (ys : List Int), v = .ref p ∧ H1 p = some (.lst (ys.map V.int)) ∧ H p = none ∧ ys.Perm zs ∧ ys.Pairwise (· ≤ ·) := fun H1 e Q q =>
  h H1 e _ fun a H2 _ e2 h2 => ⟨a, zs, rfl, sq_of h2, fun ys p hp ho hq => q _ _ (e2.trans (Ex.new hq)) ⟨p, ys, rfl, upd_same, fresh_back (e.trans e2) hq, hp, ho⟩⟩
theorem er_var {C : Addr} {σ : L2.St} {H : Hp} {i : Nat} {v : V} {n : Int} {xs : List Int} (h : σ[i]? = some (some v)) (hv : LotIs C v H n xs) : EvR (tVar i) σ H fun v H1 => LotIs C v H1 n xs := er_ev (ev_var h) fun H1 e => hv.ex e
theorem en_lotI {A : Ads} {g : Int → Int → List Int → List Int} {E : L2.St → XK} {ta tb : TE} {σ : L2.St} {H : Hp} {n k : Int} {xs : List Int} (ha : EvR ta σ H fun v H1 => LotIs A.C_Lot v H1 n xs) (hb : Ev tb σ H (.int k)) :
    EvNew (tOpS (rOwnI A.C_Lot (spLotI A g) E) ta tb) σ H fun v H1 => LotIs A.C_Lot v H1 n (g n k xs) := fun H1 e Q q =>
  ha H1 e _ fun v H2 e2 hv => hb H2 (e.trans e2) _ fun H3 e3 => by
    have h3 := hv.ex e3
    obtain ⟨a, dx, l, rfl, h1, _⟩ := id h3.at_
    exact ⟨a, dx, _, k, rfl, h1, rfl, .ref a, n, k, xs, rfl, h3, fun w H' e' hw => q w H' ((e2.trans e3).trans e') (hw.out (e2.trans e3) (Ex.refl _))⟩
theorem en_lot1 {A : Ads} {g : Int → List Int → List Int} {E : L2.St → XK} {ta : TE} {σ : L2.St} {H : Hp} {n : Int} {xs : List Int} (ha : EvR ta σ H fun v H1 => LotIs A.C_Lot v H1 n xs) :
    EvNew (tUnS (rOwn1 A.C_Lot (spLot1 A g) E) ta) σ H fun v H1 => LotIs A.C_Lot v H1 n (g n xs) := fun H1 e Q q =>
  ha H1 e _ fun v H2 e2 hv => by
    obtain ⟨a, dx, l, rfl, h1, _⟩ := id hv.at_
    exact ⟨a, dx, _, rfl, h1, .ref a, n, xs, rfl, hv, fun w H' e' hw => q w H' (e2.trans e') (hw.out e2 (Ex.refl _))⟩
theorem en_lot2 {A : Ads} {g : Int → List Int → List Int → List Int} {E : L2.St → XK} {ta tb : TE} {σ : L2.St} {H : Hp} {n : Int} {xs ys : List Int} (ha : EvR ta σ H fun v H1 => LotIs A.C_Lot v H1 n xs) (hb : EvR tb σ H fun v H1 => LotIs A.C_Lot v H1 n ys) :
    EvNew (tOpS (rOwn2 A.C_Lot (spLot2 A g) E) ta tb) σ H fun v H1 => LotIs A.C_Lot v H1 n (g n xs ys) := fun H1 e Q q =>
  ha H1 e _ fun v H2 e2 hv => hb H2 (e.trans e2) _ fun w H3 e3 hw => by
    have h3 := hv.ex e3
    obtain ⟨a, dx, l, rfl, h1, _⟩ := id h3.at_
    obtain ⟨b, dy, m, rfl, g1, _⟩ := id hw.at_
    exact ⟨a, dx, _, b, dy, _, rfl, h1, rfl, g1, .ref a, .ref b, n, n, xs, ys, rfl, h3, hw, fun z => absurd rfl z, fun _ z H' e' hz => q z H' ((e2.trans e3).trans e') (hz.out (e2.trans e3) (Ex.refl _))⟩
theorem er_lotI {A : Ads} {g : Int → Int → List Int → List Int} {E : L2.St → XK} {ta tb : TE} {σ : L2.St} {H : Hp} {n k : Int} {xs : List Int} (ha : EvR ta σ H fun v H1 => LotIs A.C_Lot v H1 n xs) (hb : Ev tb σ H (.int k)) :
    EvR (tOpS (rOwnI A.C_Lot (spLotI A g) E) ta tb) σ H fun v H1 => LotIs A.C_Lot v H1 n (g n k xs) := (en_lotI ha hb).er
theorem er_lot1 {A : Ads} {g : Int → List Int → List Int} {E : L2.St → XK} {ta : TE} {σ : L2.St} {H : Hp} {n : Int} {xs : List Int} (ha : EvR ta σ H fun v H1 => LotIs A.C_Lot v H1 n xs) :
    EvR (tUnS (rOwn1 A.C_Lot (spLot1 A g) E) ta) σ H fun v H1 => LotIs A.C_Lot v H1 n (g n xs) := (en_lot1 ha).er
theorem er_lot2 {A : Ads} {g : Int → List Int → List Int → List Int} {E : L2.St → XK} {ta tb : TE} {σ : L2.St} {H : Hp} {n : Int} {xs ys : List Int} (ha : EvR ta σ H fun v H1 => LotIs A.C_Lot v H1 n xs) (hb : EvR tb σ H fun v H1 => LotIs A.C_Lot v H1 n ys) :
    EvR (tOpS (rOwn2 A.C_Lot (spLot2 A g) E) ta tb) σ H fun v H1 => LotIs A.C_Lot v H1 n (g n xs ys) := (en_lot2 ha hb).er
theorem q_augI {A : Ads} {g : Int → Int → List Int → List Int} {E : XK} {te : TE} {tz : TS} {D : Ends} {σ : L2.St} {H : Hp} {i : Nat} {v : V} {n k : Int} {xs : List Int} (hi : σ[i]? = some (some v)) (hv : LotIs A.C_Lot v H n xs) (he : Ev te σ H (.int k))
    (c : ∀ w H1, Ex H H1 → LotIs A.C_Lot w H1 n (g n k xs) → tz D (σ.set i (some w)) H1) : tSeq (tAug i te (rOwnI A.C_Lot (spLotI A g) (fun _ => E) [])) tz D σ H :=
  ⟨v, hi, he H (Ex.refl H) _ fun H2 e2 => by
    have h2 := hv.ex e2
    obtain ⟨a, dx, l, rfl, h1, _⟩ := id h2.at_
    exact ⟨a, dx, _, k, rfl, h1, rfl, .ref a, n, k, xs, rfl, h2, fun w H' e' hw => c w H' (e2.trans e') hw.self⟩⟩
theorem q_aug2 {A : Ads} {g : Int → List Int → List Int → List Int} {E : XK} {te : TE} {tz : TS} {D : Ends} {σ : L2.St} {H : Hp} {i : Nat} {v : V} {n : Int} {xs ys : List Int} (hi : σ[i]? = some (some v)) (hv : LotIs A.C_Lot v H n xs) (he : EvR te σ H fun v H1 => LotIs A.C_Lot v H1 n ys)
    (c : ∀ w H1, Ex H H1 → LotIs A.C_Lot w H1 n (g n xs ys) → tz D (σ.set i (some w)) H1) : tSeq (tAug i te (rOwn2 A.C_Lot (spLot2 A g) (fun _ => E) [])) tz D σ H :=
  ⟨v, hi, he H (Ex.refl H) _ fun w H2 e2 hw => by
    have h2 := hv.ex e2
    obtain ⟨a, dx, l, rfl, h1, _⟩ := id h2.at_
    obtain ⟨b, dy, m, rfl, g1, _⟩ := id hw.at_
    exact ⟨a, dx, _, b, dy, _, rfl, h1, rfl, g1, .ref a, .ref b, n, n, xs, ys, rfl, h2, hw, fun z => absurd rfl z, fun _ z H' e' hz => c z H' (e2.trans e') hz.self⟩⟩
theorem ev_lotEq {K : PySem.W.Frag} {A : Ads} {E : L2.St → XK} {ta tb : TE} {σ : L2.St} {H : Hp} {n m : Int} {xs ys : List Int} (ha : EvR ta σ H fun v H1 => LotIs A.C_Lot v H1 n xs) (hb : EvR tb σ H fun v H1 => LotIs A.C_Lot v H1 m ys)
    (ty : ∀ (H : Hp) (a dx : Addr) (fs : List (Str × V)), H a = some (.ins A.C_Lot dx fs) → TyX K H (.ref a) (.ref A.C_Lot)) : Ev (tOpS (rOwnC K A.C_Lot (spLotEq A) E) ta tb) σ H (.bl (decide (n = m ∧ xs = ys))) := fun H1 e Q q =>
  ha H1 e _ fun v H2 e2 hv => hb H2 (e.trans e2) _ fun w H3 e3 hw => by
    have h3 := hv.ex e3
    obtain ⟨a, dx, l, rfl, h1, _⟩ := id h3.at_
    obtain ⟨b, dy, m', rfl, g1, _⟩ := id hw.at_
    refine ⟨a, dx, _, .ref A.C_Lot, rfl, h1, ty _ _ _ _ g1, ?_, .ref a, .ref b, n, m, xs, ys, rfl, h3, hw, fun H' e' => q H' ((e2.trans e3).trans e')⟩
    simp [PySem.W.notFirst]
theorem ev_lotLen {A : Ads} {E : XK} {ta : TE} {σ : L2.St} {H : Hp} {n : Int} {xs : List Int} (ha : EvR ta σ H fun v H1 => LotIs A.C_Lot v H1 n xs) : Ev (tCB (rOwnLen A.C_Lot (spLotLen A) E) (tCons ta tNil)) σ H (.int (xs.length : Int)) := fun H1 e Q q =>
  ha H1 e _ fun v H2 e2 hv => by
    have hl := hv.len
    obtain ⟨a, dx, l, rfl, h1, _⟩ := id hv.at_
    exact ⟨a, dx, _, rfl, h1, .ref a, n, xs, rfl, hv, fun H' e' => ⟨_, rfl, ⟨by omega, by omega⟩, q H' (e2.trans e')⟩⟩
theorem el_mems {A : Ads} {E : XK} {ta : TE} {σ : L2.St} {H : Hp} {n : Int} {xs : List Int} (ha : EvR ta σ H fun v H1 => LotIs A.C_Lot v H1 n xs)  : EvL (tProp A.C_Lot (spLotMembers A) [] E ta) σ H (xs.map V.int) := fun H1 e Q q => by
  refine ha H1 e _ fun v H2 e2 hv => ?_
  obtain ⟨a, dx, l, rfl, h1, h2⟩ := id hv.at_
  exact ⟨a, dx, _, rfl, h1, a, dx, l, n, xs, rfl, h1, h2, fun p H' hp e' h' => q p H' (fresh_back e2 hp) (e2.trans e') h'⟩
theorem ok_Lot_len (T : Txt K mg A) : FnOk P w K mg base CX0 1 A.f_Lot_len A.d_Lot_len (["self"] : List Str) (spLotLen A) := by
  refine T.F_Lot_len.ok sc_Lot_len (fun vs H Q E h => ?_) (fun cdv Ar outer s H vs Q E hr h => ?_)
  · obtain ⟨v, n, xs, rfl, _⟩ := h
    rfl
  · obtain ⟨v, n, xs, rfl, ⟨⟨a, dx, l, rfl, h1, h2⟩, _, _⟩, k⟩ := h
    refine ⟨_, (pss_one (ps_ret (pe_callB len_K (by rfl) T.z_len (by decide +kernel) (pa_cons (pe_fldK (pv 0) rfl) pa_nil)))), ?_⟩
    refine ⟨_, rfl, a, _, dx, _, _, rfl, h1, T.cl_Lot, T.na_Lot_members, rfl, .ref l, xs.length, rfl, .inl ⟨_, SqL.of h2, (List.length_map _).symm⟩, k _ (Ex.refl _)⟩
theorem ok_Lot_iter (T : Txt K mg A) : FnS P w K mg base 1 A.f_Lot_iter A.d_Lot_iter (["self"] : List Str) (spIt K A.C_Lot "_members") := by
  refine fnS_mk T.F_Lot_iter sc_Lot_iter (fun n vs H Q E h => ?_) (fun cdv Ar outer s H vs Q E hr h => ?_)
  · obtain ⟨a, dx, l, fs, xs, rfl, _⟩ := h
    rfl
  · obtain ⟨a, dx, l, fs, xs, rfl, ea, el, hq, k⟩ := h
    refine ⟨_, (pss_one (ps_ret (pe_callB ItX.call_iterN (by rfl) T.z_iter (by decide +kernel) (pa_cons (pe_fld (pv 0) rfl) pa_nil)))), ?_⟩
    exact ⟨_, rfl, a, _, dx, fs, _, rfl, ea, T.cl_Lot, T.na_Lot_members, el, l, xs, rfl, hq, k⟩

def spLotHas (A : Ads) : Sp := fun vs H Q E => ∃ (v : V) (z n : Int) (xs : List Int), vs = [v, .int z] ∧ LotIs A.C_Lot v H n xs ∧ ∀ H', Ex H H' → Q (.bl (decide (z % n ∈ xs))) H' 
theorem ok_Lot_contains (T : Txt K mg A) : FnOk P w K mg base CX0 1 A.f_Lot_contains A.d_Lot_contains (["self", "x"] : List Str) (spLotHas A) := by
  refine T.F_Lot_contains.ok sc_Lot_contains (fun vs H Q E h => ?_) (fun cdv Ar outer s H vs Q E hr h => ?_)
  · obtain ⟨v, z, n, xs, rfl, _⟩ := h
    rfl
  · obtain ⟨v, z, n, xs, rfl, ⟨⟨a, dx, l, rfl, h1, h2⟩, hn, hA⟩, k⟩ := h
    refine ⟨_, (pss_one (ps_ret (pe_cmpR in_K (pe_op op_mod (pv 1) (pe_fldK (pv 0) rfl)) (pe_fldK (pv 0) rfl) (by with_unfolding_all rfl)))), ?_⟩
    exact s_ret (v := .bl (decide (z % n ∈ xs))) (ev_op (ev_op (ev_var (i := 1) rfl) (ev_hours (ev_var (i := 0) rfl) h1 T.cl_Lot T.na_Lot_hours) (rv_I (show 0 < n by omega))) (ev_mems (ev_var (i := 0) rfl) h1 T.cl_Lot T.na_Lot_members) (rv_inI (sq_of h2))) fun H1 e1 => k H1 e1

theorem tyof_ex {K : PySem.W.Frag} {H H' : Hp} (e : Ex H H') {x : V} {t : Value} (h : TyOf K H x t) : TyOf K H' x t := by
  cases h with
  | non => exact .non
  | bl b => exact .bl b
  | int i => exact .int i
  | str z => exact .str z
  | flt z => exact .flt z
  | lst h => exact .lst (e _ _ h)
  | frz h => exact .frz (e _ _ h)
  | tup h => exact .tup (e _ _ h)
  | dK h => exact .dK (e _ _ h)
  | dT h => exact .dT (e _ _ h)
  | ins h c a n k m => exact .ins (e _ _ h) c a n k m
theorem tyx_ex {K : PySem.W.Frag} {H H' : Hp} (e : Ex H H') {x : V} {t : Value} (h : TyX K H x t) : TyX K H' x t := by
  cases h with
  | base h => exact .base (tyof_ex e h)
  | byt b => exact .byt b
  | set h => exact .set (e _ _ h)
  | kList h c => exact .kList h c
  | kTuple h c => exact .kTuple h c
  | kDict h c => exact .kDict h c
  | fTuple h => exact .fTuple (e _ _ h)
  | fDict h => exact .fDict (e _ _ h)

/-- something that is no lot -/
def Odd (K : PySem.W.Frag) (A : Ads) (H : Hp) (y : V) : Prop := ∃ n : String, TyX K H y (.type n) ∧ PySem.W.subIn K (.type n) (.ref A.C_Lot) = some false ∧ PySem.W.kitOne K (.type n) (.ref A.C_Lot) = some false
theorem odd_ex {K : PySem.W.Frag} {A : Ads} {H H' : Hp} {y : V} (e : Ex H H') (h : Odd K A H y) : Odd K A H' y := by
  obtain ⟨n, h1, h2⟩ := h
  exact ⟨n, tyx_ex e h1, h2⟩
def spLotEqK (K : PySem.W.Frag) (A : Ads) : Sp := fun vs H Q E => ∃ (v w : V) (n : Int) (xs : List Int), vs = [v, w] ∧ LotIs A.C_Lot v H n xs ∧
  ((∃ m ys, LotIs A.C_Lot w H m ys ∧ ∀ H', Ex H H' → Q (.bl (decide (n = m ∧ xs = ys))) H') ∨ (Odd K A H w ∧ ∀ H', Ex H H' → Q (.bl false) H'))

theorem ok_Lot_eq (T : Txt K mg A) : FnOk P w K mg base CX0 2 A.f_Lot_eq A.d_Lot_eq (["self", "other"] : List Str) (spLotEqK K A) := by
  refine T.F_Lot_eq.ok sc_Lot_eq (fun vs H Q E h => ?_) (fun cdv Ar outer s H vs Q E hr h => ?_)
  · obtain ⟨v, w, n, xs, rfl, _⟩ := h
    rfl
  · obtain ⟨v, w, n, xs, rfl, hv, h⟩ := h
    refine ⟨_, (pss_one (ps_ret (pe_and (pe_callB isi_K (by rfl) T.z_isinstance (by decide +kernel) (pa_cons (pv 1) (pa_cons (pe_glob (v := .ref A.C_Lot) rfl T.g_Lot rfl) pa_nil))) (pe_and (pe_cmpR op_eq (pe_fldK (pv 0) rfl) (pe_fldK (pv 1) rfl) (nomark _)) (pe_one (pe_cmpR (op_eqD hr.units) (pe_fldK (pv 0) rfl) (pe_fldK (pv 1) rfl) (nomark _))))))), ?_⟩
    obtain ⟨⟨a, dx, l, rfl, h1, h2⟩, hn, hA⟩ := id hv
    rcases h with ⟨m, ys, hw, k⟩ | ⟨⟨t, ty, hs, hk⟩, k⟩
    · obtain ⟨⟨b, dy, m', rfl, g1, g2⟩, _, _⟩ := id hw
      refine ⟨_, rfl, _, _, _, _, true, rfl, .own _, T.ty_Lot H b dy _ g1, kit_self, ⟨true, rfl, iteT ?_⟩⟩
      refine ⟨_, rfl, a, _, dx, _, _, rfl, h1, T.cl_Lot, T.na_Lot_hours, rfl, _, rfl, b, _, dy, _, _, rfl, g1, T.cl_Lot, T.na_Lot_hours, rfl, rfl, ?_⟩
      by_cases hnm : n = m
      · subst hnm
        refine ⟨true, by simp, iteT ?_⟩
        refine ⟨_, rfl, a, _, dx, _, _, rfl, h1, T.cl_Lot, T.na_Lot_members, rfl, _, rfl, b, _, dy, _, _, rfl, g1, T.cl_Lot, T.na_Lot_members, rfl, ?_⟩
        refine ⟨.list (xs.map .int), .list (ys.map .int), .lst (SqL.of h2) (dp_ints _), .lst (SqL.of g2) (dp_ints _), shaped_ints _, shaped_ints _, ?_⟩
        rw [eqv_intsL]
        have := k H (Ex.refl H)
        simpa using this
      · refine ⟨false, by simp [hnm], iteF ?_⟩
        have := k H (Ex.refl H)
        simpa [hnm] using this
    · exact ⟨_, rfl, _, _, _, _, false, rfl, .own _, ty, hk, ⟨false, rfl, iteF (k H (Ex.refl H))⟩⟩
theorem ok_Lot_invert (T : Txt K mg A) : FnOk P w K mg base CX0 6 A.f_Lot_invert A.d_Lot_invert (["self"] : List Str) (spLot1 A fun n xs => hrs n fun z => !decide (z ∈ xs)) := by
  refine T.F_Lot_invert.ok sc_Lot_invert (fun vs H Q E h => ?_) (fun cdv Ar outer s H vs Q E hr h => ?_)
  · obtain ⟨v, n, xs, rfl, _⟩ := h
    rfl
  · obtain ⟨v, n, xs, rfl, hL, k⟩ := h
    refine ⟨_, (pss_one (ps_ret (pe_make T.mk_Lot (ok_Lot_init T) (hr.mono (by omega)) rfl T.g_Lot (b_Lot_init T) .nil passL (pa_cons (pe_fldK (pv 0) rfl) (pa_cons (pe_lc (own := [("hour", 1)]) (g := gName 1) rfl sc_Lot_invert.nd (pi_range1 rfl T.z_range (pa_cons (pe_fldK (pv 0) rfl) pa_nil)) (blkOk_by (own := [("hour", 1)]) (N := N_Lot_invert) (sc := defScope s_Lot_invert) (by decide +kernel)) (fun _ _ _ _ _ => (pg_name (i := 1) sc_Lot_invert.nd rfl (Or.inl rfl))) (fun _ _ _ _ _ => (pts_one (pt_cmpR notin_K (pv 1) (pe_fldK (pv 0) rfl) (by with_unfolding_all rfl)))) (fun _ _ _ _ _ => (pv 1))) pa_nil))))), ?_⟩
    obtain ⟨⟨a, dx, l, rfl, h1, h2⟩, hn, hA⟩ := id hL
    refine ⟨_, rfl, a, _, dx, _, _, rfl, h1, T.cl_Lot, T.na_Lot_hours, rfl, ?_⟩
    try dsimp only
    have lc := el_rng1 (σ := [some (V.ref a), none]) (H := H) (te := tVar 1) (tt := tTest (tOp (rIn K true) (tVar 1) (tFld K (tVar 0) "_members"))) (ta := tCons (tFld K (tVar 0) "hours") tNil) (j := 1) (vs := [1]) (fun i => !decide ((i : Int) ∈ xs)) (fun i => V.int (i : Int))
      (ea_cons (ev_hours (ev_var (i := 0) rfl) h1 T.cl_Lot T.na_Lot_hours) ea_nil) (by omega) (fun x => rfl)
      (fun i H1 e1 hi => et_test (ev_op (ev_var (i := 1) rfl) (ev_mems (ev_var (i := 0) rfl) (e1 _ _ h1) T.cl_Lot T.na_Lot_members) (rv_niI (sq_of (e1 _ _ h2))))) (fun i H1 e1 hi _ => ev_var (i := 1) rfl)
    rw [given_pick] at lc
    have hAs := asc_hrs (n := n) (p := fun z => !decide (z ∈ xs)) (by omega)
    refine lc _ (Ex.refl _) _ fun p H1 hp e1 h3 => ?_
    refine mk_lotS (ms := hrs n fun z => !decide (z ∈ xs)) (SqL.of h3) hn ?_ (fun z z0 z1 => ?_) fun w H' e' hw => k w H' (e1.trans e') (hw.out e1 (Ex.refl _))
    · rw [asc_mod hAs]
      exact hAs.nodup
    · rw [mem_self hAs, mem_hrs]
      simp [z0, z1]

def BadName (A : Ads) (z : Str) (H : Hp) (E : XK) : Prop := ∀ d H', Ex H H' → H' d = some (.xd [("name", .str z)]) → E (.ref A.C_BadName) (some d) H'
def spChkName (A : Ads) : Sp := fun vs H Q E => ∃ z : Str, vs = [.str z] ∧ z.length ≤ 100000 ∧ (goodName z = false → BadName A z H E) ∧ (goodName z = true → ∀ H', Ex H H' → Q .non H')
theorem ok_check_name (T : Txt K mg A) : FnOk P w K mg base (L2.CX P w) 4 A.f_check_name A.d_check_name (["name"] : List Str) (spChkName A) := by
  refine T.F_check_name.okX sc_check_name (fun vs H Q E h => ?_) (fun cdv Ar outer s H vs Q E hr h => ?_)
  · obtain ⟨z, rfl, _⟩ := h
    rfl
  · obtain ⟨z, rfl, hz, k1, k2⟩ := h
    obtain ⟨tc_LONGEST_NAME, gc_LONGEST_NAME⟩ := T.c_LONGEST_NAME
    obtain ⟨tc_LETTERS, gc_LETTERS⟩ := T.c_LETTERS
    refine ⟨_, (pss_cons (ps_if (PW.pt (pw_or (pt_cmpR op_lt (pe_callB len_K (by rfl) T.z_len (by decide +kernel) (pa_cons (pv 0) pa_nil)) pe_int (nomark _)) (pw_or1 (pt_cmpR op_gt (pe_callB len_K (by rfl) T.z_len (by decide +kernel) (pa_cons (pv 0) pa_nil)) (pe_glob (v := .int 8) rfl gc_LONGEST_NAME ⟨_, rfl⟩) (nomark _))))) (pss_one (ps_raise rfl (takes_of rfl rfl rfl rfl) (pmk_oex T.ox_BadName T.ni_BadName T.ti_BadName (ok_BadName_init T) (hr.mono (by omega)) (b_BadName_init T) .nil pass0 rfl T.g_BadName (pa_cons (pv 0) pa_nil)))) pss_nil)
        (pss_one (ps_for (passes_of rfl) rfl (pi_str (pv 0)) (pg_name (i := 1) sc_check_name.nd rfl (Or.inl rfl)) (pss_one (ps_if (pt_cmpR op_notIn_sign (pv 1) (pe_glob (v := .str "abcdefghijklmnopqrstuvwxyz") rfl gc_LETTERS ⟨_, rfl⟩) (by with_unfolding_all rfl)) (pss_one (ps_raise rfl (takes_of rfl rfl rfl rfl) (pmk_oex T.ox_BadName T.ni_BadName T.ti_BadName (ok_BadName_init T) (hr.mono (by omega)) (b_BadName_init T) .nil pass0 rfl T.g_BadName (pa_cons (pv 0) pa_nil)))) pss_nil))))), ?_⟩
    have ra : ∀ {σ : L2.St} {G : Hp}, σ[0]? = some (some (.str z)) → Ex H G → goodName z = false → tMkO A.C_BadName (spErr1 K A.C_BadName "name") [] (tCons (tVar 0) tNil) σ G E := fun h0 e hb => raise1 (C := A.C_BadName) (f := "name") (x := .str z) T.ox_BadName (fun Q q => ⟨_, h0, q⟩) (fun d H' e' hd => k1 hb d H' (e.trans e') hd)
    try dsimp only
    refine q_when (b := decide (((z.length : Nat) : Int) < 1) || decide (8 < ((z.length : Nat) : Int))) (et_or (et_test (ev_op (ev_lenS (K := K) (ev_var (i := 0) rfl) hz) ev_c rv_I0)) fun _ => et_test (ev_op (ev_lenS (K := K) (ev_var (i := 0) rfl) hz) ev_c rv_I0)) (fun h H1 e1 => ?_) (fun h H1 e1 => ?_)
    · refine ra rfl e1 ?_
      unfold goodName
      rw [Bool.or_eq_true, decide_eq_true_iff, decide_eq_true_iff] at h
      rw [decide_eq_false (by omega)]
      rfl
    have hl : 1 ≤ z.length ∧ z.length ≤ 8 := by
      rw [Bool.or_eq_false_iff, decide_eq_false_iff_not, decide_eq_false_iff_not] at h
      omega
    try dsimp only
    refine s_forI (ei_str (ev_var (i := 0) rfl)) fun H2 e2 => ⟨fun i σ' G => (∃ lv : Option V, σ' = [some (.str z), lv]) ∧ Ex H2 G ∧ ∀ j, j < i → ∀ c, z.cps[j]? = some c → c ∈ LET.cps.toList, ⟨⟨none, rfl⟩, Ex.refl _, fun j hj => absurd hj (Nat.not_lt_zero _)⟩, fun i σ' G _ p => p.2.1, ?_, ?_⟩
    · rintro i x σ' G G' hi ⟨⟨lv, rfl⟩, eG, hall⟩ ⟨rfl, c, hc, rfl⟩
      have e12 := (e1.trans e2).trans eG
      dsimp only [gName]
      refine s_when (b := !decide (c ∈ LET.cps.toList)) (et_test (ev_op (ev_var (i := 1) rfl) ev_c rv_niS)) (fun h G1 g1 => ?_) (fun h G1 g1 => ⟨⟨_, rfl⟩, eG.trans g1, fun j hj d hd => ?_⟩)
      · refine ra rfl (e12.trans g1) ?_
        unfold goodName
        rw [Bool.and_eq_false_iff]
        refine .inr (List.all_eq_false.mpr ⟨c, ?_, by simpa using h⟩)
        exact List.mem_of_getElem? (i := i) (by simpa using hc)
      · by_cases c' : j < i
        · exact hall j c' d hd
        · have : j = i := by omega
          subst this
          rw [hc] at hd
          cases hd
          simpa using h
    rintro σ' G ⟨⟨lv, rfl⟩, eG, hall⟩
    refine k2 ?_ G ((e1.trans e2).trans eG)
    unfold goodName
    rw [Bool.and_eq_true, decide_eq_true_iff, List.all_eq_true]
    refine ⟨hl, fun c hc => decide_eq_true ?_⟩
    obtain ⟨j, hj⟩ := List.getElem?_of_mem hc
    have hj' : z.cps[j]? = some c := by simpa using hj
    exact hall j (by have := (List.getElem?_eq_some_iff.mp hj).1; simpa using this) c hj' 

def Again (A : Ads) (z : Str) (H : Hp) (E : XK) : Prop := ∀ d H', Ex H H' → H' d = some (.xd [("name", .str z)]) → E (.ref A.C_RepeatedName) (some d) H'
def spChkNew (K : PySem.W.Frag) (A : Ads) : Sp := fun vs H Q E => ∃ (z : Str) (p : Addr) (ns : List Str), vs = [.str z, .ref p] ∧ z.length ≤ 100000 ∧ SqL K H p (ns.map V.str) ∧ (goodName z = false → BadName A z H E) ∧ (goodName z = true → z ∈ ns → Again A z H E) ∧ (goodName z = true → z ∉ ns → ∀ H', Ex H H' → Q .non H')
theorem ok_check_new_name (T : Txt K mg A) : FnOk P w K mg base (L2.CX P w) 5 A.f_check_new_name A.d_check_new_name (["name", "names"] : List Str) (spChkNew K A) := by
  refine T.F_check_new_name.okX sc_check_new_name (fun vs H Q E h => ?_) (fun cdv Ar outer s H vs Q E hr h => ?_)
  · obtain ⟨z, p, ns, rfl, _⟩ := h
    rfl
  · obtain ⟨z, p, ns, rfl, hz, hp, k1, k2, k3⟩ := h
    refine ⟨_, (pss_cons (ps_expr (pe_call (ok_check_name T) (hr.mono (by omega)) rfl T.g_check_name T.k_check_name (b_check_name T) .nil (passes_call (takes_of rfl rfl rfl rfl) (fun _ _ _ _ h => h)) (pa_cons (pv 0) pa_nil)))
        (pss_one (ps_if (pt_cmpR in_K (pv 0) (pv 1) (by with_unfolding_all rfl)) (pss_one (ps_raise rfl (takes_of rfl rfl rfl rfl) (pmk_oex T.ox_RepeatedName T.ni_RepeatedName T.ti_RepeatedName (ok_RepeatedName_init T) (hr.mono (by omega)) (b_RepeatedName_init T) .nil pass0 rfl T.g_RepeatedName (pa_cons (pv 0) pa_nil)))) pss_nil))), ?_⟩
    refine ⟨_, rfl, z, rfl, hz, k1, fun hg H1 e1 => ?_⟩
    try dsimp only
    refine s_when (b := decide (z ∈ ns)) (et_test (ev_is (ev_op (ev_var (i := 0) rfl) (ev_var (i := 1) rfl) (rv_inL (neg := false) (ex_l e1 hp) rfl (strs_flat ns))) (by rw [← inV_strs]; rfl))) (fun h H2 e2 => ?_) (fun h H2 e2 => k3 hg (of_decide_eq_false h) H2 (e1.trans e2))
    exact raise1 (C := A.C_RepeatedName) (f := "name") (x := .str z) T.ox_RepeatedName (fun Q q => ⟨_, rfl, q⟩) (fun d H' e' hd => k2 hg (of_decide_eq_true h) d H' ((e1.trans e2).trans e') hd)

theorem putF3 {y z u : V} : putF "stakes" u (putF "names" z (putF "hours" y [])) = [(("hours" : Str), y), (("names" : Str), z), (("stakes" : Str), u)] := by
  have h1 : ¬ ("hours" : Str) = "names" := by decide +kernel
  have h2 : ¬ ("hours" : Str) = "stakes" := by decide +kernel
  have h3 : ¬ ("names" : Str) = "stakes" := by decide +kernel
  have e : putF "names" z (putF "hours" y []) = [(("hours" : Str), y), (("names" : Str), z)] := by
    show (if ("hours" : Str) = "names" then _ else (("hours" : Str), y) :: putF "names" z []) = _
    rw [if_neg h1]
    rfl
  rw [e]
  show (if ("hours" : Str) = "stakes" then _ else (("hours" : Str), y) :: (if ("names" : Str) = "stakes" then _ else (("names" : Str), z) :: putF "stakes" u [])) = _
  rw [if_neg h2, if_neg h3]
  rfl
theorem he_scan {n : Int} {gs : List (Str × Int)} {e : HErr} (h1 : ¬ (n < 1 ∨ 24 < n)) (h2 : ¬ gs.length = 0) (h3 : ¬ 4 < gs.length) (hs : scanG [] gs = some e) : houseErr n gs = some e := by
  unfold houseErr
  rw [if_neg h1, if_neg h2, if_neg h3, hs]
def HE (A : Ads) (n : Int) (H : Hp) (E : XK) : HErr → Prop
  | .hours => ∀ d H', Ex H H' → H' d = some (.xd [("value", .int n), ("name", .str "hours")]) → E (.ref A.C_BadNumber) (some d) H'
  | .noGates => ∀ d H', Ex H H' → H' d = some (.xd [("value", .int 0), ("name", .str "gates")]) → E (.ref A.C_BadNumber) (some d) H'
  | .manyGates => ∀ d H', Ex H H' → H' d = some (.xd [("most", .int 4), ("name", .str "gates")]) → E (.ref A.C_TooMany) (some d) H'
  | .name z => BadName A z H E
  | .again z => Again A z H E
  | .stake s => ∀ d H', Ex H H' → H' d = some (.xd [("value", .int s), ("name", .str "stake")]) → E (.ref A.C_BadNumber) (some d) H'
  | .cells => ∀ d H', Ex H H' → H' d = some (.xd [("most", .int 48), ("name", .str "cells")]) → E (.ref A.C_TooMany) (some d) H'
def spHouse (K : PySem.W.Frag) (A : Ads) : Sp := fun vs H Q E => ∃ (x dx p : Addr) (n : Int) (gs : List (Str × Int)), vs = [.ref x, .int n, .ref p] ∧ H x = some (.ins A.C_House dx []) ∧ Gates K H p gs ∧ gs.length ≤ 100 ∧ (∀ g ∈ gs, g.1.length ≤ 100000) ∧ (∀ e, houseErr n gs = some e → HE A n H E e) ∧
  (houseErr n gs = none → ∀ q r H', (∀ b o, b ≠ x → H b = some o → H' b = some o) → H q = none → H r = none → H' x = some (.ins A.C_House dx (houF n q r)) → H' q = some (.tup ((gs.map (·.1)).map V.str)) → H' r = some (.tup ((gs.map (·.2)).map V.int)) → Q .non H')
theorem ok_House_init (T : Txt K mg A) : FnOk P w K mg base (L2.CX P w) 6 A.f_House_init A.d_House_init (["self", "hours", "gates"] : List Str) (spHouse K A) := by
  refine T.F_House_init.okX sc_House_init (fun vs H Q E h => ?_) (fun cdv Ar outer s H vs Q E hr h => ?_)
  · obtain ⟨x, dx, p, n, gs, rfl, _⟩ := h
    rfl
  · obtain ⟨x, dx, p, n, gs, rfl, hx, hG, hgl, hgz, k1, k2⟩ := h
    refine ⟨_, (pss_cons (ps_if (PW.pt (pw_or (pt_cmpR op_lt (pv 1) pe_int (nomark _)) (pw_or1 (pt_cmpR op_gt (pv 1) (ClX.pe_cval (pe_glob (v := .ref A.C_House) rfl T.g_House rfl)) (nomark _))))) (pss_one (ps_raise rfl (takes_of rfl rfl rfl rfl) (pmk_oex T.ox_BadNumber T.ni_BadNumber T.ti_BadNumber (ok_BadNumber_init T) (hr.mono (by omega)) (b_BadNumber_init T) .nil pass0 rfl T.g_BadNumber (pa_cons pe_str (pa_cons (pv 1) pa_nil))))) pss_nil)
        (pss_cons (ps_if (pt_cmpR op_eq (pe_callB len_K (by rfl) T.z_len (by decide +kernel) (pa_cons (pv 2) pa_nil)) pe_int (nomark _)) (pss_one (ps_raise rfl (takes_of rfl rfl rfl rfl) (pmk_oex T.ox_BadNumber T.ni_BadNumber T.ti_BadNumber (ok_BadNumber_init T) (hr.mono (by omega)) (b_BadNumber_init T) .nil pass0 rfl T.g_BadNumber (pa_cons pe_str (pa_cons pe_int pa_nil))))) pss_nil)
        (pss_cons (ps_if (pt_cmpR op_gt (pe_callB len_K (by rfl) T.z_len (by decide +kernel) (pa_cons (pv 2) pa_nil)) (ClX.pe_cval (pe_glob (v := .ref A.C_House) rfl T.g_House rfl)) (nomark _)) (pss_one (ps_raise rfl (takes_of rfl rfl rfl rfl) (pmk_oex T.ox_TooMany T.ni_TooMany T.ti_TooMany (ok_TooMany_init T) (hr.mono (by omega)) (b_TooMany_init T) .nil pass0 rfl T.g_TooMany (pa_cons pe_str (pa_cons (ClX.pe_cval (pe_glob (v := .ref A.C_House) rfl T.g_House rfl)) pa_nil))))) pss_nil)
        (pss_cons (ps_set (i := 3) sc_House_init.nd rfl (Or.inl rfl) (pe_lst pa_nil))
        (pss_cons (ps_set (i := 4) sc_House_init.nd rfl (Or.inl rfl) (pe_lst pa_nil))
        (pss_cons (ps_for (passes_of rfl) rfl (pi_listK (pv 2)) (pg_tup rfl (pgs_cons (pg_name (i := 5) sc_House_init.nd rfl (Or.inl rfl)) (pgs_cons (pg_name (i := 6) sc_House_init.nd rfl (Or.inl rfl)) pgs_nil))) (pss_cons (ps_expr (pe_call (ok_check_new_name T) (hr.mono (by omega)) rfl T.g_check_new_name T.k_check_new_name (b_check_new_name T) .nil (passes_call (takes_of rfl rfl rfl rfl) (fun _ _ _ _ h => h)) (pa_cons (pv 5) (pa_cons (pv 3) pa_nil))))
        (pss_cons (ps_if (PW.pt (pw_or (pt_cmpR op_lt (pv 6) pe_int (nomark _)) (pw_or1 (pt_cmpR op_gt (pv 6) (ClX.pe_cval (pe_glob (v := .ref A.C_House) rfl T.g_House rfl)) (nomark _))))) (pss_one (ps_raise rfl (takes_of rfl rfl rfl rfl) (pmk_oex T.ox_BadNumber T.ni_BadNumber T.ti_BadNumber (ok_BadNumber_init T) (hr.mono (by omega)) (b_BadNumber_init T) .nil pass0 rfl T.g_BadNumber (pa_cons pe_str (pa_cons (pv 6) pa_nil))))) pss_nil)
        (pss_cons (ps_expr (pe_bm PySem.F.plainAttrs_list PySem.F.slot_list_append PySem.F.type_list_append mt_append (pv 3) (pa_cons (pv 5) pa_nil)))
        (pss_one (ps_expr (pe_bm PySem.F.plainAttrs_list PySem.F.slot_list_append PySem.F.type_list_append mt_append (pv 4) (pa_cons (pv 6) pa_nil))))))))
        (pss_cons (ps_if (pt_cmpR op_gt (pe_op op_mul (pv 1) (pe_callB len_K (by rfl) T.z_len (by decide +kernel) (pa_cons (pv 2) pa_nil))) (ClX.pe_cval (pe_glob (v := .ref A.C_House) rfl T.g_House rfl)) (nomark _)) (pss_one (ps_raise rfl (takes_of rfl rfl rfl rfl) (pmk_oex T.ox_TooMany T.ni_TooMany T.ti_TooMany (ok_TooMany_init T) (hr.mono (by omega)) (b_TooMany_init T) .nil pass0 rfl T.g_TooMany (pa_cons pe_str (pa_cons (ClX.pe_cval (pe_glob (v := .ref A.C_House) rfl T.g_House rfl)) pa_nil))))) pss_nil)
        (pss_cons (ps_fld (pv 0) (pv 1) rfl)
        (pss_cons (ps_fld (pv 0) (pe_callTy tup_K (by rfl) T.z_tuple (by decide +kernel) (pa_cons (pv 3) pa_nil)) rfl)
        (pss_one (ps_fld (pv 0) (pe_callTy tup_K (by rfl) T.z_tuple (by decide +kernel) (pa_cons (pv 4) pa_nil)) rfl))))))))))), ?_⟩
    obtain ⟨mc, rdH, ⟨t1, c1⟩, ⟨t2, c2⟩, ⟨t3, c3⟩, ⟨t4, c4⟩⟩ := T.rd_House
    obtain ⟨vs, hvs, hvl, hall⟩ := hG.all
    have lenP : ∀ {σ : L2.St} {G : Hp}, σ[2]? = some (some (.ref p)) → Ex H G → Ev (tCB (rLenK K) (tCons (tVar 2) tNil)) σ G (.int (gs.length : Int)) := fun h2 e => ev_cb (r := rLenK K) (ea_cons (ev_var h2) ea_nil) fun H2 e2 Q q => ⟨.ref p, gs.length, rfl, .inl ⟨vs, ex_l (e.trans e2) hvs, hvl.symm⟩, q H2 (Ex.refl H2)⟩
    have cst : ∀ {f : Str} {z : Int} {t : Tok} {G : Hp} {σ : L2.St}, ClX.CVal K A.C_House mc f (V.int z) (Value.int z t) → Ev (ClX.tCVal K (tC (V.ref A.C_House)) f) σ G (.int z) := fun c H1 e Q q => ⟨A.C_House, mc, _, _, rfl, rdH, c, q H1 (Ex.refl H1)⟩
    try dsimp only
    refine q_when (b := decide (n < 1) || decide (24 < n)) (et_or (et_test (ev_op (ev_var (i := 1) rfl) ev_c rv_I0)) fun _ => et_test (ev_op (ev_var (i := 1) rfl) (cst c1) rv_I0)) (fun h H1 e1 => ?_) (fun h H1 e1 => ?_)
    · rw [Bool.or_eq_true, decide_eq_true_iff, decide_eq_true_iff] at h
      exact raise2 (C := A.C_BadNumber) (f := "name") (g := "value") (x := .str "hours") (y := .int n) T.ox_BadNumber (fun Q q => ⟨_, rfl, q⟩) (fun d H' e' hd => k1 .hours (if_pos h) d H' (e1.trans e') hd)
    rw [Bool.or_eq_false_iff, decide_eq_false_iff_not, decide_eq_false_iff_not] at h
    have a1 : ¬ (n < 1 ∨ 24 < n) := by omega
    try dsimp only
    refine q_when (b := decide ((gs.length : Int) = 0)) (et_test (ev_is (ev_op (lenP rfl e1) ev_c (rv_eq rfl)) (by rw [dec_ii]))) (fun h H2 e2 => ?_) (fun h H2 e2 => ?_)
    · have h := of_decide_eq_true h
      exact raise2 (C := A.C_BadNumber) (f := "name") (g := "value") (x := .str "gates") (y := .int 0) T.ox_BadNumber (fun Q q => q) (fun d H' e' hd => k1 .noGates ((if_neg a1).trans (if_pos (by omega))) d H' ((e1.trans e2).trans e') hd)
    have a2 : ¬ gs.length = 0 := by have := of_decide_eq_false h; omega
    replace e2 := e1.trans e2
    try dsimp only
    refine q_when (b := decide (4 < (gs.length : Int))) (et_test (ev_op (lenP rfl e2) (cst c2) rv_I0)) (fun h H3 e3 => ?_) (fun h H3 e3 => ?_)
    · have h := of_decide_eq_true h
      exact raise2 (C := A.C_TooMany) (f := "name") (g := "most") (x := .str "gates") (y := .int 4) T.ox_TooMany (fun Q q => ⟨A.C_House, mc, _, _, rfl, rdH, c2, q⟩) (fun d H' e' hd => k1 .manyGates ((if_neg a1).trans ((if_neg a2).trans (if_pos (by omega)))) d H' ((e2.trans e3).trans e') hd)
    have a3 : ¬ 4 < gs.length := by have := of_decide_eq_false h; omega
    replace e3 := e2.trans e3
    try dsimp only
    refine q_asgL (xs := []) (el_lst ea_nil (by decide)) fun np H4 hnp e4 h4 => ?_
    try dsimp only
    refine q_asgL (xs := []) (el_lst ea_nil (by decide)) fun sp H5 hsp e5 h5 => ?_
    have hne : np ≠ sp := ne_of_none h4 hsp
    have e05 := (e3.trans e4).trans e5
    have np0 : H np = none := fresh_back e3 hnp
    have sp0 : H sp = none := fresh_back (e3.trans e4) hsp
    try dsimp only
    refine q_forL (K := K) (a := p) (xs := vs) (ev_var (i := 2) rfl) (ex_l e05 hvs) (fun i σ' G => ∃ nv sv : Option V, σ' = [some (.ref x), some (.int n), some (.ref p), some (.ref np), some (.ref sp), nv, sv] ∧ Ex H G ∧ G np = some (.lst (((gs.take i).map (·.1)).map V.str)) ∧ G sp = some (.lst (((gs.take i).map (·.2)).map V.int)) ∧ scanG [] gs = scanG ((gs.take i).map (·.1)) (gs.drop i))
      (fun H6 e6 => ⟨none, none, rfl, e05.trans e6, (e5.trans e6) _ _ h4, e6 _ _ h5, rfl⟩) (fun i σ' G _ ⟨_, _, _, e, _⟩ => ex_l e hvs) ?_ ?_
    · rintro i v σ' G hv ⟨nv, sv, rfl, eG, hn, hs, hsc⟩
      obtain ⟨t, rfl, hall'⟩ := hall i v hv
      have hi : i < gs.length := by have := (List.getElem?_eq_some_iff.mp hv).1; omega
      have hg : gs[i]? = some gs[i] := List.getElem?_eq_getElem hi
      have ht := ex_t eG (hall' _ hg)
      have hz := hgz _ (List.getElem_mem hi)
      rw [List.drop_eq_getElem_cons hi] at hsc
      have htk : gs.take (i + 1) = gs.take i ++ [gs[i]] := List.take_succ_eq_append_getElem hi
      generalize gs[i] = g at *
      obtain ⟨z, st⟩ := g
      refine ⟨t, _, rfl, ht, rfl, .str z, _, rfl, .int st, _, rfl, rfl, ?_⟩
      have fault : ∀ e, scanG ((gs.take i).map (·.1)) ((z, st) :: gs.drop (i + 1)) = some e → houseErr n gs = some e := fun e he => he_scan a1 a2 a3 (by rw [hsc, he])
      try dsimp only
      refine ⟨_, rfl, _, rfl, z, np, (gs.take i).map (·.1), rfl, hz, sq_of hn, fun hb d H' e' hd => ?_, fun hb hm d H' e' hd => ?_, fun hb hm G1 g1 => ?_⟩
      · exact k1 (.name z) (fault _ (if_pos hb)) d H' (eG.trans e') hd
      · exact k1 (.again z) (fault _ ((if_neg (by rw [hb]; simp)).trans (if_pos hm))) d H' (eG.trans e') hd
      have f1 : ¬ goodName z = false := by rw [hb]; simp
      try dsimp only
      refine q_when (b := decide (st < 0) || decide (60 < st)) (et_or (et_test (ev_op (ev_var (i := 6) rfl) ev_c rv_I0)) fun _ => et_test (ev_op (ev_var (i := 6) rfl) (cst c4) rv_I0)) (fun h G2 g2 => ?_) (fun h G2 g2 => ?_)
      · rw [Bool.or_eq_true, decide_eq_true_iff, decide_eq_true_iff] at h
        exact raise2 (C := A.C_BadNumber) (f := "name") (g := "value") (x := .str "stake") (y := .int st) T.ox_BadNumber (fun Q q => ⟨_, rfl, q⟩) (fun d H' e' hd => k1 (.stake st) (fault _ ((if_neg f1).trans ((if_neg hm).trans (if_pos h)))) d H' (eG.trans (g1.trans (g2.trans e'))) hd)
      rw [Bool.or_eq_false_iff, decide_eq_false_iff_not, decide_eq_false_iff_not] at h
      have g12 := g1.trans g2
      have sz : ∀ {α : Type} (f : Str × Int → α) (V' : α → V), (((gs.take i).map f).map V').length < 100000 := fun f V' => by rw [List.length_map, List.length_map, List.length_take]; omega
      try dsimp only
      refine q_app (g12 _ _ hn) (ev_var (i := 3) rfl) (ev_var (i := 5) rfl) (sz _ _) fun G3 g3 => ?_
      try dsimp only
      refine s_app (xs := ((gs.take i).map (·.2)).map V.int) (by rw [upd_ne (Ne.symm hne)]; exact (g12.trans g3) _ _ hs) (ev_var (i := 4) rfl) (ev_var (i := 6) rfl) (sz _ _) fun G4 g4 => ?_
      refine ⟨_, _, rfl, Ex.mut ((Ex.mut (eG.trans (g12.trans g3)) np0).trans g4) sp0, ?_, ?_, ?_⟩
      · rw [upd_ne hne, g4 _ _ upd_same, htk, List.map_append, List.map_append]
        rfl
      · rw [upd_same, htk, List.map_append, List.map_append]
        rfl
      · rw [hsc, htk, List.map_append]
        exact (if_neg f1).trans ((if_neg hm).trans (if_neg (by omega)))
    rintro σ' G ⟨nv, sv, rfl, eG, hn, hs, hsc⟩
    rw [hvl, List.take_length] at hn hs hsc
    rw [List.drop_length] at hsc
    have hsc : scanG [] gs = none := hsc
    try dsimp only
    refine q_when (b := decide (48 < n * (gs.length : Int))) (et_test (ev_op (ev_op (ev_var (i := 1) rfl) (lenP rfl eG) (rv_I (show CMul n (gs.length : Int) from .inl ⟨by omega, by omega⟩))) (cst c3) rv_I0)) (fun h H7 e7 => ?_) (fun h H7 e7 => ?_)
    · exact raise2 (C := A.C_TooMany) (f := "name") (g := "most") (x := .str "cells") (y := .int 48) T.ox_TooMany (fun Q q => ⟨A.C_House, mc, _, _, rfl, rdH, c3, q⟩) (fun d H' e' hd => k1 .cells (by
        unfold houseErr
        rw [if_neg a1, if_neg a2, if_neg a3, hsc]
        exact if_pos (of_decide_eq_true h)) d H' (eG.trans (e7.trans e')) hd)
    have hno : houseErr n gs = none := by
      unfold houseErr
      rw [if_neg a1, if_neg a2, if_neg a3, hsc]
      exact if_neg (of_decide_eq_false h)
    have e07 := eG.trans e7
    have hx7 := e07 _ _ hx
    have hn7 := e7 _ _ hn
    have hs7 := e7 _ _ hs
    have xnp : x ≠ np := fun z => by rw [z, np0] at hx; cases hx
    have xsp : x ≠ sp := fun z => by rw [z, sp0] at hx; cases hx
    refine ⟨_, rfl, _, rfl, x, _, dx, [], rfl, hx7, T.cl_House, T.na_House_hours, by decide, ?_⟩
    refine ⟨_, rfl, np, _, rfl, .inl ⟨SqL.of (by rw [upd_ne (Ne.symm xnp)]; exact hn7), fun q hq => ?_⟩⟩
    have xq : q ≠ x := fun z => by rw [z, upd_same] at hq; cases hq
    have hq7 : H7 q = none := by rw [upd_ne xq] at hq; exact hq
    refine ⟨_, rfl, x, _, dx, _, rfl, by rw [upd_ne (Ne.symm xq), upd_same], T.cl_House, T.na_House_names, by show 1 < 1000; decide, ?_⟩
    have spq : sp ≠ q := fun z => by rw [← z, hs7] at hq7; cases hq7
    refine ⟨_, rfl, sp, _, rfl, .inl ⟨SqL.of (by rw [upd_ne (Ne.symm xsp), upd_ne spq, upd_ne (Ne.symm xsp)]; exact hs7), fun r hr => ?_⟩⟩
    have xr : r ≠ x := fun z => by rw [z, upd_same] at hr; cases hr
    have rq : r ≠ q := fun z => by rw [z, upd_ne xq, upd_same] at hr; cases hr
    have hr7 : H7 r = none := by rw [upd_ne xr, upd_ne rq, upd_ne xr] at hr; exact hr
    refine ⟨_, rfl, x, _, dx, _, rfl, by rw [upd_ne (Ne.symm xr), upd_same], T.cl_House, T.na_House_stakes, by show 2 < 1000; decide, ?_⟩
    refine k2 hno q r _ (fun b o hb ho => ?_) (fresh_back e07 hq7) (fresh_back e07 hr7) ?_ ?_ ?_
    · have h7 := e07 _ _ ho
      rw [upd_ne hb, upd_ne (ne_of_none h7 hr7), upd_ne hb, upd_ne (ne_of_none h7 hq7), upd_ne hb]
      exact h7
    · rw [upd_same, putF3]
      rfl
    · rw [upd_ne xq, upd_ne (Ne.symm rq), upd_ne xq, upd_same]
    · rw [upd_ne xr, upd_same]

def spHLen (A : Ads) : Sp := fun vs H Q _ => ∃ (v : V) (n : Int) (gs : List (Str × Int)), vs = [v] ∧ HouseIs A.C_House v H n gs ∧ gs.length ≤ 100 ∧ ∀ H', Ex H H' → Q (.int (gs.length : Int)) H'
theorem ev_hnames {K : PySem.W.Frag} {C : Addr} {te : TE} {σ : L2.St} {H : Hp} {a dx p q : Addr} {n : Int} (h : Ev te σ H (.ref a)) (hi : H a = some (.ins C dx (houF n p q))) (c : Cls K C) (na : NoAttr K C "names") : Ev (tFld K te "names") σ H (.ref p) := fun H1 e Q q' =>
  h H1 e _ fun H2 e2 => ⟨a, _, dx, _, _, rfl, e2 _ _ (e _ _ hi), c, na, rfl, q' H2 e2⟩
theorem ev_hhours {K : PySem.W.Frag} {C : Addr} {te : TE} {σ : L2.St} {H : Hp} {a dx p q : Addr} {n : Int} (h : Ev te σ H (.ref a)) (hi : H a = some (.ins C dx (houF n p q))) (c : Cls K C) (na : NoAttr K C "hours") : Ev (tFld K te "hours") σ H (.int n) := fun H1 e Q q' =>
  h H1 e _ fun H2 e2 => ⟨a, _, dx, _, _, rfl, e2 _ _ (e _ _ hi), c, na, rfl, q' H2 e2⟩
theorem ev_hstakes {K : PySem.W.Frag} {C : Addr} {te : TE} {σ : L2.St} {H : Hp} {a dx p q : Addr} {n : Int} (h : Ev te σ H (.ref a)) (hi : H a = some (.ins C dx (houF n p q))) (c : Cls K C) (na : NoAttr K C "stakes") : Ev (tFld K te "stakes") σ H (.ref q) := fun H1 e Q q' =>
  h H1 e _ fun H2 e2 => ⟨a, _, dx, _, _, rfl, e2 _ _ (e _ _ hi), c, na, rfl, q' H2 e2⟩
theorem ok_House_len (T : Txt K mg A) : FnOk P w K mg base CX0 1 A.f_House_len A.d_House_len (["self"] : List Str) (spHLen A) := by
  refine T.F_House_len.ok sc_House_len (fun vs H Q E h => ?_) (fun cdv Ar outer s H vs Q E hr h => ?_)
  · obtain ⟨v, n, gs, rfl, _⟩ := h
    rfl
  · obtain ⟨v, n, gs, rfl, ⟨a, dx, p, q, rfl, h1, h2, h3⟩, hl, k⟩ := h
    refine ⟨_, (pss_one (ps_ret (pe_callB len_K (by rfl) T.z_len (by decide +kernel) (pa_cons (pe_fldK (pv 0) rfl) pa_nil)))), ?_⟩
    try dsimp only
    exact s_ret (v := .int (gs.length : Int)) (ev_cb (r := rLenK K) (ea_cons (ev_hnames (ev_var (i := 0) rfl) h1 T.cl_House T.na_House_names) ea_nil) fun H2 e2 Q q' => ⟨.ref p, gs.length, rfl, .inr ⟨_, st_of (e2 _ _ h2), by rw [List.length_map, List.length_map]⟩, q' H2 (Ex.refl H2)⟩) fun H1 e1 => k H1 e1

def WErrE (A : Ads) (H : Hp) (E : XK) : WErr → Prop
  | .wlen k => ∀ d H', Ex H H' → H' d = some (.xd [("length", .int (k : Int))]) → E (.ref A.C_WrongLength) (some d) H'
  | .str x => ∀ d H', Ex H H' → H' d = some (.xd [("value", .int x), ("name", .str "strength")]) → E (.ref A.C_BadNumber) (some d) H'
theorem WErrE.ex {A : Ads} {H H1 : Hp} {E : XK} {e : WErr} (g : Ex H H1) (h : WErrE A H E e) : WErrE A H1 E e := by
  cases e with
  | wlen k => exact fun d H' e' => h d H' (g.trans e')
  | str x => exact fun d H' e' => h d H' (g.trans e')
def spChkRow (K : PySem.W.Frag) (A : Ads) : Sp := fun vs H Q E => ∃ (v : V) (n : Nat) (gs : List (Str × Int)) (p : Addr) (xs : List Int), vs = [v, .ref p] ∧ HouseIs A.C_House v H (n : Int) gs ∧ SqL K H p (xs.map V.int) ∧ (∀ e, (rowAll n xs).head? = some e → WErrE A H E e) ∧ (rowAll n xs = [] → ∀ H', Ex H H' → Q .non H')
theorem ok_u_check_row (T : Txt K mg A) : FnOk P w K mg base (L2.CX P w) 5 A.f_u_check_row A.d_u_check_row (["house", "row"] : List Str) (spChkRow K A) := by
  refine T.F_u_check_row.okX sc_u_check_row (fun vs H Q E h => ?_) (fun cdv Ar outer s H vs Q E hr h => ?_)
  · obtain ⟨v, n, gs, p, xs, rfl, _⟩ := h
    rfl
  · obtain ⟨v, n, gs, p, xs, rfl, hv, hp, k1, k2⟩ := h
    refine ⟨_, (pss_cons (ps_if (pt_cmpR op_ne (pe_callB len_K (by rfl) T.z_len (by decide +kernel) (pa_cons (pv 1) pa_nil)) (pe_fldK (pv 0) rfl) (nomark _)) (pss_one (ps_raise rfl (takes_of rfl rfl rfl rfl) (pmk_oex T.ox_WrongLength T.ni_WrongLength T.ti_WrongLength (ok_WrongLength_init T) (hr.mono (by omega)) (b_WrongLength_init T) .nil pass0 rfl T.g_WrongLength (pa_cons (pe_callB len_K (by rfl) T.z_len (by decide +kernel) (pa_cons (pv 1) pa_nil)) pa_nil)))) pss_nil)
        (pss_one (ps_for (passes_of rfl) rfl (pi_listK (pv 1)) (pg_name (i := 2) sc_u_check_row.nd rfl (Or.inl rfl)) (pss_one (ps_if (PW.pt (pw_or (pt_cmpR op_lt (pv 2) pe_int (nomark _)) (pw_or1 (pt_cmpR op_gt (pv 2) (ClX.pe_cval (pe_glob (v := .ref A.C_Watch) rfl T.g_Watch rfl)) (nomark _))))) (pss_one (ps_raise rfl (takes_of rfl rfl rfl rfl) (pmk_oex T.ox_BadNumber T.ni_BadNumber T.ti_BadNumber (ok_BadNumber_init T) (hr.mono (by omega)) (b_BadNumber_init T) .nil pass0 rfl T.g_BadNumber (pa_cons pe_str (pa_cons (pv 2) pa_nil))))) pss_nil))))), ?_⟩
    obtain ⟨mc, rdW, ⟨t1, c1⟩⟩ := T.rd_Watch
    obtain ⟨a, dx, p1, q1, rfl, h1, _⟩ := id hv
    try dsimp only
    refine q_when (b := !decide ((xs.length : Int) = (n : Int))) (et_test (ev_is (ev_op (ev_cb (r := rLenK K) (ea_cons (ev_var (i := 1) rfl) ea_nil) fun H2 e2 Q q => ⟨.ref p, xs.length, rfl, .inl ⟨_, ex_l e2 hp, (List.length_map _).symm⟩, q H2 (Ex.refl H2)⟩) (ev_hhours (ev_var (i := 0) rfl) h1 T.cl_House T.na_House_hours) (rv_ne rfl)) (by rw [dec_ii]))) (fun hb H1 e1 => ?_) (fun hb H1 e1 => ?_)
    · have hb : ¬ ((xs.length : Int) = (n : Int)) := by simpa using hb
      have hb : ¬ xs.length = n := by omega
      refine raise1 (C := A.C_WrongLength) (f := "length") (x := .int (xs.length : Int)) T.ox_WrongLength (fun Q q => ?_) (fun d H' e' hd => k1 (.wlen xs.length) (by unfold rowAll; rw [if_neg hb]; rfl) d H' (e1.trans e') hd)
      exact ⟨_, rfl, .ref p, xs.length, rfl, .inl ⟨_, ex_l e1 hp, (List.length_map _).symm⟩, q⟩
    have hb : (xs.length : Int) = (n : Int) := by simpa using hb
    have hb : xs.length = n := by omega
    try dsimp only
    refine s_forLn (K := K) (a := p) (xs := xs.map V.int) (j := 2) (ev_var (i := 1) rfl) (ex_l e1 hp) (fun i σ' G => ∃ v2 : Option V, σ' = [some (.ref a), some (.ref p), v2] ∧ Ex H G ∧ ∀ y ∈ xs.take i, badStr y = false) (fun H2 e2 => ⟨_, rfl, e1.trans e2, fun y hy => by cases hy⟩) (fun i σ' G _ ⟨_, _, e, _⟩ => ex_l e hp) ?_ ?_
    · rintro i y σ' G hy ⟨v2, rfl, eG, hall⟩
      obtain ⟨m, rfl, hm⟩ := some_int hy
      have hi : i < xs.length := (List.getElem?_eq_some_iff.mp hm).1
      have htk : xs.take (i + 1) = xs.take i ++ [m] := by
        rw [List.take_succ_eq_append_getElem hi]
        rw [List.getElem?_eq_getElem hi] at hm
        rw [Option.some.inj hm]
      have eqb : (decide (m < 0) || decide (m > 96)) = badStr m := by
        unfold badStr
        rw [Bool.eq_iff_iff]
        simp
      try dsimp only
      refine s_when (b := decide (m < 0) || decide (m > 96)) (et_or (et_test (ev_op (ev_var (i := 2) rfl) ev_c rv_I0)) fun _ => et_test (ev_op (ev_var (i := 2) rfl) (fun H1 e Q q => ⟨A.C_Watch, mc, _, _, rfl, rdW, c1, q H1 (Ex.refl H1)⟩) rv_I0)) (fun hbad G1 g1 => ?_) (fun hbad G1 g1 => ⟨_, rfl, eG.trans g1, fun y hy => ?_⟩)
      all_goals rw [eqb] at hbad
      · refine raise2 (C := A.C_BadNumber) (f := "name") (g := "value") (x := .str "strength") (y := .int m) T.ox_BadNumber (fun Q q => ⟨_, rfl, q⟩) (fun d H' e' hd => k1 (.str m) ?_ d H' ((eG.trans g1).trans e') hd)
        unfold rowAll
        rw [if_pos hb, List.nil_append, List.head?_map, ← List.take_append_drop (i + 1) xs, htk, List.filter_append, List.filter_append, List.filter_eq_nil_iff.mpr fun y hy => by rw [hall y hy]; simp]
        simp [hbad]
      · rw [htk] at hy
        rcases List.mem_append.mp hy with h | h
        · exact hall y h
        · rw [List.mem_singleton.mp h]; exact hbad
    rintro σ' G ⟨v2, rfl, eG, hall⟩
    rw [List.length_map, List.take_length] at hall
    refine k2 ?_ G eG
    unfold rowAll
    rw [if_pos hb, List.nil_append, List.map_eq_nil_iff, List.filter_eq_nil_iff]
    exact fun y hy => by rw [hall y hy]; simp

theorem ev_houseLen {A : Ads} {E : XK} {ta : TE} {σ : L2.St} {H : Hp} {v : V} {n : Int} {gs : List (Str × Int)} (ha : Ev ta σ H v) (hv : HouseIs A.C_House v H n gs) (hl : gs.length ≤ 100) : Ev (tCB (rOwnLen A.C_House (spHLen A) E) (tCons ta tNil)) σ H (.int (gs.length : Int)) := fun H1 e Q q =>
  ha H1 e _ fun H2 e2 => by
    have h2 := hv.ex (e.trans e2)
    obtain ⟨a, dx, p, q', rfl, h1, _⟩ := id h2
    exact ⟨a, dx, _, rfl, h1, .ref a, n, gs, rfl, h2, hl, fun H' e' => ⟨_, rfl, ⟨by omega, by omega⟩, q H' (e2.trans e')⟩⟩

theorem putW {y z : V} : putF "_rows" z (putF "house" y []) = watF y z := by
  have h1 : ¬ ("house" : Str) = "_rows" := by decide +kernel
  show (if ("house" : Str) = "_rows" then _ else (("house" : Str), y) :: putF "_rows" z []) = _
  rw [if_neg h1]
  rfl
def spWatch (K : PySem.W.Frag) (A : Ads) : Sp := fun vs H Q E => ∃ (x dx : Addr) (v : V) (p : Addr) (n : Nat) (gs : List (Str × Int)) (xss : List (List Int)), vs = [.ref x, v, .ref p] ∧ H x = some (.ins A.C_Watch dx []) ∧ HouseIs A.C_House v H (n : Int) gs ∧ gs.length ≤ 100 ∧ RowsL K H p xss ∧ (∀ e, watchErr n gs.length xss = some e → WErrE A H E e) ∧
  (watchErr n gs.length xss = none → ∀ w H', (∀ b o, b ≠ x → H b = some o → H' b = some o) → (∀ G : Hp, (∀ b o, b ≠ x → H b = none → H' b = some o → G b = some o) → RowsU w G xss) → H' x = some (.ins A.C_Watch dx (watF v w)) → Q .non H')
theorem ok_Watch_init (T : Txt K mg A) : FnOk P w K mg base (L2.CX P w) 6 A.f_Watch_init A.d_Watch_init (["self", "house", "rows"] : List Str) (spWatch K A) := by
  refine T.F_Watch_init.okX sc_Watch_init (fun vs H Q E h => ?_) (fun cdv Ar outer s H vs Q E hr h => ?_)
  · obtain ⟨x, dx, v, p, n, gs, xss, rfl, _⟩ := h
    rfl
  · obtain ⟨x, dx, v, p, n, gs, xss, rfl, hx, hv, hl, hR, kE, k⟩ := h
    refine ⟨_, (pss_cons (ps_if (pt_cmpR op_ne (pe_callB len_K (by rfl) T.z_len (by decide +kernel) (pa_cons (pv 2) pa_nil)) (pe_callB (call_lenO (E := E0) T.M_House_len (ok_House_len T) (hr.mono (by omega)) (b_House_len T) (pAt pass0)) (by rfl) T.z_len (by decide +kernel) (pa_cons (pv 1) pa_nil)) (nomark _)) (pss_one (ps_raise rfl (takes_of rfl rfl rfl rfl) (pmk_oex T.ox_WrongLength T.ni_WrongLength T.ti_WrongLength (ok_WrongLength_init T) (hr.mono (by omega)) (b_WrongLength_init T) .nil pass0 rfl T.g_WrongLength (pa_cons (pe_callB len_K (by rfl) T.z_len (by decide +kernel) (pa_cons (pv 2) pa_nil)) pa_nil)))) pss_nil)
        (pss_cons (ps_for (passes_of rfl) rfl (pi_listK (pv 2)) (pg_name (i := 3) sc_Watch_init.nd rfl (Or.inl rfl)) (pss_one (ps_expr (pe_call (ok_u_check_row T) (hr.mono (by omega)) rfl T.g_u_check_row T.k_u_check_row (b_u_check_row T) .nil (passes_call (takes_of rfl rfl rfl rfl) (fun _ _ _ _ h => h)) (pa_cons (pv 1) (pa_cons (pv 3) pa_nil))))))
        (pss_cons (ps_fld (pv 0) (pv 1) rfl)
        (pss_one (ps_fld (pv 0) (pe_callTy tup_K (by rfl) T.z_tuple (by decide +kernel) (pa_cons (pe_lc (own := [("row", 3)]) (g := gName 3) (tt := tYes) rfl sc_Watch_init.nd (pi_listK (pv 2)) (blkOk_by (own := [("row", 3)]) (N := N_Watch_init) (sc := defScope s_Watch_init) (by decide +kernel)) (fun _ _ _ _ _ => (pg_name (i := 3) sc_Watch_init.nd rfl (Or.inl rfl))) (fun _ _ _ _ _ => pts_nil) (fun _ _ _ _ _ => (pe_callTy tup_K (by rfl) T.z_tuple (by decide +kernel) (pa_cons (pv 3) pa_nil)))) pa_nil)) rfl))))), ?_⟩
    obtain ⟨vs, hvs, hvl, hall⟩ := hR.all
    try dsimp only
    refine q_when (b := !decide ((xss.length : Int) = (gs.length : Int))) (et_test (ev_is (ev_op (ev_cb (r := rLenK K) (ea_cons (ev_var (i := 2) rfl) ea_nil) fun H2 e2 Q q => ⟨.ref p, vs.length, rfl, .inl ⟨_, ex_l e2 hvs, rfl⟩, q H2 (Ex.refl H2)⟩) (ev_houseLen (ev_var (i := 1) rfl) hv hl) (rv_ne rfl)) (by rw [dec_ii, hvl]))) (fun hb H1 e1 => ?_) (fun hb H1 e1 => ?_)
    · have hb : ¬ ((xss.length : Int) = (gs.length : Int)) := by simpa using hb
      have hb : ¬ xss.length = gs.length := by omega
      refine raise1 (C := A.C_WrongLength) (f := "length") (x := .int (xss.length : Int)) T.ox_WrongLength (fun Q q => ?_) (fun d H' e' hd => kE (.wlen xss.length) (by unfold watchErr watchAll; rw [if_neg hb]; rfl) d H' (e1.trans e') hd)
      exact ⟨_, rfl, .ref p, xss.length, rfl, .inl ⟨_, ex_l e1 hvs, hvl.symm⟩, q⟩
    have hb : (xss.length : Int) = (gs.length : Int) := by simpa using hb
    have hb : xss.length = gs.length := by omega
    try dsimp only
    refine q_forLn (K := K) (a := p) (xs := vs) (j := 3) (ev_var (i := 2) rfl) (ex_l e1 hvs) (fun i σ' G => ∃ v3 : Option V, σ' = [some (.ref x), some v, some (.ref p), v3] ∧ Ex H G ∧ (xss.take i).flatMap (rowAll n) = []) (fun H2 e2 => ⟨_, rfl, e1.trans e2, rfl⟩) (fun i σ' G _ ⟨_, _, e, _⟩ => ex_l e hvs) ?_ ?_
    · rintro i y σ' G hy ⟨v3, rfl, eG, hfl⟩
      obtain ⟨t, rfl, ht⟩ := hall i y hy
      have hi : i < xss.length := by have := (List.getElem?_eq_some_iff.mp hy).1; omega
      have htk : xss.take (i + 1) = xss.take i ++ [xss.getD i []] := by
        rw [List.take_succ_eq_append_getElem hi, List.getD_eq_getElem?_getD, List.getElem?_eq_getElem hi]
        rfl
      try dsimp only
      refine ⟨_, rfl, _, rfl, v, n, gs, t, xss.getD i [], rfl, hv.ex eG, ex_l eG ht, fun er her => ?_, fun hok G1 g1 => ⟨_, rfl, eG.trans g1, ?_⟩⟩
      · refine (kE er ?_).ex eG
        unfold watchErr watchAll
        rw [if_pos hb, List.nil_append, ← List.take_append_drop (i + 1) xss, htk, List.flatMap_append, List.flatMap_append, hfl, List.nil_append, List.flatMap_cons, List.flatMap_nil, List.append_nil, List.head?_append, her]
        rfl
      · rw [htk, List.flatMap_append, hfl, List.flatMap_cons, hok]
        rfl
    rintro σ' G ⟨v3, rfl, eG, hfl⟩
    rw [hvl, List.take_length] at hfl
    have hnone : watchErr n gs.length xss = none := by
      unfold watchErr watchAll
      rw [if_pos hb, List.nil_append, hfl]
      rfl
    have hS := watch_good hnone
    have hln := hS.len
    replace k := k hnone
    have hxG := eG _ _ hx
    refine ⟨_, rfl, _, rfl, x, _, dx, [], rfl, hxG, T.cl_Watch, T.na_Watch_house, by decide, ?_⟩
    try dsimp only
    have hR2 : RowsL K (upd G x (.ins A.C_Watch dx (putF "house" v []))) p xss := (hR.ex eG).ins hxG
    obtain ⟨us, hus, hul, hua⟩ := hR2.all
    generalize hHx : upd G x (.ins A.C_Watch dx (putF "house" v [])) = Hx at *
    have lc := en_tupN (K := K) (en_lc (wi := iList K (tVar 2)) (g := gName 3) (te := tCB (rTupOf K) (tCons (tVar 3) tNil)) (σ := [some (.ref x), some v, some (.ref p), v3]) (H := Hx) (vs := [3]) (fun i w G => ∃ t, w = .ref t ∧ G t = some (.tup ((xss.getD i []).map V.int))) (ei_list (K := K) (eb_held (i := 2) rfl hus)) (by rw [hul, hln]; omega) bd_at (fun i _ => rfl) (fun i H2 hi e2 => by
      have e : us[i]? = some us[i] := List.getElem?_eq_getElem hi
      obtain ⟨t, ht, hT⟩ := hua i _ e
      rw [e, ht]
      exact en_tupL (ev_var (i := 3) rfl) (ex_l e2 hT)))
    refine lc Hx (Ex.refl _) _ fun w H8 e8 hw => ?_
    have hx8 : H8 x = some (.ins A.C_Watch dx (putF "house" v [])) := e8 _ _ (by rw [← hHx, upd_same])
    refine ⟨_, rfl, x, _, dx, _, rfl, hx8, T.cl_Watch, T.na_Watch_rows, by show 1 < 1000; decide, ?_⟩
    refine k w _ (fun b o hb ho => ?_) (fun F hF => ?_) ?_
    · rw [upd_ne hb]
      exact e8 _ _ (by rw [← hHx, upd_ne hb]; exact eG _ _ ho)
    · obtain ⟨q, ws, rfl, h1, h2, h3⟩ := hw F fun b o h1 h2 => by
        have hb : b ≠ x := fun z => by rw [z, ← hHx, upd_same] at h1; cases h1
        refine hF b o hb ?_ (by rw [upd_ne hb]; exact h2)
        rw [← hHx, upd_ne hb] at h1
        exact fresh_back eG h1
      exact ⟨q, ws, rfl, h1, by rw [h2, hul], h3⟩
    · rw [upd_same, putW]

theorem en_watch {K : PySem.W.Frag} {A : Ads} {E : XK} {σ : L2.St} {H : Hp} {t1 t2 : TE} {v : V} {n : Nat} {gs : List (Str × Int)} {xss : List (List Int)} (h1 : Ev t1 σ H v) (h2 : EvR t2 σ H fun v G => ∃ p, v = .ref p ∧ RowsL K G p xss) (hv : HouseIs A.C_House v H (n : Int) gs) (hl : gs.length ≤ 100) (hS : Shape (n : Int) gs.length xss) :
    EvNew (tMake A.C_Watch (spWatch K A) [] E (tCons t1 (tCons t2 tNil))) σ H fun w G => WatchIs A.C_Watch w G v xss := fun H1 e Q q =>
  h1 H1 e _ fun H2 e2 => h2 H2 (e.trans e2) _ fun w H3 e3 hw => by
    obtain ⟨p, rfl, hR⟩ := hw
    intro x dx hx hdx hne
    have eN : Ex H3 (upd (upd H3 dx (.own x)) x (.ins A.C_Watch dx [])) := (Ex.new hdx).trans (Ex.new (by rw [upd_ne (Ne.symm hne)]; exact hx))
    refine ⟨x, dx, v, p, n, gs, xss, rfl, upd_same, hv.ex (((e.trans e2).trans e3).trans eN), hl, hR.ex eN, (fun er he => by rw [good_watch hS] at he; cases he), fun _ w H' hk hU hx' => ⟨rfl, ?_⟩⟩
    have e' : Ex H3 H' := fun c o hc => hk c o (fun z => by rw [z, hx] at hc; cases hc) (eN c o hc)
    exact q _ H' ((e2.trans e3).trans e') fun G g => ⟨x, dx, w, rfl, g _ _ (fresh_back (e2.trans e3) hx) hx', hU G fun b o _ h1' h2' => g b o (fresh_back ((e2.trans e3).trans eN) h1') h2'⟩

theorem q_asgN {te : TE} {tz : TS} {D : Ends} {σ : L2.St} {H : Hp} {i : Nat} {P : V → Hp → Prop} (h : EvNew te σ H P) (k : ∀ v H1, Ex H H1 → P v H1 → tz D (σ.set i (some v)) H1) : tSeq (tAsg te (gName i)) tz D σ H := q_asgR h.er k

structure WatchOk (K : PySem.W.Frag) (A : Ads) (v : V) (H : Hp) (h : V) (n : Nat) (gs : List (Str × Int)) (xss : List (List Int)) : Prop where
  w : WatchIs A.C_Watch v H h xss
  hs : HouseIs A.C_House h H (n : Int) gs
  gl : gs.length ≤ 100
  sh : Shape (n : Int) gs.length xss
  nb : 1 ≤ n ∧ n ≤ 1000
theorem WatchOk.ex {K : PySem.W.Frag} {A : Ads} {v h : V} {H H' : Hp} {n : Nat} {gs : List (Str × Int)} {xss : List (List Int)} (e : Ex H H') (q : WatchOk K A v H h n gs xss) : WatchOk K A v H' h n gs xss := ⟨q.w.ex e, q.hs.ex e, q.gl, q.sh, q.nb⟩

theorem ev_has {A : Ads} {ty tv : TE} {σ : L2.St} {H : Hp} {v : V} {z n : Int} {xs : List Int} (hy : Ev ty σ H (.int z)) (hv : Ev tv σ H v) (hL : LotIs A.C_Lot v H n xs) : Ev (tOpS (rOwnIn A.C_Lot (spLotHas A) fun _ => E0) ty tv) σ H (.bl (decide (z % n ∈ xs))) := fun H1 e Q q =>
  hy H1 e _ fun H2 e2 => hv H2 (e.trans e2) _ fun H3 e3 => by
    have h3 := hL.ex ((e.trans e2).trans e3)
    obtain ⟨a, dx, l, rfl, h1, _⟩ := id h3.at_
    exact ⟨a, dx, _, rfl, h1, .ref a, z, n, xs, rfl, h3, fun H' e' => ⟨_, rfl, q H' ((e2.trans e3).trans e')⟩⟩

theorem rows_of {K : PySem.W.Frag} {G : Hp} {n : Nat} {xss : List (List Int)} {v : V} (h : ListP n (fun i w G => ∃ t, w = .ref t ∧ G t = some (.lst ((xss.getD i []).map V.int))) v G) (hn : n = xss.length) : ∃ p, v = .ref p ∧ RowsL K G p xss := by
  obtain ⟨p, ws, rfl, g1, g2, g3⟩ := h
  exact ⟨p, rfl, ws, sq_of g1, g2.trans hn, fun i v hv => (g3 i v hv).imp fun t ht => ⟨ht.1, sq_of ht.2⟩⟩

structure LotsL (K : PySem.W.Frag) (A : Ads) (H : Hp) (p : Addr) (ls : List (Int × List Int)) : Prop where
  all : ∃ vs : List V, SqL K H p vs ∧ vs.length = ls.length ∧ ∀ (i : Nat) v l, vs[i]? = some v → ls[i]? = some l → LotIs A.C_Lot v H l.1 l.2
theorem LotsL.ex {K : PySem.W.Frag} {A : Ads} {H H' : Hp} {p : Addr} {ls : List (Int × List Int)} (e : Ex H H') (h : LotsL K A H p ls) : LotsL K A H' p ls := by
  obtain ⟨vs, h1, h2, h3⟩ := h.all
  exact ⟨vs, ex_l e h1, h2, fun i v l hv hl => (h3 i v l hv hl).ex e⟩
def rowOf (n : Nat) (xs : List Int) : List Int := (List.range n).map fun h : Nat => if (h : Int) ∈ xs then 1 else 0
def spOfLots (K : PySem.W.Frag) (A : Ads) : Sp := fun vs H Q E => ∃ (v : V) (p : Addr) (n : Nat) (gs : List (Str × Int)) (ls : List (Int × List Int)), vs = [.ref A.C_Watch, v, .ref p] ∧ HouseIs A.C_House v H (n : Int) gs ∧ gs.length ≤ 100 ∧ (1 ≤ n ∧ n ≤ 360) ∧ LotsL K A H p ls ∧
  (ls.length ≠ gs.length → ∀ d H', Ex H H' → H' d = some (.xd [("length", .int (ls.length : Int))]) → E (.ref A.C_WrongLength) (some d) H') ∧
  (ls.length = gs.length → (∃ l ∈ ls, l.1 ≠ (n : Int)) → ∀ H', Ex H H' → E (.ref A.C_OtherHours) none H') ∧
  (ls.length = gs.length → (∀ l ∈ ls, l.1 = (n : Int)) → ∀ w H', Ex H H' → WatchOk K A w H' v n gs (ls.map fun l => rowOf n l.2) → Q w H')
theorem ok_Watch_of_lots (T : Txt K mg A) : FnOk P w K mg base (L2.CX P w) 9 A.f_Watch_of_lots A.d_Watch_of_lots (["cls", "house", "lots"] : List Str) (spOfLots K A) := by
  refine T.F_Watch_of_lots.okX sc_Watch_of_lots (fun vs H Q E h => ?_) (fun cdv Ar outer s H vs Q E hr h => ?_)
  · obtain ⟨v, p, n, gs, ls, rfl, _⟩ := h
    rfl
  · obtain ⟨v, p, n, gs, ls, rfl, hv, hl, hn, hL, k1, k2, k3⟩ := h
    refine ⟨_, (pss_cons (ps_if (pt_cmpR op_ne (pe_callB len_K (by rfl) T.z_len (by decide +kernel) (pa_cons (pv 2) pa_nil)) (pe_callB (call_lenO (E := E0) T.M_House_len (ok_House_len T) (hr.mono (by omega)) (b_House_len T) (pAt pass0)) (by rfl) T.z_len (by decide +kernel) (pa_cons (pv 1) pa_nil)) (nomark _)) (pss_one (ps_raise rfl (takes_of rfl rfl rfl rfl) (pmk_oex T.ox_WrongLength T.ni_WrongLength T.ti_WrongLength (ok_WrongLength_init T) (hr.mono (by omega)) (b_WrongLength_init T) .nil pass0 rfl T.g_WrongLength (pa_cons (pe_callB len_K (by rfl) T.z_len (by decide +kernel) (pa_cons (pv 2) pa_nil)) pa_nil)))) pss_nil)
        (pss_cons (ps_for (passes_of rfl) rfl (pi_listK (pv 2)) (pg_name (i := 3) sc_Watch_of_lots.nd rfl (Or.inl rfl)) (pss_one (ps_if (pt_cmpR op_ne (pe_fldK (pv 3) rfl) (pe_fldK (pv 1) rfl) (nomark _)) (pss_one (ps_raise rfl (takes_of rfl rfl rfl rfl) (pmk_none PySem.F.excBase_ValueError T.xP_OtherHours T.g_OtherHours T.kP_OtherHours (raises_own T.bP_OtherHours T.tP_OtherHours) rfl))) pss_nil)))
        (pss_one (ps_ret (pe_makeV (i := 0) T.mk_Watch (ok_Watch_init T) (hr.mono (by omega)) rfl (Or.inl rfl) (b_Watch_init T) .nil (passes_call (takes_of rfl rfl rfl rfl) (fun _ _ _ _ h => h)) (pa_cons (pv 1) (pa_cons (pe_lc (own := [("lot", 3)]) (g := gName 3) (tt := tYes) rfl sc_Watch_of_lots.nd (pi_listK (pv 2)) (blkOk_by (own := [("lot", 3)]) (N := N_Watch_of_lots) (sc := defScope s_Watch_of_lots) (by decide +kernel)) (fun _ _ _ _ _ => (pg_name (i := 3) sc_Watch_of_lots.nd rfl (Or.inr rfl))) (fun _ _ _ _ _ => pts_nil) (fun _ _ _ _ _ => (pe_lc (own := [("hour", 4)]) (g := gName 4) (tt := tYes) rfl sc_Watch_of_lots.nd (pi_range1 rfl T.z_range (pa_cons (pe_fldK (pv 1) rfl) pa_nil)) (by dsimp only [cxOf, Cx.nox, Cx.blk, compEnvC]; show BlkOk _ (relS _ (defScope s_Watch_of_lots)) _ _; exact blkOk_by (own := [("hour", 4)]) (N := N_Watch_of_lots) (by decide +kernel)) (fun _ _ _ _ _ => (pg_name (i := 4) sc_Watch_of_lots.nd rfl (Or.inl rfl))) (fun _ _ _ _ _ => pts_nil) (fun _ _ _ _ _ => (pe_callTy call_int1 (by rfl) T.z_int (by decide +kernel) (pa_cons (pe_cmpS (op_ownIn (E := fun _ => E0) T.M_Lot_contains (ok_Lot_contains T) (hr.mono (by omega)) (b_Lot_contains T) (pAt pass0)) (pv 4) (pv 3) (by with_unfolding_all rfl)) pa_nil)))))) pa_nil))))))), ?_⟩
    obtain ⟨vs, hvs, hvl, hall⟩ := hL.all
    obtain ⟨a3, dx3, p3, q3, rfl, h5, _⟩ := id hv
    have lot_at : ∀ {i : Nat} {y : V}, vs[i]? = some y → ∃ l, ls[i]? = some l ∧ l ∈ ls ∧ LotIs A.C_Lot y H l.1 l.2 := fun {i y} hy => by
      have hi : i < ls.length := by have := (List.getElem?_eq_some_iff.mp hy).1; omega
      have e : ls[i]? = some ls[i] := List.getElem?_eq_getElem hi
      exact ⟨ls[i], e, List.getElem_mem hi, hall i y _ hy e⟩
    try dsimp only
    refine q_when (b := !decide ((ls.length : Int) = (gs.length : Int))) (et_test (ev_is (ev_op (ev_cb (r := rLenK K) (ea_cons (ev_var (i := 2) rfl) ea_nil) fun H2 e2 Q q => ⟨.ref p, vs.length, rfl, .inl ⟨_, ex_l e2 hvs, rfl⟩, q H2 (Ex.refl H2)⟩) (ev_houseLen (ev_var (i := 1) rfl) hv hl) (rv_ne rfl)) (by rw [dec_ii, hvl]))) (fun hb H1 e1 => ?_) (fun hb H1 e1 => ?_)
    · have hb : ¬ ((ls.length : Int) = (gs.length : Int)) := by simpa using hb
      refine raise1 (C := A.C_WrongLength) (f := "length") (x := .int (ls.length : Int)) T.ox_WrongLength (fun Q q => ?_) (fun d H' e' hd => k1 (by omega) d H' (e1.trans e') hd)
      exact ⟨_, rfl, .ref p, ls.length, rfl, .inl ⟨_, ex_l e1 hvs, hvl.symm⟩, q⟩
    have hb : (ls.length : Int) = (gs.length : Int) := by simpa using hb
    have hb : ls.length = gs.length := by omega
    try dsimp only
    refine q_forLn (K := K) (a := p) (xs := vs) (j := 3) (ev_var (i := 2) rfl) (ex_l e1 hvs) (fun i σ' G => ∃ v3 : Option V, σ' = [some (.ref A.C_Watch), some (.ref a3), some (.ref p), v3, none] ∧ Ex H G ∧ ∀ l ∈ ls.take i, l.1 = (n : Int)) (fun H2 e2 => ⟨_, rfl, e1.trans e2, fun l hl => by cases hl⟩) (fun i σ' G _ ⟨_, _, e, _⟩ => ex_l e hvs) ?_ ?_
    · rintro i y σ' G hy ⟨v3, rfl, eG, hfl⟩
      obtain ⟨l, hli, hlm, hLi⟩ := lot_at hy
      obtain ⟨la, ldx, lm, rfl, z1, _⟩ := id (hLi.ex eG).at_
      have hi : i < ls.length := (List.getElem?_eq_some_iff.mp hli).1
      have htk : ls.take (i + 1) = ls.take i ++ [l] := by
        rw [List.take_succ_eq_append_getElem hi]
        rw [List.getElem?_eq_getElem hi] at hli
        rw [Option.some.inj hli]
      try dsimp only
      refine s_when (b := !decide (l.1 = (n : Int))) (et_test (ev_is (ev_op (ev_hours (K := K) (ev_var (i := 3) rfl) z1 T.cl_Lot T.na_Lot_hours) (ev_hhours (ev_var (i := 1) rfl) (eG _ _ h5) T.cl_House T.na_House_hours) (rv_ne rfl)) (by rw [dec_ii]))) (fun hne G1 g1 => k2 hb ⟨l, hlm, by simpa using hne⟩ G1 (eG.trans g1)) (fun hne G1 g1 => ⟨_, rfl, eG.trans g1, fun x hx => ?_⟩)
      rw [htk] at hx
      rcases List.mem_append.mp hx with h | h
      · exact hfl x h
      · rw [List.mem_singleton.mp h]; simpa using hne
    rintro σ' G ⟨v3, rfl, eG, hfl⟩
    rw [hvl, List.take_length] at hfl
    have sh : Shape (n : Int) gs.length (ls.map fun l => rowOf n l.2) := ⟨by rw [List.length_map, hb], fun xs hx => by
      obtain ⟨l, _, rfl⟩ := List.mem_map.mp hx
      simp [rowOf], fun xs hx y hy => by
      obtain ⟨l, _, rfl⟩ := List.mem_map.mp hx
      obtain ⟨h, _, rfl⟩ := List.mem_map.mp hy
      split <;> omega⟩
    try dsimp only
    refine ⟨rfl, ?_⟩
    refine (en_watch (K := K) (A := A) (n := n) (gs := gs) (xss := ls.map fun l => rowOf n l.2) (ev_var (i := 1) rfl) (EvR.imp (en_lc (fun i w G => ∃ t, w = .ref t ∧ G t = some (.lst (((ls.map fun l => rowOf n l.2).getD i []).map V.int))) (ei_list (K := K) (eb_ev (ev_var (i := 2) rfl) fun G' e => ⟨p, rfl, ex_l (eG.trans e) hvs⟩)) (by omega) bd_at (fun i _ => rfl) (fun i H2 hi e2 => ?_)).er fun w G hw => rows_of hw (by rw [List.length_map, hvl])) (hv.ex eG) hl sh).er G (Ex.refl G) _ fun w H1 e1 hw => k3 hb hfl w H1 (eG.trans e1) ⟨hw, hv.ex (eG.trans e1), hl, sh, by omega⟩
    have vi : vs[i]? = some vs[i] := List.getElem?_eq_getElem hi
    obtain ⟨l, hli, hlm, hLi⟩ := lot_at vi
    have hl1 := hfl l hlm
    have er : (ls.map fun l => rowOf n l.2).getD i [] = rowOf n l.2 := by rw [List.getD_eq_getElem?_getD, List.getElem?_map, hli]; rfl
    rw [vi, er]
    generalize vs[i] = y at *
    refine en_L (el_isW (el_rngY (n := n) (fun h => V.int (if (h : Int) ∈ l.2 then 1 else 0)) (ea_cons (ev_hhours (ev_var (i := 1) rfl) ((eG.trans e2) _ _ h5) T.cl_House T.na_House_hours) ea_nil) (by omega) (fun x => rfl) fun j H3 hj e3 => ev_is (ev_cb (ea_cons (ev_has (A := A) (ev_var (i := 4) rfl) (ev_var (i := 3) rfl) (hLi.ex ((eG.trans e2).trans e3))) ea_nil) fun G e Q q => .inr ⟨_, rfl, q G (Ex.refl G)⟩) ?_) (by unfold rowOf; rw [List.map_map]; rfl))
    rw [hl1, Int.emod_eq_of_lt (by omega) (by omega)]
    by_cases c : (j : Int) ∈ l.2
    · rw [if_pos c, decide_eq_true c]; rfl
    · rw [if_neg c, decide_eq_false c]; rfl

def spRatInit (A : Ads) : Sp := fun vs H Q E => ∃ (x dx : Addr) (p q : Int), vs = [.ref x, .int p, .int q] ∧ H x = some (.ins A.C_Ratio dx []) ∧ q.natAbs < 2 ^ 8000 ∧ (q = 0 → ∀ H', Ex H H' → E (.ref A.C_ZeroUnder) none H') ∧
  (q ≠ 0 → ∀ t u, Low p q t u → ∀ H', (∀ b o, b ≠ x → H b = some o → H' b = some o) → H' x = some (.ins A.C_Ratio dx (ratF t u)) → Q .non H')
theorem ok_Ratio_init (T : Txt K mg A) : FnOk P w K mg base (L2.CX P w) 3 A.f_Ratio_init A.d_Ratio_init (["self", "top", "under"] : List Str) (spRatInit A) := by
  refine FunD.ok (CX := L2.CX P w) T.F_Ratio_init sc_Ratio_init (fun vs H Q E h => ?_) (fun cdv Ar outer s H vs Q E hr h => ?_)
  · obtain ⟨x, dx, p, q, rfl, _⟩ := h
    rfl
  · obtain ⟨x, dx, p, q, rfl, hx, hz, k1, k2⟩ := h
    refine ⟨_, (pss_cons (ps_if (pt_cmpR op_eq (pv 2) pe_int (nomark _)) (pss_one (ps_raise rfl (takes_of rfl rfl rfl rfl) (pmk_none PySem.F.excBase_ValueError T.xP_ZeroUnder T.g_ZeroUnder T.kP_ZeroUnder (raises_own T.bP_ZeroUnder T.tP_ZeroUnder) rfl))) pss_nil)
        (pss_cons (ps_set (i := 3) sc_Ratio_init.nd rfl (Or.inl rfl) (pe_callBfun cr_gcd rfl T.g_gcd (pa_cons (pv 1) (pa_cons (pv 2) pa_nil))))
        (pss_cons (ps_if (pt_cmpR op_lt (pv 2) pe_int (nomark _)) (pss_one (ps_set (i := 3) sc_Ratio_init.nd rfl (Or.inl rfl) (pe_un un_neg (pv 3)))) pss_nil)
        (pss_cons (ps_fld (pv 0) (pe_op op_fdivV (pv 1) (pv 3)) rfl)
        (pss_one (ps_fld (pv 0) (pe_op op_fdivV (pv 2) (pv 3)) rfl)))))), ?_⟩
    try dsimp only
    refine q_when (b := decide (q = 0)) (et_is (et_test (ev_op (ev_var (i := 2) rfl) ev_c (rv_eq rfl))) dec_ii) (fun hq H1 e1 => ?_) (fun hq H1 e1 => ?_)
    · exact k1 (of_decide_eq_true hq) H1 e1
    have hq := of_decide_eq_false hq
    try dsimp only
    refine q_asg (v := .int ((Nat.gcd p.natAbs q.natAbs : Nat) : Int)) (ev_gcd (ea_cons (ev_var (i := 1) rfl) (ea_cons (ev_var (i := 2) rfl) ea_nil))) fun H2 e2 => ?_
    replace e2 := e1.trans e2
    try dsimp only
    refine q_alt (b := decide (q < 0)) (fun σ' H' => σ' = [some (.ref x), some (.int p), some (.int q), some (.int (gc p q))] ∧ Ex H H') (et_test (ev_op (ev_var (i := 2) rfl) ev_c rv_I0)) (fun h H3 e3 W hW => ?_) (fun h H3 e3 => ?_) ?_
    · refine s_asg (v := .int (-((Nat.gcd p.natAbs q.natAbs : Nat) : Int))) (ev_un (ev_var (i := 3) rfl) ru_neg) fun H4 e4 => hW _ _ ⟨?_, e2.trans (e3.trans e4)⟩
      unfold gc
      rw [if_pos (of_decide_eq_true h)]
      rfl
    · refine ⟨?_, e2.trans e3⟩
      unfold gc
      rw [if_neg (of_decide_eq_false h)]
      rfl
    rintro σ' H3 ⟨rfl, e3⟩
    have gb : CDivV p (gc p q) := ⟨gc_ne hq, Nat.lt_of_lt_of_le (log_lt (Nat.lt_of_le_of_lt (gc_le hq) hz) (by decide)) (by decide)⟩
    have hx3 := e3 _ _ hx
    refine ⟨_, rfl, _, rfl, p, gc p q, rfl, rfl, gb, _, rfl, x, _, dx, [], rfl, hx3, T.cl_Ratio, T.na_Ratio_top, by decide, ?_⟩
    refine ⟨_, rfl, _, rfl, q, gc p q, rfl, rfl, gb, _, rfl, x, _, dx, _, rfl, upd_same, T.cl_Ratio, T.na_Ratio_under, by show (1 : Nat) < 1000; decide, ?_⟩
    refine k2 hq _ _ (low_gc hq) _ (fun b o hb h => ?_) ?_
    · rw [upd_ne hb, upd_ne hb]; exact e3 _ _ h
    · rw [upd_same, putR]; rfl

theorem ex_made {H H' : Hp} {x dx C : Addr} (hx : H x = none) (hdx : H dx = none) (h : ∀ b o, b ≠ x → (upd (upd H dx (.own x)) x (.ins C dx [])) b = some o → H' b = some o) : Ex H H' := fun b o hb => by
  have h1 : b ≠ x := ne_of_none hb hx
  refine h b o h1 ?_
  rw [upd_ne h1, upd_ne (ne_of_none hb hdx)]
  exact hb
/-- Ratio(p, q) -/
theorem er_rat {K : PySem.W.Frag} {A : Ads} {E : XK} {σ : L2.St} {H : Hp} {tp tq : TE} {p q : Int} (hp : Ev tp σ H (.int p)) (hq : Ev tq σ H (.int q)) (h0 : q ≠ 0) (hz : q.natAbs < 2 ^ 8000) :
    EvR (tMake A.C_Ratio (spRatInit A) [] E (tCons tp (tCons tq tNil))) σ H fun v H1 => ∃ t u, Low p q t u ∧ RatAt A.C_Ratio v H1 t u := fun H1 e Q k =>
  hp H1 e _ fun H2 e2 => hq H2 (e.trans e2) _ fun H3 e3 x dx hx hdx hne => ⟨x, dx, p, q, rfl, upd_same, hz, fun z => absurd z h0, fun _ t u hl H' ho hv =>
    ⟨rfl, k _ H' ((e2.trans e3).trans (ex_made hx hdx ho)) ⟨t, u, hl, x, dx, rfl, hv⟩⟩⟩
/-- Ratio(p) -/
theorem er_rat1 {K : PySem.W.Frag} {A : Ads} {E : XK} {σ : L2.St} {H : Hp} {tp : TE} {p : Int} (hp : Ev tp σ H (.int p)) :
    EvR (tMake A.C_Ratio (spRatInit A) [.int 1] E (tCons tp tNil)) σ H fun v H1 => ∃ t u, Low p 1 t u ∧ RatAt A.C_Ratio v H1 t u := fun H1 e Q k =>
  hp H1 e _ fun H2 e2 x dx hx hdx hne => ⟨x, dx, p, 1, rfl, upd_same, Nat.lt_of_lt_of_le (show (1 : Int).natAbs < 2 ^ 1 by decide) (Nat.pow_le_pow_right (by decide) (by decide)), fun z => absurd z (by decide), fun _ t u hl H' ho hv =>
    ⟨rfl, k _ H' (e2.trans (ex_made hx hdx ho)) ⟨t, u, hl, x, dx, rfl, hv⟩⟩⟩

/-- t / u in lowest terms, of the worth p / q -/
def IsRt (A : Ads) (v : V) (H : Hp) (p q : Int) : Prop := ∃ t u, Low p q t u ∧ RatAt A.C_Ratio v H t u
theorem IsRt.ex {A : Ads} {v : V} {H H' : Hp} {p q : Int} (e : Ex H H') (h : IsRt A v H p q) : IsRt A v H' p q := by
  obtain ⟨t, u, h1, h2⟩ := h
  exact ⟨t, u, h1, h2.ex e⟩
theorem IsRt.as {A : Ads} {v : V} {H : Hp} {p q p' q' : Int} (h : IsRt A v H p q) (hp : p = p') (hq : q = q') : IsRt A v H p' q' := by
  subst hp hq
  exact h
theorem IsRt.worth {A : Ads} {v : V} {H : Hp} {p q p' q' : Int} (h : IsRt A v H p q) (e : p * q' = p' * q) (hq : q ≠ 0) (hq' : q' ≠ 0) : IsRt A v H p' q' := by
  obtain ⟨t, u, h1, h2⟩ := h
  exact ⟨t, u, low_same h1 e hq hq', h2⟩
theorem IsRt.low {A : Ads} {v : V} {H : Hp} {p q : Int} (h : IsRt A v H p q) (hq : q ≠ 0) : ∃ t u, Low p q t u ∧ RatAt A.C_Ratio v H t u := h
/-- .. or a whole number -/
def IsN (A : Ads) (v : V) (H : Hp) (p q : Int) : Prop := IsRt A v H p q ∨ (v = .int p ∧ q = 1)
theorem IsN.ex {A : Ads} {v : V} {H H' : Hp} {p q : Int} (e : Ex H H') (h : IsN A v H p q) : IsN A v H' p q := h.imp (fun h => h.ex e) id
def spAsRat (A : Ads) : Sp := fun vs H Q E => ∃ (v : V) (p q : Int), vs = [v] ∧ IsN A v H p q ∧ ∀ w H', Ex H H' → IsRt A w H' p q → Q w H'
theorem er_asN {A : Ads} {E : XK} {σ : L2.St} {H : Hp} {ta : TE} {p q : Int} (h : EvR ta σ H fun v H1 => IsN A v H1 p q) : EvR (tCall (spAsRat A) [] E (tCons ta tNil)) σ H fun v H1 => IsRt A v H1 p q := fun H1 e Q k =>
  h H1 e _ fun v H2 e2 hv => ⟨v, p, q, rfl, hv, fun w H3 e3 hw => k w H3 (e2.trans e3) hw⟩
theorem er_at {A : Ads} {σ : L2.St} {H : Hp} {i : Nat} {v : V} {p q : Int} (h : σ[i]? = some (some v)) (hv : IsRt A v H p q) : EvR (tVar i) σ H fun v H1 => IsRt A v H1 p q := er_ev (ev_var h) fun G e => hv.ex e
theorem er_nat {A : Ads} {σ : L2.St} {H : Hp} {i : Nat} {v : V} {p q : Int} (h : σ[i]? = some (some v)) (hv : IsN A v H p q) : EvR (tVar i) σ H fun v H1 => IsN A v H1 p q := er_ev (ev_var h) fun G e => hv.ex e
theorem er_ofI {A : Ads} {σ : L2.St} {H : Hp} {te : TE} {z : Int} (h : Ev te σ H (.int z)) : EvR te σ H fun v H1 => IsN A v H1 z 1 := er_ev h fun _ _ => .inr ⟨rfl, rfl⟩
theorem er_ofR {A : Ads} {σ : L2.St} {H : Hp} {te : TE} {p q : Int} (h : EvR te σ H fun v H1 => IsRt A v H1 p q) : EvR te σ H fun v H1 => IsN A v H1 p q := h.imp fun _ _ h => .inl h
theorem ok_as_ratio (T : Txt K mg A) : FnOk P w K mg base (L2.CX P w) 5 A.f_as_ratio A.d_as_ratio (["number"] : List Str) (spAsRat A) := by
  refine T.F_as_ratio.okX sc_as_ratio (fun vs H Q E h => ?_) (fun cdv Ar outer s H vs Q E hr h => ?_)
  · obtain ⟨v, p, q, rfl, _⟩ := h
    rfl
  · obtain ⟨v, p, q, rfl, h, k⟩ := h
    refine ⟨_, (pss_cons (ps_if (pt_val (pe_callB isi_K (by rfl) T.z_isinstance (by decide +kernel) (pa_cons (pv 0) (pa_cons (pe_glob (v := .ref A.C_Ratio) rfl T.g_Ratio rfl) pa_nil)))) (pss_one (ps_ret (pv 0))) pss_nil)
        (pss_one (ps_ret (pe_make T.mk_Ratio (ok_Ratio_init T) (hr.mono (by omega)) rfl T.g_Ratio (b2_Ratio_init T).choose_spec.2 (b2_Ratio_init T).choose_spec.1 (passes_call (takes_of rfl rfl rfl rfl) (fun _ _ _ _ h => h)) (pa_cons (pv 0) pa_nil))))), ?_⟩
    rcases h with h | ⟨rfl, rfl⟩
    · obtain ⟨t, u, hl, hR⟩ := id h
      obtain ⟨a, dx, rfl, hi⟩ := hR
      try dsimp only
      exact q_take (et_B fun H1 e1 Q q => ⟨_, rfl, _, _, _, _, true, rfl, .own _, T.ty_Ratio H1 a dx _ (e1 _ _ hi), kit_self, q H1 (Ex.refl H1)⟩) fun H1 e1 => s_ret (v := .ref a) (ev_var rfl) fun H2 e2 => k _ H2 (e1.trans e2) (h.ex (e1.trans e2))
    · try dsimp only
      refine q_skip (et_B fun H1 e1 Q q => ⟨_, rfl, _, _, _, _, false, rfl, .own _, .base (.int p), T.kit_int_Ratio, q H1 (Ex.refl H1)⟩) fun H1 e1 => ?_
      try dsimp only
      exact s_retR (er_rat1 (K := K) (ev_var (i := 0) rfl)) fun v H2 e2 hv => k v H2 (e1.trans e2) hv

def pAdd (a b c d : Int) : Int × Int := (a * d + c * b, b * d)
def pSub (a b c d : Int) : Int × Int := (a * d - c * b, b * d)
def pMul (a b c d : Int) : Int × Int := (a * c, b * d)
def pRev (P : Int → Int → Int → Int → Int × Int) (a b c d : Int) : Int × Int := P c d a b
def spArith (A : Ads) (P : Int → Int → Int → Int → Int × Int) : Sp := fun vs H Q E => ∃ (x y : V) (a b c d : Int), vs = [x, y] ∧ IsRt A x H a b ∧ IsN A y H c d ∧ (Sz a ∧ Sz b ∧ Sz c ∧ Sz d) ∧ (b ≠ 0 ∧ d ≠ 0) ∧
  ∀ v H', Ex H H' → IsRt A v H' (P a b c d).1 (P a b c d).2 → Q v H'
theorem kit_num {K : PySem.W.Frag} {t c1 c2 : Value} {b1 : Bool} (h1 : PySem.W.kitOne K t c1 = some b1) (h2 : b1 = false → PySem.W.kitOne K t c2 = some true) : PySem.W.kitAny K t [c1, c2] = some true := by
  unfold PySem.W.kitAny
  rw [h1]
  cases b1 with
  | true => rfl
  | false =>
    show PySem.W.kitAny K t [c2] = some true
    unfold PySem.W.kitAny
    rw [h2 rfl]
theorem ev_isNum {K : PySem.W.Frag} {A : Ads} {σ : L2.St} {H : Hp} {i : Nat} {y : V} {c d : Int} (hy : IsN A y H c d) (ty : ∀ (H : Hp) (a dx : Addr) (fs : List (Str × V)), H a = some (.ins A.C_Ratio dx fs) → TyX K H (.ref a) (.ref A.C_Ratio))
    (k1 : PySem.W.kitOne K (.ref A.C_Ratio) (.type "int") = some false) (k2 : PySem.W.kitOne K (.ref A.C_Ratio) (.ref A.C_Ratio) = some true) (k3 : PySem.W.kitOne K (.type "int") (.type "int") = some true) (hσ : σ[i]? = some (some y)) :
    Ev (tCB (rIsiT K) (tCons (tVar i) (tCons (tTup (tCons (tC (.ty "int")) (tCons (tC (.ref A.C_Ratio)) tNil))) tNil))) σ H (.bl true) := fun H1 e Q q =>
  ⟨y, hσ, by show 2 ≤ sizeLine; decide, fun tp htp => by
    have e2 : Ex H1 (upd H1 tp (.tup [.ty "int", .ref A.C_Ratio])) := Ex.new htp
    rcases hy with h | ⟨rfl, rfl⟩
    · obtain ⟨t, u, hl, a, dx, rfl, hi⟩ := h
      exact ⟨_, tp, _, _, _, true, rfl, upd_same, .cons (.ty _) (.cons (.own _) .nil), ty _ a dx _ (e2 _ _ (e _ _ hi)), kit_num k1 fun _ => k2, q _ e2⟩
    · exact ⟨_, tp, _, _, _, true, rfl, upd_same, .cons (.ty _) (.cons (.own _) .nil), .base (.int c), kit_num k3 (fun z => Bool.noConfusion z), q _ e2⟩⟩
theorem ok_Ratio_add (T : Txt K mg A) : FnOk P w K mg base (L2.CX P w) 7 A.f_Ratio_add A.d_Ratio_add (["self", "other"] : List Str) (spArith A pAdd) := by
  refine T.F_Ratio_add.okX sc_Ratio_add (fun vs H Q E h => ?_) (fun cdv Ar outer s H vs Q E hr h => ?_)
  · obtain ⟨x, y, a, b, c, d, rfl, _⟩ := h
    rfl
  · obtain ⟨x, y, a, b, c, d, rfl, hx, hy, ⟨sa, sb, sc, sd⟩, ⟨hb, hd⟩, k⟩ := h
    refine ⟨_, (pss_cons (ps_if (pt_not (pt_val (pe_callB call_isiT (by rfl) T.z_isinstance (by decide +kernel) (pa_cons (pv 1) (pa_cons (pe_tup (pa_cons (pe_bltn (v := .ty "int") (by rfl) T.z_int (by decide +kernel) rfl) (pa_cons (pe_glob (v := .ref A.C_Ratio) rfl T.g_Ratio rfl) pa_nil))) pa_nil))))) (pss_one (ps_ret pe_never)) pss_nil)
        (pss_cons (ps_set (i := 2) sc_Ratio_add.nd rfl (Or.inl rfl) (pe_call (ok_as_ratio T) (hr.mono (by omega)) rfl T.g_as_ratio T.k_as_ratio (b_as_ratio T) .nil (passes_call (takes_of rfl rfl rfl rfl) (fun _ _ _ _ h => h)) (pa_cons (pv 1) pa_nil)))
        (pss_one (ps_ret (pe_make T.mk_Ratio (ok_Ratio_init T) (hr.mono (by omega)) rfl T.g_Ratio (b_Ratio_init T) .nil (passes_call (takes_of rfl rfl rfl rfl) (fun _ _ _ _ h => h)) (pa_cons (pe_op op_add (pe_op op_mulW (pe_fldK (pv 0) rfl) (pe_fldK (pv 2) rfl)) (pe_op op_mulW (pe_fldK (pv 2) rfl) (pe_fldK (pv 0) rfl))) (pa_cons (pe_op op_mulW (pe_fldK (pv 0) rfl) (pe_fldK (pv 2) rfl)) pa_nil))))))), ?_⟩
    try dsimp only
    refine q_skip (et_notT (et_B (ev_isNum hy T.ty_Ratio T.kit_Ratio_int T.kit_Ratio_Ratio (kit_ty (by decide +kernel)) (i := 1) rfl))) fun H1 e1 => ?_
    replace hx := hx.ex e1
    replace hy := hy.ex e1
    try dsimp only
    refine q_asgR (er_asN (er_nat (i := 1) rfl hy)) fun v H2 e2 hv => ?_
    replace hx := hx.ex e2
    obtain ⟨t, u, l1, r1⟩ := hx
    obtain ⟨t', u', l2, r2⟩ := hv
    have st := sa.le l1.lt
    have su := sb.le l1.lu
    have st' := sc.le l2.lt
    have su' := sd.le l2.lu
    have p1 := l1.pos
    have p2 := l2.pos
    have ft : ∀ G, Ex H2 G → Ev (tFld K (tVar 0) "top") [some x, some y, some v] G (.int t) := fun G e => ev_top (ev_var rfl) (r1.ex e) T.cl_Ratio T.na_Ratio_top
    have fu : ∀ G, Ex H2 G → Ev (tFld K (tVar 0) "under") [some x, some y, some v] G (.int u) := fun G e => ev_under (ev_var rfl) (r1.ex e) T.cl_Ratio T.na_Ratio_under
    have ft' : ∀ G, Ex H2 G → Ev (tFld K (tVar 2) "top") [some x, some y, some v] G (.int t') := fun G e => ev_top (ev_var rfl) (r2.ex e) T.cl_Ratio T.na_Ratio_top
    have fu' : ∀ G, Ex H2 G → Ev (tFld K (tVar 2) "under") [some x, some y, some v] G (.int u') := fun G e => ev_under (ev_var rfl) (r2.ex e) T.cl_Ratio T.na_Ratio_under
    try dsimp only
    exact s_retR (er_rat (K := K) (ev_op (ev_op (ft _ (Ex.refl _)) (fu' _ (Ex.refl _)) (rv_I (st.mul su'))) (ev_op (ft' _ (Ex.refl _)) (fu _ (Ex.refl _)) (rv_I (st'.mul su))) rv_I0) (ev_op (fu _ (Ex.refl _)) (fu' _ (Ex.refl _)) (rv_I (su.mul su'))) (mul_ne (by omega) (by omega)) (su.low su')) fun w H3 e3 hw => by
      obtain ⟨T', U', hl, hR⟩ := hw
      exact k w H3 ((e1.trans e2).trans e3) ⟨T', U', low_add l1 l2 hl hb hd, hR⟩
theorem ok_Ratio_mul (T : Txt K mg A) : FnOk P w K mg base (L2.CX P w) 7 A.f_Ratio_mul A.d_Ratio_mul (["self", "other"] : List Str) (spArith A pMul) := by
  refine T.F_Ratio_mul.okX sc_Ratio_mul (fun vs H Q E h => ?_) (fun cdv Ar outer s H vs Q E hr h => ?_)
  · obtain ⟨x, y, a, b, c, d, rfl, _⟩ := h
    rfl
  · obtain ⟨x, y, a, b, c, d, rfl, hx, hy, ⟨sa, sb, sc, sd⟩, ⟨hb, hd⟩, k⟩ := h
    refine ⟨_, (pss_cons (ps_if (pt_not (pt_val (pe_callB call_isiT (by rfl) T.z_isinstance (by decide +kernel) (pa_cons (pv 1) (pa_cons (pe_tup (pa_cons (pe_bltn (v := .ty "int") (by rfl) T.z_int (by decide +kernel) rfl) (pa_cons (pe_glob (v := .ref A.C_Ratio) rfl T.g_Ratio rfl) pa_nil))) pa_nil))))) (pss_one (ps_ret pe_never)) pss_nil)
        (pss_cons (ps_set (i := 2) sc_Ratio_mul.nd rfl (Or.inl rfl) (pe_call (ok_as_ratio T) (hr.mono (by omega)) rfl T.g_as_ratio T.k_as_ratio (b_as_ratio T) .nil (passes_call (takes_of rfl rfl rfl rfl) (fun _ _ _ _ h => h)) (pa_cons (pv 1) pa_nil)))
        (pss_one (ps_ret (pe_make T.mk_Ratio (ok_Ratio_init T) (hr.mono (by omega)) rfl T.g_Ratio (b_Ratio_init T) .nil (passes_call (takes_of rfl rfl rfl rfl) (fun _ _ _ _ h => h)) (pa_cons (pe_op op_mulW (pe_fldK (pv 0) rfl) (pe_fldK (pv 2) rfl)) (pa_cons (pe_op op_mulW (pe_fldK (pv 0) rfl) (pe_fldK (pv 2) rfl)) pa_nil))))))), ?_⟩
    try dsimp only
    refine q_skip (et_notT (et_B (ev_isNum hy T.ty_Ratio T.kit_Ratio_int T.kit_Ratio_Ratio (kit_ty (by decide +kernel)) (i := 1) rfl))) fun H1 e1 => ?_
    replace hx := hx.ex e1
    replace hy := hy.ex e1
    try dsimp only
    refine q_asgR (er_asN (er_nat (i := 1) rfl hy)) fun v H2 e2 hv => ?_
    replace hx := hx.ex e2
    obtain ⟨t, u, l1, r1⟩ := hx
    obtain ⟨t', u', l2, r2⟩ := hv
    have st := sa.le l1.lt
    have su := sb.le l1.lu
    have st' := sc.le l2.lt
    have su' := sd.le l2.lu
    have p1 := l1.pos
    have p2 := l2.pos
    have ft : ∀ G, Ex H2 G → Ev (tFld K (tVar 0) "top") [some x, some y, some v] G (.int t) := fun G e => ev_top (ev_var rfl) (r1.ex e) T.cl_Ratio T.na_Ratio_top
    have fu : ∀ G, Ex H2 G → Ev (tFld K (tVar 0) "under") [some x, some y, some v] G (.int u) := fun G e => ev_under (ev_var rfl) (r1.ex e) T.cl_Ratio T.na_Ratio_under
    have ft' : ∀ G, Ex H2 G → Ev (tFld K (tVar 2) "top") [some x, some y, some v] G (.int t') := fun G e => ev_top (ev_var rfl) (r2.ex e) T.cl_Ratio T.na_Ratio_top
    have fu' : ∀ G, Ex H2 G → Ev (tFld K (tVar 2) "under") [some x, some y, some v] G (.int u') := fun G e => ev_under (ev_var rfl) (r2.ex e) T.cl_Ratio T.na_Ratio_under
    try dsimp only
    exact s_retR (er_rat (K := K) (ev_op (ft _ (Ex.refl _)) (ft' _ (Ex.refl _)) (rv_I (st.mul st'))) (ev_op (fu _ (Ex.refl _)) (fu' _ (Ex.refl _)) (rv_I (su.mul su'))) (mul_ne (by omega) (by omega)) (su.low su')) fun w H3 e3 hw => by
      obtain ⟨T', U', hl, hR⟩ := hw
      exact k w H3 ((e1.trans e2).trans e3) ⟨T', U', low_mul l1 l2 hl hb hd, hR⟩

/-- z has the sign of l - r -/
def Sg (z l r : Int) : Prop := (z < 0 ↔ l < r) ∧ (z = 0 ↔ l = r)
def spLead (A : Ads) : Sp := fun vs H Q E => ∃ (x y : V) (a b c d : Int), vs = [x, y] ∧ IsRt A x H a b ∧ IsN A y H c d ∧ (Sz a ∧ Sz b ∧ Sz c ∧ Sz d) ∧ (0 < b ∧ 0 < d) ∧ ∀ z H', Ex H H' → Sg z (a * d) (c * b) → Q (.int z) H'
theorem low_sg {a b c d t u t' u' : Int} (h1 : Low a b t u) (h2 : Low c d t' u') (hb : 0 < b) (hd : 0 < d) : Sg (t * u' - t' * u) (a * d) (c * b) := by
  have e1 := h1.eq
  have e2 := h2.eq
  have m1 : 0 < b * d := Int.mul_pos hb hd
  have m2 : 0 < u * u' := Int.mul_pos h1.pos h2.pos
  have e : (t * u' - t' * u) * (b * d) = (a * d - c * b) * (u * u') := by grind
  generalize b * d = B at m1 e
  generalize u * u' = U at m2 e
  generalize t * u' - t' * u = z at e ⊢
  have hz : z < 0 ↔ z * B < 0 := ⟨fun h => Int.mul_neg_of_neg_of_pos h m1, fun h => Int.lt_of_not_ge fun g => absurd (Int.mul_nonneg g (Int.le_of_lt m1)) (by omega)⟩
  have hw : a * d - c * b < 0 ↔ (a * d - c * b) * U < 0 := ⟨fun h => Int.mul_neg_of_neg_of_pos h m2, fun h => Int.lt_of_not_ge fun g => absurd (Int.mul_nonneg g (Int.le_of_lt m2)) (by omega)⟩
  refine ⟨?_, ?_⟩
  · rw [hz, e, ← hw]
    omega
  · constructor
    · intro h
      rw [h, Int.zero_mul] at e
      have := (Int.mul_eq_zero.mp e.symm).resolve_right (by omega)
      omega
    · intro h
      rw [h, Int.sub_self, Int.zero_mul] at e
      exact (Int.mul_eq_zero.mp e).resolve_right (by omega)
theorem ok_u_lead (T : Txt K mg A) : FnOk P w K mg base (L2.CX P w) 7 A.f_u_lead A.d_u_lead (["ratio", "number"] : List Str) (spLead A) := by
  refine T.F_u_lead.okX sc_u_lead (fun vs H Q E h => ?_) (fun cdv Ar outer s H vs Q E hr h => ?_)
  · obtain ⟨x, y, a, b, c, d, rfl, _⟩ := h
    rfl
  · obtain ⟨x, y, a, b, c, d, rfl, hx, hy, ⟨sa, sb, sc, sd⟩, ⟨hb, hd⟩, k⟩ := h
    refine ⟨_, (pss_cons (ps_set (i := 2) sc_u_lead.nd rfl (Or.inl rfl) (pe_call (ok_as_ratio T) (hr.mono (by omega)) rfl T.g_as_ratio T.k_as_ratio (b_as_ratio T) .nil (passes_call (takes_of rfl rfl rfl rfl) (fun _ _ _ _ h => h)) (pa_cons (pv 1) pa_nil)))
        (pss_one (ps_ret (pe_op op_sub (pe_op op_mulW (pe_fldK (pv 0) rfl) (pe_fldK (pv 2) rfl)) (pe_op op_mulW (pe_fldK (pv 2) rfl) (pe_fldK (pv 0) rfl)))))), ?_⟩
    try dsimp only
    refine q_asgR (er_asN (er_nat (i := 1) rfl hy)) fun v H2 e2 hv => ?_
    replace hx := hx.ex e2
    obtain ⟨t, u, l1, r1⟩ := hx
    obtain ⟨t', u', l2, r2⟩ := hv
    have st := sa.le l1.lt
    have su := sb.le l1.lu
    have st' := sc.le l2.lt
    have su' := sd.le l2.lu
    try dsimp only
    exact s_ret (v := .int (t * u' - t' * u)) (ev_op (ev_op (ev_top (ev_var (i := 0) rfl) r1 T.cl_Ratio T.na_Ratio_top) (ev_under (ev_var (i := 2) rfl) r2 T.cl_Ratio T.na_Ratio_under) (rv_I (st.mul su'))) (ev_op (ev_top (ev_var (i := 2) rfl) r2 T.cl_Ratio T.na_Ratio_top) (ev_under (ev_var (i := 0) rfl) r1 T.cl_Ratio T.na_Ratio_under) (rv_I (st'.mul su))) rv_I0) fun H3 e3 => k _ H3 (e2.trans e3) (low_sg l1 l2 hb hd)

def spCmp (A : Ads) (R : Int → Int → Bool) : Sp := fun vs H Q E => ∃ (x y : V) (a b c d : Int), vs = [x, y] ∧ IsRt A x H a b ∧ IsN A y H c d ∧ (Sz a ∧ Sz b ∧ Sz c ∧ Sz d) ∧ (0 < b ∧ 0 < d) ∧ ∀ H', Ex H H' → Q (.bl (R (a * d) (c * b))) H'
def cLt (l r : Int) : Bool := decide (l < r)
def cLe (l r : Int) : Bool := decide (l ≤ r)
def cGt (l r : Int) : Bool := decide (r < l)
def cGe (l r : Int) : Bool := decide (r ≤ l)
def cEq (l r : Int) : Bool := decide (l = r)
theorem er_lead {A : Ads} {E : XK} {σ : L2.St} {H : Hp} {x y : V} {a b c d : Int} (h0 : σ[0]? = some (some x)) (h1 : σ[1]? = some (some y)) (hx : IsRt A x H a b) (hy : IsN A y H c d) (hs : Sz a ∧ Sz b ∧ Sz c ∧ Sz d) (hb : 0 < b ∧ 0 < d) :
    EvR (tCall (spLead A) [] E (tCons (tVar 0) (tCons (tVar 1) tNil))) σ H fun v _ => ∃ z : Int, v = .int z ∧ Sg z (a * d) (c * b) :=
  er_call (ea_cons (ev_var h0) (ea_cons (ev_var h1) ea_nil)) fun H1 e Q q => ⟨x, y, a, b, c, d, rfl, hx.ex e, hy.ex e, hs, hb, fun z H' e' hz => q _ H' e' ⟨z, rfl, hz⟩⟩
theorem ok_Ratio_lt (T : Txt K mg A) : FnOk P w K mg base (L2.CX P w) 9 A.f_Ratio_lt A.d_Ratio_lt (["self", "other"] : List Str) (spCmp A cLt) := by
  refine T.F_Ratio_lt.okX sc_Ratio_lt (fun vs H Q E h => ?_) (fun cdv Ar outer s H vs Q E hr h => ?_)
  · obtain ⟨x, y, a, b, c, d, rfl, _⟩ := h
    rfl
  · obtain ⟨x, y, a, b, c, d, rfl, hx, hy, hs, hb, k⟩ := h
    refine ⟨_, (pss_cons (ps_if (pt_not (pt_val (pe_callB call_isiT (by rfl) T.z_isinstance (by decide +kernel) (pa_cons (pv 1) (pa_cons (pe_tup (pa_cons (pe_bltn (v := .ty "int") (by rfl) T.z_int (by decide +kernel) rfl) (pa_cons (pe_glob (v := .ref A.C_Ratio) rfl T.g_Ratio rfl) pa_nil))) pa_nil))))) (pss_one (ps_ret pe_never)) pss_nil)
        (pss_one (ps_ret (pe_cmpR op_lt (pe_call (ok_u_lead T) (hr.mono (by omega)) rfl T.g_u_lead T.k_u_lead (b_u_lead T) .nil (passes_call (takes_of rfl rfl rfl rfl) (fun _ _ _ _ h => h)) (pa_cons (pv 0) (pa_cons (pv 1) pa_nil))) pe_int (nomark _))))), ?_⟩
    try dsimp only
    refine q_skip (et_notT (et_B (ev_isNum hy T.ty_Ratio T.kit_Ratio_int T.kit_Ratio_Ratio (kit_ty (by decide +kernel)) (i := 1) rfl))) fun H1 e1 => ?_
    try dsimp only
    refine er_lead (σ := [some x, some y]) rfl rfl (hx.ex e1) (hy.ex e1) hs hb H1 (Ex.refl _) _ fun v H2 e2 hv => ?_
    obtain ⟨z, rfl, h1, h2⟩ := hv
    have q := k H2 (e1.trans e2)
    refine ⟨z, 0, rfl, rfl, ?_⟩
    rw [show cLt (a * d) (c * b) = decide (z < 0) by unfold cLt; exact decide_eq_decide.mpr (by omega)] at q
    exact q
theorem ok_Ratio_gt (T : Txt K mg A) : FnOk P w K mg base (L2.CX P w) 9 A.f_Ratio_gt A.d_Ratio_gt (["self", "other"] : List Str) (spCmp A cGt) := by
  refine T.F_Ratio_gt.okX sc_Ratio_gt (fun vs H Q E h => ?_) (fun cdv Ar outer s H vs Q E hr h => ?_)
  · obtain ⟨x, y, a, b, c, d, rfl, _⟩ := h
    rfl
  · obtain ⟨x, y, a, b, c, d, rfl, hx, hy, hs, hb, k⟩ := h
    refine ⟨_, (pss_cons (ps_if (pt_not (pt_val (pe_callB call_isiT (by rfl) T.z_isinstance (by decide +kernel) (pa_cons (pv 1) (pa_cons (pe_tup (pa_cons (pe_bltn (v := .ty "int") (by rfl) T.z_int (by decide +kernel) rfl) (pa_cons (pe_glob (v := .ref A.C_Ratio) rfl T.g_Ratio rfl) pa_nil))) pa_nil))))) (pss_one (ps_ret pe_never)) pss_nil)
        (pss_one (ps_ret (pe_cmpR op_gt (pe_call (ok_u_lead T) (hr.mono (by omega)) rfl T.g_u_lead T.k_u_lead (b_u_lead T) .nil (passes_call (takes_of rfl rfl rfl rfl) (fun _ _ _ _ h => h)) (pa_cons (pv 0) (pa_cons (pv 1) pa_nil))) pe_int (nomark _))))), ?_⟩
    try dsimp only
    refine q_skip (et_notT (et_B (ev_isNum hy T.ty_Ratio T.kit_Ratio_int T.kit_Ratio_Ratio (kit_ty (by decide +kernel)) (i := 1) rfl))) fun H1 e1 => ?_
    try dsimp only
    refine er_lead (σ := [some x, some y]) rfl rfl (hx.ex e1) (hy.ex e1) hs hb H1 (Ex.refl _) _ fun v H2 e2 hv => ?_
    obtain ⟨z, rfl, h1, h2⟩ := hv
    have q := k H2 (e1.trans e2)
    refine ⟨z, 0, rfl, rfl, ?_⟩
    rw [show cGt (a * d) (c * b) = decide (0 < z) by unfold cGt; exact decide_eq_decide.mpr (by omega)] at q
    exact q

/-! ### fractions in lists, the greatest -/
structure RB (r : Int × Int) : Prop where
  n0 : 0 ≤ r.1
  n1 : r.1 ≤ 1000000
  d0 : 1 ≤ r.2
  d1 : r.2 ≤ 1000000
theorem RB.sz {r : Int × Int} (h : RB r) : Sz r.1 ∧ Sz r.2 := by
  obtain ⟨h1, h2, h3, h4⟩ := h
  exact ⟨szr_of (b := 20) (by omega) (by decide), szr_of (b := 20) (by omega) (by decide)⟩
def RatL (A : Ads) (G : Hp) (p : Addr) (rs : List (Int × Int)) : Prop := ∃ vs : List V, G p = some (.lst vs) ∧ vs.length = rs.length ∧ ∀ (i : Nat) v r, vs[i]? = some v → rs[i]? = some r → IsRt A v G r.1 r.2
theorem RatL.ex {A : Ads} {G G' : Hp} {p : Addr} {rs : List (Int × Int)} (h : RatL A G p rs) (e : Ex G G') : RatL A G' p rs := by
  obtain ⟨vs, h1, h2, h3⟩ := h
  exact ⟨vs, e _ _ h1, h2, fun i v r hv hr => (h3 i v r hv hr).ex e⟩
def leQ (a b : Int × Int) : Prop := a.1 * b.2 ≤ b.1 * a.2
theorem leQ.trans {a b c : Int × Int} (ha : 0 < a.2) (hb : 0 < b.2) (hc : 0 < c.2) (h1 : leQ a b) (h2 : leQ b c) : leQ a c := by
  unfold leQ at *
  have e1 := Int.mul_le_mul_of_nonneg_right h1 (Int.le_of_lt hc)
  have e2 := Int.mul_le_mul_of_nonneg_right h2 (Int.le_of_lt ha)
  refine Int.le_of_mul_le_mul_left (a := b.2) ?_ hb
  have x1 : b.2 * (a.1 * c.2) = a.1 * b.2 * c.2 := by grind
  have x2 : b.2 * (c.1 * a.2) = c.1 * b.2 * a.2 := by grind
  have x3 : b.1 * a.2 * c.2 = b.1 * c.2 * a.2 := by grind
  rw [x1, x2]
  omega
structure MaxP (rs : List (Int × Int)) (r : Int × Int) : Prop where
  mem : r ∈ rs
  le : ∀ s ∈ rs, leQ s r
def greater (r s : Int × Int) : Int × Int := if r.1 * s.2 < s.1 * r.2 then s else r
theorem leQ.rfl' {a : Int × Int} : leQ a a := Int.le_refl _
theorem max_one {r : Int × Int} : MaxP [r] r := ⟨List.mem_cons_self, fun s hs => by rw [List.mem_singleton.mp hs]; exact leQ.rfl'⟩
theorem max_step {rs : List (Int × Int)} {r s : Int × Int} (h : MaxP rs r) (hp : ∀ x ∈ rs, 0 < x.2) (hs : 0 < s.2) : MaxP (rs ++ [s]) (greater r s) := by
  unfold greater
  by_cases c : r.1 * s.2 < s.1 * r.2
  · rw [if_pos c]
    refine ⟨List.mem_append_right _ List.mem_cons_self, fun x hx => ?_⟩
    rcases List.mem_append.mp hx with h1 | h1
    · exact leQ.trans (hp x h1) (hp r h.mem) hs (h.le x h1) (Int.le_of_lt c)
    · rw [List.mem_singleton.mp h1]; exact leQ.rfl'
  · rw [if_neg c]
    refine ⟨List.mem_append_left _ h.mem, fun x hx => ?_⟩
    rcases List.mem_append.mp hx with h1 | h1
    · exact h.le x h1
    · rw [List.mem_singleton.mp h1]
      show s.1 * r.2 ≤ r.1 * s.2
      omega
theorem max_pos {rs : List (Int × Int)} {r : Int × Int} (h : MaxP rs r) (hp : ∀ x ∈ rs, RB x) : RB r := hp r h.mem

theorem ev_gtR {K : PySem.W.Frag} {A : Ads} {E : L2.St → XK} {σ : L2.St} {H : Hp} {ta tb : TE} {a b c d : Int} (ty : ∀ (H : Hp) (a dx : Addr) (fs : List (Str × V)), H a = some (.ins A.C_Ratio dx fs) → TyX K H (.ref a) (.ref A.C_Ratio)) (hx : EvR ta σ H fun v H1 => IsRt A v H1 a b) (hy : EvR tb σ H fun v H1 => IsRt A v H1 c d) (hs : Sz a ∧ Sz b ∧ Sz c ∧ Sz d) (hn : 0 < b ∧ 0 < d) :
    Ev (tOpS (rOwnC K A.C_Ratio (spCmp A cGt) E) ta tb) σ H (.bl (cGt (a * d) (c * b))) := fun H1 e Q q => hx H1 e _ fun x H2 e2 hX => hy H2 (e.trans e2) _ fun y H3 e3 hY => by
  have hX3 := hX.ex e3
  obtain ⟨t, u, l1, xa, xd, rfl, hi⟩ := id hX3
  obtain ⟨t', u', l2, ya, yd, rfl, hj⟩ := id hY
  exact ⟨xa, xd, _, _, rfl, hi, ty H3 ya yd _ hj, by unfold PySem.W.notFirst; simp, _, _, a, b, c, d, rfl, hX3, .inl hY, hs, hn, fun H' e' => q H' ((e2.trans e3).trans e')⟩
def spGreatest (A : Ads) : Sp := fun vs H Q _ => ∃ (p : Addr) (rs : List (Int × Int)), vs = [.ref p] ∧ RatL A H p rs ∧ rs ≠ [] ∧ rs.length ≤ 40000 ∧ (∀ r ∈ rs, RB r) ∧ ∀ v r H', Ex H H' → IsRt A v H' r.1 r.2 → MaxP rs r → Q v H' 
theorem ok_greatest (T : Txt K mg A) : FnOk P w K mg base CX0 11 A.f_greatest A.d_greatest (["ratios"] : List Str) (spGreatest A) := by
  refine T.F_greatest.ok sc_greatest (fun vs H Q E h => ?_) (fun cdv Ar outer s H vs Q E hr h => ?_)
  · obtain ⟨p, rs, rfl, _⟩ := h
    rfl
  · obtain ⟨p, rs, rfl, hR, h0, hl, hb, k⟩ := h
    refine ⟨_, (pss_cons (ps_set (i := 1) sc_greatest.nd rfl (Or.inl rfl) (pe_ix ix_lK (pv 0) pe_int (fun _ _ => rfl)))
        (pss_cons (ps_for PassesOwn.never rfl (pi_listK (pv 0)) (pg_name (i := 2) sc_greatest.nd rfl (Or.inl rfl)) (pss_one (ps_if (pt_cmpS (op_ownC (op := .Gt) (E := fun _ => E0) (fun _ _ => rfl) T.M_Ratio_gt (ok_Ratio_gt T) (hr.mono (by omega)) (b_Ratio_gt T) (pAt passL)) (pv 2) (pv 1) (nomark _)) (pss_one (ps_set (i := 1) sc_greatest.nd rfl (Or.inl rfl) (pv 2))) pss_nil)))
        (pss_one (ps_ret (pv 1))))), ?_⟩
    obtain ⟨vs, hvs, hvl, hall⟩ := hR
    have rp : 0 < rs.length := List.length_pos_iff.mpr h0
    have v0 : vs[0]? = some vs[0] := List.getElem?_eq_getElem (by omega)
    have r0 : rs[0]? = some rs[0] := List.getElem?_eq_getElem rp
    have hr0 := hall 0 _ _ v0 r0
    try dsimp only
    refine q_asg (v := vs[0]) (ev_op (ev_var (i := 0) rfl) ev_c (rv_ixL (K := K) (sq_of hvs) (atI_nat (j := 0) v0))) fun H1 e1 => ?_
    try dsimp only
    refine q_forLn (K := K) (a := p) (xs := vs) (j := 2) (ev_var (i := 0) rfl) (sq_of (e1 _ _ hvs)) (fun i σ' G => ∃ (v2 : Option V) (w : V) (r : Int × Int), σ' = [some (.ref p), some w, v2] ∧ Ex H G ∧ IsRt A w G r.1 r.2 ∧ r ∈ rs ∧ ∀ s ∈ rs.take i, leQ s r) (fun H2 e2 => ⟨none, vs[0], rs[0], rfl, e1.trans e2, hr0.ex (e1.trans e2), List.mem_of_getElem? r0, fun s hs => by cases hs⟩) (fun i σ' G _ ⟨_, _, _, _, e, _⟩ => sq_of (e _ _ hvs)) ?_ ?_
    · rintro i y σ' G hy ⟨v2, w, r, rfl, eG, hw, hrm, hle⟩
      have hi : i < rs.length := by have := (List.getElem?_eq_some_iff.mp hy).1; omega
      have ri : rs[i]? = some rs[i] := List.getElem?_eq_getElem hi
      have hyR := (hall i _ _ hy ri).ex eG
      have hsm : rs[i] ∈ rs := List.getElem_mem hi
      have htk : rs.take (i + 1) = rs.take i ++ [rs[i]] := List.take_succ_eq_append_getElem hi
      rw [htk]
      generalize rs[i] = s at *
      have b1 := hb r hrm
      have b2 := hb s hsm
      try dsimp only
      refine s_when (b := cGt (s.1 * r.2) (r.1 * s.2)) (et_test (ev_gtR (K := K) T.ty_Ratio (er_at (i := 2) rfl hyR) (er_at (i := 1) rfl hw) ⟨b2.sz.1, b2.sz.2, b1.sz.1, b1.sz.2⟩ ⟨by have := b2.d0; omega, by have := b1.d0; omega⟩)) (fun hg G1 g1 => ?_) (fun hg G1 g1 => ?_)
      · have hg : r.1 * s.2 < s.1 * r.2 := of_decide_eq_true hg
        try dsimp only
        refine s_asg (v := y) (ev_var (i := 2) rfl) fun G2 g2 => ⟨_, y, s, rfl, eG.trans (g1.trans g2), hyR.ex (g1.trans g2), hsm, fun x hx => ?_⟩
        rcases List.mem_append.mp hx with h1 | h1
        · exact leQ.trans (by have := (hb x (List.mem_of_mem_take h1)).d0; omega) (by have := b1.d0; omega) (by have := b2.d0; omega) (hle x h1) (Int.le_of_lt hg)
        · rw [List.mem_singleton.mp h1]; exact leQ.rfl'
      · have hg : ¬ (r.1 * s.2 < s.1 * r.2) := of_decide_eq_false hg
        refine ⟨_, w, r, rfl, eG.trans g1, hw.ex g1, hrm, fun x hx => ?_⟩
        rcases List.mem_append.mp hx with h1 | h1
        · exact hle x h1
        · rw [List.mem_singleton.mp h1]
          show s.1 * r.2 ≤ r.1 * s.2
          omega
    rintro σ' G ⟨v2, w, r, rfl, eG, hw, hrm, hle⟩
    rw [hvl, List.take_length] at hle
    exact s_ret (v := w) (ev_var (i := 1) rfl) fun G1 g1 => k w r G1 (eG.trans g1) (hw.ex g1) ⟨hrm, hle⟩

def spMeet (A : Ads) : Sp := fun vs H Q E => ∃ (v w : V) (n m : Int) (xs ys : List Int), vs = [v, w] ∧ LotAt A.C_Lot H v n xs ∧ LotAt A.C_Lot H w m ys ∧ (1 ≤ n ∧ n ≤ 360) ∧ xs.length ≤ 360 ∧ ys.length ≤ 360 ∧
  (n ≠ m → E (.ref A.C_OtherHours) none H) ∧ (n = m → ∀ p H', H p = none → Ex H H' → H' p = some (.lst ((cntP n (prod xs ys)).map V.int)) → Q (.ref p) H')
theorem ok_meetings (T : Txt K mg A) : FnOk P w K mg base (L2.CX P w) 4 A.f_meetings A.d_meetings (["one", "other"] : List Str) (spMeet A) := by
  refine T.F_meetings.okX sc_meetings (fun vs H Q E h => ?_) (fun cdv Ar outer s H vs Q E hr h => ?_)
  · obtain ⟨v, w, n, m, xs, ys, rfl, _⟩ := h
    rfl
  · obtain ⟨v, w, n, m, xs, ys, rfl, ⟨a, dx, l, rfl, hi, hL⟩, ⟨b, dy, k, rfl, hj, hK⟩, hn, hx, hy, k1, k2⟩ := h
    refine ⟨_, (pss_cons (ps_if (pt_cmpR op_ne (pe_fldK (pv 0) rfl) (pe_fldK (pv 1) rfl) (nomark _)) (pss_one (ps_raise rfl (takes_of rfl rfl rfl rfl) (pmk_none PySem.F.excBase_ValueError T.xP_OtherHours T.g_OtherHours T.kP_OtherHours (raises_own T.bP_OtherHours T.tP_OtherHours) rfl))) pss_nil)
        (pss_cons (ps_set (i := 2) sc_meetings.nd rfl (Or.inl rfl) (pe_op op_rep (pe_lst (pa_cons pe_int pa_nil)) (pe_fldK (pv 0) rfl)))
        (pss_cons (ps_for (passes_of rfl) rfl (pi_own rfl (pv 0) T.M_Lot_iter (ok_Lot_iter T) (hr.mono (by omega)) (b_Lot_iter T)) (pg_name (i := 3) sc_meetings.nd rfl (Or.inl rfl)) (pss_one (ps_for (passes_of rfl) rfl (pi_own rfl (pv 1) T.M_Lot_iter (ok_Lot_iter T) (hr.mono (by omega)) (b_Lot_iter T)) (pg_name (i := 4) sc_meetings.nd rfl (Or.inl rfl)) (pss_cons (ps_set (i := 5) sc_meetings.nd rfl (Or.inl rfl) (pe_op op_mod (pe_op op_sub (pv 3) (pv 4)) (pe_fldK (pv 0) rfl)))
        (pss_one (ps_asg (pe_op op_add (pe_ix ix_lK (pv 2) (pv 5) (fun _ _ => rfl)) pe_int) (pg_sub (pv 2) (pv 5) set_list)))))))
        (pss_one (ps_ret (pv 2)))))), ?_⟩
    refine ⟨_, rfl, a, _, dx, _, _, rfl, hi, T.cl_Lot, T.na_Lot_hours, rfl, _, rfl, b, _, dy, _, _, rfl, hj, T.cl_Lot, T.na_Lot_hours, rfl, rfl, _, rfl, ?_⟩
    by_cases hnm : n = m
    case neg =>
      refine wayNF (fun z => hnm (V.int.inj z)) ?_
      exact k1 hnm
    subst hnm
    refine wayNT rfl ?_
    refine ⟨by show 1 ≤ sizeLine; decide, fun q hq => ⟨_, rfl, a, _, dx, _, _, rfl, Ex.new hq _ _ hi, T.cl_Lot, T.na_Lot_hours, rfl, q, n, _, rfl, rfl, upd_same, by omega, by omega, ?_, fun tk htk => ?_⟩⟩
    · show 1 * n.toNat ≤ sizeLine
      exact Nat.le_trans (show 1 * n.toNat ≤ 360 by omega) (by decide)
    have htk0 : H tk = none := fresh_back (Ex.new hq) htk
    have ex0 : ∀ o, Ex H (upd (upd H q (.lst [.int 0])) tk o) := fun o => (Ex.new hq).trans (Ex.new htk)
    rw [cntP_nil]
    try dsimp only
    refine q_forLn (K := K) (a := l) (xs := xs.map V.int) (j := 3) (ev_own (ev_var (i := 0) rfl) (ex0 _ _ _ hi) rfl) (sq_of (ex0 _ _ _ hL))
      (fun i σ' H' => ∃ xv yv bv : Option V, σ' = [some (.ref a), some (.ref b), some (.ref tk), xv, yv, bv] ∧ Ex H H' ∧ H' tk = some (.lst ((cntP n (prod (xs.take i) ys)).map V.int)))
      (fun H2 e2 => ⟨none, none, none, rfl, (ex0 _).trans e2, e2 _ _ upd_same⟩) (fun i σ' H' _ ⟨_, _, _, _, e, _⟩ => sq_of (e _ _ hL)) ?_ ?_
    · rintro i x' σ' H' hix ⟨xv, yv, bv, rfl, ex, ht⟩
      obtain ⟨x, rfl, hxi⟩ := some_int hix
      try dsimp only
      refine s_forLn (K := K) (a := k) (xs := ys.map V.int) (j := 4) (ev_own (ev_var (i := 1) rfl) (ex _ _ hj) rfl) (sq_of (ex _ _ hK))
        (fun j σ' H' => ∃ yv bv : Option V, σ' = [some (.ref a), some (.ref b), some (.ref tk), some (.int x), yv, bv] ∧ Ex H H' ∧ H' tk = some (.lst ((cntP n (prod (xs.take i) ys ++ (ys.take j).map fun y => (x, y))).map V.int)))
        (fun H2 e2 => ⟨yv, bv, rfl, ex.trans e2, by rw [e2 _ _ ht]; simp⟩) (fun i σ' H' _ ⟨_, _, _, e, _⟩ => sq_of (e _ _ hK)) ?_ ?_
      · rintro j y' σ' H' hjy ⟨yv, bv, rfl, ex, ht⟩
        obtain ⟨y, rfl, hyj⟩ := some_int hjy
        have m0 : 0 ≤ (x - y) % n := Int.emod_nonneg _ (by omega)
        have m1 : (x - y) % n < n := Int.emod_lt_of_pos _ (by omega)
        obtain ⟨d, hd⟩ : ∃ d : Nat, (x - y) % n = (d : Int) := ⟨((x - y) % n).toNat, by omega⟩
        have hdn : d < n.toNat := by omega
        refine ⟨_, rfl, _, rfl, _, _, rfl, rfl, _, rfl, a, _, dx, _, _, rfl, ex _ _ hi, T.cl_Lot, T.na_Lot_hours, rfl, _, _, rfl, rfl, (show (0 : Int) < n by omega), ?_⟩
        try dsimp only
        refine s_setL (j := d) (v := .int (((((prod (xs.take i) ys ++ (ys.take j).map fun y => (x, y))).filter fun p => decide ((p.1 - p.2) % n = (d : Int))).length : Int) + 1)) ht (ev_op (ev_op (ev_var (i := 2) rfl) (ev_var (i := 5) rfl) (rv_ixL (sq_of ht) (by rw [hd]; exact atI_nat (by rw [List.getElem?_map, cntP_get hdn]; rfl)))) ev_c rv_I0) (ev_var (i := 2) rfl) (by rw [← hd]; exact ev_var (i := 5) rfl) (by rw [List.length_map, cntP_len]; exact hdn) fun H3 e3 => ?_
        refine ⟨_, _, rfl, Ex.mut (ex.trans e3) htk0, ?_⟩
        rw [upd_same, List.take_succ, hyj, List.map_append, ← List.append_assoc]
        show some (HO.lst _) = some (HO.lst ((cntP n (_ ++ [(x, y)])).map V.int))
        rw [← cntP_set hdn hd, List.map_set]
      · rintro σ' H' ⟨yv, bv, rfl, ex, ht⟩
        refine ⟨_, _, _, rfl, ex, ?_⟩
        rw [ht, prod_take hxi, List.length_map, List.take_length]
    rintro σ' H' ⟨xv, yv, bv, rfl, ex, ht⟩
    rw [List.length_map, List.take_length] at ht
    exact ⟨_, rfl, k2 rfl tk H' htk0 ex ht⟩

def co (n : Int) (xs : List Int) : List Int := hrs n fun z => !decide (z ∈ xs)
def nlOf (n : Nat) (ss : List Int) (xss : List (List Int)) : List (Int × Int) := (List.range ss.length).map fun g => (ss.getD g 0 * ((co (n : Int) (xss.getD g [])).length : Int), (n : Int))

theorem filt_two {α : Type} (p : α → Bool) : ∀ xs : List α, (xs.filter p).length + (xs.filter fun x => !p x).length = xs.length
  | [] => rfl
  | x :: xs => by
    have := filt_two p xs
    simp only [List.filter_cons]
    cases p x <;> simp <;> omega
theorem hrs_two {n : Int} {p : Int → Bool} : (hrs n p).length + (hrs n fun z => !p z).length = n.toNat := by
  unfold hrs pick
  rw [List.length_map, List.length_map]
  have := filt_two (fun h : Nat => p (h : Int)) (List.range n.toNat)
  rw [List.length_range] at this
  exact this
theorem hrs_self {n : Int} {xs : List Int} (hn : 0 ≤ n) (h : Asc 0 n xs) : hrs n (fun z => decide (z ∈ xs)) = xs := asc_unique (asc_hrs hn).1 h.1 fun z => by
  rw [mem_hrs]
  constructor
  · rintro ⟨_, h2⟩; exact of_decide_eq_true h2
  · intro h2; exact ⟨h.2 z h2, decide_eq_true h2⟩
theorem co_len {n : Int} {xs : List Int} (hn : 0 ≤ n) (h : Asc 0 n xs) : ((co n xs).length : Int) = n - (xs.length : Int) := by
  have h1 := hrs_two (n := n) (p := fun z => decide (z ∈ xs))
  rw [hrs_self hn h] at h1
  unfold co
  omega
theorem en_rat {K : PySem.W.Frag} {A : Ads} {E : XK} {σ : L2.St} {H : Hp} {tp tq : TE} {p q : Int} (hp : Ev tp σ H (.int p)) (hq : Ev tq σ H (.int q)) (h0 : q ≠ 0) (hz : Sz q) :
    EvNew (tMake A.C_Ratio (spRatInit A) [] E (tCons tp (tCons tq tNil))) σ H fun v G => IsRt A v G p q := fun H1 e Q k =>
  hp H1 e _ fun H2 e2 => hq H2 (e.trans e2) _ fun H3 e3 x dx hx hdx hne => ⟨x, dx, p, q, rfl, upd_same, Nat.lt_of_lt_of_le hz.lt (Nat.pow_le_pow_right (by decide) (by decide)), fun z => absurd z h0, fun _ t u hl H' ho hv =>
    ⟨rfl, k _ H' ((e2.trans e3).trans (ex_made hx hdx ho)) fun G g => ⟨t, u, hl, x, dx, rfl, g x _ (fresh_back (e2.trans e3) hx) hv⟩⟩⟩
theorem ratL_of {A : Ads} {G : Hp} {n : Nat} {rs : List (Int × Int)} {v : V} (h : ListP n (fun i w G => IsRt A w G (rs.getD i (0, 1)).1 (rs.getD i (0, 1)).2) v G) (hn : n = rs.length) : ∃ p, v = .ref p ∧ RatL A G p rs := by
  obtain ⟨p, vs, rfl, h1, h2, h3⟩ := h
  exact ⟨p, rfl, vs, h1, by omega, fun i w r hw hr => by
    have this : IsRt A w G (rs.getD i (0, 1)).1 (rs.getD i (0, 1)).2 := h3 i w hw
    rw [List.getD_eq_getElem?_getD, hr] at this
    exact this⟩
theorem ratL_new {A : Ads} {H H1 : Hp} {n : Nat} {rs : List (Int × Int)} {v : V} (h : NewP (fun G => ListP n (fun i w G => IsRt A w G (rs.getD i (0, 1)).1 (rs.getD i (0, 1)).2) v G) H H1) (hn : n = rs.length) : ∃ p, v = .ref p ∧ H p = none ∧ RatL A H1 p rs := by
  obtain ⟨p, rfl, hR⟩ := ratL_of h.self hn
  obtain ⟨p', vs, e, h1, _⟩ := h (fun b => match H b with | none => H1 b | some _ => none) (fun b o z1 z2 => by simp only [z1, z2])
  cases e
  refine ⟨p, rfl, ?_, hR⟩
  cases q : H p with
  | none => rfl
  | some o =>
    have h1' : (match H p with | none => H1 p | some _ => none) = some (HO.lst vs) := h1
    rw [q] at h1'
    cases h1'
theorem er_greatest {A : Ads} {E : XK} {tl : TE} {σ : L2.St} {H : Hp} {rs : List (Int × Int)} (h : EvR tl σ H fun v G => ∃ p, v = .ref p ∧ RatL A G p rs) (h0 : rs ≠ []) (hl : rs.length ≤ 40000) (hb : ∀ r ∈ rs, RB r) : EvR (tCall (spGreatest A) [] E (tCons tl tNil)) σ H fun v G => ∃ r : Int × Int, IsRt A v G r.1 r.2 ∧ MaxP rs r := fun H1 e Q q => h H1 e _ fun v H2 e2 hv => by
  obtain ⟨p, rfl, hR⟩ := hv
  exact ⟨p, rs, rfl, hR, h0, hl, hb, fun v r H' e' h1 h2 => q v H' (e2.trans e') ⟨r, h1, h2⟩⟩
theorem nl_rb {n : Nat} {ss : List Int} {xss : List (List Int)} (hn : 1 ≤ n ∧ n ≤ 24) (hs : ∀ s ∈ ss, 0 ≤ s ∧ s ≤ 60) : ∀ r ∈ nlOf n ss xss, RB r := fun r hr => by
  obtain ⟨g, hg, rfl⟩ := List.mem_map.mp hr
  have hg := List.mem_range.mp hg
  have b := hs _ (in_getD (d := 0) hg)
  have l : (co (n : Int) (xss.getD g [])).length ≤ 24 := by
    have := hrs_two (n := (n : Int)) (p := fun z => decide (z ∈ xss.getD g []))
    unfold co
    omega
  generalize (co (n : Int) (xss.getD g [])).length = z at *
  generalize ss.getD g 0 = x at *
  have e1 : x * (z : Int) ≤ 60 * (z : Int) := Int.mul_le_mul_of_nonneg_right b.2 (by omega)
  have e0 : 0 ≤ x * (z : Int) := Int.mul_nonneg b.1 (by omega)
  exact ⟨e0, by show x * (z : Int) ≤ 1000000; omega, by show 1 ≤ (n : Int); omega, by show (n : Int) ≤ 1000000; omega⟩

def spNoLook (K : PySem.W.Frag) (A : Ads) : Sp := fun vs H Q E => ∃ (hv : V) (p : Addr) (n : Nat) (gs : List (Str × Int)) (ls : List (Int × List Int)), vs = [hv, .ref p] ∧ HouseIs A.C_House hv H (n : Int) gs ∧ (1 ≤ gs.length ∧ gs.length ≤ 4) ∧ (∀ g ∈ gs, 0 ≤ g.2 ∧ g.2 ≤ 60) ∧ (1 ≤ n ∧ n ≤ 24) ∧ LotsL K A H p ls ∧ (ls.length ≠ gs.length → ∀ d H', Ex H H' → H' d = some (.xd [("length", .int (ls.length : Int))]) → E (.ref A.C_WrongLength) (some d) H') ∧ (ls.length = gs.length → (∃ l ∈ ls, l.1 ≠ (n : Int)) → ∀ H', Ex H H' → E (.ref A.C_OtherHours) none H') ∧
  (ls.length = gs.length → (∀ l ∈ ls, l.1 = (n : Int)) → ∀ v r H', Ex H H' → IsRt A v H' r.1 r.2 → MaxP (nlOf n (gs.map (·.2)) (ls.map (·.2))) r → Q v H')
theorem ok_no_look_bound (T : Txt K mg A) : FnOk P w K mg base (L2.CX P w) 13 A.f_no_look_bound A.d_no_look_bound (["house", "lots"] : List Str) (spNoLook K A) := by
  refine T.F_no_look_bound.okX sc_no_look_bound (fun vs H Q E h => ?_) (fun cdv Ar outer s H vs Q E hr h => ?_)
  · obtain ⟨hv, p, n, gs, ls, rfl, _⟩ := h
    rfl
  · obtain ⟨hv, p, n, gs, ls, rfl, hh, hm, hst, hn, hL, k1, k2, k3⟩ := h
    refine ⟨_, (pss_cons (ps_expr (ClX.pe_cmeth (pe_glob (v := .ref A.C_Watch) rfl T.g_Watch rfl) T.CM_Watch_of_lots.choose_spec.1 T.CM_Watch_of_lots.choose_spec.2 (FnOk.raw (ok_Watch_of_lots T) (b_Watch_of_lots T) .nil) (hr.mono (by omega)) (passes_call (takes_of rfl rfl rfl rfl) (fun _ _ _ _ h => h)) (pa_cons (pv 0) (pa_cons (pv 1) pa_nil))))
        (pss_one (ps_ret (pe_call (ok_greatest T) (hr.mono (by omega)) rfl T.g_greatest T.k_greatest (b_greatest T) .nil pass0 (pa_cons (pe_lc (own := [("stake", 2), ("lot", 3)]) (g := gTup K 2 (gCons (gName 2) (gCons (gName 3) gNil))) (tt := tYes) rfl sc_no_look_bound.nd (pi_zipM (by rfl) T.z_zip (pa_cons (pe_fldK (pv 0) rfl) (pa_cons (pv 1) pa_nil))) (blkOk_by (own := [("stake", 2), ("lot", 3)]) (N := N_no_look_bound) (sc := defScope s_no_look_bound) (by decide +kernel)) (fun _ _ _ _ _ => (pg_tupK rfl rfl (pgs_cons (pg_name (i := 2) sc_no_look_bound.nd rfl (Or.inl rfl)) (pgs_cons (pg_name (i := 3) sc_no_look_bound.nd rfl (Or.inl rfl)) pgs_nil)))) (fun _ _ _ _ _ => pts_nil) (fun _ _ _ _ _ => (pe_make T.mk_Ratio (ok_Ratio_init T) (hr.mono (by omega)) rfl T.g_Ratio (b_Ratio_init T) .nil passL (pa_cons (pe_op op_mul (pv 2) (pe_callB (call_lenO (E := E0) T.M_Lot_len (ok_Lot_len T) (hr.mono (by omega)) (b_Lot_len T) (pAt pass0)) (by rfl) T.z_len (by decide +kernel) (pa_cons (pe_unS (un_invO (E := fun _ => E0) T.M_Lot_invert (ok_Lot_invert T) (hr.mono (by omega)) (b_Lot_invert T) (pAt pass0)) (pv 3)) pa_nil))) (pa_cons (pe_fldK (pv 0) rfl) pa_nil))))) pa_nil))))), ?_⟩
    obtain ⟨ws, hws, hwl, hwa⟩ := hL.all
    obtain ⟨a3, dx3, p3, q3, rfl, h5, h6, h7⟩ := id hh
    try dsimp only
    refine ⟨rfl, _, rfl, _, rfl, .ref a3, p, n, gs, ls, rfl, hh, by omega, ⟨by omega, by omega⟩, hL, k1, k2, fun hlen hall w0 H1 e1 _ => ?_⟩
    have lot_at : ∀ {i : Nat}, i < gs.length → ∃ w, ws[i]? = some w ∧ LotIs A.C_Lot w H (n : Int) ((ls.map (·.2)).getD i []) := fun {i} hi => by
      have vi : ws[i]? = some ws[i] := List.getElem?_eq_getElem (by omega)
      have li : ls[i]? = some ls[i] := List.getElem?_eq_getElem (by omega)
      have hLi := hwa i _ _ vi li
      rw [hall _ (List.mem_of_getElem? li)] at hLi
      refine ⟨_, vi, ?_⟩
      rw [List.getD_eq_getElem?_getD, List.getElem?_map, li]
      exact hLi
    have sl : (gs.map (·.2)).length = gs.length := List.length_map _
    have nz : Sz (n : Int) := szr_of (b := 5) (by omega) (by decide)
    have nll : (nlOf n (gs.map (·.2)) (ls.map (·.2))).length = gs.length := by unfold nlOf; rw [List.length_map, List.length_range, sl]
    have stb : ∀ s ∈ gs.map (·.2), 0 ≤ s ∧ s ≤ 60 := fun s hs => by
      obtain ⟨g, hg, rfl⟩ := List.mem_map.mp hs
      exact hst g hg
    try dsimp only
    refine s_retR (er_greatest (rs := nlOf n (gs.map (·.2)) (ls.map (·.2))) (EvR.imp (en_lc (fun i w G => IsRt A w G ((nlOf n (gs.map (·.2)) (ls.map (·.2))).getD i (0, 1)).1 ((nlOf n (gs.map (·.2)) (ls.map (·.2))).getD i (0, 1)).2) (ei_zipM (K := K) (xs := (gs.map (·.2)).map V.int) (ys := ws) (n := gs.length) (eb_ev (ev_hstakes (ev_var (i := 0) rfl) (e1 _ _ h5) T.cl_House T.na_House_stakes) fun G e => ⟨q3, rfl, st_of (e _ _ (e1 _ _ h7))⟩) (eb_ev (ev_var (i := 1) rfl) fun G e => ⟨p, rfl, ex_l (e1.trans e) hws⟩) (by rw [List.length_map, List.length_map, hwl]; omega)) (by omega) bd_pair (fun i hi => rfl) (fun i H2 hi e2 => ?_)).er fun v G hv => ratL_of hv nll.symm) (fun z => by have := congrArg List.length z; rw [nll] at this; exact absurd (show gs.length = 0 from this) (by omega)) (by rw [nll]; omega) (nl_rb hn stb)) fun v H2 e2 hv => by
        obtain ⟨r, h1, h2⟩ := hv
        exact k3 hlen hall v r H2 (e1.trans e2) h1 h2
    obtain ⟨w, hw, hLw⟩ := lot_at hi
    have es : ((gs.map (·.2)).map V.int)[i]? = some (.int ((gs.map (·.2)).getD i 0)) := by
      rw [List.getElem?_map, List.getD_eq_getElem?_getD, List.getElem?_eq_getElem (by omega)]
      rfl
    have er : (nlOf n (gs.map (·.2)) (ls.map (·.2))).getD i (0, 1) = ((gs.map (·.2)).getD i 0 * ((co (n : Int) ((ls.map (·.2)).getD i [])).length : Int), (n : Int)) := by
      unfold nlOf
      rw [List.getD_eq_getElem?_getD (l := List.map _ (List.range _)), List.getElem?_map, List.getElem?_range (by omega)]
      rfl
    rw [er, es, hw]
    have cl : (co (n : Int) ((ls.map (·.2)).getD i [])).length ≤ 24 := by
      have := hrs_two (n := (n : Int)) (p := fun z => decide (z ∈ (ls.map (·.2)).getD i []))
      unfold co
      omega
    have sb := stb _ (in_getD (d := 0) (show i < (gs.map (·.2)).length by omega))
    exact en_rat (K := K) (ev_op (ev_var (i := 2) rfl) (ev_lotLen (er_lot1 (er_ev (ev_var (i := 3) rfl) fun G e => hLw.ex ((e1.trans e2).trans e)))) (rv_I (.inl ⟨by omega, by omega⟩))) (ev_hhours (ev_var (i := 0) rfl) ((e1.trans e2) _ _ h5) T.cl_House T.na_House_hours) (by omega) nz

theorem cut_drop (xs : List Int) (k : Nat) : cutV (xs.map V.int) (some (k : Int)) none = (xs.drop k).map V.int := by
  unfold cutV
  rw [HT.sIx_none, HT.sIx_nat, List.length_map, ← List.map_drop, ← List.map_take]
  congr 1
  rw [List.take_of_length_le (by rw [List.length_drop]; omega)]
  by_cases h : k ≤ xs.length
  · rw [Nat.min_eq_left h]
  · rw [Nat.min_eq_right (by omega), List.drop_length, List.drop_of_length_le (by omega)]

theorem el_slL {K : PySem.W.Frag} {te : TE} {tl th : TO} {σ : L2.St} {H : Hp} {xs : List V} {lo hi : Option Int} (h : EvL te σ H xs) (h1 : EvO tl σ H lo) (h2 : EvO th σ H hi) : EvL (tSl (rSlL K) te tl th) σ H (cutV xs lo hi) := fun H1 e Q q =>
  h H1 e _ fun p H2 hp e2 hx => (el_sl (K := K) (te := tC (.ref p)) (ev_c (H := H2)) (fun H3 e3 => h1 H3 ((e.trans e2).trans e3)) (fun H3 e3 => h2 H3 ((e.trans e2).trans e3)) (sq_of hx)) H2 (Ex.refl _) Q fun l H3 hl e3 h3 => q l H3 (fresh_back e2 hl) (e2.trans e3) h3
theorem el_meetC {A : Ads} {E : XK} {σ : L2.St} {H : Hp} {ta tb : TE} {n : Int} {xs ys : List Int} (ha : EvR ta σ H fun v H1 => LotIs A.C_Lot v H1 n xs) (hb : EvR tb σ H fun v H1 => LotIs A.C_Lot v H1 n ys) : EvL (tCall (spMeet A) [] E (tCons ta (tCons tb tNil))) σ H ((cnt n xs ys).map V.int) := fun H1 e Q q =>
  ha H1 e _ fun v H2 e2 hv => hb H2 (e.trans e2) _ fun w H3 e3 hw => ⟨v, w, n, n, xs, ys, rfl, (hv.ex e3).at_, hw.at_, hv.hn, hv.len, hw.len, fun z => absurd rfl z, fun _ p H' hp e' h' => q p H' (fresh_back (e2.trans e3) hp) ((e2.trans e3).trans e') (by rw [h', cnt_eq (by have := hv.hn; omega) hv.asc])⟩
theorem RatL.append {A : Ads} {G : Hp} {a b c : Addr} {rs ks : List (Int × Int)} {xs ys : List V} (ha : G a = some (.lst xs)) (hb : G b = some (.lst ys)) (h1 : RatL A G a rs) (h2 : RatL A G b ks) (hc : G c = none) : RatL A (upd G c (.lst (xs ++ ys))) c (rs ++ ks) := by
  obtain ⟨us, u1, u2, u3⟩ := h1
  obtain ⟨ws, w1, w2, w3⟩ := h2
  rw [ha] at u1
  rw [hb] at w1
  cases u1
  cases w1
  refine ⟨xs ++ ys, upd_same, by rw [List.length_append, List.length_append, u2, w2], fun i v r hv hr => ?_⟩
  by_cases z : i < xs.length
  · rw [List.getElem?_append_left z] at hv
    rw [List.getElem?_append_left (by omega)] at hr
    exact (u3 i v r hv hr).ex (Ex.new hc)
  · rw [List.getElem?_append_right (by omega)] at hv
    rw [List.getElem?_append_right (by omega), ← u2] at hr
    exact (w3 _ v r hv hr).ex (Ex.new hc)
theorem er_ratcat {K : PySem.W.Frag} {A : Ads} {ta tb : TE} {σ : L2.St} {H : Hp} {rs ks : List (Int × Int)} (h1 : EvR ta σ H fun v G => ∃ p, v = .ref p ∧ RatL A G p rs) (h2 : EvR tb σ H fun v G => ∃ p, v = .ref p ∧ RatL A G p ks) (hz : rs.length + ks.length ≤ 1000) : EvR (tOp rCat ta tb) σ H fun v G => ∃ p, v = .ref p ∧ H p = none ∧ RatL A G p (rs ++ ks) := fun H1 e Q q => h1 H1 e _ fun v H2 e2 hv => h2 H2 (e.trans e2) _ fun w H3 e3 hw => by
  obtain ⟨a, rfl, hA⟩ := hv
  obtain ⟨b, rfl, hB⟩ := hw
  have hA3 := hA.ex e3
  obtain ⟨xs, x1, x2, _⟩ := id hA3
  obtain ⟨ys, y1, y2, _⟩ := id hB
  exact ⟨a, b, xs, ys, rfl, rfl, x1, y1, sz_of (show xs.length + ys.length ≤ 100000 by omega), fun p hp => q _ _ ((e2.trans e3).trans (Ex.new hp)) ⟨p, rfl, fresh_back ((e.trans e2).trans e3) hp, RatL.append x1 y1 hA3 hB hp⟩⟩
theorem cnt_len {n : Int} {xs ys : List Int} : (cnt n xs ys).length = n.toNat := by unfold cnt; rw [List.length_map, List.length_range]
theorem cnt_le {n : Int} {xs ys : List Int} : ∀ c ∈ cnt n xs ys, 0 ≤ c ∧ c ≤ (ys.length : Int) := fun c hc => by
  obtain ⟨d, _, rfl⟩ := List.mem_map.mp hc
  have := List.length_filter_le (fun y => decide ((y + (d : Int)) % n ∈ xs)) ys
  omega
theorem er_means {K : PySem.W.Frag} {A : Ads} {E : XK} {te tq : TE} {σ : L2.St} {H : Hp} {i j : Nat} {vs : List Nat} {p : Addr} {cs : List Int} {q : Int} (f : Int → Int) (hp : σ[i]? = some (some (.ref p))) (hc : H p = some (.lst (cs.map V.int))) (hl : cs.length ≤ 1000) (hq0 : q ≠ 0) (hqz : Sz q) (hw : ∀ x, wipe ((wipe σ vs).set j x) vs = wipe σ vs)
    (he : ∀ (c : Int) H1, Ex H H1 → c ∈ cs → Ev te ((wipe σ vs).set j (some (.int c))) H1 (.int (f c))) (hq : ∀ (c : Int) H1, Ex H H1 → Ev tq ((wipe σ vs).set j (some (.int c))) H1 (.int q)) :
    EvR (tLc (iList K (tVar i)) (gName j) tYes (tMake A.C_Ratio (spRatInit A) [] E (tCons te (tCons tq tNil))) vs) σ H fun v G => ∃ p, v = .ref p ∧ H p = none ∧ RatL A G p (cs.map fun c => (f c, q)) := by
  have hn : (cs.map V.int).length = (cs.map fun c => (f c, q)).length := by rw [List.length_map, List.length_map]
  refine fun H1 e Q k => (en_lc (fun i w G => IsRt A w G ((cs.map fun c => (f c, q)).getD i (0, 1)).1 ((cs.map fun c => (f c, q)).getD i (0, 1)).2) (ei_list (K := K) (eb_ev (ev_var hp) fun G e => ⟨p, rfl, sq_of (e _ _ hc)⟩)) (by rw [List.length_map]; omega) bd_at (fun k _ => hw _) (fun k H2 hk e2 => ?_)) H1 e Q fun v H2 e2 hN => by
    obtain ⟨p, rfl, hp, hR⟩ := ratL_new hN hn
    exact k _ H2 e2 ⟨p, rfl, fresh_back e hp, hR⟩
  rw [List.length_map] at hk
  have e1 : (cs.map V.int)[k]? = some (.int cs[k]) := by rw [List.getElem?_map, List.getElem?_eq_getElem hk]; rfl
  have e3 : (cs.map fun c => (f c, q)).getD k (0, 1) = (f cs[k], q) := by rw [List.getD_eq_getElem?_getD, List.getElem?_map, List.getElem?_eq_getElem hk]; rfl
  rw [e1, e3]
  exact en_rat (K := K) (he _ H2 e2 (List.getElem_mem hk)) (hq _ H2 e2) hq0 hqz
def meansOf (n : Nat) (S T : List Int) (first : Nat) : List (Int × Int) := (if 0 < S.length then ((cnt (n : Int) T S).drop first).map fun c => ((S.length : Int) - c, (S.length : Int)) else []) ++ (if 0 < (co (n : Int) S).length then ((cnt (n : Int) (co (n : Int) T) (co (n : Int) S)).drop first).map fun c => (c, ((co (n : Int) S).length : Int)) else [])
def spMeans (A : Ads) : Sp := fun vs H Q _ => ∃ (v w : V) (n : Nat) (xs ys : List Int) (first : Nat), vs = [v, w, .int (first : Int)] ∧ LotIs A.C_Lot v H (n : Int) xs ∧ LotIs A.C_Lot w H (n : Int) ys ∧ (1 ≤ n ∧ n ≤ 24) ∧ first ≤ 1 ∧ ∀ p H', H p = none → Ex H H' → RatL A H' p (meansOf n xs ys first) → Q (.ref p) H' 
theorem ok_u_means_after (T : Txt K mg A) : FnOk P w K mg base CX0 9 A.f_u_means_after A.d_u_means_after (["seen", "tried", "first"] : List Str) (spMeans A) := by
  refine T.F_u_means_after.ok sc_u_means_after (fun vs H Q E h => ?_) (fun cdv Ar outer s H vs Q E hr h => ?_)
  · obtain ⟨v, w, n, xs, ys, first, rfl, _⟩ := h
    rfl
  · obtain ⟨v, w, n, xs, ys, first, rfl, hX, hY, hn, hf, k⟩ := h
    refine ⟨_, (pss_cons (ps_set (i := 3) sc_u_means_after.nd rfl (Or.inl rfl) (pe_lst pa_nil))
        (pss_cons (ps_if (pt_cmpR op_gt (pe_callB (call_lenO (E := E0) T.M_Lot_len (ok_Lot_len T) (hr.mono (by omega)) (b_Lot_len T) (pAt pass0)) (by rfl) T.z_len (by decide +kernel) (pa_cons (pv 0) pa_nil)) pe_int (nomark _)) (pss_cons (ps_set (i := 4) sc_u_means_after.nd rfl (Or.inl rfl) (pe_slice sl_list (pe_call (ok_meetings T) (hr.mono (by omega)) rfl T.g_meetings T.k_meetings (b_meetings T) .nil passL (pa_cons (pv 1) (pa_cons (pv 0) pa_nil))) (po_some (pv 2)) po_none))
        (pss_one (ps_setLc (i := 3) (own := [("count", 5)]) (g := gName 5) (tt := tYes) rfl sc_u_means_after.nd rfl rfl (sw_true rfl rfl rfl (by decide +kernel)) (pi_listK (pv 4)) (blkOk_by (own := [("count", 5)]) (N := N_u_means_after) (sc := defScope s_u_means_after) (by decide +kernel)) (fun _ _ _ _ _ => (pg_name (i := 5) sc_u_means_after.nd rfl (Or.inl rfl))) (fun _ _ _ _ _ => pts_nil) (fun _ _ _ _ _ => (pe_make T.mk_Ratio (ok_Ratio_init T) (hr.mono (by omega)) rfl T.g_Ratio (b_Ratio_init T) .nil passL (pa_cons (pe_op op_sub (pe_callB (call_lenO (E := E0) T.M_Lot_len (ok_Lot_len T) (hr.mono (by omega)) (b_Lot_len T) (pAt pass0)) (by rfl) T.z_len (by decide +kernel) (pa_cons (pv 0) pa_nil)) (pv 5)) (pa_cons (pe_callB (call_lenO (E := E0) T.M_Lot_len (ok_Lot_len T) (hr.mono (by omega)) (b_Lot_len T) (pAt pass0)) (by rfl) T.z_len (by decide +kernel) (pa_cons (pv 0) pa_nil)) pa_nil))))))) pss_nil)
        (pss_cons (ps_if (pt_cmpR op_gt (pe_callB (call_lenO (E := E0) T.M_Lot_len (ok_Lot_len T) (hr.mono (by omega)) (b_Lot_len T) (pAt pass0)) (by rfl) T.z_len (by decide +kernel) (pa_cons (pe_unS (un_invO (E := fun _ => E0) T.M_Lot_invert (ok_Lot_invert T) (hr.mono (by omega)) (b_Lot_invert T) (pAt pass0)) (pv 0)) pa_nil)) pe_int (nomark _)) (pss_cons (ps_set (i := 4) sc_u_means_after.nd rfl (Or.inl rfl) (pe_slice sl_list (pe_call (ok_meetings T) (hr.mono (by omega)) rfl T.g_meetings T.k_meetings (b_meetings T) .nil passL (pa_cons (pe_unS (un_invO (E := fun _ => E0) T.M_Lot_invert (ok_Lot_invert T) (hr.mono (by omega)) (b_Lot_invert T) (pAt pass0)) (pv 1)) (pa_cons (pe_unS (un_invO (E := fun _ => E0) T.M_Lot_invert (ok_Lot_invert T) (hr.mono (by omega)) (b_Lot_invert T) (pAt pass0)) (pv 0)) pa_nil))) (po_some (pv 2)) po_none))
        (pss_one (ps_set (i := 3) sc_u_means_after.nd rfl (Or.inl rfl) (pe_op op_cat (pv 3) (pe_lc (own := [("count", 5)]) (g := gName 5) (tt := tYes) rfl sc_u_means_after.nd (pi_listK (pv 4)) (blkOk_by (own := [("count", 5)]) (N := N_u_means_after) (sc := defScope s_u_means_after) (by decide +kernel)) (fun _ _ _ _ _ => (pg_name (i := 5) sc_u_means_after.nd rfl (Or.inl rfl))) (fun _ _ _ _ _ => pts_nil) (fun _ _ _ _ _ => (pe_make T.mk_Ratio (ok_Ratio_init T) (hr.mono (by omega)) rfl T.g_Ratio (b_Ratio_init T) .nil passL (pa_cons (pv 5) (pa_cons (pe_callB (call_lenO (E := E0) T.M_Lot_len (ok_Lot_len T) (hr.mono (by omega)) (b_Lot_len T) (pAt pass0)) (by rfl) T.z_len (by decide +kernel) (pa_cons (pe_unS (un_invO (E := fun _ => E0) T.M_Lot_invert (ok_Lot_invert T) (hr.mono (by omega)) (b_Lot_invert T) (pAt pass0)) (pv 0)) pa_nil)) pa_nil))))))))) pss_nil)
        (pss_one (ps_ret (pv 3)))))), ?_⟩
    have xl := hX.asc.len
    have nn : (0 : Int) ≤ (n : Int) := by omega
    have cx : (co (n : Int) xs).length ≤ 24 := by
      have := hrs_two (n := (n : Int)) (p := fun z => decide (z ∈ xs))
      unfold co
      omega
    have xl24 : xs.length ≤ 24 := by omega
    have c1 : ((cnt (n : Int) ys xs).drop first).length ≤ 24 := by rw [List.length_drop, cnt_len]; omega
    have c2 : ((cnt (n : Int) (co (n : Int) ys) (co (n : Int) xs)).drop first).length ≤ 24 := by rw [List.length_drop, cnt_len]; omega
    have szi : ∀ k : Nat, k ≤ 24 → Sz (k : Int) := fun k hk => szr_of (b := 5) (by omega) (by decide)
    have sE : ∀ {σ : L2.St} {G : Hp}, σ[0]? = some (some v) → Ex H G → EvR (tVar 0) σ G fun v H1 => LotIs A.C_Lot v H1 (n : Int) xs := fun h e => er_ev (ev_var h) fun G e' => hX.ex (e.trans e')
    have tE : ∀ {σ : L2.St} {G : Hp}, σ[1]? = some (some w) → Ex H G → EvR (tVar 1) σ G fun v H1 => LotIs A.C_Lot v H1 (n : Int) ys := fun h e => er_ev (ev_var h) fun G e' => hY.ex (e.trans e')
    try dsimp only
    refine q_asgL (xs := []) (el_lst ea_nil (by decide)) fun mp H1 hmp e1 h1 => ?_
    try dsimp only
    refine q_alt (b := decide (0 < (xs.length : Int))) (M := fun σ' G => ∃ (mp : Addr) (v4 : Option V), σ' = [some v, some w, some (.int (first : Int)), some (.ref mp), v4, none] ∧ Ex H G ∧ H mp = none ∧ RatL A G mp (if 0 < xs.length then ((cnt (n : Int) ys xs).drop first).map fun c => ((xs.length : Int) - c, (xs.length : Int)) else [])) (et_test (ev_op (ev_lotLen (sE rfl e1)) ev_c rv_I0)) (fun hb G g W hW => ?_) (fun hb G g => ?_) fun σ' G2 hM => ?_
    · have hb : 0 < xs.length := by have := of_decide_eq_true hb; omega
      have e1g := e1.trans g
      try dsimp only
      refine q_asgL (xs := ((cnt (n : Int) ys xs).drop first).map V.int) (el_isW (el_slL (K := K) (el_meetC (tE rfl e1g) (sE rfl e1g)) (eo_some (ev_var (i := 2) rfl)) eo_none) (cut_drop _ _)) fun cp G1 _ g1 hc => ?_
      have e0G := e1g.trans g1
      try dsimp only
      refine s_asgR (er_means (K := K) (A := A) (cs := (cnt (n : Int) ys xs).drop first) (q := (xs.length : Int)) (fun c => (xs.length : Int) - c) (i := 4) (j := 5) rfl hc (by omega) (by omega) (szi _ (by omega)) (fun x => rfl) (fun c G2 g2 hcm => ev_op (ev_lotLen (sE rfl (e0G.trans g2))) (ev_var (i := 5) rfl) rv_I0) (fun c G2 g2 => ev_lotLen (sE rfl (e0G.trans g2)))) fun v' G3 g3 hv' => ?_
      obtain ⟨mp2, rfl, hm0, hm⟩ := hv'
      exact hW _ _ ⟨mp2, some (.ref cp), rfl, e0G.trans g3, fresh_back e0G hm0, by rw [if_pos hb]; exact hm⟩
    · have hb : ¬ 0 < xs.length := by have := of_decide_eq_false hb; omega
      exact ⟨mp, none, rfl, e1.trans g, hmp, by rw [if_neg hb]; exact ⟨[], g _ _ h1, rfl, fun i v r hv => by cases hv⟩⟩
    obtain ⟨mp1, v4, rfl, e2, hm1, hR1⟩ := hM
    have hl1 : (if 0 < xs.length then ((cnt (n : Int) ys xs).drop first).map fun c => ((xs.length : Int) - c, (xs.length : Int)) else []).length ≤ 24 := by
      split
      · rw [List.length_map]; exact c1
      · exact Nat.zero_le _
    have iE : ∀ {σ : L2.St} {G : Hp} {i : Nat} {u : V} {zs : List Int}, EvR (tVar i) σ G (fun v H1 => LotIs A.C_Lot v H1 (n : Int) zs) → EvR (tUnS (rOwn1 A.C_Lot (spLot1 A fun n xs => hrs n fun z => !decide (z ∈ xs)) fun x => E0) (tVar i)) σ G fun v H1 => LotIs A.C_Lot v H1 (n : Int) (co (n : Int) zs) := fun h => er_lot1 h
    unfold meansOf at k
    generalize (if 0 < xs.length then ((cnt (n : Int) ys xs).drop first).map fun c => ((xs.length : Int) - c, (xs.length : Int)) else []) = rs1 at *
    try dsimp only
    refine q_alt (b := decide (0 < ((co (n : Int) xs).length : Int))) (M := fun σ' G => ∃ (mp : Addr) (v4 : Option V), σ' = [some v, some w, some (.int (first : Int)), some (.ref mp), v4, none] ∧ Ex H G ∧ H mp = none ∧ RatL A G mp (rs1 ++ if 0 < (co (n : Int) xs).length then ((cnt (n : Int) (co (n : Int) ys) (co (n : Int) xs)).drop first).map fun c => (c, ((co (n : Int) xs).length : Int)) else [])) (et_test (ev_op (ev_lotLen (iE (u := v) (sE rfl e2))) ev_c rv_I0)) (fun hb G g W hW => ?_) (fun hb G g => ?_) fun σ' G3 hM => ?_
    · have hb : 0 < (co (n : Int) xs).length := by have := of_decide_eq_true hb; omega
      have e2g := e2.trans g
      try dsimp only
      refine q_asgL (xs := ((cnt (n : Int) (co (n : Int) ys) (co (n : Int) xs)).drop first).map V.int) (el_isW (el_slL (K := K) (el_meetC (iE (u := v) (tE rfl e2g)) (iE (u := v) (sE rfl e2g))) (eo_some (ev_var (i := 2) rfl)) eo_none) (cut_drop _ _)) fun cp G1 _ g1 hc => ?_
      have e0G := e2g.trans g1
      try dsimp only
      refine s_asgR (er_ratcat (K := K) (A := A) (er_ev (ev_var (i := 3) rfl) fun G e => ⟨mp1, rfl, hR1.ex ((g.trans g1).trans e)⟩) (EvR.imp (er_means (K := K) (A := A) (cs := (cnt (n : Int) (co (n : Int) ys) (co (n : Int) xs)).drop first) (q := ((co (n : Int) xs).length : Int)) (fun c => c) (i := 4) (j := 5) rfl hc (by omega) (by omega) (szi _ (by omega)) (fun x => rfl) (fun c G2 g2 hcm => ev_var (i := 5) rfl) (fun c G2 g2 => ev_lotLen (iE (u := v) (sE rfl (e0G.trans g2))))) fun v G ⟨q, z1, _, z2⟩ => ⟨q, z1, z2⟩) (by rw [List.length_map]; omega)) fun v' G3 g3 hv' => ?_
      obtain ⟨mp2, rfl, hm0, hm⟩ := hv'
      exact hW _ _ ⟨mp2, some (.ref cp), rfl, e0G.trans g3, fresh_back e0G hm0, by rw [if_pos hb]; exact hm⟩
    · have hb : ¬ 0 < (co (n : Int) xs).length := by have := of_decide_eq_false hb; omega
      exact ⟨mp1, v4, rfl, e2.trans g, hm1, by rw [if_neg hb, List.append_nil]; exact hR1.ex g⟩
    obtain ⟨mp2, v4', rfl, e3, hm2, hR2⟩ := hM
    try dsimp only
    exact s_ret (ev_var (i := 3) rfl) fun G4 g4 => k mp2 G4 hm2 (e3.trans g4) (hR2.ex g4)

theorem s_appR {K : PySem.W.Frag} {ta te : TE} {D : Ends} {σ : L2.St} {H : Hp} {l : Addr} {xs : List V} {P : V → Hp → Prop} (hl : H l = some (.lst xs)) (ha : Ev ta σ H (.ref l)) (h : EvR te σ H P) (hz : xs.length < 100000) (k : ∀ v H1, Ex H H1 → P v H1 → D.nx σ (upd H1 l (.lst (xs ++ [v])))) :
    tDrop (tBM K "list" rAppend ta (tCons te tNil)) D σ H := ha H (Ex.refl H) _ fun H1 e1 => ⟨Or.inl ⟨rfl, xs, sq_of (e1 l _ hl)⟩, h H1 e1 _ fun v H2 e2 hv => ⟨l, xs, v, rfl, rfl, e2 l _ (e1 l _ hl), sz_lt hz, k v H2 (e1.trans e2) hv⟩⟩
theorem ne_lst {H : Hp} {a l : Addr} {o : HO} {xs : List V} (hl : H l = some (.lst xs)) (h : H a = some o) (ho : ∀ ys, o ≠ .lst ys) : a ≠ l := fun z => by rw [z, hl] at h; exact ho xs (Option.some.inj h).symm

theorem s_forVia {K : PySem.W.Frag} {tl : TE} {g : TG} {tu : TS} {D : Ends} {σ : L2.St} {H : Hp} {P : V → Hp → Prop} (h : EvR tl σ H P) (k : ∀ v H1, Ex H H1 → P v H1 → tFor (iList K (tC v)) g tu D σ H1) : tFor (iList K tl) g tu D σ H := h H (Ex.refl H) _ fun v H1 e p => k v H1 e p
theorem er_mulI {A : Ads} {E : L2.St → XK} {σ : L2.St} {H : Hp} {ta tb : TE} {a b c : Int} (hx : EvR ta σ H fun v H1 => IsRt A v H1 a b) (hy : Ev tb σ H (.int c)) (hs : Sz a ∧ Sz b ∧ Sz c) (hb : b ≠ 0) : EvR (tOpS (rOwnI A.C_Ratio (spArith A pMul) E) ta tb) σ H fun v H1 => IsRt A v H1 (a * c) (b * 1) := fun H1 e Q q =>
  hx H1 e _ fun x H2 e2 hX => hy H2 (e.trans e2) _ fun H3 e3 => by
    have hX3 := hX.ex e3
    obtain ⟨t, u, l1, xa, xd, rfl, hi⟩ := id hX3
    exact ⟨xa, xd, _, c, rfl, hi, rfl, _, _, a, b, c, 1, rfl, hX3, .inr ⟨rfl, rfl⟩, ⟨hs.1, hs.2.1, hs.2.2, szr_of (b := 1) (by decide) (by decide)⟩, ⟨hb, by decide⟩, fun v H4 e4 hv => q v H4 ((e2.trans e3).trans e4) hv⟩
theorem IsRt.mut {A : Ads} {v : V} {H : Hp} {p q : Int} {l : Addr} {o : HO} {us : List V} (hl : H l = some (.lst us)) (h : IsRt A v H p q) : IsRt A v (upd H l o) p q := by
  obtain ⟨t, u, h1, a, dx, rfl, h2⟩ := h
  exact ⟨t, u, h1, a, dx, rfl, by rw [upd_ne (ne_lst hl h2 fun _ z => by cases z)]; exact h2⟩
theorem RatL.more {A : Ads} {G : Hp} {p : Addr} {rs : List (Int × Int)} {us : List V} {w : V} {r : Int × Int} (h : RatL A G p rs) (hp : G p = some (.lst us)) (hw : IsRt A w G r.1 r.2) : RatL A (upd G p (.lst (us ++ [w]))) p (rs ++ [r]) := by
  obtain ⟨vs, h1, h2, h3⟩ := h
  rw [hp] at h1
  cases h1
  refine ⟨us ++ [w], upd_same, by rw [List.length_append, List.length_append, h2]; rfl, fun i v x hv hx => ?_⟩
  by_cases c : i < us.length
  · rw [List.getElem?_append_left c] at hv
    rw [List.getElem?_append_left (by omega)] at hx
    exact (h3 i v x hv hx).mut hp
  · have e : i = us.length := by
      have := (List.getElem?_eq_some_iff.mp hv).1
      rw [List.length_append] at this
      have : i < us.length + 1 := this
      omega
    subst e
    rw [List.getElem?_append_right (Nat.le_refl _), Nat.sub_self] at hv
    rw [h2, List.getElem?_append_right (Nat.le_refl _), Nat.sub_self] at hx
    cases hv
    cases hx
    exact hw.mut hp
theorem RatL.other {A : Ads} {G : Hp} {p l : Addr} {rs : List (Int × Int)} {us : List V} {o : HO} (h : RatL A G p rs) (hl : G l = some (.lst us)) (hne : p ≠ l) : RatL A (upd G l o) p rs := by
  obtain ⟨vs, h1, h2, h3⟩ := h
  exact ⟨vs, by rw [upd_ne hne]; exact h1, h2, fun i v x hv hx => (h3 i v x hv hx).mut hl⟩
theorem mean_b {n : Nat} {xs ys : List Int} {first : Nat} (hn : 1 ≤ n ∧ n ≤ 24) (hx : xs.length ≤ 24) : (meansOf n xs ys first).length ≤ 48 ∧ ∀ r ∈ meansOf n xs ys first, 0 ≤ r.1 ∧ r.1 ≤ 24 ∧ 1 ≤ r.2 ∧ r.2 ≤ 24 := by
  have cx : (co (n : Int) xs).length ≤ 24 := by
    have := hrs_two (n := (n : Int)) (p := fun z => decide (z ∈ xs))
    unfold co
    omega
  unfold meansOf
  refine ⟨?_, fun r hr => ?_⟩
  · rw [List.length_append]
    have a1 : (if 0 < xs.length then ((cnt (n : Int) ys xs).drop first).map fun c => ((xs.length : Int) - c, (xs.length : Int)) else []).length ≤ 24 := by
      split
      · rw [List.length_map, List.length_drop, cnt_len]; omega
      · exact Nat.zero_le _
    have a2 : (if 0 < (co (n : Int) xs).length then ((cnt (n : Int) (co (n : Int) ys) (co (n : Int) xs)).drop first).map fun c => (c, ((co (n : Int) xs).length : Int)) else []).length ≤ 24 := by
      split
      · rw [List.length_map, List.length_drop, cnt_len]; omega
      · exact Nat.zero_le _
    omega
  · rcases List.mem_append.mp hr with h | h
    · split at h
      · obtain ⟨c, hc, rfl⟩ := List.mem_map.mp h
        have := cnt_le c (List.mem_of_mem_drop hc)
        show 0 ≤ (xs.length : Int) - c ∧ (xs.length : Int) - c ≤ 24 ∧ 1 ≤ (xs.length : Int) ∧ (xs.length : Int) ≤ 24
        omega
      · cases h
    · split at h
      · obtain ⟨c, hc, rfl⟩ := List.mem_map.mp h
        have := cnt_le c (List.mem_of_mem_drop hc)
        show 0 ≤ c ∧ c ≤ 24 ∧ 1 ≤ ((co (n : Int) xs).length : Int) ∧ ((co (n : Int) xs).length : Int) ≤ 24
        omega
      · cases h
theorem scale_rb {r : Int × Int} {x : Int} (h : 0 ≤ r.1 ∧ r.1 ≤ 24 ∧ 1 ≤ r.2 ∧ r.2 ≤ 24) (hx : 0 ≤ x ∧ x ≤ 60) : RB (r.1 * x, r.2 * 1) := by
  have e1 : r.1 * x ≤ 24 * x := Int.mul_le_mul_of_nonneg_right h.2.1 hx.1
  have e0 : 0 ≤ r.1 * x := Int.mul_nonneg h.1 hx.1
  exact ⟨e0, by show r.1 * x ≤ 1000000; omega, by show 1 ≤ r.2 * 1; omega, by show r.2 * 1 ≤ 1000000; omega⟩
def olRow (n : Nat) (ss : List Int) (xss : List (List Int)) (g f : Nat) : List (Int × Int) := (meansOf n (xss.getD g []) (xss.getD f []) (if f = g then 1 else 0)).map fun r => (r.1 * ss.getD f 0, r.2 * 1)
def olOf (n : Nat) (ss : List Int) (xss : List (List Int)) : List (Int × Int) := (List.range xss.length).flatMap fun g => (List.range xss.length).flatMap fun f => olRow n ss xss g f
theorem ol_rb {n : Nat} {ss : List Int} {xss : List (List Int)} (hn : 1 ≤ n ∧ n ≤ 24) (hs : ∀ s ∈ ss, 0 ≤ s ∧ s ≤ 60) (hl : ss.length = xss.length) (hx : ∀ xs ∈ xss, xs.length ≤ 24) : ∀ r ∈ olOf n ss xss, RB r := fun r hr => by
  unfold olOf at hr
  obtain ⟨g, hg, hr⟩ := List.mem_flatMap.mp hr
  obtain ⟨f, hf, hr⟩ := List.mem_flatMap.mp hr
  have hg := List.mem_range.mp hg
  have hf := List.mem_range.mp hf
  obtain ⟨c, hc, rfl⟩ := List.mem_map.mp hr
  exact scale_rb ((mean_b hn (hx _ (in_getD hg))).2 c hc) (hs _ (in_getD (by omega)))
def spOneLook (K : PySem.W.Frag) (A : Ads) : Sp := fun vs H Q E => ∃ (hv : V) (p : Addr) (n : Nat) (gs : List (Str × Int)) (ls : List (Int × List Int)), vs = [hv, .ref p] ∧ HouseIs A.C_House hv H (n : Int) gs ∧ (1 ≤ gs.length ∧ gs.length ≤ 4) ∧ (∀ g ∈ gs, 0 ≤ g.2 ∧ g.2 ≤ 60) ∧ (1 ≤ n ∧ n ≤ 24) ∧ LotsL K A H p ls ∧ (ls.length ≠ gs.length → ∀ d H', Ex H H' → H' d = some (.xd [("length", .int (ls.length : Int))]) → E (.ref A.C_WrongLength) (some d) H') ∧ (ls.length = gs.length → (∃ l ∈ ls, l.1 ≠ (n : Int)) → ∀ H', Ex H H' → E (.ref A.C_OtherHours) none H') ∧
  (ls.length = gs.length → (∀ l ∈ ls, l.1 = (n : Int)) → ∀ v r0 r H', Ex H H' → IsRt A v H' r.1 r.2 → MaxP (nlOf n (gs.map (·.2)) (ls.map (·.2))) r0 → MaxP ([r0] ++ olOf n (gs.map (·.2)) (ls.map (·.2))) r → Q v H')
theorem ok_one_look_bound (T : Txt K mg A) : FnOk P w K mg base (L2.CX P w) 14 A.f_one_look_bound A.d_one_look_bound (["house", "lots"] : List Str) (spOneLook K A) := by
  refine T.F_one_look_bound.okX sc_one_look_bound (fun vs H Q E h => ?_) (fun cdv Ar outer s H vs Q E hr h => ?_)
  · obtain ⟨hv, p, n, gs, ls, rfl, _⟩ := h
    rfl
  · obtain ⟨hv, p, n, gs, ls, rfl, hh, hm, hst, hn, hL, k1, k2, k3⟩ := h
    refine ⟨_, (pss_cons (ps_set (i := 2) sc_one_look_bound.nd rfl (Or.inl rfl) (pe_lst (pa_cons (pe_call (ok_no_look_bound T) (hr.mono (by omega)) rfl T.g_no_look_bound T.k_no_look_bound (b_no_look_bound T) .nil (passes_call (takes_of rfl rfl rfl rfl) (fun _ _ _ _ h => h)) (pa_cons (pv 0) (pa_cons (pv 1) pa_nil))) pa_nil)))
        (pss_cons (ps_for (passes_of rfl) rfl (pi_enum (by rfl) T.z_enumerate (pa_cons (pv 1) pa_nil)) (pg_tup rfl (pgs_cons (pg_name (i := 3) sc_one_look_bound.nd rfl (Or.inl rfl)) (pgs_cons (pg_name (i := 4) sc_one_look_bound.nd rfl (Or.inl rfl)) pgs_nil))) (pss_one (ps_for (passes_of rfl) rfl (pi_enum (by rfl) T.z_enumerate (pa_cons (pv 1) pa_nil)) (pg_tup rfl (pgs_cons (pg_name (i := 5) sc_one_look_bound.nd rfl (Or.inl rfl)) (pgs_cons (pg_name (i := 6) sc_one_look_bound.nd rfl (Or.inl rfl)) pgs_nil))) (pss_one (ps_for (passes_of rfl) rfl (pi_listK (pe_call (ok_u_means_after T) (hr.mono (by omega)) rfl T.g_u_means_after T.k_u_means_after (b_u_means_after T) .nil pass0 (pa_cons (pv 4) (pa_cons (pv 6) (pa_cons (pe_callTy call_int1 (by rfl) T.z_int (by decide +kernel) (pa_cons (pe_cmpR op_eq (pv 5) (pv 3) (nomark _)) pa_nil)) pa_nil))))) (pg_name (i := 7) sc_one_look_bound.nd rfl (Or.inl rfl)) (pss_one (ps_expr (pe_bm PySem.F.plainAttrs_list PySem.F.slot_list_append PySem.F.type_list_append mt_append (pv 2) (pa_cons (pe_opS (op_ownJ (op := .Mult) (E := fun _ => E) T.op_Ratio T.D_Ratio_mul T.I_Ratio_mul (ok_Ratio_mul T) (hr.mono (by omega)) (b_Ratio_mul T) (pAt (passes_call (takes_of rfl rfl rfl rfl) (fun _ _ _ _ h => h)))) (pv 7) (pe_ix ix_tK (pe_fldK (pv 0) rfl) (pv 5) (fun _ _ => rfl))) pa_nil)))))))))
        (pss_one (ps_ret (pe_call (ok_greatest T) (hr.mono (by omega)) rfl T.g_greatest T.k_greatest (b_greatest T) .nil pass0 (pa_cons (pv 2) pa_nil)))))), ?_⟩
    obtain ⟨ws, hws, hwl, hwa⟩ := id hL.all
    obtain ⟨a3, dx3, p3, q3, rfl, h5, h6, h7⟩ := id hh
    try dsimp only
    refine ⟨_, rfl, _, rfl, .ref a3, p, n, gs, ls, rfl, hh, hm, hst, hn, hL, k1, k2, fun hlen hall v0 r0 H1 e1 hr0 hM0 => ?_⟩
    refine ⟨by show 1 ≤ sizeLine; decide, fun mp hmp => ?_⟩
    have sl : (gs.map (·.2)).length = gs.length := List.length_map _
    have xl : (ls.map (·.2)).length = gs.length := by rw [List.length_map, hlen]
    have stb : ∀ s ∈ gs.map (·.2), 0 ≤ s ∧ s ≤ 60 := fun s hs => by
      obtain ⟨g, hg, rfl⟩ := List.mem_map.mp hs
      exact hst g hg
    have lot_at : ∀ {i : Nat}, i < gs.length → ∃ w, ws[i]? = some w ∧ LotIs A.C_Lot w H (n : Int) ((ls.map (·.2)).getD i []) := fun {i} hi => by
      have vi : ws[i]? = some ws[i] := List.getElem?_eq_getElem (by omega)
      have li : ls[i]? = some ls[i] := List.getElem?_eq_getElem (by omega)
      have hLi := hwa i _ _ vi li
      rw [hall _ (List.mem_of_getElem? li)] at hLi
      refine ⟨_, vi, ?_⟩
      rw [List.getD_eq_getElem?_getD, List.getElem?_map, li]
      exact hLi
    have hx24 : ∀ xs ∈ ls.map (·.2), xs.length ≤ 24 := fun xs hx => by
      obtain ⟨i, hi⟩ := List.getElem?_of_mem hx
      have hil : i < gs.length := by have := (List.getElem?_eq_some_iff.mp hi).1; omega
      obtain ⟨w, _, hLw⟩ := lot_at hil
      rw [List.getD_eq_getElem?_getD, hi] at hLw
      have hal := hLw.asc.len
      have e : (some xs).getD [] = xs := rfl
      rw [e] at hal
      omega
    generalize hss : gs.map (·.2) = ss at *
    generalize hxss : ls.map (·.2) = xss at *
    have mp0 : H mp = none := fresh_back e1 hmp
    have eN : Ex H (upd H1 mp (.lst [v0])) := e1.trans (Ex.new hmp)
    have hN : upd H1 mp (.lst [v0]) mp = some (.lst [v0]) := upd_same
    have hRN : RatL A (upd H1 mp (.lst [v0])) mp [r0] := ⟨[v0], upd_same, rfl, fun i v r hv hr => by
      have hi : i = 0 := by
        have : i < 1 := (List.getElem?_eq_some_iff.mp hv).1
        omega
      subst hi
      cases hv
      cases hr
      exact hr0.ex (Ex.new hmp)⟩
    generalize upd H1 mp (.lst [v0]) = Ha at *
    have nl0 := nl_rb (xss := xss) hn stb r0 hM0.mem
    try dsimp only
    refine q_forB eN (ei_enum (K := K) (eb_ev (ev_var (i := 1) rfl) fun G e => ⟨p, rfl, ex_l e hws⟩)) fun H2 e2 => ⟨fun i σ' G => ∃ v3 v4 v5 v6 v7 : Option V, σ' = [some (.ref a3), some (.ref p), some (.ref mp), v3, v4, v5, v6, v7] ∧ (Ex H G ∧ Since Ha H2 G) ∧ RatL A G mp ([r0] ++ (List.range i).flatMap fun g => (List.range xss.length).flatMap fun f => olRow n ss xss g f) ∧ ([r0] ++ (List.range i).flatMap fun g => (List.range xss.length).flatMap fun f => olRow n ss xss g f).length ≤ 1 + 192 * i, ⟨none, none, none, none, none, rfl, ⟨eN.trans e2, fun _ _ _ z => z⟩, hRN.ex e2, by simp⟩, fun i σ' G _ ⟨_, _, _, _, _, _, e, _⟩ => e, ?_, ?_⟩
    · rintro i x σ' G G' hi ⟨v3, v4, v5, v6, v7, rfl, ⟨eG, sG⟩, hR, hlen1⟩ y
      have hi : i < gs.length := by omega
      obtain ⟨w, hw, hLw⟩ := lot_at hi
      refine bd_pair (K := K) i G x G' _ (by omega) y fun eG' => ?_
      dsimp only
      rw [hw]
      have eH' := eG.trans eG'
      have hRa := hR.ex eG'
      obtain ⟨us0, hu0, _⟩ := id hRa
      rw [List.range_succ, List.flatMap_append, List.flatMap_singleton, ← List.append_assoc]
      generalize hbase : ([r0] ++ (List.range i).flatMap fun g => (List.range xss.length).flatMap fun f => olRow n ss xss g f) = base at *
      have hat : Ha mp = some (.lst [v0]) := hN
      try dsimp only
      refine s_forB eH' (ei_enum (K := K) (eb_ev (ev_var (i := 1) rfl) fun G e => ⟨p, rfl, ex_l e hws⟩)) fun F2 f2 => ⟨fun j σ' F => ∃ v5 v6 v7 : Option V, σ' = [some (.ref a3), some (.ref p), some (.ref mp), some (.int (i : Int)), some w, v5, v6, v7] ∧ (Ex H F ∧ Since G' F2 F) ∧ Since Ha H2 F ∧ RatL A F mp (base ++ (List.range j).flatMap fun f => olRow n ss xss i f) ∧ (base ++ (List.range j).flatMap fun f => olRow n ss xss i f).length ≤ 1 + 192 * i + 48 * j, ⟨v5, v6, v7, rfl, ⟨eH'.trans f2, fun _ _ _ z => z⟩, since_ex sG (eG'.trans f2), by rw [List.range_zero, List.flatMap_nil, List.append_nil]; exact hRa.ex f2, by rw [List.range_zero, List.flatMap_nil, List.append_nil]; omega⟩, fun j σ' F _ ⟨_, _, _, _, e, _⟩ => e, ?_, ?_⟩
      · rintro j x2 σ' F F' hj ⟨v5', v6', v7', rfl, ⟨eF, sF⟩, sF2, hR2, hlen2⟩ y2
        have hj : j < gs.length := by omega
        obtain ⟨w2, hw2, hLw2⟩ := lot_at hj
        refine bd_pair (K := K) j F x2 F' _ (by omega) y2 fun eF' => ?_
        dsimp only
        rw [hw2]
        rw [List.range_succ, List.flatMap_append, List.flatMap_singleton, ← List.append_assoc]
        have eHF := eF.trans eF'
        have hR3 := hR2.ex eF'
        generalize hbase2 : (base ++ (List.range j).flatMap fun f => olRow n ss xss i f) = base2 at *
        try dsimp only
        have cE : (if decide ((j : Int) = (i : Int)) = true then (1 : Int) else 0) = (((if j = i then 1 else 0 : Nat) : Nat) : Int) := by
          by_cases c : j = i
          · rw [if_pos c, if_pos (decide_eq_true (by omega))]; rfl
          · rw [if_neg c, if_neg (by rw [decide_eq_false (by omega)]; simp)]; rfl
        refine s_forVia (P := fun v G => ∃ q, v = .ref q ∧ F' q = none ∧ RatL A G q (meansOf n (xss.getD i []) (xss.getD j []) (if j = i then 1 else 0))) (er_call (vs := [w, w2, .int (((if j = i then 1 else 0 : Nat) : Nat) : Int)]) (ea_cons (ev_var (i := 4) rfl) (ea_cons (ev_var (i := 6) rfl) (ea_cons (ev_is (ev_cb (ea_cons (ev_is (ev_op (ev_var (i := 5) rfl) (ev_var (i := 3) rfl) (rv_eq rfl)) (by rw [dec_ii])) ea_nil) fun G e Q q => .inr ⟨decide ((j : Int) = (i : Int)), rfl, q G (Ex.refl G)⟩) (congrArg V.int cE)) ea_nil))) fun K1 e Q q => ⟨w, w2, n, xss.getD i [], xss.getD j [], if j = i then 1 else 0, rfl, hLw.ex (eHF.trans e), hLw2.ex (eHF.trans e), hn, by split <;> omega, fun q' H' hq' e' hR' => q (.ref q') H' e' ⟨q', rfl, fresh_back e hq', hR'⟩⟩) fun v F3 f3 hv => ?_
        obtain ⟨q, rfl, hq0, hQ⟩ := hv
        obtain ⟨qs, hqs, hql, _⟩ := id hQ
        have hqm : q ≠ mp := fun z => by
          obtain ⟨us, hu, _⟩ := hR3
          rw [z, hu] at hq0
          cases hq0
        have mb := mean_b (first := if j = i then 1 else 0) (ys := xss.getD j []) hn (hx24 _ (in_getD (d := []) (show i < xss.length by omega)))
        have sj := stb _ (in_getD (d := 0) (show j < ss.length by omega))
        have es : (ss.map V.int)[j]? = some (.int (ss.getD j 0)) := by
          rw [List.getElem?_map, List.getD_eq_getElem?_getD, List.getElem?_eq_getElem (by omega)]
          rfl
        have hR4 := hR3.ex f3
        unfold olRow
        generalize meansOf n (xss.getD i []) (xss.getD j []) (if j = i then 1 else 0) = ms at *
        try dsimp only
        refine s_forLn (K := K) (a := q) (xs := qs) (j := 7) ev_c (sq_of hqs) (fun k σ' X => ∃ v7 : Option V, σ' = [some (.ref a3), some (.ref p), some (.ref mp), some (.int (i : Int)), some w, some (.int (j : Int)), some w2, v7] ∧ (Ex H X ∧ Since G' F2 X) ∧ Since Ha H2 X ∧ (RatL A X q ms ∧ X q = some (.lst qs)) ∧ RatL A X mp (base2 ++ (ms.take k).map fun r => (r.1 * ss.getD j 0, r.2 * 1))) (fun F4 f4 => ⟨v7', rfl, ⟨eHF.trans (f3.trans f4), since_ex sF ((eF'.trans f3).trans f4)⟩, since_ex sF2 ((eF'.trans f3).trans f4), ⟨hQ.ex f4, f4 _ _ hqs⟩, by rw [List.take_zero, List.map_nil, List.append_nil]; exact hR4.ex f4⟩) (fun k σ' X _ ⟨_, _, _, _, ⟨_, e⟩, _⟩ => sq_of e) ?_ ?_
        · rintro kk y σ' X hy ⟨v7, rfl, ⟨eX, sX⟩, sX2, ⟨hQX, hqX⟩, hRX⟩
          have hk : kk < ms.length := by have := (List.getElem?_eq_some_iff.mp hy).1; omega
          have rk : ms[kk]? = some ms[kk] := List.getElem?_eq_getElem hk
          have hyR : IsRt A y X ms[kk].1 ms[kk].2 := by
            obtain ⟨vs', w1, w2', w3⟩ := hQX
            rw [hqX] at w1
            cases w1
            exact w3 kk y _ hy rk
          have hb := mb.2 _ (List.getElem_mem hk)
          obtain ⟨us, hu, hul, _⟩ := id hRX
          have szs : ∀ z : Int, 0 ≤ z ∧ z ≤ 60 → Sz z := fun z hz => szr_of (b := 6) (by omega) (by decide)
          have ul : us.length < 100000 := by
            rw [hul, List.length_append, List.length_map, List.length_take]
            have := mb.1
            omega
          rw [List.take_succ_eq_append_getElem hk, List.map_append, ← List.append_assoc]
          try dsimp only
          refine s_appR hu (ev_var (i := 2) rfl) (er_mulI (er_at (i := 7) rfl hyR) (ev_op (ev_hstakes (ev_var (i := 0) rfl) (eX _ _ h5) T.cl_House T.na_House_stakes) (ev_var (i := 5) rfl) (rv_ixT (K := K) (st_of (eX _ _ h7)) (atI_nat es))) ⟨szs _ (by omega), szs _ (by omega), szs _ sj⟩ (by omega)) ul fun w' X1 x1 hw' => ⟨_, rfl, ⟨Ex.mut (eX.trans x1) mp0, since_mut (since_ex sX x1) hu0⟩, since_mut (since_ex sX2 x1) hN, ⟨(hQX.ex x1).other (x1 _ _ hu) hqm, by rw [upd_ne hqm]; exact x1 _ _ hqX⟩, (hRX.ex x1).more (x1 _ _ hu) hw'⟩
        rintro σ' X ⟨v7, rfl, ⟨eX, sX⟩, sX2, _, hRX⟩
        rw [hql, List.take_length] at hRX
        exact ⟨_, _, _, rfl, ⟨eX, sX⟩, sX2, hRX, by rw [List.length_append, List.length_map]; have := mb.1; omega⟩
      · rintro σ' F ⟨v5', v6', v7', rfl, ⟨eF, sF⟩, sF2, hR2, hlen2⟩
        have e1' : ws.length = xss.length := by omega
        rw [e1'] at hR2 hlen2
        exact ⟨_, _, _, _, _, rfl, ⟨eF, sF2⟩, hR2, by omega⟩
    rintro σ' G ⟨v3, v4, v5, v6, v7, rfl, ⟨eG, sG⟩, hR, hlen1⟩
    have e1' : ws.length = xss.length := by omega
    rw [e1'] at hR hlen1
    try dsimp only
    refine s_retR (er_greatest (rs := [r0] ++ olOf n ss xss) (er_ev (ev_var (i := 2) rfl) fun G1 g1 => ⟨mp, rfl, hR.ex g1⟩) (fun z => by cases z) (by unfold olOf; omega) (fun r hr => by
      rcases List.mem_append.mp hr with h | h
      · rw [List.mem_singleton.mp h]; exact nl0
      · exact ol_rb hn stb (by omega) hx24 r h)) fun v G1 g1 hv => ?_
    obtain ⟨r, h1, h2⟩ := hv
    exact k3 hlen hall v r0 r G1 (eG.trans g1) h1 hM0 h2

def sp_cell (K : PySem.W.Frag) : Sp := fun vs H Q _ => ∃ (a : Addr) (ns : List Int) (k : Nat), vs = [.ref a, .int (k : Int)] ∧ SqL K H a (ns.map V.int) ∧ Q (.int (cellA ns k)) H
theorem ev_cell {K : PySem.W.Frag} {E : XK} {σ : L2.St} {H : Hp} {ta tk : TE} {a : Addr} {ns : List Int} {k : Nat} {z : Int} (ha : Ev ta σ H (.ref a)) (hk : Ev tk σ H (.int z)) (hS : SqL K H a (ns.map V.int)) (hz : z = (k : Int) := by rfl) : Ev (tCall (sp_cell K) [] E (tCons ta (tCons tk tNil))) σ H (.int (cellA ns k)) := fun H1 e Q q =>
  ha H1 e _ fun H2 e2 => hk H2 (e.trans e2) _ fun H3 e3 => by subst hz; exact ⟨a, ns, k, rfl, ex_l ((e.trans e2).trans e3) hS, q H3 (e2.trans e3)⟩
theorem ok_u_law_cell (T : Txt K mg A) : FnOk P w K mg base CX0 1 A.f_u_law_cell A.d_u_law_cell (["script", "k"] : List Str) (sp_cell K) := by
  refine T.F_u_law_cell.ok sc_u_law_cell (fun vs H Q E h => ?_) (fun cdv Ar outer s H vs Q E hr h => ?_)
  · obtain ⟨a, ns, k, rfl, _⟩ := h
    rfl
  · obtain ⟨a, ns, k, rfl, hS, q⟩ := h
    refine ⟨_, (pss_cons (ps_if (pt_cmpR op_lt (pv 1) (pe_callB len_K (by rfl) T.z_len (by decide +kernel) (pa_cons (pv 0) pa_nil)) (nomark _)) (pss_one (ps_ret (pe_callB call_abs (by rfl) T.z_abs (by decide +kernel) (pa_cons (pe_ix ix_lK (pv 0) (pv 1) (fun _ _ => rfl)) pa_nil)))) pss_nil)
        (pss_one (ps_ret pe_int))), ?_⟩
    refine ⟨_, rfl, _, rfl, .ref a, _, rfl, .inl ⟨_, hS, rfl⟩, _, _, rfl, rfl, _, rfl, ?_⟩
    unfold cellA at q
    rw [List.length_map]
    by_cases hk : k < ns.length
    · refine wayT (show (k : Int) < (ns.length : Int) by omega) ?_
      rw [if_pos hk] at q
      refine ⟨_, rfl, _, rfl, a, _, _, .int (ns.getD k 0), rfl, rfl, hS, atI_nat ?_, _, rfl, q⟩
      rw [List.getElem?_map, List.getD_eq_getElem?_getD, List.getElem?_eq_getElem hk]
      rfl
    · refine wayF (show ¬ (k : Int) < (ns.length : Int) by omega) ?_
      rw [if_neg hk] at q
      exact q

def sp_draws (K : PySem.W.Frag) : Sp := fun vs H Q _ => ∃ (c s : Int) (m : Addr) (ms : List Int), vs = [.int c, .int s, .ref m] ∧ SqL K H m (ms.map V.int) ∧ 0 ≤ c ∧ (-1000000 ≤ s ∧ s ≤ 1000000) ∧ ms.length ≤ 64 ∧
  (∀ x ∈ ms, 1 ≤ x ∧ x.natAbs < 2 ^ 1000) ∧ ∀ p H' ds, H p = none → Ex H H' → H' p = some (.lst (ds.map V.int)) → Drawn ms ds → Q (.ref p) H'
theorem er_draws {K : PySem.W.Frag} {E : XK} {σ : L2.St} {H : Hp} {tc ts tm : TE} {c z : Int} {ms : List Int} (hc : Ev tc σ H (.int c)) (hs : Ev ts σ H (.int z)) (hm : EvL tm σ H (ms.map V.int)) (h0 : 0 ≤ c) (hz : -1000000 ≤ z ∧ z ≤ 1000000) (hl : ms.length ≤ 64)
    (hb : ∀ x ∈ ms, 1 ≤ x ∧ x.natAbs < 2 ^ 1000) : EvR (tCall (sp_draws K) [] E (tCons tc (tCons ts (tCons tm tNil)))) σ H fun v H1 => ∃ p ds, v = .ref p ∧ H1 p = some (.lst (ds.map V.int)) ∧ Drawn ms ds := fun H1 e Q q =>
  hc H1 e _ fun H2 e2 => hs H2 (e.trans e2) _ fun H3 e3 => hm H3 ((e.trans e2).trans e3) _ fun m H4 _ e4 h4 =>
    ⟨c, z, m, ms, rfl, sq_of h4, h0, hz, hl, hb, fun p H' ds hp e' h' hD => q _ H' ((e2.trans e3).trans (e4.trans e')) ⟨p, ds, rfl, h', hD⟩⟩
theorem drawn_more {ms ds : List Int} {i : Nat} {m d : Int} (h : Drawn (ms.take i) ds) (hm : ms[i]? = some m) (h0 : 0 ≤ d) (h1 : d < m) : Drawn (ms.take (i + 1)) (ds ++ [d]) := by
  have hi : i < ms.length := (List.getElem?_eq_some_iff.mp hm).1
  obtain ⟨hl, hd⟩ := h
  have hl' : ds.length = i := by rw [hl, List.length_take]; omega
  refine ⟨by rw [List.length_append, hl', List.length_take]; simp; omega, fun j x hj => ?_⟩
  by_cases hji : j < i
  · have hx : (ms.take i)[j]? = some x := by
      rw [List.getElem?_take_of_lt hji]
      rw [List.getElem?_take_of_lt (by omega)] at hj
      exact hj
    obtain ⟨d', e, z⟩ := hd j x hx
    exact ⟨d', by rw [List.getElem?_append_left (by omega)]; exact e, z⟩
  · have hlt : j < i + 1 := by
      have := (List.getElem?_eq_some_iff.mp hj).1
      rw [List.length_take] at this
      omega
    have ej : j = i := by omega
    subst ej
    rw [List.getElem?_take_of_lt hlt, hm] at hj
    cases hj
    exact ⟨d, by rw [List.getElem?_append_right (by omega), hl', Nat.sub_self]; rfl, h0, h1⟩
theorem ok_u_law_draws (T : Txt K mg A) : FnOk P w K mg base CX0 1 A.f_u_law_draws A.d_u_law_draws (["cell", "salt", "menu"] : List Str) (sp_draws K) := by
  refine T.F_u_law_draws.ok sc_u_law_draws (fun vs H Q E h => ?_) (fun cdv Ar outer s H vs Q E hr h => ?_)
  · obtain ⟨c, s, m, ms, rfl, _⟩ := h
    rfl
  · obtain ⟨c, sa, m, ms, rfl, hS, hc, hs, hl, hm, k⟩ := h
    refine ⟨_, (pss_cons (ps_set (i := 3) sc_u_law_draws.nd rfl (Or.inl rfl) (pe_lst pa_nil))
        (pss_cons (ps_set (i := 4) sc_u_law_draws.nd rfl (Or.inl rfl) (pe_op op_sub (pv 0) (pe_op op_pow pe_int pe_int)))
        (pss_cons (ps_set (i := 5) sc_u_law_draws.nd rfl (Or.inl rfl) (pe_op op_add (pv 0) (pe_op op_mul pe_int (pv 1))))
        (pss_cons (ps_for PassesOwn.never rfl (pi_range1 rfl T.z_range (pa_cons (pe_callB len_K (by rfl) T.z_len (by decide +kernel) (pa_cons (pv 2) pa_nil)) pa_nil)) (pg_name (i := 6) sc_u_law_draws.nd rfl (Or.inl rfl)) (pss_one (ps_if (pt_cmpR op_ge (pv 4) pe_int (nomark _)) (pss_cons (ps_expr (pe_bm PySem.F.plainAttrs_list PySem.F.slot_list_append PySem.F.type_list_append mt_append (pv 3) (pa_cons (pe_op op_mod (pe_callTy call_int1 (by rfl) T.z_int (by decide +kernel) (pa_cons (pv 4) pa_nil)) (pe_ix ix_lK (pv 2) (pv 6) (fun _ _ => rfl))) pa_nil)))
        (pss_one (ps_set (i := 4) sc_u_law_draws.nd rfl (Or.inl rfl) (pe_op op_fdivW (pv 4) (pe_ix ix_lK (pv 2) (pv 6) (fun _ _ => rfl)))))) (pss_cons (ps_set (i := 5) sc_u_law_draws.nd rfl (Or.inl rfl) (pe_op op_mod (pe_callTy call_int1 (by rfl) T.z_int (by decide +kernel) (pa_cons (pe_op op_add (pe_op op_add (pe_op op_mul (pv 5) (pv 5)) (pe_op op_mul pe_int (pe_op op_add (pv 6) pe_int))) pe_int) pa_nil)) pe_int))
        (pss_cons (ps_set (i := 5) sc_u_law_draws.nd rfl (Or.inl rfl) (pe_op op_mod (pe_callTy call_int1 (by rfl) T.z_int (by decide +kernel) (pa_cons (pe_op op_add (pe_op op_mul (pv 5) (pv 5)) (pe_op op_fdiv (pv 5) pe_int)) pa_nil)) pe_int))
        (pss_one (ps_expr (pe_bm PySem.F.plainAttrs_list PySem.F.slot_list_append PySem.F.type_list_append mt_append (pv 3) (pa_cons (pe_op op_mod (pe_callTy call_int1 (by rfl) T.z_int (by decide +kernel) (pa_cons (pe_op op_fdiv (pv 5) pe_int) pa_nil)) (pe_ix ix_lK (pv 2) (pv 6) (fun _ _ => rfl))) pa_nil)))))))))
        (pss_one (ps_ret (pv 3))))))), ?_⟩
    refine ⟨Nat.zero_le _, fun p hp => ?_⟩
    refine ⟨_, rfl, _, _, rfl, rfl, ⟨by decide, by decide, by decide⟩, _, _, rfl, rfl, ?_⟩
    refine ⟨_, rfl, _, rfl, _, _, rfl, rfl, .inl ⟨by decide, by decide⟩, _, _, rfl, rfl, ?_⟩
    have e10 : ((10 : Int) ^ (18 : Int).toNat) = 1000000000000000000 := by decide
    have hS1 : SqL K (upd H p (.lst [])) m (ms.map V.int) := ex_l (Ex.new hp) hS
    refine ⟨_, rfl, .ref m, _, rfl, .inl ⟨_, hS1, rfl⟩, _, rfl, by omega, by rw [List.length_map]; omega, ?_⟩
    refine for_range (lo := 0) (n := ((ms.map V.int).length : Int).toNat) (fun i σ H' => ∃ (ds : List Int) (rest mixed : Int) (kv : Option V), σ = [some (.int c), some (.int sa), some (.ref m), some (.ref p), some (.int rest), some (.int mixed), kv] ∧ Ex H H' ∧
        H' p = some (.lst (ds.map V.int)) ∧ Drawn (ms.take i) ds ∧ (0 ≤ rest ∨ (-18446744073709551616 < mixed ∧ mixed < 18446744073709551616))) ?_ ?_ ?_
    · refine ⟨[], _, _, none, rfl, Ex.new hp, upd_same, ⟨by simp, fun i x h => by simp at h⟩, ?_⟩
      rw [e10]
      omega
    · rintro i σ H' hi ⟨ds, rest, mixed, kv, rfl, ex, hH, hD, hr0⟩
      have hi' : i < ms.length := by simpa using hi
      obtain ⟨mi, hmi⟩ : ∃ mi, ms[i]? = some mi := ⟨ms[i], List.getElem?_eq_getElem hi'⟩
      have hmm := hm mi (List.mem_of_getElem? hmi)
      have hSi : SqL K H' m (ms.map V.int) := ex_l ex hS
      have hat : atI (ms.map V.int) (0 + (i : Int)) = some (.int mi) := by
        rw [Int.zero_add]
        refine atI_nat ?_
        rw [List.getElem?_map, hmi]
        rfl
      have hdl : ds.length ≤ 64 := by
        have := hD.1
        rw [List.length_take] at this
        omega
      have hsz : (ds.map V.int).length < sizeLine := by
        rw [List.length_map]
        exact Nat.lt_of_le_of_lt hdl (by decide)
      have e0 : (0 : Int) + (i : Int) = (i : Int) := Int.zero_add _
      refine ⟨_, rfl, _, _, rfl, rfl, _, rfl, way (fun hr => ?_) (fun hr => ?_)⟩
      · refine ⟨_, rfl, .inl ⟨rfl, _, SqL.of hH⟩, _, rfl, .inl ⟨rest, rfl, _, rfl, _, rfl, m, _, _, .int mi, rfl, rfl, hSi, hat, _, _, rfl, rfl, (by show (0 : Int) < mi; omega), p, _, _, rfl, rfl, hH, hsz, ?_⟩⟩
        have ex2 : Ex H (upd H' p (.lst (ds.map V.int ++ [.int (rest % mi)]))) := Ex.mut ex hp
        refine ⟨_, rfl, _, rfl, _, rfl, m, _, _, .int mi, rfl, rfl, ex_l ex2 hS, hat, _, _, rfl, rfl, wide_div (by omega) hmm.2 (by decide) (by decide), ?_⟩
        refine ⟨ds ++ [rest % mi], rest / mi, mixed, _, rfl, ex2, ?_, drawn_more hD hmi (Int.emod_nonneg _ (by omega)) (Int.emod_lt_of_pos _ (by omega)), .inl (Int.ediv_nonneg hr (by omega))⟩
        rw [upd_same, List.map_append]
        rfl
      · have hx : -18446744073709551616 < mixed ∧ mixed < 18446744073709551616 := by omega
        refine ⟨_, rfl, _, rfl, _, _, rfl, rfl, .inl ⟨hx.1, hx.2⟩, _, rfl, _, _, rfl, rfl, _, _, rfl, rfl, .inl ⟨by decide, by decide⟩, _, _, rfl, rfl, _, _, rfl, rfl, .inl ⟨_, rfl, _, _, rfl, rfl, (by show (0 : Int) < 2147483399; decide), ?_⟩⟩
        have b1 : ∀ z : Int, 0 ≤ z % 2147483399 ∧ z % 2147483399 < 2147483399 := fun z => ⟨Int.emod_nonneg _ (by decide), Int.emod_lt_of_pos _ (by decide)⟩
        have b2 : ∀ z : Int, 0 ≤ z % 2147483629 ∧ z % 2147483629 < 2147483629 := fun z => ⟨Int.emod_nonneg _ (by decide), Int.emod_lt_of_pos _ (by decide)⟩
        refine ⟨_, rfl, _, rfl, _, _, rfl, rfl, .inl ⟨Int.lt_of_lt_of_le (by decide) (b1 _).1, Int.lt_trans (b1 _).2 (by decide)⟩, _, rfl, _, _, rfl, rfl, ⟨by decide, by decide⟩, _, _, rfl, rfl, .inl ⟨_, rfl, _, _, rfl, rfl, (by show (0 : Int) < 2147483629; decide), ?_⟩⟩
        refine ⟨_, rfl, .inl ⟨rfl, _, SqL.of hH⟩, _, rfl, _, _, rfl, rfl, ⟨by decide, by decide⟩, .inl ⟨_, rfl, _, rfl, _, rfl, m, _, _, .int mi, rfl, rfl, hSi, hat, _, _, rfl, rfl, (by show (0 : Int) < mi; omega), p, _, _, rfl, rfl, hH, hsz, ?_⟩⟩
        refine ⟨ds ++ [((((mixed * mixed + 3571 * (0 + (i : Int) + 1) + 40692) % 2147483399) * ((mixed * mixed + 3571 * (0 + (i : Int) + 1) + 40692) % 2147483399) + ((mixed * mixed + 3571 * (0 + (i : Int) + 1) + 40692) % 2147483399) / 97) % 2147483629) / 8 % mi], rest, _, _, rfl, Ex.mut ex hp, ?_, drawn_more hD hmi (Int.emod_nonneg _ (by omega)) (Int.emod_lt_of_pos _ (by omega)), .inr ⟨Int.lt_of_lt_of_le (by decide) (b2 _).1, Int.lt_trans (b2 _).2 (by decide)⟩⟩
        rw [upd_same, List.map_append]
        rfl
    · rintro σ H' ⟨ds, rest, mixed, kv, rfl, ex, hH, hD, _⟩
      refine ⟨_, rfl, k p H' ds hp ex hH ?_⟩
      have e : ((ms.map V.int).length : Int).toNat = ms.length := by simp
      rw [e, List.take_length] at hD
      exact hD

def spTwo : Sp := fun vs H Q _ => ∃ n : Int, vs = [.int n] ∧ (0 ≤ n ∧ n ≤ 25) ∧ ∀ z H', Ex H H' → 1 ≤ z ∧ z ≤ 33554432 → Q (.int z) H' 
theorem ok_u_law_two (T : Txt K mg A) : FnOk P w K mg base CX0 1 A.f_u_law_two A.d_u_law_two (["n"] : List Str) spTwo := by
  refine T.F_u_law_two.ok sc_u_law_two (fun vs H Q E h => ?_) (fun cdv Ar outer s H vs Q E hr h => ?_)
  · obtain ⟨n, rfl, _⟩ := h
    rfl
  · obtain ⟨n, rfl, hn, k⟩ := h
    refine ⟨_, (pss_cons (ps_set (i := 1) sc_u_law_two.nd rfl (Or.inl rfl) pe_int)
        (pss_cons (ps_for PassesOwn.never rfl (pi_range1 rfl T.z_range (pa_cons (pv 0) pa_nil)) (pg_name (i := 2) sc_u_law_two.nd rfl (Or.inl rfl)) (pss_one (ps_set (i := 1) sc_u_law_two.nd rfl (Or.inl rfl) (pe_op op_mul (pv 1) pe_int))))
        (pss_one (ps_ret (pv 1))))), ?_⟩
    try dsimp only
    refine q_asg (v := .int 1) ev_c fun H1 e1 => ?_
    try dsimp only
    refine q_forR1 (n := n) (ea_cons (ev_var (i := 0) rfl) ea_nil) (by omega) (fun i σ' H' => ∃ (kv : Option V), σ' = [some (.int n), some (.int ((2 ^ i : Nat) : Int)), kv] ∧ Ex H H') (fun H2 e2 => ⟨none, rfl, e1.trans e2⟩) ?_ ?_
    · rintro i σ' H' hi ⟨kv, rfl, e⟩
      try dsimp only
      refine s_asg (v := .int (((2 ^ i : Nat) : Int) * 2)) (by repeat' first | exact ev_c | exact ev_var rfl | exact ea_nil | apply ea_cons | apply ev_int | apply ev_op | apply ev_un | exact ru_neg | exact rv_I0 | exact rv_eq rfl | exact rv_ne rfl | exact rv_I (by decide) | exact rv_I (.inl ⟨by decide, by decide⟩) | exact rv_I (.inr ⟨by decide, by decide⟩) | exact rv_I (by omega) | exact rv_I (.inl ⟨by omega, by omega⟩) | exact rv_I (.inr ⟨by omega, by omega⟩)) fun H3 e3 => ⟨some (.int (i : Int)), ?_, e.trans e3⟩
      rw [show ((2 ^ (i + 1) : Nat) : Int) = ((2 ^ i : Nat) : Int) * 2 by rw [Nat.pow_succ, Int.natCast_mul]; rfl]
      rfl
    rintro σ' H' ⟨kv, rfl, e⟩
    have h1 : 2 ^ n.toNat ≤ 2 ^ 25 := Nat.pow_le_pow_right (by decide) (by omega)
    have h2 : 0 < 2 ^ n.toNat := Nat.pow_pos (by decide)
    exact ⟨_, rfl, k _ H' e ⟨by omega, by omega⟩⟩

def spBits : Sp := fun vs H Q _ => ∃ n z : Int, vs = [.int n, .int z] ∧ (0 ≤ n ∧ n ≤ 25) ∧ ∀ p H' xs, H p = none → Ex H H' → H' p = some (.lst (xs.map V.int)) → Asc 0 n xs → Q (.ref p) H' 
theorem ok_u_law_bits (T : Txt K mg A) : FnOk P w K mg base CX0 1 A.f_u_law_bits A.d_u_law_bits (["n", "number"] : List Str) spBits := by
  refine T.F_u_law_bits.ok sc_u_law_bits (fun vs H Q E h => ?_) (fun cdv Ar outer s H vs Q E hr h => ?_)
  · obtain ⟨n, z, rfl, _⟩ := h
    rfl
  · obtain ⟨n, z, rfl, hn, k⟩ := h
    refine ⟨_, (pss_cons (ps_set (i := 2) sc_u_law_bits.nd rfl (Or.inl rfl) (pe_lst pa_nil))
        (pss_cons (ps_for PassesOwn.never rfl (pi_range1 rfl T.z_range (pa_cons (pv 0) pa_nil)) (pg_name (i := 3) sc_u_law_bits.nd rfl (Or.inl rfl)) (pss_cons (ps_if (pt_cmpR op_eq (pe_op op_mod (pe_callTy call_int1 (by rfl) T.z_int (by decide +kernel) (pa_cons (pv 1) pa_nil)) pe_int) pe_int (nomark _)) (pss_one (ps_expr (pe_bm PySem.F.plainAttrs_list PySem.F.slot_list_append PySem.F.type_list_append mt_append (pv 2) (pa_cons (pv 3) pa_nil)))) pss_nil)
        (pss_one (ps_set (i := 1) sc_u_law_bits.nd rfl (Or.inl rfl) (pe_op op_fdiv (pv 1) pe_int)))))
        (pss_one (ps_ret (pv 2))))), ?_⟩
    try dsimp only
    refine q_asgL (xs := []) (el_lst ea_nil (by decide)) fun fp H1 hfp e1 h1 => ?_
    refine q_forR1 (j := 3) (n := n) (ea_cons (ev_var rfl) ea_nil) (by omega)
      (fun i σ' H' => ∃ (z : Int) (hv : Option V) (xs : List Int), σ' = [some (.int n), some (.int z), some (.ref fp), hv] ∧ Ex H H' ∧ H' fp = some (.lst (xs.map V.int)) ∧ Asc 0 (i : Int) xs)
      (fun H2 e2 => ⟨z, none, [], rfl, e1.trans e2, e2 _ _ h1, .nil⟩) ?_ ?_
    · rintro i σ' H' hi ⟨z, hv, xs, rfl, ex, hf, hA⟩
      have hl := hA.len
      have hsz : (xs.map V.int).length < 100000 := by rw [List.length_map]; omega
      try dsimp only
      have tail : ∀ (H2 : Hp) (ys : List Int) (D : Ends), Ex H H2 → H2 fp = some (.lst (ys.map V.int)) → Asc 0 ((i : Int) + 1) ys →
          (∀ σ' H', (∃ (z : Int) (hv : Option V) (xs : List Int), σ' = [some (.int n), some (.int z), some (.ref fp), hv] ∧ Ex H H' ∧ H' fp = some (.lst (xs.map V.int)) ∧ Asc 0 ((i + 1 : Nat) : Int) xs) → D.nx σ' H') →
          tAsg (tOp (rI CDiv fun i j => V.int (i / j)) (tVar 1) (tC (V.int 2))) (gName 1) D [some (.int n), some (.int z), some (.ref fp), some (.int (i : Int))] H2 := fun H2 ys D e2 h2 hA2 hD =>
        s_asg (v := .int (z / 2)) (ev_op (ev_var (i := 1) rfl) ev_c (rv_I (show CDiv z 2 from ⟨by decide, by decide⟩))) fun H3 e3 => hD _ _ ⟨z / 2, _, ys, rfl, e2.trans e3, e3 _ _ h2, by simpa using hA2⟩
      refine q_when (b := decide (z % 2 = 1)) (et_test (ev_is (ev_op (ev_op (ev_cb (ea_cons (ev_var (i := 1) rfl) ea_nil) (fun H1 _ _ q => .inl ⟨_, rfl, q H1 (Ex.refl H1)⟩)) ev_c (rv_I (show (0 : Int) < 2 by decide))) ev_c (rv_eq rfl)) (by rw [dec_ii]))) (fun _ H2 e2 => ?_) (fun _ H2 e2 => ?_)
      · refine s_app (e2 _ _ hf) (ev_var (i := 2) rfl) (ev_var (i := 3) rfl) hsz fun H3 e3 => ?_
        refine tail _ (xs ++ [(i : Int)]) _ (Ex.mut ((ex.trans e2).trans e3) hfp) (by rw [upd_same, List.map_append]; rfl) ?_ (fun _ _ h => h)
        exact hA.append (mid' := (i : Int)) ⟨List.pairwise_singleton _ _, fun x hx => by cases List.mem_singleton.mp hx; omega⟩ (by omega) (by omega) (by omega)
      · exact tail _ xs _ (ex.trans e2) (e2 _ _ hf) (hA.mono (by omega) (by omega)) (fun _ _ h => h)
    rintro σ' H' ⟨z, hv, xs, rfl, ex, hf, hA⟩
    exact ⟨_, rfl, k fp H' xs hfp ex hf (hA.mono (by omega) (by omega))⟩

def spName : Sp := fun vs H Q _ => ∃ n : Int, vs = [.int n] ∧ ∀ z H', Ex H H' → Word z → Q (.str z) H'
theorem er_name {E : XK} {σ : L2.St} {H : Hp} {t1 : TE} {n : Int} (h1 : Ev t1 σ H (.int n)) : EvR (tCall spName [] E (tCons t1 tNil)) σ H fun v _ => ∃ z, v = .str z ∧ Word z :=
  er_call (ea_cons h1 ea_nil) fun H1 e Q q => ⟨n, rfl, fun z H' e' h => q _ H' e' ⟨z, rfl, h⟩⟩
theorem ok_u_law_name (T : Txt K mg A) : FnOk P w K mg base CX0 1 A.f_u_law_name A.d_u_law_name (["number"] : List Str) spName := by
  refine T.F_u_law_name.ok sc_u_law_name (fun vs H Q E h => ?_) (fun cdv Ar outer s H vs Q E hr h => ?_)
  · obtain ⟨n, rfl, _⟩ := h
    rfl
  · obtain ⟨n, rfl, k⟩ := h
    refine ⟨_, (pss_cons (ps_set (i := 1) sc_u_law_name.nd rfl (Or.inl rfl) pe_str)
        (pss_cons (ps_set (i := 2) sc_u_law_name.nd rfl (Or.inl rfl) pe_str)
        (pss_cons (ps_for PassesOwn.never rfl (pi_range1 rfl T.z_range (pa_cons (pe_op op_add pe_int (pe_op op_mod (pe_callTy call_int1 (by rfl) T.z_int (by decide +kernel) (pa_cons (pv 0) pa_nil)) pe_int)) pa_nil)) (pg_name (i := 3) sc_u_law_name.nd rfl (Or.inl rfl)) (pss_cons (ps_set (i := 0) sc_u_law_name.nd rfl (Or.inl rfl) (pe_op op_add (pe_op op_add (pe_op op_fdiv (pv 0) pe_int) (pe_op op_mul pe_int (pv 3))) pe_int))
        (pss_one (ps_set (i := 2) sc_u_law_name.nd rfl (Or.inl rfl) (pe_op op_add_str (pv 2) (pe_ix ix_str (pv 1) (pe_op op_mod (pe_callTy call_int1 (by rfl) T.z_int (by decide +kernel) (pa_cons (pv 0) pa_nil)) pe_int) (fun _ _ => rfl)))))))
        (pss_one (ps_ret (pv 2)))))), ?_⟩
    try dsimp only
    refine q_asg (v := .str LET) ev_c fun H1 e1 => ?_
    try dsimp only
    refine q_asg (v := .str (txt [])) ev_c fun H2 e2 => ?_
    try dsimp only
    refine q_forR1 (j := 3) (n := 1 + n % 8) (ea_cons (ev_op ev_c (ev_op (ev_int (ev_var (i := 0) rfl)) ev_c (rv_I (show (0 : Int) < 8 by decide))) rv_I0) ea_nil) (by omega)
      (fun i σ' G => ∃ (m : Int) (l : List Nat) (kv : Option V), σ' = [some (.int m), some (.str LET), some (.str (txt l)), kv] ∧ Ex H G ∧ l.length = i ∧ ∀ c ∈ l, 97 ≤ c ∧ c ≤ 122) (fun H3 e3 => ⟨n, [], none, rfl, (e1.trans e2).trans e3, rfl, fun c hc => by cases hc⟩) ?_ ?_
    · rintro i σ' G hi ⟨m, l, kv, rfl, eG, hl, hc⟩
      try dsimp only
      refine q_asg (v := .int (m / 8 + 31 * (i : Int) + 5)) (ev_op (ev_op (ev_op (ev_var (i := 0) rfl) ev_c (rv_I (show CDiv m 8 from ⟨by decide, by decide⟩))) (ev_op ev_c (ev_var (i := 3) rfl) (rv_I (show CMul 31 (i : Int) from .inl ⟨by decide, by decide⟩))) rv_I0) ev_c rv_I0) fun G1 g1 => ?_
      generalize m / 8 + 31 * (i : Int) + 5 = m2
      have m0 : 0 ≤ m2 % 26 ∧ m2 % 26 < 26 := by omega
      try dsimp only
      refine s_asg (v := .str (txt (l ++ [97 + (m2 % 26).toNat]))) (ev_is (ev_op (ev_var (i := 2) rfl) (ev_op (ev_var (i := 1) rfl) (ev_op (ev_int (ev_var (i := 0) rfl)) ev_c (rv_I (show (0 : Int) < 26 by decide))) (rv_ixS (w := LET) (by decide) (let_at m0))) (rv_addS (by rw [txt_len, txt_one, txt_len]; show l.length + 1 ≤ 100000; omega))) (by rw [txt_one, txt_add])) fun G2 g2 => ⟨m2, _, _, rfl, eG.trans (g1.trans g2), by rw [List.length_append, hl]; rfl, fun c h => ?_⟩
      rcases List.mem_append.mp h with h | h
      · exact hc c h
      · have := List.mem_singleton.mp h
        omega
    rintro σ' G ⟨m, l, kv, rfl, eG, hl, hc⟩
    exact s_ret (ev_var (i := 2) rfl) fun G1 g1 => k _ G1 (eG.trans g1) ⟨by rw [txt_len]; omega, hc⟩

def spNames (K : PySem.W.Frag) : Sp := fun vs H Q _ => ∃ (a : Addr) (ns : List Int), vs = [.ref a] ∧ SqL K H a (ns.map V.int) ∧ ns.length ≤ 7 ∧ ∀ p H' (zs : List Str), Ex H H' → H' p = some (.lst (zs.map V.str)) → zs.length = ns.length → zs.Nodup → (∀ z ∈ zs, Word z) → Q (.ref p) H'
theorem er_names {K : PySem.W.Frag} {E : XK} {σ : L2.St} {H : Hp} {t1 : TE} {ns : List Int} (h1 : EvR t1 σ H fun v H1 => ∃ p : Addr, v = .ref p ∧ SqL K H1 p (ns.map V.int)) (hl : ns.length ≤ 7) : EvR (tCall (spNames K) [] E (tCons t1 tNil)) σ H fun v H1 => ∃ (p : Addr) (zs : List Str), v = .ref p ∧ H1 p = some (.lst (zs.map V.str)) ∧ zs.length = ns.length ∧ zs.Nodup ∧ ∀ z ∈ zs, Word z := fun H1 e Q q =>
  h1 H1 e _ fun v H2 e2 hv => by
    obtain ⟨a, rfl, ha⟩ := hv
    exact ⟨a, ns, rfl, ha, hl, fun p H' zs e' hp h1 h2 h3 => q _ H' (e2.trans e') ⟨p, zs, rfl, hp, h1, h2, h3⟩⟩
theorem ok_u_law_names (T : Txt K mg A) : FnOk P w K mg base CX0 2 A.f_u_law_names A.d_u_law_names (["numbers"] : List Str) (spNames K) := by
  refine T.F_u_law_names.ok sc_u_law_names (fun vs H Q E h => ?_) (fun cdv Ar outer s H vs Q E hr h => ?_)
  · obtain ⟨a, ns, rfl, _⟩ := h
    rfl
  · obtain ⟨a, ns, rfl, hS, hl, k⟩ := h
    refine ⟨_, (pss_cons (ps_set (i := 1) sc_u_law_names.nd rfl (Or.inl rfl) pe_str)
        (pss_cons (ps_set (i := 2) sc_u_law_names.nd rfl (Or.inl rfl) (pe_lst pa_nil))
        (pss_cons (ps_for PassesOwn.never rfl (pi_listK (pv 0)) (pg_name (i := 3) sc_u_law_names.nd rfl (Or.inl rfl)) (pss_cons (ps_set (i := 4) sc_u_law_names.nd rfl (Or.inl rfl) (pe_call (ok_u_law_name T) (hr.mono (by omega)) rfl T.g_u_law_name T.k_u_law_name (b_u_law_name T) .nil pass0 (pa_cons (pv 3) pa_nil)))
        (pss_cons (ps_for PassesOwn.never rfl (pi_range1 rfl T.z_range (pa_cons pe_int pa_nil)) (pg_name (i := 5) sc_u_law_names.nd rfl (Or.inl rfl)) (pss_one (ps_if (pt_cmpR in_K (pv 4) (pv 2) (by with_unfolding_all rfl)) (pss_one (ps_set (i := 4) sc_u_law_names.nd rfl (Or.inl rfl) (pe_op op_add_str (pe_slice sl_str (pv 4) po_none (po_some (pe_un un_neg pe_int))) (pe_ix ix_str (pv 1) (pe_op op_mod (pe_op op_add (pe_m1 PySem.F.slot_str_index PySem.F.type_str_index mt_sindex (pv 1) (pe_ix ix_str (pv 4) (pe_un un_neg pe_int) (fun _ _ => rfl))) pe_int) pe_int) (fun _ _ => rfl))))) pss_nil)))
        (pss_one (ps_expr (pe_bm PySem.F.plainAttrs_list PySem.F.slot_list_append PySem.F.type_list_append mt_append (pv 2) (pa_cons (pv 4) pa_nil)))))))
        (pss_one (ps_ret (pv 2)))))), ?_⟩
    try dsimp only
    refine q_asg (v := .str LET) ev_c fun H1 e1 => ?_
    try dsimp only
    refine q_asgL (xs := []) (el_lst ea_nil (by decide)) fun np H2 hnp e2 h2 => ?_
    have np0 : H np = none := fresh_back e1 hnp
    try dsimp only
    refine q_forLn (K := K) (a := a) (xs := ns.map V.int) (j := 3) (ev_var (i := 0) rfl) (ex_l (e1.trans e2) hS)
      (fun i σ' G => ∃ (v3 v4 v5 : Option V) (zs : List Str), σ' = [some (.ref a), some (.str LET), some (.ref np), v3, v4, v5] ∧ Ex H G ∧ G np = some (.lst (zs.map V.str)) ∧ zs.length = i ∧ zs.Nodup ∧ ∀ z ∈ zs, Word z)
      (fun H3 e3 => ⟨none, none, none, [], rfl, (e1.trans e2).trans e3, e3 _ _ h2, rfl, .nil, fun z hz => by cases hz⟩) (fun i σ' G _ ⟨_, _, _, _, _, e, _⟩ => ex_l e hS) ?_ ?_
    · rintro i y σ' G hy ⟨v3, v4, v5, zs, rfl, eG, hz, hzl, hzd, hzw⟩
      obtain ⟨m, rfl, hm⟩ := some_int hy
      have hi : i < ns.length := (List.getElem?_eq_some_iff.mp hm).1
      try dsimp only
      refine q_asgR (er_name (ev_var (i := 3) rfl)) fun w G1 g1 hw => ?_
      obtain ⟨z0, rfl, hw0⟩ := hw
      obtain ⟨p, c, hc, hp, hpa, rfl⟩ := word_split hw0
      try dsimp only
      refine q_forR1 (j := 5) (n := 8) (ea_cons ev_c ea_nil) (by decide)
        (fun t σ' G' => ∃ (w : Str) (v5 : Option V), σ' = [some (.ref a), some (.str LET), some (.ref np), some (.int m), some (.str w), v5] ∧ Ex G G' ∧ Word w ∧ (w ∉ zs ∨ (w = bump p c t ∧ ∀ s, s < t → bump p c s ∈ zs))) (fun H3 e3 => ⟨_, v5, rfl, g1.trans e3, hw0, .inr ⟨rfl, fun s hs => absurd hs (Nat.not_lt_zero _)⟩⟩) ?_ ?_
      · rintro t σ' G' ht ⟨w, v5, rfl, eG', hww, hor⟩
        try dsimp only
        refine s_when (b := decide (w ∈ zs)) (et_test (ev_is (ev_op (ev_var (i := 4) rfl) (ev_var (i := 2) rfl) (rv_inL (K := K) (neg := false) (sq_of (eG' _ _ hz)) rfl (strs_flat zs))) (by rw [← inV_strs]; rfl))) (fun h G2 g2 => ?_) (fun h G2 g2 => ⟨w, _, rfl, eG'.trans g2, hww, .inl (of_decide_eq_false h)⟩)
        have h := of_decide_eq_true h
        obtain ⟨rfl, hall⟩ := hor.resolve_left (fun z => z h)
        have l1 : (bump p c t).length ≤ 8 := hww.len.2
        have at1 : atI (bump p c t).cps.toList (-1) = some (97 + (c + t) % 26) := atI_last (by show (p ++ [97 + (c + t) % 26]).getLast? = _; simp)
        have m0 : 0 ≤ (((97 + (c + t) % 26 - 97 : Nat) : Int) + 1) % 26 ∧ (((97 + (c + t) % 26 - 97 : Nat) : Int) + 1) % 26 < 26 := by omega
        have cut : cutS (bump p c t) none (some (-1)) = txt p := by unfold bump; rw [cut_last, List.dropLast_concat]
        try dsimp only
        refine s_asg (v := .str (bump p c (t + 1))) (ev_is (ev_op (ev_is (ev_slS (ev_var (i := 4) rfl) eo_none (eo_some (i := -1) (ev_un ev_c ru_neg)) (by omega)) (congrArg V.str cut)) (ev_op (ev_var (i := 1) rfl) (ev_op (ev_op (ev_letIx (ev_var (i := 1) rfl) (ev_op (ev_var (i := 4) rfl) (ev_un ev_c ru_neg) (rv_ixS (by omega) at1)) (by omega)) ev_c rv_I0) ev_c (rv_I (show (0 : Int) < 26 by decide))) (rv_ixS (w := LET) (by decide) (let_at m0))) (rv_addS (by rw [txt_len, txt_one, txt_len]; show p.length + 1 ≤ 100000; omega))) ?_) fun G3 g3 => ⟨_, _, rfl, eG'.trans (g2.trans g3), bump_word hp hpa, .inr ⟨rfl, fun s hs => ?_⟩⟩
        · rw [← bump_next, show (((97 + (c + t) % 26 - 97 : Nat) : Int) + 1) % 26 = (((97 + (c + t) % 26 - 97 + 1) % 26 : Nat) : Int) by omega, Int.toNat_natCast]
        · by_cases e : s = t
          · subst e; exact h
          · exact hall s (by omega)
      rintro σ' G' ⟨w, v5, rfl, eG', hww, hor⟩
      have hout : w ∉ zs := hor.elim id fun h => (bumps_out (by omega) h.2).elim
      try dsimp only
      refine s_app (xs := zs.map V.str) (eG' _ _ hz) (ev_var (i := 2) rfl) (ev_var (i := 4) rfl) (by rw [List.length_map]; omega) fun G3 g3 => ⟨_, _, _, zs ++ [w], rfl, Ex.mut (eG.trans (eG'.trans g3)) np0, by rw [upd_same, List.map_append]; rfl, by rw [List.length_append, hzl]; rfl, ?_, fun z hz' => ?_⟩
      · exact List.nodup_append.mpr ⟨hzd, List.pairwise_singleton _ _, fun x hx y hy e => hout (by rw [← List.mem_singleton.mp hy, ← e]; exact hx)⟩
      · rcases List.mem_append.mp hz' with h | h
        · exact hzw z h
        · rw [List.mem_singleton.mp h]; exact hww
    rintro σ' G ⟨v3, v4, v5, zs, rfl, eG, hz, hzl, hzd, hzw⟩
    rw [List.length_map] at hzl
    exact ⟨_, rfl, k np G zs eG hz hzl hzd hzw⟩

def spGates (K : PySem.W.Frag) : Sp := fun vs H Q _ => ∃ (a b : Addr) (ns ss : List Int), vs = [.ref a, .ref b] ∧ SqL K H a (ns.map V.int) ∧ SqL K H b (ss.map V.int) ∧ ns.length ≤ 7 ∧ ns.length ≤ ss.length ∧ (∀ s ∈ ss, 0 ≤ s ∧ s ≤ 60) ∧ ∀ v H' (gs : List (Str × Int)), Ex H H' → NewP (fun G => ∃ p, v = .ref p ∧ Gates K G p gs) H H' → gs.length = ns.length → (gs.map (·.1)).Nodup → (∀ g ∈ gs, Word g.1 ∧ 0 ≤ g.2 ∧ g.2 ≤ 60) → gs.map (·.2) = ss.take ns.length → Q v H' 
theorem ok_u_law_gates (T : Txt K mg A) : FnOk P w K mg base CX0 3 A.f_u_law_gates A.d_u_law_gates (["numbers", "stakes"] : List Str) (spGates K) := by
  refine T.F_u_law_gates.ok sc_u_law_gates (fun vs H Q E h => ?_) (fun cdv Ar outer s H vs Q E hr h => ?_)
  · obtain ⟨a, b, ns, ss, rfl, _⟩ := h
    rfl
  · obtain ⟨a, b, ns, ss, rfl, hS, hT, hl, hls, hss, k⟩ := h
    refine ⟨_, (pss_cons (ps_set (i := 2) sc_u_law_gates.nd rfl (Or.inr rfl) (pe_call (ok_u_law_names T) (hr.mono (by omega)) rfl T.g_u_law_names T.k_u_law_names (b_u_law_names T) .nil pass0 (pa_cons (pv 0) pa_nil)))
        (pss_one (ps_ret (pe_lc (own := [("k", 3)]) (g := gName 3) (tt := tYes) rfl sc_u_law_gates.nd (pi_range1 rfl T.z_range (pa_cons (pe_callB len_K (by rfl) T.z_len (by decide +kernel) (pa_cons (pv 2) pa_nil)) pa_nil)) (blkOk_by (own := [("k", 3)]) (N := N_u_law_gates) (sc := defScope s_u_law_gates) (by decide +kernel)) (fun _ _ _ _ _ => (pg_name (i := 3) sc_u_law_gates.nd rfl (Or.inl rfl))) (fun _ _ _ _ _ => pts_nil) (fun _ _ _ _ _ => (pe_tup (pa_cons (pe_ix ix_lK (pv 2) (pv 3) (fun _ _ => rfl)) (pa_cons (pe_ix ix_lK (pv 1) (pv 3) (fun _ _ => rfl)) pa_nil)))))))), ?_⟩
    try dsimp only
    refine q_asgR (er_names (K := K) (er_ev (ev_var (i := 0) rfl) fun H1 e => ⟨_, rfl, ex_l e hS⟩) hl) fun v H1 e1 hv => ?_
    obtain ⟨np, zs, rfl, hz, hzl, hzd, hzw⟩ := hv
    let gs : List (Str × Int) := (List.range zs.length).map fun k => (zs.getD k "", ss.getD k 0)
    have gsl : gs.length = ns.length := by simp [gs, hzl]
    have gse : gs.map (·.1) = zs := by
      show List.map _ (List.map _ _) = _
      rw [List.map_map]
      refine List.ext_getElem (by simp) fun i h1 h2 => ?_
      simp [List.getD_eq_getElem?_getD, List.getElem?_eq_getElem h2]
    have gsg : ∀ g ∈ gs, Word g.1 ∧ 0 ≤ g.2 ∧ g.2 ≤ 60 := fun g hg => by
      obtain ⟨i, hi, rfl⟩ := List.mem_map.mp hg
      have hi := List.mem_range.mp hi
      have h1 : zs.getD i "" ∈ zs := in_getD hi
      have h2 : ss.getD i 0 ∈ ss := in_getD (by omega)
      exact ⟨hzw _ h1, hss _ h2⟩
    have lc := en_lc (wi := iRng1 (tCons (tCB (rLenK K) (tCons (tVar 2) tNil)) tNil)) (g := gName 3) (te := tTup (tCons (tOp (rIxL K) (tVar 2) (tVar 3)) (tCons (tOp (rIxL K) (tVar 1) (tVar 3)) tNil))) (σ := [some (.ref a), some (.ref b), some (.ref np), none]) (H := H1) (n := zs.length) (vs := [3]) (fun k v G => ∃ t, v = .ref t ∧ G t = some (.tup [.str (zs.getD k ""), .int (ss.getD k 0)]))
      (by have e := ei_rng1 (σ := [some (.ref a), some (.ref b), some (.ref np), none]) (H := H1) (ta := tCons (tCB (rLenK K) (tCons (tVar 2) tNil)) tNil) (n := (zs.length : Int)) (ea_cons (ev_cb (r := rLenK K) (ea_cons (ev_var (i := 2) rfl) ea_nil) fun H2 e2 Q q => ⟨.ref np, zs.length, rfl, .inl ⟨_, sq_of (e2 _ _ hz), (List.length_map _).symm⟩, q H2 (Ex.refl H2)⟩) ea_nil) (by omega); rw [Int.toNat_natCast] at e; exact e)
      (by omega) bd_fn (fun i _ => rfl) (fun i H2 hi e2 => by
        have x1 : (zs.map V.str)[i]? = some (.str (zs.getD i "")) := by rw [List.getElem?_map, List.getD_eq_getElem?_getD, List.getElem?_eq_getElem hi]; rfl
        have x2 : (ss.map V.int)[i]? = some (.int (ss.getD i 0)) := by rw [List.getElem?_map, List.getD_eq_getElem?_getD, List.getElem?_eq_getElem (by omega)]; rfl
        exact fun H3 e3 Q q => eu_tup (ea_cons (ev_op (ev_var (i := 2) rfl) (ev_var (i := 3) rfl) (rv_ixL (K := K) (sq_of (e2 _ _ hz)) (atI_nat x1))) (ea_cons (ev_op (ev_var (i := 1) rfl) (ev_var (i := 3) rfl) (rv_ixL (K := K) (ex_l (e1.trans e2) hT) (atI_nat x2))) ea_nil)) (by show 2 ≤ 100000; decide) H3 e3 Q fun p H4 hp e4 h4 => q _ H4 e4 fun G g => ⟨p, rfl, g p _ hp h4⟩)
    try dsimp only
    have gst : gs.map (·.2) = ss.take ns.length := by
      show List.map _ (List.map _ _) = _
      rw [List.map_map]
      refine List.ext_getElem (by simp; omega) fun i h1 h2 => ?_
      have hi : i < ss.length := by rw [List.length_take] at h2; omega
      simp [List.getD_eq_getElem?_getD, List.getElem?_eq_getElem hi]
    refine lc H1 (Ex.refl _) _ fun v H2 e2 hv => k v H2 gs (e1.trans e2) ?_ gsl (by rw [gse]; exact hzd) gsg gst
    intro G g
    obtain ⟨p, vs, rfl, hp, hvl, hall⟩ := hv G fun b o hb h => g b o (fresh_back e1 hb) h
    refine ⟨p, rfl, ⟨vs, SqL.of hp, by simp [gs, hvl], fun i v hv => ?_⟩⟩
    obtain ⟨t, rfl, ht⟩ := hall i v hv
    refine ⟨t, rfl, fun g' hg' => ?_⟩
    have hi : i < zs.length := by have := (List.getElem?_eq_some_iff.mp hv).1; omega
    have : gs[i]? = some (zs.getD i "", ss.getD i 0) := by simp [gs, hi]
    rw [this] at hg'
    cases hg'
    exact st_of ht

def spGcd : Sp := fun vs H Q _ => ∃ a b : Int, vs = [.int a, .int b] ∧ ∀ H', Ex H H' → Q (.int ((Nat.gcd a.natAbs b.natAbs : Nat) : Int)) H'
theorem ev_abs {σ : L2.St} {H : Hp} {te : TE} {z : Int} (h : Ev te σ H (.int z)) : Ev (tCB (fun xs H Q => ∃ i, xs = [V.int i] ∧ Q (V.int (if i < 0 then -i else i)) H) (tCons te tNil)) σ H (.int (z.natAbs : Int)) :=
  ev_is (ev_cb (ea_cons h ea_nil) fun H1 _ _ q => ⟨z, rfl, q H1 (Ex.refl H1)⟩) (by congr 1; split <;> omega)
theorem ev_lawGcd {E : XK} {σ : L2.St} {H : Hp} {ta tb : TE} {a b : Int} (ha : Ev ta σ H (.int a)) (hb : Ev tb σ H (.int b)) : Ev (tCall spGcd [] E (tCons ta (tCons tb tNil))) σ H (.int ((Nat.gcd a.natAbs b.natAbs : Nat) : Int)) :=
  ev_call (ea_cons ha (ea_cons hb ea_nil)) fun H1 e Q q E => ⟨a, b, rfl, fun H' e' => q H' e'⟩
theorem ok_u_law_gcd (T : Txt K mg A) : FnOk P w K mg base CX0 1 A.f_u_law_gcd A.d_u_law_gcd (["a", "b"] : List Str) spGcd := by
  refine T.F_u_law_gcd.ok sc_u_law_gcd (fun vs H Q E h => ?_) (fun cdv Ar outer s H vs Q E hr h => ?_)
  · obtain ⟨a, b, rfl, _⟩ := h
    rfl
  · obtain ⟨a, b, rfl, k⟩ := h
    refine ⟨_, (pss_cons (ps_set (i := 0) sc_u_law_gcd.nd rfl (Or.inl rfl) (pe_callB call_abs (by rfl) T.z_abs (by decide +kernel) (pa_cons (pv 0) pa_nil)))
        (pss_cons (ps_set (i := 1) sc_u_law_gcd.nd rfl (Or.inl rfl) (pe_callB call_abs (by rfl) T.z_abs (by decide +kernel) (pa_cons (pv 1) pa_nil)))
        (pss_cons (ps_while PassesOwn.never (pt_cmpR op_gt (pv 1) pe_int (nomark _)) (pss_one (ps_par (i := 0) (j := 1) (by rfl) sc_u_law_gcd.nd rfl rfl (by decide) rfl rfl (pa_cons (pv 1) (pa_cons (pe_op op_mod (pe_callTy call_int1 (by rfl) T.z_int (by decide +kernel) (pa_cons (pv 0) pa_nil)) (pv 1)) pa_nil)) (by rfl))))
        (pss_one (ps_ret (pv 0)))))), ?_⟩
    try dsimp only
    refine q_asg (v := .int (a.natAbs : Int)) (ev_abs (ev_var (i := 0) rfl)) fun H1 e1 => ?_
    try dsimp only
    refine q_asg (v := .int (b.natAbs : Int)) (ev_abs (ev_var (i := 1) rfl)) fun H2 e2 => ?_
    replace e2 := e1.trans e2
    try dsimp only
    refine q_while (fun m σ' H' => ∃ x y : Nat, σ' = [some (.int (x : Int)), some (.int (y : Int))] ∧ Ex H H' ∧ Nat.gcd x y = Nat.gcd a.natAbs b.natAbs ∧ m = y) b.natAbs ⟨a.natAbs, b.natAbs, rfl, e2, rfl, rfl⟩ ?_
    rintro m σ' H' ⟨x, y, rfl, e, hg, rfl⟩
    refine ⟨decide ((0 : Int) < (m : Int)), et_test (ev_op (ev_var (i := 1) rfl) ev_c rv_I0), fun hb H3 e3 => ?_, fun hb H3 e3 => ?_⟩
    · have hm : 0 < m := by have := of_decide_eq_true hb; omega
      refine ⟨fun σ2 H4 => σ2 = [some (.int (m : Int)), some (.int ((x % m : Nat) : Int))] ∧ Ex H H4, fun σ2 H4 h => ⟨x % m, Nat.mod_lt _ hm, m, x % m, h.1, h.2, ?_, rfl⟩, ?_⟩
      · rw [← hg, Nat.gcd_comm, ← Nat.gcd_rec, Nat.gcd_comm]
      · refine ea_cons (ev_var (i := 1) rfl) (ea_cons (ev_op (ev_int (ev_var (i := 0) rfl)) (ev_var (i := 1) rfl) (rv_I (by omega))) ea_nil) H3 (Ex.refl _) _ fun H4 e4 => ⟨_, _, rfl, ?_, e.trans (e3.trans e4)⟩
        rw [Int.natCast_emod]
        rfl
    · have hm : m = 0 := by have := of_decide_eq_false hb; omega
      subst hm
      rw [Nat.gcd_zero_right] at hg
      refine s_ret (v := .int (x : Int)) (ev_var (i := 0) rfl) fun H4 e4 => ?_
      rw [hg]
      exact k H4 (e.trans (e3.trans e4))

theorem isi {K : PySem.W.Frag} {H : Hp} {x : V} {t n : String} {b : Bool} {Q : VK} (ty : TyX K H x (.type t)) (h : kitB t n = some b) (q : Q (.bl b) H) : rIsi K [x, .ty n] H Q := ⟨x, .ty n, _, _, b, rfl, .ty n, ty, kit_ty h, q⟩
def sp_is_int (K : PySem.W.Frag) : Sp := fun vs H Q _ => ∃ i : Int, vs = [.int i] ∧ Q (.bl true) H
theorem ok_u_law_is_int (T : Txt K mg A) : FnOk P w K mg base CX0 1 A.f_u_law_is_int A.d_u_law_is_int (["x"] : List Str) (sp_is_int K) := by
  refine T.F_u_law_is_int.ok sc_u_law_is_int (fun vs H Q E h => ?_) (fun cdv Ar outer s H vs Q E hr h => ?_)
  · obtain ⟨i, rfl, _⟩ := h
    rfl
  · obtain ⟨i, rfl, q⟩ := h
    refine ⟨_, (pss_one (ps_ret (pe_and (pe_callB isi_K (by rfl) T.z_isinstance (by decide +kernel) (pa_cons (pv 0) (pa_cons (pe_bltn (v := .ty "int") (by rfl) T.z_int (by decide +kernel) rfl) pa_nil))) (pe_one (pe_not (pe_callB isi_K (by rfl) T.z_isinstance (by decide +kernel) (pa_cons (pv 0) (pa_cons (pe_bltn (v := .ty "bool") (by rfl) T.z_bool (by decide +kernel) rfl) pa_nil)))))))), ?_⟩
    refine ⟨_, rfl, _, _, _, _, true, rfl, .ty _, .base (.int i), kit_ty (by decide +kernel), ⟨_, rfl, iteT ?_⟩⟩
    exact ⟨_, rfl, _, _, _, _, false, rfl, .ty _, .base (.int i), kit_ty (by decide +kernel), ⟨_, rfl, q⟩⟩

def spIsRat (A : Ads) : Sp := fun vs H Q _ => ∃ (v : V) (t u : Int), vs = [v] ∧ RatAt A.C_Ratio v H t u ∧ 0 < u ∧ Nat.gcd t.natAbs u.natAbs = 1 ∧ ∀ H', Ex H H' → Q (.bl true) H'
theorem ev_isInt {K : PySem.W.Frag} {E : XK} {σ : L2.St} {H : Hp} {te : TE} {z : Int} (h : Ev te σ H (.int z)) : Ev (tCall (sp_is_int K) [] E (tCons te tNil)) σ H (.bl true) := fun H1 e Q q => h H1 e _ fun H2 e2 => ⟨z, rfl, q H2 e2⟩
theorem ok_u_law_is_ratio (T : Txt K mg A) : FnOk P w K mg base CX0 2 A.f_u_law_is_ratio A.d_u_law_is_ratio (["x"] : List Str) (spIsRat A) := by
  refine T.F_u_law_is_ratio.ok sc_u_law_is_ratio (fun vs H Q E h => ?_) (fun cdv Ar outer s H vs Q E hr h => ?_)
  · obtain ⟨v, t, u, rfl, _⟩ := h
    rfl
  · obtain ⟨v, t, u, rfl, hv, hu, hg, k⟩ := h
    refine ⟨_, (pss_cons (ps_if (PW.pt (pw_or (pt_not (pt_val (pe_callB isi_K (by rfl) T.z_isinstance (by decide +kernel) (pa_cons (pv 0) (pa_cons (pe_glob (v := .ref A.C_Ratio) rfl T.g_Ratio rfl) pa_nil))))) (pw_or (pt_not (pt_val (pe_call (ok_u_law_is_int T) (hr.mono (by omega)) rfl T.g_u_law_is_int T.k_u_law_is_int (b_u_law_is_int T) .nil pass0 (pa_cons (pe_fldK (pv 0) rfl) pa_nil)))) (pw_or1 (pt_not (pt_val (pe_call (ok_u_law_is_int T) (hr.mono (by omega)) rfl T.g_u_law_is_int T.k_u_law_is_int (b_u_law_is_int T) .nil pass0 (pa_cons (pe_fldK (pv 0) rfl) pa_nil)))))))) (pss_one (ps_ret pe_bl)) pss_nil)
        (pss_one (ps_ret (pe_and (pe_cmpR op_ge (pe_fldK (pv 0) rfl) pe_int (nomark _)) (pe_one (pe_cmpR op_eq (pe_call (ok_u_law_gcd T) (hr.mono (by omega)) rfl T.g_u_law_gcd T.k_u_law_gcd (b_u_law_gcd T) .nil pass0 (pa_cons (pe_fldK (pv 0) rfl) (pa_cons (pe_fldK (pv 0) rfl) pa_nil))) pe_int (nomark _))))))), ?_⟩
    obtain ⟨a, dx, rfl, hi⟩ := id hv
    try dsimp only
    refine q_skip (et_orF (et_notT (et_B fun H1 e1 Q q => ⟨_, rfl, _, _, _, _, true, rfl, .own _, T.ty_Ratio H1 a dx _ (e1 _ _ hi), kit_self, q H1 (Ex.refl H1)⟩)) (et_orF (et_notT (et_B (ev_isInt (ev_top (ev_var rfl) hv T.cl_Ratio T.na_Ratio_top)))) (et_notT (et_B (ev_isInt (ev_under (ev_var rfl) hv T.cl_Ratio T.na_Ratio_under)))))) fun H1 e1 => ?_
    try dsimp only
    refine s_ret (v := .bl true) (ev_andV (a := true) (ev_is (ev_op (ev_under (ev_var rfl) (hv.ex e1) T.cl_Ratio T.na_Ratio_under) ev_c rv_I0) (by congr 1; exact decide_eq_true (by omega))) fun _ => ev_is (ev_op (ev_lawGcd (ev_top (ev_var rfl) (hv.ex e1) T.cl_Ratio T.na_Ratio_top) (ev_under (ev_var rfl) (hv.ex e1) T.cl_Ratio T.na_Ratio_under)) ev_c (rv_eq rfl)) (by rw [hg]; simp)) fun H2 e2 => k H2 (e1.trans e2)
def spWorth (A : Ads) : Sp := fun vs H Q _ => ∃ (v : V) (p q : Int), vs = [v, .int p, .int q] ∧ IsRt A v H p q ∧ p.natAbs < 2 ^ 4000 ∧ q.natAbs < 2 ^ 4000 ∧ ∀ H', Ex H H' → Q (.bl true) H'
theorem ev_worth {A : Ads} {E : XK} {σ : L2.St} {H : Hp} {ta tb tc : TE} {p q : Int} (ha : EvR ta σ H fun v H1 => IsRt A v H1 p q) (hb : Ev tb σ H (.int p)) (hc : Ev tc σ H (.int q)) (zp : p.natAbs < 2 ^ 4000) (zq : q.natAbs < 2 ^ 4000) :
    Ev (tCall (spWorth A) [] E (tCons ta (tCons tb (tCons tc tNil)))) σ H (.bl true) := fun H1 e Q k =>
  ha H1 e _ fun v H2 e2 hv => hb H2 (e.trans e2) _ fun H3 e3 => hc H3 ((e.trans e2).trans e3) _ fun H4 e4 => ⟨v, p, q, rfl, hv.ex (e3.trans e4), zp, zq, fun H' e' => k H' (((e2.trans e3).trans e4).trans e')⟩
theorem ok_u_law_worth (T : Txt K mg A) : FnOk P w K mg base CX0 3 A.f_u_law_worth A.d_u_law_worth (["x", "top", "under"] : List Str) (spWorth A) := by
  refine T.F_u_law_worth.ok sc_u_law_worth (fun vs H Q E h => ?_) (fun cdv Ar outer s H vs Q E hr h => ?_)
  · obtain ⟨v, p, q, rfl, _⟩ := h
    rfl
  · obtain ⟨v, p, q, rfl, hv, zp, zq, k⟩ := h
    refine ⟨_, (pss_one (ps_ret (pe_and (pe_call (ok_u_law_is_ratio T) (hr.mono (by omega)) rfl T.g_u_law_is_ratio T.k_u_law_is_ratio (b_u_law_is_ratio T) .nil pass0 (pa_cons (pv 0) pa_nil)) (pe_one (pe_cmpR op_eq (pe_op op_mulW (pe_fldK (pv 0) rfl) (pv 2)) (pe_op op_mulW (pv 1) (pe_fldK (pv 0) rfl)) (nomark _)))))), ?_⟩
    obtain ⟨t, u, hl, hr⟩ := hv
    have m1 : CMulW t q := wide_mul (Nat.lt_of_le_of_lt hl.lt zp) zq (by decide) (by decide) (by decide)
    have m2 : CMulW p u := wide_mul zp (Nat.lt_of_le_of_lt hl.lu zq) (by decide) (by decide) (by decide)
    try dsimp only
    refine s_ret (v := .bl true) (ev_andV (a := true) (ev_call (ea_cons (ev_var (i := 0) rfl) ea_nil) fun H1 e Q q E => ⟨v, t, u, rfl, hr.ex e, hl.pos, hl.cop, fun H' e' => q H' e'⟩) fun _ =>
      ev_is (ev_op (ev_op (ev_top (ev_var (i := 0) rfl) hr T.cl_Ratio T.na_Ratio_top) (ev_var (i := 2) rfl) (rv_I m1)) (ev_op (ev_var (i := 1) rfl) (ev_under (ev_var (i := 0) rfl) hr T.cl_Ratio T.na_Ratio_under) (rv_I m2)) (rv_eq rfl)) (by rw [hl.eq]; simp)) fun H2 e2 => k H2 e2
/-- like data are told alike -/
def sp_same (K : PySem.W.Frag) (n : Nat) : Sp := fun vs H Q _ => ∃ (x y : V) (d : PyData), vs = [x, y] ∧ Dp K H x d ∧ Dp K H y d ∧ Flat n d ∧ Q (.bl true) H
theorem same_loop {K : PySem.W.Frag} {H : Hp} {n k : Nat} {xs ys : List V} {ds : List PyData} {x y : V} {kv : Option V} {Q : VK} {N : L2.St → Hp → Prop} {tb : TS} (hk : k = ds.length) (hx : DpAll K H xs ds) (hy : DpAll K H ys ds) (hf : ∀ d ∈ ds, Flat n d) (hl : ds.length ≤ 40000)
    (hb : ∀ (i : Nat) (u v : V) (d : PyData) (kv : Option V) (D : Ends), i < ds.length → xs[i]? = some u → ys[i]? = some v → Dp K H u d → Dp K H v d → Flat n d → D.nx [some x, some y, some (.int (i : Int))] H → tb D ([some x, some y, kv].set 2 (some (.int (i : Int)))) H)
    (hq : ∀ kv, N [some x, some y, kv] H) :
    ∃ W : Nat → Nat → L2.St → Hp → Prop, (∃ m, W 0 m [some x, some y, kv] H) ∧ ∀ i m σ H, W i m σ H →
      ((Itr 0 k).stop i H ∧ N σ H) ∨ ((Itr 0 k).go i H ∧ ∃ N' : L2.St → Hp → Prop, (∀ σ' H', N' σ' H' → ∃ m', m' < m ∧ W (i + 1) m' σ' H') ∧ ∀ z H', (Itr 0 k).yld i H z H' → gName 2 z σ H' fun σ2 H2 => tb { nx := N', ct := N', bk := N, rt := Q } σ2 H2) := by
  subst hk
  refine for_range (D := { nx := N, rt := Q }) (fun i σ H' => H' = H ∧ ∃ kv, σ = [some x, some y, kv]) ⟨rfl, _, rfl⟩ ?_ ?_
  · rintro i σ H' hi ⟨rfl, kv, rfl⟩
    obtain ⟨_, gx⟩ := dp_get hx
    obtain ⟨_, gy⟩ := dp_get hy
    have ed := List.getElem?_eq_getElem hi
    obtain ⟨u, eu, du⟩ := gx i _ ed
    obtain ⟨v, ev, dv⟩ := gy i _ ed
    show tb _ ([some x, some y, kv].set 2 (some (.int (0 + (i : Int))))) H'
    rw [Int.zero_add]
    exact hb i u v _ kv _ hi eu ev du dv (hf _ (List.getElem_mem hi)) ⟨rfl, _, rfl⟩
  · rintro σ H' ⟨rfl, kv, rfl⟩
    exact hq kv
theorem ok_u_law_same_n (T : Txt K mg A) : ∀ n, FnOk P w K mg base CX0 (n + 2) A.f_u_law_same A.d_u_law_same (["got", "due"] : List Str) (sp_same K n) := by
  intro n
  induction n with
  | zero => exact ⟨fun vs H Q E h => by obtain ⟨x, y, d, rfl, _⟩ := h; rfl, fun Ar outer s H args us vs Q E _ _ _ _ h => by obtain ⟨x, y, d, _, _, _, hf, _⟩ := h; exact hf.elim⟩
  | succ n ih =>
    refine T.F_u_law_same.ok sc_u_law_same (fun vs H Q E h => ?_) (fun cdv Ar outer s H vs Q E hr h => ?_)
    · obtain ⟨x, y, d, rfl, _⟩ := h
      rfl
    · obtain ⟨x, y, d, rfl, hx, hy, hf, q⟩ := h
      have ihx := ih
      refine ⟨_, (pss_cons (ps_if (pt_cmpR op_isN (pv 1) pe_non (nomark _)) (pss_one (ps_ret (pe_cmpR op_isN (pv 0) pe_non (nomark _)))) pss_nil)
        (pss_cons (ps_if (pt_cmpR op_isK (pv 1) pe_bl (nomark _)) (pss_one (ps_ret (pe_cmpR op_isK (pv 0) pe_bl (nomark _)))) pss_nil)
        (pss_cons (ps_if (pt_cmpR op_isK (pv 1) pe_bl (nomark _)) (pss_one (ps_ret (pe_cmpR op_isK (pv 0) pe_bl (nomark _)))) pss_nil)
        (pss_cons (ps_if (pt_val (pe_callB isi_K (by rfl) T.z_isinstance (by decide +kernel) (pa_cons (pv 1) (pa_cons (pe_bltn (v := .ty "int") (by rfl) T.z_int (by decide +kernel) rfl) pa_nil)))) (pss_one (ps_ret (pe_and (pe_call (ok_u_law_is_int T) (hr.mono (by omega)) rfl T.g_u_law_is_int T.k_u_law_is_int (b_u_law_is_int T) .nil pass0 (pa_cons (pv 0) pa_nil)) (pe_one (pe_cmpR op_eq (pv 0) (pv 1) (nomark _)))))) pss_nil)
        (pss_cons (ps_if (pt_val (pe_callB isi_K (by rfl) T.z_isinstance (by decide +kernel) (pa_cons (pv 1) (pa_cons (pe_bltn (v := .ty "str") (by rfl) T.z_str (by decide +kernel) rfl) pa_nil)))) (pss_one (ps_ret (pe_and (pe_callB isi_K (by rfl) T.z_isinstance (by decide +kernel) (pa_cons (pv 0) (pa_cons (pe_bltn (v := .ty "str") (by rfl) T.z_str (by decide +kernel) rfl) pa_nil))) (pe_one (pe_cmpR op_eq (pv 0) (pv 1) (nomark _)))))) pss_nil)
        (pss_cons (ps_if (pt_val (pe_callB isi_K (by rfl) T.z_isinstance (by decide +kernel) (pa_cons (pv 1) (pa_cons (pe_bltn (v := .ty "tuple") (by rfl) T.z_tuple (by decide +kernel) rfl) pa_nil)))) (pss_one (ps_if (PW.pt (pw_or (pt_not (pt_val (pe_callB isi_K (by rfl) T.z_isinstance (by decide +kernel) (pa_cons (pv 0) (pa_cons (pe_bltn (v := .ty "tuple") (by rfl) T.z_tuple (by decide +kernel) rfl) pa_nil))))) (pw_or1 (pt_cmpR op_ne (pe_callB len_K (by rfl) T.z_len (by decide +kernel) (pa_cons (pv 0) pa_nil)) (pe_callB len_K (by rfl) T.z_len (by decide +kernel) (pa_cons (pv 1) pa_nil)) (nomark _))))) (pss_one (ps_ret pe_bl)) pss_nil)) (pss_one (ps_if (PW.pt (pw_or (pt_not (pt_val (pe_callB isi_K (by rfl) T.z_isinstance (by decide +kernel) (pa_cons (pv 0) (pa_cons (pe_bltn (v := .ty "list") (by rfl) T.z_list (by decide +kernel) rfl) pa_nil))))) (pw_or1 (pt_cmpR op_ne (pe_callB len_K (by rfl) T.z_len (by decide +kernel) (pa_cons (pv 0) pa_nil)) (pe_callB len_K (by rfl) T.z_len (by decide +kernel) (pa_cons (pv 1) pa_nil)) (nomark _))))) (pss_one (ps_ret pe_bl)) pss_nil)))
        (pss_cons (ps_for PassesOwn.never rfl (pi_range1 rfl T.z_range (pa_cons (pe_callB len_K (by rfl) T.z_len (by decide +kernel) (pa_cons (pv 1) pa_nil)) pa_nil)) (pg_name (i := 2) sc_u_law_same.nd rfl (Or.inl rfl)) (pss_one (ps_if (pt_not (pt_val (pe_call ih (hr.mono (by omega)) rfl T.g_u_law_same T.k_u_law_same (b_u_law_same T) .nil pass0 (pa_cons (pe_ix ix_sK (pv 0) (pv 2) (fun _ _ => rfl)) (pa_cons (pe_ix ix_sK (pv 1) (pv 2) (fun _ _ => rfl)) pa_nil))))) (pss_one (ps_ret pe_bl)) pss_nil)))
        (pss_one (ps_ret pe_bl))))))))), ?_⟩
      cases hx with
      | non => cases hy; exact ⟨_, rfl, rfl, _, rfl, wayT rfl ⟨_, rfl, rfl, q⟩⟩
      | bl b =>
        cases hy
        refine ⟨_, rfl, rfl, _, rfl, wayF (fun z => by cases z) ?_⟩
        cases b with
        | true => exact ⟨_, rfl, _, rfl, _, rfl, wayT rfl ⟨_, rfl, _, rfl, q⟩⟩
        | false => exact ⟨_, rfl, _, rfl, _, rfl, wayF (fun z => by cases z) ⟨_, rfl, _, rfl, _, rfl, wayT rfl ⟨_, rfl, _, rfl, q⟩⟩⟩
      | int i =>
        cases hy
        refine ⟨_, rfl, rfl, _, rfl, wayF (fun z => by cases z) ⟨_, rfl, _, rfl, _, rfl, wayF (fun z => by cases z) ⟨_, rfl, _, rfl, _, rfl, wayF (fun z => by cases z) ?_⟩⟩⟩
        refine ⟨_, rfl, _, _, _, _, true, rfl, .ty _, .base (.int i), kit_ty (by decide +kernel), ⟨_, rfl, iteT ?_⟩⟩
        refine ⟨_, rfl, i, rfl, _, rfl, iteT ?_⟩
        refine ⟨_, rfl, _, rfl, rfl, ?_⟩
        rw [decide_eq_true rfl]
        exact q
      | str z =>
        cases hy
        refine ⟨_, rfl, rfl, _, rfl, wayF (fun z => by cases z) ⟨_, rfl, _, rfl, _, rfl, wayF (fun z => by cases z) ⟨_, rfl, _, rfl, _, rfl, wayF (fun z => by cases z) ?_⟩⟩⟩
        refine ⟨_, rfl, _, _, _, _, false, rfl, .ty _, .base (.str z), kit_ty (by decide +kernel), ⟨_, rfl, iteF ?_⟩⟩
        refine ⟨_, rfl, _, _, _, _, true, rfl, .ty _, .base (.str z), kit_ty (by decide +kernel), ⟨_, rfl, iteT ?_⟩⟩
        refine ⟨_, rfl, _, _, _, _, true, rfl, .ty _, .base (.str z), kit_ty (by decide +kernel), ⟨_, rfl, iteT ?_⟩⟩
        refine ⟨_, rfl, _, rfl, rfl, ?_⟩
        rw [decide_eq_true rfl]
        exact q
      | lst sx ax =>
        cases hy with
        | lst sy ay =>
          refine ⟨_, rfl, rfl, _, rfl, wayF (fun z => by cases z) ⟨_, rfl, _, rfl, _, rfl, wayF (fun z => by cases z) ⟨_, rfl, _, rfl, _, rfl, wayF (fun z => by cases z) ?_⟩⟩⟩
          refine ⟨_, rfl, _, _, _, _, false, rfl, .ty _, tyx_l sy, kit_ty (by decide +kernel), ⟨_, rfl, iteF ?_⟩⟩
          refine ⟨_, rfl, _, _, _, _, false, rfl, .ty _, tyx_l sy, kit_ty (by decide +kernel), ⟨_, rfl, iteF ?_⟩⟩
          refine ⟨_, rfl, _, _, _, _, false, rfl, .ty _, tyx_l sy, kit_ty (by decide +kernel), ⟨_, rfl, iteF ?_⟩⟩
          refine ⟨_, rfl, _, _, _, _, true, rfl, .ty _, tyx_l sx, kit_ty (by decide +kernel), ⟨_, rfl, iteF ?_⟩⟩
          have lx := (dp_get ax).1
          have ly := (dp_get ay).1
          refine ⟨_, rfl, _, _, rfl, .inl ⟨_, sx, rfl⟩, _, rfl, _, _, rfl, .inl ⟨_, sy, rfl⟩, rfl, _, rfl, wayNT (by rw [lx, ly]) ?_⟩
          have h40 := hf.1
          refine ⟨_, rfl, _, _, rfl, .inl ⟨_, sy, rfl⟩, _, rfl, by omega, by omega, same_loop (by omega) ax ay hf.2 hf.1 (fun i u v d kv D hi eu ev du dv fd hn => ?_) (fun kv => q)⟩
          refine ⟨_, rfl, _, rfl, .inl ⟨_, _, _, u, rfl, rfl, sx, atI_nat eu, ?_⟩⟩
          refine ⟨_, rfl, _, rfl, .inl ⟨_, _, _, v, rfl, rfl, sy, atI_nat ev, ?_⟩⟩
          exact ⟨u, v, d, rfl, du, dv, fd, _, rfl, iteF hn⟩
      | tup sx ax =>
        cases hy with
        | tup sy ay =>
          refine ⟨_, rfl, rfl, _, rfl, wayF (fun z => by cases z) ⟨_, rfl, _, rfl, _, rfl, wayF (fun z => by cases z) ⟨_, rfl, _, rfl, _, rfl, wayF (fun z => by cases z) ?_⟩⟩⟩
          refine ⟨_, rfl, _, _, _, _, false, rfl, .ty _, tyx_t sy, kit_ty (by decide +kernel), ⟨_, rfl, iteF ?_⟩⟩
          refine ⟨_, rfl, _, _, _, _, false, rfl, .ty _, tyx_t sy, kit_ty (by decide +kernel), ⟨_, rfl, iteF ?_⟩⟩
          refine ⟨_, rfl, _, _, _, _, true, rfl, .ty _, tyx_t sy, kit_ty (by decide +kernel), ⟨_, rfl, iteT ?_⟩⟩
          refine ⟨_, rfl, _, _, _, _, true, rfl, .ty _, tyx_t sx, kit_ty (by decide +kernel), ⟨_, rfl, iteF ?_⟩⟩
          have lx := (dp_get ax).1
          have ly := (dp_get ay).1
          refine ⟨_, rfl, _, _, rfl, .inr ⟨_, sx, rfl⟩, _, rfl, _, _, rfl, .inr ⟨_, sy, rfl⟩, rfl, _, rfl, wayNT (by rw [lx, ly]) ?_⟩
          have h40 := hf.1
          refine ⟨_, rfl, _, _, rfl, .inr ⟨_, sy, rfl⟩, _, rfl, by omega, by omega, same_loop (by omega) ax ay hf.2 hf.1 (fun i u v d kv D hi eu ev du dv fd hn => ?_) (fun kv => q)⟩
          refine ⟨_, rfl, _, rfl, .inr (.inl ⟨_, _, _, u, rfl, rfl, sx, atI_nat eu, ?_⟩)⟩
          refine ⟨_, rfl, _, rfl, .inr (.inl ⟨_, _, _, v, rfl, rfl, sy, atI_nat ev, ?_⟩)⟩
          exact ⟨u, v, d, rfl, du, dv, fd, _, rfl, iteF hn⟩
theorem ok_u_law_same (T : Txt K mg A) : FnOk P w K mg base CX0 6 A.f_u_law_same A.d_u_law_same (["got", "due"] : List Str) (sp_same K 4) := ok_u_law_same_n T 4

def spGreater (K : PySem.W.Frag) : Sp := fun vs H Q _ => ∃ (p q : Addr) (r s : Int × Int), vs = [.ref p, .ref q] ∧ SqT K H p [.int r.1, .int r.2] ∧ SqT K H q [.int s.1, .int s.2] ∧ RB r ∧ RB s ∧ ∀ t H', Ex H H' → SqT K H' t [.int (greater r s).1, .int (greater r s).2] → Q (.ref t) H' 
theorem ok_u_law_greater (T : Txt K mg A) : FnOk P w K mg base CX0 1 A.f_u_law_greater A.d_u_law_greater (["one", "other"] : List Str) (spGreater K) := by
  refine T.F_u_law_greater.ok sc_u_law_greater (fun vs H Q E h => ?_) (fun cdv Ar outer s H vs Q E hr h => ?_)
  · obtain ⟨p, q, r, s, rfl, _⟩ := h
    rfl
  · obtain ⟨p, q, r, s2, rfl, hp, hq, br, bs, k⟩ := h
    refine ⟨_, (pss_cons (ps_if (pt_cmpR op_gt (pe_op op_mul (pe_ix ix_tK (pv 1) pe_int (fun _ _ => rfl)) (pe_ix ix_tK (pv 0) pe_int (fun _ _ => rfl))) (pe_op op_mul (pe_ix ix_tK (pv 0) pe_int (fun _ _ => rfl)) (pe_ix ix_tK (pv 1) pe_int (fun _ _ => rfl))) (nomark _)) (pss_one (ps_ret (pv 1))) pss_nil)
        (pss_one (ps_ret (pv 0)))), ?_⟩
    obtain ⟨rn0, rn1, rd0, rd1⟩ := br
    obtain ⟨sn0, sn1, sd0, sd1⟩ := bs
    try dsimp only
    refine q_when (b := decide (r.1 * s2.2 < s2.1 * r.2)) (et_test (ev_op (ev_op (ev_op (ev_var (i := 1) rfl) ev_c (rv_ixT (K := K) hq (atI_nat (j := 0) rfl))) (ev_op (ev_var (i := 0) rfl) ev_c (rv_ixT (K := K) hp (atI_nat (j := 1) rfl))) (rv_I (show CMul s2.1 r.2 from .inl ⟨by omega, by omega⟩))) (ev_op (ev_op (ev_var (i := 0) rfl) ev_c (rv_ixT (K := K) hp (atI_nat (j := 0) rfl))) (ev_op (ev_var (i := 1) rfl) ev_c (rv_ixT (K := K) hq (atI_nat (j := 1) rfl))) (rv_I (show CMul r.1 s2.2 from .inl ⟨by omega, by omega⟩))) rv_I0)) (fun hb G g => ?_) (fun hb G g => ?_)
    · have e : greater r s2 = s2 := if_pos (of_decide_eq_true hb)
      exact s_ret (ev_var (i := 1) rfl) fun G2 g2 => k q G2 (g.trans g2) (by rw [e]; exact ex_t (g.trans g2) hq)
    · have e : greater r s2 = r := if_neg (of_decide_eq_false hb)
      exact s_ret (ev_var (i := 0) rfl) fun G2 g2 => k p G2 (g.trans g2) (by rw [e]; exact ex_t (g.trans g2) hp)

theorem ev_lenR {K : PySem.W.Frag} {σ : L2.St} {H : Hp} {te : TE} {n : Nat} (h : EvR te σ H fun v G => ∃ p xs, v = .ref p ∧ SqL K G p xs ∧ xs.length = n) : Ev (tCB (rLenK K) (tCons te tNil)) σ H (.int (n : Int)) := fun H1 e Q q => h H1 e _ fun v H2 e2 hv => by
  obtain ⟨p, xs, rfl, hp, hl⟩ := hv
  exact ⟨.ref p, n, rfl, .inl ⟨xs, hp, hl.symm⟩, q H2 e2⟩

theorem er_tupU {te : TE} {σ : L2.St} {H : Hp} {xs : List V} {P : V → Hp → Prop} (h : EvU te σ H xs) (hp : ∀ p H1, H1 p = some (.tup xs) → P (.ref p) H1) : EvR te σ H P := fun H1 e Q q => h H1 e _ fun p H2 _ e2 h2 => q _ H2 e2 (hp p H2 h2)

theorem en_U {te : TE} {σ : L2.St} {H : Hp} {xs : List V} (h : EvU te σ H xs) : EvNew te σ H fun v G => ∃ t, v = .ref t ∧ G t = some (.tup xs) := fun H1 e Q q => h H1 e _ fun p H2 hp e2 h2 => q _ H2 e2 fun G g => ⟨p, rfl, g p _ hp h2⟩

def PairV (K : PySem.W.Frag) (r : Int × Int) : V → Hp → Prop := fun v G => ∃ t, v = .ref t ∧ SqT K G t [.int r.1, .int r.2]
theorem er_greater {K : PySem.W.Frag} {E : XK} {t1 t2 : TE} {σ : L2.St} {H : Hp} {r s : Int × Int} (h1 : EvR t1 σ H (PairV K r)) (h2 : EvR t2 σ H (PairV K s)) (br : RB r) (bs : RB s) : EvR (tCall (spGreater K) [] E (tCons t1 (tCons t2 tNil))) σ H (PairV K (greater r s)) := fun H1 e Q q => h1 H1 e _ fun v H2 e2 hv => h2 H2 (e.trans e2) _ fun w H3 e3 hw => by
  obtain ⟨p, rfl, hp⟩ := hv
  obtain ⟨t, rfl, ht⟩ := hw
  exact ⟨p, t, r, s, rfl, ex_t e3 hp, ht, br, bs, fun u H' e' hu => q (.ref u) H' ((e2.trans e3).trans e') ⟨u, rfl, hu⟩⟩
theorem er_pairI {K : PySem.W.Frag} {t1 t2 : TE} {σ : L2.St} {H : Hp} {a b : Int} (h1 : Ev t1 σ H (.int a)) (h2 : Ev t2 σ H (.int b)) : EvR (tTup (tCons t1 (tCons t2 tNil))) σ H (PairV K (a, b)) := er_tupU (eu_tup (vs := [.int a, .int b]) (ea_cons h1 (ea_cons h2 ea_nil)) (by show 2 ≤ 100000; decide)) fun p H1 h => ⟨p, rfl, st_of h⟩
theorem rb_mul {x y d : Int} (h1 : 0 ≤ x ∧ x ≤ 60) (h2 : 0 ≤ y ∧ y ≤ 24) (h3 : 1 ≤ d ∧ d ≤ 24) : RB (x * y, d) := by
  have e1 : x * y ≤ 60 * y := Int.mul_le_mul_of_nonneg_right h1.2 h2.1
  have e0 : 0 ≤ x * y := Int.mul_nonneg h1.1 h2.1
  exact ⟨e0, by show x * y ≤ 1000000; omega, h3.1, by show d ≤ 1000000; omega⟩
structure Acc (rs : List (Int × Int)) (r : Int × Int) : Prop where
  m : MaxP rs r
  b : ∀ x ∈ rs, RB x
theorem Acc.rb {rs : List (Int × Int)} {r : Int × Int} (h : Acc rs r) : RB r := h.b r h.m.mem
theorem Acc.step {rs : List (Int × Int)} {r s : Int × Int} (h : Acc rs r) (hs : RB s) : Acc (rs ++ [s]) (greater r s) := ⟨max_step h.m (fun x hx => by have := (h.b x hx).d0; omega) (by have := hs.d0; omega), fun x hx => by
  rcases List.mem_append.mp hx with h1 | h1
  · exact h.b x h1
  · rw [List.mem_singleton.mp h1]; exact hs⟩
def lnOf (n : Nat) (ss : List Int) (xss : List (List Int)) (m : Nat) : List (Int × Int) := [(0, 1)] ++ (List.range m).map fun g => (ss.getD g 0 * ((n : Int) - ((xss.getD g []).length : Int)), (n : Int))
def spLNo (K : PySem.W.Frag) : Sp := fun vs H Q _ => ∃ (sp tp : Addr) (n : Nat) (ss : List Int) (xss : List (List Int)), vs = [.ref sp, .ref tp, .int (n : Int)] ∧ SqL K H sp (ss.map V.int) ∧ RowsL K H tp xss ∧ ss.length = xss.length ∧ ss.length ≤ 4 ∧ (∀ s ∈ ss, 0 ≤ s ∧ s ≤ 60) ∧ (∀ xs ∈ xss, Asc 0 (n : Int) xs) ∧ (1 ≤ n ∧ n ≤ 24) ∧ ∀ v r H', Ex H H' → PairV K r v H' → Acc (lnOf n ss xss ss.length) r → Q v H' 
theorem ok_u_law_no_look (T : Txt K mg A) : FnOk P w K mg base CX0 3 A.f_u_law_no_look A.d_u_law_no_look (["stakes", "sets", "n"] : List Str) (spLNo K) := by
  refine T.F_u_law_no_look.ok sc_u_law_no_look (fun vs H Q E h => ?_) (fun cdv Ar outer s H vs Q E hr h => ?_)
  · obtain ⟨sp, tp, n, ss, xss, rfl, _⟩ := h
    rfl
  · obtain ⟨sp, tp, n, ss, xss, rfl, hs, hX, hl, h4, hsb, hA, hn, k⟩ := h
    refine ⟨_, (pss_cons (ps_set (i := 3) sc_u_law_no_look.nd rfl (Or.inl rfl) (pe_tup (pa_cons pe_int (pa_cons pe_int pa_nil))))
        (pss_cons (ps_for PassesOwn.never rfl (pi_range1 rfl T.z_range (pa_cons (pe_callB len_K (by rfl) T.z_len (by decide +kernel) (pa_cons (pv 0) pa_nil)) pa_nil)) (pg_name (i := 4) sc_u_law_no_look.nd rfl (Or.inl rfl)) (pss_one (ps_set (i := 3) sc_u_law_no_look.nd rfl (Or.inl rfl) (pe_call (ok_u_law_greater T) (hr.mono (by omega)) rfl T.g_u_law_greater T.k_u_law_greater (b_u_law_greater T) .nil pass0 (pa_cons (pv 3) (pa_cons (pe_tup (pa_cons (pe_op op_mul (pe_ix ix_lK (pv 0) (pv 4) (fun _ _ => rfl)) (pe_op op_sub (pv 2) (pe_callB len_K (by rfl) T.z_len (by decide +kernel) (pa_cons (pe_ix ix_lK (pv 1) (pv 4) (fun _ _ => rfl)) pa_nil)))) (pa_cons (pv 2) pa_nil))) pa_nil))))))
        (pss_one (ps_ret (pv 3))))), ?_⟩
    obtain ⟨vs, hvs, hvl, hall⟩ := hX.all
    try dsimp only
    refine q_asgR (er_pairI (K := K) (a := 0) (b := 1) ev_c ev_c) fun v H1 e1 hv => ?_
    try dsimp only
    refine q_forR1 (j := 4) (n := (ss.length : Int)) (ea_cons (ev_cb (r := rLenK K) (ea_cons (ev_var (i := 0) rfl) ea_nil) fun H2 e2 Q q => ⟨.ref sp, ss.length, rfl, .inl ⟨_, ex_l (e1.trans e2) hs, (List.length_map _).symm⟩, q H2 (Ex.refl H2)⟩) ea_nil) (by omega) (fun i σ' G => ∃ (v4 : Option V) (w : V) (r : Int × Int), σ' = [some (.ref sp), some (.ref tp), some (.int (n : Int)), some w, v4] ∧ Ex H G ∧ PairV K r w G ∧ Acc (lnOf n ss xss i) r) (fun G e => ⟨none, v, (0, 1), rfl, e1.trans e, by obtain ⟨t, z1, z2⟩ := hv; exact ⟨t, z1, ex_t e z2⟩, ⟨max_one, fun x hx => by rw [List.mem_singleton.mp hx]; exact ⟨by decide, by decide, by decide, by decide⟩⟩⟩) ?_ ?_
    · rintro i σ' G hi ⟨v4, w, r, rfl, eG, hw, hM⟩
      have hi : i < ss.length := by omega
      have vi : vs[i]? = some vs[i] := List.getElem?_eq_getElem (by omega)
      obtain ⟨tg, htg, hT⟩ := hall i _ vi
      rw [htg] at vi
      have sb := hsb _ (in_getD (d := 0) hi)
      have xl := (hA _ (in_getD (d := []) (show i < xss.length by omega))).len
      have es : (ss.map V.int)[i]? = some (.int (ss.getD i 0)) := by
        rw [List.getElem?_map, List.getD_eq_getElem?_getD, List.getElem?_eq_getElem hi]
        rfl
      have rb : RB (ss.getD i 0 * ((n : Int) - ((xss.getD i []).length : Int)), (n : Int)) := rb_mul sb (by omega) (by omega)
      have hs1 : Acc (lnOf n ss xss (i + 1)) (greater r (ss.getD i 0 * ((n : Int) - ((xss.getD i []).length : Int)), (n : Int))) := by
        have := hM.step rb
        unfold lnOf at this ⊢
        rw [List.range_succ, List.map_append, ← List.append_assoc]
        exact this
      try dsimp only
      refine s_asgR (er_greater (K := K) (er_ev (ev_var (i := 3) rfl) fun G1 e => by obtain ⟨t, z1, z2⟩ := hw; exact ⟨t, z1, ex_t e z2⟩) (er_pairI (K := K) (ev_op (ev_op (ev_var (i := 0) rfl) (ev_var (i := 4) rfl) (rv_ixL (K := K) (ex_l eG hs) (atI_nat es))) (ev_op (ev_var (i := 2) rfl) (ev_lenR (K := K) (n := (xss.getD i []).length) (er_ev (ev_op (ev_var (i := 1) rfl) (ev_var (i := 4) rfl) (rv_ixL (K := K) (ex_l eG hvs) (atI_nat vi))) fun G1 e => ⟨tg, _, rfl, ex_l (eG.trans e) hT, List.length_map _⟩)) rv_I0) (rv_I (show CMul (ss.getD i 0) _ from .inl ⟨by omega, by omega⟩))) (ev_var (i := 2) rfl)) hM.rb rb) fun v G1 g1 hv => ⟨_, v, _, rfl, eG.trans g1, hv, hs1⟩
    rintro σ' G ⟨v4, w, r, rfl, eG, hw, hM⟩
    rw [Int.toNat_natCast] at hM
    exact s_ret (ev_var (i := 3) rfl) fun G1 g1 => k w r G1 (eG.trans g1) (by obtain ⟨t, z1, z2⟩ := hw; exact ⟨t, z1, ex_t g1 z2⟩) hM

theorem PairV.ex {K : PySem.W.Frag} {r : Int × Int} {v : V} {G G' : Hp} (e : Ex G G') (h : PairV K r v G) : PairV K r v G' := by
  obtain ⟨t, z1, z2⟩ := h
  exact ⟨t, z1, ex_t e z2⟩
theorem er_lno {K : PySem.W.Frag} {E : XK} {t1 t2 t3 : TE} {σ : L2.St} {H : Hp} {sp tp : Addr} {n : Nat} {ss : List Int} {xss : List (List Int)} (h1 : Ev t1 σ H (.ref sp)) (h2 : Ev t2 σ H (.ref tp)) (h3 : Ev t3 σ H (.int (n : Int))) (hs : SqL K H sp (ss.map V.int)) (hX : RowsL K H tp xss) (hl : ss.length = xss.length) (h4 : ss.length ≤ 4) (hsb : ∀ s ∈ ss, 0 ≤ s ∧ s ≤ 60) (hA : ∀ xs ∈ xss, Asc 0 (n : Int) xs) (hn : 1 ≤ n ∧ n ≤ 24) : EvR (tCall (spLNo K) [] E (tCons t1 (tCons t2 (tCons t3 tNil)))) σ H fun v G => ∃ r, PairV K r v G ∧ Acc (lnOf n ss xss ss.length) r := fun H1 e Q q => h1 H1 e _ fun H2 e2 => h2 H2 (e.trans e2) _ fun H3 e3 => h3 H3 ((e.trans e2).trans e3) _ fun H4 e4 => by
  have eA := ((e.trans e2).trans e3).trans e4
  exact ⟨sp, tp, n, ss, xss, rfl, ex_l eA hs, hX.ex eA, hl, h4, hsb, hA, hn, fun v r H' e' hv ha => q v H' (((e2.trans e3).trans e4).trans e') ⟨r, hv, ha⟩⟩
theorem eb_T2 {K : PySem.W.Frag} {ta : TA} {σ : L2.St} {H : Hp} {vs : List V} (h : EvA ta σ H vs) (hl : vs.length ≤ 100000 := by decide) : EvB (tTup ta) σ H fun v G => ∃ p, v = .ref p ∧ SqT K G p vs := ((en_U (eu_tup h hl)).imp fun v G ⟨p, a, b⟩ => ⟨p, a, st_of b⟩).eb
def seenOf (n : Nat) (xs : List Int) (b : Bool) : List Int := hrs (n : Int) fun z => decide (z ∈ xs) == b
def cellV (n : Nat) (ss : List Int) (xss : List (List Int)) (g : Nat) (b : Bool) (f d : Nat) : Int × Int := (ss.getD f 0 * (((seenOf n (xss.getD g []) b).filter fun t => !decide ((t + (d : Int)) % (n : Int) ∈ xss.getD f [])).length : Int), ((seenOf n (xss.getD g []) b).length : Int))
def loCell (n : Nat) (ss : List Int) (xss : List (List Int)) (g : Nat) (b : Bool) (f d : Nat) : List (Int × Int) := if 0 < (seenOf n (xss.getD g []) b).length ∧ (f ≠ g ∨ 0 < d) then [cellV n ss xss g b f d] else []
def loOf (n : Nat) (ss : List Int) (xss : List (List Int)) (m : Nat) : List (Int × Int) := (List.range m).flatMap fun g => [true, false].flatMap fun b => (List.range m).flatMap fun f => (List.range n).flatMap fun d => loCell n ss xss g b f d
theorem flat_step {α β : Type} {base : List β} {f : Nat → List β} {i : Nat} : base ++ (List.range (i + 1)).flatMap f = (base ++ (List.range i).flatMap f) ++ f i := by
  rw [List.range_succ, List.flatMap_append, List.flatMap_singleton, List.append_assoc]
theorem flat_zero {β : Type} {base : List β} {f : Nat → List β} : base ++ (List.range 0).flatMap f = base := by
  rw [List.range_zero, List.flatMap_nil, List.append_nil]
theorem seen_len {n : Nat} {xs : List Int} {b : Bool} : (seenOf n xs b).length ≤ n := by
  have := pick_len (n : Int).toNat (fun h => decide (((h : Nat) : Int) ∈ xs) == b) fun h => (h : Int)
  rw [Int.toNat_natCast] at this
  exact this
theorem cell_rb {n : Nat} {ss : List Int} {xss : List (List Int)} {g : Nat} {b : Bool} {f d : Nat} (hn : n ≤ 24) (hs : 0 ≤ ss.getD f 0 ∧ ss.getD f 0 ≤ 60) (h0 : 0 < (seenOf n (xss.getD g []) b).length) : RB (cellV n ss xss g b f d) := by
  have h1 := seen_len (n := n) (xs := xss.getD g []) (b := b)
  have h2 := List.length_filter_le (fun t => !decide ((t + (d : Int)) % (n : Int) ∈ xss.getD f [])) (seenOf n (xss.getD g []) b)
  exact rb_mul hs (by omega) (by omega)
def spLOne (K : PySem.W.Frag) : Sp := fun vs H Q _ => ∃ (sp tp : Addr) (n : Nat) (ss : List Int) (xss : List (List Int)), vs = [.ref sp, .ref tp, .int (n : Int)] ∧ SqL K H sp (ss.map V.int) ∧ RowsL K H tp xss ∧ ss.length = xss.length ∧ ss.length ≤ 4 ∧ (∀ s ∈ ss, 0 ≤ s ∧ s ≤ 60) ∧ (∀ xs ∈ xss, Asc 0 (n : Int) xs) ∧ (1 ≤ n ∧ n ≤ 24) ∧ ∀ v r H', Ex H H' → PairV K r v H' → Acc (lnOf n ss xss ss.length ++ loOf n ss xss ss.length) r → Q v H' 
theorem ok_u_law_one_look (T : Txt K mg A) : FnOk P w K mg base CX0 4 A.f_u_law_one_look A.d_u_law_one_look (["stakes", "sets", "n"] : List Str) (spLOne K) := by
  refine T.F_u_law_one_look.ok sc_u_law_one_look (fun vs H Q E h => ?_) (fun cdv Ar outer s H vs Q E hr h => ?_)
  · obtain ⟨sp, tp, n, ss, xss, rfl, _⟩ := h
    rfl
  · obtain ⟨sp, tp, n, ss, xss, rfl, hs, hX, hl, h4, hsb, hA, hn, k⟩ := h
    refine ⟨_, (pss_cons (ps_set (i := 3) sc_u_law_one_look.nd rfl (Or.inl rfl) (pe_call (ok_u_law_no_look T) (hr.mono (by omega)) rfl T.g_u_law_no_look T.k_u_law_no_look (b_u_law_no_look T) .nil pass0 (pa_cons (pv 0) (pa_cons (pv 1) (pa_cons (pv 2) pa_nil)))))
        (pss_cons (ps_for PassesOwn.never rfl (pi_range1 rfl T.z_range (pa_cons (pe_callB len_K (by rfl) T.z_len (by decide +kernel) (pa_cons (pv 0) pa_nil)) pa_nil)) (pg_name (i := 4) sc_u_law_one_look.nd rfl (Or.inr rfl)) (pss_one (ps_for PassesOwn.never rfl (pi_tup (pe_tup (pa_cons pe_bl (pa_cons pe_bl pa_nil)))) (pg_name (i := 5) sc_u_law_one_look.nd rfl (Or.inr rfl)) (pss_cons (ps_setLc (i := 6) (own := [("t", 7)]) (g := gName 7) rfl sc_u_law_one_look.nd rfl rfl (sw_true rfl rfl rfl (by decide +kernel)) (pi_range1 rfl T.z_range (pa_cons (pv 2) pa_nil)) (blkOk_by (own := [("t", 7)]) (N := N_u_law_one_look) (sc := defScope s_u_law_one_look) (by decide +kernel)) (fun _ _ _ _ _ => (pg_name (i := 7) sc_u_law_one_look.nd rfl (Or.inl rfl))) (fun _ _ _ _ _ => (pts_one (pt_cmpR op_eq (pe_cmpR in_K (pv 7) (pe_ix ix_lK (pv 1) (pv 4) (fun _ _ => rfl)) (by with_unfolding_all rfl)) (pv 5) (nomark _)))) (fun _ _ _ _ _ => (pv 7)))
        (pss_one (ps_for PassesOwn.never rfl (pi_range1 rfl T.z_range (pa_cons (pe_callB len_K (by rfl) T.z_len (by decide +kernel) (pa_cons (pv 0) pa_nil)) pa_nil)) (pg_name (i := 8) sc_u_law_one_look.nd rfl (Or.inr rfl)) (pss_one (ps_for PassesOwn.never rfl (pi_range1 rfl T.z_range (pa_cons (pv 2) pa_nil)) (pg_name (i := 9) sc_u_law_one_look.nd rfl (Or.inr rfl)) (pss_one (ps_if (PW.pt (pw_and (pt_cmpR op_gt (pe_callB len_K (by rfl) T.z_len (by decide +kernel) (pa_cons (pv 6) pa_nil)) pe_int (nomark _)) (pw_and1 (PW.pt (pw_or (pt_cmpR op_ne (pv 8) (pv 4) (nomark _)) (pw_or1 (pt_cmpR op_gt (pv 9) pe_int (nomark _)))))))) (pss_cons (ps_setLc (i := 10) (own := [("t", 7)]) (g := gName 7) rfl sc_u_law_one_look.nd rfl rfl (sw_true rfl rfl rfl (by decide +kernel)) (pi_listK (pv 6)) (blkOk_by (own := [("t", 7)]) (N := N_u_law_one_look) (sc := defScope s_u_law_one_look) (by decide +kernel)) (fun _ _ _ _ _ => (pg_name (i := 7) sc_u_law_one_look.nd rfl (Or.inl rfl))) (fun _ _ _ _ _ => (pts_one (pt_cmpR notin_K (pe_op op_mod (pe_callTy call_int1 (by rfl) T.z_int (by decide +kernel) (pa_cons (pe_op op_add (pv 7) (pv 9)) pa_nil)) (pv 2)) (pe_ix ix_lK (pv 1) (pv 8) (fun _ _ => rfl)) (by with_unfolding_all rfl)))) (fun _ _ _ _ _ => (pv 7)))
        (pss_one (ps_set (i := 3) sc_u_law_one_look.nd rfl (Or.inl rfl) (pe_call (ok_u_law_greater T) (hr.mono (by omega)) rfl T.g_u_law_greater T.k_u_law_greater (b_u_law_greater T) .nil pass0 (pa_cons (pv 3) (pa_cons (pe_tup (pa_cons (pe_op op_mul (pe_ix ix_lK (pv 0) (pv 8) (fun _ _ => rfl)) (pe_callB len_K (by rfl) T.z_len (by decide +kernel) (pa_cons (pv 10) pa_nil))) (pa_cons (pe_callB len_K (by rfl) T.z_len (by decide +kernel) (pa_cons (pv 6) pa_nil)) pa_nil))) pa_nil)))))) pss_nil))))))))))
        (pss_one (ps_ret (pv 3))))), ?_⟩
    obtain ⟨vs, hvs, hvl, hall⟩ := hX.all
    have row_at : ∀ {i : Nat}, i < ss.length → ∃ t, vs[i]? = some (.ref t) ∧ SqL K H t ((xss.getD i []).map V.int) := fun {i} hi => by
      have vi : vs[i]? = some vs[i] := List.getElem?_eq_getElem (by omega)
      obtain ⟨t, ht, hT⟩ := hall i _ vi
      exact ⟨t, by rw [vi, ht], hT⟩
    have lenS : ∀ {σ : L2.St} {G : Hp}, σ[0]? = some (some (.ref sp)) → Ex H G → EvA (tCons (tCB (rLenK K) (tCons (tVar 0) tNil)) tNil) σ G [.int (ss.length : Int)] := fun h e => ea_cons (ev_cb (r := rLenK K) (ea_cons (ev_var h) ea_nil) fun H2 e2 Q q => ⟨.ref sp, ss.length, rfl, .inl ⟨_, ex_l (e.trans e2) hs, (List.length_map _).symm⟩, q H2 (Ex.refl H2)⟩) ea_nil
    have npos : (0 : Int) < (n : Int) := by omega
    try dsimp only
    refine q_asgR (er_lno (K := K) (ev_var (i := 0) rfl) (ev_var (i := 1) rfl) (ev_var (i := 2) rfl) hs hX hl h4 hsb hA hn) fun v H1 e1 hv => ?_
    obtain ⟨r0, hv0, hA0⟩ := hv
    generalize hbase : lnOf n ss xss ss.length = base at *
    try dsimp only
    refine q_forR1 (j := 4) (n := (ss.length : Int)) (lenS rfl e1) (by omega) (fun i σ' G => ∃ (w : V) (r : Int × Int) (v4 v5 v6 v8 v9 v10 : Option V), σ' = [some (.ref sp), some (.ref tp), some (.int (n : Int)), some w, v4, v5, v6, none, v8, v9, v10] ∧ Ex H G ∧ PairV K r w G ∧ Acc (base ++ (List.range i).flatMap fun g => [true, false].flatMap fun b => (List.range ss.length).flatMap fun f => (List.range n).flatMap fun d => loCell n ss xss g b f d) r) (fun G e => ⟨v, r0, _, _, _, _, _, _, rfl, e1.trans e, hv0.ex e, by rw [flat_zero]; exact hA0⟩) ?_ ?_
    · rintro i σ' G hi ⟨w, r, v4, v5, v6, v8, v9, v10, rfl, eG, hw, hM⟩
      have hi : i < ss.length := by omega
      obtain ⟨tg, vi, hT⟩ := row_at hi
      rw [flat_step (α := Nat)]
      generalize (base ++ (List.range i).flatMap fun g => [true, false].flatMap fun b => (List.range ss.length).flatMap fun f => (List.range n).flatMap fun d => loCell n ss xss g b f d) = base1 at *
      try dsimp only
      refine s_forI (ei_tup (K := K) (xs := [V.bl true, V.bl false]) (eb_T2 (K := K) (ea_cons ev_c (ea_cons ev_c ea_nil)))) fun G2 g2 => ⟨fun j σ' F => ∃ (w : V) (r : Int × Int) (v5 v6 v8 v9 v10 : Option V), σ' = [some (.ref sp), some (.ref tp), some (.int (n : Int)), some w, some (.int (i : Int)), v5, v6, none, v8, v9, v10] ∧ Ex G2 F ∧ PairV K r w F ∧ Acc (base1 ++ ([true, false].take j).flatMap fun b => (List.range ss.length).flatMap fun f => (List.range n).flatMap fun d => loCell n ss xss i b f d) r, ⟨w, r, _, _, _, _, _, rfl, Ex.refl _, hw.ex g2, by rw [List.take_zero, List.flatMap_nil, List.append_nil]; exact hM⟩, fun j σ' F _ ⟨_, _, _, _, _, _, _, _, e, _⟩ => e, ?_, ?_⟩
      · rintro j y σ' F F' hj ⟨w, r, v5, v6, v8, v9, v10, rfl, eF, hw, hM⟩ ⟨rfl, hy⟩
        obtain ⟨b, rfl, hb⟩ : ∃ b : Bool, y = .bl b ∧ [true, false].take (j + 1) = [true, false].take j ++ [b] := by
          have : j = 0 ∨ j = 1 := by
            have hj : j < 2 := hj
            omega
          rcases this with rfl | rfl
          · exact ⟨true, (Option.some.inj hy).symm, rfl⟩
          · exact ⟨false, (Option.some.inj hy).symm, rfl⟩
        dsimp only [gName]
        rw [hb, List.flatMap_append, List.flatMap_singleton, ← List.append_assoc]
        clear hb hy
        generalize (base1 ++ ([true, false].take j).flatMap fun b => (List.range ss.length).flatMap fun f => (List.range n).flatMap fun d => loCell n ss xss i b f d) = base2 at *
        have eF0 := eG.trans (g2.trans eF)
        try dsimp only
        refine q_asgL (xs := (seenOf n (xss.getD i []) b).map V.int) (el_marks (K := K) (fun z => decide (z ∈ xss.getD i []) == b) (ea_cons (ev_var (i := 2) rfl) ea_nil) (by omega) (fun x => rfl) (fun z F1 f1 z0 z1 => et_test (ev_is (ev_op (ev_op (ev_var (i := 7) rfl) (ev_op (ev_var (i := 1) rfl) (ev_var (i := 4) rfl) (rv_ixL (K := K) (ex_l (eF0.trans f1) hvs) (atI_nat vi))) (rv_inI (K := K) (ex_l (eF0.trans f1) hT))) (ev_var (i := 5) rfl) (rv_eq rfl)) (by rw [dec_bb]; rfl))) (fun z F1 => ev_var (i := 7) rfl)) fun sq F1 hsq f1 hseen => ?_
        have sl := seen_len (n := n) (xs := xss.getD i []) (b := b)
        have eF1 := eF0.trans f1
        have lenQ : ∀ {σ : L2.St} {G : Hp}, σ[6]? = some (some (.ref sq)) → Ex F1 G → Ev (tCB (rLenK K) (tCons (tVar 6) tNil)) σ G (.int ((seenOf n (xss.getD i []) b).length : Int)) := fun h e => ev_cb (r := rLenK K) (ea_cons (ev_var h) ea_nil) fun H2 e2 Q q => ⟨.ref sq, _, rfl, .inl ⟨_, sq_of ((e.trans e2) _ _ hseen), (List.length_map _).symm⟩, q H2 (Ex.refl H2)⟩
        try dsimp only
        refine s_forR1 (j := 8) (n := (ss.length : Int)) (lenS rfl eF1) (by omega) (fun f σ' X => ∃ (w : V) (r : Int × Int) (v8 v9 v10 : Option V), σ' = [some (.ref sp), some (.ref tp), some (.int (n : Int)), some w, some (.int (i : Int)), some (.bl b), some (.ref sq), none, v8, v9, v10] ∧ Ex F1 X ∧ PairV K r w X ∧ Acc (base2 ++ (List.range f).flatMap fun f => (List.range n).flatMap fun d => loCell n ss xss i b f d) r) (fun X e => ⟨w, r, _, _, _, rfl, e, hw.ex (f1.trans e), by rw [flat_zero]; exact hM⟩) ?_ ?_
        · rintro f σ' X hf ⟨w, r, v8, v9, v10, rfl, eX, hw, hM⟩
          have hf : f < ss.length := by omega
          obtain ⟨tf, vf, hTf⟩ := row_at hf
          rw [flat_step (α := Nat)]
          generalize (base2 ++ (List.range f).flatMap fun f => (List.range n).flatMap fun d => loCell n ss xss i b f d) = base3 at *
          try dsimp only
          refine s_forR1 (j := 9) (n := (n : Int)) (ea_cons (ev_var (i := 2) rfl) ea_nil) (by omega) (fun d σ' Y => ∃ (w : V) (r : Int × Int) (v9 v10 : Option V), σ' = [some (.ref sp), some (.ref tp), some (.int (n : Int)), some w, some (.int (i : Int)), some (.bl b), some (.ref sq), none, some (.int (f : Int)), v9, v10] ∧ Ex X Y ∧ PairV K r w Y ∧ Acc (base3 ++ (List.range d).flatMap fun d => loCell n ss xss i b f d) r) (fun Y e => ⟨w, r, _, _, rfl, e, hw.ex e, by rw [flat_zero]; exact hM⟩) ?_ ?_
          · rintro d σ' Y hd ⟨w, r, v9, v10, rfl, eY, hw, hM⟩
            rw [flat_step (α := Nat)]
            generalize (base3 ++ (List.range d).flatMap fun d => loCell n ss xss i b f d) = base4 at *
            have eY0 := eF1.trans (eX.trans eY)
            have eqc : (decide (0 < ((seenOf n (xss.getD i []) b).length : Int)) && (!decide ((f : Int) = (i : Int)) || decide (0 < (d : Int)))) = decide (0 < (seenOf n (xss.getD i []) b).length ∧ (f ≠ i ∨ 0 < d)) := by
              rw [Bool.eq_iff_iff]
              simp
              omega
            try dsimp only
            refine s_when (b := decide (0 < (seenOf n (xss.getD i []) b).length ∧ (f ≠ i ∨ 0 < d))) (et_is (et_and (et_test (ev_op (lenQ rfl (eX.trans eY)) ev_c rv_I0)) fun _ => et_or (et_test (ev_is (ev_op (ev_var (i := 8) rfl) (ev_var (i := 4) rfl) (rv_ne rfl)) (by rw [dec_ii]))) fun _ => et_test (ev_op (ev_var (i := 9) rfl) ev_c rv_I0)) eqc) (fun hb Z z => ?_) (fun hb Z z => ?_)
            · have hb := of_decide_eq_true hb
              have rb : RB (cellV n ss xss i b f d) := cell_rb hn.2 (hsb _ (in_getD (d := 0) hf)) hb.1
              have sbf := hsb _ (in_getD (d := 0) hf)
              have es : (ss.map V.int)[f]? = some (.int (ss.getD f 0)) := by
                rw [List.getElem?_map, List.getD_eq_getElem?_getD, List.getElem?_eq_getElem hf]
                rfl
              unfold loCell
              rw [if_pos hb]
              have eZ := eY0.trans z
              try dsimp only
              refine q_asgL (xs := ((seenOf n (xss.getD i []) b).filter fun t => !decide ((t + (d : Int)) % (n : Int) ∈ xss.getD f [])).map V.int) (el_lst1 (K := K) (seenOf n (xss.getD i []) b) (fun t => !decide ((t + (d : Int)) % (n : Int) ∈ xss.getD f [])) (ev_var (i := 6) rfl) (sq_of (((eX.trans eY).trans z) _ _ hseen)) (by omega) (fun x => rfl) (fun t Z1 z1 ht => et_test (ev_op (ev_op (ev_int (ev_op (ev_var (i := 7) rfl) (ev_var (i := 9) rfl) rv_I0)) (ev_var (i := 2) rfl) (rv_I npos)) (ev_op (ev_var (i := 1) rfl) (ev_var (i := 8) rfl) (rv_ixL (K := K) (ex_l (eZ.trans z1) hvs) (atI_nat vf))) (rv_niI (K := K) (ex_l (eZ.trans z1) hTf)))) (fun t Z1 z1 ht => ev_var (i := 7) rfl)) fun mq Z1 hmq z1 hem => ?_
              have eZ1 := eZ.trans z1
              try dsimp only
              exact s_asgR (er_greater (K := K) (s := cellV n ss xss i b f d) (er_ev (ev_var (i := 3) rfl) fun G1 e => hw.ex ((z.trans z1).trans e)) (er_pairI (K := K) (ev_op (ev_op (ev_var (i := 0) rfl) (ev_var (i := 8) rfl) (rv_ixL (K := K) (ex_l eZ1 hs) (atI_nat es))) (ev_cb (r := rLenK K) (ea_cons (ev_var (i := 10) rfl) ea_nil) fun H2 e2 Q q => ⟨.ref mq, _, rfl, .inl ⟨_, sq_of (e2 _ _ hem), (List.length_map _).symm⟩, q H2 (Ex.refl H2)⟩) (rv_I (show CMul (ss.getD f 0) _ from .inl ⟨by omega, by omega⟩))) (lenQ rfl ((eX.trans eY).trans (z.trans z1)))) hM.rb rb) fun v Z2 z2 hv => ⟨v, _, _, _, rfl, eY.trans ((z.trans z1).trans z2), hv, hM.step rb⟩
            · have hb := of_decide_eq_false hb
              unfold loCell
              rw [if_neg hb, List.append_nil]
              exact ⟨w, r, _, _, rfl, eY.trans z, hw.ex z, hM⟩
          · rintro σ' Y ⟨w, r, v9, v10, rfl, eY, hw, hM⟩
            rw [Int.toNat_natCast] at hM
            exact ⟨w, r, _, _, _, rfl, eX.trans eY, hw, hM⟩
        · rintro σ' X ⟨w, r, v8, v9, v10, rfl, eX, hw, hM⟩
          rw [Int.toNat_natCast] at hM
          exact ⟨w, r, _, _, _, _, _, rfl, eF.trans (f1.trans eX), hw, hM⟩
      · rintro σ' F ⟨w, r, v5, v6, v8, v9, v10, rfl, eF, hw, hM⟩
        exact ⟨w, r, _, _, _, _, _, _, rfl, eG.trans (g2.trans eF), hw, hM⟩
    rintro σ' G ⟨w, r, v4, v5, v6, v8, v9, v10, rfl, eG, hw, hM⟩
    rw [Int.toNat_natCast] at hM
    exact s_ret (ev_var (i := 3) rfl) fun G1 g1 => k w r G1 (eG.trans g1) (hw.ex g1) hM

theorem er_lone {K : PySem.W.Frag} {E : XK} {t1 t2 t3 : TE} {σ : L2.St} {H : Hp} {sp tp : Addr} {n : Nat} {ss : List Int} {xss : List (List Int)} (h1 : Ev t1 σ H (.ref sp)) (h2 : Ev t2 σ H (.ref tp)) (h3 : Ev t3 σ H (.int (n : Int))) (hs : SqL K H sp (ss.map V.int)) (hX : RowsL K H tp xss) (hl : ss.length = xss.length) (h4 : ss.length ≤ 4) (hsb : ∀ s ∈ ss, 0 ≤ s ∧ s ≤ 60) (hA : ∀ xs ∈ xss, Asc 0 (n : Int) xs) (hn : 1 ≤ n ∧ n ≤ 24) : EvR (tCall (spLOne K) [] E (tCons t1 (tCons t2 (tCons t3 tNil)))) σ H fun v G => ∃ r, PairV K r v G ∧ Acc (lnOf n ss xss ss.length ++ loOf n ss xss ss.length) r := fun H1 e Q q => h1 H1 e _ fun H2 e2 => h2 H2 (e.trans e2) _ fun H3 e3 => h3 H3 ((e.trans e2).trans e3) _ fun H4 e4 => by
  have eA := ((e.trans e2).trans e3).trans e4
  exact ⟨sp, tp, n, ss, xss, rfl, ex_l eA hs, hX.ex eA, hl, h4, hsb, hA, hn, fun v r H' e' hv ha => q v H' (((e2.trans e3).trans e4).trans e') ⟨r, hv, ha⟩⟩
theorem max_eq {rs ks : List (Int × Int)} {r s : Int × Int} (h : MaxP rs r) (g : MaxP ks s) (hp : ∀ x ∈ rs, 0 < x.2) (kp : ∀ x ∈ ks, 0 < x.2) (a : ∀ x ∈ rs, ∃ y ∈ ks, leQ x y) (b : ∀ x ∈ ks, ∃ y ∈ rs, leQ x y) : r.1 * s.2 = s.1 * r.2 := by
  obtain ⟨y, hy, h1⟩ := a r h.mem
  obtain ⟨z, hz, h2⟩ := b s g.mem
  have u1 := leQ.trans (hp r h.mem) (kp y hy) (kp s g.mem) h1 (g.le y hy)
  have u2 := leQ.trans (kp s g.mem) (hp z hz) (hp r h.mem) h2 (h.le z hz)
  exact Int.le_antisymm u1 u2
theorem ln_nl {n : Nat} {ss : List Int} {xss : List (List Int)} (hl : ss.length = xss.length) (hA : ∀ xs ∈ xss, Asc 0 (n : Int) xs) : lnOf n ss xss ss.length = [(0, 1)] ++ nlOf n ss xss := by
  unfold lnOf nlOf
  congr 1
  refine List.map_congr_left fun g hg => ?_
  have hg := List.mem_range.mp hg
  rw [co_len (by omega) (hA _ (in_getD (d := []) (show g < xss.length by omega)))]
theorem mem_cnt_drop {n : Nat} {xs ys : List Int} {k : Nat} {c : Int} : c ∈ (cnt (n : Int) xs ys).drop k ↔ ∃ d, k ≤ d ∧ d < n ∧ c = ((ys.filter fun y => decide ((y + (d : Int)) % (n : Int) ∈ xs)).length : Int) := by
  unfold cnt
  rw [Int.toNat_natCast, List.mem_iff_getElem?]
  constructor
  · rintro ⟨i, hi⟩
    rw [List.getElem?_drop, List.getElem?_map] at hi
    by_cases c : k + i < n
    · rw [List.getElem?_range c] at hi; cases hi; exact ⟨k + i, by omega, c, rfl⟩
    · rw [List.getElem?_eq_none (by rw [List.length_range]; omega)] at hi; cases hi
  · rintro ⟨d, h1, h2, rfl⟩
    exact ⟨d - k, by rw [List.getElem?_drop, List.getElem?_map, show k + (d - k) = d by omega, List.getElem?_range h2]; rfl⟩
theorem seen_T {n : Nat} {xs : List Int} (h : Asc 0 (n : Int) xs) : seenOf n xs true = xs := by
  unfold seenOf
  rw [show (fun z : Int => decide (z ∈ xs) == true) = fun z => decide (z ∈ xs) from funext fun z => by simp]
  exact hrs_self (by omega) h
theorem seen_F {n : Nat} {xs : List Int} : seenOf n xs false = co (n : Int) xs := by
  unfold seenOf co
  congr 1
  exact funext fun z => by simp
theorem mem_row {n : Nat} {ss : List Int} {xss : List (List Int)} {g f : Nat} {x : Int × Int} (hn : 1 ≤ n) (hg : Asc 0 (n : Int) (xss.getD g [])) : x ∈ olRow n ss xss g f ↔ ∃ b d, d < n ∧ x ∈ loCell n ss xss g b f d := by
  have npos : (0 : Int) < (n : Int) := by omega
  have hT := seen_T hg
  have hF := seen_F (n := n) (xs := xss.getD g [])
  have cut : ∀ d : Nat, ((if f = g then 1 else 0 : Nat) ≤ d) ↔ (f ≠ g ∨ 0 < d) := fun d => by
    by_cases c : f = g
    · rw [if_pos c]; omega
    · rw [if_neg c]; omega
  have inF : ∀ (t : Int) (d : Nat), decide ((t + (d : Int)) % (n : Int) ∈ co (n : Int) (xss.getD f [])) = !decide ((t + (d : Int)) % (n : Int) ∈ xss.getD f []) := fun t d => by
    have m0 := Int.emod_nonneg (t + (d : Int)) (b := (n : Int)) (by omega)
    have m1 := Int.emod_lt_of_pos (t + (d : Int)) npos
    unfold co
    rw [Bool.eq_iff_iff, decide_eq_true_iff, mem_hrs]
    exact ⟨fun h => h.2, fun h => ⟨⟨m0, m1⟩, h⟩⟩
  unfold olRow meansOf
  constructor
  · intro hx
    obtain ⟨r, hr, rfl⟩ := List.mem_map.mp hx
    rcases List.mem_append.mp hr with h | h
    · split at h
      · rename_i h0
        obtain ⟨c, hc, rfl⟩ := List.mem_map.mp h
        obtain ⟨d, d1, d2, rfl⟩ := mem_cnt_drop.mp hc
        refine ⟨true, d, d2, ?_⟩
        unfold loCell
        rw [if_pos ⟨by rw [hT]; exact h0, (cut d).mp d1⟩, List.mem_singleton]
        unfold cellV
        rw [hT]
        have tw := filt_two (fun y => decide ((y + (d : Int)) % (n : Int) ∈ xss.getD f [])) (xss.getD g [])
        refine Prod.ext ?_ (Int.mul_one _)
        show (((xss.getD g []).length : Int) - _) * ss.getD f 0 = ss.getD f 0 * _
        rw [Int.mul_comm]
        congr 1
        omega
      · cases h
    · split at h
      · rename_i h0
        obtain ⟨c, hc, rfl⟩ := List.mem_map.mp h
        obtain ⟨d, d1, d2, rfl⟩ := mem_cnt_drop.mp hc
        refine ⟨false, d, d2, ?_⟩
        unfold loCell
        rw [if_pos ⟨by rw [hF]; exact h0, (cut d).mp d1⟩, List.mem_singleton]
        unfold cellV
        rw [hF]
        refine Prod.ext ?_ (Int.mul_one _)
        show _ * ss.getD f 0 = ss.getD f 0 * _
        rw [Int.mul_comm, List.filter_congr fun t _ => inF t d]
      · cases h
  · rintro ⟨b, d, d2, hx⟩
    unfold loCell at hx
    split at hx
    · rename_i h0
      rw [List.mem_singleton] at hx
      subst hx
      cases b with
      | true =>
        rw [hT] at h0
        refine List.mem_map.mpr ⟨((((xss.getD g []).length : Int) - (((xss.getD g []).filter fun y => decide ((y + (d : Int)) % (n : Int) ∈ xss.getD f [])).length : Int)), ((xss.getD g []).length : Int)), List.mem_append_left _ ?_, ?_⟩
        · rw [if_pos h0.1]
          exact List.mem_map.mpr ⟨_, mem_cnt_drop.mpr ⟨d, (cut d).mpr h0.2, d2, rfl⟩, rfl⟩
        · unfold cellV
          rw [hT]
          have tw := filt_two (fun y => decide ((y + (d : Int)) % (n : Int) ∈ xss.getD f [])) (xss.getD g [])
          refine Prod.ext ?_ (Int.mul_one _)
          show (((xss.getD g []).length : Int) - _) * ss.getD f 0 = ss.getD f 0 * _
          rw [Int.mul_comm]
          congr 1
          omega
      | false =>
        rw [hF] at h0
        refine List.mem_map.mpr ⟨((((co (n : Int) (xss.getD g [])).filter fun y => decide ((y + (d : Int)) % (n : Int) ∈ co (n : Int) (xss.getD f []))).length : Int), ((co (n : Int) (xss.getD g [])).length : Int)), List.mem_append_right _ ?_, ?_⟩
        · rw [if_pos h0.1]
          exact List.mem_map.mpr ⟨_, mem_cnt_drop.mpr ⟨d, (cut d).mpr h0.2, d2, rfl⟩, rfl⟩
        · unfold cellV
          rw [hF]
          refine Prod.ext ?_ (Int.mul_one _)
          show _ * ss.getD f 0 = ss.getD f 0 * _
          rw [Int.mul_comm, List.filter_congr fun t _ => inF t d]
    · cases hx
theorem mem_ol {n : Nat} {ss : List Int} {xss : List (List Int)} {x : Int × Int} (hl : ss.length = xss.length) (hn : 1 ≤ n) (hA : ∀ xs ∈ xss, Asc 0 (n : Int) xs) : x ∈ olOf n ss xss ↔ x ∈ loOf n ss xss ss.length := by
  unfold olOf loOf
  rw [hl]
  simp only [List.mem_flatMap, List.mem_range]
  constructor
  · rintro ⟨g, hg, f, hf, hx⟩
    obtain ⟨b, d, hd, hx⟩ := (mem_row hn (hA _ (in_getD (d := []) hg))).mp hx
    exact ⟨g, hg, b, by cases b <;> simp, f, hf, d, hd, hx⟩
  · rintro ⟨g, hg, b, _, f, hf, d, hd, hx⟩
    exact ⟨g, hg, f, hf, (mem_row hn (hA _ (in_getD (d := []) hg))).mpr ⟨b, d, hd, hx⟩⟩
theorem rb_pos {rs : List (Int × Int)} (h : ∀ x ∈ rs, RB x) : ∀ x ∈ rs, 0 < x.2 := fun x hx => by have := (h x hx).d0; omega
theorem zero_le {r : Int × Int} (h : RB r) : leQ (0, 1) r := by
  have := h.n0
  show (0 : Int) * r.2 ≤ r.1 * 1
  omega
theorem no_eq {n : Nat} {ss : List Int} {xss : List (List Int)} {r s : Int × Int} (hl : ss.length = xss.length) (h0 : 0 < ss.length) (hn : 1 ≤ n ∧ n ≤ 24) (hsb : ∀ s ∈ ss, 0 ≤ s ∧ s ≤ 60) (hA : ∀ xs ∈ xss, Asc 0 (n : Int) xs) (h : MaxP (nlOf n ss xss) r) (g : Acc (lnOf n ss xss ss.length) s) : r.1 * s.2 = s.1 * r.2 := by
  have hb := nl_rb (xss := xss) hn hsb
  obtain ⟨g1, g2⟩ := g
  rw [ln_nl hl hA] at g1 g2
  refine max_eq h g1 (rb_pos hb) (rb_pos g2) (fun x hx => ⟨x, List.mem_append_right _ hx, leQ.rfl'⟩) fun x hx => ?_
  rcases List.mem_append.mp hx with h1 | h1
  · rw [List.mem_singleton.mp h1]
    exact ⟨r, h.mem, zero_le (hb r h.mem)⟩
  · exact ⟨x, h1, leQ.rfl'⟩
theorem one_eq {n : Nat} {ss : List Int} {xss : List (List Int)} {r0 r s : Int × Int} (hl : ss.length = xss.length) (h0 : 0 < ss.length) (hn : 1 ≤ n ∧ n ≤ 24) (hsb : ∀ s ∈ ss, 0 ≤ s ∧ s ≤ 60) (hA : ∀ xs ∈ xss, Asc 0 (n : Int) xs) (hM0 : MaxP (nlOf n ss xss) r0) (h : MaxP ([r0] ++ olOf n ss xss) r) (g : Acc (lnOf n ss xss ss.length ++ loOf n ss xss ss.length) s) : RB r ∧ r.1 * s.2 = s.1 * r.2 := by
  have hb := nl_rb (xss := xss) hn hsb
  have hx24 : ∀ xs ∈ xss, xs.length ≤ 24 := fun xs hx => by have := (hA xs hx).len; omega
  have hob := ol_rb (ss := ss) hn hsb hl hx24
  have hall : ∀ x ∈ [r0] ++ olOf n ss xss, RB x := fun x hx => by
    rcases List.mem_append.mp hx with h1 | h1
    · rw [List.mem_singleton.mp h1]; exact hb _ hM0.mem
    · exact hob x h1
  obtain ⟨g1, g2⟩ := g
  refine ⟨hall r h.mem, ?_⟩
  rw [ln_nl hl hA] at g1 g2
  refine max_eq h g1 (rb_pos hall) (rb_pos g2) (fun x hx => ?_) fun x hx => ?_
  · rcases List.mem_append.mp hx with h1 | h1
    · rw [List.mem_singleton.mp h1]
      exact ⟨r0, List.mem_append_left _ (List.mem_append_right _ hM0.mem), leQ.rfl'⟩
    · exact ⟨x, List.mem_append_right _ ((mem_ol hl hn.1 hA).mp h1), leQ.rfl'⟩
  · rcases List.mem_append.mp hx with h1 | h1
    · refine ⟨r0, List.mem_append_left _ List.mem_cons_self, ?_⟩
      rcases List.mem_append.mp h1 with h2 | h2
      · rw [List.mem_singleton.mp h2]
        exact zero_le (hb _ hM0.mem)
      · exact hM0.le x h2
    · exact ⟨x, List.mem_append_right _ ((mem_ol hl hn.1 hA).mpr h1), leQ.rfl'⟩
theorem snd_id {n : Nat} {xss : List (List Int)} : ((xss.map fun xs => ((n : Int), xs)).map fun l => l.2) = xss := by
  rw [List.map_map]
  exact List.map_id' _
theorem er_noLook {K : PySem.W.Frag} {A : Ads} {E : XK} {t1 t2 : TE} {σ : L2.St} {H : Hp} {hv : V} {p : Addr} {n : Nat} {gs : List (Str × Int)} {xss : List (List Int)} (h1 : Ev t1 σ H hv) (h2 : Ev t2 σ H (.ref p)) (hh : HouseIs A.C_House hv H (n : Int) gs) (hm : 1 ≤ gs.length ∧ gs.length ≤ 4) (hst : ∀ g ∈ gs, 0 ≤ g.2 ∧ g.2 ≤ 60) (hn : 1 ≤ n ∧ n ≤ 24) (hL : LotsL K A H p (xss.map fun xs => ((n : Int), xs))) (hl : xss.length = gs.length) : EvR (tCall (spNoLook K A) [] E (tCons t1 (tCons t2 tNil))) σ H fun v G => ∃ r : Int × Int, IsRt A v G r.1 r.2 ∧ MaxP (nlOf n (gs.map (·.2)) xss) r := fun H1 e Q q => h1 H1 e _ fun H2 e2 => h2 H2 (e.trans e2) _ fun H3 e3 => by
  have eA := (e.trans e2).trans e3
  exact ⟨hv, p, n, gs, _, rfl, hh.ex eA, hm, hst, hn, hL.ex eA, fun hc => absurd (by rw [List.length_map, hl]) hc, fun _ ⟨l, m1, m2⟩ => by obtain ⟨xs, _, rfl⟩ := List.mem_map.mp m1; exact absurd rfl m2, fun _ _ v r H' e' hr hM => q v H' ((e2.trans e3).trans e') ⟨r, hr, by rw [← snd_id (n := n) (xss := xss)]; exact hM⟩⟩
theorem er_oneLook {K : PySem.W.Frag} {A : Ads} {E : XK} {t1 t2 : TE} {σ : L2.St} {H : Hp} {hv : V} {p : Addr} {n : Nat} {gs : List (Str × Int)} {xss : List (List Int)} (h1 : Ev t1 σ H hv) (h2 : Ev t2 σ H (.ref p)) (hh : HouseIs A.C_House hv H (n : Int) gs) (hm : 1 ≤ gs.length ∧ gs.length ≤ 4) (hst : ∀ g ∈ gs, 0 ≤ g.2 ∧ g.2 ≤ 60) (hn : 1 ≤ n ∧ n ≤ 24) (hL : LotsL K A H p (xss.map fun xs => ((n : Int), xs))) (hl : xss.length = gs.length) : EvR (tCall (spOneLook K A) [] E (tCons t1 (tCons t2 tNil))) σ H fun v G => ∃ r0 r : Int × Int, IsRt A v G r.1 r.2 ∧ MaxP (nlOf n (gs.map (·.2)) xss) r0 ∧ MaxP ([r0] ++ olOf n (gs.map (·.2)) xss) r := fun H1 e Q q => h1 H1 e _ fun H2 e2 => h2 H2 (e.trans e2) _ fun H3 e3 => by
  have eA := (e.trans e2).trans e3
  exact ⟨hv, p, n, gs, _, rfl, hh.ex eA, hm, hst, hn, hL.ex eA, fun hc => absurd (by rw [List.length_map, hl]) hc, fun _ ⟨l, m1, m2⟩ => by obtain ⟨xs, _, rfl⟩ := List.mem_map.mp m1; exact absurd rfl m2, fun _ _ v r0 r H' e' hr hM0 hM => q v H' ((e2.trans e3).trans e') ⟨r0, r, hr, by rw [← snd_id (n := n) (xss := xss)]; exact hM0, by rw [← snd_id (n := n) (xss := xss)]; exact hM⟩⟩
theorem big_ok {z : Int} (h : 0 ≤ z ∧ z ≤ 1000000) : z.natAbs < 2 ^ 4000 := Nat.lt_of_lt_of_le (show z.natAbs < 2 ^ 20 by show z.natAbs < 1048576; omega) (Nat.pow_le_pow_right (by decide) (by decide))
def spTold (K : PySem.W.Frag) (A : Ads) : Sp := fun vs H Q _ => ∃ (hv : V) (p sp tp : Addr) (n : Nat) (gs : List (Str × Int)) (xss : List (List Int)), vs = [hv, .ref p, .ref sp, .ref tp] ∧ HouseIs A.C_House hv H (n : Int) gs ∧ (1 ≤ gs.length ∧ gs.length ≤ 4) ∧ (∀ g ∈ gs, 0 ≤ g.2 ∧ g.2 ≤ 60) ∧ (1 ≤ n ∧ n ≤ 24) ∧ LotsL K A H p (xss.map fun xs => ((n : Int), xs)) ∧ xss.length = gs.length ∧ SqL K H sp ((gs.map (·.2)).map V.int) ∧ RowsL K H tp xss ∧ (∀ xs ∈ xss, Asc 0 (n : Int) xs) ∧ ∀ H', Ex H H' → Q (.bl true) H' 
theorem ok_u_law_told (T : Txt K mg A) : FnOk P w K mg base CX0 15 A.f_u_law_told A.d_u_law_told (["house", "lots", "stakes", "sets"] : List Str) (spTold K A) := by
  refine T.F_u_law_told.ok sc_u_law_told (fun vs H Q E h => ?_) (fun cdv Ar outer s H vs Q E hr h => ?_)
  · obtain ⟨hv, p, sp, tp, n, gs, xss, rfl, _⟩ := h
    rfl
  · obtain ⟨hv, p, sp, tp, n, gs, xss, rfl, hh, hm, hst, hn, hL, hl, hs, hX, hA, k⟩ := h
    refine ⟨_, (pss_cons (ps_set (i := 4) sc_u_law_told.nd rfl (Or.inl rfl) (pe_fldK (pv 0) rfl))
        (pss_cons (ps_set (i := 5) sc_u_law_told.nd rfl (Or.inl rfl) (pe_call (ok_u_law_no_look T) (hr.mono (by omega)) rfl T.g_u_law_no_look T.k_u_law_no_look (b_u_law_no_look T) .nil pass0 (pa_cons (pv 2) (pa_cons (pv 3) (pa_cons (pv 4) pa_nil)))))
        (pss_cons (ps_set (i := 6) sc_u_law_told.nd rfl (Or.inl rfl) (pe_call (ok_u_law_one_look T) (hr.mono (by omega)) rfl T.g_u_law_one_look T.k_u_law_one_look (b_u_law_one_look T) .nil pass0 (pa_cons (pv 2) (pa_cons (pv 3) (pa_cons (pv 4) pa_nil)))))
        (pss_cons (ps_if (pt_not (pt_val (pe_call (ok_u_law_worth T) (hr.mono (by omega)) rfl T.g_u_law_worth T.k_u_law_worth (b_u_law_worth T) .nil pass0 (pa_cons (pe_call (ok_no_look_bound T) (hr.mono (by omega)) rfl T.g_no_look_bound T.k_no_look_bound (b_no_look_bound T) .nil passL (pa_cons (pv 0) (pa_cons (pv 1) pa_nil))) (pa_cons (pe_ix ix_tK (pv 5) pe_int (fun _ _ => rfl)) (pa_cons (pe_ix ix_tK (pv 5) pe_int (fun _ _ => rfl)) pa_nil)))))) (pss_one (ps_ret pe_bl)) pss_nil)
        (pss_one (ps_ret (pe_call (ok_u_law_worth T) (hr.mono (by omega)) rfl T.g_u_law_worth T.k_u_law_worth (b_u_law_worth T) .nil pass0 (pa_cons (pe_call (ok_one_look_bound T) (hr.mono (by omega)) rfl T.g_one_look_bound T.k_one_look_bound (b_one_look_bound T) .nil passL (pa_cons (pv 0) (pa_cons (pv 1) pa_nil))) (pa_cons (pe_ix ix_tK (pv 6) pe_int (fun _ _ => rfl)) (pa_cons (pe_ix ix_tK (pv 6) pe_int (fun _ _ => rfl)) pa_nil)))))))))), ?_⟩
    obtain ⟨a3, dx3, p3, q3, rfl, h5, h6, h7⟩ := id hh
    have sl : (gs.map (·.2)).length = gs.length := List.length_map _
    have stb : ∀ s ∈ gs.map (·.2), 0 ≤ s ∧ s ≤ 60 := fun s hs => by
      obtain ⟨g, hg, rfl⟩ := List.mem_map.mp hs
      exact hst g hg
    try dsimp only
    refine q_asg (v := .int (n : Int)) (ev_hhours (ev_var (i := 0) rfl) h5 T.cl_House T.na_House_hours) fun H1 e1 => ?_
    try dsimp only
    refine q_asgR (er_lno (K := K) (ss := gs.map (·.2)) (ev_var (i := 2) rfl) (ev_var (i := 3) rfl) (ev_var (i := 4) rfl) (ex_l e1 hs) (hX.ex e1) (by omega) (by omega) stb hA hn) fun v5 H2 e2 hv5 => ?_
    obtain ⟨r5, ⟨t5, rfl, ht5⟩, a5⟩ := hv5
    have e02 := e1.trans e2
    try dsimp only
    refine q_asgR (er_lone (K := K) (ss := gs.map (·.2)) (ev_var (i := 2) rfl) (ev_var (i := 3) rfl) (ev_var (i := 4) rfl) (ex_l e02 hs) (hX.ex e02) (by omega) (by omega) stb hA hn) fun v6 H3 e3 hv6 => ?_
    obtain ⟨r6, ⟨t6, rfl, ht6⟩, a6⟩ := hv6
    have e03 := e02.trans e3
    have b5 := a5.rb
    have b6 := a6.rb
    try dsimp only
    refine q_skip (et_notT (et_B (ev_worth (p := r5.1) (q := r5.2) (EvR.imp (er_noLook (K := K) (A := A) (ev_var (i := 0) rfl) (ev_var (i := 1) rfl) (hh.ex e03) hm hst hn (hL.ex e03) hl) fun v G ⟨r, z1, z2⟩ => z1.worth (no_eq (by omega) (by omega) hn stb hA z2 a5) (by have := (nl_rb (xss := xss) hn stb r z2.mem).d0; omega) (by have := b5.d0; omega)) (ev_op (ev_var (i := 5) rfl) ev_c (rv_ixT (K := K) (ex_t e3 ht5) (atI_nat (j := 0) rfl))) (ev_op (ev_var (i := 5) rfl) ev_c (rv_ixT (K := K) (ex_t e3 ht5) (atI_nat (j := 1) rfl))) (big_ok ⟨b5.n0, b5.n1⟩) (big_ok ⟨by have := b5.d0; omega, b5.d1⟩)))) fun H4 e4 => ?_
    have e04 := e03.trans e4
    exact s_ret (v := .bl true) (ev_worth (p := r6.1) (q := r6.2) (EvR.imp (er_oneLook (K := K) (A := A) (ev_var (i := 0) rfl) (ev_var (i := 1) rfl) (hh.ex e04) hm hst hn (hL.ex e04) hl) fun v G ⟨r0, r, z1, z2, z3⟩ => by
      have zz := one_eq (by omega) (by omega) hn stb hA z2 z3 a6
      exact z1.worth zz.2 (by have := zz.1.d0; omega) (by have := b6.d0; omega)) (ev_op (ev_var (i := 6) rfl) ev_c (rv_ixT (K := K) (ex_t e4 ht6) (atI_nat (j := 0) rfl))) (ev_op (ev_var (i := 6) rfl) ev_c (rv_ixT (K := K) (ex_t e4 ht6) (atI_nat (j := 1) rfl))) (big_ok ⟨b6.n0, b6.n1⟩) (big_ok ⟨by have := b6.d0; omega, b6.d1⟩)) fun H5 e5 => k H5 (e04.trans e5)

/-! ### data told twice -/
theorem ed_ev {K : PySem.W.Frag} {σ : L2.St} {H : Hp} {te : TE} {v : V} {d : PyData} (h : Ev te σ H v) (hd : ∀ H1, Ex H H1 → Dp K H1 v d) : EvR te σ H fun v H1 => Dp K H1 v d := er_ev h hd
theorem ed_int {K : PySem.W.Frag} {σ : L2.St} {H : Hp} {te : TE} {z : Int} (h : Ev te σ H (.int z)) : EvR te σ H fun v H1 => Dp K H1 v (.int z) := er_ev h fun _ _ => .int z
theorem ed_bl {K : PySem.W.Frag} {σ : L2.St} {H : Hp} {te : TE} {z : Bool} (h : Ev te σ H (.bl z)) : EvR te σ H fun v H1 => Dp K H1 v (.bool z) := er_ev h fun _ _ => .bl z
theorem ed_str {K : PySem.W.Frag} {σ : L2.St} {H : Hp} {te : TE} {z : Str} (h : Ev te σ H (.str z)) : EvR te σ H fun v H1 => Dp K H1 v (.str z) := er_ev h fun _ _ => .str z
theorem ed_L {K : PySem.W.Frag} {σ : L2.St} {H : Hp} {te : TE} {xs : List Int} (h : EvL te σ H (xs.map V.int)) : EvR te σ H fun v H1 => Dp K H1 v (.list (xs.map .int)) := (er_L h).imp fun v H1 q => by
  obtain ⟨p, rfl, hp⟩ := q
  exact .lst (sq_of hp) (dp_ints _)
theorem ed_held {K : PySem.W.Frag} {σ : L2.St} {H : Hp} {i : Nat} {p : Addr} {xs : List Int} (h : σ[i]? = some (some (.ref p))) (hp : SqL K H p (xs.map V.int)) : EvR (tVar i) σ H fun v H1 => Dp K H1 v (.list (xs.map .int)) := er_ev (ev_var h) fun H1 e => .lst (ex_l e hp) (dp_ints _)
def EvDs (K : PySem.W.Frag) (ta : TA) (σ : L2.St) (H : Hp) (ds : List PyData) : Prop := ∀ H1, Ex H H1 → ∀ Q : List V → Hp → Prop, (∀ vs H2, Ex H1 H2 → DpAll K H2 vs ds → Q vs H2) → ta σ H1 Q
theorem eds_nil {K : PySem.W.Frag} {σ : L2.St} {H : Hp} : EvDs K tNil σ H [] := fun H1 _ Q q => q [] H1 (Ex.refl H1) .nil
theorem eds_cons {K : PySem.W.Frag} {σ : L2.St} {H : Hp} {te : TE} {ta : TA} {d : PyData} {ds : List PyData} (h : EvR te σ H fun v H1 => Dp K H1 v d) (r : EvDs K ta σ H ds) : EvDs K (tCons te ta) σ H (d :: ds) := fun H1 e Q q =>
  h H1 e _ fun v H2 e2 hv => r H2 (e.trans e2) _ fun vs H3 e3 hs => q (v :: vs) H3 (e2.trans e3) (.cons (dp_ex e3 hv) hs)
theorem ed_tup {K : PySem.W.Frag} {σ : L2.St} {H : Hp} {ta : TA} {ds : List PyData} (h : EvDs K ta σ H ds) (hl : ds.length ≤ 1000) : EvR (tTup ta) σ H fun v H1 => Dp K H1 v (.tuple ds) := fun H1 e Q q =>
  h H1 e _ fun vs H2 e2 hs => by
    have l := (dp_get hs).1
    exact ⟨by rw [l]; exact Nat.le_trans hl (by decide), fun p hp => q _ _ (e2.trans (Ex.new hp)) (.tup (st_of upd_same) (dpa_ex (Ex.new hp) hs))⟩
theorem ed_lst {K : PySem.W.Frag} {σ : L2.St} {H : Hp} {ta : TA} {ds : List PyData} (h : EvDs K ta σ H ds) (hl : ds.length ≤ 1000) : EvR (tLst ta) σ H fun v H1 => Dp K H1 v (.list ds) := fun H1 e Q q =>
  h H1 e _ fun vs H2 e2 hs => by
    have l := (dp_get hs).1
    exact ⟨by rw [l]; exact Nat.le_trans hl (by decide), fun p hp => q _ _ (e2.trans (Ex.new hp)) (.lst (sq_of upd_same) (dpa_ex (Ex.new hp) hs))⟩
theorem ev_same {K : PySem.W.Frag} {E : XK} {σ : L2.St} {H : Hp} {ta tb : TE} {d : PyData} (ha : EvR ta σ H fun v H1 => Dp K H1 v d) (hb : EvR tb σ H fun v H1 => Dp K H1 v d) (hf : Flat 4 d) : Ev (tCall (sp_same K 4) [] E (tCons ta (tCons tb tNil))) σ H (.bl true) := fun H1 e Q q =>
  ha H1 e _ fun v H2 e2 hv => hb H2 (e.trans e2) _ fun w H3 e3 hw => ⟨v, w, d, rfl, dp_ex e3 hv, hw, hf, q H3 (e2.trans e3)⟩
theorem dp_rows {K : PySem.W.Frag} {H : Hp} : ∀ (vs : List V) (xss : List (List Int)), vs.length = xss.length → (∀ (i : Nat) v, vs[i]? = some v → ∃ p, v = .ref p ∧ SqL K H p ((xss.getD i []).map V.int)) → DpAll K H vs (xss.map fun xs => .list (xs.map .int))
  | [], [], _, _ => .nil
  | v :: vs, xs :: xss, hl, h => by
    obtain ⟨p, rfl, hp⟩ := h 0 v rfl
    exact .cons (.lst hp (dp_ints _)) (dp_rows vs xss (by simpa using hl) fun i u hu => h (i + 1) u hu)
theorem flat_rows {xss : List (List Int)} (h : xss.length ≤ 400) (hx : ∀ xs ∈ xss, xs.length ≤ 360) : Flat 4 (.list (xss.map fun xs => .list (xs.map .int))) :=
  ⟨by rw [List.length_map]; omega, fun d hd => by
    obtain ⟨xs, hm, rfl⟩ := List.mem_map.mp hd
    exact ⟨by rw [List.length_map]; have := hx xs hm; omega, fun d hd => by
      obtain ⟨i, _, rfl⟩ := List.mem_map.mp hd
      exact True.intro⟩⟩
/-- lists of ints within a list -/
structure Rows (K : PySem.W.Frag) (H : Hp) (a : Addr) (xss : List (List Int)) : Prop where
  all : ∃ vs : List V, SqL K H a vs ∧ vs.length = xss.length ∧ ∀ (i : Nat) v, vs[i]? = some v → ∃ p, v = .ref p ∧ SqL K H p ((xss.getD i []).map V.int)
theorem Rows.ex {K : PySem.W.Frag} {H H' : Hp} {a : Addr} {xss : List (List Int)} (e : Ex H H') (h : Rows K H a xss) : Rows K H' a xss := by
  obtain ⟨vs, h1, h2, h3⟩ := h.all
  exact ⟨vs, ex_l e h1, h2, fun i v hv => (h3 i v hv).imp fun p h => ⟨h.1, ex_l e h.2⟩⟩
theorem Rows.dp {K : PySem.W.Frag} {H : Hp} {a : Addr} {xss : List (List Int)} (h : Rows K H a xss) : Dp K H (.ref a) (.list (xss.map fun xs => .list (xs.map .int))) := by
  obtain ⟨vs, h1, h2, h3⟩ := h.all
  exact .lst h1 (dp_rows vs xss h2 h3)
theorem ed_rows {K : PySem.W.Frag} {σ : L2.St} {H : Hp} {i : Nat} {p : Addr} {xss : List (List Int)} (h : σ[i]? = some (some (.ref p))) (hp : Rows K H p xss) : EvR (tVar i) σ H fun v H1 => Dp K H1 v (.list (xss.map fun xs => .list (xs.map .int))) := er_ev (ev_var h) fun H1 e => (hp.ex e).dp
theorem getD_mem {α : Type} {xs : List α} {i : Nat} {d : α} (h : i < xs.length) : xs.getD i d ∈ xs := by
  rw [List.getD_eq_getElem?_getD, List.getElem?_eq_getElem h]
  exact List.getElem_mem _

theorem ev_xf {σ : L2.St} {H : Hp} {te : TE} {a C dd : Addr} {f : Str} {fs : List (Str × V)} {v : V} (h : Ev te σ H (.ref a)) (hx : H dd = some (.xd fs)) (hl : fs.lookup f = some v) : Ev (tXf a (.ref C) (some dd) C f te) σ H v := fun H1 e Q q => h H1 e _ fun H2 e2 => ⟨rfl, rfl, dd, fs, v, rfl, (e.trans e2) _ _ hx, hl, q H2 e2⟩

theorem flat_bools (bs : List Bool) (h : bs.length ≤ 100) : Flat 4 (.tuple (bs.map .bool)) := ⟨by rw [List.length_map]; omega, fun d hd => by
  obtain ⟨i, _, rfl⟩ := List.mem_map.mp hd
  exact True.intro⟩
theorem flat_boolsL (bs : List Bool) (h : bs.length ≤ 100) : Flat 4 (.list (bs.map .bool)) := ⟨by rw [List.length_map]; omega, fun d hd => by
  obtain ⟨i, _, rfl⟩ := List.mem_map.mp hd
  exact True.intro⟩

def spRefused (K : PySem.W.Frag) (A : Ads) : Sp := fun vs H Q _ => ∃ (hv : V) (p : Addr) (n : Nat) (gs : List (Str × Int)) (ls : List (Int × List Int)) (b : Bool), vs = [hv, .ref p, .bl b] ∧ HouseIs A.C_House hv H (n : Int) gs ∧ (1 ≤ gs.length ∧ gs.length ≤ 4) ∧ (∀ g ∈ gs, 0 ≤ g.2 ∧ g.2 ≤ 60) ∧ (1 ≤ n ∧ n ≤ 24) ∧ LotsL K A H p ls ∧ (ls.length = gs.length → ∃ l ∈ ls, l.1 ≠ (n : Int)) ∧ ∀ v H', Ex H H' → Dp K H' v (if ls.length = gs.length then .tuple [.str "OtherHours"] else .tuple [.str "WrongLength", .int (ls.length : Int)]) → Q v H' 
theorem ok_u_law_refused (T : Txt K mg A) : FnOk P w K mg base CX0 15 A.f_u_law_refused A.d_u_law_refused (["house", "lots", "looked"] : List Str) (spRefused K A) := by
  refine T.F_u_law_refused.ok sc_u_law_refused (fun vs H Q E h => ?_) (fun cdv Ar outer s H vs Q E hr h => ?_)
  · obtain ⟨hv, p, n, gs, ls, b, rfl, _⟩ := h
    rfl
  · obtain ⟨hv, p, n, gs, ls, b, rfl, hh, hm, hst, hn, hL, hbad, k⟩ := h
    refine ⟨_, (pss_cons (ps_set (i := 3) sc_u_law_refused.nd rfl (Or.inl rfl) pe_non)
        (pss_cons (ps_try_mas (Wo := fun _ _ _ _ => False) rfl rfl sc_u_law_refused.nd takes0 (fun W pn xe tk _ => (pss_one (ps_if (pt_val (pv 2)) (pss_one (ps_expr (pe_callS (ok_one_look_bound T) (hr.mono (by omega)) rfl T.g_one_look_bound T.k_one_look_bound (b_one_look_bound T) (fun σ => passAt tk σ) (pa_cons (pv 0) (pa_cons (pv 1) pa_nil))))) (pss_one (ps_expr (pe_callS (ok_no_look_bound T) (hr.mono (by omega)) rfl T.g_no_look_bound T.k_no_look_bound (b_no_look_bound T) (fun σ => passAt tk σ) (pa_cons (pv 0) (pa_cons (pv 1) pa_nil)))))))) (Clauses.named (i := 4) rfl rfl ⟨rfl, by decide, Or.inl T.g_WrongLength⟩ (fun a oe cls dd pn hz hf => (pss_one (ps_set (i := 3) sc_u_law_refused.nd rfl (Or.inl rfl) (pe_tup (pa_cons pe_str (pa_cons (pe_xf T.xf_WrongLength T.nf_WrongLength_length hz hf (pv 4)) pa_nil)))))) (Clauses.bare ⟨rfl, by decide, Or.inl T.g_OtherHours⟩ (fun a oe cls dd pn hz hf => (pss_one (ps_set (i := 3) sc_u_law_refused.nd rfl (Or.inl rfl) (pe_tup (pa_cons pe_str pa_nil))))) Clauses.nil)))
        (pss_one (ps_ret (pv 3))))), ?_⟩
    try dsimp only
    refine q_asg (v := .non) ev_c fun H1 e1 => ?_
    refine s_if (b := b) (et_B (ev_var (i := 2) rfl)) (fun hb H2 e2 => ?_) (fun hb H2 e2 => ?_)
    ·
      have e02 := e1.trans e2
      refine ⟨_, rfl, _, rfl, hv, p, n, gs, ls, rfl, hh.ex e02, hm, hst, hn, hL.ex e02, fun hne d H5 e5 hd' => ?_, fun hlen hex H5 e5 => ?_, ?_⟩
      · refine ⟨true, T.xm_WrongLength_WrongLength, fun _ ea hea => ?_, fun z => Bool.noConfusion z⟩
        refine s_asgR (ed_tup (K := K) (ds := [.str "WrongLength", .int (ls.length : Int)]) (eds_cons (ed_str ev_c) (eds_cons (ed_int (ev_xf (ev_var (i := 4) rfl) hd' rfl)) eds_nil)) (by show 2 ≤ 1000; decide)) fun u H6 e6 hu => ?_
        try dsimp only
        exact s_ret (ev_var (i := 3) rfl) fun H7 e7 => k u H7 ((e02.trans e5).trans (e6.trans e7)) (by rw [if_neg hne]; exact dp_ex e7 hu)
      · refine ⟨false, T.xm_OtherHours_WrongLength, fun z => Bool.noConfusion z, fun _ => ⟨true, T.xm_OtherHours_OtherHours, fun _ ea hea => ?_, fun z => Bool.noConfusion z⟩⟩
        refine s_asgR (ed_tup (K := K) (ds := [.str "OtherHours"]) (eds_cons (ed_str ev_c) eds_nil) (by show 1 ≤ 1000; decide)) fun u H6 e6 hu => ?_
        try dsimp only
        exact s_ret (ev_var (i := 3) rfl) fun H7 e7 => k u H7 ((e02.trans e5).trans (e6.trans e7)) (by rw [if_pos hlen]; exact dp_ex e7 hu)
      · intro hlen hall
        obtain ⟨l, hl1, hl2⟩ := hbad hlen
        exact absurd (hall l hl1) hl2
    ·
      have e02 := e1.trans e2
      refine ⟨_, rfl, _, rfl, hv, p, n, gs, ls, rfl, hh.ex e02, hm, hst, hn, hL.ex e02, fun hne d H5 e5 hd' => ?_, fun hlen hex H5 e5 => ?_, ?_⟩
      · refine ⟨true, T.xm_WrongLength_WrongLength, fun _ ea hea => ?_, fun z => Bool.noConfusion z⟩
        refine s_asgR (ed_tup (K := K) (ds := [.str "WrongLength", .int (ls.length : Int)]) (eds_cons (ed_str ev_c) (eds_cons (ed_int (ev_xf (ev_var (i := 4) rfl) hd' rfl)) eds_nil)) (by show 2 ≤ 1000; decide)) fun u H6 e6 hu => ?_
        try dsimp only
        exact s_ret (ev_var (i := 3) rfl) fun H7 e7 => k u H7 ((e02.trans e5).trans (e6.trans e7)) (by rw [if_neg hne]; exact dp_ex e7 hu)
      · refine ⟨false, T.xm_OtherHours_WrongLength, fun z => Bool.noConfusion z, fun _ => ⟨true, T.xm_OtherHours_OtherHours, fun _ ea hea => ?_, fun z => Bool.noConfusion z⟩⟩
        refine s_asgR (ed_tup (K := K) (ds := [.str "OtherHours"]) (eds_cons (ed_str ev_c) eds_nil) (by show 1 ≤ 1000; decide)) fun u H6 e6 hu => ?_
        try dsimp only
        exact s_ret (ev_var (i := 3) rfl) fun H7 e7 => k u H7 ((e02.trans e5).trans (e6.trans e7)) (by rw [if_pos hlen]; exact dp_ex e7 hu)
      · intro hlen hall
        obtain ⟨l, hl1, hl2⟩ := hbad hlen
        exact absurd (hall l hl1) hl2

def spRefBase (K : PySem.W.Frag) (A : Ads) : Sp := fun vs H Q _ => ∃ (hv : V) (p : Addr) (n : Nat) (gs : List (Str × Int)) (ls : List (Int × List Int)), vs = [hv, .ref p] ∧ HouseIs A.C_House hv H (n : Int) gs ∧ (1 ≤ gs.length ∧ gs.length ≤ 4) ∧ (∀ g ∈ gs, 0 ≤ g.2 ∧ g.2 ≤ 60) ∧ (1 ≤ n ∧ n ≤ 24) ∧ LotsL K A H p ls ∧ ls.length = gs.length ∧ (∃ l ∈ ls, l.1 ≠ (n : Int)) ∧ ∀ H', Ex H H' → Q (.bl true) H' 
theorem ok_u_law_refused_by_base (T : Txt K mg A) : FnOk P w K mg base CX0 15 A.f_u_law_refused_by_base A.d_u_law_refused_by_base (["house", "lots"] : List Str) (spRefBase K A) := by
  refine T.F_u_law_refused_by_base.ok sc_u_law_refused_by_base (fun vs H Q E h => ?_) (fun cdv Ar outer s H vs Q E hr h => ?_)
  · obtain ⟨hv, p, n, gs, ls, rfl, _⟩ := h
    rfl
  · obtain ⟨hv, p, n, gs, ls, rfl, hh, hm, hst, hn, hL, hl, hbad, k⟩ := h
    refine ⟨_, (pss_cons (ps_set (i := 2) sc_u_law_refused_by_base.nd rfl (Or.inl rfl) pe_bl)
        (pss_cons (ps_try_as (i := 3) (Wout := fun _ _ _ _ => False) rfl rfl sc_u_law_refused_by_base.nd rfl rfl ⟨rfl, by decide, Or.inl T.g_WatchError⟩ takes0 (fun W pn xe tk _ => (pss_one (ps_expr (pe_callS (ok_one_look_bound T) (hr.mono (by omega)) rfl T.g_one_look_bound T.k_one_look_bound (b_one_look_bound T) (fun σ => passAt tk σ) (pa_cons (pv 0) (pa_cons (pv 1) pa_nil)))))) (fun a oe cls dd pn hz hf => (pss_one (ps_set (i := 2) sc_u_law_refused_by_base.nd rfl (Or.inl rfl) (pe_and (pe_callB (call_isN T.ex_OtherHours hz hf) (by rfl) T.z_isinstance (by decide +kernel) (pa_cons (pv 3) (pa_cons (pe_bltn (v := .ty "ValueError") (by rfl) T.z_ValueError (by decide +kernel) rfl) pa_nil))) (pe_one (pe_not (pe_callB (call_isN T.ex_OtherHours hz hf) (by rfl) T.z_isinstance (by decide +kernel) (pa_cons (pv 3) (pa_cons (pe_glob (v := .ref A.C_WrongLength) rfl T.g_WrongLength rfl) pa_nil))))))))))
        (pss_one (ps_ret (pv 2))))), ?_⟩
    try dsimp only
    refine q_asg (v := .bl false) ev_c fun H1 e1 => ?_
    refine ⟨_, rfl, _, rfl, hv, p, n, gs, ls, rfl, hh.ex e1, hm, hst, hn, hL.ex e1, fun hne => absurd hl hne, fun hlen hex H5 e5 => ?_, fun _ hall => ?_⟩
    · refine ⟨true, T.xm_OtherHours_WatchError, fun _ ea hea => ?_, fun z => Bool.noConfusion z⟩
      have isz : ∀ (c : V) (b : Bool), (∃ cv, (∀ u, RelV c u → u = cv) ∧ PySem.W.kitOne K (.ref A.C_OtherHours) cv = some b) → ∀ G σ', σ'[3]? = some (some (.ref ea)) → Ev (tCB (rIsN K A.C_OtherHours ea (.ref A.C_OtherHours) none) (tCons (tVar 3) (tCons (tC c) tNil))) σ' G (.bl b) := fun c b ⟨cv, h1, h2⟩ G σ' hσ =>
        ev_cb (ea_cons (ev_var hσ) (ea_cons ev_c ea_nil)) fun H3 e3 Q q => ⟨rfl, rfl, c, cv, b, rfl, h1, h2, q H3 (Ex.refl H3)⟩
      refine s_asg (v := .bl true) (ev_andV (a := true) (b := !false) (isz (.ty "ValueError") _ ⟨.type "ValueError", fun u h => h, T.kit_OtherHours_ValueError⟩ _ _ rfl) fun _ => ev_notV (isz (.ref A.C_WrongLength) _ ⟨.ref A.C_WrongLength, fun u h => h, T.kit_OtherHours_WrongLength⟩ _ _ rfl)) fun H6 e6 => ?_
      try dsimp only
      exact s_ret (ev_var (i := 2) rfl) fun H7 e7 => k H7 ((e1.trans e5).trans (e6.trans e7))
    · obtain ⟨l, hl1, hl2⟩ := hbad
      exact absurd (hall l hl1) hl2

theorem cut_takeV {vs : List V} {k : Nat} : cutV vs none (some (k : Int)) = vs.take k := by
  unfold cutV
  rw [HT.sIx_none, HT.sIx_nat, List.drop_zero, Nat.sub_zero, ← List.take_eq_take_min]
theorem cut_dropV {vs : List V} {k : Nat} (h : k ≤ vs.length) : cutV vs (some (k : Int)) none = vs.drop k := by
  unfold cutV
  rw [HT.sIx_none, HT.sIx_nat, Nat.min_eq_left h, List.take_of_length_le (by rw [List.length_drop]; omega)]
def LV (A : Ads) (G : Hp) (vs : List V) (ls : List (Int × List Int)) : Prop := vs.length = ls.length ∧ ∀ (i : Nat) v l, vs[i]? = some v → ls[i]? = some l → LotIs A.C_Lot v G l.1 l.2
theorem LV.ex {A : Ads} {G G' : Hp} {vs : List V} {ls : List (Int × List Int)} (h : LV A G vs ls) (e : Ex G G') : LV A G' vs ls := ⟨h.1, fun i v l hv hl => (h.2 i v l hv hl).ex e⟩
theorem LV.append {A : Ads} {G : Hp} {vs us : List V} {ls ks : List (Int × List Int)} (h : LV A G vs ls) (g : LV A G us ks) : LV A G (vs ++ us) (ls ++ ks) := ⟨by rw [List.length_append, List.length_append, h.1, g.1], fun i v l hv hl => by
  have hl1 := h.1
  by_cases c : i < vs.length
  · rw [List.getElem?_append_left c] at hv
    rw [List.getElem?_append_left (by omega)] at hl
    exact h.2 i v l hv hl
  · rw [List.getElem?_append_right (by omega)] at hv
    rw [List.getElem?_append_right (by omega), ← hl1] at hl
    exact g.2 _ v l hv hl⟩
theorem LV.take {A : Ads} {G : Hp} {vs : List V} {ls : List (Int × List Int)} (h : LV A G vs ls) (k : Nat) : LV A G (vs.take k) (ls.take k) := ⟨by rw [List.length_take, List.length_take, h.1], fun i v l hv hl => by
  rw [List.getElem?_take] at hv hl
  split at hv
  · rw [if_pos (by assumption)] at hl
    exact h.2 i v l hv hl
  · cases hv⟩
theorem LV.drop {A : Ads} {G : Hp} {vs : List V} {ls : List (Int × List Int)} (h : LV A G vs ls) (k : Nat) : LV A G (vs.drop k) (ls.drop k) := ⟨by rw [List.length_drop, List.length_drop, h.1], fun i v l hv hl => by
  rw [List.getElem?_drop] at hv hl
  exact h.2 _ v l hv hl⟩
abbrev ErX (A : Ads) (te : TE) (σ : L2.St) (H : Hp) (ls : List (Int × List Int)) : Prop := EvR te σ H fun v G => ∃ (p : Addr) (vs : List V), v = .ref p ∧ G p = some (.lst vs) ∧ LV A G vs ls ∧ ls.length ≤ 1000
theorem erx_cat {K : PySem.W.Frag} {A : Ads} {ta tb : TE} {σ : L2.St} {H : Hp} {ls ks : List (Int × List Int)} (h1 : ErX A ta σ H ls) (h2 : ErX A tb σ H ks) (hz : ls.length + ks.length ≤ 1000) : ErX A (tOp rCat ta tb) σ H (ls ++ ks) := fun H1 e Q q => h1 H1 e _ fun v H2 e2 hv => h2 H2 (e.trans e2) _ fun w H3 e3 hw => by
  obtain ⟨a, xs, rfl, ha, hA, _⟩ := hv
  obtain ⟨b, ys, rfl, hb, hB, _⟩ := hw
  have l1 := hA.1
  have l2 := hB.1
  exact ⟨a, b, xs, ys, rfl, rfl, e3 _ _ ha, hb, sz_of (show xs.length + ys.length ≤ 100000 by omega), fun p hp => q _ _ ((e2.trans e3).trans (Ex.new hp)) ⟨p, xs ++ ys, rfl, upd_same, ((hA.ex e3).append hB).ex (Ex.new hp), by rw [List.length_append]; omega⟩⟩
theorem erx_one {K : PySem.W.Frag} {A : Ads} {te : TE} {σ : L2.St} {H : Hp} {n : Int} {xs : List Int} (h : EvR te σ H fun v G => LotIs A.C_Lot v G n xs) : ErX A (tLst (tCons te tNil)) σ H [(n, xs)] := fun H1 e Q q => h H1 e _ fun v H2 e2 hv => ⟨by show 1 ≤ sizeLine; decide, fun p hp => q _ _ (e2.trans (Ex.new hp)) ⟨p, [v], rfl, upd_same, ⟨rfl, fun i u l hu hl => by
  have hi : i = 0 := by
    have : i < 1 := (List.getElem?_eq_some_iff.mp hu).1
    omega
  subst hi
  cases hu
  cases hl
  exact hv.ex (Ex.new hp)⟩, by show 1 ≤ 1000; decide⟩⟩
theorem erx_take {K : PySem.W.Frag} {A : Ads} {te tk : TE} {σ : L2.St} {H : Hp} {p : Addr} {vs : List V} {ls : List (Int × List Int)} {k : Nat} (h : Ev te σ H (.ref p)) (hk : Ev tk σ H (.int (k : Int))) (hp : H p = some (.lst vs)) (hV : LV A H vs ls) (hz : ls.length ≤ 1000) (hkl : k ≤ ls.length) : ErX A (tSl (rSlL K) te tNoPart (tPart tk)) σ H (ls.take k) := fun H1 e Q q => (er_L (el_isW (el_sl (K := K) h eo_none (eo_some hk) (sq_of hp)) (cut_takeV (k := k)))) H1 e Q fun v H2 e2 hv => by
  obtain ⟨l, rfl, hl⟩ := hv
  exact q _ H2 e2 ⟨l, vs.take k, rfl, hl, (hV.ex (e.trans e2)).take k, by rw [List.length_take]; omega⟩
theorem erx_drop {K : PySem.W.Frag} {A : Ads} {te tk : TE} {σ : L2.St} {H : Hp} {p : Addr} {vs : List V} {ls : List (Int × List Int)} {k : Nat} (h : Ev te σ H (.ref p)) (hk : Ev tk σ H (.int ((k : Int) + 1))) (hp : H p = some (.lst vs)) (hV : LV A H vs ls) (hz : ls.length ≤ 1000) (hkl : k + 1 ≤ ls.length) : ErX A (tSl (rSlL K) te (tPart tk) tNoPart) σ H (ls.drop (k + 1)) := fun H1 e Q q => (er_L (el_isW (el_sl (K := K) h (eo_some (ev_is hk (congrArg V.int (show (k : Int) + 1 = ((k + 1 : Nat) : Int) by omega)))) eo_none (sq_of hp)) (cut_dropV (k := k + 1) (by have := hV.1; omega)))) H1 e Q fun v H2 e2 hv => by
  obtain ⟨l, rfl, hl⟩ := hv
  exact q _ H2 e2 ⟨l, vs.drop (k + 1), rfl, hl, (hV.ex (e.trans e2)).drop (k + 1), by rw [List.length_drop]; omega⟩

theorem cut_lastV {vs : List V} : cutV vs none (some (-1)) = vs.take (vs.length - 1) := by
  unfold cutV HT.sIx
  simp
  congr 1
  omega
theorem erx_var {A : Ads} {te : TE} {σ : L2.St} {H : Hp} {p : Addr} {vs : List V} {ls : List (Int × List Int)} (h : Ev te σ H (.ref p)) (hp : H p = some (.lst vs)) (hV : LV A H vs ls) (hz : ls.length ≤ 1000) : ErX A te σ H ls := er_ev h fun G e => ⟨p, vs, rfl, e _ _ hp, hV.ex e, hz⟩
theorem erx_last {K : PySem.W.Frag} {A : Ads} {te tk : TE} {σ : L2.St} {H : Hp} {p : Addr} {vs : List V} {ls : List (Int × List Int)} (h : Ev te σ H (.ref p)) (hk : Ev tk σ H (.int (-1))) (hp : H p = some (.lst vs)) (hV : LV A H vs ls) (hz : ls.length ≤ 1000) : ErX A (tSl (rSlL K) te tNoPart (tPart tk)) σ H (ls.take (ls.length - 1)) := fun H1 e Q q => (er_L (el_isW (el_sl (K := K) h eo_none (eo_some hk) (sq_of hp)) cut_lastV)) H1 e Q fun v H2 e2 hv => by
  obtain ⟨l, rfl, hl⟩ := hv
  exact q _ H2 e2 ⟨l, vs.take (vs.length - 1), rfl, hl, by rw [hV.1]; exact (hV.ex (e.trans e2)).take _, by rw [List.length_take]; omega⟩
theorem er_refused {K : PySem.W.Frag} {A : Ads} {E : XK} {t1 t2 t3 : TE} {σ : L2.St} {H : Hp} {hv : V} {n : Nat} {gs : List (Str × Int)} {ls : List (Int × List Int)} {b : Bool} (h1 : Ev t1 σ H hv) (h2 : ErX A t2 σ H ls) (h3 : Ev t3 σ H (.bl b)) (hh : HouseIs A.C_House hv H (n : Int) gs) (hm : 1 ≤ gs.length ∧ gs.length ≤ 4) (hst : ∀ g ∈ gs, 0 ≤ g.2 ∧ g.2 ≤ 60) (hn : 1 ≤ n ∧ n ≤ 24) (hbad : ls.length = gs.length → ∃ l ∈ ls, l.1 ≠ (n : Int)) : EvR (tCall (spRefused K A) [] E (tCons t1 (tCons t2 (tCons t3 tNil)))) σ H fun v G => Dp K G v (if ls.length = gs.length then .tuple [.str "OtherHours"] else .tuple [.str "WrongLength", .int (ls.length : Int)]) := fun H1 e Q q => h1 H1 e _ fun H2 e2 => h2 H2 (e.trans e2) _ fun v H3 e3 hv' => h3 H3 ((e.trans e2).trans e3) _ fun H4 e4 => by
  obtain ⟨p, vs, rfl, hp, hV, _⟩ := hv'
  have eA := ((e.trans e2).trans e3).trans e4
  have hV4 := hV.ex e4
  exact ⟨hv, p, n, gs, ls, b, rfl, hh.ex eA, hm, hst, hn, ⟨vs, sq_of (e4 _ _ hp), hV4.1, hV4.2⟩, hbad, fun v H' e' hd => q v H' (((e2.trans e3).trans e4).trans e') hd⟩
theorem flat_wl (z : Int) : Flat 4 (.tuple [.str "WrongLength", .int z]) := ⟨by show 2 ≤ 40000; decide, fun d hd => by
  simp only [List.mem_cons, List.not_mem_nil, or_false] at hd
  rcases hd with rfl | rfl <;> exact True.intro⟩
theorem flat_oh : Flat 4 (.tuple [.str "OtherHours"]) := ⟨by show 1 ≤ 40000; decide, fun d hd => by
  simp only [List.mem_cons, List.not_mem_nil, or_false] at hd
  rcases hd with rfl; exact True.intro⟩
theorem dp_if {K : PySem.W.Frag} {G : Hp} {v : V} {a b : PyData} {c : Prop} [Decidable c] (h : ¬ c) (hd : Dp K G v (if c then a else b)) : Dp K G v b := by rwa [if_neg h] at hd
theorem dp_ifT {K : PySem.W.Frag} {G : Hp} {v : V} {a b : PyData} {c : Prop} [Decidable c] (h : c) (hd : Dp K G v (if c then a else b)) : Dp K G v a := by rwa [if_pos h] at hd
def spFaults (K : PySem.W.Frag) (A : Ads) : Sp := fun vs H Q _ => ∃ (hv : V) (p : Addr) (n ai : Nat) (gs : List (Str × Int)) (ws : List V) (xss : List (List Int)) (b : Bool), vs = [hv, .ref p, .int (ai : Int), .bl b] ∧ HouseIs A.C_House hv H (n : Int) gs ∧ (1 ≤ gs.length ∧ gs.length ≤ 4) ∧ (∀ g ∈ gs, 0 ≤ g.2 ∧ g.2 ≤ 60) ∧ (1 ≤ n ∧ n ≤ 24) ∧ H p = some (.lst ws) ∧ LV A H ws (xss.map fun xs => ((n : Int), xs)) ∧ xss.length = gs.length ∧ ai < gs.length ∧ ∀ H', Ex H H' → Q (.bl true) H' 
theorem ok_u_law_faults (T : Txt K mg A) : FnOk P w K mg base CX0 16 A.f_u_law_faults A.d_u_law_faults (["house", "lots", "at", "wide"] : List Str) (spFaults K A) := by
  refine T.F_u_law_faults.ok sc_u_law_faults (fun vs H Q E h => ?_) (fun cdv Ar outer s H vs Q E hr h => ?_)
  · obtain ⟨hv, p, n, ai, gs, ws, xss, b, rfl, _⟩ := h
    rfl
  · obtain ⟨hv, p, n, ai, gs, ws, xss, b, rfl, hh, hm, hst, hn, hp, hV, hl, hai, k⟩ := h
    refine ⟨_, (pss_cons (ps_set (i := 4) sc_u_law_faults.nd rfl (Or.inl rfl) (pe_make T.mk_Lot (ok_Lot_init T) (hr.mono (by omega)) rfl T.g_Lot (b_Lot_init T) .nil passL (pa_cons (pe_op op_add (pe_op op_add (pe_fldK (pv 0) rfl) pe_int) (pe_callTy call_int1 (by rfl) T.z_int (by decide +kernel) (pa_cons (pv 3) pa_nil))) (pa_cons (pe_lst (pa_cons pe_int (pa_cons (pe_fldK (pv 0) rfl) pa_nil))) pa_nil))))
        (pss_cons (ps_set (i := 5) sc_u_law_faults.nd rfl (Or.inl rfl) (pe_op op_cat (pe_op op_cat (pe_slice sl_listK (pv 1) po_none (po_some (pv 2))) (pe_lst (pa_cons (pv 4) pa_nil))) (pe_slice sl_listK (pv 1) (po_some (pe_op op_add (pv 2) pe_int)) po_none)))
        (pss_cons (ps_for PassesOwn.never rfl (pi_tup (pe_tup (pa_cons pe_bl (pa_cons pe_bl pa_nil)))) (pg_name (i := 6) sc_u_law_faults.nd rfl (Or.inl rfl)) (pss_cons (ps_if (pt_not (pt_val (pe_call (ok_u_law_same T) (hr.mono (by omega)) rfl T.g_u_law_same T.k_u_law_same (b_u_law_same T) .nil pass0 (pa_cons (pe_call (ok_u_law_refused T) (hr.mono (by omega)) rfl T.g_u_law_refused T.k_u_law_refused (b_u_law_refused T) .nil pass0 (pa_cons (pv 0) (pa_cons (pe_slice sl_listK (pv 1) po_none (po_some (pe_un un_neg pe_int))) (pa_cons (pv 6) pa_nil)))) (pa_cons (pe_tup (pa_cons pe_str (pa_cons (pe_op op_sub (pe_callB len_K (by rfl) T.z_len (by decide +kernel) (pa_cons (pv 1) pa_nil)) pe_int) pa_nil))) pa_nil))))) (pss_one (ps_ret pe_bl)) pss_nil)
        (pss_cons (ps_if (pt_not (pt_val (pe_call (ok_u_law_same T) (hr.mono (by omega)) rfl T.g_u_law_same T.k_u_law_same (b_u_law_same T) .nil pass0 (pa_cons (pe_call (ok_u_law_refused T) (hr.mono (by omega)) rfl T.g_u_law_refused T.k_u_law_refused (b_u_law_refused T) .nil pass0 (pa_cons (pv 0) (pa_cons (pe_op op_cat (pv 1) (pe_lst (pa_cons (pv 4) pa_nil))) (pa_cons (pv 6) pa_nil)))) (pa_cons (pe_tup (pa_cons pe_str (pa_cons (pe_op op_add (pe_callB len_K (by rfl) T.z_len (by decide +kernel) (pa_cons (pv 1) pa_nil)) pe_int) pa_nil))) pa_nil))))) (pss_one (ps_ret pe_bl)) pss_nil)
        (pss_cons (ps_if (pt_not (pt_val (pe_call (ok_u_law_same T) (hr.mono (by omega)) rfl T.g_u_law_same T.k_u_law_same (b_u_law_same T) .nil pass0 (pa_cons (pe_call (ok_u_law_refused T) (hr.mono (by omega)) rfl T.g_u_law_refused T.k_u_law_refused (b_u_law_refused T) .nil pass0 (pa_cons (pv 0) (pa_cons (pe_op op_cat (pv 5) (pv 1)) (pa_cons (pv 6) pa_nil)))) (pa_cons (pe_tup (pa_cons pe_str (pa_cons (pe_op op_mul pe_int (pe_callB len_K (by rfl) T.z_len (by decide +kernel) (pa_cons (pv 1) pa_nil))) pa_nil))) pa_nil))))) (pss_one (ps_ret pe_bl)) pss_nil)
        (pss_one (ps_if (pt_not (pt_val (pe_call (ok_u_law_same T) (hr.mono (by omega)) rfl T.g_u_law_same T.k_u_law_same (b_u_law_same T) .nil pass0 (pa_cons (pe_call (ok_u_law_refused T) (hr.mono (by omega)) rfl T.g_u_law_refused T.k_u_law_refused (b_u_law_refused T) .nil pass0 (pa_cons (pv 0) (pa_cons (pv 5) (pa_cons (pv 6) pa_nil)))) (pa_cons (pe_tup (pa_cons pe_str pa_nil)) pa_nil))))) (pss_one (ps_ret pe_bl)) pss_nil))))))
        (pss_one (ps_ret (pe_call (ok_u_law_refused_by_base T) (hr.mono (by omega)) rfl T.g_u_law_refused_by_base T.k_u_law_refused_by_base (b_u_law_refused_by_base T) .nil pass0 (pa_cons (pv 0) (pa_cons (pv 5) pa_nil)))))))), ?_⟩
    obtain ⟨a3, dx3, p3, q3, rfl, h5, h6, h7⟩ := id hh
    obtain ⟨ls, hls⟩ : ∃ ls : List (Int × List Int), (xss.map fun xs => ((n : Int), xs)) = ls := ⟨_, rfl⟩
    have lsl : ls.length = gs.length := by rw [← hls, List.length_map, hl]
    rw [hls] at hV
    clear hls
    obtain ⟨R, hR, hRn⟩ : ∃ R : Nat, (n : Int) + 1 + (if b = true then 1 else 0) = (R : Int) ∧ n < R ∧ R ≤ 26 := by
      cases b
      · exact ⟨n + 1, by simp, by omega, by omega⟩
      · exact ⟨n + 2, by simp; omega, by omega, by omega⟩
    have aR : Asc 0 (R : Int) [0, (n : Int)] := ⟨.cons (fun x hx => by rw [List.mem_singleton.mp hx]; omega) (.cons (fun x hx => by cases hx) .nil), fun x hx => by
      rcases List.mem_cons.mp hx with rfl | hx
      · omega
      · rw [List.mem_singleton.mp hx]; omega⟩
    have hE : ∀ {σ : L2.St} {G : Hp}, σ[0]? = some (some (.ref a3)) → Ex H G → Ev (tFld K (tVar 0) "hours") σ G (.int (n : Int)) := fun h e => ev_hhours (ev_var h) (e _ _ h5) T.cl_House T.na_House_hours
    try dsimp only
    refine q_asgR (er_mkAsc (K := K) (A := A) (n := (R : Int)) (xs := [0, (n : Int)]) (ev_is (ev_op (ev_op (hE rfl (Ex.refl _)) ev_c rv_I0) (ev_cb (ea_cons (ev_var (i := 3) rfl) ea_nil) fun G e Q q => .inr ⟨b, rfl, q G (Ex.refl G)⟩) rv_I0) (congrArg V.int hR)) (EvR.imp (er_L (el_lst (vs := [.int 0, .int (n : Int)]) (ea_cons ev_c (ea_cons (hE rfl (Ex.refl _)) ea_nil)) (by show 2 ≤ 100000; decide))) fun v G ⟨q, z1, z2⟩ => ⟨q, z1, sq_of z2⟩) (by omega) aR) fun sv H1 e1 hsv => ?_
    obtain ⟨fl, hfl⟩ : ∃ fl : List (Int × List Int), ls.take ai ++ [((R : Int), [0, (n : Int)])] ++ ls.drop (ai + 1) = fl := ⟨_, rfl⟩
    have fll : fl.length = gs.length := by rw [← hfl, List.length_append, List.length_append, List.length_take, List.length_drop]; show _ + 1 + _ = _; omega
    have fbad : ∃ l ∈ fl, l.1 ≠ (n : Int) := ⟨((R : Int), [0, (n : Int)]), by rw [← hfl]; exact List.mem_append_left _ (List.mem_append_right _ List.mem_cons_self), by show (R : Int) ≠ (n : Int); omega⟩
    try dsimp only
    refine q_asgR (erx_cat (K := K) (A := A) (hz := by rw [List.length_append, List.length_take, List.length_drop]; show _ + 1 + _ ≤ _; omega) (erx_cat (K := K) (A := A) (hz := by rw [List.length_take]; show _ + 1 ≤ _; omega) (erx_take (K := K) (A := A) (ev_var (i := 1) rfl) (ev_var (i := 2) rfl) (e1 _ _ hp) (hV.ex e1) (by omega) (by omega)) (erx_one (K := K) (A := A) (er_ev (ev_var (i := 4) rfl) fun G e => hsv.ex e))) (erx_drop (K := K) (A := A) (ev_var (i := 1) rfl) (ev_op (ev_var (i := 2) rfl) ev_c rv_I0) (e1 _ _ hp) (hV.ex e1) (by omega) (by omega))) fun fv H2 e2 hf => ?_
    obtain ⟨fq, fs, rfl, hf1, hfV, _⟩ := hf
    rw [hfl] at hfV
    clear hfl
    have e02 := e1.trans e2
    have hh2 := hh.ex e02
    have hp2 := e02 _ _ hp
    have hV2 := hV.ex e02
    have hsv2 := hsv.ex e2
    have lenE : ∀ {σ : L2.St} {G : Hp}, σ[1]? = some (some (.ref p)) → Ex H2 G → Ev (tCB (rLenK K) (tCons (tVar 1) tNil)) σ G (.int (ls.length : Int)) := fun h e => ev_cb (r := rLenK K) (ea_cons (ev_var h) ea_nil) fun H3 e3 Q q => ⟨.ref p, ls.length, rfl, .inl ⟨_, sq_of ((e.trans e3) _ _ hp2), hV.1.symm⟩, q H3 (Ex.refl H3)⟩
    have m1 := hm.1
    try dsimp only
    refine q_forI (ei_tup (K := K) (xs := [V.bl true, V.bl false]) (eb_T2 (K := K) (ea_cons ev_c (ea_cons ev_c ea_nil)))) fun G2 g2 => ⟨fun j σ' F => ∃ (v6 : Option V), σ' = [some (.ref a3), some (.ref p), some (.int (ai : Int)), some (.bl b), some sv, some (.ref fq), v6] ∧ Ex G2 F, ⟨_, rfl, Ex.refl _⟩, fun j σ' F _ ⟨_, _, e⟩ => e, ?_, ?_⟩
    · rintro j y σ' F F' hj ⟨v6, rfl, eF⟩ ⟨rfl, hy⟩
      obtain ⟨lk, rfl⟩ : ∃ b : Bool, y = .bl b := by
        have : j = 0 ∨ j = 1 := by
          have hj : j < 2 := hj
          omega
        rcases this with rfl | rfl
        · exact ⟨true, (Option.some.inj hy).symm⟩
        · exact ⟨false, (Option.some.inj hy).symm⟩
      dsimp only [gName]
      have eF2 := g2.trans eF
      try dsimp only
      refine q_skip (et_notT (et_B (ev_same (d := .tuple [.str "WrongLength", .int ((ls.length : Int) - 1)]) (EvR.imp (er_refused (K := K) (A := A) (ls := ls.take (ls.length - 1)) (ev_var (i := 0) rfl) (erx_last (K := K) (A := A) (ev_var (i := 1) rfl) (ev_un ev_c ru_neg) (eF2 _ _ hp2) (hV2.ex eF2) (by omega)) (ev_var (i := 6) rfl) (hh2.ex eF2) hm hst hn (fun z => by rw [List.length_take] at z; omega)) fun v G hd => by
        have hd := dp_if (by rw [List.length_take]; omega) hd
        rwa [List.length_take, show ((min (ls.length - 1) ls.length : Nat) : Int) = (ls.length : Int) - 1 by omega] at hd) (ed_tup (eds_cons (ed_str ev_c) (eds_cons (ed_int (ev_op (lenE rfl eF2) ev_c rv_I0)) eds_nil)) (by show 2 ≤ 1000; decide)) (flat_wl _)))) fun F1 f1 => ?_
      have eF3 := eF2.trans f1
      try dsimp only
      refine q_skip (et_notT (et_B (ev_same (d := .tuple [.str "WrongLength", .int ((ls.length : Int) + 1)]) (EvR.imp (er_refused (K := K) (A := A) (ls := ls ++ [((R : Int), [0, (n : Int)])]) (ev_var (i := 0) rfl) (erx_cat (K := K) (A := A) (erx_var (A := A) (ev_var (i := 1) rfl) (eF3 _ _ hp2) (hV2.ex eF3) (by omega)) (erx_one (K := K) (A := A) (er_ev (ev_var (i := 4) rfl) fun G e => hsv2.ex (eF3.trans e))) (by show _ + 1 ≤ _; omega)) (ev_var (i := 6) rfl) (hh2.ex eF3) hm hst hn (fun z => by rw [List.length_append] at z; have z : ls.length + 1 = gs.length := z; omega)) fun v G hd => by
        have hd := dp_if (by rw [List.length_append]; show ¬ ls.length + 1 = _; omega) hd
        rwa [List.length_append, show ((ls.length + [((R : Int), [0, (n : Int)])].length : Nat) : Int) = (ls.length : Int) + 1 by rfl] at hd) (ed_tup (eds_cons (ed_str ev_c) (eds_cons (ed_int (ev_op (lenE rfl eF3) ev_c rv_I0)) eds_nil)) (by show 2 ≤ 1000; decide)) (flat_wl _)))) fun F2 f2 => ?_
      have eF4 := eF3.trans f2
      try dsimp only
      refine q_skip (et_notT (et_B (ev_same (d := .tuple [.str "WrongLength", .int (2 * (ls.length : Int))]) (EvR.imp (er_refused (K := K) (A := A) (ls := fl ++ ls) (ev_var (i := 0) rfl) (erx_cat (K := K) (A := A) (erx_var (A := A) (ev_var (i := 5) rfl) (eF4 _ _ hf1) (hfV.ex eF4) (by omega)) (erx_var (A := A) (ev_var (i := 1) rfl) (eF4 _ _ hp2) (hV2.ex eF4) (by omega)) (by omega)) (ev_var (i := 6) rfl) (hh2.ex eF4) hm hst hn (fun z => by rw [List.length_append] at z; omega)) fun v G hd => by
        have hd := dp_if (by rw [List.length_append]; omega) hd
        rwa [List.length_append, show ((fl.length + ls.length : Nat) : Int) = 2 * (ls.length : Int) by omega] at hd) (ed_tup (eds_cons (ed_str ev_c) (eds_cons (ed_int (ev_op ev_c (lenE rfl eF4) (rv_I (show CMul 2 _ from .inl ⟨by decide, by decide⟩)))) eds_nil)) (by show 2 ≤ 1000; decide)) (flat_wl _)))) fun F3 f3 => ?_
      have eF5 := eF4.trans f3
      try dsimp only
      exact s_when (b := false) (et_notT (et_B (ev_same (d := .tuple [.str "OtherHours"]) (EvR.imp (er_refused (K := K) (A := A) (ls := fl) (ev_var (i := 0) rfl) (erx_var (A := A) (ev_var (i := 5) rfl) (eF5 _ _ hf1) (hfV.ex eF5) (by omega)) (ev_var (i := 6) rfl) (hh2.ex eF5) hm hst hn (fun _ => fbad)) fun v G hd => dp_ifT fll hd) (ed_tup (eds_cons (ed_str ev_c) eds_nil) (by show 1 ≤ 1000; decide)) flat_oh))) (fun z => Bool.noConfusion z) fun _ F4 f4 => ⟨_, rfl, eF.trans ((f1.trans f2).trans (f3.trans f4))⟩
    rintro σ' F ⟨v6, rfl, eF⟩
    have eF2 := g2.trans eF
    have hf2 := hfV.ex eF2
    try dsimp only
    exact s_ret (v := .bl true) (ev_call (ea_cons (ev_var (i := 0) rfl) (ea_cons (ev_var (i := 5) rfl) ea_nil)) fun F1 f1 Q q _ => ⟨.ref a3, fq, n, gs, fl, rfl, hh2.ex (eF2.trans f1), hm, hst, hn, ⟨fs, sq_of ((eF2.trans f1) _ _ hf1), (hf2.ex f1).1, (hf2.ex f1).2⟩, fll, fbad, fun H' e' => q H' e'⟩) fun F1 f1 => k F1 ((e02.trans eF2).trans f1)

theorem er_two {E : XK} {σ : L2.St} {H : Hp} {t : TE} {n : Int} (h : Ev t σ H (.int n)) (hn : 0 ≤ n ∧ n ≤ 25) : EvR (tCall spTwo [] E (tCons t tNil)) σ H fun v _ => ∃ z : Int, v = .int z ∧ 1 ≤ z ∧ z ≤ 33554432 :=
  er_call (vs := [.int n]) (ea_cons h ea_nil) fun H1 e Q q => ⟨n, rfl, hn, fun z H' e' hz => q (.int z) H' e' ⟨z, rfl, hz⟩⟩

theorem ear_cons {te : TE} {ta : TA} {σ : L2.St} {H : Hp} {P : V → Prop} {R : List V → Prop} (h : EvR te σ H fun v _ => P v) (r : EvAR ta σ H fun vs _ => R vs) : EvAR (tCons te ta) σ H fun vs _ => ∃ v us, vs = v :: us ∧ P v ∧ R us := fun H1 e Q q => h H1 e _ fun v H2 e2 p => r H2 (e.trans e2) _ fun us H3 e3 p2 => q _ H3 (e2.trans e3) ⟨v, us, rfl, p, p2⟩
theorem ear_nil {σ : L2.St} {H : Hp} : EvAR tNil σ H fun vs _ => vs = [] := fun H1 _ Q q => q [] H1 (Ex.refl H1) rfl
theorem EvAR.imp {ta : TA} {σ : L2.St} {H : Hp} {P R : List V → Prop} (h : EvAR ta σ H fun vs _ => P vs) (i : ∀ vs, P vs → R vs) : EvAR ta σ H fun vs _ => R vs := fun H1 e Q q => h H1 e Q fun vs H2 e2 p => q vs H2 e2 (i vs p)
theorem er_drawsP {K : PySem.W.Frag} {E : XK} {σ : L2.St} {H : Hp} {tc ts : TE} {ta : TA} {c z : Int} {Ms : List Int → Prop} (hc : Ev tc σ H (.int c)) (hs : Ev ts σ H (.int z)) (hm : EvAR ta σ H fun vs _ => ∃ ms : List Int, vs = ms.map V.int ∧ Ms ms) (h0 : 0 ≤ c) (hz : -1000000 ≤ z ∧ z ≤ 1000000) (hM : ∀ ms, Ms ms → ms.length ≤ 64 ∧ ∀ x ∈ ms, 1 ≤ x ∧ x.natAbs < 2 ^ 1000) : EvR (tCall (sp_draws K) [] E (tCons tc (tCons ts (tCons (tLst ta) tNil)))) σ H fun v G => ∃ p ms ds, v = .ref p ∧ G p = some (.lst (ds.map V.int)) ∧ Ms ms ∧ Drawn ms ds := fun H1 e Q q =>
  hc H1 e _ fun H2 e2 => hs H2 (e.trans e2) _ fun H3 e3 => hm H3 ((e.trans e2).trans e3) _ fun vs H4 e4 hv => by
    obtain ⟨ms, rfl, hMs⟩ := hv
    obtain ⟨hl, hb⟩ := hM ms hMs
    exact ⟨by rw [List.length_map]; exact Nat.le_trans hl (by decide), fun m hm => ⟨c, z, m, ms, rfl, sq_of upd_same, h0, hz, hl, hb, fun p H' ds hp e' h' hD => q _ H' (((e2.trans e3).trans e4).trans ((Ex.new hm).trans e')) ⟨p, ms, ds, rfl, h', hMs, hD⟩⟩⟩
theorem er_bitsF {E : XK} {σ : L2.St} {H : Hp} {t1 t2 : TE} {n z : Int} (h1 : Ev t1 σ H (.int n)) (h2 : Ev t2 σ H (.int z)) (hn : 0 ≤ n ∧ n ≤ 25) : EvR (tCall spBits [] E (tCons t1 (tCons t2 tNil))) σ H fun v G => ∃ (p : Addr) (xs : List Int), v = .ref p ∧ H p = none ∧ G p = some (.lst (xs.map V.int)) ∧ Asc 0 n xs := fun H1 e Q q =>
  h1 H1 e _ fun H2 e2 => h2 H2 (e.trans e2) _ fun H3 e3 => ⟨n, z, rfl, hn, fun p H' xs hp e' h' hA => q _ H' ((e2.trans e3).trans e') ⟨p, xs, rfl, fresh_back ((e.trans e2).trans e3) hp, h', hA⟩⟩
structure SR (G : Hp) (sp : Addr) (vs : List V) (xss : List (List Int)) : Prop where
  at_ : G sp = some (.lst vs)
  len : vs.length = xss.length
  row : ∀ (i : Nat) v, vs[i]? = some v → ∃ t, v = .ref t ∧ t ≠ sp ∧ G t = some (.lst ((xss.getD i []).map V.int))
theorem SR.ex {G G' : Hp} {sp : Addr} {vs : List V} {xss : List (List Int)} (h : SR G sp vs xss) (e : Ex G G') : SR G' sp vs xss := ⟨e _ _ h.at_, h.len, fun i v hv => by
  obtain ⟨t, z1, z2, z3⟩ := h.row i v hv
  exact ⟨t, z1, z2, e _ _ z3⟩⟩
theorem SR.more {G : Hp} {sp t : Addr} {vs : List V} {xss : List (List Int)} {xs : List Int} (h : SR G sp vs xss) (ht : t ≠ sp) (hx : G t = some (.lst (xs.map V.int))) : SR (upd G sp (.lst (vs ++ [.ref t]))) sp (vs ++ [.ref t]) (xss ++ [xs]) := ⟨upd_same, by rw [List.length_append, List.length_append, h.len]; rfl, fun i v hv => by
  have hl := h.len
  by_cases c : i < vs.length
  · rw [List.getElem?_append_left c] at hv
    obtain ⟨t', z1, z2, z3⟩ := h.row i v hv
    exact ⟨t', z1, z2, by rw [upd_ne z2, List.getD_eq_getElem?_getD, List.getElem?_append_left (by omega), ← List.getD_eq_getElem?_getD]; exact z3⟩
  · have hi : i = vs.length := by
      have := (List.getElem?_eq_some_iff.mp hv).1
      rw [List.length_append] at this
      have : i < vs.length + 1 := this
      omega
    subst hi
    rw [List.getElem?_append_right (Nat.le_refl _), Nat.sub_self] at hv
    cases hv
    exact ⟨t, rfl, ht, by rw [upd_ne ht, List.getD_eq_getElem?_getD, hl, List.getElem?_append_right (Nat.le_refl _), Nat.sub_self]; exact hx⟩⟩
theorem SR.rows {K : PySem.W.Frag} {G : Hp} {sp : Addr} {vs : List V} {xss : List (List Int)} (h : SR G sp vs xss) : RowsL K G sp xss := ⟨vs, sq_of h.at_, h.len, fun i v hv => by
  obtain ⟨t, z1, _, z3⟩ := h.row i v hv
  exact ⟨t, z1, sq_of z3⟩⟩
def spSets (K : PySem.W.Frag) : Sp := fun vs H Q _ => ∃ (a : Addr) (ns : List Int) (m n : Nat), vs = [.ref a, .int (m : Int), .int (n : Int)] ∧ SqL K H a (ns.map V.int) ∧ (1 ≤ m ∧ m ≤ 4) ∧ (1 ≤ n ∧ n ≤ 24) ∧ ∀ p xss H', Ex H H' → RowsL K H' p xss → xss.length = m → (∀ xs ∈ xss, Asc 0 (n : Int) xs) → Q (.ref p) H' 
theorem ok_u_law_sets (T : Txt K mg A) : FnOk P w K mg base CX0 3 A.f_u_law_sets A.d_u_law_sets (["script", "gates", "n"] : List Str) (spSets K) := by
  refine T.F_u_law_sets.ok sc_u_law_sets (fun vs H Q E h => ?_) (fun cdv Ar outer s H vs Q E hr h => ?_)
  · obtain ⟨a, ns, m, n, rfl, _⟩ := h
    rfl
  · obtain ⟨a, ns, m, n, rfl, hS, hm, hn, k⟩ := h
    refine ⟨_, (pss_cons (ps_set (i := 3) sc_u_law_sets.nd rfl (Or.inr rfl) (pe_lst pa_nil))
        (pss_cons (ps_for PassesOwn.never rfl (pi_range1 rfl T.z_range (pa_cons (pv 1) pa_nil)) (pg_name (i := 4) sc_u_law_sets.nd rfl (Or.inr rfl)) (pss_cons (ps_set (i := 5) sc_u_law_sets.nd rfl (Or.inr rfl) (pe_call (ok_u_law_draws T) (hr.mono (by omega)) rfl T.g_u_law_draws T.k_u_law_draws (b_u_law_draws T) .nil pass0 (pa_cons (pe_call (ok_u_law_cell T) (hr.mono (by omega)) rfl T.g_u_law_cell T.k_u_law_cell (b_u_law_cell T) .nil pass0 (pa_cons (pv 0) (pa_cons (pe_op op_add pe_int (pv 4)) pa_nil))) (pa_cons (pe_op op_add pe_int (pv 4)) (pa_cons (pe_lst (pa_cons pe_int (pa_cons (pe_call (ok_u_law_two T) (hr.mono (by omega)) rfl T.g_u_law_two T.k_u_law_two (b_u_law_two T) .nil pass0 (pa_cons (pv 2) pa_nil)) (pa_cons (pv 2) pa_nil)))) pa_nil)))))
        (pss_cons (ps_set (i := 6) sc_u_law_sets.nd rfl (Or.inl rfl) (pe_call (ok_u_law_bits T) (hr.mono (by omega)) rfl T.g_u_law_bits T.k_u_law_bits (b_u_law_bits T) .nil pass0 (pa_cons (pv 2) (pa_cons (pe_ix ix_lK (pv 5) pe_int (fun _ _ => rfl)) pa_nil))))
        (pss_cons (ps_if (PW.pt (pw_and (pt_cmpR op_eq (pe_ix ix_lK (pv 5) pe_int (fun _ _ => rfl)) pe_int (nomark _)) (pw_and1 (pt_cmpR op_gt (pv 4) pe_int (nomark _))))) (pss_one (ps_setLc (i := 6) (own := [("t", 7)]) (g := gName 7) rfl sc_u_law_sets.nd rfl rfl (sw_true rfl rfl rfl (by decide +kernel)) (pi_range1 rfl T.z_range (pa_cons (pv 2) pa_nil)) (blkOk_by (own := [("t", 7)]) (N := N_u_law_sets) (sc := defScope s_u_law_sets) (by decide +kernel)) (fun _ _ _ _ _ => (pg_name (i := 7) sc_u_law_sets.nd rfl (Or.inl rfl))) (fun _ _ _ _ _ => (pts_one (pt_cmpR in_K (pe_op op_mod (pe_callTy call_int1 (by rfl) T.z_int (by decide +kernel) (pa_cons (pe_op op_sub (pv 7) (pe_ix ix_lK (pv 5) pe_int (fun _ _ => rfl))) pa_nil)) (pv 2)) (pe_ix ix_lK (pv 3) (pe_op op_sub (pv 4) pe_int) (fun _ _ => rfl)) (by with_unfolding_all rfl)))) (fun _ _ _ _ _ => (pv 7)))) pss_nil)
        (pss_cons (ps_if (pt_cmpR op_eq (pe_ix ix_lK (pv 5) pe_int (fun _ _ => rfl)) pe_int (nomark _)) (pss_one (ps_set (i := 6) sc_u_law_sets.nd rfl (Or.inl rfl) (pe_lst pa_nil))) pss_nil)
        (pss_cons (ps_if (pt_cmpR op_eq (pe_ix ix_lK (pv 5) pe_int (fun _ _ => rfl)) pe_int (nomark _)) (pss_one (ps_setLc (i := 6) (own := [("t", 7)]) (g := gName 7) (tt := tYes) rfl sc_u_law_sets.nd rfl rfl (sw_true rfl rfl rfl (by decide +kernel)) (pi_range1 rfl T.z_range (pa_cons (pv 2) pa_nil)) (blkOk_by (own := [("t", 7)]) (N := N_u_law_sets) (sc := defScope s_u_law_sets) (by decide +kernel)) (fun _ _ _ _ _ => (pg_name (i := 7) sc_u_law_sets.nd rfl (Or.inl rfl))) (fun _ _ _ _ _ => pts_nil) (fun _ _ _ _ _ => (pv 7)))) pss_nil)
        (pss_one (ps_expr (pe_bm PySem.F.plainAttrs_list PySem.F.slot_list_append PySem.F.type_list_append mt_append (pv 3) (pa_cons (pv 6) pa_nil))))))))))
        (pss_one (ps_ret (pv 3))))), ?_⟩
    have npos : (0 : Int) < (n : Int) := by omega
    try dsimp only
    refine q_asgL (xs := []) (el_lst ea_nil (by decide)) fun sp H1 hsp e1 h1 => ?_
    try dsimp only
    refine q_forR1 (j := 4) (n := (m : Int)) (ea_cons (ev_var (i := 1) rfl) ea_nil) (by omega) (fun i σ' G => ∃ (v4 v5 v6 : Option V) (vs : List V) (xss : List (List Int)), σ' = [some (.ref a), some (.int (m : Int)), some (.int (n : Int)), some (.ref sp), v4, v5, v6, none] ∧ Ex H G ∧ SR G sp vs xss ∧ xss.length = i ∧ ∀ xs ∈ xss, Asc 0 (n : Int) xs) (fun G e => ⟨_, _, _, [], [], rfl, e1.trans e, ⟨e _ _ h1, rfl, fun i v hv => by cases hv⟩, rfl, fun xs hx => by cases hx⟩) ?_ ?_
    · rintro i σ' G hi ⟨v4, v5, v6, vs, xss, rfl, eG, hSR, xl, hA⟩
      have hi : i < m := by omega
      have vl := hSR.len
      try dsimp only
      refine q_asgR (er_drawsP (K := K) (Ms := fun ms => ∃ z : Int, ms = [6, z, (n : Int)] ∧ 1 ≤ z ∧ z ≤ 33554432) (ev_cell (k := 3 + i) (ev_var (i := 0) rfl) (ev_op ev_c (ev_var (i := 4) rfl) rv_I0) (ex_l eG hS) (by omega)) (ev_op ev_c (ev_var (i := 4) rfl) rv_I0) (EvAR.imp (ear_cons (er_ev (P := fun v _ => v = .int 6) ev_c fun _ _ => rfl) (ear_cons (er_two (ev_var (i := 2) rfl) (by omega)) (ear_cons (er_ev (P := fun v _ => v = .int (n : Int)) (ev_var (i := 2) rfl) fun _ _ => rfl) ear_nil))) fun vs hv => by
        obtain ⟨_, _, rfl, rfl, _, _, rfl, ⟨z, rfl, z1, z2⟩, _, _, rfl, rfl, rfl⟩ := hv
        exact ⟨[6, z, (n : Int)], rfl, z, rfl, z1, z2⟩) (cellA_nn _ _) (by omega) (fun ms hms => by
        obtain ⟨z, rfl, z1, z2⟩ := hms
        refine ⟨by show 3 ≤ 64; decide, fun x hx => ?_⟩
        simp only [List.mem_cons, List.not_mem_nil, or_false] at hx
        have hb : 1 ≤ x ∧ x ≤ 33554432 := by rcases hx with rfl | rfl | rfl <;> omega
        exact ⟨hb.1, Nat.lt_of_le_of_lt (show x.natAbs ≤ 33554432 by omega) (by decide +kernel)⟩)) fun v H2 e2 hv => ?_
      obtain ⟨dp, ms, ds, rfl, hd, ⟨z, rfl, z1, z2⟩, hD⟩ := hv
      have dl : ds.length = 3 := hD.1
      clear hD
      have e02 := eG.trans e2
      have dE : ∀ {σ : L2.St} {G : Hp} {te : TE} {i : Int}, σ[5]? = some (some (.ref dp)) → Ex H2 G → Ev te σ G (.int i) → 0 ≤ i → i < 3 → Ev (tOp (rIxL K) (tVar 5) te) σ G (.int (ds.getD i.toNat 0)) := fun h e he h0 h1 => ev_op (ev_var h) he (rv_ixL (K := K) (sq_of (e _ _ hd)) (atI_ints h0 (by rw [dl]; omega)))
      have hSR2 := hSR.ex e2
      have notsp : ∀ {G : Hp} {t : Addr}, Ex H2 G → G t = none → t ≠ sp := fun e ht zz => by
        rw [zz, e _ _ hSR2.at_] at ht
        cases ht
      try dsimp only
      refine q_asgR (er_bitsF (n := (n : Int)) (ev_var (i := 2) rfl) (dE rfl (Ex.refl _) ev_c (by decide) (by decide)) (by omega)) fun v H3 e3 hv => ?_
      obtain ⟨hq, xs, rfl, hq0, hq1, hqA⟩ := hv
      have hqs := notsp (Ex.refl _) hq0
      let M : L2.St → Hp → Prop := fun σ' F => ∃ (hq : Addr) (xs : List Int), σ' = [some (.ref a), some (.int (m : Int)), some (.int (n : Int)), some (.ref sp), some (.int (i : Int)), some (.ref dp), some (.ref hq), none] ∧ Ex H2 F ∧ F hq = some (.lst (xs.map V.int)) ∧ hq ≠ sp ∧ Asc 0 (n : Int) xs
      have mk : ∀ {p : Int → Bool} {F F1 : Hp} {q : Addr} (W : L2.St → Hp → Prop), (∀ σ' H', M σ' H' → W σ' H') → Ex H2 F → F q = none → Ex F F1 → F1 q = some (.lst ((hrs (n : Int) p).map V.int)) → W [some (.ref a), some (.int (m : Int)), some (.int (n : Int)), some (.ref sp), some (.int (i : Int)), some (.ref dp), some (.ref q), none] F1 := fun W hW eF hq f hq1 => hW _ _ ⟨_, _, rfl, eF.trans f, hq1, notsp eF hq, asc_hrs (by omega)⟩
      try dsimp only
      refine q_alt (b := decide (ds.getD 0 0 = 3) && decide (0 < (i : Int))) (M := M) (et_and (et_test (ev_is (ev_op (dE rfl e3 ev_c (by decide) (by decide)) ev_c (rv_eq rfl)) (by rw [dec_ii]; rfl))) fun _ => et_test (ev_op (ev_var (i := 4) rfl) ev_c rv_I0)) (fun hb F f W hW => ?_) (fun hb F f => ⟨hq, xs, rfl, e3.trans f, f _ _ hq1, hqs, hqA⟩) fun σ' F hM => ?_
      · have hb := of_decide_eq_true (Bool.and_eq_true _ _ ▸ hb : _ ∧ _).2
        have eF := e3.trans f
        have vi : vs[i - 1]? = some vs[i - 1] := List.getElem?_eq_getElem (by omega)
        obtain ⟨tp, htp, _, hT⟩ := hSR2.row _ _ vi
        rw [htp] at vi
        try dsimp only
        exact s_asgL (el_marks (K := K) (fun x => decide ((x - ds.getD 2 0) % (n : Int) ∈ xss.getD (i - 1) [])) (ea_cons (ev_var (i := 2) rfl) ea_nil) (by omega) (fun x => rfl) (fun x F1 f1 x0 x1 => et_test (ev_op (ev_op (ev_int (ev_op (ev_var (i := 7) rfl) (dE rfl (eF.trans f1) ev_c (by decide) (by decide)) rv_I0)) (ev_var (i := 2) rfl) (rv_I npos)) (ev_op (ev_var (i := 3) rfl) (ev_is (ev_op (ev_var (i := 4) rfl) ev_c rv_I0) (congrArg V.int (show (i : Int) - 1 = ((i - 1 : Nat) : Int) by omega))) (rv_ixL (K := K) (sq_of ((eF.trans f1) _ _ hSR2.at_)) (atI_nat vi))) (rv_inI (K := K) (sq_of ((eF.trans f1) _ _ hT))))) (fun x F1 => ev_var (i := 7) rfl)) fun q F1 hq f1 hq1 => mk W hW eF hq f1 hq1
      clear hqs hqA hq1 hq0
      obtain ⟨hq, xs, rfl, e4, hq1, hqs, hqA⟩ := hM
      try dsimp only
      refine q_alt (b := decide (ds.getD 0 0 = 4)) (M := M) (et_test (ev_is (ev_op (dE rfl e4 ev_c (by decide) (by decide)) ev_c (rv_eq rfl)) (by rw [dec_ii]; rfl))) (fun hb F f W hW => ?_) (fun hb F f => ⟨hq, xs, rfl, e4.trans f, f _ _ hq1, hqs, hqA⟩) fun σ' F hM => ?_
      · exact s_asgL (xs := []) (el_lst ea_nil (by decide)) fun q F1 hq f1 hq1 => hW _ _ ⟨q, [], rfl, (e4.trans f).trans f1, hq1, notsp (e4.trans f) hq, Asc.nil⟩
      clear hqs hqA hq1 e4
      obtain ⟨hq, xs, rfl, e4, hq1, hqs, hqA⟩ := hM
      try dsimp only
      refine q_alt (b := decide (ds.getD 0 0 = 5)) (M := M) (et_test (ev_is (ev_op (dE rfl e4 ev_c (by decide) (by decide)) ev_c (rv_eq rfl)) (by rw [dec_ii]; rfl))) (fun hb F f W hW => ?_) (fun hb F f => ⟨hq, xs, rfl, e4.trans f, f _ _ hq1, hqs, hqA⟩) fun σ' F hM => ?_
      · exact s_asgL (el_marks (K := K) (fun x => true) (ea_cons (ev_var (i := 2) rfl) ea_nil) (by omega) (fun x => rfl) (fun x F1 f1 x0 x1 => yes_T) (fun x F1 => ev_var (i := 7) rfl)) fun q F1 hq f1 hq1 => mk W hW (e4.trans f) hq f1 hq1
      clear hqs hqA hq1 e4
      obtain ⟨hq, xs, rfl, e4, hq1, hqs, hqA⟩ := hM
      have hsp0 : H sp = none := hsp
      try dsimp only
      refine s_app (xs := vs) (e4 _ _ hSR2.at_) (ev_var (i := 3) rfl) (ev_var (i := 6) rfl) (by omega) fun F1 f1 => ⟨_, _, _, vs ++ [.ref hq], xss ++ [xs], rfl, Ex.mut ((e02.trans e4).trans f1) hsp0, (hSR2.ex (e4.trans f1)).more hqs (f1 _ _ hq1), by rw [List.length_append, xl]; rfl, fun ys hy => ?_⟩
      rcases List.mem_append.mp hy with h | h
      · exact hA ys h
      · rw [List.mem_singleton.mp h]; exact hqA
    rintro σ' G ⟨v4, v5, v6, vs, xss, rfl, eG, hSR, xl, hA⟩
    exact s_ret (ev_var (i := 3) rfl) fun G1 g1 => k sp xss G1 (eG.trans g1) (hSR.ex g1).rows (by rw [xl, Int.toNat_natCast]) hA

def spLaw (K : PySem.W.Frag) : Sp := fun vs H Q _ => ∃ (a : Addr) (ns : List Int), vs = [.ref a] ∧ SqL K H a (ns.map V.int) ∧ ns.length ≤ 63 ∧ ∀ H', Q (.bl true) H'

structure GoodG (gs : List (Str × Int)) (m : Nat) : Prop where
  len : gs.length = m
  nd : (gs.map (·.1)).Nodup
  all : ∀ g ∈ gs, Word g.1 ∧ 0 ≤ g.2 ∧ g.2 ≤ 60
theorem cut_upto {xs : List Int} {k : Nat} (h : k ≤ xs.length) : cutV (xs.map V.int) none (some (k : Int)) = (xs.take k).map V.int := by
  unfold cutV
  rw [HT.sIx_none, HT.sIx_nat, List.length_map, List.drop_zero, Nat.min_eq_left h, Nat.sub_zero, List.map_take]
theorem cut_from {xs : List Int} {k m : Nat} (h : k + m ≤ xs.length) : cutV (xs.map V.int) (some (k : Int)) (some ((k : Int) + (m : Int))) = ((xs.drop k).take m).map V.int := by
  unfold cutV
  rw [show (k : Int) + (m : Int) = ((k + m : Nat) : Int) by omega, HT.sIx_nat, HT.sIx_nat, List.length_map, Nat.min_eq_left h, Nat.min_eq_left (by omega), List.map_take, List.map_drop, Nat.add_sub_cancel_left]

theorem er_houseE {K : PySem.W.Frag} {A : Ads} {E : XK} {σ : L2.St} {H : Hp} {t1 t2 : TE} {n : Nat} {m : Nat} {gs : List (Str × Int)} (h1 : Ev t1 σ H (.int (n : Int))) (h2 : EvR t2 σ H fun v G => ∃ p, v = .ref p ∧ Gates K G p gs) (hg : GoodG gs m) (hn : 1 ≤ n ∧ n ≤ 24) (hm : 1 ≤ m ∧ m ≤ 4) (hc : m * n ≤ 48) :
    EvR (tMake A.C_House (spHouse K A) [] E (tCons t1 (tCons t2 tNil))) σ H fun v G => HouseIs A.C_House v G (n : Int) gs := fun H1 e Q q => h1 H1 e _ fun H2 e2 => h2 H2 (e.trans e2) _ fun v H3 e3 hv => by
  obtain ⟨p, rfl, hG⟩ := hv
  intro x dx hx hdx hne
  have eN : Ex H3 (upd (upd H3 dx (.own x)) x (.ins A.C_House dx [])) := (Ex.new hdx).trans (Ex.new (by rw [upd_ne (Ne.symm hne)]; exact hx))
  have good := house_good (n := (n : Int)) (by omega) (by rw [hg.len]; exact hm) hg.all hg.nd (by rw [hg.len, ← Int.natCast_mul, Nat.mul_comm]; omega)
  refine ⟨x, dx, p, n, gs, rfl, upd_same, hG.ex eN, by rw [hg.len]; omega, (fun g hm => by have := (hg.all g hm).1.len; omega), (fun er he => by rw [good] at he; cases he), fun _ np kp H' hk hn1 hn2 f1 f2 f3 => ⟨rfl, ?_⟩⟩
  have e' : Ex H3 H' := fun c o hc => hk c o (fun z => by rw [z, hx] at hc; cases hc) (eN c o hc)
  exact q _ H' ((e2.trans e3).trans e') ⟨x, dx, np, kp, rfl, f1, f2, f3⟩
theorem el_copyB {K : PySem.W.Frag} {te : TE} {σ : L2.St} {H : Hp} {p : Addr} {xs : List V} (h : Ev te σ H (.ref p)) (hp : SqL K H p xs) : EvL (tCB (rListK K) (tCons te tNil)) σ H xs := fun H1 e Q q =>
  h H1 e _ fun H2 e2 => ⟨p, xs, rfl, .inl (ex_l (e.trans e2) hp), fun l hl => q l _ (fresh_back e2 hl) (e2.trans (Ex.new hl)) upd_same⟩
theorem at_st {tz : TS} {D : Ends} {σ σ' : L2.St} {H : Hp} (h : σ = σ') (k : tz D σ' H) : tz D σ H := by rw [h]; exact k

theorem ev_ixl {K : PySem.W.Frag} {tl ti : TE} {σ : L2.St} {H : Hp} {xs : List Int} {i : Int} (hl : EvL tl σ H (xs.map V.int)) (hi : Ev ti σ H (.int i)) (hb : 0 ≤ i ∧ i < (xs.length : Int)) : Ev (tOp (rIxL K) tl ti) σ H (.int (xs.getD i.toNat 0)) := fun H1 e Q q => hl H1 e _ fun p H2 _ e2 h2 => hi H2 (e.trans e2) _ fun H3 e3 =>
  ⟨p, _, i, _, rfl, rfl, sq_of (e3 _ _ h2), atI_ints hb.1 hb.2, q H3 (e2.trans e3)⟩

theorem nf_self {K : PySem.W.Frag} {C : Addr} : PySem.W.notFirst K C (.ref C) = true := by
  unfold PySem.W.notFirst
  simp
abbrev TyL (K : PySem.W.Frag) (A : Ads) : Prop := ∀ (H : Hp) (a dx : Addr) (fs : List (Str × V)), H a = some (.ins A.C_Lot dx fs) → TyX K H (.ref a) (.ref A.C_Lot)
theorem ev_neLL {K : PySem.W.Frag} {A : Ads} {E : L2.St → XK} {ta tb : TE} {σ : L2.St} {H : Hp} {n m : Int} {xs ys : List Int} (ty : TyL K A) (ha : EvR ta σ H fun v H1 => LotIs A.C_Lot v H1 n xs) (hb : EvR tb σ H fun v H1 => LotIs A.C_Lot v H1 m ys) {z : Bool} (hz : decide (n = m ∧ xs = ys) = z) :
    Ev (tOpS (rOwnNe K A.C_Lot (spLotEqK K A) E) ta tb) σ H (.bl (!z)) := fun H1 e Q q =>
  ha H1 e _ fun v H2 e2 hv => hb H2 (e.trans e2) _ fun w H3 e3 hw => by
    have hv3 := hv.ex e3
    obtain ⟨a, dx, l, rfl, h1, _⟩ := id hv3.at_
    obtain ⟨b, dy, l', rfl, g1, _⟩ := id hw.at_
    exact ⟨a, dx, _, _, rfl, h1, ty H3 b dy _ g1, nf_self, _, _, n, xs, rfl, hv3, .inl ⟨m, ys, hw, fun H' e' => ⟨z, by rw [hz], q H' ((e2.trans e3).trans e')⟩⟩⟩

theorem er_gatesS {K : PySem.W.Frag} {E : XK} {σ : L2.St} {H : Hp} {t1 t2 : TE} {ns ss : List Int} {m : Nat} (h1 : EvL t1 σ H (ns.map V.int)) (h2 : EvR t2 σ H fun v G => ∃ (p : Addr), v = .ref p ∧ SqL K G p (ss.map V.int)) (hm : ns.length = m) (hs : ss.length = m) (ha : ∀ s ∈ ss, 0 ≤ s ∧ s ≤ 60) (hl : m ≤ 7) :
    EvR (tCall (spGates K) [] E (tCons t1 (tCons t2 tNil))) σ H fun v G => ∃ p gs, v = .ref p ∧ Gates K G p gs ∧ GoodG gs m ∧ gs.map (·.2) = ss := fun H1 e Q q => h1 H1 e _ fun a H2 _ e2 g2 => h2 H2 (e.trans e2) _ fun v H3 e3 hv => by
  obtain ⟨b, rfl, g3⟩ := hv
  exact ⟨a, b, ns, ss, rfl, sq_of (e3 _ _ g2), g3, by omega, by omega, ha, fun v H' gs e' hn h4 hd hw hst => q v H' ((e2.trans e3).trans e') (by
    obtain ⟨p, z1, hG⟩ := hn.self
    exact ⟨p, gs, z1, hG, ⟨h4.trans hm, hd, fun g hg => hw g hg⟩, by rw [hst, List.take_of_length_le (by omega)]⟩)⟩
theorem er_houseS {K : PySem.W.Frag} {A : Ads} {E : XK} {σ : L2.St} {H : Hp} {t1 t2 : TE} {n m : Nat} {ss : List Int} (h1 : Ev t1 σ H (.int (n : Int))) (h2 : EvR t2 σ H fun v G => ∃ p gs, v = .ref p ∧ Gates K G p gs ∧ GoodG gs m ∧ gs.map (·.2) = ss) (hn : 1 ≤ n ∧ n ≤ 24) (hm : 1 ≤ m ∧ m ≤ 4) (hc : m * n ≤ 48) : EvR (tMake A.C_House (spHouse K A) [] E (tCons t1 (tCons t2 tNil))) σ H fun v G => ∃ gs, HouseIs A.C_House v G (n : Int) gs ∧ GoodG gs m ∧ gs.map (·.2) = ss := fun H1 e Q q => h1 H1 e _ fun H2 e2 => h2 H2 (e.trans e2) _ fun v H3 e3 hv => by
  obtain ⟨p, gs, rfl, hG, hg, hs⟩ := hv
  exact (er_houseE (K := K) (A := A) (E := E) (σ := σ) (H := H3) (n := n) (t1 := tC (.int (n : Int))) (t2 := tC (.ref p)) (gs := gs) ev_c (er_ev ev_c fun G e => ⟨p, rfl, hG.ex e⟩) hg hn hm hc) H3 (Ex.refl _) Q fun v H4 e4 hh => q v H4 ((e2.trans e3).trans e4) ⟨gs, hh, hg, hs⟩
theorem er_sets {K : PySem.W.Frag} {E : XK} {σ : L2.St} {H : Hp} {t1 t2 t3 : TE} {a : Addr} {ns : List Int} {m n : Nat} (h1 : Ev t1 σ H (.ref a)) (h2 : Ev t2 σ H (.int (m : Int))) (h3 : Ev t3 σ H (.int (n : Int))) (hS : SqL K H a (ns.map V.int)) (hm : 1 ≤ m ∧ m ≤ 4) (hn : 1 ≤ n ∧ n ≤ 24) : EvR (tCall (spSets K) [] E (tCons t1 (tCons t2 (tCons t3 tNil)))) σ H fun v G => ∃ p xss, v = .ref p ∧ RowsL K G p xss ∧ xss.length = m ∧ ∀ xs ∈ xss, Asc 0 (n : Int) xs := fun H1 e Q q => h1 H1 e _ fun H2 e2 => h2 H2 (e.trans e2) _ fun H3 e3 => h3 H3 ((e.trans e2).trans e3) _ fun H4 e4 =>
  ⟨a, ns, m, n, rfl, ex_l (((e.trans e2).trans e3).trans e4) hS, hm, hn, fun p xss H' e' z1 z2 z3 => q _ H' (((e2.trans e3).trans e4).trans e') ⟨p, xss, rfl, z1, z2, z3⟩⟩
theorem ev_told {K : PySem.W.Frag} {A : Ads} {E : XK} {σ : L2.St} {H : Hp} {t1 t2 t3 t4 : TE} {hv : V} {p sp tp : Addr} {n : Nat} {gs : List (Str × Int)} {xss : List (List Int)} (h1 : Ev t1 σ H hv) (h2 : Ev t2 σ H (.ref p)) (h3 : Ev t3 σ H (.ref sp)) (h4 : Ev t4 σ H (.ref tp)) (hh : HouseIs A.C_House hv H (n : Int) gs) (hm : 1 ≤ gs.length ∧ gs.length ≤ 4) (hst : ∀ g ∈ gs, 0 ≤ g.2 ∧ g.2 ≤ 60) (hn : 1 ≤ n ∧ n ≤ 24) (hL : LotsL K A H p (xss.map fun xs => ((n : Int), xs))) (hl : xss.length = gs.length) (hs : SqL K H sp ((gs.map (·.2)).map V.int)) (hX : RowsL K H tp xss) (hA : ∀ xs ∈ xss, Asc 0 (n : Int) xs) : Ev (tCall (spTold K A) [] E (tCons t1 (tCons t2 (tCons t3 (tCons t4 tNil))))) σ H (.bl true) :=
  ev_call (ea_cons h1 (ea_cons h2 (ea_cons h3 (ea_cons h4 ea_nil)))) fun H1 e Q q _ => ⟨hv, p, sp, tp, n, gs, xss, rfl, hh.ex e, hm, hst, hn, hL.ex e, hl, ex_l e hs, hX.ex e, hA, fun H' e' => q H' e'⟩
theorem en_mkBack {K : PySem.W.Frag} {A : Ads} {E : XK} {σ : L2.St} {H : Hp} {tn : TE} {tt : TT} {te : TE} {ta : TA} {j : Nat} {vs : List Nat} {n : Nat} {xs : List Int} (hs : Ev tn σ H (.int (n : Int))) (ha : EvA ta σ H [.int (n : Int)]) (hn : 1 ≤ n ∧ n ≤ 24) (hA : Asc 0 (n : Int) xs) (hw : ∀ x, wipe ((wipe σ vs).set j (some x)) vs = wipe σ vs)
    (ht : ∀ (i : Nat) H1, Ex H H1 → (i : Int) < n → EvT tt ((wipe σ vs).set j (some (.int (i : Int)))) H1 (decide ((n : Int) - 1 - (i : Int) ∈ xs)))
    (he : ∀ (i : Nat) H1, Ex H H1 → (i : Int) < n → Ev te ((wipe σ vs).set j (some (.int (i : Int)))) H1 (.int ((n : Int) - 1 - (i : Int)))) :
    EvNew (tMake A.C_Lot (spLotInit K A) [] E (tCons tn (tCons (tLc (iRng1 ta) (gName j) tt te vs) tNil))) σ H fun v G => LotIs A.C_Lot v G (n : Int) xs := by
  have em : ∀ z, z ∈ pick n (fun i => decide ((n : Int) - 1 - (i : Int) ∈ xs)) (fun i => (n : Int) - 1 - (i : Int)) ↔ z ∈ xs := fun z => by
    unfold pick
    rw [List.mem_map]
    constructor
    · rintro ⟨i, hi, rfl⟩
      exact of_decide_eq_true (List.mem_filter.mp hi).2
    · intro hz
      have hb := hA.2 z hz
      refine ⟨((n : Int) - 1 - z).toNat, List.mem_filter.mpr ⟨List.mem_range.mpr (by omega), ?_⟩, by omega⟩
      rw [decide_eq_true_iff, show (n : Int) - 1 - ((((n : Int) - 1 - z).toNat : Nat) : Int) = z by omega]
      exact hz
  have nd : (pick n (fun i => decide ((n : Int) - 1 - (i : Int) ∈ xs)) (fun i => (n : Int) - 1 - (i : Int))).Nodup := List.pairwise_map.mpr ((List.nodup_range.filter _).imp fun h z => h (by omega))
  generalize hms : pick n (fun i => decide ((n : Int) - 1 - (i : Int) ∈ xs)) (fun i => (n : Int) - 1 - (i : Int)) = ms at *
  have hmod : (ms.map fun x => x % (n : Int)) = ms := (List.map_congr_left (g := id) fun z hz => by have := hA.2 z ((em z).mp hz); exact Int.emod_eq_of_lt this.1 this.2).trans (List.map_id _)
  have h := en_mkLot (K := K) (A := A) (E := E) (σ := σ) (H := H) (tl := tLc (iRng1 ta) (gName j) tt te vs) (n := (n : Int)) (ms := ms) (p := fun z => decide (z ∈ xs)) hs (EvR.imp (er_L (el_isW (el_rng1 (fun i => decide ((n : Int) - 1 - (i : Int) ∈ xs)) (fun i => V.int ((n : Int) - 1 - (i : Int))) ha (by omega) hw ht (fun i H1 e hi _ => he i H1 e hi)) (by rw [Int.toNat_natCast, given_pick, hms]))) fun v G ⟨q, z1, z2⟩ => ⟨q, z1, sq_of z2⟩) (by omega) (by rw [hmod]; exact nd) (fun z z0 z1 => by rw [hmod, em]; simp)
  rw [hrs_eq (by omega) hA fun z _ _ => by simp] at h
  exact h

theorem ok_law (T : Txt K mg A) : FnOk P w K mg base CX0 20 A.f_law A.d_law (["script"] : List Str) (spLaw K) := by
  refine T.F_law.ok sc_law (fun vs H Q E h => ?_) (fun cdv Ar outer s H vs Q E hr h => ?_)
  · obtain ⟨a, ns, rfl, _⟩ := h
    rfl
  · obtain ⟨sa, ns, rfl, hS, hl, k⟩ := h
    refine ⟨_, (pss_cons (ps_set (i := 1) sc_law.nd rfl (Or.inl rfl) (pe_call (ok_u_law_draws T) (hr.mono (by omega)) rfl T.g_u_law_draws T.k_u_law_draws (b_u_law_draws T) .nil pass0 (pa_cons (pe_call (ok_u_law_cell T) (hr.mono (by omega)) rfl T.g_u_law_cell T.k_u_law_cell (b_u_law_cell T) .nil pass0 (pa_cons (pv 0) (pa_cons pe_int pa_nil))) (pa_cons pe_int (pa_cons (pe_lst (pa_cons pe_int (pa_cons pe_int (pa_cons pe_int (pa_cons pe_int (pa_cons pe_int pa_nil)))))) pa_nil)))))
        (pss_cons (ps_set (i := 2) sc_law.nd rfl (Or.inl rfl) (pe_op op_add pe_int (pe_ix ix_lK (pv 1) pe_int (fun _ _ => rfl))))
        (pss_cons (ps_set (i := 3) sc_law.nd rfl (Or.inr rfl) (pe_op op_add pe_int (pe_op op_mod (pe_callTy call_int1 (by rfl) T.z_int (by decide +kernel) (pa_cons (pe_ix ix_lK (pv 1) pe_int (fun _ _ => rfl)) pa_nil)) pe_int)))
        (pss_cons (ps_if (pt_cmpR op_eq (pe_ix ix_lK (pv 1) pe_int (fun _ _ => rfl)) pe_int (nomark _)) (pss_one (ps_set (i := 3) sc_law.nd rfl (Or.inr rfl) (pe_op op_add pe_int (pe_op op_mod (pe_callTy call_int1 (by rfl) T.z_int (by decide +kernel) (pa_cons (pe_ix ix_lK (pv 1) pe_int (fun _ _ => rfl)) pa_nil)) (pe_ix ix_lK (pe_lst (pa_cons pe_int (pa_cons pe_int (pa_cons pe_int (pa_cons pe_int pa_nil))))) (pe_op op_sub (pv 2) pe_int) (fun _ _ => rfl)))))) pss_nil)
        (pss_cons (ps_set (i := 4) sc_law.nd rfl (Or.inl rfl) (pe_call (ok_u_law_draws T) (hr.mono (by omega)) rfl T.g_u_law_draws T.k_u_law_draws (b_u_law_draws T) .nil pass0 (pa_cons (pe_call (ok_u_law_cell T) (hr.mono (by omega)) rfl T.g_u_law_cell T.k_u_law_cell (b_u_law_cell T) .nil pass0 (pa_cons (pv 0) (pa_cons pe_int pa_nil))) (pa_cons pe_int (pa_cons (pe_op op_cat (pe_op op_cat (pe_op op_rep (pe_lst (pa_cons (pe_op op_pow pe_int pe_int) pa_nil)) (pv 2)) (pe_op op_rep (pe_lst (pa_cons pe_int pa_nil)) (pv 2))) (pe_lst (pa_cons pe_int pa_nil))) pa_nil)))))
        (pss_cons (ps_set (i := 5) sc_law.nd rfl (Or.inl rfl) (pe_slice sl_list (pv 4) (po_some (pv 2)) (po_some (pe_op op_mul pe_int (pv 2)))))
        (pss_cons (ps_if (pt_cmpR op_eq (pe_ix ix_lK (pv 4) (pe_op op_mul pe_int (pv 2)) (fun _ _ => rfl)) pe_int (nomark _)) (pss_one (ps_setLc (i := 5) (own := [("stake", 6)]) (g := gName 6) (tt := tYes) rfl sc_law.nd rfl rfl (sw_true rfl rfl rfl (by decide +kernel)) (pi_listK (pv 5)) (blkOk_by (own := [("stake", 6)]) (N := N_law) (sc := defScope s_law) (by decide +kernel)) (fun _ _ _ _ _ => (pg_name (i := 6) sc_law.nd rfl (Or.inl rfl))) (fun _ _ _ _ _ => pts_nil) (fun _ _ _ _ _ => (pe_op op_mod (pe_callTy call_int1 (by rfl) T.z_int (by decide +kernel) (pa_cons (pv 6) pa_nil)) pe_int)))) pss_nil)
        (pss_cons (ps_set (i := 7) sc_law.nd rfl (Or.inl rfl) (pe_call (ok_u_law_draws T) (hr.mono (by omega)) rfl T.g_u_law_draws T.k_u_law_draws (b_u_law_draws T) .nil pass0 (pa_cons (pe_call (ok_u_law_cell T) (hr.mono (by omega)) rfl T.g_u_law_cell T.k_u_law_cell (b_u_law_cell T) .nil pass0 (pa_cons (pv 0) (pa_cons pe_int pa_nil))) (pa_cons pe_int (pa_cons (pe_op op_rep (pe_lst (pa_cons pe_int pa_nil)) (pv 2)) pa_nil)))))
        (pss_cons (ps_set (i := 8) sc_law.nd rfl (Or.inl rfl) (pe_call (ok_u_law_sets T) (hr.mono (by omega)) rfl T.g_u_law_sets T.k_u_law_sets (b_u_law_sets T) .nil pass0 (pa_cons (pv 0) (pa_cons (pv 2) (pa_cons (pv 3) pa_nil)))))
        (pss_cons (ps_setLc (i := 9) (own := [("hours", 10)]) (g := gName 10) (tt := tYes) rfl sc_law.nd rfl rfl (sw_true rfl rfl rfl (by decide +kernel)) (pi_listK (pv 8)) (blkOk_by (own := [("hours", 10)]) (N := N_law) (sc := defScope s_law) (by decide +kernel)) (fun _ _ _ _ _ => (pg_name (i := 10) sc_law.nd rfl (Or.inr rfl))) (fun _ _ _ _ _ => pts_nil) (fun _ _ _ _ _ => (pe_make T.mk_Lot (ok_Lot_init T) (hr.mono (by omega)) rfl T.g_Lot (b_Lot_init T) .nil passL (pa_cons (pv 3) (pa_cons (pe_lc (own := [("h", 11)]) (g := gName 11) rfl sc_law.nd (pi_range1 rfl T.z_range (pa_cons (pv 3) pa_nil)) (by dsimp only [cxOf, Cx.nox, Cx.blk, compEnvC]; show BlkOk _ (relS _ (defScope s_law)) _ _; exact blkOk_by (own := [("h", 11)]) (N := N_law) (by decide +kernel)) (fun _ _ _ _ _ => (pg_name (i := 11) sc_law.nd rfl (Or.inl rfl))) (fun _ _ _ _ _ => (pts_one (pt_cmpR in_K (pe_op op_sub (pe_op op_sub (pv 3) pe_int) (pv 11)) (pv 10) (by with_unfolding_all rfl)))) (fun _ _ _ _ _ => (pe_op op_sub (pe_op op_sub (pv 3) pe_int) (pv 11)))) pa_nil)))))
        (pss_cons (ps_set (i := 12) sc_law.nd rfl (Or.inl rfl) (pe_callTy list_K (by rfl) T.z_list (by decide +kernel) (pa_cons (pv 9) pa_nil)))
        (pss_cons (ps_set (i := 13) sc_law.nd rfl (Or.inl rfl) (pe_make T.mk_House (ok_House_init T) (hr.mono (by omega)) rfl T.g_House (b_House_init T) .nil passL (pa_cons (pv 3) (pa_cons (pe_call (ok_u_law_gates T) (hr.mono (by omega)) rfl T.g_u_law_gates T.k_u_law_gates (b_u_law_gates T) .nil pass0 (pa_cons (pe_slice sl_list (pv 4) po_none (po_some (pv 2))) (pa_cons (pv 5) pa_nil))) pa_nil))))
        (pss_cons (ps_set (i := 14) sc_law.nd rfl (Or.inl rfl) (pe_make T.mk_House (ok_House_init T) (hr.mono (by omega)) rfl T.g_House (b_House_init T) .nil passL (pa_cons (pv 3) (pa_cons (pe_call (ok_u_law_gates T) (hr.mono (by omega)) rfl T.g_u_law_gates T.k_u_law_gates (b_u_law_gates T) .nil pass0 (pa_cons (pe_slice sl_list (pv 4) po_none (po_some (pv 2))) (pa_cons (pv 7) pa_nil))) pa_nil))))
        (pss_cons (ps_if (PW.pt (pw_or (pt_not (pt_val (pe_call (ok_u_law_told T) (hr.mono (by omega)) rfl T.g_u_law_told T.k_u_law_told (b_u_law_told T) .nil pass0 (pa_cons (pv 13) (pa_cons (pv 12) (pa_cons (pv 5) (pa_cons (pv 8) pa_nil))))))) (pw_or1 (pt_not (pt_val (pe_call (ok_u_law_told T) (hr.mono (by omega)) rfl T.g_u_law_told T.k_u_law_told (b_u_law_told T) .nil pass0 (pa_cons (pv 14) (pa_cons (pv 12) (pa_cons (pv 7) (pa_cons (pv 8) pa_nil)))))))))) (pss_one (ps_ret pe_bl)) pss_nil)
        (pss_cons (ps_if (pt_not (pt_val (pe_call (ok_u_law_faults T) (hr.mono (by omega)) rfl T.g_u_law_faults T.k_u_law_faults (b_u_law_faults T) .nil pass0 (pa_cons (pv 13) (pa_cons (pv 9) (pa_cons (pe_op op_mod (pe_callTy call_int1 (by rfl) T.z_int (by decide +kernel) (pa_cons (pe_ix ix_lK (pv 1) pe_int (fun _ _ => rfl)) pa_nil)) (pv 2)) (pa_cons (pe_cmpR op_eq (pe_ix ix_lK (pv 1) pe_int (fun _ _ => rfl)) pe_int (nomark _)) pa_nil))))))) (pss_one (ps_ret pe_bl)) pss_nil)
        (pss_cons (ps_if (PW.pt (pw_or (pt_not (pt_val (pe_call (ok_u_law_told T) (hr.mono (by omega)) rfl T.g_u_law_told T.k_u_law_told (b_u_law_told T) .nil pass0 (pa_cons (pv 13) (pa_cons (pv 12) (pa_cons (pv 5) (pa_cons (pv 8) pa_nil))))))) (pw_or1 (pt_cmpR op_ne (pe_callB len_K (by rfl) T.z_len (by decide +kernel) (pa_cons (pv 12) pa_nil)) (pv 2) (nomark _))))) (pss_one (ps_ret pe_bl)) pss_nil)
        (pss_cons (ps_for PassesOwn.never rfl (pi_range1 rfl T.z_range (pa_cons (pv 2) pa_nil)) (pg_name (i := 15) sc_law.nd rfl (Or.inl rfl)) (pss_one (ps_if (PW.pt (pw_or (pt_cmpS (op_neO (E := fun _ => E0) T.ne_Lot T.M_Lot_eq (ok_Lot_eq T) (hr.mono (by omega)) (b_Lot_eq T) (pAt pass0)) (pe_ix ix_lK (pv 12) (pv 15) (fun _ _ => rfl)) (pe_ix ix_lK (pv 9) (pv 15) (fun _ _ => rfl)) (nomark _)) (pw_or1 (pt_not (pt_val (pe_call (ok_u_law_same T) (hr.mono (by omega)) rfl T.g_u_law_same T.k_u_law_same (b_u_law_same T) .nil pass0 (pa_cons (pe_prop (pe_ix ix_lK (pv 12) (pv 15) (fun _ _ => rfl)) T.cl_Lot T.P_Lot_members (ok_Lot_members T) (hr.mono (by omega)) (b_Lot_members T) .nil pass0 rfl) (pa_cons (pe_ix ix_lK (pv 8) (pv 15) (fun _ _ => rfl)) pa_nil)))))))) (pss_one (ps_ret pe_bl)) pss_nil)))
        (pss_one (ps_ret pe_bl))))))))))))))))))), ?_⟩
    try dsimp only
    refine q_asgR (er_draws (K := K) (ms := [4, 3, 24, 4, 2]) (ev_cell (k := 0) (ev_var rfl) ev_c hS) ev_c (el_lst (ea_cons ev_c (ea_cons ev_c (ea_cons ev_c (ea_cons ev_c (ea_cons ev_c ea_nil))))) (by show 5 ≤ 100000; decide)) (cellA_nn _ _) (by decide) (by decide) (by decide +kernel)) fun v H1 e1 hp => ?_
    obtain ⟨dp, ds, rfl, hd, hD⟩ := hp
    have dl : ds.length = 5 := hD.1
    have d0 : 0 ≤ ds.getD 0 0 ∧ ds.getD 0 0 < 4 := drawn_at hD rfl
    clear hD
    have dE : ∀ {σ : L2.St} {G : Hp} {te : TE} {i : Int}, σ[1]? = some (some (.ref dp)) → Ex H1 G → Ev te σ G (.int i) → 0 ≤ i → i < 5 → Ev (tOp (rIxL K) (tVar 1) te) σ G (.int (ds.getD i.toNat 0)) := fun h e he h0 h1 => ev_op (ev_var h) he (rv_ixL (K := K) (sq_of (e _ _ hd)) (atI_ints h0 (by rw [dl]; omega)))
    obtain ⟨m, hm⟩ : ∃ g : Nat, 1 + ds.getD 0 0 = (g : Int) := ⟨(1 + ds.getD 0 0).toNat, by omega⟩
    try dsimp only
    refine q_asg (v := .int (m : Int)) (ev_is (ev_op ev_c (dE rfl (Ex.refl _) ev_c (by decide) (by decide)) rv_I0) (congrArg V.int hm)) fun H2 e2 => ?_
    have hmb : 1 ≤ m ∧ m ≤ 4 := by omega
    obtain ⟨n0, hn0, n01, n02⟩ : ∃ n : Nat, 1 + ds.getD 2 0 % 8 = (n : Int) ∧ 1 ≤ n ∧ n ≤ 8 := ⟨(1 + ds.getD 2 0 % 8).toNat, by omega, by omega, by omega⟩
    try dsimp only
    refine q_asg (v := .int (n0 : Int)) (ev_is (ev_op ev_c (ev_op (ev_int (dE rfl e2 ev_c (by decide) (by decide))) ev_c (rv_I (show (0 : Int) < 8 by decide))) rv_I0) (congrArg V.int hn0)) fun H3 e3 => ?_
    clear hn0 hm d0
    obtain ⟨w, hw, w1, w2, w3⟩ : ∃ w : Nat, ([24, 24, 16, 12] : List Int).getD ((m : Int) - 1).toNat 0 = (w : Int) ∧ 1 ≤ w ∧ w ≤ 24 ∧ m * w ≤ 48 := by
      have : m = 1 ∨ m = 2 ∨ m = 3 ∨ m = 4 := by omega
      rcases this with rfl | rfl | rfl | rfl
      · exact ⟨24, rfl, by decide, by decide, by decide⟩
      · exact ⟨24, rfl, by decide, by decide, by decide⟩
      · exact ⟨16, rfl, by decide, by decide, by decide⟩
      · exact ⟨12, rfl, by decide, by decide, by decide⟩
    have wpos : (0 : Int) < (w : Int) := by omega
    have q0 := Int.emod_nonneg (ds.getD 2 0) (b := (w : Int)) (by omega)
    have q1 := Int.emod_lt_of_pos (ds.getD 2 0) wpos
    obtain ⟨n1, hn1⟩ : ∃ n : Nat, 1 + ds.getD 2 0 % (w : Int) = (n : Int) := ⟨(1 + ds.getD 2 0 % (w : Int)).toNat, by omega⟩
    have n1w : n1 ≤ w := by omega
    have n11 : 1 ≤ n1 := by omega
    clear q0 q1
    try dsimp only
    refine q_alt (b := decide (ds.getD 1 0 = 2)) (M := fun σ' G => ∃ n : Nat, σ' = [some (.ref sa), some (.ref dp), some (.int (m : Int)), some (.int (n : Int)), none, none, none, none, none, none, none, none, none, none, none, none] ∧ Ex H2 G ∧ (1 ≤ n ∧ n ≤ 24) ∧ m * n ≤ 48) (et_test (ev_is (ev_op (dE rfl (e2.trans e3) ev_c (by decide) (by decide)) ev_c (rv_eq rfl)) (by rw [dec_ii]; rfl))) (fun hb G g W hW => ?_) (fun hb G g => ⟨n0, rfl, e3.trans g, ⟨n01, by omega⟩, Nat.le_trans (Nat.mul_le_mul hmb.2 n02) (by decide)⟩) fun σ' H4 hM => ?_
    · try dsimp only
      exact s_asg (v := .int (n1 : Int)) (ev_is (ev_op ev_c (ev_op (ev_int (dE rfl ((e2.trans e3).trans g) ev_c (by decide) (by decide))) (ev_is (ev_ixl (K := K) (xs := [24, 24, 16, 12]) (el_lst (ea_cons ev_c (ea_cons ev_c (ea_cons ev_c (ea_cons ev_c ea_nil)))) (by show 4 ≤ 100000; decide)) (ev_op (ev_var (i := 2) rfl) ev_c rv_I0) ⟨by omega, by show (m : Int) - 1 < 4; omega⟩) (congrArg V.int hw)) (rv_I wpos)) rv_I0) (congrArg V.int hn1)) fun G1 g1 => hW _ _ ⟨n1, rfl, (e3.trans g).trans g1, ⟨n11, by omega⟩, Nat.le_trans (Nat.mul_le_mul_left m n1w) w3⟩
    clear hw w1 w2 w3 wpos hn1 n1w n11 n01 n02 e3
    obtain ⟨n, rfl, e4, hn, hmn⟩ := hM
    have e14 := e2.trans e4
    have e04 := e1.trans e14
    have c9 : ∀ {σ : L2.St} {G : Hp}, Ev (tOp (rI CPow fun i j => V.int (i ^ j.toNat)) (tC (.int 10)) (tC (.int 9))) σ G (.int (10 ^ 9)) := ev_op ev_c ev_c (rv_I (show CPow 10 9 from ⟨by decide, by decide, by decide⟩))
    have repm : ∀ {σ : L2.St} {G : Hp} {te : TE} {z : Int}, σ[2]? = some (some (.int (m : Int))) → Ev te σ G (.int z) → EvL (tOp rRep (tLst (tCons te tNil)) (tVar 2)) σ G ((List.replicate m z).map V.int) := fun h he => el_isW (el_rep he (ev_var h) (by omega)) (by rw [Int.toNat_natCast])
    obtain ⟨ms, hms⟩ : ∃ ms : List Int, List.replicate m (10 ^ 9 : Int) ++ List.replicate m 61 ++ [2] = ms := ⟨_, rfl⟩
    have msl : ms.length = m + m + 1 := by rw [← hms]; simp; omega
    have msb : ∀ x ∈ ms, 1 ≤ x ∧ x.natAbs < 2 ^ 1000 := fun x hx => by
      rw [← hms] at hx
      simp only [List.mem_append, List.mem_replicate, List.mem_singleton] at hx
      have hx : x = 10 ^ 9 ∨ x = 61 ∨ x = 2 := by
        rcases hx with (h | h) | h
        · exact .inl h.2
        · exact .inr (.inl h.2)
        · exact .inr (.inr h)
      rcases hx with rfl | rfl | rfl <;> decide +kernel
    try dsimp only
    refine q_asgR (er_draws (K := K) (ms := ms) (ev_cell (k := 1) (ev_var rfl) ev_c (ex_l e04 hS)) ev_c (el_isW (el_cat (el_cat (repm rfl c9) (repm rfl ev_c) (by simp; omega)) (el_lst (vs := [.int 2]) (ea_cons ev_c ea_nil) (by show 1 ≤ 100000; decide)) (by simp; omega)) (by rw [← hms, List.map_append, List.map_append]; rfl)) (cellA_nn _ _) (by decide) (by omega) msb) fun v H5 e5 hp => ?_
    obtain ⟨kp, mks, rfl, hk, hDk⟩ := hp
    have kl : mks.length = m + m + 1 := hDk.1.trans msl
    have hst0 : ∀ s ∈ (mks.drop m).take m, 0 ≤ s ∧ s ≤ 60 := fun s hs => by
      obtain ⟨j, hj⟩ := List.getElem?_of_mem hs
      rw [List.getElem?_take] at hj
      split at hj
      · rename_i hjm
        rw [List.getElem?_drop] at hj
        have h61 : ms[m + j]? = some 61 := by
          rw [← hms, List.getElem?_append_left (by simp; omega), List.getElem?_append_right (by simp), List.getElem?_replicate]
          simp
          omega
        have := drawn_at hDk h61
        rw [List.getD_eq_getElem?_getD, hj] at this
        have t1 : 0 ≤ s := this.1
        have t2 : s < 61 := this.2
        omega
      · cases hj
    clear hDk msb hms msl
    have e05 := e04.trans e5
    try dsimp only
    refine q_asgL (xs := ((mks.drop m).take m).map V.int) (el_isW (el_sl (ev_var (i := 4) rfl) (eo_some (ev_var (i := 2) rfl)) (eo_some (ev_is (ev_op ev_c (ev_var (i := 2) rfl) (rv_I (show CMul 2 (m : Int) from .inl ⟨by decide, by decide⟩))) (congrArg V.int (show 2 * (m : Int) = (m : Int) + (m : Int) by omega)))) (sq_of hk)) (cut_from (by omega))) fun sq H6 _ e6 hs6 => ?_
    have e56 := e5.trans e6
    have sl0 : ((mks.drop m).take m).length = m := by rw [List.length_take, List.length_drop]; omega
    try dsimp only
    refine q_alt (b := decide (mks.getD (m + m) 0 = 1)) (M := fun σ' G => ∃ (q : Addr) (ss : List Int), σ' = [some (.ref sa), some (.ref dp), some (.int (m : Int)), some (.int (n : Int)), some (.ref kp), some (.ref q), none, none, none, none, none, none, none, none, none, none] ∧ Ex H6 G ∧ G q = some (.lst (ss.map V.int)) ∧ ss.length = m ∧ ∀ s ∈ ss, 0 ≤ s ∧ s ≤ 60) (et_test (ev_is (ev_op (ev_op (ev_var (i := 4) rfl) (ev_is (ev_op ev_c (ev_var (i := 2) rfl) (rv_I (show CMul 2 (m : Int) from .inl ⟨by decide, by decide⟩))) (congrArg V.int (show 2 * (m : Int) = ((m + m : Nat) : Int) by omega))) (rv_ixL (K := K) (sq_of (e6 _ _ hk)) (atI_ints (by omega) (by omega)))) ev_c (rv_eq rfl)) (by rw [dec_ii, Int.toNat_natCast]))) (fun hb G g W hW => ?_) (fun hb G g => ⟨sq, _, rfl, g, g _ _ hs6, sl0, hst0⟩) fun σ' H7 hM => ?_
    · try dsimp only
      exact s_asgL (el_map (K := K) ((mks.drop m).take m) (fun _ => true) (fun x => x % 7) (ev_var (i := 5) rfl) (sq_of (g _ _ hs6)) (by omega) (fun x => rfl) (fun x G e hx => yes_T) (fun x G e hx _ => ev_op (ev_int (ev_var (i := 6) rfl)) ev_c (rv_I (show (0 : Int) < 7 by decide)))) fun q G1 _ g1 hq => hW _ _ ⟨q, _, rfl, g.trans g1, hq, by rw [List.length_map, List.filter_eq_self.mpr fun _ _ => rfl, sl0], fun s hs => by
        obtain ⟨x, _, rfl⟩ := List.mem_map.mp hs
        omega⟩
    clear hst0 sl0 hs6
    obtain ⟨sq, ss, rfl, e7, hs7, sl, hst⟩ := hM
    have e07 := (e05.trans e6).trans e7
    have e57 := e6.trans e7
    try dsimp only
    refine q_asgR (er_draws (K := K) (ms := List.replicate m 61) (ev_cell (k := 2) (ev_var rfl) ev_c (ex_l e07 hS)) ev_c (repm rfl ev_c) (cellA_nn _ _) (by decide) (by rw [List.length_replicate]; omega) (fun x hx => by rw [(List.mem_replicate.mp hx).2]; decide +kernel)) fun v H8 e8 hp => ?_
    obtain ⟨oq, os, rfl, ho, hDo⟩ := hp
    have ol : os.length = m := by rw [hDo.1, List.length_replicate]
    have host : ∀ s ∈ os, 0 ≤ s ∧ s ≤ 60 := fun s hs => by
      obtain ⟨j, hj⟩ := List.getElem?_of_mem hs
      have hjl : j < m := by have := (List.getElem?_eq_some_iff.mp hj).1; omega
      have h61 : (List.replicate m (61 : Int))[j]? = some 61 := by
        rw [List.getElem?_replicate]
        simp
        omega
      have := drawn_at hDo h61
      rw [List.getD_eq_getElem?_getD, hj] at this
      have t1 : 0 ≤ s := this.1
      have t2 : s < 61 := this.2
      omega
    clear hDo repm c9
    have e08 := e07.trans e8
    try dsimp only
    refine q_asgR (er_sets (K := K) (m := m) (n := n) (ev_var (i := 0) rfl) (ev_var (i := 2) rfl) (ev_var (i := 3) rfl) (ex_l e08 hS) hmb hn) fun v H9 e9 hp => ?_
    obtain ⟨tp, xss, rfl, hX, xl, hA⟩ := hp
    obtain ⟨vs, hvs, hvl, hall⟩ := id hX.all
    try dsimp only
    refine q_asgR (en_lc (fun i w G => LotIs A.C_Lot w G (n : Int) (xss.getD i [])) (ei_list (K := K) (eb_ev (ev_var (i := 8) rfl) fun G e => ⟨tp, rfl, ex_l e hvs⟩)) (by omega) bd_at (fun i _ => rfl) (fun i H3 hi e3 => ?_)).er fun v H10 e10 hv' => ?_
    · have vi : vs[i]? = some vs[i] := List.getElem?_eq_getElem hi
      obtain ⟨t, ht, hT⟩ := hall i _ vi
      rw [vi, ht]
      exact en_mkBack (K := K) (A := A) (n := n) (xs := xss.getD i []) (ev_var (i := 3) rfl) (ea_cons (ev_var (i := 3) rfl) ea_nil) hn (hA _ (in_getD (by omega))) (fun x => rfl) (fun h G e hh => et_test (ev_op (ev_op (ev_op (ev_var (i := 3) rfl) ev_c rv_I0) (ev_var (i := 11) rfl) rv_I0) (ev_var (i := 10) rfl) (rv_inI (K := K) (ex_l (e3.trans e) hT)))) (fun h G e hh => ev_op (ev_op (ev_var (i := 3) rfl) ev_c rv_I0) (ev_var (i := 11) rfl) rv_I0)
    obtain ⟨lq, ws, rfl, hw1, hw2, hw3⟩ := hv'
    have wl : ws.length = m := by omega
    have hV : LV A H10 ws (xss.map fun xs => ((n : Int), xs)) := ⟨by rw [List.length_map]; omega, fun i v l hv hl => by
      have := hw3 i v hv
      have hi : i < xss.length := by have := (List.getElem?_eq_some_iff.mp hv).1; omega
      rw [List.getElem?_map, List.getElem?_eq_getElem hi] at hl
      cases hl
      rw [List.getD_eq_getElem?_getD, List.getElem?_eq_getElem hi] at this
      exact this⟩
    try dsimp only
    refine q_asgL (el_copyB (K := K) (ev_var (i := 9) rfl) (sq_of hw1)) fun pq H11 _ e11 hp11 => ?_
    have hV11 := hV.ex e11
    have hw11 := e11 _ _ hw1
    have hLS : LotsL K A H11 pq (xss.map fun xs => ((n : Int), xs)) := ⟨ws, sq_of hp11, hV11.1, hV11.2⟩
    have e711 := ((e8.trans e9).trans e10).trans e11
    have e811 := (e9.trans e10).trans e11
    have e911 := e10.trans e11
    have hk11 := (e57.trans e711) _ _ hk
    have hs11 := e711 _ _ hs7
    have ho11 := e811 _ _ ho
    have hX11 := hX.ex e911
    have ntk : (mks.take m).length = m := by rw [List.length_take]; omega
    have hd11 := ((e14.trans (e5.trans e57)).trans e711) _ _ hd
    clear hV hw3 hvs hvl hall hX hw1 hw2 hp11 hs7 ho hk
    try dsimp only
    refine q_asgR (er_houseS (K := K) (A := A) (n := n) (m := m) (ss := ss) (ev_var (i := 3) rfl) (er_gatesS (K := K) (ns := mks.take m) (el_isW (el_sl (ev_var (i := 4) rfl) eo_none (eo_some (ev_var (i := 2) rfl)) (sq_of hk11)) (cut_upto (by omega))) (er_ev (ev_var (i := 5) rfl) fun G e => ⟨sq, rfl, sq_of (e _ _ hs11)⟩) ntk sl hst (by omega)) hn hmb hmn) fun hv H12 e12 hh => ?_
    obtain ⟨gs, hh, hg, hgs⟩ := hh
    try dsimp only
    refine q_asgR (er_houseS (K := K) (A := A) (n := n) (m := m) (ss := os) (ev_var (i := 3) rfl) (er_gatesS (K := K) (ns := mks.take m) (el_isW (el_sl (ev_var (i := 4) rfl) eo_none (eo_some (ev_var (i := 2) rfl)) (sq_of (e12 _ _ hk11))) (cut_upto (by omega))) (er_ev (ev_var (i := 7) rfl) fun G e => ⟨oq, rfl, sq_of ((e12.trans e) _ _ ho11)⟩) ntk ol host (by omega)) hn hmb hmn) fun bv H13 e13 hb => ?_
    obtain ⟨fs, hb, hf, hfs⟩ := hb
    have gl := hg.len
    have fl := hf.len
    have gst : ∀ g ∈ gs, 0 ≤ g.2 ∧ g.2 ≤ 60 := fun g h => (hg.all g h).2
    have fst : ∀ g ∈ fs, 0 ≤ g.2 ∧ g.2 ≤ 60 := fun g h => (hf.all g h).2
    have e1113 := e12.trans e13
    have t1E : ∀ {σ : L2.St} {G : Hp}, σ[13]? = some (some hv) → σ[12]? = some (some (.ref pq)) → σ[5]? = some (some (.ref sq)) → σ[8]? = some (some (.ref tp)) → Ex H13 G → Ev (tCall (spTold K A) [] E0 (tCons (tVar 13) (tCons (tVar 12) (tCons (tVar 5) (tCons (tVar 8) tNil))))) σ G (.bl true) := fun a b c d e => ev_told (K := K) (A := A) (n := n) (gs := gs) (xss := xss) (ev_var a) (ev_var b) (ev_var c) (ev_var d) (hh.ex (e13.trans e)) (by omega) gst hn (hLS.ex (e1113.trans e)) (by omega) (by rw [hgs]; exact sq_of ((e1113.trans e) _ _ hs11)) (hX11.ex (e1113.trans e)) hA
    try dsimp only
    refine q_skip (et_orF (et_notT (et_B (t1E rfl rfl rfl rfl (Ex.refl _)))) (et_notT (et_B (ev_told (K := K) (A := A) (n := n) (gs := fs) (xss := xss) (ev_var (i := 14) rfl) (ev_var (i := 12) rfl) (ev_var (i := 7) rfl) (ev_var (i := 8) rfl) hb (by omega) fst hn (hLS.ex e1113) (by omega) (by rw [hfs]; exact sq_of (e1113 _ _ ho11)) (hX11.ex e1113) hA)))) fun H14 e14' => ?_
    have e1114 := e1113.trans e14'
    have mpos : (0 : Int) < (m : Int) := by omega
    have a0 := Int.emod_nonneg (ds.getD 3 0) (b := (m : Int)) (by omega)
    have a1 := Int.emod_lt_of_pos (ds.getD 3 0) mpos
    obtain ⟨ai, hai⟩ : ∃ ai : Nat, ds.getD 3 0 % (m : Int) = (ai : Int) := ⟨(ds.getD 3 0 % (m : Int)).toNat, by omega⟩
    have dF : ∀ {σ : L2.St} {G : Hp} {te : TE} {i : Int}, σ[1]? = some (some (.ref dp)) → Ex H11 G → Ev te σ G (.int i) → 0 ≤ i → i < 5 → Ev (tOp (rIxL K) (tVar 1) te) σ G (.int (ds.getD i.toNat 0)) := fun h e he h0 h1 => ev_op (ev_var h) he (rv_ixL (K := K) (sq_of (e _ _ hd11)) (atI_ints h0 (by rw [dl]; omega)))
    try dsimp only
    refine q_skip (et_notT (et_B (ev_call (vs := [hv, .ref lq, .int (ai : Int), .bl (decide (ds.getD 4 0 = 1))]) (ea_cons (ev_var (i := 13) rfl) (ea_cons (ev_var (i := 9) rfl) (ea_cons (ev_is (ev_op (ev_int (dF rfl e1114 ev_c (by decide) (by decide))) (ev_var (i := 2) rfl) (rv_I mpos)) (congrArg V.int hai)) (ea_cons (ev_is (ev_op (dF rfl e1114 ev_c (by decide) (by decide)) ev_c (rv_eq rfl)) (by rw [dec_ii]; rfl)) ea_nil)))) fun H2 e Q q _ => ⟨hv, lq, n, ai, gs, ws, xss, _, rfl, hh.ex ((e13.trans e14').trans e), by omega, gst, hn, (e1114.trans e) _ _ hw11, hV11.ex (e1114.trans e), by omega, by omega, fun H' e' => q H' e'⟩))) fun H15 e15 => ?_
    have e1115 := e1114.trans e15
    have lenP : ∀ {σ : L2.St} {G : Hp}, σ[12]? = some (some (.ref pq)) → Ex H11 G → Ev (tCB (rLenK K) (tCons (tVar 12) tNil)) σ G (.int (m : Int)) := fun h e => ev_cb (r := rLenK K) (ea_cons (ev_var h) ea_nil) fun H2 e2 Q q => by
      obtain ⟨us, u1, u2, _⟩ := hLS.all
      rw [List.length_map] at u2
      exact ⟨.ref pq, m, rfl, .inl ⟨us, ex_l (e.trans e2) u1, by omega⟩, q H2 (Ex.refl H2)⟩
    try dsimp only
    refine q_skip (et_orF (et_notT (et_B (t1E rfl rfl rfl rfl (e14'.trans e15)))) (et_test (ev_is (ev_op (lenP rfl e1115) (ev_var (i := 2) rfl) (rv_ne rfl)) (by rw [dec_ii, decide_eq_true rfl]; rfl)))) fun H16 e16 => ?_
    have e1116 := e1115.trans e16
    clear t1E
    obtain ⟨us, u1, u2, u3⟩ := hLS.all
    rw [List.length_map] at u2
    obtain ⟨vs, hvs, hvl, hall⟩ := hX11.all
    try dsimp only
    refine q_forR1 (j := 15) (n := (m : Int)) (ea_cons (ev_var (i := 2) rfl) ea_nil) (by omega) (fun i σ' F => ∃ v15 : Option V, σ' = [some (.ref sa), some (.ref dp), some (.int (m : Int)), some (.int (n : Int)), some (.ref kp), some (.ref sq), none, some (.ref oq), some (.ref tp), some (.ref lq), none, none, some (.ref pq), some hv, some bv, v15] ∧ Ex H16 F) (fun F e => ⟨_, rfl, e⟩) ?_ ?_
    · rintro i σ' F hi ⟨v15, rfl, eF⟩
      have hi : i < m := by omega
      have eF11 := e1116.trans eF
      have ui : us[i]? = some us[i] := List.getElem?_eq_getElem (by omega)
      have wi : ws[i]? = some ws[i] := List.getElem?_eq_getElem (by omega)
      have vi : vs[i]? = some vs[i] := List.getElem?_eq_getElem (by omega)
      have li : (xss.map fun xs => ((n : Int), xs))[i]? = some ((n : Int), xss.getD i []) := by rw [List.getElem?_map, List.getD_eq_getElem?_getD, List.getElem?_eq_getElem (by omega)]; rfl
      obtain ⟨t, ht, hT⟩ := hall i _ vi
      rw [ht] at vi
      have hU := u3 i _ _ ui li
      have hWl := hV11.2 i _ _ wi li
      have al := (hA _ (in_getD (d := []) (show i < xss.length by omega))).len
      have pE : ∀ {σ : L2.St} {G : Hp}, σ[12]? = some (some (.ref pq)) → σ[15]? = some (some (.int (i : Int))) → Ex F G → EvR (tOp (rIxL K) (tVar 12) (tVar 15)) σ G fun v G => LotIs A.C_Lot v G (n : Int) (xss.getD i []) := fun s12 s15 e => er_ev (ev_op (ev_var s12) (ev_var s15) (rv_ixL (K := K) (ex_l (eF11.trans e) u1) (atI_nat ui))) fun G e' => hU.ex ((eF11.trans e).trans e')
      try dsimp only
      exact s_when (b := false) (et_orF (et_test (ev_is (ev_neLL (K := K) (A := A) T.ty_Lot (pE rfl rfl (Ex.refl _)) (er_ev (ev_op (ev_var (i := 9) rfl) (ev_var (i := 15) rfl) (rv_ixL (K := K) (sq_of (eF11 _ _ hw11)) (atI_nat wi))) fun G e' => hWl.ex (eF11.trans e')) (z := true) (decide_eq_true ⟨rfl, rfl⟩)) rfl)) (et_notT (et_B (ev_same (d := .list ((xss.getD i []).map .int)) ((er_L (el_mems (A := A) (pE rfl rfl (Ex.refl _)))).imp fun v G ⟨p, z1, z2⟩ => by rw [z1]; exact .lst (sq_of z2) (dp_ints _)) (er_ev (ev_op (ev_var (i := 8) rfl) (ev_var (i := 15) rfl) (rv_ixL (K := K) (ex_l eF11 hvs) (atI_nat vi))) fun G e' => .lst (ex_l (eF11.trans e') hT) (dp_ints _)) (flatI (by omega)))))) (fun z => Bool.noConfusion z) fun _ F6 f6 => ⟨_, rfl, eF.trans f6⟩
    rintro σ' F ⟨v15, rfl, eF⟩
    exact s_ret ev_c fun F5 f5 => k F5
end

/-! ### what the top left, looked up -/
def reg (K : PySem.W.Frag) (C : Addr) (m : Str) : Addr := match PySem.W.findIn K (.ref C) m with
  | some (some (.ref a)) => a
  | _ => 0
/-- the def within a property or a class method -/
def within (K : PySem.W.Frag) (p : Addr) (T : String) : Addr := match PySem.W.recIn K p T with
  | some (.ref f :: _) => f
  | _ => 0
def withinB (K : PySem.W.Frag) (p : Addr) (T : String) : Bool := match PySem.W.recIn K p T with
  | some (.ref _ :: _) => true
  | _ => false
theorem within_ok {K : PySem.W.Frag} {p : Addr} {T : String} (h : withinB K p T = true) : ∃ rest, PySem.W.recIn K p T = some (.ref (within K p T) :: rest) := by
  unfold withinB at h
  unfold within
  split at h
  · rename_i f r e
    exact ⟨r, by rw [e]⟩
  · cases h
def oexB (K : PySem.W.Frag) (C : Addr) (bm : List Value) : Bool := match K.lookup C with
  | some ⟨.type "type", _, .cls cd, sl⟩ => (match sl.toList with
    | [_, _, _, _, some (.builtin n), _] => decide (n = "ValueError.__new__") && (!cd.hasDel && (cd.hasDict && decide (cd.mro = .ref C :: bm)))
    | _ => false)
  | _ => false
theorem oexB_ok {K : PySem.W.Frag} {C : Addr} {bm : List Value} (h : oexB K C bm = true) : ∃ nm q N bs sn sub ab col dd k0 k1 k2 k3 k5, K.lookup C = some (excClassObj nm q C N bs bm true sn sub ab col dd k0 k1 k2 k3 k5 "ValueError.__new__") := by
  unfold oexB at h
  split at h
  · rename_i dd cd sl ho
    split at h
    · rename_i k0 k1 k2 k3 n k5 hs
      rw [Bool.and_eq_true, Bool.and_eq_true, Bool.and_eq_true, decide_eq_true_iff, decide_eq_true_iff] at h
      obtain ⟨rfl, h1, h2, h3⟩ := h
      obtain ⟨nm, bs, mro, ns, qn, hd, sn, sub, ab, col, del⟩ := cd
      dsimp only at h1 h2 h3
      have h1' : del = false := by cases del <;> first | rfl | cases h1
      subst h1' h2 h3
      have hsl : sl = #[k0, k1, k2, k3, some (.builtin "ValueError.__new__"), k5] := by
        obtain ⟨l⟩ := sl
        simp only at hs
        rw [hs]
      subst hsl
      exact ⟨_, _, _, _, _, _, _, _, _, _, _, _, _, _, ho⟩
    · cases h
  · cases h
def cvalB (K : PySem.W.Frag) (C : Addr) (f : Str) (i : Int) : Bool := match PySem.W.findCls K (.ref C) (.type "type") f with
  | some (.val (.int j _)) => decide (j = i)
  | _ => false
theorem cvalB_ok {K : PySem.W.Frag} {C : Addr} {f : Str} {i : Int} (h : cvalB K C f i = true) : ∃ t, PySem.W.findCls K (.ref C) (.type "type") f = some (.val (.int i t)) := by
  unfold cvalB at h
  split at h
  · rename_i j t e
    rw [← of_decide_eq_true h]
    exact ⟨t, e⟩
  · cases h
def cmetB (K : PySem.W.Frag) (C p : Addr) (m : Str) : Bool := match PySem.W.findCls K (.ref C) (.type "type") m with
  | some (.get (.builtin g) (.ref p') .none (.ref D)) => decide (g = "classmethod.__get__") && (decide (p' = p) && decide (D = C))
  | _ => false
theorem cmetB_ok {K : PySem.W.Frag} {C p : Addr} {m : Str} (h : cmetB K C p m = true) : PySem.W.findCls K (.ref C) (.type "type") m = some (.get (.builtin "classmethod.__get__") (.ref p) .none (.ref C)) := by
  unfold cmetB at h
  split at h
  · rename_i g p' D e
    rw [Bool.and_eq_true, Bool.and_eq_true, decide_eq_true_iff, decide_eq_true_iff, decide_eq_true_iff] at h
    rw [e, h.1, h.2.1, h.2.2]
  · cases h
def mroB (K : PySem.W.Frag) (C : Addr) (l : List Value) : Bool := match PySem.W.clsIn K C with
  | some cd => decide (cd.mro = l)
  | none => false
theorem mroB_ok {K : PySem.W.Frag} {C : Addr} {l : List Value} (h : mroB K C l = true) : ∃ cd, PySem.W.clsIn K C = some cd ∧ cd.mro = l := by
  unfold mroB at h
  split at h
  · rename_i cd e
    exact ⟨cd, e, of_decide_eq_true h⟩
  · cases h
def intB (K : PySem.W.Frag) (x : Str) (i : Int) : Bool := match PySem.W.nsIn K mainGlobals x with
  | some (some (.int j _)) => decide (j = i)
  | _ => false
theorem intB_ok {K : PySem.W.Frag} {x : Str} {i : Int} (h : intB K x i = true) : ∃ t, PySem.W.nsIn K mainGlobals x = some (some (.int i t)) := by
  unfold intB at h
  split at h
  · rename_i j t e
    rw [← of_decide_eq_true h]
    exact ⟨t, e⟩
  · cases h
def strB (K : PySem.W.Frag) (x z : Str) : Bool := match PySem.W.nsIn K mainGlobals x with
  | some (some (.str y _)) => decide (y = z)
  | _ => false
theorem strB_ok {K : PySem.W.Frag} {x z : Str} (h : strB K x z = true) : ∃ t, PySem.W.nsIn K mainGlobals x = some (some (.str z t)) := by
  unfold strB at h
  split at h
  · rename_i j t e
    rw [← of_decide_eq_true h]
    exact ⟨t, e⟩
  · cases h
def allB (fs : List (PySem.W.Frag → Bool)) (ds : List He5.DefA) (K : PySem.W.Frag) : He.AlD := ((fs.all fun f => f K) && ds.all fun d => d.ok K, ds.map fun d => He5.fnA K (d.at_ K))
theorem allB_app {f1 f2 : List (PySem.W.Frag → Bool)} {d1 d2 : List He5.DefA} {K : PySem.W.Frag} (h1 : allB f1 d1 K = He5.valA d1) (h2 : allB f2 d2 K = He5.valA d2) : allB (f1 ++ f2) (d1 ++ d2) K = He5.valA (d1 ++ d2) := by
  have a1 : ((f1.all fun f => f K) && d1.all fun d => d.ok K) = true := congrArg (fun z : He.AlD => z.1) h1
  have a2 : ((f2.all fun f => f K) && d2.all fun d => d.ok K) = true := congrArg (fun z : He.AlD => z.1) h2
  have b1 : d1.map (fun d => He5.fnA K (d.at_ K)) = d1.map He5.DefA.val := congrArg (fun z : He.AlD => z.2) h1
  have b2 : d2.map (fun d => He5.fnA K (d.at_ K)) = d2.map He5.DefA.val := congrArg (fun z : He.AlD => z.2) h2
  rw [Bool.and_eq_true] at a1 a2
  refine Prod.ext ?_ ?_
  · show (((f1 ++ f2).all fun f => f K) && (d1 ++ d2).all fun d => d.ok K) = true
    rw [List.all_append, List.all_append, a1.1, a1.2, a2.1, a2.2]
    rfl
  · show (d1 ++ d2).map (fun d => He5.fnA K (d.at_ K)) = (d1 ++ d2).map He5.DefA.val
    rw [List.map_append, List.map_append, b1, b2]
/-- what the names reach in n steps, by the front alone (the library's walk takes all anew at each step) -/
def refsX (g : Addr → Option Obj) (a : Addr) : List Addr := match g a with | some o => He.refsD o | none => []
def nextX (g : Addr → Option Obj) (seen front : List Addr) : List Addr := ((front.flatMap (refsX g)).filter fun b => !(seen.contains b)).eraseDups
def walkX (g : Addr → Option Obj) : Nat → List Addr → List Addr → List Addr
  | 0, seen, front => seen ++ (front ++ front.flatMap (refsX g))
  | n + 1, seen, front => walkX g n (seen ++ front) (nextX g (seen ++ front) front)
def asX (g : Addr → Option Obj) (n : Nat) : List Addr := cStatics :: walkX g n [] [mainGlobals]
def topHook (n : Nat) (fs : List (PySem.W.Frag → Bool)) (ds : List He5.DefA) : PySem.W.Hook where
  α := He.AlD
  obs := fun s => allB fs ds (He.frG s.heap.get? (asX s.heap.get? n))
  val := fun _ => He5.valA ds
  says := fun _ h => ∃ K : PySem.W.Frag, K.In h ∧ allB fs ds K = He5.valA ds
  of := fun _ _ e => ⟨_, He.frG_in, e⟩
  keeps := fun _ _ _ ⟨K, hK, c⟩ k => ⟨K, PySem.W.Frag.In.keeps hK k, c⟩
section
variable {fs : List (PySem.W.Frag → Bool)} {ds : List He5.DefA} {K : PySem.W.Frag}
theorem said (c : allB fs ds K = He5.valA ds) (i : Nat) {f : PySem.W.Frag → Bool} (h : fs[i]? = some f := by rfl) : f K = true :=
  List.all_eq_true.mp (Bool.and_eq_true_iff.mp (show ((fs.all fun f => f K) && ds.all fun d => d.ok K) = true from congrArg (fun z : He.AlD => z.1) c)).1 f (List.mem_of_getElem? h)
theorem stands (c : allB fs ds K = He5.valA ds) (i : Nat) {d : He5.DefA} (h : ds[i]? = some d := by rfl) : ∃ fd, FunD K d.name d.qual d.params d.body d.scope (d.dvs K) (d.kws K) (d.at_ K) fd := by
  have c2 := (Bool.and_eq_true_iff.mp (show ((fs.all fun f => f K) && ds.all fun d => d.ok K) = true from congrArg (fun z : He.AlD => z.1) c)).2
  have e : ds.map (fun d => He5.fnA K (d.at_ K)) = ds.map He5.DefA.val := congrArg (fun z : He.AlD => z.2) c
  have e2 : (ds.map fun d => He5.fnA K (d.at_ K))[i]? = (ds.map He5.DefA.val)[i]? := by rw [e]
  rw [List.getElem?_map, List.getElem?_map, h] at e2
  exact He5.DefA.funD (Option.some.inj e2) (List.all_eq_true.mp c2 d (List.mem_of_getElem? h))
end

abbrev cl_ZeroUnder (K : PySem.W.Frag) : Addr := He.ga K "ZeroUnder"
abbrev cl_BadNumber (K : PySem.W.Frag) : Addr := He.ga K "BadNumber"
abbrev cl_TooMany (K : PySem.W.Frag) : Addr := He.ga K "TooMany"
abbrev cl_RepeatedHour (K : PySem.W.Frag) : Addr := He.ga K "RepeatedHour"
abbrev cl_OtherHours (K : PySem.W.Frag) : Addr := He.ga K "OtherHours"
abbrev cl_WrongLength (K : PySem.W.Frag) : Addr := He.ga K "WrongLength"
abbrev cl_BadName (K : PySem.W.Frag) : Addr := He.ga K "BadName"
abbrev cl_RepeatedName (K : PySem.W.Frag) : Addr := He.ga K "RepeatedName"
abbrev cl_WatchError (K : PySem.W.Frag) : Addr := He.ga K "WatchError"
abbrev cl_Lot (K : PySem.W.Frag) : Addr := He.ga K "Lot"
abbrev cl_House (K : PySem.W.Frag) : Addr := He.ga K "House"
abbrev cl_Watch (K : PySem.W.Frag) : Addr := He.ga K "Watch"
abbrev cl_Ratio (K : PySem.W.Frag) : Addr := He.ga K "Ratio"
abbrev ad0 (K : PySem.W.Frag) : Addr := reg K (cl_BadNumber K) "__init__"
abbrev ad1 (K : PySem.W.Frag) : Addr := reg K (cl_TooMany K) "__init__"
abbrev ad2 (K : PySem.W.Frag) : Addr := reg K (cl_RepeatedHour K) "__init__"
abbrev ad3 (K : PySem.W.Frag) : Addr := reg K (cl_WrongLength K) "__init__"
abbrev ad4 (K : PySem.W.Frag) : Addr := reg K (cl_BadName K) "__init__"
abbrev ad5 (K : PySem.W.Frag) : Addr := reg K (cl_RepeatedName K) "__init__"
abbrev ad6 (K : PySem.W.Frag) : Addr := reg K (cl_Lot K) "__init__"
abbrev pr7 (K : PySem.W.Frag) : Addr := reg K (cl_Lot K) "members"
abbrev ad7 (K : PySem.W.Frag) : Addr := within K (pr7 K) "property"
abbrev ad8 (K : PySem.W.Frag) : Addr := reg K (cl_Lot K) "__len__"
abbrev ad9 (K : PySem.W.Frag) : Addr := reg K (cl_Lot K) "__iter__"
abbrev ad10 (K : PySem.W.Frag) : Addr := reg K (cl_Lot K) "__contains__"
abbrev ad11 (K : PySem.W.Frag) : Addr := reg K (cl_Lot K) "__eq__"
abbrev ad12 (K : PySem.W.Frag) : Addr := reg K (cl_Lot K) "__invert__"
abbrev ad13 (K : PySem.W.Frag) : Addr := He.ga K "check_name"
abbrev ad14 (K : PySem.W.Frag) : Addr := He.ga K "check_new_name"
abbrev ad15 (K : PySem.W.Frag) : Addr := reg K (cl_House K) "__init__"
abbrev ad16 (K : PySem.W.Frag) : Addr := reg K (cl_House K) "__len__"
abbrev ad17 (K : PySem.W.Frag) : Addr := He.ga K "_check_row"
abbrev ad18 (K : PySem.W.Frag) : Addr := reg K (cl_Watch K) "__init__"
abbrev pr19 (K : PySem.W.Frag) : Addr := reg K (cl_Watch K) "of_lots"
abbrev ad19 (K : PySem.W.Frag) : Addr := within K (pr19 K) "classmethod"
abbrev ad20 (K : PySem.W.Frag) : Addr := reg K (cl_Ratio K) "__init__"
abbrev ad21 (K : PySem.W.Frag) : Addr := He.ga K "as_ratio"
abbrev ad22 (K : PySem.W.Frag) : Addr := reg K (cl_Ratio K) "__add__"
abbrev ad23 (K : PySem.W.Frag) : Addr := reg K (cl_Ratio K) "__mul__"
abbrev ad24 (K : PySem.W.Frag) : Addr := He.ga K "_lead"
abbrev ad25 (K : PySem.W.Frag) : Addr := reg K (cl_Ratio K) "__lt__"
abbrev ad26 (K : PySem.W.Frag) : Addr := reg K (cl_Ratio K) "__gt__"
abbrev ad27 (K : PySem.W.Frag) : Addr := He.ga K "greatest"
abbrev ad28 (K : PySem.W.Frag) : Addr := He.ga K "meetings"
abbrev ad29 (K : PySem.W.Frag) : Addr := He.ga K "no_look_bound"
abbrev ad30 (K : PySem.W.Frag) : Addr := He.ga K "_means_after"
abbrev ad31 (K : PySem.W.Frag) : Addr := He.ga K "one_look_bound"
abbrev ad32 (K : PySem.W.Frag) : Addr := He.ga K "_law_cell"
abbrev ad33 (K : PySem.W.Frag) : Addr := He.ga K "_law_draws"
abbrev ad34 (K : PySem.W.Frag) : Addr := He.ga K "_law_two"
abbrev ad35 (K : PySem.W.Frag) : Addr := He.ga K "_law_bits"
abbrev ad36 (K : PySem.W.Frag) : Addr := He.ga K "_law_name"
abbrev ad37 (K : PySem.W.Frag) : Addr := He.ga K "_law_names"
abbrev ad38 (K : PySem.W.Frag) : Addr := He.ga K "_law_gates"
abbrev ad39 (K : PySem.W.Frag) : Addr := He.ga K "_law_gcd"
abbrev ad40 (K : PySem.W.Frag) : Addr := He.ga K "_law_is_int"
abbrev ad41 (K : PySem.W.Frag) : Addr := He.ga K "_law_is_ratio"
abbrev ad42 (K : PySem.W.Frag) : Addr := He.ga K "_law_worth"
abbrev ad43 (K : PySem.W.Frag) : Addr := He.ga K "_law_same"
abbrev ad44 (K : PySem.W.Frag) : Addr := He.ga K "_law_greater"
abbrev ad45 (K : PySem.W.Frag) : Addr := He.ga K "_law_no_look"
abbrev ad46 (K : PySem.W.Frag) : Addr := He.ga K "_law_one_look"
abbrev ad47 (K : PySem.W.Frag) : Addr := He.ga K "_law_told"
abbrev ad48 (K : PySem.W.Frag) : Addr := He.ga K "_law_refused"
abbrev ad49 (K : PySem.W.Frag) : Addr := He.ga K "_law_refused_by_base"
abbrev ad50 (K : PySem.W.Frag) : Addr := He.ga K "_law_faults"
abbrev ad51 (K : PySem.W.Frag) : Addr := He.ga K "_law_sets"
abbrev ad52 (K : PySem.W.Frag) : Addr := He.ga K "law"
abbrev rr_Ratio_mul (K : PySem.W.Frag) : Addr := reg K (cl_Ratio K) (dunderR "mul")
def gd0 : List He5.DefA := [
  ⟨ad0, "__init__", "BadNumber.__init__", defArgs s_BadNumber_init, defBody s_BadNumber_init, defScope s_BadNumber_init, [], []⟩,
  ⟨ad1, "__init__", "TooMany.__init__", defArgs s_TooMany_init, defBody s_TooMany_init, defScope s_TooMany_init, [], []⟩,
  ⟨ad2, "__init__", "RepeatedHour.__init__", defArgs s_RepeatedHour_init, defBody s_RepeatedHour_init, defScope s_RepeatedHour_init, [], []⟩,
  ⟨ad3, "__init__", "WrongLength.__init__", defArgs s_WrongLength_init, defBody s_WrongLength_init, defScope s_WrongLength_init, [], []⟩,
  ⟨ad4, "__init__", "BadName.__init__", defArgs s_BadName_init, defBody s_BadName_init, defScope s_BadName_init, [], []⟩,
  ⟨ad5, "__init__", "RepeatedName.__init__", defArgs s_RepeatedName_init, defBody s_RepeatedName_init, defScope s_RepeatedName_init, [], []⟩,
  ⟨ad6, "__init__", "Lot.__init__", defArgs s_Lot_init, defBody s_Lot_init, defScope s_Lot_init, [], []⟩,
  ⟨ad7, "members", "Lot.members", defArgs s_Lot_members, defBody s_Lot_members, defScope s_Lot_members, [], []⟩,
  ⟨ad8, "__len__", "Lot.__len__", defArgs s_Lot_len, defBody s_Lot_len, defScope s_Lot_len, [], []⟩,
  ⟨ad9, "__iter__", "Lot.__iter__", defArgs s_Lot_iter, defBody s_Lot_iter, defScope s_Lot_iter, [], []⟩,
  ⟨ad10, "__contains__", "Lot.__contains__", defArgs s_Lot_contains, defBody s_Lot_contains, defScope s_Lot_contains, [], []⟩,
  ⟨ad11, "__eq__", "Lot.__eq__", defArgs s_Lot_eq, defBody s_Lot_eq, defScope s_Lot_eq, [], []⟩,
  ⟨ad12, "__invert__", "Lot.__invert__", defArgs s_Lot_invert, defBody s_Lot_invert, defScope s_Lot_invert, [], []⟩,
  ⟨ad13, "check_name", "check_name", defArgs s_check_name, defBody s_check_name, defScope s_check_name, [], []⟩,
  ⟨ad14, "check_new_name", "check_new_name", defArgs s_check_new_name, defBody s_check_new_name, defScope s_check_new_name, [], []⟩,
  ⟨ad15, "__init__", "House.__init__", defArgs s_House_init, defBody s_House_init, defScope s_House_init, [], []⟩,
  ⟨ad16, "__len__", "House.__len__", defArgs s_House_len, defBody s_House_len, defScope s_House_len, [], []⟩,
  ⟨ad17, "_check_row", "_check_row", defArgs s_u_check_row, defBody s_u_check_row, defScope s_u_check_row, [], []⟩,
  ⟨ad18, "__init__", "Watch.__init__", defArgs s_Watch_init, defBody s_Watch_init, defScope s_Watch_init, [], []⟩,
  ⟨ad19, "of_lots", "Watch.of_lots", defArgs s_Watch_of_lots, defBody s_Watch_of_lots, defScope s_Watch_of_lots, [], []⟩,
  ⟨ad20, "__init__", "Ratio.__init__", defArgs s_Ratio_init, defBody s_Ratio_init, defScope s_Ratio_init, [.int 1], []⟩,
  ⟨ad21, "as_ratio", "as_ratio", defArgs s_as_ratio, defBody s_as_ratio, defScope s_as_ratio, [], []⟩,
  ⟨ad22, "__add__", "Ratio.__add__", defArgs s_Ratio_add, defBody s_Ratio_add, defScope s_Ratio_add, [], []⟩,
  ⟨ad23, "__mul__", "Ratio.__mul__", defArgs s_Ratio_mul, defBody s_Ratio_mul, defScope s_Ratio_mul, [], []⟩,
  ⟨ad24, "_lead", "_lead", defArgs s_u_lead, defBody s_u_lead, defScope s_u_lead, [], []⟩,
  ⟨ad25, "__lt__", "Ratio.__lt__", defArgs s_Ratio_lt, defBody s_Ratio_lt, defScope s_Ratio_lt, [], []⟩]
def gd1 : List He5.DefA := [
  ⟨ad26, "__gt__", "Ratio.__gt__", defArgs s_Ratio_gt, defBody s_Ratio_gt, defScope s_Ratio_gt, [], []⟩,
  ⟨ad27, "greatest", "greatest", defArgs s_greatest, defBody s_greatest, defScope s_greatest, [], []⟩,
  ⟨ad28, "meetings", "meetings", defArgs s_meetings, defBody s_meetings, defScope s_meetings, [], []⟩,
  ⟨ad29, "no_look_bound", "no_look_bound", defArgs s_no_look_bound, defBody s_no_look_bound, defScope s_no_look_bound, [], []⟩,
  ⟨ad30, "_means_after", "_means_after", defArgs s_u_means_after, defBody s_u_means_after, defScope s_u_means_after, [], []⟩,
  ⟨ad31, "one_look_bound", "one_look_bound", defArgs s_one_look_bound, defBody s_one_look_bound, defScope s_one_look_bound, [], []⟩,
  ⟨ad32, "_law_cell", "_law_cell", defArgs s_u_law_cell, defBody s_u_law_cell, defScope s_u_law_cell, [], []⟩,
  ⟨ad33, "_law_draws", "_law_draws", defArgs s_u_law_draws, defBody s_u_law_draws, defScope s_u_law_draws, [], []⟩,
  ⟨ad34, "_law_two", "_law_two", defArgs s_u_law_two, defBody s_u_law_two, defScope s_u_law_two, [], []⟩,
  ⟨ad35, "_law_bits", "_law_bits", defArgs s_u_law_bits, defBody s_u_law_bits, defScope s_u_law_bits, [], []⟩,
  ⟨ad36, "_law_name", "_law_name", defArgs s_u_law_name, defBody s_u_law_name, defScope s_u_law_name, [], []⟩,
  ⟨ad37, "_law_names", "_law_names", defArgs s_u_law_names, defBody s_u_law_names, defScope s_u_law_names, [], []⟩,
  ⟨ad38, "_law_gates", "_law_gates", defArgs s_u_law_gates, defBody s_u_law_gates, defScope s_u_law_gates, [], []⟩,
  ⟨ad39, "_law_gcd", "_law_gcd", defArgs s_u_law_gcd, defBody s_u_law_gcd, defScope s_u_law_gcd, [], []⟩,
  ⟨ad40, "_law_is_int", "_law_is_int", defArgs s_u_law_is_int, defBody s_u_law_is_int, defScope s_u_law_is_int, [], []⟩,
  ⟨ad41, "_law_is_ratio", "_law_is_ratio", defArgs s_u_law_is_ratio, defBody s_u_law_is_ratio, defScope s_u_law_is_ratio, [], []⟩,
  ⟨ad42, "_law_worth", "_law_worth", defArgs s_u_law_worth, defBody s_u_law_worth, defScope s_u_law_worth, [], []⟩,
  ⟨ad43, "_law_same", "_law_same", defArgs s_u_law_same, defBody s_u_law_same, defScope s_u_law_same, [], []⟩,
  ⟨ad44, "_law_greater", "_law_greater", defArgs s_u_law_greater, defBody s_u_law_greater, defScope s_u_law_greater, [], []⟩,
  ⟨ad45, "_law_no_look", "_law_no_look", defArgs s_u_law_no_look, defBody s_u_law_no_look, defScope s_u_law_no_look, [], []⟩,
  ⟨ad46, "_law_one_look", "_law_one_look", defArgs s_u_law_one_look, defBody s_u_law_one_look, defScope s_u_law_one_look, [], []⟩,
  ⟨ad47, "_law_told", "_law_told", defArgs s_u_law_told, defBody s_u_law_told, defScope s_u_law_told, [], []⟩,
  ⟨ad48, "_law_refused", "_law_refused", defArgs s_u_law_refused, defBody s_u_law_refused, defScope s_u_law_refused, [], []⟩,
  ⟨ad49, "_law_refused_by_base", "_law_refused_by_base", defArgs s_u_law_refused_by_base, defBody s_u_law_refused_by_base, defScope s_u_law_refused_by_base, [], []⟩,
  ⟨ad50, "_law_faults", "_law_faults", defArgs s_u_law_faults, defBody s_u_law_faults, defScope s_u_law_faults, [], []⟩,
  ⟨ad51, "_law_sets", "_law_sets", defArgs s_u_law_sets, defBody s_u_law_sets, defScope s_u_law_sets, [], []⟩,
  ⟨ad52, "law", "law", defArgs s_law, defBody s_law, defScope s_law, [], []⟩]
def theDefs : List He5.DefA := gd0 ++ (gd1)
def facts0 : List (PySem.W.Frag → Bool) := [
  fun K => decide (PySem.W.nsIn K mainGlobals "ZeroUnder" = some (some (.ref (cl_ZeroUnder K)))),
  fun K => decide (PySem.W.nsIn K mainGlobals "BadNumber" = some (some (.ref (cl_BadNumber K)))),
  fun K => decide (PySem.W.nsIn K mainGlobals "TooMany" = some (some (.ref (cl_TooMany K)))),
  fun K => decide (PySem.W.nsIn K mainGlobals "RepeatedHour" = some (some (.ref (cl_RepeatedHour K)))),
  fun K => decide (PySem.W.nsIn K mainGlobals "OtherHours" = some (some (.ref (cl_OtherHours K)))),
  fun K => decide (PySem.W.nsIn K mainGlobals "WrongLength" = some (some (.ref (cl_WrongLength K)))),
  fun K => decide (PySem.W.nsIn K mainGlobals "BadName" = some (some (.ref (cl_BadName K)))),
  fun K => decide (PySem.W.nsIn K mainGlobals "RepeatedName" = some (some (.ref (cl_RepeatedName K)))),
  fun K => decide (PySem.W.nsIn K mainGlobals "WatchError" = some (some (.ref (cl_WatchError K)))),
  fun K => decide (PySem.W.nsIn K mainGlobals "Lot" = some (some (.ref (cl_Lot K)))),
  fun K => decide (PySem.W.nsIn K mainGlobals "House" = some (some (.ref (cl_House K)))),
  fun K => decide (PySem.W.nsIn K mainGlobals "Watch" = some (some (.ref (cl_Watch K)))),
  fun K => decide (PySem.W.nsIn K mainGlobals "Ratio" = some (some (.ref (cl_Ratio K)))),
  fun K => decide (PySem.W.findIn K (.ref (cl_BadNumber K)) "__init__" = some (some (.ref (ad0 K)))),
  fun K => decide (PySem.W.findIn K (.ref (cl_TooMany K)) "__init__" = some (some (.ref (ad1 K)))),
  fun K => decide (PySem.W.findIn K (.ref (cl_RepeatedHour K)) "__init__" = some (some (.ref (ad2 K)))),
  fun K => decide (PySem.W.findIn K (.ref (cl_WrongLength K)) "__init__" = some (some (.ref (ad3 K)))),
  fun K => decide (PySem.W.findIn K (.ref (cl_BadName K)) "__init__" = some (some (.ref (ad4 K)))),
  fun K => decide (PySem.W.findIn K (.ref (cl_RepeatedName K)) "__init__" = some (some (.ref (ad5 K)))),
  fun K => decide (PySem.W.findIn K (.ref (cl_Lot K)) "__init__" = some (some (.ref (ad6 K)))),
  fun K => decide (PySem.W.findIn K (.ref (cl_Lot K)) "members" = some (some (.ref (pr7 K)))),
  fun K => withinB K (pr7 K) "property",
  fun K => decide (PySem.W.findIn K (.ref (cl_Lot K)) "__len__" = some (some (.ref (ad8 K)))),
  fun K => decide (PySem.W.findIn K (.ref (cl_Lot K)) "__iter__" = some (some (.ref (ad9 K))))]
def facts1 : List (PySem.W.Frag → Bool) := [
  fun K => decide (PySem.W.findIn K (.ref (cl_Lot K)) "__contains__" = some (some (.ref (ad10 K)))),
  fun K => decide (PySem.W.findIn K (.ref (cl_Lot K)) "__eq__" = some (some (.ref (ad11 K)))),
  fun K => decide (PySem.W.findIn K (.ref (cl_Lot K)) "__invert__" = some (some (.ref (ad12 K)))),
  fun K => decide (PySem.W.nsIn K mainGlobals "check_name" = some (some (.ref (ad13 K)))),
  fun K => decide (PySem.W.nsIn K mainGlobals "check_new_name" = some (some (.ref (ad14 K)))),
  fun K => decide (PySem.W.findIn K (.ref (cl_House K)) "__init__" = some (some (.ref (ad15 K)))),
  fun K => decide (PySem.W.findIn K (.ref (cl_House K)) "__len__" = some (some (.ref (ad16 K)))),
  fun K => decide (PySem.W.nsIn K mainGlobals "_check_row" = some (some (.ref (ad17 K)))),
  fun K => decide (PySem.W.findIn K (.ref (cl_Watch K)) "__init__" = some (some (.ref (ad18 K)))),
  fun K => cmetB K (cl_Watch K) (pr19 K) "of_lots",
  fun K => withinB K (pr19 K) "classmethod",
  fun K => decide (PySem.W.findIn K (.ref (cl_Ratio K)) "__init__" = some (some (.ref (ad20 K)))),
  fun K => decide (PySem.W.nsIn K mainGlobals "as_ratio" = some (some (.ref (ad21 K)))),
  fun K => decide (PySem.W.findIn K (.ref (cl_Ratio K)) "__add__" = some (some (.ref (ad22 K)))),
  fun K => decide (PySem.W.findIn K (.ref (cl_Ratio K)) "__mul__" = some (some (.ref (ad23 K)))),
  fun K => decide (PySem.W.nsIn K mainGlobals "_lead" = some (some (.ref (ad24 K)))),
  fun K => decide (PySem.W.findIn K (.ref (cl_Ratio K)) "__lt__" = some (some (.ref (ad25 K)))),
  fun K => decide (PySem.W.findIn K (.ref (cl_Ratio K)) "__gt__" = some (some (.ref (ad26 K)))),
  fun K => decide (PySem.W.nsIn K mainGlobals "greatest" = some (some (.ref (ad27 K)))),
  fun K => decide (PySem.W.nsIn K mainGlobals "meetings" = some (some (.ref (ad28 K)))),
  fun K => decide (PySem.W.nsIn K mainGlobals "no_look_bound" = some (some (.ref (ad29 K)))),
  fun K => decide (PySem.W.nsIn K mainGlobals "_means_after" = some (some (.ref (ad30 K)))),
  fun K => decide (PySem.W.nsIn K mainGlobals "one_look_bound" = some (some (.ref (ad31 K)))),
  fun K => decide (PySem.W.nsIn K mainGlobals "_law_cell" = some (some (.ref (ad32 K))))]
def facts2 : List (PySem.W.Frag → Bool) := [
  fun K => decide (PySem.W.nsIn K mainGlobals "_law_draws" = some (some (.ref (ad33 K)))),
  fun K => decide (PySem.W.nsIn K mainGlobals "_law_two" = some (some (.ref (ad34 K)))),
  fun K => decide (PySem.W.nsIn K mainGlobals "_law_bits" = some (some (.ref (ad35 K)))),
  fun K => decide (PySem.W.nsIn K mainGlobals "_law_name" = some (some (.ref (ad36 K)))),
  fun K => decide (PySem.W.nsIn K mainGlobals "_law_names" = some (some (.ref (ad37 K)))),
  fun K => decide (PySem.W.nsIn K mainGlobals "_law_gates" = some (some (.ref (ad38 K)))),
  fun K => decide (PySem.W.nsIn K mainGlobals "_law_gcd" = some (some (.ref (ad39 K)))),
  fun K => decide (PySem.W.nsIn K mainGlobals "_law_is_int" = some (some (.ref (ad40 K)))),
  fun K => decide (PySem.W.nsIn K mainGlobals "_law_is_ratio" = some (some (.ref (ad41 K)))),
  fun K => decide (PySem.W.nsIn K mainGlobals "_law_worth" = some (some (.ref (ad42 K)))),
  fun K => decide (PySem.W.nsIn K mainGlobals "_law_same" = some (some (.ref (ad43 K)))),
  fun K => decide (PySem.W.nsIn K mainGlobals "_law_greater" = some (some (.ref (ad44 K)))),
  fun K => decide (PySem.W.nsIn K mainGlobals "_law_no_look" = some (some (.ref (ad45 K)))),
  fun K => decide (PySem.W.nsIn K mainGlobals "_law_one_look" = some (some (.ref (ad46 K)))),
  fun K => decide (PySem.W.nsIn K mainGlobals "_law_told" = some (some (.ref (ad47 K)))),
  fun K => decide (PySem.W.nsIn K mainGlobals "_law_refused" = some (some (.ref (ad48 K)))),
  fun K => decide (PySem.W.nsIn K mainGlobals "_law_refused_by_base" = some (some (.ref (ad49 K)))),
  fun K => decide (PySem.W.nsIn K mainGlobals "_law_faults" = some (some (.ref (ad50 K)))),
  fun K => decide (PySem.W.nsIn K mainGlobals "_law_sets" = some (some (.ref (ad51 K)))),
  fun K => decide (PySem.W.nsIn K mainGlobals "law" = some (some (.ref (ad52 K)))),
  fun K => intB K "_LONGEST_NAME" 8,
  fun K => strB K "_LETTERS" "abcdefghijklmnopqrstuvwxyz",
  fun K => decide (PySem.W.nsIn K mainGlobals "abs" = some none),
  fun K => decide (PySem.W.nsIn K mainGlobals "len" = some none)]
def facts3 : List (PySem.W.Frag → Bool) := [
  fun K => decide (PySem.W.nsIn K mainGlobals "int" = some none),
  fun K => decide (PySem.W.nsIn K mainGlobals "bool" = some none),
  fun K => decide (PySem.W.nsIn K mainGlobals "str" = some none),
  fun K => decide (PySem.W.nsIn K mainGlobals "list" = some none),
  fun K => decide (PySem.W.nsIn K mainGlobals "tuple" = some none),
  fun K => decide (PySem.W.nsIn K mainGlobals "isinstance" = some none),
  fun K => decide (PySem.W.nsIn K mainGlobals "range" = some none),
  fun K => decide (PySem.W.nsIn K mainGlobals "ValueError" = some none),
  fun K => decide (PySem.W.nsIn K mainGlobals "min" = some none),
  fun K => decide (PySem.W.nsIn K mainGlobals "max" = some none),
  fun K => decide (PySem.W.nsIn K mainGlobals "enumerate" = some none),
  fun K => decide (PySem.W.nsIn K mainGlobals "zip" = some none),
  fun K => decide (PySem.W.nsIn K mainGlobals "iter" = some none),
  fun K => decide (PySem.W.hasDictIn K (cl_Watch K) = true),
  fun K => decide (PySem.W.typeIn K (.ref (cl_Watch K)) = some (.type "type")),
  fun K => decide (PySem.W.subIn K (.ref (cl_Watch K)) (.ref (cl_Watch K)) = some true),
  fun K => decide (PySem.W.subIn K (.type "list") (.ref (cl_Watch K)) = some false),
  fun K => decide (PySem.W.nsIn K mainGlobals "gcd" = some (some (.builtin "math.gcd"))),
  fun K => decide (PySem.W.hasDictIn K (cl_Ratio K) = true),
  fun K => decide (PySem.W.typeIn K (.ref (cl_Ratio K)) = some (.type "type")),
  fun K => decide (PySem.W.subIn K (.ref (cl_Ratio K)) (.ref (cl_Ratio K)) = some true),
  fun K => decide (PySem.W.subIn K (.type "int") (.ref (cl_Ratio K)) = some false),
  fun K => decide (PySem.W.subIn K (.ref (cl_BadNumber K)) (.type "BaseException") = some true),
  fun K => decide (PySem.W.hasDictIn K (cl_BadNumber K) = true)]
def facts4 : List (PySem.W.Frag → Bool) := [
  fun K => decide (PySem.W.typeIn K (.ref (cl_BadNumber K)) = some (.type "type")),
  fun K => decide (PySem.W.subIn K (.ref (cl_BadNumber K)) (.ref (cl_BadNumber K)) = some true),
  fun K => oexB K (cl_BadNumber K) [.ref (cl_WatchError K), .type "ValueError", .type "Exception", .type "BaseException", .type "object"],
  fun K => decide (PySem.W.findIn K (.ref (cl_BadNumber K)) "__setattr__" = some (some (.builtin "object.__setattr__"))),
  fun K => decide (PySem.W.keepIn K (.ref (cl_BadNumber K)) = true),
  fun K => decide (PySem.W.typeIn K (.ref (ad0 K)) = some (.type "function")),
  fun K => decide (PySem.W.findIn K (.ref (cl_BadNumber K)) "__getattribute__" = some (some (.builtin "BaseException.__getattribute__"))),
  fun K => decide (PySem.W.findIn K (.ref (cl_BadNumber K)) "__getattr__" = some none),
  fun K => decide (PySem.W.findIn K (.ref (cl_BadNumber K)) "__class__" = some (some (.builtin "object.__class__"))),
  fun K => decide (PySem.W.specialIn K (.builtin "object.__class__") "__get__" = some (some (.builtin "getset_descriptor.__get__"))),
  fun K => decide (PySem.W.takesIn K (.builtin "object.__class__") = some true),
  fun K => decide (PySem.W.mroIn K (cl_BadNumber K) (.type "object") = some true),
  fun K => decide (PySem.W.findIn K (.ref (cl_BadNumber K)) "name" = some none),
  fun K => decide (PySem.W.findIn K (.ref (cl_BadNumber K)) "value" = some none),
  fun K => decide (PySem.W.subIn K (.ref (cl_TooMany K)) (.type "BaseException") = some true),
  fun K => decide (PySem.W.hasDictIn K (cl_TooMany K) = true),
  fun K => decide (PySem.W.typeIn K (.ref (cl_TooMany K)) = some (.type "type")),
  fun K => decide (PySem.W.subIn K (.ref (cl_TooMany K)) (.ref (cl_TooMany K)) = some true),
  fun K => oexB K (cl_TooMany K) [.ref (cl_WatchError K), .type "ValueError", .type "Exception", .type "BaseException", .type "object"],
  fun K => decide (PySem.W.findIn K (.ref (cl_TooMany K)) "__setattr__" = some (some (.builtin "object.__setattr__"))),
  fun K => decide (PySem.W.keepIn K (.ref (cl_TooMany K)) = true),
  fun K => decide (PySem.W.typeIn K (.ref (ad1 K)) = some (.type "function")),
  fun K => decide (PySem.W.findIn K (.ref (cl_TooMany K)) "__getattribute__" = some (some (.builtin "BaseException.__getattribute__"))),
  fun K => decide (PySem.W.findIn K (.ref (cl_TooMany K)) "__getattr__" = some none)]
def facts5 : List (PySem.W.Frag → Bool) := [
  fun K => decide (PySem.W.findIn K (.ref (cl_TooMany K)) "__class__" = some (some (.builtin "object.__class__"))),
  fun K => decide (PySem.W.mroIn K (cl_TooMany K) (.type "object") = some true),
  fun K => decide (PySem.W.findIn K (.ref (cl_TooMany K)) "name" = some none),
  fun K => decide (PySem.W.findIn K (.ref (cl_TooMany K)) "most" = some none),
  fun K => decide (PySem.W.subIn K (.ref (cl_BadName K)) (.type "BaseException") = some true),
  fun K => decide (PySem.W.hasDictIn K (cl_BadName K) = true),
  fun K => decide (PySem.W.typeIn K (.ref (cl_BadName K)) = some (.type "type")),
  fun K => decide (PySem.W.subIn K (.ref (cl_BadName K)) (.ref (cl_BadName K)) = some true),
  fun K => oexB K (cl_BadName K) [.ref (cl_WatchError K), .type "ValueError", .type "Exception", .type "BaseException", .type "object"],
  fun K => decide (PySem.W.findIn K (.ref (cl_BadName K)) "__setattr__" = some (some (.builtin "object.__setattr__"))),
  fun K => decide (PySem.W.keepIn K (.ref (cl_BadName K)) = true),
  fun K => decide (PySem.W.typeIn K (.ref (ad4 K)) = some (.type "function")),
  fun K => decide (PySem.W.findIn K (.ref (cl_BadName K)) "__getattribute__" = some (some (.builtin "BaseException.__getattribute__"))),
  fun K => decide (PySem.W.findIn K (.ref (cl_BadName K)) "__getattr__" = some none),
  fun K => decide (PySem.W.findIn K (.ref (cl_BadName K)) "__class__" = some (some (.builtin "object.__class__"))),
  fun K => decide (PySem.W.mroIn K (cl_BadName K) (.type "object") = some true),
  fun K => decide (PySem.W.findIn K (.ref (cl_BadName K)) "name" = some none),
  fun K => decide (PySem.W.subIn K (.ref (cl_RepeatedName K)) (.type "BaseException") = some true),
  fun K => decide (PySem.W.hasDictIn K (cl_RepeatedName K) = true),
  fun K => decide (PySem.W.typeIn K (.ref (cl_RepeatedName K)) = some (.type "type")),
  fun K => decide (PySem.W.subIn K (.ref (cl_RepeatedName K)) (.ref (cl_RepeatedName K)) = some true),
  fun K => oexB K (cl_RepeatedName K) [.ref (cl_WatchError K), .type "ValueError", .type "Exception", .type "BaseException", .type "object"],
  fun K => decide (PySem.W.findIn K (.ref (cl_RepeatedName K)) "__setattr__" = some (some (.builtin "object.__setattr__"))),
  fun K => decide (PySem.W.keepIn K (.ref (cl_RepeatedName K)) = true)]
def facts6 : List (PySem.W.Frag → Bool) := [
  fun K => decide (PySem.W.typeIn K (.ref (ad5 K)) = some (.type "function")),
  fun K => decide (PySem.W.findIn K (.ref (cl_RepeatedName K)) "__getattribute__" = some (some (.builtin "BaseException.__getattribute__"))),
  fun K => decide (PySem.W.findIn K (.ref (cl_RepeatedName K)) "__getattr__" = some none),
  fun K => decide (PySem.W.findIn K (.ref (cl_RepeatedName K)) "__class__" = some (some (.builtin "object.__class__"))),
  fun K => decide (PySem.W.mroIn K (cl_RepeatedName K) (.type "object") = some true),
  fun K => decide (PySem.W.findIn K (.ref (cl_RepeatedName K)) "name" = some none),
  fun K => decide (PySem.W.subIn K (.ref (cl_WrongLength K)) (.type "BaseException") = some true),
  fun K => decide (PySem.W.hasDictIn K (cl_WrongLength K) = true),
  fun K => decide (PySem.W.typeIn K (.ref (cl_WrongLength K)) = some (.type "type")),
  fun K => decide (PySem.W.subIn K (.ref (cl_WrongLength K)) (.ref (cl_WrongLength K)) = some true),
  fun K => oexB K (cl_WrongLength K) [.ref (cl_WatchError K), .type "ValueError", .type "Exception", .type "BaseException", .type "object"],
  fun K => decide (PySem.W.findIn K (.ref (cl_WrongLength K)) "__setattr__" = some (some (.builtin "object.__setattr__"))),
  fun K => decide (PySem.W.keepIn K (.ref (cl_WrongLength K)) = true),
  fun K => decide (PySem.W.typeIn K (.ref (ad3 K)) = some (.type "function")),
  fun K => decide (PySem.W.findIn K (.ref (cl_WrongLength K)) "__getattribute__" = some (some (.builtin "BaseException.__getattribute__"))),
  fun K => decide (PySem.W.findIn K (.ref (cl_WrongLength K)) "__getattr__" = some none),
  fun K => decide (PySem.W.findIn K (.ref (cl_WrongLength K)) "__class__" = some (some (.builtin "object.__class__"))),
  fun K => decide (PySem.W.mroIn K (cl_WrongLength K) (.type "object") = some true),
  fun K => decide (PySem.W.findIn K (.ref (cl_WrongLength K)) "length" = some none),
  fun K => decide (PySem.W.subIn K (.ref (cl_RepeatedHour K)) (.type "BaseException") = some true),
  fun K => decide (PySem.W.hasDictIn K (cl_RepeatedHour K) = true),
  fun K => decide (PySem.W.typeIn K (.ref (cl_RepeatedHour K)) = some (.type "type")),
  fun K => decide (PySem.W.subIn K (.ref (cl_RepeatedHour K)) (.ref (cl_RepeatedHour K)) = some true),
  fun K => oexB K (cl_RepeatedHour K) [.ref (cl_WatchError K), .type "ValueError", .type "Exception", .type "BaseException", .type "object"]]
def facts7 : List (PySem.W.Frag → Bool) := [
  fun K => decide (PySem.W.findIn K (.ref (cl_RepeatedHour K)) "__setattr__" = some (some (.builtin "object.__setattr__"))),
  fun K => decide (PySem.W.keepIn K (.ref (cl_RepeatedHour K)) = true),
  fun K => decide (PySem.W.typeIn K (.ref (ad2 K)) = some (.type "function")),
  fun K => decide (PySem.W.findIn K (.ref (cl_RepeatedHour K)) "__getattribute__" = some (some (.builtin "BaseException.__getattribute__"))),
  fun K => decide (PySem.W.findIn K (.ref (cl_RepeatedHour K)) "__getattr__" = some none),
  fun K => decide (PySem.W.findIn K (.ref (cl_RepeatedHour K)) "__class__" = some (some (.builtin "object.__class__"))),
  fun K => decide (PySem.W.mroIn K (cl_RepeatedHour K) (.type "object") = some true),
  fun K => decide (PySem.W.findIn K (.ref (cl_RepeatedHour K)) "hour" = some none),
  fun K => decide (PySem.W.subIn K (.ref (cl_ZeroUnder K)) (.type "BaseException") = some true),
  fun K => decide (PySem.W.hasDictIn K (cl_ZeroUnder K) = true),
  fun K => decide (PySem.W.typeIn K (.ref (cl_ZeroUnder K)) = some (.type "type")),
  fun K => decide (PySem.W.subIn K (.ref (cl_ZeroUnder K)) (.ref (cl_ZeroUnder K)) = some true),
  fun K => decide (PySem.W.excIn K (cl_ZeroUnder K) [.type "ValueError", .type "Exception", .type "BaseException", .type "object"] "ValueError.__new__" = true),
  fun K => decide (PySem.W.keepIn K (.ref (cl_ZeroUnder K)) = true),
  fun K => decide (PySem.W.findIn K (.ref (cl_ZeroUnder K)) "__getattribute__" = some (some (.builtin "BaseException.__getattribute__"))),
  fun K => decide (PySem.W.findIn K (.ref (cl_ZeroUnder K)) "__getattr__" = some none),
  fun K => decide (PySem.W.findIn K (.ref (cl_ZeroUnder K)) "__class__" = some (some (.builtin "object.__class__"))),
  fun K => decide (PySem.W.mroIn K (cl_ZeroUnder K) (.type "object") = some true),
  fun K => decide (PySem.W.subIn K (.ref (cl_OtherHours K)) (.type "BaseException") = some true),
  fun K => decide (PySem.W.hasDictIn K (cl_OtherHours K) = true),
  fun K => decide (PySem.W.typeIn K (.ref (cl_OtherHours K)) = some (.type "type")),
  fun K => decide (PySem.W.subIn K (.ref (cl_OtherHours K)) (.ref (cl_OtherHours K)) = some true),
  fun K => decide (PySem.W.excIn K (cl_OtherHours K) [.type "ValueError", .type "Exception", .type "BaseException", .type "object"] "ValueError.__new__" = true),
  fun K => decide (PySem.W.keepIn K (.ref (cl_OtherHours K)) = true)]
def facts8 : List (PySem.W.Frag → Bool) := [
  fun K => decide (PySem.W.findIn K (.ref (cl_OtherHours K)) "__getattribute__" = some (some (.builtin "BaseException.__getattribute__"))),
  fun K => decide (PySem.W.findIn K (.ref (cl_OtherHours K)) "__getattr__" = some none),
  fun K => decide (PySem.W.findIn K (.ref (cl_OtherHours K)) "__class__" = some (some (.builtin "object.__class__"))),
  fun K => decide (PySem.W.mroIn K (cl_OtherHours K) (.type "object") = some true),
  fun K => decide (PySem.W.subIn K (.ref (cl_OtherHours K)) (.ref (cl_WrongLength K)) = some false),
  fun K => decide (PySem.W.subIn K (.ref (cl_WatchError K)) (.type "BaseException") = some true),
  fun K => decide (PySem.W.hasDictIn K (cl_WatchError K) = true),
  fun K => decide (PySem.W.typeIn K (.ref (cl_WatchError K)) = some (.type "type")),
  fun K => decide (PySem.W.subIn K (.ref (cl_WatchError K)) (.ref (cl_WatchError K)) = some true),
  fun K => decide (PySem.W.subIn K (.ref (cl_OtherHours K)) (.ref (cl_WatchError K)) = some true),
  fun K => decide (PySem.W.subIn K (.ref (cl_OtherHours K)) (.type "ValueError") = some true),
  fun K => decide (PySem.W.subIn K (.ref (cl_Ratio K)) (.type "int") = some false),
  fun K => decide (PySem.W.plainGet K (cl_House K) Str.empty = true),
  fun K => decide (PySem.W.hasDictIn K (cl_House K) = true),
  fun K => decide (PySem.W.plainOver K (cl_House K) = true),
  fun K => decide (PySem.W.findIn K (.ref (cl_House K)) "__setattr__" = some (some (.builtin "object.__setattr__"))),
  fun K => decide (PySem.W.makesIn K (cl_House K) = true),
  fun K => decide (PySem.W.keepIn K (.ref (cl_House K)) = true),
  fun K => decide (PySem.W.isFn K (.ref (ad15 K)) = true),
  fun K => decide (PySem.W.findIn K (.ref (cl_House K)) "hours" = some none),
  fun K => decide (PySem.W.findIn K (.ref (cl_House K)) "names" = some none),
  fun K => decide (PySem.W.findIn K (.ref (cl_House K)) "stakes" = some none),
  fun K => decide (PySem.W.findIn K (.ref (cl_House K)) "__class__" = some (some (.builtin "object.__class__"))),
  fun K => decide (PySem.W.mroIn K (cl_House K) (.type "object") = some true)]
def facts9 : List (PySem.W.Frag → Bool) := [
  fun K => decide (PySem.W.readsIn K (cl_House K) (.type "type") = true),
  fun K => decide (PySem.W.specialIn K (.ref (cl_House K)) "__getattribute__" = some (some (.builtin "type.__getattribute__"))),
  fun K => cvalB K (cl_House K) "MOST_HOURS" 24,
  fun K => cvalB K (cl_House K) "MOST_GATES" 4,
  fun K => cvalB K (cl_House K) "MOST_CELLS" 48,
  fun K => cvalB K (cl_House K) "MOST_STAKE" 60,
  fun K => decide (PySem.W.plainGet K (cl_Watch K) Str.empty = true),
  fun K => decide (PySem.W.hasDictIn K (cl_Watch K) = true),
  fun K => decide (PySem.W.plainOver K (cl_Watch K) = true),
  fun K => decide (PySem.W.findIn K (.ref (cl_Watch K)) "__setattr__" = some (some (.builtin "object.__setattr__"))),
  fun K => decide (PySem.W.makesIn K (cl_Watch K) = true),
  fun K => decide (PySem.W.keepIn K (.ref (cl_Watch K)) = true),
  fun K => decide (PySem.W.isFn K (.ref (ad18 K)) = true),
  fun K => decide (PySem.W.findIn K (.ref (cl_Watch K)) "house" = some none),
  fun K => decide (PySem.W.findIn K (.ref (cl_Watch K)) "_rows" = some none),
  fun K => decide (PySem.W.findIn K (.ref (cl_Watch K)) "__class__" = some (some (.builtin "object.__class__"))),
  fun K => decide (PySem.W.mroIn K (cl_Watch K) (.type "object") = some true),
  fun K => decide (PySem.W.readsIn K (cl_Watch K) (.type "type") = true),
  fun K => decide (PySem.W.specialIn K (.ref (cl_Watch K)) "__getattribute__" = some (some (.builtin "type.__getattribute__"))),
  fun K => cvalB K (cl_Watch K) "MOST" 96,
  fun K => decide (PySem.W.plainGet K (cl_Lot K) Str.empty = true),
  fun K => decide (PySem.W.hasDictIn K (cl_Lot K) = true),
  fun K => decide (PySem.W.plainOver K (cl_Lot K) = true),
  fun K => decide (PySem.W.findIn K (.ref (cl_Lot K)) "__setattr__" = some (some (.builtin "object.__setattr__")))]
def facts10 : List (PySem.W.Frag → Bool) := [
  fun K => decide (PySem.W.makesIn K (cl_Lot K) = true),
  fun K => decide (PySem.W.keepIn K (.ref (cl_Lot K)) = true),
  fun K => decide (PySem.W.isFn K (.ref (ad6 K)) = true),
  fun K => decide (PySem.W.findIn K (.ref (cl_Lot K)) "hours" = some none),
  fun K => decide (PySem.W.findIn K (.ref (cl_Lot K)) "_members" = some none),
  fun K => decide (PySem.W.findIn K (.ref (cl_Lot K)) "__ne__" = some (some (.builtin "object.__ne__"))),
  fun K => decide (PySem.W.mroIn K (cl_Lot K) (.type "object") = some true),
  fun K => decide (PySem.W.findIn K (.ref (cl_Lot K)) "__class__" = some (some (.builtin "object.__class__"))),
  fun K => decide (PySem.W.readsIn K (cl_Lot K) (.type "type") = true),
  fun K => decide (PySem.W.specialIn K (.ref (cl_Lot K)) "__getattribute__" = some (some (.builtin "type.__getattribute__"))),
  fun K => cvalB K (cl_Lot K) "MOST" 360,
  fun K => decide (PySem.W.plainGet K (cl_Ratio K) Str.empty = true),
  fun K => decide (PySem.W.hasDictIn K (cl_Ratio K) = true),
  fun K => decide (PySem.W.plainOver K (cl_Ratio K) = true),
  fun K => decide (PySem.W.findIn K (.ref (cl_Ratio K)) "__setattr__" = some (some (.builtin "object.__setattr__"))),
  fun K => decide (PySem.W.makesIn K (cl_Ratio K) = true),
  fun K => decide (PySem.W.keepIn K (.ref (cl_Ratio K)) = true),
  fun K => decide (PySem.W.isFn K (.ref (ad20 K)) = true),
  fun K => decide (PySem.W.findIn K (.ref (cl_Ratio K)) "top" = some none),
  fun K => decide (PySem.W.findIn K (.ref (cl_Ratio K)) "under" = some none),
  fun K => decide (PySem.W.selfFirst K (cl_Ratio K) = true),
  fun K => decide (PySem.W.subIn K (.type "int") (.ref (cl_Ratio K)) = some false),
  fun K => decide (PySem.W.findIn K (.ref (cl_Ratio K)) (PySem.dunder "add") = some (some (.ref (ad22 K)))),
  fun K => decide (PySem.W.findIn K (.ref (cl_Ratio K)) (PySem.dunder "mul") = some (some (.ref (ad23 K))))]
def facts11 : List (PySem.W.Frag → Bool) := [
  fun K => decide (PySem.W.findIn K (.ref (cl_Ratio K)) (dunderR "mul") = some (some (.ref (rr_Ratio_mul K)))),
  fun K => (PySem.W.findIn K (.type "int") (PySem.dunder "mul")).isSome,
  fun K => (PySem.W.findIn K (.type "int") (dunderR "mul")).isSome,
  fun K => decide (PySem.W.findIn K (.ref (cl_Ratio K)) "__class__" = some (some (.builtin "object.__class__"))),
  fun K => decide (PySem.W.mroIn K (cl_Ratio K) (.type "object") = some true),
  fun K => decide (PySem.W.specialIn K (.ref (pr7 K)) "__get__" = some (some (.builtin "property.__get__"))),
  fun K => decide (PySem.W.takesIn K (.ref (pr7 K)) = some true),
  fun K => decide (PySem.W.isFn K (.ref (ad8 K)) = true),
  fun K => decide (PySem.W.isFn K (.ref (ad9 K)) = true),
  fun K => decide (PySem.W.isFn K (.ref (ad10 K)) = true),
  fun K => decide (PySem.W.isFn K (.ref (ad11 K)) = true),
  fun K => decide (PySem.W.isFn K (.ref (ad12 K)) = true),
  fun K => decide (PySem.W.isFn K (.ref (ad16 K)) = true),
  fun K => decide (PySem.W.fnIn K (ad19 K) = true),
  fun K => decide (PySem.W.isFn K (.ref (ad22 K)) = true),
  fun K => decide (PySem.W.isFn K (.ref (ad23 K)) = true),
  fun K => decide (PySem.W.isFn K (.ref (ad25 K)) = true),
  fun K => decide (PySem.W.isFn K (.ref (ad26 K)) = true)]
def gf0 : List (PySem.W.Frag → Bool) := facts0 ++ (facts1 ++ (facts2 ++ (facts3 ++ (facts4 ++ (facts5)))))
def gf1 : List (PySem.W.Frag → Bool) := facts6 ++ (facts7 ++ (facts8 ++ (facts9 ++ (facts10 ++ (facts11)))))
def theFacts : List (PySem.W.Frag → Bool) := gf0 ++ (gf1)
theorem all_ok {l : PySem.W.OpenLaw} {w : World} {K : PySem.W.Frag} {h : Heap} {mg : Str → Option Value} {fa : Addr} (c : allB theFacts theDefs K = He5.valA theDefs) (X : K.In h) (G : h.Ns mainGlobals mg) (hfa : mg "law" = some (.ref fa)) :
    ∃ fd : FuncData, (∀ (s : Shared) (v : Value), BindsTo s fd ⟨[v], []⟩ [("script", v)]) ∧ ∀ base : Heap, K.In base → base.Ns mainGlobals mg → FnOk l.prog w K mg base CX0 20 fa fd ["script"] ((spLaw K)) := by
  have g_ZeroUnder : PySem.W.nsIn K mainGlobals "ZeroUnder" = some (some (.ref (cl_ZeroUnder K))) := of_decide_eq_true (said c 0)
  have g_BadNumber : PySem.W.nsIn K mainGlobals "BadNumber" = some (some (.ref (cl_BadNumber K))) := of_decide_eq_true (said c 1)
  have g_TooMany : PySem.W.nsIn K mainGlobals "TooMany" = some (some (.ref (cl_TooMany K))) := of_decide_eq_true (said c 2)
  have g_RepeatedHour : PySem.W.nsIn K mainGlobals "RepeatedHour" = some (some (.ref (cl_RepeatedHour K))) := of_decide_eq_true (said c 3)
  have g_OtherHours : PySem.W.nsIn K mainGlobals "OtherHours" = some (some (.ref (cl_OtherHours K))) := of_decide_eq_true (said c 4)
  have g_WrongLength : PySem.W.nsIn K mainGlobals "WrongLength" = some (some (.ref (cl_WrongLength K))) := of_decide_eq_true (said c 5)
  have g_BadName : PySem.W.nsIn K mainGlobals "BadName" = some (some (.ref (cl_BadName K))) := of_decide_eq_true (said c 6)
  have g_RepeatedName : PySem.W.nsIn K mainGlobals "RepeatedName" = some (some (.ref (cl_RepeatedName K))) := of_decide_eq_true (said c 7)
  have g_WatchError : PySem.W.nsIn K mainGlobals "WatchError" = some (some (.ref (cl_WatchError K))) := of_decide_eq_true (said c 8)
  have g_Lot : PySem.W.nsIn K mainGlobals "Lot" = some (some (.ref (cl_Lot K))) := of_decide_eq_true (said c 9)
  have g_House : PySem.W.nsIn K mainGlobals "House" = some (some (.ref (cl_House K))) := of_decide_eq_true (said c 10)
  have g_Watch : PySem.W.nsIn K mainGlobals "Watch" = some (some (.ref (cl_Watch K))) := of_decide_eq_true (said c 11)
  have g_Ratio : PySem.W.nsIn K mainGlobals "Ratio" = some (some (.ref (cl_Ratio K))) := of_decide_eq_true (said c 12)
  have a0 : PySem.W.findIn K (.ref (cl_BadNumber K)) "__init__" = some (some (.ref (ad0 K))) := of_decide_eq_true (said c 13)
  have a1 : PySem.W.findIn K (.ref (cl_TooMany K)) "__init__" = some (some (.ref (ad1 K))) := of_decide_eq_true (said c 14)
  have a2 : PySem.W.findIn K (.ref (cl_RepeatedHour K)) "__init__" = some (some (.ref (ad2 K))) := of_decide_eq_true (said c 15)
  have a3 : PySem.W.findIn K (.ref (cl_WrongLength K)) "__init__" = some (some (.ref (ad3 K))) := of_decide_eq_true (said c 16)
  have a4 : PySem.W.findIn K (.ref (cl_BadName K)) "__init__" = some (some (.ref (ad4 K))) := of_decide_eq_true (said c 17)
  have a5 : PySem.W.findIn K (.ref (cl_RepeatedName K)) "__init__" = some (some (.ref (ad5 K))) := of_decide_eq_true (said c 18)
  have a6 : PySem.W.findIn K (.ref (cl_Lot K)) "__init__" = some (some (.ref (ad6 K))) := of_decide_eq_true (said c 19)
  have pa_7 : PySem.W.findIn K (.ref (cl_Lot K)) "members" = some (some (.ref (pr7 K))) := of_decide_eq_true (said c 20)
  obtain ⟨rest7, a7⟩ := within_ok (said c 21)
  have a8 : PySem.W.findIn K (.ref (cl_Lot K)) "__len__" = some (some (.ref (ad8 K))) := of_decide_eq_true (said c 22)
  have a9 : PySem.W.findIn K (.ref (cl_Lot K)) "__iter__" = some (some (.ref (ad9 K))) := of_decide_eq_true (said c 23)
  have a10 : PySem.W.findIn K (.ref (cl_Lot K)) "__contains__" = some (some (.ref (ad10 K))) := of_decide_eq_true (said c 24)
  have a11 : PySem.W.findIn K (.ref (cl_Lot K)) "__eq__" = some (some (.ref (ad11 K))) := of_decide_eq_true (said c 25)
  have a12 : PySem.W.findIn K (.ref (cl_Lot K)) "__invert__" = some (some (.ref (ad12 K))) := of_decide_eq_true (said c 26)
  have a13 : PySem.W.nsIn K mainGlobals "check_name" = some (some (.ref (ad13 K))) := of_decide_eq_true (said c 27)
  have a14 : PySem.W.nsIn K mainGlobals "check_new_name" = some (some (.ref (ad14 K))) := of_decide_eq_true (said c 28)
  have a15 : PySem.W.findIn K (.ref (cl_House K)) "__init__" = some (some (.ref (ad15 K))) := of_decide_eq_true (said c 29)
  have a16 : PySem.W.findIn K (.ref (cl_House K)) "__len__" = some (some (.ref (ad16 K))) := of_decide_eq_true (said c 30)
  have a17 : PySem.W.nsIn K mainGlobals "_check_row" = some (some (.ref (ad17 K))) := of_decide_eq_true (said c 31)
  have a18 : PySem.W.findIn K (.ref (cl_Watch K)) "__init__" = some (some (.ref (ad18 K))) := of_decide_eq_true (said c 32)
  have pa_19 := cmetB_ok (said c 33)
  obtain ⟨rest19, a19⟩ := within_ok (said c 34)
  have a20 : PySem.W.findIn K (.ref (cl_Ratio K)) "__init__" = some (some (.ref (ad20 K))) := of_decide_eq_true (said c 35)
  have a21 : PySem.W.nsIn K mainGlobals "as_ratio" = some (some (.ref (ad21 K))) := of_decide_eq_true (said c 36)
  have a22 : PySem.W.findIn K (.ref (cl_Ratio K)) "__add__" = some (some (.ref (ad22 K))) := of_decide_eq_true (said c 37)
  have a23 : PySem.W.findIn K (.ref (cl_Ratio K)) "__mul__" = some (some (.ref (ad23 K))) := of_decide_eq_true (said c 38)
  have a24 : PySem.W.nsIn K mainGlobals "_lead" = some (some (.ref (ad24 K))) := of_decide_eq_true (said c 39)
  have a25 : PySem.W.findIn K (.ref (cl_Ratio K)) "__lt__" = some (some (.ref (ad25 K))) := of_decide_eq_true (said c 40)
  have a26 : PySem.W.findIn K (.ref (cl_Ratio K)) "__gt__" = some (some (.ref (ad26 K))) := of_decide_eq_true (said c 41)
  have a27 : PySem.W.nsIn K mainGlobals "greatest" = some (some (.ref (ad27 K))) := of_decide_eq_true (said c 42)
  have a28 : PySem.W.nsIn K mainGlobals "meetings" = some (some (.ref (ad28 K))) := of_decide_eq_true (said c 43)
  have a29 : PySem.W.nsIn K mainGlobals "no_look_bound" = some (some (.ref (ad29 K))) := of_decide_eq_true (said c 44)
  have a30 : PySem.W.nsIn K mainGlobals "_means_after" = some (some (.ref (ad30 K))) := of_decide_eq_true (said c 45)
  have a31 : PySem.W.nsIn K mainGlobals "one_look_bound" = some (some (.ref (ad31 K))) := of_decide_eq_true (said c 46)
  have a32 : PySem.W.nsIn K mainGlobals "_law_cell" = some (some (.ref (ad32 K))) := of_decide_eq_true (said c 47)
  have a33 : PySem.W.nsIn K mainGlobals "_law_draws" = some (some (.ref (ad33 K))) := of_decide_eq_true (said c 48)
  have a34 : PySem.W.nsIn K mainGlobals "_law_two" = some (some (.ref (ad34 K))) := of_decide_eq_true (said c 49)
  have a35 : PySem.W.nsIn K mainGlobals "_law_bits" = some (some (.ref (ad35 K))) := of_decide_eq_true (said c 50)
  have a36 : PySem.W.nsIn K mainGlobals "_law_name" = some (some (.ref (ad36 K))) := of_decide_eq_true (said c 51)
  have a37 : PySem.W.nsIn K mainGlobals "_law_names" = some (some (.ref (ad37 K))) := of_decide_eq_true (said c 52)
  have a38 : PySem.W.nsIn K mainGlobals "_law_gates" = some (some (.ref (ad38 K))) := of_decide_eq_true (said c 53)
  have a39 : PySem.W.nsIn K mainGlobals "_law_gcd" = some (some (.ref (ad39 K))) := of_decide_eq_true (said c 54)
  have a40 : PySem.W.nsIn K mainGlobals "_law_is_int" = some (some (.ref (ad40 K))) := of_decide_eq_true (said c 55)
  have a41 : PySem.W.nsIn K mainGlobals "_law_is_ratio" = some (some (.ref (ad41 K))) := of_decide_eq_true (said c 56)
  have a42 : PySem.W.nsIn K mainGlobals "_law_worth" = some (some (.ref (ad42 K))) := of_decide_eq_true (said c 57)
  have a43 : PySem.W.nsIn K mainGlobals "_law_same" = some (some (.ref (ad43 K))) := of_decide_eq_true (said c 58)
  have a44 : PySem.W.nsIn K mainGlobals "_law_greater" = some (some (.ref (ad44 K))) := of_decide_eq_true (said c 59)
  have a45 : PySem.W.nsIn K mainGlobals "_law_no_look" = some (some (.ref (ad45 K))) := of_decide_eq_true (said c 60)
  have a46 : PySem.W.nsIn K mainGlobals "_law_one_look" = some (some (.ref (ad46 K))) := of_decide_eq_true (said c 61)
  have a47 : PySem.W.nsIn K mainGlobals "_law_told" = some (some (.ref (ad47 K))) := of_decide_eq_true (said c 62)
  have a48 : PySem.W.nsIn K mainGlobals "_law_refused" = some (some (.ref (ad48 K))) := of_decide_eq_true (said c 63)
  have a49 : PySem.W.nsIn K mainGlobals "_law_refused_by_base" = some (some (.ref (ad49 K))) := of_decide_eq_true (said c 64)
  have a50 : PySem.W.nsIn K mainGlobals "_law_faults" = some (some (.ref (ad50 K))) := of_decide_eq_true (said c 65)
  have a51 : PySem.W.nsIn K mainGlobals "_law_sets" = some (some (.ref (ad51 K))) := of_decide_eq_true (said c 66)
  have a52 : PySem.W.nsIn K mainGlobals "law" = some (some (.ref (ad52 K))) := of_decide_eq_true (said c 67)
  obtain ⟨t_LONGEST_NAME, kc_LONGEST_NAME⟩ := intB_ok (said c 68)
  obtain ⟨t_LETTERS, kc_LETTERS⟩ := strB_ok (said c 69)
  have z_abs : PySem.W.nsIn K mainGlobals "abs" = some none := of_decide_eq_true (said c 70)
  have z_len : PySem.W.nsIn K mainGlobals "len" = some none := of_decide_eq_true (said c 71)
  have z_int : PySem.W.nsIn K mainGlobals "int" = some none := of_decide_eq_true (said c 72)
  have z_bool : PySem.W.nsIn K mainGlobals "bool" = some none := of_decide_eq_true (said c 73)
  have z_str : PySem.W.nsIn K mainGlobals "str" = some none := of_decide_eq_true (said c 74)
  have z_list : PySem.W.nsIn K mainGlobals "list" = some none := of_decide_eq_true (said c 75)
  have z_tuple : PySem.W.nsIn K mainGlobals "tuple" = some none := of_decide_eq_true (said c 76)
  have z_isinstance : PySem.W.nsIn K mainGlobals "isinstance" = some none := of_decide_eq_true (said c 77)
  have z_range : PySem.W.nsIn K mainGlobals "range" = some none := of_decide_eq_true (said c 78)
  have z_ValueError : PySem.W.nsIn K mainGlobals "ValueError" = some none := of_decide_eq_true (said c 79)
  have z_min : PySem.W.nsIn K mainGlobals "min" = some none := of_decide_eq_true (said c 80)
  have z_max : PySem.W.nsIn K mainGlobals "max" = some none := of_decide_eq_true (said c 81)
  have z_enumerate : PySem.W.nsIn K mainGlobals "enumerate" = some none := of_decide_eq_true (said c 82)
  have z_zip : PySem.W.nsIn K mainGlobals "zip" = some none := of_decide_eq_true (said c 83)
  have z_iter : PySem.W.nsIn K mainGlobals "iter" = some none := of_decide_eq_true (said c 84)
  have hdW : PySem.W.hasDictIn K (cl_Watch K) = true := of_decide_eq_true (said c 85)
  have tyW : PySem.W.typeIn K (.ref (cl_Watch K)) = some (.type "type") := of_decide_eq_true (said c 86)
  have meC_Watch : PySem.W.subIn K (.ref (cl_Watch K)) (.ref (cl_Watch K)) = some true := of_decide_eq_true (said c 87)
  have siLW : PySem.W.subIn K (.type "list") (.ref (cl_Watch K)) = some false := of_decide_eq_true (said c 88)
  have gG : PySem.W.nsIn K mainGlobals "gcd" = some (some (.builtin "math.gcd")) := of_decide_eq_true (said c 89)
  have hdR : PySem.W.hasDictIn K (cl_Ratio K) = true := of_decide_eq_true (said c 90)
  have tyR : PySem.W.typeIn K (.ref (cl_Ratio K)) = some (.type "type") := of_decide_eq_true (said c 91)
  have meC_Ratio : PySem.W.subIn K (.ref (cl_Ratio K)) (.ref (cl_Ratio K)) = some true := of_decide_eq_true (said c 92)
  have siR : PySem.W.subIn K (.type "int") (.ref (cl_Ratio K)) = some false := of_decide_eq_true (said c 93)
  have exC_BadNumber : PySem.W.subIn K (.ref (cl_BadNumber K)) (.type "BaseException") = some true := of_decide_eq_true (said c 94)
  have hdC_BadNumber : PySem.W.hasDictIn K (cl_BadNumber K) = true := of_decide_eq_true (said c 95)
  have tyC_BadNumber : PySem.W.typeIn K (.ref (cl_BadNumber K)) = some (.type "type") := of_decide_eq_true (said c 96)
  have meC_BadNumber : PySem.W.subIn K (.ref (cl_BadNumber K)) (.ref (cl_BadNumber K)) = some true := of_decide_eq_true (said c 97)
  obtain ⟨nm_BadNumber, q_BadNumber, N_BadNumber, bs_BadNumber, sn_BadNumber, sub_BadNumber, ab_BadNumber, col_BadNumber, dd_BadNumber, m0_BadNumber, m1_BadNumber, m2_BadNumber, m3_BadNumber, m5_BadNumber, xL_BadNumber⟩ := oexB_ok (said c 98)
  have sa_BadNumber : PySem.W.findIn K (.ref (cl_BadNumber K)) "__setattr__" = some (some (.builtin "object.__setattr__")) := of_decide_eq_true (said c 99)
  have kC_BadNumber : PySem.W.keepIn K (.ref (cl_BadNumber K)) = true := of_decide_eq_true (said c 100)
  have ti_BadNumber : PySem.W.typeIn K (.ref (ad0 K)) = some (.type "function") := of_decide_eq_true (said c 101)
  have ga_BadNumber : PySem.W.findIn K (.ref (cl_BadNumber K)) "__getattribute__" = some (some (.builtin "BaseException.__getattribute__")) := of_decide_eq_true (said c 102)
  have gg_BadNumber : PySem.W.findIn K (.ref (cl_BadNumber K)) "__getattr__" = some none := of_decide_eq_true (said c 103)
  have ha_BadNumber : PySem.W.findIn K (.ref (cl_BadNumber K)) "__class__" = some (some (.builtin "object.__class__")) := of_decide_eq_true (said c 104)
  have hn_ : PySem.W.specialIn K (.builtin "object.__class__") "__get__" = some (some (.builtin "getset_descriptor.__get__")) := of_decide_eq_true (said c 105)
  have ht_ : PySem.W.takesIn K (.builtin "object.__class__") = some true := of_decide_eq_true (said c 106)
  have hm_BadNumber : PySem.W.mroIn K (cl_BadNumber K) (.type "object") = some true := of_decide_eq_true (said c 107)
  have nf_BadNumber_name : PySem.W.findIn K (.ref (cl_BadNumber K)) "name" = some none := of_decide_eq_true (said c 108)
  have nf_BadNumber_value : PySem.W.findIn K (.ref (cl_BadNumber K)) "value" = some none := of_decide_eq_true (said c 109)
  have exC_TooMany : PySem.W.subIn K (.ref (cl_TooMany K)) (.type "BaseException") = some true := of_decide_eq_true (said c 110)
  have hdC_TooMany : PySem.W.hasDictIn K (cl_TooMany K) = true := of_decide_eq_true (said c 111)
  have tyC_TooMany : PySem.W.typeIn K (.ref (cl_TooMany K)) = some (.type "type") := of_decide_eq_true (said c 112)
  have meC_TooMany : PySem.W.subIn K (.ref (cl_TooMany K)) (.ref (cl_TooMany K)) = some true := of_decide_eq_true (said c 113)
  obtain ⟨nm_TooMany, q_TooMany, N_TooMany, bs_TooMany, sn_TooMany, sub_TooMany, ab_TooMany, col_TooMany, dd_TooMany, m0_TooMany, m1_TooMany, m2_TooMany, m3_TooMany, m5_TooMany, xL_TooMany⟩ := oexB_ok (said c 114)
  have sa_TooMany : PySem.W.findIn K (.ref (cl_TooMany K)) "__setattr__" = some (some (.builtin "object.__setattr__")) := of_decide_eq_true (said c 115)
  have kC_TooMany : PySem.W.keepIn K (.ref (cl_TooMany K)) = true := of_decide_eq_true (said c 116)
  have ti_TooMany : PySem.W.typeIn K (.ref (ad1 K)) = some (.type "function") := of_decide_eq_true (said c 117)
  have ga_TooMany : PySem.W.findIn K (.ref (cl_TooMany K)) "__getattribute__" = some (some (.builtin "BaseException.__getattribute__")) := of_decide_eq_true (said c 118)
  have gg_TooMany : PySem.W.findIn K (.ref (cl_TooMany K)) "__getattr__" = some none := of_decide_eq_true (said c 119)
  have ha_TooMany : PySem.W.findIn K (.ref (cl_TooMany K)) "__class__" = some (some (.builtin "object.__class__")) := of_decide_eq_true (said c 120)
  have hm_TooMany : PySem.W.mroIn K (cl_TooMany K) (.type "object") = some true := of_decide_eq_true (said c 121)
  have nf_TooMany_name : PySem.W.findIn K (.ref (cl_TooMany K)) "name" = some none := of_decide_eq_true (said c 122)
  have nf_TooMany_most : PySem.W.findIn K (.ref (cl_TooMany K)) "most" = some none := of_decide_eq_true (said c 123)
  have exC_BadName : PySem.W.subIn K (.ref (cl_BadName K)) (.type "BaseException") = some true := of_decide_eq_true (said c 124)
  have hdC_BadName : PySem.W.hasDictIn K (cl_BadName K) = true := of_decide_eq_true (said c 125)
  have tyC_BadName : PySem.W.typeIn K (.ref (cl_BadName K)) = some (.type "type") := of_decide_eq_true (said c 126)
  have meC_BadName : PySem.W.subIn K (.ref (cl_BadName K)) (.ref (cl_BadName K)) = some true := of_decide_eq_true (said c 127)
  obtain ⟨nm_BadName, q_BadName, N_BadName, bs_BadName, sn_BadName, sub_BadName, ab_BadName, col_BadName, dd_BadName, m0_BadName, m1_BadName, m2_BadName, m3_BadName, m5_BadName, xL_BadName⟩ := oexB_ok (said c 128)
  have sa_BadName : PySem.W.findIn K (.ref (cl_BadName K)) "__setattr__" = some (some (.builtin "object.__setattr__")) := of_decide_eq_true (said c 129)
  have kC_BadName : PySem.W.keepIn K (.ref (cl_BadName K)) = true := of_decide_eq_true (said c 130)
  have ti_BadName : PySem.W.typeIn K (.ref (ad4 K)) = some (.type "function") := of_decide_eq_true (said c 131)
  have ga_BadName : PySem.W.findIn K (.ref (cl_BadName K)) "__getattribute__" = some (some (.builtin "BaseException.__getattribute__")) := of_decide_eq_true (said c 132)
  have gg_BadName : PySem.W.findIn K (.ref (cl_BadName K)) "__getattr__" = some none := of_decide_eq_true (said c 133)
  have ha_BadName : PySem.W.findIn K (.ref (cl_BadName K)) "__class__" = some (some (.builtin "object.__class__")) := of_decide_eq_true (said c 134)
  have hm_BadName : PySem.W.mroIn K (cl_BadName K) (.type "object") = some true := of_decide_eq_true (said c 135)
  have nf_BadName_name : PySem.W.findIn K (.ref (cl_BadName K)) "name" = some none := of_decide_eq_true (said c 136)
  have exC_RepeatedName : PySem.W.subIn K (.ref (cl_RepeatedName K)) (.type "BaseException") = some true := of_decide_eq_true (said c 137)
  have hdC_RepeatedName : PySem.W.hasDictIn K (cl_RepeatedName K) = true := of_decide_eq_true (said c 138)
  have tyC_RepeatedName : PySem.W.typeIn K (.ref (cl_RepeatedName K)) = some (.type "type") := of_decide_eq_true (said c 139)
  have meC_RepeatedName : PySem.W.subIn K (.ref (cl_RepeatedName K)) (.ref (cl_RepeatedName K)) = some true := of_decide_eq_true (said c 140)
  obtain ⟨nm_RepeatedName, q_RepeatedName, N_RepeatedName, bs_RepeatedName, sn_RepeatedName, sub_RepeatedName, ab_RepeatedName, col_RepeatedName, dd_RepeatedName, m0_RepeatedName, m1_RepeatedName, m2_RepeatedName, m3_RepeatedName, m5_RepeatedName, xL_RepeatedName⟩ := oexB_ok (said c 141)
  have sa_RepeatedName : PySem.W.findIn K (.ref (cl_RepeatedName K)) "__setattr__" = some (some (.builtin "object.__setattr__")) := of_decide_eq_true (said c 142)
  have kC_RepeatedName : PySem.W.keepIn K (.ref (cl_RepeatedName K)) = true := of_decide_eq_true (said c 143)
  have ti_RepeatedName : PySem.W.typeIn K (.ref (ad5 K)) = some (.type "function") := of_decide_eq_true (said c 144)
  have ga_RepeatedName : PySem.W.findIn K (.ref (cl_RepeatedName K)) "__getattribute__" = some (some (.builtin "BaseException.__getattribute__")) := of_decide_eq_true (said c 145)
  have gg_RepeatedName : PySem.W.findIn K (.ref (cl_RepeatedName K)) "__getattr__" = some none := of_decide_eq_true (said c 146)
  have ha_RepeatedName : PySem.W.findIn K (.ref (cl_RepeatedName K)) "__class__" = some (some (.builtin "object.__class__")) := of_decide_eq_true (said c 147)
  have hm_RepeatedName : PySem.W.mroIn K (cl_RepeatedName K) (.type "object") = some true := of_decide_eq_true (said c 148)
  have nf_RepeatedName_name : PySem.W.findIn K (.ref (cl_RepeatedName K)) "name" = some none := of_decide_eq_true (said c 149)
  have exC_WrongLength : PySem.W.subIn K (.ref (cl_WrongLength K)) (.type "BaseException") = some true := of_decide_eq_true (said c 150)
  have hdC_WrongLength : PySem.W.hasDictIn K (cl_WrongLength K) = true := of_decide_eq_true (said c 151)
  have tyC_WrongLength : PySem.W.typeIn K (.ref (cl_WrongLength K)) = some (.type "type") := of_decide_eq_true (said c 152)
  have meC_WrongLength : PySem.W.subIn K (.ref (cl_WrongLength K)) (.ref (cl_WrongLength K)) = some true := of_decide_eq_true (said c 153)
  obtain ⟨nm_WrongLength, q_WrongLength, N_WrongLength, bs_WrongLength, sn_WrongLength, sub_WrongLength, ab_WrongLength, col_WrongLength, dd_WrongLength, m0_WrongLength, m1_WrongLength, m2_WrongLength, m3_WrongLength, m5_WrongLength, xL_WrongLength⟩ := oexB_ok (said c 154)
  have sa_WrongLength : PySem.W.findIn K (.ref (cl_WrongLength K)) "__setattr__" = some (some (.builtin "object.__setattr__")) := of_decide_eq_true (said c 155)
  have kC_WrongLength : PySem.W.keepIn K (.ref (cl_WrongLength K)) = true := of_decide_eq_true (said c 156)
  have ti_WrongLength : PySem.W.typeIn K (.ref (ad3 K)) = some (.type "function") := of_decide_eq_true (said c 157)
  have ga_WrongLength : PySem.W.findIn K (.ref (cl_WrongLength K)) "__getattribute__" = some (some (.builtin "BaseException.__getattribute__")) := of_decide_eq_true (said c 158)
  have gg_WrongLength : PySem.W.findIn K (.ref (cl_WrongLength K)) "__getattr__" = some none := of_decide_eq_true (said c 159)
  have ha_WrongLength : PySem.W.findIn K (.ref (cl_WrongLength K)) "__class__" = some (some (.builtin "object.__class__")) := of_decide_eq_true (said c 160)
  have hm_WrongLength : PySem.W.mroIn K (cl_WrongLength K) (.type "object") = some true := of_decide_eq_true (said c 161)
  have nf_WrongLength_length : PySem.W.findIn K (.ref (cl_WrongLength K)) "length" = some none := of_decide_eq_true (said c 162)
  have exC_RepeatedHour : PySem.W.subIn K (.ref (cl_RepeatedHour K)) (.type "BaseException") = some true := of_decide_eq_true (said c 163)
  have hdC_RepeatedHour : PySem.W.hasDictIn K (cl_RepeatedHour K) = true := of_decide_eq_true (said c 164)
  have tyC_RepeatedHour : PySem.W.typeIn K (.ref (cl_RepeatedHour K)) = some (.type "type") := of_decide_eq_true (said c 165)
  have meC_RepeatedHour : PySem.W.subIn K (.ref (cl_RepeatedHour K)) (.ref (cl_RepeatedHour K)) = some true := of_decide_eq_true (said c 166)
  obtain ⟨nm_RepeatedHour, q_RepeatedHour, N_RepeatedHour, bs_RepeatedHour, sn_RepeatedHour, sub_RepeatedHour, ab_RepeatedHour, col_RepeatedHour, dd_RepeatedHour, m0_RepeatedHour, m1_RepeatedHour, m2_RepeatedHour, m3_RepeatedHour, m5_RepeatedHour, xL_RepeatedHour⟩ := oexB_ok (said c 167)
  have sa_RepeatedHour : PySem.W.findIn K (.ref (cl_RepeatedHour K)) "__setattr__" = some (some (.builtin "object.__setattr__")) := of_decide_eq_true (said c 168)
  have kC_RepeatedHour : PySem.W.keepIn K (.ref (cl_RepeatedHour K)) = true := of_decide_eq_true (said c 169)
  have ti_RepeatedHour : PySem.W.typeIn K (.ref (ad2 K)) = some (.type "function") := of_decide_eq_true (said c 170)
  have ga_RepeatedHour : PySem.W.findIn K (.ref (cl_RepeatedHour K)) "__getattribute__" = some (some (.builtin "BaseException.__getattribute__")) := of_decide_eq_true (said c 171)
  have gg_RepeatedHour : PySem.W.findIn K (.ref (cl_RepeatedHour K)) "__getattr__" = some none := of_decide_eq_true (said c 172)
  have ha_RepeatedHour : PySem.W.findIn K (.ref (cl_RepeatedHour K)) "__class__" = some (some (.builtin "object.__class__")) := of_decide_eq_true (said c 173)
  have hm_RepeatedHour : PySem.W.mroIn K (cl_RepeatedHour K) (.type "object") = some true := of_decide_eq_true (said c 174)
  have nf_RepeatedHour_hour : PySem.W.findIn K (.ref (cl_RepeatedHour K)) "hour" = some none := of_decide_eq_true (said c 175)
  have exC_ZeroUnder : PySem.W.subIn K (.ref (cl_ZeroUnder K)) (.type "BaseException") = some true := of_decide_eq_true (said c 176)
  have hdC_ZeroUnder : PySem.W.hasDictIn K (cl_ZeroUnder K) = true := of_decide_eq_true (said c 177)
  have tyC_ZeroUnder : PySem.W.typeIn K (.ref (cl_ZeroUnder K)) = some (.type "type") := of_decide_eq_true (said c 178)
  have meC_ZeroUnder : PySem.W.subIn K (.ref (cl_ZeroUnder K)) (.ref (cl_ZeroUnder K)) = some true := of_decide_eq_true (said c 179)
  have xP_ZeroUnder : PySem.W.excIn K (cl_ZeroUnder K) [.type "ValueError", .type "Exception", .type "BaseException", .type "object"] "ValueError.__new__" = true := of_decide_eq_true (said c 180)
  have kP_ZeroUnder : PySem.W.keepIn K (.ref (cl_ZeroUnder K)) = true := of_decide_eq_true (said c 181)
  have ga_ZeroUnder : PySem.W.findIn K (.ref (cl_ZeroUnder K)) "__getattribute__" = some (some (.builtin "BaseException.__getattribute__")) := of_decide_eq_true (said c 182)
  have gg_ZeroUnder : PySem.W.findIn K (.ref (cl_ZeroUnder K)) "__getattr__" = some none := of_decide_eq_true (said c 183)
  have ha_ZeroUnder : PySem.W.findIn K (.ref (cl_ZeroUnder K)) "__class__" = some (some (.builtin "object.__class__")) := of_decide_eq_true (said c 184)
  have hm_ZeroUnder : PySem.W.mroIn K (cl_ZeroUnder K) (.type "object") = some true := of_decide_eq_true (said c 185)
  have exC_OtherHours : PySem.W.subIn K (.ref (cl_OtherHours K)) (.type "BaseException") = some true := of_decide_eq_true (said c 186)
  have hdC_OtherHours : PySem.W.hasDictIn K (cl_OtherHours K) = true := of_decide_eq_true (said c 187)
  have tyC_OtherHours : PySem.W.typeIn K (.ref (cl_OtherHours K)) = some (.type "type") := of_decide_eq_true (said c 188)
  have meC_OtherHours : PySem.W.subIn K (.ref (cl_OtherHours K)) (.ref (cl_OtherHours K)) = some true := of_decide_eq_true (said c 189)
  have xP_OtherHours : PySem.W.excIn K (cl_OtherHours K) [.type "ValueError", .type "Exception", .type "BaseException", .type "object"] "ValueError.__new__" = true := of_decide_eq_true (said c 190)
  have kP_OtherHours : PySem.W.keepIn K (.ref (cl_OtherHours K)) = true := of_decide_eq_true (said c 191)
  have ga_OtherHours : PySem.W.findIn K (.ref (cl_OtherHours K)) "__getattribute__" = some (some (.builtin "BaseException.__getattribute__")) := of_decide_eq_true (said c 192)
  have gg_OtherHours : PySem.W.findIn K (.ref (cl_OtherHours K)) "__getattr__" = some none := of_decide_eq_true (said c 193)
  have ha_OtherHours : PySem.W.findIn K (.ref (cl_OtherHours K)) "__class__" = some (some (.builtin "object.__class__")) := of_decide_eq_true (said c 194)
  have hm_OtherHours : PySem.W.mroIn K (cl_OtherHours K) (.type "object") = some true := of_decide_eq_true (said c 195)
  have sub_OtherHours_WrongLength : PySem.W.subIn K (.ref (cl_OtherHours K)) (.ref (cl_WrongLength K)) = some false := of_decide_eq_true (said c 196)
  have exC_WatchError : PySem.W.subIn K (.ref (cl_WatchError K)) (.type "BaseException") = some true := of_decide_eq_true (said c 197)
  have hdC_WatchError : PySem.W.hasDictIn K (cl_WatchError K) = true := of_decide_eq_true (said c 198)
  have tyC_WatchError : PySem.W.typeIn K (.ref (cl_WatchError K)) = some (.type "type") := of_decide_eq_true (said c 199)
  have meC_WatchError : PySem.W.subIn K (.ref (cl_WatchError K)) (.ref (cl_WatchError K)) = some true := of_decide_eq_true (said c 200)
  have sub_OtherHours_WatchError : PySem.W.subIn K (.ref (cl_OtherHours K)) (.ref (cl_WatchError K)) = some true := of_decide_eq_true (said c 201)
  have sub_OtherHours_ValueError : PySem.W.subIn K (.ref (cl_OtherHours K)) (.type "ValueError") = some true := of_decide_eq_true (said c 202)
  have sub_Ratio_int : PySem.W.subIn K (.ref (cl_Ratio K)) (.type "int") = some false := of_decide_eq_true (said c 203)
  have pg_House : PySem.W.plainGet K (cl_House K) Str.empty = true := of_decide_eq_true (said c 204)
  have hd_House : PySem.W.hasDictIn K (cl_House K) = true := of_decide_eq_true (said c 205)
  have po_House : PySem.W.plainOver K (cl_House K) = true := of_decide_eq_true (said c 206)
  have sa_House : PySem.W.findIn K (.ref (cl_House K)) "__setattr__" = some (some (.builtin "object.__setattr__")) := of_decide_eq_true (said c 207)
  have mk_House : PySem.W.makesIn K (cl_House K) = true := of_decide_eq_true (said c 208)
  have kc_House : PySem.W.keepIn K (.ref (cl_House K)) = true := of_decide_eq_true (said c 209)
  have if_15 : PySem.W.isFn K (.ref (ad15 K)) = true := of_decide_eq_true (said c 210)
  have na_House_hours : PySem.W.findIn K (.ref (cl_House K)) "hours" = some none := of_decide_eq_true (said c 211)
  have na_House_names : PySem.W.findIn K (.ref (cl_House K)) "names" = some none := of_decide_eq_true (said c 212)
  have na_House_stakes : PySem.W.findIn K (.ref (cl_House K)) "stakes" = some none := of_decide_eq_true (said c 213)
  have ha_House : PySem.W.findIn K (.ref (cl_House K)) "__class__" = some (some (.builtin "object.__class__")) := of_decide_eq_true (said c 214)
  have hm_House : PySem.W.mroIn K (cl_House K) (.type "object") = some true := of_decide_eq_true (said c 215)
  have rd_House : PySem.W.readsIn K (cl_House K) (.type "type") = true := of_decide_eq_true (said c 216)
  have gt_House : PySem.W.specialIn K (.ref (cl_House K)) "__getattribute__" = some (some (.builtin "type.__getattribute__")) := of_decide_eq_true (said c 217)
  obtain ⟨tk_House_MOST_HOURS, cv_House_MOST_HOURS⟩ := cvalB_ok (said c 218)
  obtain ⟨tk_House_MOST_GATES, cv_House_MOST_GATES⟩ := cvalB_ok (said c 219)
  obtain ⟨tk_House_MOST_CELLS, cv_House_MOST_CELLS⟩ := cvalB_ok (said c 220)
  obtain ⟨tk_House_MOST_STAKE, cv_House_MOST_STAKE⟩ := cvalB_ok (said c 221)
  have pg_Watch : PySem.W.plainGet K (cl_Watch K) Str.empty = true := of_decide_eq_true (said c 222)
  have hd_Watch : PySem.W.hasDictIn K (cl_Watch K) = true := of_decide_eq_true (said c 223)
  have po_Watch : PySem.W.plainOver K (cl_Watch K) = true := of_decide_eq_true (said c 224)
  have sa_Watch : PySem.W.findIn K (.ref (cl_Watch K)) "__setattr__" = some (some (.builtin "object.__setattr__")) := of_decide_eq_true (said c 225)
  have mk_Watch : PySem.W.makesIn K (cl_Watch K) = true := of_decide_eq_true (said c 226)
  have kc_Watch : PySem.W.keepIn K (.ref (cl_Watch K)) = true := of_decide_eq_true (said c 227)
  have if_18 : PySem.W.isFn K (.ref (ad18 K)) = true := of_decide_eq_true (said c 228)
  have na_Watch_house : PySem.W.findIn K (.ref (cl_Watch K)) "house" = some none := of_decide_eq_true (said c 229)
  have na_Watch_rows : PySem.W.findIn K (.ref (cl_Watch K)) "_rows" = some none := of_decide_eq_true (said c 230)
  have ha_Watch : PySem.W.findIn K (.ref (cl_Watch K)) "__class__" = some (some (.builtin "object.__class__")) := of_decide_eq_true (said c 231)
  have hm_Watch : PySem.W.mroIn K (cl_Watch K) (.type "object") = some true := of_decide_eq_true (said c 232)
  have rd_Watch : PySem.W.readsIn K (cl_Watch K) (.type "type") = true := of_decide_eq_true (said c 233)
  have gt_Watch : PySem.W.specialIn K (.ref (cl_Watch K)) "__getattribute__" = some (some (.builtin "type.__getattribute__")) := of_decide_eq_true (said c 234)
  obtain ⟨tk_Watch_MOST, cv_Watch_MOST⟩ := cvalB_ok (said c 235)
  have pg_Lot : PySem.W.plainGet K (cl_Lot K) Str.empty = true := of_decide_eq_true (said c 236)
  have hd_Lot : PySem.W.hasDictIn K (cl_Lot K) = true := of_decide_eq_true (said c 237)
  have po_Lot : PySem.W.plainOver K (cl_Lot K) = true := of_decide_eq_true (said c 238)
  have sa_Lot : PySem.W.findIn K (.ref (cl_Lot K)) "__setattr__" = some (some (.builtin "object.__setattr__")) := of_decide_eq_true (said c 239)
  have mk_Lot : PySem.W.makesIn K (cl_Lot K) = true := of_decide_eq_true (said c 240)
  have kc_Lot : PySem.W.keepIn K (.ref (cl_Lot K)) = true := of_decide_eq_true (said c 241)
  have if_6 : PySem.W.isFn K (.ref (ad6 K)) = true := of_decide_eq_true (said c 242)
  have na_Lot_hours : PySem.W.findIn K (.ref (cl_Lot K)) "hours" = some none := of_decide_eq_true (said c 243)
  have na_Lot_members : PySem.W.findIn K (.ref (cl_Lot K)) "_members" = some none := of_decide_eq_true (said c 244)
  have nn_Lot : PySem.W.findIn K (.ref (cl_Lot K)) "__ne__" = some (some (.builtin "object.__ne__")) := of_decide_eq_true (said c 245)
  have hm_Lot : PySem.W.mroIn K (cl_Lot K) (.type "object") = some true := of_decide_eq_true (said c 246)
  have ha_Lot : PySem.W.findIn K (.ref (cl_Lot K)) "__class__" = some (some (.builtin "object.__class__")) := of_decide_eq_true (said c 247)
  have rd_Lot : PySem.W.readsIn K (cl_Lot K) (.type "type") = true := of_decide_eq_true (said c 248)
  have gt_Lot : PySem.W.specialIn K (.ref (cl_Lot K)) "__getattribute__" = some (some (.builtin "type.__getattribute__")) := of_decide_eq_true (said c 249)
  obtain ⟨tk_Lot_MOST, cv_Lot_MOST⟩ := cvalB_ok (said c 250)
  have pg_Ratio : PySem.W.plainGet K (cl_Ratio K) Str.empty = true := of_decide_eq_true (said c 251)
  have hd_Ratio : PySem.W.hasDictIn K (cl_Ratio K) = true := of_decide_eq_true (said c 252)
  have po_Ratio : PySem.W.plainOver K (cl_Ratio K) = true := of_decide_eq_true (said c 253)
  have sa_Ratio : PySem.W.findIn K (.ref (cl_Ratio K)) "__setattr__" = some (some (.builtin "object.__setattr__")) := of_decide_eq_true (said c 254)
  have mk_Ratio : PySem.W.makesIn K (cl_Ratio K) = true := of_decide_eq_true (said c 255)
  have kc_Ratio : PySem.W.keepIn K (.ref (cl_Ratio K)) = true := of_decide_eq_true (said c 256)
  have if_20 : PySem.W.isFn K (.ref (ad20 K)) = true := of_decide_eq_true (said c 257)
  have na_Ratio_top : PySem.W.findIn K (.ref (cl_Ratio K)) "top" = some none := of_decide_eq_true (said c 258)
  have na_Ratio_under : PySem.W.findIn K (.ref (cl_Ratio K)) "under" = some none := of_decide_eq_true (said c 259)
  have sf_Ratio : PySem.W.selfFirst K (cl_Ratio K) = true := of_decide_eq_true (said c 260)
  have si_Ratio : PySem.W.subIn K (.type "int") (.ref (cl_Ratio K)) = some false := of_decide_eq_true (said c 261)
  have dn_Ratio_add : PySem.W.findIn K (.ref (cl_Ratio K)) (PySem.dunder "add") = some (some (.ref (ad22 K))) := of_decide_eq_true (said c 262)
  have dn_Ratio_mul : PySem.W.findIn K (.ref (cl_Ratio K)) (PySem.dunder "mul") = some (some (.ref (ad23 K))) := of_decide_eq_true (said c 263)
  have rc_Ratio_mul : PySem.W.findIn K (.ref (cl_Ratio K)) (dunderR "mul") = some (some (.ref (rr_Ratio_mul K))) := of_decide_eq_true (said c 264)
  obtain ⟨fo_Ratio_mul, lo_Ratio_mul⟩ := Option.isSome_iff_exists.mp (said c 265)
  obtain ⟨ro_Ratio_mul, ro_Ratio_mul⟩ := Option.isSome_iff_exists.mp (said c 266)
  have ha_Ratio : PySem.W.findIn K (.ref (cl_Ratio K)) "__class__" = some (some (.builtin "object.__class__")) := of_decide_eq_true (said c 267)
  have hm_Ratio : PySem.W.mroIn K (cl_Ratio K) (.type "object") = some true := of_decide_eq_true (said c 268)
  have pg_7 : PySem.W.specialIn K (.ref (pr7 K)) "__get__" = some (some (.builtin "property.__get__")) := of_decide_eq_true (said c 269)
  have pt_7 : PySem.W.takesIn K (.ref (pr7 K)) = some true := of_decide_eq_true (said c 270)
  have if_8 : PySem.W.isFn K (.ref (ad8 K)) = true := of_decide_eq_true (said c 271)
  have if_9 : PySem.W.isFn K (.ref (ad9 K)) = true := of_decide_eq_true (said c 272)
  have if_10 : PySem.W.isFn K (.ref (ad10 K)) = true := of_decide_eq_true (said c 273)
  have if_11 : PySem.W.isFn K (.ref (ad11 K)) = true := of_decide_eq_true (said c 274)
  have if_12 : PySem.W.isFn K (.ref (ad12 K)) = true := of_decide_eq_true (said c 275)
  have if_16 : PySem.W.isFn K (.ref (ad16 K)) = true := of_decide_eq_true (said c 276)
  have fi_19 : PySem.W.fnIn K (ad19 K) = true := of_decide_eq_true (said c 277)
  have if_22 : PySem.W.isFn K (.ref (ad22 K)) = true := of_decide_eq_true (said c 278)
  have if_23 : PySem.W.isFn K (.ref (ad23 K)) = true := of_decide_eq_true (said c 279)
  have if_25 : PySem.W.isFn K (.ref (ad25 K)) = true := of_decide_eq_true (said c 280)
  have if_26 : PySem.W.isFn K (.ref (ad26 K)) = true := of_decide_eq_true (said c 281)
  obtain ⟨fd0, F0⟩ := stands c 0
  have k0 := F0.kp
  obtain ⟨fd1, F1⟩ := stands c 1
  have k1 := F1.kp
  obtain ⟨fd2, F2⟩ := stands c 2
  have k2 := F2.kp
  obtain ⟨fd3, F3⟩ := stands c 3
  have k3 := F3.kp
  obtain ⟨fd4, F4⟩ := stands c 4
  have k4 := F4.kp
  obtain ⟨fd5, F5⟩ := stands c 5
  have k5 := F5.kp
  obtain ⟨fd6, F6⟩ := stands c 6
  have k6 := F6.kp
  obtain ⟨fd7, F7⟩ := stands c 7
  have k7 := F7.kp
  obtain ⟨fd8, F8⟩ := stands c 8
  have k8 := F8.kp
  obtain ⟨fd9, F9⟩ := stands c 9
  have k9 := F9.kp
  obtain ⟨fd10, F10⟩ := stands c 10
  have k10 := F10.kp
  obtain ⟨fd11, F11⟩ := stands c 11
  have k11 := F11.kp
  obtain ⟨fd12, F12⟩ := stands c 12
  have k12 := F12.kp
  obtain ⟨fd13, F13⟩ := stands c 13
  have k13 := F13.kp
  obtain ⟨fd14, F14⟩ := stands c 14
  have k14 := F14.kp
  obtain ⟨fd15, F15⟩ := stands c 15
  have k15 := F15.kp
  obtain ⟨fd16, F16⟩ := stands c 16
  have k16 := F16.kp
  obtain ⟨fd17, F17⟩ := stands c 17
  have k17 := F17.kp
  obtain ⟨fd18, F18⟩ := stands c 18
  have k18 := F18.kp
  obtain ⟨fd19, F19⟩ := stands c 19
  have k19 := F19.kp
  obtain ⟨fd20, F20⟩ := stands c 20
  have k20 := F20.kp
  obtain ⟨fd21, F21⟩ := stands c 21
  have k21 := F21.kp
  obtain ⟨fd22, F22⟩ := stands c 22
  have k22 := F22.kp
  obtain ⟨fd23, F23⟩ := stands c 23
  have k23 := F23.kp
  obtain ⟨fd24, F24⟩ := stands c 24
  have k24 := F24.kp
  obtain ⟨fd25, F25⟩ := stands c 25
  have k25 := F25.kp
  obtain ⟨fd26, F26⟩ := stands c 26
  have k26 := F26.kp
  obtain ⟨fd27, F27⟩ := stands c 27
  have k27 := F27.kp
  obtain ⟨fd28, F28⟩ := stands c 28
  have k28 := F28.kp
  obtain ⟨fd29, F29⟩ := stands c 29
  have k29 := F29.kp
  obtain ⟨fd30, F30⟩ := stands c 30
  have k30 := F30.kp
  obtain ⟨fd31, F31⟩ := stands c 31
  have k31 := F31.kp
  obtain ⟨fd32, F32⟩ := stands c 32
  have k32 := F32.kp
  obtain ⟨fd33, F33⟩ := stands c 33
  have k33 := F33.kp
  obtain ⟨fd34, F34⟩ := stands c 34
  have k34 := F34.kp
  obtain ⟨fd35, F35⟩ := stands c 35
  have k35 := F35.kp
  obtain ⟨fd36, F36⟩ := stands c 36
  have k36 := F36.kp
  obtain ⟨fd37, F37⟩ := stands c 37
  have k37 := F37.kp
  obtain ⟨fd38, F38⟩ := stands c 38
  have k38 := F38.kp
  obtain ⟨fd39, F39⟩ := stands c 39
  have k39 := F39.kp
  obtain ⟨fd40, F40⟩ := stands c 40
  have k40 := F40.kp
  obtain ⟨fd41, F41⟩ := stands c 41
  have k41 := F41.kp
  obtain ⟨fd42, F42⟩ := stands c 42
  have k42 := F42.kp
  obtain ⟨fd43, F43⟩ := stands c 43
  have k43 := F43.kp
  obtain ⟨fd44, F44⟩ := stands c 44
  have k44 := F44.kp
  obtain ⟨fd45, F45⟩ := stands c 45
  have k45 := F45.kp
  obtain ⟨fd46, F46⟩ := stands c 46
  have k46 := F46.kp
  obtain ⟨fd47, F47⟩ := stands c 47
  have k47 := F47.kp
  obtain ⟨fd48, F48⟩ := stands c 48
  have k48 := F48.kp
  obtain ⟨fd49, F49⟩ := stands c 49
  have k49 := F49.kp
  obtain ⟨fd50, F50⟩ := stands c 50
  have k50 := F50.kp
  obtain ⟨fd51, F51⟩ := stands c 51
  have k51 := F51.kp
  obtain ⟨fd52, F52⟩ := stands c 52
  have k52 := F52.kp
  have e := hfa.symm.trans (PySem.W.mg_of X G a52)
  cases e
  let A : Ads := {
    f_BadNumber_init := ad0 K,
    d_BadNumber_init := fd0,
    f_TooMany_init := ad1 K,
    d_TooMany_init := fd1,
    f_RepeatedHour_init := ad2 K,
    d_RepeatedHour_init := fd2,
    f_WrongLength_init := ad3 K,
    d_WrongLength_init := fd3,
    f_BadName_init := ad4 K,
    d_BadName_init := fd4,
    f_RepeatedName_init := ad5 K,
    d_RepeatedName_init := fd5,
    f_Lot_init := ad6 K,
    d_Lot_init := fd6,
    f_Lot_members := ad7 K,
    d_Lot_members := fd7,
    f_Lot_len := ad8 K,
    d_Lot_len := fd8,
    f_Lot_iter := ad9 K,
    d_Lot_iter := fd9,
    f_Lot_contains := ad10 K,
    d_Lot_contains := fd10,
    f_Lot_eq := ad11 K,
    d_Lot_eq := fd11,
    f_Lot_invert := ad12 K,
    d_Lot_invert := fd12,
    f_check_name := ad13 K,
    d_check_name := fd13,
    f_check_new_name := ad14 K,
    d_check_new_name := fd14,
    f_House_init := ad15 K,
    d_House_init := fd15,
    f_House_len := ad16 K,
    d_House_len := fd16,
    f_u_check_row := ad17 K,
    d_u_check_row := fd17,
    f_Watch_init := ad18 K,
    d_Watch_init := fd18,
    f_Watch_of_lots := ad19 K,
    d_Watch_of_lots := fd19,
    f_Ratio_init := ad20 K,
    d_Ratio_init := fd20,
    f_as_ratio := ad21 K,
    d_as_ratio := fd21,
    f_Ratio_add := ad22 K,
    d_Ratio_add := fd22,
    f_Ratio_mul := ad23 K,
    d_Ratio_mul := fd23,
    f_u_lead := ad24 K,
    d_u_lead := fd24,
    f_Ratio_lt := ad25 K,
    d_Ratio_lt := fd25,
    f_Ratio_gt := ad26 K,
    d_Ratio_gt := fd26,
    f_greatest := ad27 K,
    d_greatest := fd27,
    f_meetings := ad28 K,
    d_meetings := fd28,
    f_no_look_bound := ad29 K,
    d_no_look_bound := fd29,
    f_u_means_after := ad30 K,
    d_u_means_after := fd30,
    f_one_look_bound := ad31 K,
    d_one_look_bound := fd31,
    f_u_law_cell := ad32 K,
    d_u_law_cell := fd32,
    f_u_law_draws := ad33 K,
    d_u_law_draws := fd33,
    f_u_law_two := ad34 K,
    d_u_law_two := fd34,
    f_u_law_bits := ad35 K,
    d_u_law_bits := fd35,
    f_u_law_name := ad36 K,
    d_u_law_name := fd36,
    f_u_law_names := ad37 K,
    d_u_law_names := fd37,
    f_u_law_gates := ad38 K,
    d_u_law_gates := fd38,
    f_u_law_gcd := ad39 K,
    d_u_law_gcd := fd39,
    f_u_law_is_int := ad40 K,
    d_u_law_is_int := fd40,
    f_u_law_is_ratio := ad41 K,
    d_u_law_is_ratio := fd41,
    f_u_law_worth := ad42 K,
    d_u_law_worth := fd42,
    f_u_law_same := ad43 K,
    d_u_law_same := fd43,
    f_u_law_greater := ad44 K,
    d_u_law_greater := fd44,
    f_u_law_no_look := ad45 K,
    d_u_law_no_look := fd45,
    f_u_law_one_look := ad46 K,
    d_u_law_one_look := fd46,
    f_u_law_told := ad47 K,
    d_u_law_told := fd47,
    f_u_law_refused := ad48 K,
    d_u_law_refused := fd48,
    f_u_law_refused_by_base := ad49 K,
    d_u_law_refused_by_base := fd49,
    f_u_law_faults := ad50 K,
    d_u_law_faults := fd50,
    f_u_law_sets := ad51 K,
    d_u_law_sets := fd51,
    f_law := ad52 K,
    d_law := fd52,
    C_ZeroUnder := cl_ZeroUnder K,
    C_BadNumber := cl_BadNumber K,
    C_TooMany := cl_TooMany K,
    C_RepeatedHour := cl_RepeatedHour K,
    C_OtherHours := cl_OtherHours K,
    C_WrongLength := cl_WrongLength K,
    C_BadName := cl_BadName K,
    C_RepeatedName := cl_RepeatedName K,
    C_WatchError := cl_WatchError K,
    C_Lot := cl_Lot K,
    C_House := cl_House K,
    C_Watch := cl_Watch K,
    C_Ratio := cl_Ratio K,
    p_Lot_members := (pr7 K),
    p_Watch_of_lots := (pr19 K) }
  have T : Txt K mg A := {
    F_BadNumber_init := He5.fun_of F0,
    F_TooMany_init := He5.fun_of F1,
    F_RepeatedHour_init := He5.fun_of F2,
    F_WrongLength_init := He5.fun_of F3,
    F_BadName_init := He5.fun_of F4,
    F_RepeatedName_init := He5.fun_of F5,
    F_Lot_init := He5.fun_of F6,
    F_Lot_members := He5.fun_of F7,
    F_Lot_len := He5.fun_of F8,
    F_Lot_iter := He5.fun_of F9,
    F_Lot_contains := He5.fun_of F10,
    F_Lot_eq := He5.fun_of F11,
    F_Lot_invert := He5.fun_of F12,
    F_check_name := He5.fun_of F13,
    g_check_name := PySem.W.mg_of X G a13,
    k_check_name := k13,
    F_check_new_name := He5.fun_of F14,
    g_check_new_name := PySem.W.mg_of X G a14,
    k_check_new_name := k14,
    F_House_init := He5.fun_of F15,
    F_House_len := He5.fun_of F16,
    F_u_check_row := He5.fun_of F17,
    g_u_check_row := PySem.W.mg_of X G a17,
    k_u_check_row := k17,
    F_Watch_init := He5.fun_of F18,
    F_Watch_of_lots := He5.fun_of F19,
    F_Ratio_init := F20,
    F_as_ratio := He5.fun_of F21,
    g_as_ratio := PySem.W.mg_of X G a21,
    k_as_ratio := k21,
    F_Ratio_add := He5.fun_of F22,
    F_Ratio_mul := He5.fun_of F23,
    F_u_lead := He5.fun_of F24,
    g_u_lead := PySem.W.mg_of X G a24,
    k_u_lead := k24,
    F_Ratio_lt := He5.fun_of F25,
    F_Ratio_gt := He5.fun_of F26,
    F_greatest := He5.fun_of F27,
    g_greatest := PySem.W.mg_of X G a27,
    k_greatest := k27,
    F_meetings := He5.fun_of F28,
    g_meetings := PySem.W.mg_of X G a28,
    k_meetings := k28,
    F_no_look_bound := He5.fun_of F29,
    g_no_look_bound := PySem.W.mg_of X G a29,
    k_no_look_bound := k29,
    F_u_means_after := He5.fun_of F30,
    g_u_means_after := PySem.W.mg_of X G a30,
    k_u_means_after := k30,
    F_one_look_bound := He5.fun_of F31,
    g_one_look_bound := PySem.W.mg_of X G a31,
    k_one_look_bound := k31,
    F_u_law_cell := He5.fun_of F32,
    g_u_law_cell := PySem.W.mg_of X G a32,
    k_u_law_cell := k32,
    F_u_law_draws := He5.fun_of F33,
    g_u_law_draws := PySem.W.mg_of X G a33,
    k_u_law_draws := k33,
    F_u_law_two := He5.fun_of F34,
    g_u_law_two := PySem.W.mg_of X G a34,
    k_u_law_two := k34,
    F_u_law_bits := He5.fun_of F35,
    g_u_law_bits := PySem.W.mg_of X G a35,
    k_u_law_bits := k35,
    F_u_law_name := He5.fun_of F36,
    g_u_law_name := PySem.W.mg_of X G a36,
    k_u_law_name := k36,
    F_u_law_names := He5.fun_of F37,
    g_u_law_names := PySem.W.mg_of X G a37,
    k_u_law_names := k37,
    F_u_law_gates := He5.fun_of F38,
    g_u_law_gates := PySem.W.mg_of X G a38,
    k_u_law_gates := k38,
    F_u_law_gcd := He5.fun_of F39,
    g_u_law_gcd := PySem.W.mg_of X G a39,
    k_u_law_gcd := k39,
    F_u_law_is_int := He5.fun_of F40,
    g_u_law_is_int := PySem.W.mg_of X G a40,
    k_u_law_is_int := k40,
    F_u_law_is_ratio := He5.fun_of F41,
    g_u_law_is_ratio := PySem.W.mg_of X G a41,
    k_u_law_is_ratio := k41,
    F_u_law_worth := He5.fun_of F42,
    g_u_law_worth := PySem.W.mg_of X G a42,
    k_u_law_worth := k42,
    F_u_law_same := He5.fun_of F43,
    g_u_law_same := PySem.W.mg_of X G a43,
    k_u_law_same := k43,
    F_u_law_greater := He5.fun_of F44,
    g_u_law_greater := PySem.W.mg_of X G a44,
    k_u_law_greater := k44,
    F_u_law_no_look := He5.fun_of F45,
    g_u_law_no_look := PySem.W.mg_of X G a45,
    k_u_law_no_look := k45,
    F_u_law_one_look := He5.fun_of F46,
    g_u_law_one_look := PySem.W.mg_of X G a46,
    k_u_law_one_look := k46,
    F_u_law_told := He5.fun_of F47,
    g_u_law_told := PySem.W.mg_of X G a47,
    k_u_law_told := k47,
    F_u_law_refused := He5.fun_of F48,
    g_u_law_refused := PySem.W.mg_of X G a48,
    k_u_law_refused := k48,
    F_u_law_refused_by_base := He5.fun_of F49,
    g_u_law_refused_by_base := PySem.W.mg_of X G a49,
    k_u_law_refused_by_base := k49,
    F_u_law_faults := He5.fun_of F50,
    g_u_law_faults := PySem.W.mg_of X G a50,
    k_u_law_faults := k50,
    F_u_law_sets := He5.fun_of F51,
    g_u_law_sets := PySem.W.mg_of X G a51,
    k_u_law_sets := k51,
    F_law := He5.fun_of F52,
    g_law := hfa,
    k_law := k52,
    c_LONGEST_NAME := ⟨_, PySem.W.mg_of X G kc_LONGEST_NAME⟩,
    c_LETTERS := ⟨_, PySem.W.mg_of X G kc_LETTERS⟩,
    z_abs := PySem.W.mg_none_of X G z_abs,
    z_len := PySem.W.mg_none_of X G z_len,
    z_int := PySem.W.mg_none_of X G z_int,
    z_bool := PySem.W.mg_none_of X G z_bool,
    z_str := PySem.W.mg_none_of X G z_str,
    z_list := PySem.W.mg_none_of X G z_list,
    z_tuple := PySem.W.mg_none_of X G z_tuple,
    z_isinstance := PySem.W.mg_none_of X G z_isinstance,
    z_range := PySem.W.mg_none_of X G z_range,
    z_ValueError := PySem.W.mg_none_of X G z_ValueError,
    z_min := PySem.W.mg_none_of X G z_min,
    z_max := PySem.W.mg_none_of X G z_max,
    z_enumerate := PySem.W.mg_none_of X G z_enumerate,
    z_zip := PySem.W.mg_none_of X G z_zip,
    z_iter := PySem.W.mg_none_of X G z_iter,
    g_ZeroUnder := PySem.W.mg_of X G g_ZeroUnder,
    g_BadNumber := PySem.W.mg_of X G g_BadNumber,
    g_TooMany := PySem.W.mg_of X G g_TooMany,
    g_RepeatedHour := PySem.W.mg_of X G g_RepeatedHour,
    g_OtherHours := PySem.W.mg_of X G g_OtherHours,
    g_WrongLength := PySem.W.mg_of X G g_WrongLength,
    g_BadName := PySem.W.mg_of X G g_BadName,
    g_RepeatedName := PySem.W.mg_of X G g_RepeatedName,
    g_WatchError := PySem.W.mg_of X G g_WatchError,
    g_Lot := PySem.W.mg_of X G g_Lot,
    g_House := PySem.W.mg_of X G g_House,
    g_Watch := PySem.W.mg_of X G g_Watch,
    g_Ratio := PySem.W.mg_of X G g_Ratio,
    si_list := siLW,
    kit_list_Watch := kit_no hdW tyW meC_Watch siLW,
    g_gcd := PySem.W.mg_of X G gG,
    kit_int_Ratio := kit_no hdR tyR meC_Ratio siR,
    ox_BadNumber := ⟨⟨nm_BadNumber, q_BadNumber, N_BadNumber, bs_BadNumber, _, sn_BadNumber, sub_BadNumber, ab_BadNumber, col_BadNumber, dd_BadNumber, m0_BadNumber, m1_BadNumber, m2_BadNumber, m3_BadNumber, m5_BadNumber, xL_BadNumber, rfl⟩, sa_BadNumber, exC_BadNumber, tyC_BadNumber, kC_BadNumber⟩,
    ni_BadNumber := a0,
    ti_BadNumber := ti_BadNumber,
    nf_BadNumber_name := nf_BadNumber_name,
    nf_BadNumber_value := nf_BadNumber_value,
    xf_BadNumber := ⟨ga_BadNumber, gg_BadNumber, exC_BadNumber, hdC_BadNumber⟩,
    ex_BadNumber := ⟨ga_BadNumber, gg_BadNumber, exC_BadNumber, hdC_BadNumber, ha_BadNumber, hn_, ht_, hm_BadNumber⟩,
    ox_TooMany := ⟨⟨nm_TooMany, q_TooMany, N_TooMany, bs_TooMany, _, sn_TooMany, sub_TooMany, ab_TooMany, col_TooMany, dd_TooMany, m0_TooMany, m1_TooMany, m2_TooMany, m3_TooMany, m5_TooMany, xL_TooMany, rfl⟩, sa_TooMany, exC_TooMany, tyC_TooMany, kC_TooMany⟩,
    ni_TooMany := a1,
    ti_TooMany := ti_TooMany,
    nf_TooMany_name := nf_TooMany_name,
    nf_TooMany_most := nf_TooMany_most,
    xf_TooMany := ⟨ga_TooMany, gg_TooMany, exC_TooMany, hdC_TooMany⟩,
    ex_TooMany := ⟨ga_TooMany, gg_TooMany, exC_TooMany, hdC_TooMany, ha_TooMany, hn_, ht_, hm_TooMany⟩,
    ox_BadName := ⟨⟨nm_BadName, q_BadName, N_BadName, bs_BadName, _, sn_BadName, sub_BadName, ab_BadName, col_BadName, dd_BadName, m0_BadName, m1_BadName, m2_BadName, m3_BadName, m5_BadName, xL_BadName, rfl⟩, sa_BadName, exC_BadName, tyC_BadName, kC_BadName⟩,
    ni_BadName := a4,
    ti_BadName := ti_BadName,
    nf_BadName_name := nf_BadName_name,
    xf_BadName := ⟨ga_BadName, gg_BadName, exC_BadName, hdC_BadName⟩,
    ex_BadName := ⟨ga_BadName, gg_BadName, exC_BadName, hdC_BadName, ha_BadName, hn_, ht_, hm_BadName⟩,
    ox_RepeatedName := ⟨⟨nm_RepeatedName, q_RepeatedName, N_RepeatedName, bs_RepeatedName, _, sn_RepeatedName, sub_RepeatedName, ab_RepeatedName, col_RepeatedName, dd_RepeatedName, m0_RepeatedName, m1_RepeatedName, m2_RepeatedName, m3_RepeatedName, m5_RepeatedName, xL_RepeatedName, rfl⟩, sa_RepeatedName, exC_RepeatedName, tyC_RepeatedName, kC_RepeatedName⟩,
    ni_RepeatedName := a5,
    ti_RepeatedName := ti_RepeatedName,
    nf_RepeatedName_name := nf_RepeatedName_name,
    xf_RepeatedName := ⟨ga_RepeatedName, gg_RepeatedName, exC_RepeatedName, hdC_RepeatedName⟩,
    ex_RepeatedName := ⟨ga_RepeatedName, gg_RepeatedName, exC_RepeatedName, hdC_RepeatedName, ha_RepeatedName, hn_, ht_, hm_RepeatedName⟩,
    ox_WrongLength := ⟨⟨nm_WrongLength, q_WrongLength, N_WrongLength, bs_WrongLength, _, sn_WrongLength, sub_WrongLength, ab_WrongLength, col_WrongLength, dd_WrongLength, m0_WrongLength, m1_WrongLength, m2_WrongLength, m3_WrongLength, m5_WrongLength, xL_WrongLength, rfl⟩, sa_WrongLength, exC_WrongLength, tyC_WrongLength, kC_WrongLength⟩,
    ni_WrongLength := a3,
    ti_WrongLength := ti_WrongLength,
    nf_WrongLength_length := nf_WrongLength_length,
    xf_WrongLength := ⟨ga_WrongLength, gg_WrongLength, exC_WrongLength, hdC_WrongLength⟩,
    ex_WrongLength := ⟨ga_WrongLength, gg_WrongLength, exC_WrongLength, hdC_WrongLength, ha_WrongLength, hn_, ht_, hm_WrongLength⟩,
    ox_RepeatedHour := ⟨⟨nm_RepeatedHour, q_RepeatedHour, N_RepeatedHour, bs_RepeatedHour, _, sn_RepeatedHour, sub_RepeatedHour, ab_RepeatedHour, col_RepeatedHour, dd_RepeatedHour, m0_RepeatedHour, m1_RepeatedHour, m2_RepeatedHour, m3_RepeatedHour, m5_RepeatedHour, xL_RepeatedHour, rfl⟩, sa_RepeatedHour, exC_RepeatedHour, tyC_RepeatedHour, kC_RepeatedHour⟩,
    ni_RepeatedHour := a2,
    ti_RepeatedHour := ti_RepeatedHour,
    nf_RepeatedHour_hour := nf_RepeatedHour_hour,
    xf_RepeatedHour := ⟨ga_RepeatedHour, gg_RepeatedHour, exC_RepeatedHour, hdC_RepeatedHour⟩,
    ex_RepeatedHour := ⟨ga_RepeatedHour, gg_RepeatedHour, exC_RepeatedHour, hdC_RepeatedHour, ha_RepeatedHour, hn_, ht_, hm_RepeatedHour⟩,
    xP_ZeroUnder := xP_ZeroUnder,
    kP_ZeroUnder := kP_ZeroUnder,
    bP_ZeroUnder := exC_ZeroUnder,
    tP_ZeroUnder := tyC_ZeroUnder,
    ex_ZeroUnder := ⟨ga_ZeroUnder, gg_ZeroUnder, exC_ZeroUnder, hdC_ZeroUnder, ha_ZeroUnder, hn_, ht_, hm_ZeroUnder⟩,
    xP_OtherHours := xP_OtherHours,
    kP_OtherHours := kP_OtherHours,
    bP_OtherHours := exC_OtherHours,
    tP_OtherHours := tyC_OtherHours,
    ex_OtherHours := ⟨ga_OtherHours, gg_OtherHours, exC_OtherHours, hdC_OtherHours, ha_OtherHours, hn_, ht_, hm_OtherHours⟩,
    xm_WrongLength_WrongLength := PySem.W.exm_ref exC_WrongLength hdC_WrongLength tyC_WrongLength meC_WrongLength,
    xm_OtherHours_WrongLength := PySem.W.exm_ref exC_WrongLength hdC_WrongLength tyC_WrongLength sub_OtherHours_WrongLength,
    xm_OtherHours_OtherHours := PySem.W.exm_ref exC_OtherHours hdC_OtherHours tyC_OtherHours meC_OtherHours,
    xm_OtherHours_WatchError := PySem.W.exm_ref exC_WatchError hdC_WatchError tyC_WatchError sub_OtherHours_WatchError,
    kit_OtherHours_ValueError := kit_bi (by decide +kernel) sub_OtherHours_ValueError,
    kit_OtherHours_WrongLength := kit_no hdC_WrongLength tyC_WrongLength meC_WrongLength sub_OtherHours_WrongLength,
    kit_Ratio_int := kit_bi (by decide +kernel) sub_Ratio_int,
    kit_Ratio_Ratio := kit_self,
    cl_House := ⟨pg_House, hd_House, po_House, sa_House⟩,
    mk_House := ⟨mk_House, a15, if_15, kc_House⟩,
    na_House_hours := na_House_hours,
    na_House_names := na_House_names,
    na_House_stakes := na_House_stakes,
    ty_House := fun H a dx fs e => .base (.ins e ⟨pg_House, hd_House, po_House, sa_House⟩ ha_House hn_ ht_ hm_House),
    rd_House := ⟨.type "type", ⟨rd_House, gt_House⟩, ⟨_, cv_House_MOST_HOURS, ⟨_, rfl⟩⟩, ⟨_, cv_House_MOST_GATES, ⟨_, rfl⟩⟩, ⟨_, cv_House_MOST_CELLS, ⟨_, rfl⟩⟩, ⟨_, cv_House_MOST_STAKE, ⟨_, rfl⟩⟩⟩,
    cl_Watch := ⟨pg_Watch, hd_Watch, po_Watch, sa_Watch⟩,
    mk_Watch := ⟨mk_Watch, a18, if_18, kc_Watch⟩,
    na_Watch_house := na_Watch_house,
    na_Watch_rows := na_Watch_rows,
    ty_Watch := fun H a dx fs e => .base (.ins e ⟨pg_Watch, hd_Watch, po_Watch, sa_Watch⟩ ha_Watch hn_ ht_ hm_Watch),
    rd_Watch := ⟨.type "type", ⟨rd_Watch, gt_Watch⟩, ⟨_, cv_Watch_MOST, ⟨_, rfl⟩⟩⟩,
    cl_Lot := ⟨pg_Lot, hd_Lot, po_Lot, sa_Lot⟩,
    mk_Lot := ⟨mk_Lot, a6, if_6, kc_Lot⟩,
    na_Lot_hours := na_Lot_hours,
    na_Lot_members := na_Lot_members,
    ne_Lot := ⟨hm_Lot, nn_Lot⟩,
    ty_Lot := fun H a dx fs e => .base (.ins e ⟨pg_Lot, hd_Lot, po_Lot, sa_Lot⟩ ha_Lot hn_ ht_ hm_Lot),
    rd_Lot := ⟨.type "type", ⟨rd_Lot, gt_Lot⟩, ⟨_, cv_Lot_MOST, ⟨_, rfl⟩⟩⟩,
    cl_Ratio := ⟨pg_Ratio, hd_Ratio, po_Ratio, sa_Ratio⟩,
    mk_Ratio := ⟨mk_Ratio, a20, if_20, kc_Ratio⟩,
    na_Ratio_top := na_Ratio_top,
    na_Ratio_under := na_Ratio_under,
    op_Ratio := ⟨sf_Ratio, si_Ratio⟩,
    D_Ratio_add := ⟨dn_Ratio_add, if_22, k22⟩,
    D_Ratio_mul := ⟨dn_Ratio_mul, if_23, k23⟩,
    li_Ratio := sub_Ratio_int,
    I_Ratio_mul := ⟨⟨_, rc_Ratio_mul, .inr ⟨_, rfl⟩⟩, ⟨_, lo_Ratio_mul⟩, ⟨_, ro_Ratio_mul⟩⟩,
    ty_Ratio := fun H a dx fs e => .base (.ins e ⟨pg_Ratio, hd_Ratio, po_Ratio, sa_Ratio⟩ ha_Ratio hn_ ht_ hm_Ratio),
    P_Lot_members := ⟨pa_7, pg_7, pt_7, ⟨_, a7⟩⟩,
    M_Lot_len := ⟨a8, if_8, k8⟩,
    M_Lot_iter := ⟨a9, if_9, k9⟩,
    M_Lot_contains := ⟨a10, if_10, k10⟩,
    M_Lot_eq := ⟨a11, if_11, k11⟩,
    M_Lot_invert := ⟨a12, if_12, k12⟩,
    M_House_len := ⟨a16, if_16, k16⟩,
    CM_Watch_of_lots := ⟨.type "type", ⟨rd_Watch, gt_Watch⟩, ⟨pa_19, ⟨_, a19⟩, fi_19⟩⟩,
    M_Ratio_add := ⟨a22, if_22, k22⟩,
    M_Ratio_mul := ⟨a23, if_23, k23⟩,
    M_Ratio_lt := ⟨a25, if_25, k25⟩,
    M_Ratio_gt := ⟨a26, if_26, k26⟩ }
  exact ⟨A.d_law, fun s v => (by have z := F52.bindsA (ps := ["script"]) fun _ _ _ _ _ _ us hl => match us, hl with | [_], _ => rfl; exact z s [v] rfl), fun base _ _ => ok_law T⟩
def names0 : List Str := ["_wall", "__name__", "WatchError", "ZeroUnder", "BadNumber", "TooMany", "RepeatedHour", "Meets", "OtherHours", "OtherHouse", "NotADivisor", "SharedFactor", "WrongLength", "NoPlace", "BadName", "RepeatedName"]
def names1 : List Str := ["UnknownName", "_LETTERS", "_LONGEST_NAME", "House", "check_name", "check_new_name", "is_gate", "Lot", "_check_hours", "_lot_of_each", "meetings", "Watch", "_check_row", "check_house", "Ratio", "_lead"]
def names2 : List Str := ["as_ratio", "greatest", "no_look_bound", "one_look_bound", "_means_after", "_law_cell", "_law_draws", "_law_two", "_law_bits", "_law_name", "_law_names", "_law_gates", "_law_gcd", "_law_is_int", "_law_is_ratio", "_law_worth"]
def names3 : List Str := ["_law_same", "_law_greater", "_law_no_look", "_law_one_look", "_law_told", "_law_refused", "_law_refused_by_base", "_law_faults", "_law_sets"]
def theNames : List Str := names0 ++ (names1 ++ (names2 ++ (names3)))
abbrev theRow : PySem.W.OpenRow := PySem.W.OpenLaw.row PySem.Challenge.rw_watchbeats_k66_bounds_by_differences
abbrev theHook : PySem.W.Hook := topHook 4 theFacts theDefs
abbrev thePlaces : List Nat := [0, 65]
def looked (s : PySem.W.SharedT) : He.AlD := allB theFacts theDefs (He.frG (HandSHeadRun.getT s) (asX (HandSHeadRun.getT s) 4))
theorem looked_eq (s : PySem.W.SharedT) : looked s = theHook.obs s.abs := by
  have e : HandSHeadRun.getT s = s.abs.heap.get? := funext (HandSHeadRun.getT_eq s)
  show allB theFacts theDefs (He.frG (HandSHeadRun.getT s) (asX (HandSHeadRun.getT s) 4)) = _
  rw [e]
  rfl
noncomputable abbrev oneRun (w : World) := HandSHeadRun.wholeF (fun p => HandSHeadRun.stepQ (HandSHeadRun.denQ HandSHeadRun.tabQ) p w) HandSHeadRun.fenceQ 20000 theRow.prog
section
open PySem.W PySem.Calls PyProof.Rows HandSHeadRun
noncomputable abbrev headSeen (x : Shared × PySem.W.SharedT) := (looksF theRow.prog x.1.heap x.2.abs, seenQ (PySem.W.view theRow.prog thePlaces) theNames (importedModules theRow.prog.main.body) (fun s => xlAt (PySem.W.view theRow.prog thePlaces) [] s && recOk theRow.toRowW.records s) x.2.abs)
theorem run_seen (w : World) : (oneRun w).map headSeen = some (true, openGood (PySem.W.view theRow.prog thePlaces) theNames) := by
  kernel_rfl
end
theorem run0 (w : World) : (oneRun w).map (fun x => allB gf0 gd0 (He.frG (HandSHeadRun.getT x.2) (asX (HandSHeadRun.getT x.2) 4))) = some (He5.valA gd0) := by
  kernel_rfl
theorem run1 (w : World) : (oneRun w).map (fun x => allB gf1 gd1 (He.frG (HandSHeadRun.getT x.2) (asX (HandSHeadRun.getT x.2) 4))) = some (He5.valA gd1) := by
  kernel_rfl
theorem theRun (w : World) : HandSHeadRun.RunEqI theRow (PySem.W.view theRow.prog thePlaces) theHook looked 20000 theNames w := by
  unfold HandSHeadRun.RunEqI
  obtain ⟨x, hx, e0⟩ := Option.map_eq_some_iff.mp (run_seen w)
  have e1 := run0 w
  rw [hx] at e1
  have e2 := run1 w
  rw [hx] at e2
  have l : looked x.2 = He5.valA theDefs := allB_app (Option.some.inj e1) (Option.some.inj e2)
  have a := (Prod.mk.inj e0).1
  have b := (Prod.mk.inj e0).2
  show (oneRun w).map _ = _
  rw [hx]
  exact congrArg some (Prod.ext a (Prod.ext b l))
end Pf
open PySem PySem.W PySem.Calls PyProof.Rows
set_option maxRecDepth 100000 in
set_option maxHeartbeats 0 in
theorem PySem.Challenge.cw_watchbeats_k66_bounds_by_differences_holds : PySem.Challenge.rw_watchbeats_k66_bounds_by_differences.Holds := by
  w_on; o_law
  refine HandSHeadRun.head_imp (r := OpenLaw.row PySem.Challenge.rw_watchbeats_k66_bounds_by_differences) (q := view (OpenLaw.row PySem.Challenge.rw_watchbeats_k66_bounds_by_differences).prog Pf.thePlaces) (H := Pf.theHook) (ob := Pf.looked) (M := 20000) (loose := Pf.theNames) (d := HandSHeadRun.topDef (OpenLaw.row PySem.Challenge.rw_watchbeats_k66_bounds_by_differences).prog 65) (kwd := []) Pf.looked_eq
    Pf.theRun (by kernel_rfl) (by kernel_rfl) (by kernel_rfl) (by rfl) (by first | assumption | decide +kernel) (by decide +kernel) ⟨rfl, rfl, rfl, rfl, rfl, by decide +kernel⟩ ?hw ?hc
  case hw => w_witness2
  case hc =>
    refine L2.walk_ofE (l := PySem.Challenge.rw_watchbeats_k66_bounds_by_differences) (n := 63) (k := 20) (x := "script") (CX := L2.CX0) rfl (by decide) (by kernel_rfl) ⟨rfl, by decide, by decide⟩ ?F (fun _ _ _ _ z => z)
    intro w mg fa h Y G hmg0
    obtain ⟨K, KX, c⟩ := Y
    have hmg : mg ("law" : PySem.Str) = some (.ref fa) := by
      have e : (HandSHeadRun.topDef (OpenLaw.row PySem.Challenge.rw_watchbeats_k66_bounds_by_differences).prog 65).name = ("law" : PySem.Str) := by kernel_rfl
      rw [← e]
      exact hmg0
    obtain ⟨fd, hb, hF⟩ := Pf.all_ok (l := PySem.Challenge.rw_watchbeats_k66_bounds_by_differences) (w := w) c KX G hmg
    exact ⟨K, fd, (Pf.spLaw K), KX, hb, fun H a ns hl _ hS => ⟨a, ns, rfl, hS, hl, fun _ => rfl⟩, hF⟩
#print axioms PySem.Challenge.cw_watchbeats_k66_bounds_by_differences_holds
