import PyProof.Rows.All
import Wide.All
import OpenK.AllK
import Wide.FinOn
import HandS.ForMost
import HandS.Exc
import HandS.ExcInit
import HandS.ExcField
import HandS.ExcIs
import KE.KExcIs
import HandS.IsInst
import HandS.CallSlots
import HandS.WordsExc
import HandS.Wide
import HandS.Gcd
import HandS.Style
import HandS.Evl
import HandS.Property
import HandS.ClsMeth
import HandS.Deep
import HandS.IterVal
import HandS.OwnIter
import HandS.Conv
import KE.KOwnIter
import HandS.SortInts
import KE.KOpsOwn
import HandS.OwnEq
import HandS.SlotsOwn
import KE.DataCmp
import KE.SortData
import HandS.Walk
import HandS.ClsMeth
import HandS.IterVal
import KE.KCallOwn
import PyProof.InstNe
import PyProof.Conv_bool
import KE.KOpsOwn
import HandS.SlotsOwn
import HandS.Text
import HandS.Replace
import HandS.Strs
import KE.GoesEnum
import HandS.Iter
import HandS.Walk
import PySem.Challenge.RW_watchbeats_k26_crew_counted
set_option Elab.async false
set_option linter.all false
set_option maxRecDepth 100000
set_option maxHeartbeats 4000000
/-! a crew counted, def by def -/
namespace Pf
open PySem L2 Evl

def topS (i : Nat) : Stmt := PySem.Challenge.pw_watchbeats_k26_crew_counted.main.body.getD i (.Pass ⟨0, 0, 0, 0⟩)
abbrev s_BadNumber_init : Stmt := inClass (topS 3) 0
abbrev N_BadNumber_init : List Str := ["self", "name", "value"]
abbrev s_TooMany_init : Stmt := inClass (topS 4) 0
abbrev N_TooMany_init : List Str := ["self", "name", "most"]
abbrev s_RepeatedHour_init : Stmt := inClass (topS 5) 0
abbrev N_RepeatedHour_init : List Str := ["self", "hour"]
abbrev s_WrongLength_init : Stmt := inClass (topS 10) 0
abbrev N_WrongLength_init : List Str := ["self", "length"]
abbrev s_BadName_init : Stmt := inClass (topS 12) 0
abbrev N_BadName_init : List Str := ["self", "name"]
abbrev s_RepeatedName_init : Stmt := inClass (topS 13) 0
abbrev N_RepeatedName_init : List Str := ["self", "name"]
abbrev s_Lot_init : Stmt := inClass (topS 27) 1
abbrev N_Lot_init : List Str := ["self", "hours", "members", "taken", "member", "hour"]
abbrev s_Lot_members : Stmt := inClass (topS 27) 3
abbrev N_Lot_members : List Str := ["self"]
abbrev s_Lot_len : Stmt := inClass (topS 27) 6
abbrev N_Lot_len : List Str := ["self"]
abbrev s_Lot_iter : Stmt := inClass (topS 27) 7
abbrev N_Lot_iter : List Str := ["self"]
abbrev s_Lot_contains : Stmt := inClass (topS 27) 8
abbrev N_Lot_contains : List Str := ["self", "x"]
abbrev s_Lot_eq : Stmt := inClass (topS 27) 9
abbrev N_Lot_eq : List Str := ["self", "other"]
abbrev s_Lot_lshift : Stmt := inClass (topS 27) 10
abbrev N_Lot_lshift : List Str := ["self", "other", "member"]
abbrev s_Lot_neg : Stmt := inClass (topS 27) 12
abbrev N_Lot_neg : List Str := ["self", "member"]
abbrev s_Lot_invert : Stmt := inClass (topS 27) 13
abbrev N_Lot_invert : List Str := ["self", "hour"]
abbrev s_check_name : Stmt := topS 19
abbrev N_check_name : List Str := ["name", "letter"]
abbrev s_check_new_name : Stmt := topS 20
abbrev N_check_new_name : List Str := ["name", "names"]
abbrev s_House_init : Stmt := inClass (topS 18) 4
abbrev N_House_init : List Str := ["self", "hours", "gates", "names", "stakes", "name", "stake"]
abbrev s_House_len : Stmt := inClass (topS 18) 7
abbrev N_House_len : List Str := ["self"]
abbrev s_House_eq : Stmt := inClass (topS 18) 8
abbrev N_House_eq : List Str := ["self", "other"]
abbrev s_is_gate : Stmt := topS 21
abbrev N_is_gate : List Str := ["house", "gate"]
abbrev s_Beat_init : Stmt := inClass (topS 32) 0
abbrev N_Beat_init : List Str := ["self", "house", "steps", "step"]
abbrev s_Beat_lot : Stmt := inClass (topS 32) 1
abbrev N_Beat_lot : List Str := ["self", "gate", "hour", "step"]
abbrev s_Beat_getitem : Stmt := inClass (topS 32) 2
abbrev N_Beat_getitem : List Str := ["self", "at"]
abbrev s_Beat_eq : Stmt := inClass (topS 32) 4
abbrev N_Beat_eq : List Str := ["self", "other"]
abbrev s_Beat_lshift : Stmt := inClass (topS 32) 5
abbrev N_Beat_lshift : List Str := ["self", "other", "hour"]
abbrev s_meetings : Stmt := topS 34
abbrev N_meetings : List Str := ["one", "other", "counts", "x", "y", "by"]
abbrev s_Crew_init : Stmt := inClass (topS 36) 0
abbrev N_Crew_init : List Str := ["self", "beat", "starts"]
abbrev s_Crew_row : Stmt := inClass (topS 36) 1
abbrev N_Crew_row : List Str := ["self", "gate"]
abbrev s_Crew_working : Stmt := inClass (topS 36) 2
abbrev N_Crew_working : List Str := ["self", "start"]
abbrev s_Crew_len : Stmt := inClass (topS 36) 3
abbrev N_Crew_len : List Str := ["self"]
abbrev s_Crew_eq : Stmt := inClass (topS 36) 4
abbrev N_Crew_eq : List Str := ["self", "other"]
abbrev s_Crew_lshift : Stmt := inClass (topS 36) 5
abbrev N_Crew_lshift : List Str := ["self", "other"]
abbrev s_u_law_cell : Stmt := topS 38
abbrev N_u_law_cell : List Str := ["script", "k"]
abbrev s_u_law_draws : Stmt := topS 39
abbrev N_u_law_draws : List Str := ["cell", "salt", "menu", "found", "rest", "mixed", "k"]
abbrev s_u_law_two : Stmt := topS 40
abbrev N_u_law_two : List Str := ["n", "power", "k"]
abbrev s_u_law_bits : Stmt := topS 41
abbrev N_u_law_bits : List Str := ["n", "number", "found", "h"]
abbrev s_u_law_is_int : Stmt := topS 45
abbrev N_u_law_is_int : List Str := ["x"]
abbrev s_u_law_same : Stmt := topS 46
abbrev N_u_law_same : List Str := ["got", "due", "k"]
abbrev s_u_law_name : Stmt := topS 42
abbrev N_u_law_name : List Str := ["number", "letters", "word", "k"]
abbrev s_u_law_names : Stmt := topS 43
abbrev N_u_law_names : List Str := ["numbers", "letters", "names", "number", "word", "turn"]
abbrev s_u_law_gates : Stmt := topS 44
abbrev N_u_law_gates : List Str := ["numbers", "stakes", "names", "k"]
abbrev s_u_law_number : Stmt := topS 47
abbrev N_u_law_number : List Str := ["cell", "salt", "draws", "size"]
abbrev s_u_law_walked : Stmt := topS 48
abbrev N_u_law_walked : List Str := ["steps", "starts", "count", "n", "rows", "g", "h", "s", "t", "row"]
abbrev s_u_law_no_row : Stmt := topS 49
abbrev N_u_law_no_row : List Str := ["crew", "gate", "told", "e"]
abbrev s_u_law_works : Stmt := topS 50
abbrev N_u_law_works : List Str := ["crew", "steps", "starts", "start", "n", "lot", "told", "e", "h"]
abbrev s_u_law_shows : Stmt := topS 51
abbrev N_u_law_shows : List Str := ["crew", "house", "steps", "starts", "count", "laps", "n", "rows", "g", "row", "h", "start", "gate"]
abbrev s_u_law_other_ring : Stmt := topS 52
abbrev N_u_law_other_ring : List Str := ["beat", "starts", "told", "e"]
abbrev s_u_law_great : Stmt := topS 53
abbrev N_u_law_great : List Str := ["script", "gates", "house", "count", "steps", "h", "place", "draws", "starts", "crew", "told", "g"]
abbrev s_u_law_unlike : Stmt := topS 54
abbrev N_u_law_unlike : List Str := ["crew", "others", "other"]
abbrev s_u_law_grown : Stmt := topS 55
abbrev N_u_law_grown : List Str := ["crew", "turned", "k", "grown"]
abbrev s_law : Stmt := topS 56
abbrev N_law : List Str := ["script", "top", "count", "n", "numbers", "gates", "house", "steps", "h", "place", "starts", "laps", "beat", "lot", "crew", "draws", "spot", "changed", "fewer", "other", "few", "k", "j", "turned", "ring", "stakes", "g", "twin", "away", "alike"]

theorem some_int {ns : List Int} {i : Nat} {y : V} (h : (ns.map V.int)[i]? = some y) : ∃ u, y = V.int u ∧ ns[i]? = some u := by
  rw [List.getElem?_map] at h
  cases e : ns[i]? with
  | none => rw [e] at h; cases h
  | some u => rw [e] at h; exact ⟨u, (Option.some.inj h).symm, rfl⟩
theorem wayT {c A B : Prop} [Decidable c] (h : c) (a : A) : if decide c = true then A else B := by rw [decide_eq_true h]; exact iteT a
theorem wayF {c A B : Prop} [Decidable c] (h : ¬ c) (b : B) : if decide c = true then A else B := by rw [decide_eq_false h]; exact iteF b
theorem way {c A B : Prop} [Decidable c] (a : c → A) (b : ¬ c → B) : if decide c = true then A else B := by
  by_cases h : c
  · exact wayT h (a h)
  · exact wayF h (b h)
theorem wayNT {c A B : Prop} [Decidable c] (h : c) (b : B) : if (!decide c) = true then A else B := by rw [decide_eq_true h]; exact iteF b
theorem wayNF {c A B : Prop} [Decidable c] (h : ¬ c) (a : A) : if (!decide c) = true then A else B := by rw [decide_eq_false h]; exact iteT a
theorem dec_ii {a b : Int} : decide (V.int a = V.int b) = decide (a = b) := by simp
theorem dec_bb {a b : Bool} : decide (V.bl a = V.bl b) = decide (a = b) := by simp
/-- the names of a comprehension's block within another scope -/
def relS (scope outer : Scope) : Scope := { scope with names := scope.names.map fun (n, k) => if (k == .free && outer.kind == .function && outer.names.lookup n == some .cell) then (n, .cell) else (n, k) }
/-- the ints that a comprehension over a range gives -/
def pick (n : Nat) (f : Nat → Bool) (g : Nat → Int) : List Int := ((List.range n).filter f).map g
theorem given_pick (n : Nat) (f : Nat → Bool) (g : Nat → Int) : given n f (fun i => V.int (g i)) = (pick n f g).map V.int := by
  unfold given pick
  rw [List.map_map]
  rfl
theorem pick_len (n : Nat) (f : Nat → Bool) (g : Nat → Int) : (pick n f g).length ≤ n := by
  unfold pick
  rw [List.length_map]
  have := List.length_filter_le f (List.range n)
  rwa [List.length_range] at this
theorem pick_congr {n : Nat} {f f' : Nat → Bool} {g : Nat → Int} (h : ∀ i, i < n → f i = f' i) : pick n f g = pick n f' g := by
  unfold pick
  rw [List.filter_congr fun i hi => h i (List.mem_range.mp hi)]
theorem el_rng2 {σ : L2.St} {H : Hp} {te : TE} {tt : TT} {ta : TA} {j : Nat} {vs : List Nat} {lo hi : Int} (f : Nat → Bool) (v : Nat → V) (h : EvA ta σ H [.int lo, .int hi]) (hn : 0 ≤ lo ∧ lo ≤ 40000 ∧ -40000 ≤ hi ∧ hi ≤ 40000)
    (hw : ∀ x, wipe ((wipe σ vs).set j (some x)) vs = wipe σ vs)
    (ht : ∀ (i : Nat) H1, Ex H H1 → lo + (i : Int) < hi → EvT tt ((wipe σ vs).set j (some (.int (lo + (i : Int))))) H1 (f i))
    (he : ∀ (i : Nat) H1, Ex H H1 → lo + (i : Int) < hi → f i = true → Ev te ((wipe σ vs).set j (some (.int (lo + (i : Int))))) H1 (v i)) :
    EvL (tLc (iRng2 ta) (gName j) tt te vs) σ H (given (hi - lo).toNat f v) := by
  intro H0 e Q q
  refine h H0 e _ fun H1 e1 => ⟨lo, hi, rfl, ⟨by omega, by omega, by omega, by omega⟩, fun D hD => ?_⟩
  exact lc_range (lo := lo) (n := (hi - lo).toNat) (Cw H1 f v D) ⟨hD, Ex.new hD, upd_same⟩
    (fun i H' hi' p => ⟨hw _, cw_turn p (by omega) (ht i H1 (e.trans e1) (by omega)) (fun hf => he i H1 (e.trans e1) (by omega) hf)⟩)
    (fun H' p => q D H' (fresh_back e1 p.1) (e1.trans p.2.1) p.2.2)
theorem given_list (xs : List Int) (p : Int → Bool) : given (xs.map V.int).length (fun i => p (xs.getD i 0)) (fun i => V.int (xs.getD i 0)) = (xs.filter p).map V.int := by
  rw [List.length_map]
  induction xs with
  | nil => rfl
  | cons x xs ih =>
    unfold given at ih ⊢
    rw [List.length_cons, List.range_succ_eq_map, List.filter_cons, List.filter_map]
    have e : ∀ (z : List Nat), (z.filter ((fun i => p ((x :: xs).getD i 0)) ∘ Nat.succ)) = z.filter fun i => p (xs.getD i 0) := fun z => List.filter_congr fun i _ => by simp
    rw [e]
    by_cases hp : p x = true
    · rw [if_pos (by simpa using hp), List.filter_cons, if_pos hp, List.map_cons, List.map_cons, ← ih, List.map_map]
      simp
    · rw [if_neg (by simpa using hp), List.filter_cons, if_neg hp, ← ih, List.map_map]
      simp
theorem el_lst1 {K : PySem.W.Frag} {σ : L2.St} {H : Hp} {te tl : TE} {tt : TT} {j : Nat} {vs : List Nat} {a : Addr} (xs : List Int) (p : Int → Bool) (h : Ev tl σ H (.ref a)) (hx : SqL K H a (xs.map V.int)) (hz : xs.length ≤ 40000)
    (hw : ∀ x, wipe ((wipe σ vs).set j (some x)) vs = wipe σ vs)
    (ht : ∀ (x : Int) H1, Ex H H1 → x ∈ xs → EvT tt ((wipe σ vs).set j (some (.int x))) H1 (p x))
    (he : ∀ (x : Int) H1, Ex H H1 → x ∈ xs → Ev te ((wipe σ vs).set j (some (.int x))) H1 (.int x)) :
    EvL (tLc (iList K tl) (gName j) tt te vs) σ H ((xs.filter p).map V.int) := by
  rw [← given_list]
  have get : ∀ (i : Nat) (x : V), (xs.map V.int)[i]? = some x → x = .int (xs.getD i 0) ∧ xs.getD i 0 ∈ xs := fun i x hi => by
    obtain ⟨u, e, hu⟩ := some_int hi
    rw [List.getD_eq_getElem?_getD, hu]
    exact ⟨e, List.mem_of_getElem? hu⟩
  refine el_lcL _ _ h hx (by rw [List.length_map]; exact hz) hw (fun i x H1 e1 hi => ?_) (fun i x H1 e1 hi _ => ?_)
  · obtain ⟨rfl, hm⟩ := get i x hi
    exact ht _ H1 e1 hm
  · obtain ⟨rfl, hm⟩ := get i x hi
    exact he _ H1 e1 hm
theorem given_gen {α : Type} (d : α) (ps : List α) (p : α → Bool) (v : α → V) : given ps.length (fun i => p (ps.getD i d)) (fun i => v (ps.getD i d)) = (ps.filter p).map v := by
  induction ps with
  | nil => rfl
  | cons x xs ih =>
    unfold given at ih ⊢
    rw [List.length_cons, List.range_succ_eq_map, List.filter_cons, List.filter_map]
    have e : ∀ (z : List Nat), (z.filter ((fun i => p ((x :: xs).getD i d)) ∘ Nat.succ)) = z.filter fun i => p (xs.getD i d) := fun z => List.filter_congr fun i _ => by simp
    rw [e]
    by_cases hp : p x = true
    · rw [if_pos (by simpa using hp), List.filter_cons, if_pos hp, List.map_cons, List.map_cons, ← ih, List.map_map]
      simp
    · rw [if_neg (by simpa using hp), List.filter_cons, if_neg hp, ← ih, List.map_map]
      simp
/-- a comprehension over a list whose items stand for the things of ps, the target of any form -/
theorem el_lstG {α : Type} (d : α) {K : PySem.W.Frag} {σ : L2.St} {H : Hp} {te tl : TE} {tt : TT} {g : TG} {vs : List Nat} {a : Addr} (xs : List V) (ps : List α) (p : α → Bool) (v : α → V) (τ : α → L2.St)
    (h : Ev tl σ H (.ref a)) (hx : SqL K H a xs) (hl : xs.length = ps.length) (hz : ps.length ≤ 40000)
    (hg : ∀ (i : Nat) x y H1 (k : L2.St → Hp → Prop), Ex H H1 → xs[i]? = some x → ps[i]? = some y → k (τ y) H1 → g x (wipe σ vs) H1 k)
    (hw : ∀ y, wipe (τ y) vs = wipe σ vs) (ht : ∀ y H1, Ex H H1 → y ∈ ps → EvT tt (τ y) H1 (p y)) (he : ∀ y H1, Ex H H1 → y ∈ ps → p y = true → Ev te (τ y) H1 (v y)) :
    EvL (tLc (iList K tl) g tt te vs) σ H ((ps.filter p).map v) := by
  rw [← given_gen d ps p v]
  intro H0 e0 Q q
  refine h H0 e0 _ fun H1 e1 => ⟨a, rfl, ⟨xs, ex_l (e0.trans e1) hx⟩, fun D hD => ?_⟩
  refine lc_list (xs := xs) (Cw H1 (fun i => p (ps.getD i d)) (fun i => v (ps.getD i d)) D) ⟨hD, Ex.new hD, upd_same⟩ (fun i H' _ c => ex_l ((e0.trans e1).trans c.2.1) hx) (fun i x H' hi c => ?_)
    (fun H' c => by rw [hl] at c; exact q D H' (fresh_back e1 c.1) (e1.trans c.2.1) c.2.2)
  have hil : i < ps.length := by
    have := (List.getElem?_eq_some_iff.mp hi).1
    omega
  have hy : ps[i]? = some (ps.getD i d) := by rw [List.getD_eq_getElem?_getD, List.getElem?_eq_getElem hil]; rfl
  refine hg i x _ H' _ ((e0.trans e1).trans c.2.1) hi hy ⟨hw _, ?_⟩
  exact cw_turn c (by omega) (ht _ H1 (e0.trans e1) (List.mem_of_getElem? hy)) (fun hf => he _ H1 (e0.trans e1) (List.mem_of_getElem? hy) hf)
/-- an if without else, then what follows where M holds -/
theorem q_alt {b : Bool} {t : TT} {tu tz : TS} {D : Ends} {σ : L2.St} {H : Hp} (M : L2.St → Hp → Prop) (h : EvT t σ H b) (h1 : b = true → ∀ H1, Ex H H1 → ∀ W : L2.St → Hp → Prop, (∀ σ' H', M σ' H' → W σ' H') → tu { D with nx := W } σ H1)
    (h2 : b = false → ∀ H1, Ex H H1 → M σ H1) (k : ∀ σ' H', M σ' H' → tz D σ' H') : tSeq (tIfS t tu tNext) tz D σ H :=
  q_when h (fun hb H1 e1 => h1 hb H1 e1 _ k) (fun hb H1 e1 => k _ _ (h2 hb H1 e1))
theorem q_two {b : Bool} {t : TT} {tu tw tz : TS} {D : Ends} {σ : L2.St} {H : Hp} (M : L2.St → Hp → Prop) (h : EvT t σ H b) (h1 : b = true → ∀ H1, Ex H H1 → ∀ W : L2.St → Hp → Prop, (∀ σ' H', M σ' H' → W σ' H') → tu { D with nx := W } σ H1)
    (h2 : b = false → ∀ H1, Ex H H1 → ∀ W : L2.St → Hp → Prop, (∀ σ' H', M σ' H' → W σ' H') → tw { D with nx := W } σ H1) (k : ∀ σ' H', M σ' H' → tz D σ' H') : tSeq (tIfS t tu tw) tz D σ H :=
  q_if h (fun hb H1 e1 => h1 hb H1 e1 _ k) (fun hb H1 e1 => h2 hb H1 e1 _ k)
/-- .. over a list that was just made -/
theorem el_lstN {α : Type} (d : α) {K : PySem.W.Frag} {σ : L2.St} {H : Hp} {te tl : TE} {tt : TT} {g : TG} {vs : List Nat} (xs : List V) (ps : List α) (p : α → Bool) (v : α → V) (τ : α → L2.St)
    (h : EvL tl σ H xs) (hl : xs.length = ps.length) (hz : ps.length ≤ 40000) (hg : ∀ (i : Nat) x y H1 (k : L2.St → Hp → Prop), Ex H H1 → xs[i]? = some x → ps[i]? = some y → k (τ y) H1 → g x (wipe σ vs) H1 k)
    (hw : ∀ y, wipe (τ y) vs = wipe σ vs) (ht : ∀ y H1, Ex H H1 → y ∈ ps → EvT tt (τ y) H1 (p y)) (he : ∀ y H1, Ex H H1 → y ∈ ps → p y = true → Ev te (τ y) H1 (v y)) :
    EvL (tLc (iList K tl) g tt te vs) σ H ((ps.filter p).map v) := by
  intro H0 e0 Q q
  refine h H0 e0 _ fun a H1 ha e1 h1 => ?_
  refine el_lstG (K := K) (te := te) (tl := tC (.ref a)) (tt := tt) (g := g) (vs := vs) (σ := σ) (H := H1) d xs ps p v τ ev_c (sq_of h1) hl hz (fun i x y H2 k e2 => hg i x y H2 k ((e0.trans e1).trans e2)) hw (fun y H2 e2 => ht y H2 ((e0.trans e1).trans e2)) (fun y H2 e2 => he y H2 ((e0.trans e1).trans e2)) H1 (Ex.refl _) Q fun b H2 hb e2 h2 => q b H2 (fresh_back e1 hb) (e1.trans e2) h2
theorem pick_succ {n : Nat} {f : Nat → Bool} {g : Nat → Int} : pick (n + 1) f g = pick n f g ++ (if f n = true then [g n] else []) := by
  unfold pick
  rw [List.range_succ, List.filter_append, List.map_append, List.filter_cons]
  by_cases h : f n = true
  · rw [if_pos h, if_pos h]; rfl
  · rw [if_neg h, if_neg h]; rfl
theorem ev_gcd {σ : L2.St} {H : Hp} {ta : TA} {a b : Int} (h : EvA ta σ H [.int a, .int b]) : Ev (tCB rGcd ta) σ H (.int ((Nat.gcd a.natAbs b.natAbs : Nat) : Int)) :=
  ev_cb h fun H1 _ _ q => ⟨a, b, rfl, q H1 (Ex.refl H1)⟩
/-! ### rules whose reading says K by its own letter (within a comprehension's block too) -/
theorem ix_lK {X : Cx} {K : PySem.W.Frag} (h : X.K = K := by rfl) : IxR X (rIxL K) := by subst h; exact ix_list
theorem ix_tK {X : Cx} {K : PySem.W.Frag} (h : X.K = K := by rfl) : IxR X (rIxT K) := by subst h; exact ix_tup
theorem ix_sK {X : Cx} {K : PySem.W.Frag} (h : X.K = K := by rfl) : IxR X (rIx K) := by subst h; exact ix_seq
def rLenK (K : PySem.W.Frag) : List V → Hp → VK → Prop := fun xs H Q => ∃ x n, xs = [x] ∧ LenV K x H n ∧ Q (.int (n : Nat)) H
theorem len_K {X : Cx} {K : PySem.W.Frag} (h : X.K = K := by rfl) : CallR X (.builtin "len") (rLenK K) := by subst h; exact call_len
def rListK (K : PySem.W.Frag) : List V → Hp → VK → Prop := fun zs H Q => ∃ p ys, zs = [.ref p] ∧ (SqL K H p ys ∨ SqT K H p ys) ∧
  ∀ l, H l = none → Q (.ref l) (upd H l (.lst ys))
theorem list_K {X : Cx} {K : PySem.W.Frag} (h : X.K = K := by rfl) : CallR X (.type "list") (rListK K) := by subst h; exact call_list_of
theorem in_K {X : Cx} {K : PySem.W.Frag} (h : X.K = K := by rfl) : OpR X (compareOp .In) (rIn K false) := by subst h; exact op_in_seq
theorem notin_K {X : Cx} {K : PySem.W.Frag} (h : X.K = K := by rfl) : OpR X (compareOp .NotIn) (rIn K true) := by subst h; exact op_notIn_seq
theorem pg_tupK {X : Cx} {K : PySem.W.Frag} {pos : Pos} {es : List Expr} {k : Nat} {t : TGs} {n : Nat} (hk : X.K = K) (hc : X.calm = true) (h : PGs X es t)
    (hn : (assignEach es X.env).length = n := by rfl) (hst : (assignEach es X.env).findIdx? (·.1) = none := by rfl) : PG X (.Tuple es k pos) (gTup K n t) := by subst hk; exact pg_tup hc h hn hst
theorem pe_fldK {X : Cx} {K : PySem.W.Frag} {e : Expr} {f : Str} {pos : Pos} {ta : TE} (he : PE X e ta) (hb : attributeBase e f X.env (eval e X.env) = eval e X.env) (hk : X.K = K := by rfl) : PE X (.Attribute e f pos) (tFld K ta f) := by subst hk; exact pe_fld he hb
theorem eqD_K {X : Cx} {K : PySem.W.Frag} (hu : X.A.units + 64 < cLine) (hk : X.K = K := by rfl) : OpR X (compareOp .Eq) (rEqD K) := by subst hk; exact op_eqD hu
theorem neD_K {X : Cx} {K : PySem.W.Frag} (hu : X.A.units + 64 < cLine) (hk : X.K = K := by rfl) : OpR X (compareOp .NotEq) (rNeD K) := by subst hk; exact op_neD hu
theorem isi_K {X : Cx} {K : PySem.W.Frag} (h : X.K = K := by rfl) : CallR X (.builtin "isinstance") (rIsi K) := by subst h; exact call_isi
/-! ### data -/
/-- data of a depth below n, of lists and tuples that are not too long -/
def Flat : Nat → PyData → Prop
  | 0, _ => False
  | n + 1, .list ds => ds.length ≤ 40000 ∧ ∀ d ∈ ds, Flat n d
  | n + 1, .tuple ds => ds.length ≤ 40000 ∧ ∀ d ∈ ds, Flat n d
  | _ + 1, .dict _ => False
  | _ + 1, _ => True
theorem dp_get {K : PySem.W.Frag} {H : Hp} : ∀ {xs : List V} {ds : List PyData}, DpAll K H xs ds → xs.length = ds.length ∧ ∀ (i : Nat) (d : PyData), ds[i]? = some d → ∃ x, xs[i]? = some x ∧ Dp K H x d
  | _, _, .nil => ⟨rfl, fun i d h => by simp at h⟩
  | _, _, .cons a r => by
    obtain ⟨l, g⟩ := dp_get r
    refine ⟨by simp [l], fun i d h => ?_⟩
    cases i with
    | zero => exact ⟨_, rfl, by simp at h; subst h; exact a⟩
    | succ i => simpa using g i d (by simpa using h)
theorem flatI {ns : List Int} (h : ns.length ≤ 360) : Flat 4 (.list (ns.map .int)) :=
  ⟨by rw [List.length_map]; omega, fun d hd => by
    obtain ⟨i, _, rfl⟩ := List.mem_map.mp hd
    exact True.intro⟩
theorem dp_ints {K : PySem.W.Frag} {H : Hp} : ∀ ns : List Int, DpAll K H (ns.map V.int) (ns.map PyData.int)
  | [] => .nil
  | n :: ns => .cons (.int n) (dp_ints ns)
mutual
theorem dp_ex {K : PySem.W.Frag} {H H' : Hp} (e : Ex H H') : ∀ {v : V} {d : PyData}, Dp K H v d → Dp K H' v d
  | _, _, .non => .non
  | _, _, .bl b => .bl b
  | _, _, .int i => .int i
  | _, _, .str x => .str x
  | _, _, .lst s a => .lst (ex_l e s) (dpa_ex e a)
  | _, _, .tup s a => .tup (ex_t e s) (dpa_ex e a)
theorem dpa_ex {K : PySem.W.Frag} {H H' : Hp} (e : Ex H H') : ∀ {vs : List V} {ds : List PyData}, DpAll K H vs ds → DpAll K H' vs ds
  | _, _, .nil => .nil
  | _, _, .cons a r => .cons (dp_ex e a) (dpa_ex e r)
end
theorem tyx_l {K : PySem.W.Frag} {H : Hp} {a : Addr} {xs : List V} (h : SqL K H a xs) : TyX K H (.ref a) (.type "list") := by
  rcases h with (h | ⟨o, h⟩) | ⟨o, its, n, h, c, _⟩
  · exact .base (.lst h)
  · exact .base (.frz h)
  · exact .kList h c
theorem tyx_t {K : PySem.W.Frag} {H : Hp} {a : Addr} {xs : List V} (h : SqT K H a xs) : TyX K H (.ref a) (.type "tuple") := by
  rcases h with (h | ⟨o, h⟩) | ⟨o, its, n, h, c, _⟩
  · exact .base (.tup h)
  · exact .fTuple h
  · exact .kTuple h c
/-- x is True, x is False, whatever x is -/
def rIsK : R2 := fun x y H Q => ∃ b : Bool, y = .bl b ∧ Q (.bl (decide (x = .bl b))) H
theorem op_isK {X : Cx} : OpR X (compareOp .Is) rIsK := by
  intro pins s σ H x y v u Q I rx ry h
  obtain ⟨b, hy, q⟩ := h
  subst hy
  cases (show u = Value.bool b from ry)
  have fin : ∀ k : Bool, k = decide (x = V.bl b) → EP X pins σ Q (.bool k) s := fun k e => ⟨.bl k, H, I, rfl, by rw [e]; exact q⟩
  cases x with
  | non => cases (show v = Value.none from rx); exact wpAny_is_other rfl (fun z => by cases z) (fin _ (by simp))
  | bl a =>
    cases (show v = Value.bool a from rx)
    by_cases e : a = b
    · subst e; exact wpAny_is_self rfl (fin _ (by simp))
    · exact wpAny_is_other rfl (fun z => e (Value.bool.inj z)) (fin _ (by simp [e]))
  | int i => obtain ⟨t, ev⟩ := rx; subst ev; exact wpAny_is_other rfl (fun z => by cases z) (fin _ (by simp))
  | str i => obtain ⟨t, ev⟩ := rx; subst ev; exact wpAny_is_other rfl (fun z => by cases z) (fin _ (by simp))
  | byt i => obtain ⟨t, ev⟩ := rx; subst ev; exact wpAny_is_other rfl (fun z => by cases z) (fin _ (by simp))
  | flt i => obtain ⟨t, ev⟩ := rx; subst ev; exact wpAny_is_other rfl (fun z => by cases z) (fin _ (by simp))
  | ref a => cases (show v = Value.ref a from rx); exact wpAny_is_other rfl (fun z => by cases z) (fin _ (by simp))
  | ty n => cases (show v = Value.type n from rx); exact wpAny_is_other rfl (fun z => by cases z) (fin _ (by simp))
theorem atI_ints {ns : List Int} {i : Int} (h0 : 0 ≤ i) (h1 : i < (ns.length : Int)) : atI (ns.map V.int) i = some (.int (ns.getD i.toNat 0)) := by
  obtain ⟨j, rfl⟩ : ∃ j : Nat, i = (j : Int) := ⟨i.toNat, by omega⟩
  refine atI_nat ?_
  have hj : j < ns.length := by omega
  rw [List.getElem?_map, Int.toNat_natCast, List.getD_eq_getElem?_getD, List.getElem?_eq_getElem hj]
  rfl
/-! ### a caught error with fields -/
def rIsX (K : PySem.W.Frag) (D a : Addr) (cls : Value) (d : Option Addr) : List V → Hp → VK → Prop := fun xs H Q => cls = .ref D ∧ ∃ (dd : Addr) (fs : List (Str × V)) (c : V) (cv : Value) (b : Bool),
  d = some dd ∧ H dd = some (.xd fs) ∧ xs = [.ref a, c] ∧ (∀ u, RelV c u → u = cv) ∧ PySem.W.kitOne K (.ref D) cv = some b ∧ Q (.bl b) H
theorem call_isX {X : Cx} {a D : Addr} {oe : Obj} {cls : Value} {d : Option Addr} {pn : List (Addr × Obj)} (C : ExcC X.K D) (hz : Zc cls d oe) (hf : ∃ vs, oe.data = .fields vs) : CallR (X.suite a ((a, oe) :: pn)) (.builtin "isinstance") (rIsX X.K D a cls d) := by
  intro pins sh σ H zs us Q I rr hq
  obtain ⟨ec, dd, fs, c, cv, b, ed, hx, ez, hcv, hk, q⟩ := hq
  subst ez
  obtain ⟨u1, u2, eu, r1, r2⟩ := vals2 rr
  subst eu
  cases (show u1 = Value.ref a from r1)
  have e2 := hcv _ r2
  subst e2
  obtain ⟨hget, _⟩ := I.pin (a, oe) (List.mem_append.mpr (.inl List.mem_cons_self))
  obtain ⟨vs, hv⟩ := hf
  have ho : ObjOk X.prog X.w H sh.heap dd (.xd fs) := I.hok dd _ hx
  obtain ⟨mA, hns, _⟩ := ho
  obtain ⟨od, hod, _⟩ := lookIn_ns hns
  obtain ⟨cd, hcd, _⟩ := PySem.W.any_some C.hd
  have hcl : (PySem.W.clsIn X.K D).isSome = true := by rw [hcd]; rfl
  have J : PySem.W.InstAt sh.heap a oe D (some od) := ⟨hget, hz.1.trans ec, by unfold PySem.W.notCls; rw [hv], by rw [hz.2, ed]; exact hod⟩
  exact PySem.W.kia_one (PySem.W.kitx_exc hcl C.hg C.hk C.hs C.ha C.hn C.ht C.hm) I.kIn J hk (fun z => nomatch z) fun tk => ⟨.bl b, H, I.tok tk, rfl, q⟩
def rIsN (K : PySem.W.Frag) (D a : Addr) (cls : Value) (d : Option Addr) : List V → Hp → VK → Prop := fun xs H Q => cls = .ref D ∧ d = none ∧ rIsE K D a xs H Q
theorem call_isN {X : Cx} {a D : Addr} {oe : Obj} {cls : Value} {d : Option Addr} {pn : List (Addr × Obj)} (C : ExcC X.K D) (hz : Zc cls d oe) (hf : ∃ vs, oe.data = .fields vs) : CallR (X.suite a ((a, oe) :: pn)) (.builtin "isinstance") (rIsN X.K D a cls d) := by
  intro pins s σ H xs us Q I r h
  obtain ⟨e1, e2, h⟩ := h
  subst e1 e2
  exact call_isE C hz hf pins s σ H xs us Q I r h
/-- X(), X an error class without __init__ -/
theorem pmk_none {X : Cx} {C : Addr} {bmB : List Value} {B newId initId : String} {x : Str} {p pos : Pos} (F : PySem.ExcBaseFacts B newId initId bmB) (q : PySem.W.excIn X.K C bmB newId = true) (gC : X.mg x = some (.ref C)) (kC : PySem.W.keepIn X.K (.ref C) = true)
    (r : Raises X (.ref C)) (hg : Gl X x) (hdb : (x == ("__debug__" : Str)) = false := by decide) : PMk X (.Call (.Name x p) [] [] pos) (fun _ H Q => Q (.ref C) none H) := by
  intro pins s σ H Q I h
  refine wpAny_Call_Name_kw (ld_glob I hg gC ?_ hdb)
  refine PySem.W.callWith_K0 I.kIn kC ?_
  obtain ⟨bm, N, nm, qn, bs, hdct, sn, sub, ab, col, dd, k0, k1, k2, k3, k5, mN, hC, hN, hni, T⟩ := exc_obj I.kIn q
  refine wpAny_call_exc_subT F T hC hN hni (fun h' e hm => ?_) (Nat.zero_le _)
  exact mk_of I hm r h (I.hok.gone hm.new)
/-- a list drawn by a menu -/
def Drawn (ms ds : List Int) : Prop := ds.length = ms.length ∧ ∀ (i : Nat) (m : Int), ms[i]? = some m → ∃ d : Int, ds[i]? = some d ∧ 0 ≤ d ∧ d < m
theorem kitCls_own {K : PySem.W.Frag} {t : Value} {C : Addr} (hd : PySem.W.hasDictIn K C = true) (ty : PySem.W.typeIn K (.ref C) = some (.type "type")) : PySem.W.kitCls K t (.ref C) = PySem.W.subIn K t (.ref C) := by
  obtain ⟨cd, hc, _⟩ := PySem.W.any_some hd
  unfold PySem.W.kitCls
  simp [hc, ty]
theorem kit_self {K : PySem.W.Frag} {t : Value} : PySem.W.kitOne K t t = some true := by
  unfold PySem.W.kitOne
  rw [if_pos (beq_self_eq_true t)]
theorem kit_yes {K : PySem.W.Frag} {t : Value} {C : Addr} (hd : PySem.W.hasDictIn K C = true) (ty : PySem.W.typeIn K (.ref C) = some (.type "type")) (s : PySem.W.subIn K t (.ref C) = some true) : PySem.W.kitOne K t (.ref C) = some true := by
  unfold PySem.W.kitOne
  split
  · rfl
  · rw [kitCls_own hd ty]; exact s
theorem kit_no {K : PySem.W.Frag} {t : Value} {C : Addr} (hd : PySem.W.hasDictIn K C = true) (ty : PySem.W.typeIn K (.ref C) = some (.type "type")) (me : PySem.W.subIn K (.ref C) (.ref C) = some true) (s : PySem.W.subIn K t (.ref C) = some false) : PySem.W.kitOne K t (.ref C) = some false := by
  unfold PySem.W.kitOne
  split
  · rename_i e
    rw [beq_iff_eq] at e
    rw [e, me] at s
    cases s
  · rw [kitCls_own hd ty]; exact s
theorem kit_bi {K : PySem.W.Frag} {C : Addr} {n : String} {b : Bool} (hm : PySem.W.kitMeta n = true) (s : PySem.W.subIn K (.ref C) (.type n) = some b) : PySem.W.kitOne K (.ref C) (.type n) = some b := by
  unfold PySem.W.kitOne PySem.W.kitCls
  rw [if_neg (by simp)]
  show (if PySem.W.kitMeta n = true then PySem.W.subIn K (.ref C) (.type n) else none) = some b
  rw [if_pos hm]
  exact s
theorem drawn4 {a b c d : Int} {ds : List Int} (h : Drawn [a, b, c, d] ds) : ∃ w x y z, ds = [w, x, y, z] ∧ (0 ≤ w ∧ w < a) ∧ (0 ≤ x ∧ x < b) ∧ (0 ≤ y ∧ y < c) ∧ (0 ≤ z ∧ z < d) := by
  obtain ⟨hl, g⟩ := h
  match ds, hl with
  | [w, x, y, z], _ =>
    obtain ⟨w', e0, h0⟩ := g 0 a rfl
    obtain ⟨x', e1, h1⟩ := g 1 b rfl
    obtain ⟨y', e2, h2⟩ := g 2 c rfl
    obtain ⟨z', e3, h3⟩ := g 3 d rfl
    cases e0; cases e1; cases e2; cases e3
    exact ⟨_, _, _, _, rfl, h0, h1, h2, h3⟩
/-! ### own errors with one field and with two -/
def spErr1 (K : PySem.W.Frag) (C : Addr) (f : Str) : Sp := fun vs H Q _ => ∃ (a : Addr) (x : V), vs = [.ref a, x] ∧ OexC K C ∧ H a = some (exo a C none) ∧ ∀ d, H d = none → d ≠ a → Q .non (upd (upd H d (exd d [(f, x)])) a (exo a C (some d)))
def spErr2 (K : PySem.W.Frag) (C : Addr) (f g : Str) : Sp := fun vs H Q _ => ∃ (a : Addr) (x y : V), vs = [.ref a, x, y] ∧ OexC K C ∧ H a = some (exo a C none) ∧
  ∀ d, H d = none → d ≠ a → Q .non (upd (upd (upd H d (exd d [(f, x)])) a (exo a C (some d))) d (exd d [(g, y), (f, x)]))
theorem raise1 {K : PySem.W.Frag} {C : Addr} {f : Str} {H : Hp} {E : XK} {σ : L2.St} {ta : TA} {x : V} (hC : OexC K C) (hta : ∀ Q : List V → Hp → Prop, Q [x] H → ta σ H Q)
    (k : ∀ d H', Ex H H' → H' d = some (.xd [(f, x)]) → E (.ref C) (some d) H') : tMkO C (spErr1 K C f) [] ta σ H E := by
  refine hta _ ⟨by show (1 : Nat) ≤ 1000; decide, fun a ha => ⟨a, x, rfl, hC, upd_same, fun d hd hne => ?_⟩⟩
  have hd' : H d = none := by rw [upd_ne hne] at hd; exact hd
  have han : a ≠ d := fun e => hne e.symm
  refine ⟨rfl, d, _, upd_same, ?_, hd', k d _ (fun b o hb => ?_) upd_same⟩
  · rw [upd_ne hne, upd_same]
  · have h1 : b ≠ a := ne_of_none hb ha
    have h2 : b ≠ d := ne_of_none hb hd'
    rw [upd_ne h2, del_ne h1, upd_ne h1, upd_ne h2, upd_ne h1]
    exact hb
theorem raise2 {K : PySem.W.Frag} {C : Addr} {f g : Str} {H : Hp} {E : XK} {σ : L2.St} {ta : TA} {x y : V} (hC : OexC K C) (hta : ∀ Q : List V → Hp → Prop, Q [x, y] H → ta σ H Q)
    (k : ∀ d H', Ex H H' → H' d = some (.xd [(g, y), (f, x)]) → E (.ref C) (some d) H') : tMkO C (spErr2 K C f g) [] ta σ H E := by
  refine hta _ ⟨by show (2 : Nat) ≤ 1000; decide, fun a ha => ⟨a, x, y, rfl, hC, upd_same, fun d hd hne => ?_⟩⟩
  have hd' : H d = none := by rw [upd_ne hne] at hd; exact hd
  have han : a ≠ d := fun e => hne e.symm
  refine ⟨rfl, d, _, ?_, upd_same, hd', k d _ (fun b o hb => ?_) upd_same⟩
  · rw [upd_ne han, upd_same]
  · have h1 : b ≠ a := ne_of_none hb ha
    have h2 : b ≠ d := ne_of_none hb hd'
    rw [upd_ne h2, del_ne h1, upd_ne h2, upd_ne h1, upd_ne h2, upd_ne h1]
    exact hb
/-- what a cell of the script is worth -/
def cellA (ns : List Int) (k : Nat) : Int := if k < ns.length then (if ns.getD k 0 < 0 then - ns.getD k 0 else ns.getD k 0) else 0
theorem cellA_nn (ns : List Int) (k : Nat) : 0 ≤ cellA ns k := by
  unfold cellA
  split
  · split <;> omega
  · omega
/-! ### evaluation with a property; loops over what a call gives -/
def EvR (te : TE) (σ : L2.St) (H : Hp) (P : V → Hp → Prop) : Prop := ∀ H1, Ex H H1 → ∀ Q : VK, (∀ v H2, Ex H1 H2 → P v H2 → Q v H2) → te σ H1 Q
theorem er_ev {te : TE} {σ : L2.St} {H : Hp} {v : V} {P : V → Hp → Prop} (h : Ev te σ H v) (hp : ∀ H1, Ex H H1 → P v H1) : EvR te σ H P := fun H1 e Q q => h H1 e Q fun H2 e2 => q v H2 e2 (hp H2 (e.trans e2))
theorem EvR.mono {te : TE} {σ : L2.St} {H H' : Hp} {P : V → Hp → Prop} (e : Ex H H') (h : EvR te σ H P) : EvR te σ H' P := fun H1 a Q q => h H1 (e.trans a) Q q
theorem EvR.imp {te : TE} {σ : L2.St} {H : Hp} {P P' : V → Hp → Prop} (h : EvR te σ H P) (i : ∀ v H1, P v H1 → P' v H1) : EvR te σ H P' := fun H1 a Q q => h H1 a Q fun v H2 e p => q v H2 e (i v H2 p)
theorem er_L {te : TE} {σ : L2.St} {H : Hp} {xs : List V} (h : EvL te σ H xs) : EvR te σ H fun v H1 => ∃ p, v = .ref p ∧ H1 p = some (.lst xs) := fun H1 e Q q => h H1 e Q fun p H2 _ e2 hp => q _ H2 e2 ⟨p, rfl, hp⟩
theorem s_asgR {te : TE} {D : Ends} {σ : L2.St} {H : Hp} {i : Nat} {P : V → Hp → Prop} (h : EvR te σ H P) (k : ∀ v H1, Ex H H1 → P v H1 → D.nx (σ.set i (some v)) H1) : tAsg te (gName i) D σ H := h H (Ex.refl H) _ fun v H1 e p => k v H1 e p
theorem q_asgR {te : TE} {tz : TS} {D : Ends} {σ : L2.St} {H : Hp} {i : Nat} {P : V → Hp → Prop} (h : EvR te σ H P) (k : ∀ v H1, Ex H H1 → P v H1 → tz D (σ.set i (some v)) H1) : tSeq (tAsg te (gName i)) tz D σ H := s_asgR (D := { D with nx := tz D }) h k
theorem s_retR {te : TE} {D : Ends} {σ : L2.St} {H : Hp} {P : V → Hp → Prop} (h : EvR te σ H P) (k : ∀ v H1, Ex H H1 → P v H1 → D.rt v H1) : tRet te D σ H := h H (Ex.refl H) _ fun v H1 e p => k v H1 e p
theorem for_via {K : PySem.W.Frag} {tl : TE} {g : TG} {tu : TS} {D : Ends} {σ : L2.St} {H : Hp} {P : V → Hp → Prop} (h : EvR tl σ H P) (k : ∀ v H1, Ex H H1 → P v H1 → tFor (iList K (tC v)) g tu D σ H1) : tFor (iList K tl) g tu D σ H :=
  h H (Ex.refl H) _ fun v H1 e p => k v H1 e p
theorem q_forVia {K : PySem.W.Frag} {tl : TE} {g : TG} {tu tz : TS} {D : Ends} {σ : L2.St} {H : Hp} {P : V → Hp → Prop} (h : EvR tl σ H P) (k : ∀ v H1, Ex H H1 → P v H1 → tSeq (tFor (iList K (tC v)) g tu) tz D σ H1) : tSeq (tFor (iList K tl) g tu) tz D σ H :=
  h H (Ex.refl H) _ fun v H1 e p => k v H1 e p
theorem ev_int {σ : L2.St} {H : Hp} {te : TE} {z : Int} (h : Ev te σ H (.int z)) : Ev (tCB (fun xs H Q => (∃ i, xs = [V.int i] ∧ Q (V.int i) H) ∨ ∃ k, xs = [V.bl k] ∧ Q (V.int (if k = true then 1 else 0)) H) (tCons te tNil)) σ H (.int z) :=
  ev_cb (ea_cons h ea_nil) fun H1 _ _ q => .inl ⟨_, rfl, q H1 (Ex.refl H1)⟩
theorem el_rep {σ : L2.St} {H : Hp} {te tn : TE} {z k : Int} (h : Ev te σ H (.int z)) (hn : Ev tn σ H (.int k)) (hk : 0 ≤ k ∧ k ≤ 100000) : EvL (tOp rRep (tLst (tCons te tNil)) tn) σ H ((List.replicate k.toNat z).map V.int) := fun H1 e Q q =>
  el_lst (ea_cons h ea_nil) (by show 1 ≤ 100000; decide) H1 e _ fun p H2 hp e2 h2 => hn H2 (e.trans e2) _ fun H3 e3 => ⟨p, k, [.int z], rfl, rfl, e3 _ _ h2, by omega, by omega, by
    show 1 * k.toNat ≤ sizeLine
    exact Nat.le_trans (show 1 * k.toNat ≤ 100000 by omega) (by decide), fun l hl => q l _ (fresh_back (e2.trans e3) hl) ((e2.trans e3).trans (Ex.new hl)) (by
    rw [upd_same]
    have rp : ∀ m : Nat, (List.replicate m [V.int z]).flatten = (List.replicate m z).map V.int := fun m => by
      induction m with
      | zero => rfl
      | succ m ih => rw [List.replicate_succ, List.flatten_cons, ih, List.replicate_succ, List.map_cons]; rfl
    rw [rp])⟩
theorem er_call {sp : Sp} {dvs vs : List V} {E : XK} {ta : TA} {σ : L2.St} {H : Hp} {P : V → Hp → Prop} (h : EvA ta σ H vs) (hs : ∀ H1, Ex H H1 → ∀ Q : VK, (∀ v H2, Ex H1 H2 → P v H2 → Q v H2) → sp (vs ++ dvs) H1 Q E) : EvR (tCall sp dvs E ta) σ H P :=
  fun H1 e Q q => h H1 e _ fun H2 e2 => hs H2 (e.trans e2) Q fun v H3 e3 p => q v H3 (e2.trans e3) p
theorem el_cat {σ : L2.St} {H : Hp} {ta tb : TE} {xs ys : List V} (h1 : EvL ta σ H xs) (h2 : EvL tb σ H ys) (hz : xs.length + ys.length ≤ 100000) : EvL (tOp rCat ta tb) σ H (xs ++ ys) := fun H1 e Q q =>
  h1 H1 e _ fun a H2 ha e2 g2 => h2 H2 (e.trans e2) _ fun b H3 hb e3 g3 => ⟨a, b, xs, ys, rfl, rfl, e3 _ _ g2, g3, sz_of hz, fun p hp => q p _ (fresh_back (e2.trans e3) hp) ((e2.trans e3).trans (Ex.new hp)) upd_same⟩
theorem atI_last {α : Type} {xs : List α} {z : α} (h : xs.getLast? = some z) : atI xs (-1) = some z := by
  cases xs with
  | nil => cases h
  | cons x r =>
    rw [List.getLast?_eq_getElem?] at h
    unfold atI ixN
    rw [if_neg (by omega), if_pos (by rw [List.length_cons]; omega)]
    show (x :: r)[((-1 : Int) + ((x :: r).length : Int)).toNat]? = some z
    rw [← h]
    congr 1
    rw [List.length_cons]
    omega
/-- an if whose test fails -/
theorem q_skip {t : TT} {tu tz : TS} {D : Ends} {σ : L2.St} {H : Hp} (h : EvT t σ H false) (k : ∀ H1, Ex H H1 → tz D σ H1) : tSeq (tIfS t tu tNext) tz D σ H := q_when h (fun z => Bool.noConfusion z) fun _ H1 e => k H1 e
/-- .. whose test holds and that returns -/
theorem q_take {t : TT} {tu tz : TS} {D : Ends} {σ : L2.St} {H : Hp} (h : EvT t σ H true) (k : ∀ H1, Ex H H1 → tu { D with nx := tz D } σ H1) : tSeq (tIfS t tu tNext) tz D σ H := q_when h (fun _ H1 e => k H1 e) fun z => Bool.noConfusion z
theorem et_notT {t : TT} {σ : L2.St} {H : Hp} (h : EvT t σ H true) : EvT (tNot t) σ H false := et_not h
theorem et_orF {t u : TT} {σ : L2.St} {H : Hp} (h : EvT t σ H false) (h2 : EvT u σ H false) : EvT (tOr t u) σ H false := et_or h fun _ => h2
theorem et_andF {t u : TT} {σ : L2.St} {H : Hp} (h : EvT t σ H false) : EvT (tAnd t u) σ H false := et_and (b := true) h fun z => Bool.noConfusion z
theorem et_andT {t u : TT} {σ : L2.St} {H : Hp} {b : Bool} (h : EvT t σ H true) (h2 : EvT u σ H b) : EvT (tAnd t u) σ H b := et_and h fun _ => h2
theorem ev_ix {K : PySem.W.Frag} {σ : L2.St} {H : Hp} {ta tb : TE} {p : Addr} {xs : List V} {i : Int} {v : V} (ha : Ev ta σ H (.ref p)) (hb : Ev tb σ H (.int i)) (h : SqL K H p xs) (hv : atI xs i = some v) : Ev (tOp (rIxL K) ta tb) σ H v := ev_op ha hb (rv_ixL h hv)
theorem rv_isK {x : V} {H : Hp} {b : Bool} : RV rIsK x (.bl b) H (.bl (decide (x = .bl b))) := fun H1 _ _ q => ⟨b, rfl, q H1 (Ex.refl H1)⟩
def rIsNotK : R2 := fun x y H Q => ∃ b : Bool, y = .bl b ∧ Q (.bl (!decide (x = .bl b))) H
theorem op_isNotK {X : Cx} : OpR X (compareOp .IsNot) rIsNotK := by
  intro pins s σ H x y v u Q I rx ry h
  obtain ⟨b, hy, q⟩ := h
  subst hy
  cases (show u = Value.bool b from ry)
  have fin : ∀ k : Bool, k = (!decide (x = V.bl b)) → EP X pins σ Q (.bool k) s := fun k e => ⟨.bl k, H, I, rfl, by rw [e]; exact q⟩
  cases x with
  | non => cases (show v = Value.none from rx); exact wpAny_isNot_other rfl (fun z => by cases z) (fin _ (by simp))
  | bl a =>
    cases (show v = Value.bool a from rx)
    by_cases e : a = b
    · subst e; exact wpAny_isNot_self rfl (fin _ (by simp))
    · exact wpAny_isNot_other rfl (fun z => e (Value.bool.inj z)) (fin _ (by simp [e]))
  | int i => obtain ⟨t, ev⟩ := rx; subst ev; exact wpAny_isNot_other rfl (fun z => by cases z) (fin _ (by simp))
  | str i => obtain ⟨t, ev⟩ := rx; subst ev; exact wpAny_isNot_other rfl (fun z => by cases z) (fin _ (by simp))
  | byt i => obtain ⟨t, ev⟩ := rx; subst ev; exact wpAny_isNot_other rfl (fun z => by cases z) (fin _ (by simp))
  | flt i => obtain ⟨t, ev⟩ := rx; subst ev; exact wpAny_isNot_other rfl (fun z => by cases z) (fin _ (by simp))
  | ref a => cases (show v = Value.ref a from rx); exact wpAny_isNot_other rfl (fun z => by cases z) (fin _ (by simp))
  | ty n => cases (show v = Value.type n from rx); exact wpAny_isNot_other rfl (fun z => by cases z) (fin _ (by simp))
theorem rv_isNotK {x : V} {H : Hp} {b : Bool} : RV rIsNotK x (.bl b) H (.bl (!decide (x = .bl b))) := fun H1 _ _ q => ⟨b, rfl, q H1 (Ex.refl H1)⟩
theorem drawn_cons {m : Int} {ms ds : List Int} (h : Drawn (m :: ms) ds) : ∃ d r, ds = d :: r ∧ (0 ≤ d ∧ d < m) ∧ Drawn ms r := by
  obtain ⟨hl, g⟩ := h
  cases ds with
  | nil => cases hl
  | cons d r =>
    obtain ⟨d', e, h0, h1⟩ := g 0 m rfl
    cases e
    exact ⟨d, r, rfl, ⟨h0, h1⟩, by simpa using hl, fun i x hx => g (i + 1) x hx⟩
theorem drawn_nil {ds : List Int} (h : Drawn [] ds) : ds = [] := List.length_eq_zero_iff.mp h.1
/-! ### new things: what holds of them in each heap that has what is new -/
def NewP (P : Hp → Prop) (H H' : Hp) : Prop := ∀ G : Hp, (∀ b o, H b = none → H' b = some o → G b = some o) → P G
def EvNew (te : TE) (σ : L2.St) (H : Hp) (P : V → Hp → Prop) : Prop := ∀ H1, Ex H H1 → ∀ Q : VK, (∀ v H2, Ex H1 H2 → NewP (P v) H1 H2 → Q v H2) → te σ H1 Q
theorem NewP.self {P : Hp → Prop} {H H' : Hp} (h : NewP P H H') : P H' := h H' fun _ _ _ e => e
theorem NewP.out {P : Hp → Prop} {H H1 H2 H3 : Hp} (h : NewP P H1 H2) (e : Ex H H1) (e' : Ex H2 H3) : NewP P H H3 := fun G g => h G fun b o h1 h2 => g b o (fresh_back e h1) (e' _ _ h2)
theorem EvNew.er {te : TE} {σ : L2.St} {H : Hp} {P : V → Hp → Prop} (h : EvNew te σ H P) : EvR te σ H P := fun H1 e Q q => h H1 e Q fun v H2 e2 n => q v H2 e2 n.self
theorem EvNew.imp {te : TE} {σ : L2.St} {H : Hp} {P P' : V → Hp → Prop} (h : EvNew te σ H P) (i : ∀ v G, P v G → P' v G) : EvNew te σ H P' := fun H1 e Q q => h H1 e Q fun v H2 e2 n => q v H2 e2 fun G g => i v G (n G g)
theorem en_L {te : TE} {σ : L2.St} {H : Hp} {xs : List V} (h : EvL te σ H xs) : EvNew te σ H fun v G => ∃ p, v = .ref p ∧ G p = some (.lst xs) := fun H1 e Q q => h H1 e Q fun p H2 hp e2 h2 => q _ H2 e2 fun G g => ⟨p, rfl, g p _ hp h2⟩
theorem en_ev {te : TE} {σ : L2.St} {H : Hp} {v : V} {P : V → Prop} (h : Ev te σ H v) (p : P v) : EvNew te σ H fun v _ => P v := fun H1 e Q q => h H1 e Q fun H2 e2 => q v H2 e2 fun _ _ => p
/-- what a comprehension keeps: its list at D, each item with its property whatever D holds -/
def Kept (P : Nat → V → Hp → Prop) (H1 : Hp) (D : Addr) (i : Nat) (H : Hp) : Prop := H1 D = none ∧ Ex H1 H ∧ ∃ vs : List V, H D = some (.lst vs) ∧ vs.length = i ∧ ∀ (k : Nat) x, vs[k]? = some x → ∀ G : Hp, (∀ b o, b ≠ D → H1 b = none → H b = some o → G b = some o) → P k x G
theorem kept_turn {P : Nat → V → Hp → Prop} {H1 H : Hp} {D : Addr} {i : Nat} {te : TE} {σ2 : L2.St} (p : Kept P H1 D i H) (hi : i < 50000) (he : EvNew te σ2 H1 (P i)) :
    tYes σ2 H fun b H3 => if b = true then te σ2 H3 fun y H4 => ∃ acc, H4 D = some (.lst acc) ∧ acc.length < sizeLine ∧ Kept P H1 D (i + 1) (upd H4 D (.lst (acc ++ [y]))) else Kept P H1 D (i + 1) H3 := by
  obtain ⟨p1, p2, vs, p3, p4, p5⟩ := p
  show te σ2 H fun y H4 => ∃ acc, H4 D = some (.lst acc) ∧ acc.length < sizeLine ∧ Kept P H1 D (i + 1) (upd H4 D (.lst (acc ++ [y])))
  refine he H p2 _ fun y H4 e4 hy => ⟨vs, e4 _ _ p3, sz_lt (by omega), p1, Ex.mut (p2.trans e4) p1, vs ++ [y], upd_same, by simp [p4], fun k x hk G g => ?_⟩
  by_cases hki : k < vs.length
  · rw [List.getElem?_append_left hki] at hk
    exact p5 k x hk G fun b o hb h1 h2 => g b o hb h1 (by rw [upd_ne hb]; exact e4 _ _ h2)
  · have hlt := (List.getElem?_eq_some_iff.mp hk).1
    rw [List.length_append] at hlt
    have hlt' : k < vs.length + 1 := hlt
    have e : k = i := by omega
    subst e
    rw [List.getElem?_append_right (by omega), ← p4, Nat.sub_self] at hk
    cases hk
    refine hy G fun b o h1 h2 => ?_
    have hb : b ≠ D := fun e => by rw [e, p3] at h1; cases h1
    exact g b o hb (fresh_back p2 h1) (by rw [upd_ne hb]; exact h2)
theorem kept_end {P : Nat → V → Hp → Prop} {H1 H : Hp} {D : Addr} {n : Nat} (p : Kept P H1 D n H) : NewP (fun G => ∃ vs : List V, G D = some (.lst vs) ∧ vs.length = n ∧ ∀ (k : Nat) x, vs[k]? = some x → P k x G) H1 H := fun G g => by
  obtain ⟨p1, p2, vs, p3, p4, p5⟩ := p
  exact ⟨vs, g D _ p1 p3, p4, fun k x hk => p5 k x hk G fun b o _ h1 h2 => g b o h1 h2⟩
/-- a list whose items have a property -/
def ListP (n : Nat) (P : Nat → V → Hp → Prop) (v : V) (G : Hp) : Prop := ∃ (p : Addr) (vs : List V), v = .ref p ∧ G p = some (.lst vs) ∧ vs.length = n ∧ ∀ (k : Nat) x, vs[k]? = some x → P k x G
theorem en_lcR1 {σ : L2.St} {H : Hp} {te : TE} {ta : TA} {j : Nat} {vs : List Nat} {n : Int} (P : Nat → V → Hp → Prop) (h : EvA ta σ H [.int n]) (hn : 0 ≤ n ∧ n ≤ 40000) (hw : ∀ x, wipe ((wipe σ vs).set j (some x)) vs = wipe σ vs)
    (he : ∀ (i : Nat) H1, Ex H H1 → (i : Int) < n → EvNew te ((wipe σ vs).set j (some (.int (i : Int)))) H1 (P i)) : EvNew (tLc (iRng1 ta) (gName j) tYes te vs) σ H (ListP n.toNat P) := fun H0 e Q q => h H0 e _ fun H1 e1 => ⟨n, rfl, by omega, by omega, fun Dl hD =>
  lc_range (lo := 0) (n := n.toNat) (Kept P H1 Dl) ⟨hD, Ex.new hD, [], upd_same, rfl, fun k x hk => by cases hk⟩ (fun i H' hi p => by
    have e0 : (0 : Int) + (i : Int) = (i : Int) := Int.zero_add _
    show wipe ((wipe σ vs).set j (some (.int ((0 : Int) + (i : Int))))) vs = wipe σ vs ∧ tYes ((wipe σ vs).set j (some (.int ((0 : Int) + (i : Int))))) H' fun b H3 => if b = true then te ((wipe σ vs).set j (some (.int ((0 : Int) + (i : Int))))) H3 fun y H4 => ∃ acc, H4 Dl = some (.lst acc) ∧ acc.length < sizeLine ∧ Kept P H1 Dl (i + 1) (upd H4 Dl (.lst (acc ++ [y]))) else Kept P H1 Dl (i + 1) H3
    rw [e0]
    exact ⟨hw _, kept_turn p (by omega) (he i H1 (e.trans e1) (by omega))⟩)
    (fun H' p => q _ H' (e1.trans p.2.1) fun G g => by
      obtain ⟨ws, h1, h2, h3⟩ := (kept_end p).out e1 (Ex.refl _) G g
      exact ⟨Dl, ws, rfl, h1, h2, h3⟩)⟩
theorem en_lcL {K : PySem.W.Frag} {σ : L2.St} {H : Hp} {te tl : TE} {j : Nat} {vs : List Nat} {xs : List V} (P : Nat → V → Hp → Prop) (h : EvR tl σ H fun v H1 => ∃ a, v = .ref a ∧ SqL K H1 a xs) (hz : xs.length ≤ 40000) (hw : ∀ x, wipe ((wipe σ vs).set j (some x)) vs = wipe σ vs)
    (he : ∀ (i : Nat) (x : V) H1, Ex H H1 → xs[i]? = some x → EvNew te ((wipe σ vs).set j (some x)) H1 (P i)) : EvNew (tLc (iList K tl) (gName j) tYes te vs) σ H (ListP xs.length P) := fun H0 e Q q => h H0 e _ fun v H1 e1 hv => by
  obtain ⟨a, rfl, hx⟩ := hv
  exact ⟨a, rfl, ⟨xs, hx⟩, fun Dl hD =>
    lc_list (xs := xs) (Kept P H1 Dl) ⟨hD, Ex.new hD, [], upd_same, rfl, fun k x hk => by cases hk⟩ (fun i H' _ p => ex_l p.2.1 hx) (fun i x H' hi p => ⟨hw x, kept_turn p (by have := (List.getElem?_eq_some_iff.mp hi).1; omega) (he i x H1 (e.trans e1) hi)⟩)
    (fun H' p => q _ H' (e1.trans p.2.1) fun G g => by
      obtain ⟨ws, h1, h2, h3⟩ := (kept_end p).out e1 (Ex.refl _) G g
      exact ⟨Dl, ws, rfl, h1, h2, h3⟩)⟩

/-! ### order of data -/
def rLtD (K : PySem.W.Frag) : R2 := fun x y H Q => ∃ d e, Dp K H x d ∧ Dp K H y e ∧ PySem.W.alike d e = true ∧ d ≠ .none ∧ d.depth ≤ 64 ∧ Q (.bl (PySem.W.dataLt d e)) H
def rLeD (K : PySem.W.Frag) : R2 := fun x y H Q => ∃ d e, Dp K H x d ∧ Dp K H y e ∧ PySem.W.alike d e = true ∧ d ≠ .none ∧ d.depth ≤ 64 ∧ Q (.bl (!PySem.W.dataLt e d)) H
theorem op_ltD {X : Cx} {K : PySem.W.Frag} (hu : X.A.units + 64 < cLine) (hk : X.K = K := by rfl) : OpR X (compareOp .Lt) (rLtD K) := by
  subst hk
  intro pins s σ H x y v u Q I rx ry h
  obtain ⟨d, e, hd, he, al, dn, dp, q⟩ := h
  obtain ⟨as, r1⟩ := Dp.reads I d x v hd rx
  obtain ⟨bs, r2⟩ := Dp.reads I e y u he ry
  exact PySem.W.rcLt_alike d e X.A s v u as bs r1 r2 al dn (by have := Nat.min_le_left d.depth e.depth; omega) X.prog X.w X.xe (EP X pins σ Q) ⟨.bl _, H, I, rfl, q⟩
theorem op_leD {X : Cx} {K : PySem.W.Frag} (hu : X.A.units + 64 < cLine) (hk : X.K = K := by rfl) : OpR X (compareOp .LtE) (rLeD K) := by
  subst hk
  intro pins s σ H x y v u Q I rx ry h
  obtain ⟨d, e, hd, he, al, dn, dp, q⟩ := h
  obtain ⟨as, r1⟩ := Dp.reads I d x v hd rx
  obtain ⟨bs, r2⟩ := Dp.reads I e y u he ry
  exact PySem.W.rcLe_alike d e X.A s v u as bs r1 r2 al dn (by have := Nat.min_le_left d.depth e.depth; omega) X.prog X.w X.xe (EP X pins σ Q) ⟨.bl _, H, I, rfl, q⟩
theorem alike_ints : ∀ xs ys : List Int, PySem.W.alikeAll (xs.map PyData.int) (ys.map PyData.int) = true
  | [], [] => by simp [PySem.W.alikeAll]
  | [], y :: ys => by simp [PySem.W.alikeAll]
  | x :: xs, [] => by simp [PySem.W.alikeAll]
  | x :: xs, y :: ys => by simp [PySem.W.alikeAll, PySem.W.alike, alike_ints xs ys]

/-! ### what holds of a value in each heap that has what stood before and what is new -/
def Since (H H' G : Hp) : Prop := ∀ b o, H b = none → H' b = some o → G b = some o
def EvB (te : TE) (σ : L2.St) (H : Hp) (P : V → Hp → Prop) : Prop := ∀ H1, Ex H H1 → ∀ Q : VK, (∀ v H2, Ex H1 H2 → (∀ G, Ex H G → Since H1 H2 G → P v G) → Q v H2) → te σ H1 Q
theorem EvNew.eb {te : TE} {σ : L2.St} {H : Hp} {P : V → Hp → Prop} (h : EvNew te σ H P) : EvB te σ H P := fun H1 e Q q => h H1 e Q fun v H2 e2 n => q v H2 e2 fun G _ g => n G g
theorem EvB.er {te : TE} {σ : L2.St} {H : Hp} {P : V → Hp → Prop} (h : EvB te σ H P) : EvR te σ H P := fun H1 e Q q => h H1 e Q fun v H2 e2 n => q v H2 e2 (n H2 (e.trans e2) fun _ _ _ z => z)
theorem EvB.imp {te : TE} {σ : L2.St} {H : Hp} {P P' : V → Hp → Prop} (h : EvB te σ H P) (i : ∀ v G, Ex H G → P v G → P' v G) : EvB te σ H P' := fun H1 e Q q => h H1 e Q fun v H2 e2 n => q v H2 e2 fun G a g => i v G a (n G a g)
theorem eb_ev {te : TE} {σ : L2.St} {H : Hp} {v : V} {P : V → Hp → Prop} (h : Ev te σ H v) (p : ∀ G, Ex H G → P v G) : EvB te σ H P := fun H1 e Q q => h H1 e Q fun H2 e2 => q v H2 e2 fun G a _ => p G a
theorem eb_L {K : PySem.W.Frag} {te : TE} {σ : L2.St} {H : Hp} {xs : List V} (h : EvL te σ H xs) : EvB te σ H fun v G => ∃ p, v = .ref p ∧ SqL K G p xs := ((en_L h).imp fun v G ⟨p, a, b⟩ => ⟨p, a, sq_of b⟩).eb
theorem eb_held {K : PySem.W.Frag} {σ : L2.St} {H : Hp} {i : Nat} {p : Addr} {xs : List V} (h : σ[i]? = some (some (.ref p))) (hp : SqL K H p xs) : EvB (tVar i) σ H fun v G => ∃ p, v = .ref p ∧ SqL K G p xs := eb_ev (ev_var h) fun G e => ⟨p, rfl, ex_l e hp⟩
/-! ### what is walked, whatever it is -/
def EvI (wi : TI) (σ : L2.St) (H : Hp) (n : Nat) (Y : Nat → Hp → V → Hp → Prop) : Prop := ∀ H1, Ex H H1 → ∀ R : It → Hp → Prop, (∀ J H2, Ex H1 H2 → Walk J n (fun G => Ex H G ∧ Since H1 H2 G) Y → R J H2) → wi σ H1 R
theorem ei_list {K : PySem.W.Frag} {σ : L2.St} {H : Hp} {tl : TE} {xs : List V} (h : EvB tl σ H fun v G => ∃ p, v = .ref p ∧ SqL K G p xs) : EvI (iList K tl) σ H xs.length (YAt xs) := fun H1 e R r => h H1 e _ fun v H2 e2 hv => by
  obtain ⟨a, rfl, hx⟩ := hv H2 (e.trans e2) fun _ _ _ z => z
  exact ⟨a, rfl, ⟨xs, hx⟩, r _ _ e2 (walk_list.mono (fun G g => by
    obtain ⟨b, eb, hb⟩ := hv G g.1 g.2
    cases eb
    exact hb) fun _ _ _ _ _ _ y => y)⟩
theorem ei_tup {K : PySem.W.Frag} {σ : L2.St} {H : Hp} {tl : TE} {xs : List V} (h : EvB tl σ H fun v G => ∃ p, v = .ref p ∧ SqT K G p xs) : EvI (iTup K tl) σ H xs.length (YAt xs) := fun H1 e R r => h H1 e _ fun v H2 e2 hv => by
  obtain ⟨a, rfl, hx⟩ := hv H2 (e.trans e2) fun _ _ _ z => z
  exact ⟨a, rfl, ⟨xs, hx⟩, r _ _ e2 (walk_tup.mono (fun G g => by
    obtain ⟨b, eb, hb⟩ := hv G g.1 g.2
    cases eb
    exact hb) fun _ _ _ _ _ _ y => y)⟩
theorem ei_rng1 {σ : L2.St} {H : Hp} {ta : TA} {n : Int} (h : EvA ta σ H [.int n]) (hn : -100000 ≤ n ∧ n ≤ 100000) : EvI (iRng1 ta) σ H n.toNat (YFn fun i => .int (i : Int)) := fun H1 e R r => h H1 e _ fun H2 e2 =>
  ⟨n, rfl, by omega, by omega, r _ _ e2 (walk_range.mono (fun _ _ => True.intro) fun i G x G' _ _ y => ⟨y.1, by rw [y.2]; simp⟩)⟩
theorem ei_rng2 {σ : L2.St} {H : Hp} {ta : TA} {lo hi : Int} (h : EvA ta σ H [.int lo, .int hi]) (hn : (-100000 ≤ lo ∧ lo ≤ 100000) ∧ -100000 ≤ hi ∧ hi ≤ 100000) : EvI (iRng2 ta) σ H (hi - lo).toNat (YFn fun i => .int (lo + (i : Int))) := fun H1 e R r => h H1 e _ fun H2 e2 =>
  ⟨lo, hi, rfl, by omega, r _ _ e2 (walk_range.mono (fun _ _ => True.intro) fun i G x G' _ _ y => y)⟩
theorem ei_zip {K : PySem.W.Frag} {σ : L2.St} {H : Hp} {ta tb : TE} {xs ys : List V} {n : Nat} (h1 : EvB ta σ H fun v G => ∃ p, v = .ref p ∧ SqL K G p xs) (h2 : EvB tb σ H fun v G => ∃ p, v = .ref p ∧ SqL K G p ys) (hn : n = min xs.length ys.length) :
    EvI (iZip K (tCons ta (tCons tb tNil))) σ H n (YPair (fun i => xs[i]?) fun i => ys[i]?) := fun H1 e R r => h1 H1 e _ fun v H2 e2 hv => h2 H2 (e.trans e2) _ fun w H3 e3 hw => by
  have p1 : ∀ G, Ex H G → Since H1 H3 G → ∃ p, v = .ref p ∧ SqL K G p xs := fun G a g => hv G a fun b o z1 z2 => g b o z1 (e3 _ _ z2)
  have p2 : ∀ G, Ex H G → Since H1 H3 G → ∃ p, w = .ref p ∧ SqL K G p ys := fun G a g => hw G a fun b o z1 z2 => g b o (fresh_back e2 z1) z2
  have e3' := (e.trans e2).trans e3
  obtain ⟨a, rfl, hx⟩ := p1 H3 e3' fun _ _ _ z => z
  obtain ⟨b, rfl, hy⟩ := p2 H3 e3' fun _ _ _ z => z
  exact ⟨a, b, xs, ys, rfl, hx, hy, r _ _ (e2.trans e3) ((walk_zip hn).mono (fun G g => by
    obtain ⟨a', ea, ha⟩ := p1 G g.1 g.2
    obtain ⟨b', eb, hb⟩ := p2 G g.1 g.2
    cases ea
    cases eb
    exact ⟨ha, hb⟩) fun _ _ _ _ _ _ y => y)⟩
theorem ei_enum {K : PySem.W.Frag} {σ : L2.St} {H : Hp} {ta : TE} {xs : List V} (h : EvB ta σ H fun v G => ∃ p, v = .ref p ∧ SqL K G p xs) : EvI (iEnum K (tCons ta tNil)) σ H xs.length (YPair (fun i => some (.int (i : Int))) fun i => xs[i]?) := fun H1 e R r => h H1 e _ fun v H2 e2 hv => by
  obtain ⟨a, rfl, hx⟩ := hv H2 (e.trans e2) fun _ _ _ z => z
  exact ⟨a, xs, rfl, hx, r _ _ e2 (walk_enum.mono (fun G g => by
    obtain ⟨b, eb, hb⟩ := hv G g.1 g.2
    cases eb
    exact hb) fun _ _ _ _ _ _ y => y)⟩
theorem walk_ex {J : It} {n : Nat} {H H1 H2 : Hp} {Y : Nat → Hp → V → Hp → Prop} (e : Ex H H1) (e2 : Ex H1 H2) (w : Walk J n (fun G => Ex H G ∧ Since H1 H2 G) Y) : Walk J n (Ex H2) Y := w.mono (fun G g => ⟨(e.trans e2).trans g, fun b o _ z => g _ _ z⟩) fun _ _ _ _ _ _ y => y
/-- what a target binds at each turn -/
def BdG (g : TG) (σ : L2.St) (n : Nat) (Y : Nat → Hp → V → Hp → Prop) (τ : Nat → L2.St) : Prop := ∀ i H x H' (k : L2.St → Hp → Prop), i < n → Y i H x H' → (Ex H H' → k (τ i) H') → g x σ H' k
theorem bd_at {σ : L2.St} {n j : Nat} {xs : List V} : BdG (gName j) σ n (YAt xs) fun i => σ.set j (xs[i]?) := fun i H x H' k _ y c => by
  obtain ⟨rfl, hx⟩ := y
  show k (σ.set j (some x)) H'
  rw [← hx]
  exact c (Ex.refl _)
theorem bd_fn {σ : L2.St} {n j : Nat} {f : Nat → V} : BdG (gName j) σ n (YFn f) fun i => σ.set j (some (f i)) := fun i H x H' k _ y c => by
  obtain ⟨rfl, rfl⟩ := y
  exact c (Ex.refl _)
theorem bd_pair {K : PySem.W.Frag} {σ : L2.St} {n a b : Nat} {xs ys : Nat → Option V} : BdG (gTup K 2 (gCons (gName a) (gCons (gName b) gNil))) σ n (YPair xs ys) fun i => (σ.set a (xs i)).set b (ys i) := fun i H x H' k _ y c => by
  obtain ⟨T, u, v, rfl, hT, rfl, hu, hv⟩ := y
  refine ⟨T, [u, v], rfl, st_of upd_same, rfl, u, [v], rfl, v, [], rfl, rfl, ?_⟩
  rw [← hu, ← hv]
  exact c (Ex.new hT)
section
variable {wi : TI} {g : TG} {tt : TT} {te : TE} {tu tz : TS} {σ : L2.St} {H : Hp} {D : Ends} {n : Nat} {Y : Nat → Hp → V → Hp → Prop} {vs : List Nat} {τ : Nat → L2.St}
theorem s_forI (h : EvI wi σ H n Y) (k : ∀ H2, Ex H H2 → ∃ Pv : Nat → L2.St → Hp → Prop, Pv 0 σ H2 ∧ (∀ i σ' H', i ≤ n → Pv i σ' H' → Ex H2 H') ∧
    (∀ i x σ' H' H'', i < n → Pv i σ' H' → Y i H' x H'' → g x σ' H'' fun σ2 H3 => tu { D with nx := Pv (i + 1), ct := Pv (i + 1), bk := D.nx } σ2 H3) ∧ ∀ σ' H', Pv n σ' H' → D.nx σ' H') : tFor wi g tu D σ H :=
  h H (Ex.refl H) _ fun J H2 e2 w => by
    obtain ⟨Pv, h0, hG, hs, hd⟩ := k H2 e2
    exact for_it (walk_ex (Ex.refl H) e2 w) Pv h0 hG (fun i x σ' H' H'' hi p y => hs i x σ' H' H'' hi p y) hd
theorem q_forI (h : EvI wi σ H n Y) (k : ∀ H2, Ex H H2 → ∃ Pv : Nat → L2.St → Hp → Prop, Pv 0 σ H2 ∧ (∀ i σ' H', i ≤ n → Pv i σ' H' → Ex H2 H') ∧
    (∀ i x σ' H' H'', i < n → Pv i σ' H' → Y i H' x H'' → g x σ' H'' fun σ2 H3 => tu { D with nx := Pv (i + 1), ct := Pv (i + 1), bk := tz D } σ2 H3) ∧ ∀ σ' H', Pv n σ' H' → tz D σ' H') : tSeq (tFor wi g tu) tz D σ H := s_forI (D := { D with nx := tz D }) h k
/-- a comprehension that tests and tells plain values -/
theorem el_lc (f : Nat → Bool) (v : Nat → V) (h : EvI wi σ H n Y) (hn : n ≤ 40000) (hb : BdG g (wipe σ vs) n Y τ) (hw : ∀ i, i < n → wipe (τ i) vs = wipe σ vs)
    (ht : ∀ i H1, i < n → Ex H H1 → EvT tt (τ i) H1 (f i)) (he : ∀ i H1, i < n → Ex H H1 → f i = true → Ev te (τ i) H1 (v i)) : EvL (tLc wi g tt te vs) σ H (given n f v) := fun H0 e0 Q q =>
  h H0 e0 _ fun J H2 e2 w Dl hD => lc_it (walk_ex e0 e2 w) (Cw H2 f v Dl) ⟨hD, Ex.new hD, upd_same⟩ (fun i H' _ c => c.2.1)
    (fun i x H' H'' hi c y => hb i H' x H'' _ hi y fun e => ⟨hw i hi, by
      have c' : Cw H2 f v Dl i H'' := ⟨c.1, c.2.1.trans e, e _ _ c.2.2⟩
      exact cw_turn c' (by omega) (ht i H2 hi (e0.trans e2)) (fun hf => he i H2 hi (e0.trans e2) hf)⟩)
    (fun H' c => q Dl H' (fresh_back e2 c.1) (e2.trans c.2.1) c.2.2)
/-- .. that tells new things -/
theorem en_lc (P : Nat → V → Hp → Prop) (h : EvI wi σ H n Y) (hn : n ≤ 40000) (hb : BdG g (wipe σ vs) n Y τ) (hw : ∀ i, i < n → wipe (τ i) vs = wipe σ vs)
    (he : ∀ i H1, i < n → Ex H H1 → EvNew te (τ i) H1 (P i)) : EvNew (tLc wi g tYes te vs) σ H (ListP n P) := fun H0 e0 Q q =>
  h H0 e0 _ fun J H2 e2 w Dl hD => lc_it (walk_ex e0 e2 w) (Kept P H2 Dl) ⟨hD, Ex.new hD, [], upd_same, rfl, fun k x hk => by cases hk⟩ (fun i H' _ c => c.2.1)
    (fun i x H' H'' hi c y => hb i H' x H'' _ hi y fun e => ⟨hw i hi, by
      obtain ⟨c1, c2, us, c3, c4, c5⟩ := c
      have c' : Kept P H2 Dl i H'' := ⟨c1, c2.trans e, us, e _ _ c3, c4, fun k z hk G gg => c5 k z hk G fun b o hb h1 h2 => gg b o hb h1 (e _ _ h2)⟩
      exact kept_turn c' (by omega) (he i H2 hi (e0.trans e2))⟩)
    (fun H' c => q _ H' (e2.trans c.2.1) fun G gg => by
      obtain ⟨ws, h1, h2, h3⟩ := (kept_end c).out e2 (Ex.refl _) G gg
      exact ⟨Dl, ws, rfl, h1, h2, h3⟩)
theorem given_all {n : Nat} {v : Nat → V} : given n (fun _ => true) v = (List.range n).map v := by
  unfold given
  rw [List.filter_eq_self.mpr fun _ _ => rfl]
theorem yes_T : EvT tYes σ H true := fun H1 _ Q q => q H1 (Ex.refl H1)
/-- two sources, one within the other: all values in their order -/
theorem el_lc2 {wi1 : TI} {g1 : TG} {vs1 : List Nat} {n1 : Nat → Nat} {Y1 : Nat → Nat → Hp → V → Hp → Prop} {τ1 : Nat → Nat → L2.St} (v : Nat → Nat → V) (N : Nat) (h : EvI wi σ H n Y) (hN : N ≤ 1000000) (hz : ∀ i, i ≤ n → ((List.range i).flatMap fun i => (List.range (n1 i)).map (v i)).length ≤ N) (hb : BdG g (wipe σ vs) n Y τ) (hw : ∀ i, i < n → wipe (τ i) vs = wipe σ vs)
    (h1 : ∀ i H1, i < n → Ex H H1 → EvI wi1 (τ i) H1 (n1 i) (Y1 i)) (hb1 : ∀ i, i < n → BdG g1 (wipe (τ i) vs1) (n1 i) (Y1 i) (τ1 i)) (hw1 : ∀ i j, i < n → j < n1 i → wipe (τ1 i j) vs1 = wipe (τ i) vs1)
    (he : ∀ i j H1, i < n → j < n1 i → Ex H H1 → Ev te (τ1 i j) H1 (v i j)) : EvL (tLc2 wi g tYes wi1 g1 tYes te vs vs1) σ H ((List.range n).flatMap fun i => (List.range (n1 i)).map (v i)) := fun H0 e0 Q q =>
  h H0 e0 _ fun J H2 e2 w Dl hD => by
    let All : Nat → List V := fun i => (List.range i).flatMap fun i => (List.range (n1 i)).map (v i)
    have all_succ : ∀ i, All (i + 1) = All i ++ (List.range (n1 i)).map (v i) := fun i => by
      show List.flatMap _ (List.range (i + 1)) = _
      rw [List.range_succ, List.flatMap_append]
      simp [All]
    let Pv : Nat → Hp → Prop := fun i H' => H2 Dl = none ∧ Ex H2 H' ∧ H' Dl = some (.lst (All i))
    refine ⟨fun i m H' => m = n - i ∧ i ≤ n ∧ Pv i H', ⟨n, by simp, Nat.zero_le _, hD, Ex.new hD, upd_same⟩, ?_⟩
    have w' := walk_ex e0 e2 w
    rintro i m H' ⟨rfl, hi, p⟩
    by_cases hlt : i < n
    · refine .inr ⟨w'.goes i H' hlt p.2.1, Pv (i + 1), fun H'' p' => ⟨n - (i + 1), by omega, rfl, hlt, p'⟩, fun x H'' y => hb i H' x H'' _ hlt (w'.yields i H' x H'' hlt p.2.1 y) fun e => ⟨hw i hlt, ?_⟩⟩
      show wi1 (τ i) H'' _
      refine h1 i H2 hlt (e0.trans e2) H'' (p.2.1.trans e) _ fun J1 H3 e3 w1 => ?_
      let Pw : Nat → Hp → Prop := fun j G => (∀ b o, b ≠ Dl → H3 b = some o → G b = some o) ∧ Ex H2 G ∧ G Dl = some (.lst (All i ++ (List.range j).map (v i)))
      have q3 : Ex H2 H3 := (p.2.1.trans e).trans e3
      have inner : ∀ j G, Pw j G → Ex H2 G ∧ Since H'' H3 G := fun j G pw => ⟨pw.2.1, fun b o z1 z2 => pw.1 b o (fun z => by rw [z, e _ _ p.2.2] at z1; cases z1) z2⟩
      refine ⟨fun j m G => m = n1 i - j ∧ j ≤ n1 i ∧ Pw j G, ⟨n1 i, by simp, Nat.zero_le _, fun b o _ z => z, q3, by rw [(e.trans e3) _ _ p.2.2]; simp⟩, ?_⟩
      rintro j m G ⟨rfl, hj, pw⟩
      by_cases hjl : j < n1 i
      · refine .inr ⟨w1.goes j G hjl (inner j G pw), Pw (j + 1), fun G' pw' => ⟨n1 i - (j + 1), by omega, rfl, hjl, pw'⟩, fun x1 G' y1 => ?_⟩
        refine hb1 i hlt j G x1 G' _ hjl (w1.yields j G x1 G' hjl (inner j G pw) y1) fun eG => ⟨hw1 i j hlt hjl, ?_⟩
        show te (τ1 i j) G' _
        refine he i j H2 hlt hjl (e0.trans e2) G' (pw.2.1.trans eG) _ fun G4 e4 => ⟨_, (eG.trans e4) _ _ pw.2.2, ?_, ?_⟩
        · have s1 := hz (i + 1) (by omega)
          have s2 : (All (i + 1)).length ≤ N := s1
          rw [all_succ] at s2
          simp only [List.length_append, List.length_map, List.length_range] at s2 ⊢
          exact Nat.lt_of_le_of_lt (show _ ≤ 1000000 by omega) (by decide)
        · refine ⟨fun b o hb' z => by rw [upd_ne hb']; exact (eG.trans e4) _ _ (pw.1 b o hb' z), Ex.mut (pw.2.1.trans (eG.trans e4)) hD, ?_⟩
          rw [upd_same, List.range_succ, List.map_append, ← List.append_assoc]
          rfl
      · have ej : j = n1 i := by omega
        subst ej
        refine .inl ⟨w1.stops G (inner _ G pw), p.1, pw.2.1, ?_⟩
        rw [pw.2.2, all_succ]
    · have e : i = n := by omega
      subst e
      exact .inl ⟨w'.stops H' p.2.1, q Dl H' (fresh_back e2 p.1) (e2.trans p.2.1) p.2.2⟩
end

theorem pi_listK {X : Cx} {K : PySem.W.Frag} {tg l : Expr} {tl : TE} (hl : PE X l tl) (hk : X.K = K := by rfl) : PI X tg l (iList K tl) := by subst hk; exact pi_list hl
theorem cr_allK {X : Cx} {K : PySem.W.Frag} (hc : X.calm = true) (hk : X.K = K := by rfl) : CallR X (.builtin "all") (rAll K) := by subst hk; exact cr_all hc
theorem cr_sumK {X : Cx} {K : PySem.W.Frag} (hc : X.calm = true) (hk : X.K = K := by rfl) : CallR X (.builtin "sum") (rSum K) := by subst hk; exact cr_sum hc
theorem ev_sumN {K : PySem.W.Frag} {σ : L2.St} {H : Hp} {te : TE} {ns : List Int} (h : EvL te σ H (ns.map V.int)) : Ev (tCB (rSum K) (tCons te tNil)) σ H (.int ns.sum) := fun H1 e Q q => h H1 e _ fun p H2 _ e2 hp => ⟨p, ns, rfl, sq_of hp, q H2 e2⟩
/-- either of two rules of a call -/
def rOr (r1 r2 : List V → Hp → VK → Prop) : List V → Hp → VK → Prop := fun xs H Q => r1 xs H Q ∨ r2 xs H Q
theorem call_or {X : Cx} {f : Value} {r1 r2 : List V → Hp → VK → Prop} (h1 : CallR X f r1) (h2 : CallR X f r2) : CallR X f (rOr r1 r2) := fun pins s σ H xs us Q I r h => h.elim (h1 pins s σ H xs us Q I r) (h2 pins s σ H xs us Q I r)

/-! ### lots -/
def lotF (n : Int) (l : Addr) : List (Str × V) := [("hours", .int n), ("_members", .ref l)]
/-- v is a lot of n hours with the members ms -/
def LotAt (C : Addr) (H : Hp) (v : V) (n : Int) (ms : List Int) : Prop := ∃ a dx l, v = .ref a ∧ H a = some (.ins C dx (lotF n l)) ∧ H l = some (.lst (ms.map V.int))
theorem LotAt.ex {C : Addr} {H H' : Hp} {v : V} {n : Int} {ms : List Int} (e : Ex H H') (h : LotAt C H v n ms) : LotAt C H' v n ms := by
  obtain ⟨a, dx, l, rfl, h1, h2⟩ := h
  exact ⟨a, dx, l, rfl, e _ _ h1, e _ _ h2⟩
/-- the first residue that was seen before -/
def scanR (n : Int) : List Int → List Int → Option Int
  | _, [] => none
  | seen, m :: r => if m % n ∈ seen then some (m % n) else scanR n (seen ++ [m % n]) r
def resid (n : Int) (S : List Int) : List Int := pick n.toNat (fun h => decide ((h : Int) ∈ S)) fun h => (h : Int)
def flags (N : Nat) (S : List Int) : List V := (List.range N).map fun h : Nat => V.bl (decide ((h : Int) ∈ S))
theorem flags_nil (N : Nat) : (List.replicate N [V.bl false]).flatten = flags N [] := by
  unfold flags
  induction N with
  | zero => rfl
  | succ N ih =>
    rw [List.range_succ, List.map_append, ← ih, List.replicate_succ', List.flatten_append]
    simp
theorem flags_get {N : Nat} {S : List Int} {j : Nat} (h : j < N) : (flags N S)[j]? = some (.bl (decide ((j : Int) ∈ S))) := by
  unfold flags
  rw [List.getElem?_map, List.getElem?_range h]
  rfl
theorem flags_len {N : Nat} {S : List Int} : (flags N S).length = N := by
  unfold flags
  rw [List.length_map, List.length_range]
theorem flags_set {N : Nat} {S : List Int} {j : Nat} (h : j < N) : (flags N S).set j (.bl true) = flags N (S ++ [(j : Int)]) := by
  refine List.ext_getElem? fun i => ?_
  by_cases hi : i < N
  · rw [flags_get hi]
    by_cases e : i = j
    · subst e
      rw [List.getElem?_set_self (by rw [flags_len]; exact hi)]
      simp
    · rw [List.getElem?_set_ne (by omega), flags_get hi]
      have : ¬ (i : Int) = (j : Int) := by omega
      simp [this]
  · rw [List.getElem?_eq_none (by rw [List.length_set, flags_len]; omega), List.getElem?_eq_none (by rw [flags_len]; omega)]
theorem el_rng1 {σ : L2.St} {H : Hp} {te : TE} {tt : TT} {ta : TA} {j : Nat} {vs : List Nat} {n : Int} (f : Nat → Bool) (v : Nat → V) (h : EvA ta σ H [.int n]) (hn : 0 ≤ n ∧ n ≤ 40000)
    (hw : ∀ x, wipe ((wipe σ vs).set j (some x)) vs = wipe σ vs)
    (ht : ∀ (i : Nat) H1, Ex H H1 → (i : Int) < n → EvT tt ((wipe σ vs).set j (some (.int (i : Int)))) H1 (f i))
    (he : ∀ (i : Nat) H1, Ex H H1 → (i : Int) < n → f i = true → Ev te ((wipe σ vs).set j (some (.int (i : Int)))) H1 (v i)) :
    EvL (tLc (iRng1 ta) (gName j) tt te vs) σ H (given n.toNat f v) := el_lcR1 f v h hn hw ht he
theorem putF2 {y z : V} : putF "_members" z (putF "hours" y []) = [(("hours" : Str), y), (("_members" : Str), z)] := by
  have h : ¬ ("hours" : Str) = "_members" := by decide +kernel
  show (if ("hours" : Str) = "_members" then _ else (("hours" : Str), y) :: putF "_members" z []) = _
  rw [if_neg h]
  rfl

/-! ### for x in o, o of a class whose __iter__ tells the iterator of a list that o holds -/
/-- a def whose promise may speak of the number of objects that stand when it is called -/
structure FnS (P : Program) (w : World) (K : PySem.W.Frag) (mg : Str → Option Value) (base : Heap) (k : Nat) (f : Addr) (fd : FuncData) (ps : List Str) (sp : Nat → Sp) : Prop where
  go : ∀ (A : Around) (outer : List Env) (s : Shared) (H : Hp) (args : Args) (us : List Value) (vs : List V) (Q : VK) (E : XK),
    Room k A → Env0 P w K mg base A outer s H → BindsTo s fd args (ps.zip us) → Vals vs us → sp s.heap.objs.size vs H Q E →
    codeAny (model P w) A (.call (.ref f) args) (CR CX0 outer P w H s Q E) s
theorem fnS_mk {P : Program} {w : World} {K : PySem.W.Frag} {mg : Str → Option Value} {base : Heap} {x qual : Str} {st : Stmt} {f : Addr} {fd : FuncData} {N ps : List Str} {k : Nat} {sp : Nat → Sp}
    (F : Fun K x qual st f fd) (S : FnScope N ps (defScope st)) (len : ∀ n vs H Q E, sp n vs H Q E → vs.length = ps.length)
    (bd : ∀ (cdv : Value) (A : Around) (outer : List Env) (s : Shared) (H : Hp) (vs : List V) (Q : VK) (E : XK),
      Room k (A.deeper (PyProof.Rows.envOfC qual (defScope st) s.heap.objs.size f cdv)) → sp s.heap.objs.size vs H Q E →
      ∃ t, PSs (cxOf CX0 P w K mg base N qual (defScope st) f cdv A outer s H E) (defBody st) t ∧ t { nx := fun _ H' => Q .non H', rt := Q } (L2.start N vs) H) : FnS P w K mg base (k + 1) f fd ps sp := by
  obtain ⟨oc, od, kV, doc, pm, an, cdv, ct, osl, rfl, lk, hcd⟩ := F.ex
  constructor
  intro A outer s H args us vs Q E hr e0 hb rv hsp
  have many := len _ _ _ _ _ hsp
  have held : K.In s.heap := e0.mod.kin.keeps fun b o e => (e0.bs b o e).1
  have wide : s.heap.NoLimit := e0.mod.nolimit.keeps fun b o e => (e0.bs b o e).1
  have kinds : ∀ y ∈ ps.zip us, (defScope st).names.lookup y.1 = some .local ∨ ((defScope st).names.lookup y.1 = some .cell ∧ ((cellsFrom (s.heap.objs.size + 1) (defScope st).names []).lookup y.1).isSome = true) := by
    rintro ⟨n, v⟩ hy
    cases S.par n (List.of_mem_zip hy).1 with
    | inl q => exact .inl q
    | inr q => exact .inr ⟨q, PySem.W.cellsFrom_some _ _ _ (.inl q)⟩
  refine codeAny_call_function hr.depth (held _ _ lk) rfl S.co S.gen rfl (PySem.W.codeRec_of held hcd)
    (hb _ _ _ _ ?_)
  refine wpAny_newFunctionEnv_cells S.kind kinds fun env he s1 x1 => ?_
  cases he
  refine ⟨wide.keeps x1.toInCall.keep, codeAny_func ?_⟩
  obtain ⟨t, ht, hq⟩ := bd cdv A outer s H vs Q E (hr.deeper _) hsp
  have I := inv_start (E := E) (CX := CX0) S hr.hd e0 many rv x1
  refine wpAny_mono (ht.run [] s1 (L2.start N vs) H _ I hq) (fun fl s' hs => ?_) (fun e s' hs => hs)
  cases fl with
  | ret u =>
    obtain ⟨v, σ', H', J, r, q⟩ := hs
    exact ⟨v, H', J.os, J.bare, J.base, J.hok, r, q⟩
  | next =>
    obtain ⟨σ', H', J, q⟩ := hs
    exact ⟨V.non, H', J.os, J.bare, J.base, J.hok, rfl, q⟩
  | brk => obtain ⟨_, _, _, q⟩ := hs; exact q.elim
  | cont => obtain ⟨_, _, _, q⟩ := hs; exact q.elim
def spIt (K : PySem.W.Frag) (C : Addr) (fld : Str) (n : Nat) : Sp := fun vs H Q _ => ∃ (a dx l : Addr) (fs : List (Str × V)) (xs : List V), vs = [.ref a] ∧ H a = some (.ins C dx fs) ∧ fs.lookup fld = some (.ref l) ∧ SqL K H l xs ∧
  ∀ it, H it = none → n ≤ it → Q (.ref it) (upd H it (ItO l it 0))
/-- the list that o holds -/
def tOwn (C : Addr) (fld : Str) (te : TE) : TE := fun σ H Q => te σ H fun x H1 => ∃ (a dx l : Addr) (fs : List (Str × V)), x = .ref a ∧ H1 a = some (.ins C dx fs) ∧ fs.lookup fld = some (.ref l) ∧ Q (.ref l) H1
theorem ev_own {σ : L2.St} {H : Hp} {te : TE} {C a dx l : Addr} {fld : Str} {fs : List (Str × V)} (h : Ev te σ H (.ref a)) (hi : H a = some (.ins C dx fs)) (hl : fs.lookup fld = some (.ref l)) : Ev (tOwn C fld te) σ H (.ref l) := fun H1 e Q q =>
  h H1 e _ fun H2 e2 => ⟨a, dx, l, fs, rfl, e2 _ _ (e _ _ hi), hl, q H2 e2⟩
theorem pi_own {X : Cx} {K : PySem.W.Frag} {tg e : Expr} {te : TE} {C f : Addr} {fd : FuncData} {fld : Str} {n : Nat} (hk : X.K = K) (he : PE X e te) (hm : Meth K C "__iter__" f)
    (F : FnS X.prog X.w X.K X.mg X.base n f fd ["self"] (spIt K C fld)) (hr : Room n X.A) (hb : Binds X.K fd ["self"] []) : PI X tg e (iList K (tOwn C fld te)) := by
  subst hk
  refine ⟨fun pins s σ H R I h => ?_⟩
  refine thn (he.run pins s σ H _ I h) fun u s1 ⟨x, H1, I1, rx, a, dx, l, fs, ex, ea, el, l', e2, ⟨xs, hq⟩, q⟩ => ?_
  subst ex
  cases e2
  obtain rfl : u = Value.ref a := rx
  obtain ⟨mA, J0, _⟩ := ins_get I1.hok ea
  obtain ⟨od, J, _⟩ := J0.look
  obtain ⟨m, hF⟩ := I1.fr
  refine PySem.W.owit_iter hF I1.ok.mod.kin J hm.at_ hm.fn ?_
  have h2 := hb s1 [.ref a] I1.kIn rfl
  refine wpAny_call (codeAny_mono (F.go X.A X.stack s1 H1 ⟨[.ref a], []⟩ [.ref a] [.ref a] (fun v H' => ∃ it, v = .ref it ∧ H1 it = none ∧ s1.heap.objs.size ≤ it ∧ H' = upd H1 it (ItO l it 0)) E0 hr I1.env0 (by simpa using h2) (.cons rfl .nil)
    ⟨a, dx, l, fs, xs, rfl, ea, el, hq, fun it hit hn => ⟨it, rfl, hit, hn, rfl⟩⟩) fun r s' hce => ?_)
  cases r with
  | error e => exact False.elim hce
  | ok fl =>
    cases fl with
    | next => exact False.elim hce
    | brk => exact False.elim hce
    | cont => exact False.elim hce
    | ret u =>
      obtain ⟨v, H2, I2, rv, it, ev, hit, hsz, eH⟩ := I1.after hce
      subst ev eH
      cases rv
      have hi : (upd H1 it (ItO l it 0)) it = some (ItO l it 0) := upd_same
      have eo := itO_get I2 hi
      have hT : s'.TypeIs (.ref it) "list_iterator" := ⟨_, eo, rfl⟩
      show PySem.W.OwitIt _ _ _ _ (Value.ref it) s'
      unfold PySem.W.OwitIt
      refine wpAny_specialOf (name := Str.ofString "__next__") hT slot_listiter_next.lookup ?_
      have I3 := ItX.inv_drop I2 hi
      refine ⟨it, [it], _, _, _, rfl, I3, turn_list l it, ⟨_, eo, rfl, rfl⟩, fun b hb => ?_, ?_⟩
      · have e : b = it := by simpa using hb
        rw [e]
        exact ItX.inv_fp I2 hi (Nat.le_trans I1.sz hsz)
      · rw [ItX.dropH_upd hit]
        exact q

/-! ### ascending hours -/
def Asc (lo hi : Int) (xs : List Int) : Prop := xs.Pairwise (· < ·) ∧ ∀ x ∈ xs, lo ≤ x ∧ x < hi
theorem Asc.nil {lo hi : Int} : Asc lo hi [] := ⟨.nil, fun x h => by cases h⟩
theorem Asc.append {lo mid mid' hi : Int} {xs ys : List Int} (h : Asc lo mid xs) (g : Asc mid' hi ys) (h1 : lo ≤ mid') (h2 : mid ≤ mid') (h3 : mid ≤ hi) : Asc lo hi (xs ++ ys) := by
  refine ⟨List.pairwise_append.mpr ⟨h.1, g.1, fun x hx y hy => ?_⟩, fun x hx => ?_⟩
  · have := h.2 x hx
    have := g.2 y hy
    omega
  · rcases List.mem_append.mp hx with hx | hx
    · have := h.2 x hx
      omega
    · have := g.2 x hx
      omega
theorem Asc.mono {lo hi lo' hi' : Int} {xs : List Int} (h : Asc lo hi xs) (h1 : lo' ≤ lo) (h2 : hi ≤ hi') : Asc lo' hi' xs := ⟨h.1, fun x hx => by have := h.2 x hx; omega⟩
theorem Asc.filter {lo hi : Int} {xs : List Int} (p : Int → Bool) (h : Asc lo hi xs) : Asc lo hi (xs.filter p) := ⟨h.1.filter p, fun x hx => h.2 x (List.mem_filter.mp hx).1⟩
theorem asc_range {f : Nat → Bool} : ∀ n : Nat, Asc 0 (n : Int) (pick n f fun i => (i : Int))
  | 0 => by unfold pick; exact .nil
  | n + 1 => by
    rw [pick_succ]
    refine (asc_range n).append (mid' := (n : Int)) ?_ (by omega) (by omega) (by omega)
    by_cases h : f n = true
    · rw [if_pos h]
      exact ⟨List.pairwise_singleton _ _, fun x hx => by cases List.mem_singleton.mp hx; omega⟩
    · rw [if_neg h]
      exact .nil
theorem Asc.len {xs : List Int} : ∀ {lo hi : Int}, Asc lo hi xs → (xs.length : Int) ≤ max 0 (hi - lo) := by
  induction xs with
  | nil => intro lo hi _; simp; omega
  | cons x xs ih =>
    intro lo hi h
    have hx := h.2 x List.mem_cons_self
    have h' : Asc (x + 1) hi xs := ⟨(List.pairwise_cons.mp h.1).2, fun y hy => by
      have a := (List.pairwise_cons.mp h.1).1 y hy
      have b := h.2 y (List.mem_cons_of_mem _ hy)
      omega⟩
    have := ih h'
    simp only [List.length_cons]
    omega
theorem asc_shift {c : Int} {bs : List Int} (p : Int → Bool) (h : Asc 0 25 bs) : Asc c (c + 25) ((bs.filter p).map fun b => c + b) := by
  have hf := h.filter p
  refine ⟨List.pairwise_map.mpr (hf.1.imp fun {a b} hab => by show c + a < c + b; omega), fun x hx => ?_⟩
  obtain ⟨b, hb, rfl⟩ := List.mem_map.mp hx
  have := hf.2 b hb
  omega
theorem rg_pick (n : Int) : rgV 0 n = (pick n.toNat (fun _ => true) fun i => (i : Int)).map V.int := by
  unfold rgV pick
  rw [List.filter_eq_self.mpr fun _ _ => rfl, List.map_map, Int.sub_zero]
  exact List.map_congr_left fun i _ => congrArg V.int (Int.zero_add _)
theorem ev_lenN' {K : PySem.W.Frag} {σ : L2.St} {H : Hp} {ta : TE} {xs : List V} (ha : EvL ta σ H xs) : Ev (tCB (rLenK K) (tCons ta tNil)) σ H (.int (xs.length : Int)) := fun H1 e Q q =>
  ha H1 e _ fun p H2 _ e2 hp => ⟨.ref p, xs.length, rfl, .inl ⟨_, sq_of hp, rfl⟩, q H2 e2⟩
theorem rep_ints (m : Nat) (c : Int) : (List.replicate m [V.int c]).flatten = (List.replicate m c).map V.int := by
  induction m with
  | zero => rfl
  | succ m ih => rw [List.replicate_succ, List.flatten_cons, ih, List.replicate_succ, List.map_cons]; rfl
/-! ### counts of pairs -/
def cntP (n : Int) (P : List (Int × Int)) : List Int := (List.range n.toNat).map fun d : Nat => ((P.filter fun p => decide ((p.1 - p.2) % n = (d : Int))).length : Int)
theorem cntP_nil (n : Int) : (List.replicate n.toNat [V.int 0]).flatten = (cntP n []).map V.int := by
  unfold cntP
  generalize n.toNat = N
  induction N with
  | zero => rfl
  | succ N ih =>
    rw [List.range_succ, List.map_append, List.map_append, List.replicate_succ', List.flatten_append, ih]
    simp
theorem cntP_len {n : Int} {P : List (Int × Int)} : (cntP n P).length = n.toNat := by
  unfold cntP
  rw [List.length_map, List.length_range]
theorem cntP_get {n : Int} {P : List (Int × Int)} {d : Nat} (h : d < n.toNat) : (cntP n P)[d]? = some ((P.filter fun p => decide ((p.1 - p.2) % n = (d : Int))).length : Int) := by
  unfold cntP
  rw [List.getElem?_map, List.getElem?_range h]
  rfl
theorem cntP_set {n x y : Int} {P : List (Int × Int)} {d : Nat} (h : d < n.toNat) (hd : (x - y) % n = (d : Int)) :
    (cntP n P).set d (((P.filter fun p => decide ((p.1 - p.2) % n = (d : Int))).length : Int) + 1) = cntP n (P ++ [(x, y)]) := by
  refine List.ext_getElem? fun i => ?_
  by_cases hi : i < n.toNat
  · rw [cntP_get hi]
    by_cases e : i = d
    · subst e
      rw [List.getElem?_set_self (by rw [cntP_len]; exact hi), List.filter_append]
      simp [hd]
    · rw [List.getElem?_set_ne (by omega), cntP_get hi, List.filter_append]
      have : ¬ (d : Int) = (i : Int) := by omega
      simp [hd, this]
  · rw [List.getElem?_eq_none (by rw [List.length_set, cntP_len]; omega), List.getElem?_eq_none (by rw [cntP_len]; omega)]
def prod (xs ys : List Int) : List (Int × Int) := xs.flatMap fun x => ys.map fun y => (x, y)
theorem prod_take {xs ys : List Int} {i : Nat} {x : Int} (h : xs[i]? = some x) : prod (xs.take (i + 1)) ys = prod (xs.take i) ys ++ ys.map fun y => (x, y) := by
  unfold prod
  rw [List.take_succ, h, List.flatMap_append]
  simp

/-! ### ascending lists of hours as members of a lot -/
theorem asc_unique : ∀ {xs ys : List Int}, xs.Pairwise (· < ·) → ys.Pairwise (· < ·) → (∀ z, z ∈ xs ↔ z ∈ ys) → xs = ys
  | [], [], _, _, _ => rfl
  | [], y :: ys, _, _, h => by have := (h y).mpr List.mem_cons_self; cases this
  | x :: xs, [], _, _, h => by have := (h x).mp List.mem_cons_self; cases this
  | x :: xs, y :: ys, hx, hy, h => by
    have hx' := List.pairwise_cons.mp hx
    have hy' := List.pairwise_cons.mp hy
    have e : x = y := by
      have a : y ≤ x := by
        rcases List.mem_cons.mp ((h x).mp List.mem_cons_self) with z | z
        · omega
        · have := hy'.1 x z; omega
      have b : x ≤ y := by
        rcases List.mem_cons.mp ((h y).mpr List.mem_cons_self) with z | z
        · omega
        · have := hx'.1 y z; omega
      omega
    subst e
    rw [asc_unique hx'.2 hy'.2 fun z => ?_]
    constructor
    · intro hz
      rcases List.mem_cons.mp ((h z).mp (List.mem_cons_of_mem _ hz)) with q | q
      · have := hx'.1 z hz; omega
      · exact q
    · intro hz
      rcases List.mem_cons.mp ((h z).mpr (List.mem_cons_of_mem _ hz)) with q | q
      · have := hy'.1 z hz; omega
      · exact q
theorem asc_mod {n : Int} {xs : List Int} (h : Asc 0 n xs) : (xs.map fun x => x % n) = xs := by
  have e : ∀ x ∈ xs, (fun x => x % n) x = id x := fun x hx => Int.emod_eq_of_lt (h.2 x hx).1 (h.2 x hx).2
  rw [List.map_congr_left e, List.map_id]
theorem asc_resid {n : Int} {xs : List Int} (hn : 0 ≤ n) (h : Asc 0 n xs) : resid n (xs.map fun x => x % n) = xs := by
  rw [asc_mod h]
  unfold resid
  refine asc_unique (asc_range n.toNat).1 h.1 fun z => ?_
  unfold pick
  constructor
  · intro hz
    obtain ⟨i, hi, rfl⟩ := List.mem_map.mp hz
    exact of_decide_eq_true (List.mem_filter.mp hi).2
  · intro hz
    have b := h.2 z hz
    refine List.mem_map.mpr ⟨z.toNat, List.mem_filter.mpr ⟨List.mem_range.mpr (by omega), decide_eq_true ?_⟩, by omega⟩
    rw [show ((z.toNat : Nat) : Int) = z by omega]
    exact hz
theorem asc_scan {n : Int} : ∀ {xs : List Int} (seen : List Int), Asc 0 n xs → (∀ x ∈ xs, x ∉ seen) → scanR n seen xs = none
  | [], _, _, _ => rfl
  | x :: xs, seen, h, hs => by
    have b := h.2 x List.mem_cons_self
    have e : x % n = x := Int.emod_eq_of_lt b.1 b.2
    have hp := List.pairwise_cons.mp h.1
    unfold scanR
    rw [e, if_neg (hs x List.mem_cons_self)]
    refine asc_scan _ ⟨hp.2, fun y hy => h.2 y (List.mem_cons_of_mem _ hy)⟩ fun y hy hm => ?_
    rcases List.mem_append.mp hm with q | q
    · exact hs y (List.mem_cons_of_mem _ hy) q
    · have := hp.1 y hy
      have := List.mem_singleton.mp q
      omega
/-! ### counts two ways -/
def cnt (n : Int) (xs ys : List Int) : List Int := (List.range n.toNat).map fun d : Nat => ((ys.filter fun y => decide ((y + (d : Int)) % n ∈ xs)).length : Int)
theorem mod_turn {n x y d : Int} (hn : 0 < n) (hx : 0 ≤ x ∧ x < n) (hd : 0 ≤ d ∧ d < n) : (x - y) % n = d ↔ (y + d) % n = x := by
  constructor
  · intro h
    have e := Int.emod_add_mul_ediv (x - y) n
    have e2 : y + d = x + n * (-((x - y) / n)) := by rw [Int.mul_neg]; omega
    rw [e2, Int.add_mul_emod_self_left]
    exact Int.emod_eq_of_lt hx.1 hx.2
  · intro h
    have e := Int.emod_add_mul_ediv (y + d) n
    have e2 : x - y = d + n * (-((y + d) / n)) := by rw [Int.mul_neg]; omega
    rw [e2, Int.add_mul_emod_self_left]
    exact Int.emod_eq_of_lt hd.1 hd.2
theorem prod_cons {x : Int} {xs ys : List Int} : prod (x :: xs) ys = (ys.map fun y => (x, y)) ++ prod xs ys := by
  unfold prod
  rw [List.flatMap_cons]
theorem filt_or {ys : List Int} {p q : Int → Bool} (h : ∀ y ∈ ys, ¬ (p y = true ∧ q y = true)) : (ys.filter fun y => p y || q y).length = (ys.filter p).length + (ys.filter q).length := by
  induction ys with
  | nil => rfl
  | cons y ys ih =>
    have := ih fun z hz => h z (List.mem_cons_of_mem _ hz)
    have hy := h y List.mem_cons_self
    simp only [List.filter_cons]
    cases hp : p y <;> cases hq : q y <;> simp [hp, hq] at hy ⊢ <;> omega
theorem pairs_cnt {n : Int} {ys : List Int} (hn : 0 < n) {d : Int} (hd : 0 ≤ d ∧ d < n) : ∀ {xs : List Int}, Asc 0 n xs →
    ((prod xs ys).filter fun p => decide ((p.1 - p.2) % n = d)).length = (ys.filter fun y => decide ((y + d) % n ∈ xs)).length
  | [], _ => by
    have e : (ys.filter fun y => decide ((y + d) % n ∈ ([] : List Int))) = [] := List.filter_eq_nil_iff.mpr fun y _ => by simp
    rw [e]
    rfl
  | x :: xs, h => by
    have hp := List.pairwise_cons.mp h.1
    have hx := h.2 x List.mem_cons_self
    have ih := pairs_cnt (ys := ys) hn hd (xs := xs) ⟨hp.2, fun y hy => h.2 y (List.mem_cons_of_mem _ hy)⟩
    rw [prod_cons, List.filter_append, List.length_append, ih, List.filter_map, List.length_map]
    have e1 : (ys.filter ((fun p : Int × Int => decide ((p.1 - p.2) % n = d)) ∘ fun y => (x, y))) = ys.filter fun y => decide ((y + d) % n = x) :=
      List.filter_congr fun y _ => decide_eq_decide.mpr (mod_turn hn hx hd)
    have e2 : (ys.filter fun y => decide ((y + d) % n ∈ x :: xs)) = ys.filter fun y => decide ((y + d) % n = x) || decide ((y + d) % n ∈ xs) :=
      List.filter_congr fun y _ => by rw [← Bool.decide_or]; exact decide_eq_decide.mpr List.mem_cons
    rw [e1, e2, filt_or]
    rintro y _ ⟨h1, h2⟩
    have h1 := of_decide_eq_true h1
    have h2 := of_decide_eq_true h2
    rw [h1] at h2
    have := hp.1 x h2
    omega
theorem cnt_eq {n : Int} {xs ys : List Int} (hn : 0 < n) (h : Asc 0 n xs) : cntP n (prod xs ys) = cnt n xs ys := by
  unfold cntP cnt
  refine List.map_congr_left fun d hd => ?_
  have := List.mem_range.mp hd
  rw [pairs_cnt hn (by omega) h]
theorem swap_cons {x : Int} {xs : List Int} {r : Int × Int → Bool} : ∀ ys : List Int, ((prod ys (x :: xs)).filter r).length = (ys.filter fun y => r (y, x)).length + ((prod ys xs).filter r).length
  | [] => rfl
  | y :: ys => by
    rw [prod_cons, prod_cons, List.filter_append, List.filter_append, List.length_append, List.length_append, swap_cons ys, List.map_cons, List.filter_cons, List.filter_cons]
    cases r (y, x) <;> simp <;> omega
theorem swap_cnt {ys : List Int} {p : Int × Int → Bool} : ∀ xs : List Int, ((prod xs ys).filter p).length = ((prod ys xs).filter fun q => p (q.2, q.1)).length
  | [] => by
    have e : prod ys [] = [] := by
      unfold prod
      simp
    rw [e]
    rfl
  | x :: xs => by
    rw [prod_cons, List.filter_append, List.length_append, swap_cnt xs, swap_cons, List.filter_map, List.length_map]
    rfl
theorem cnt_back {n : Int} {xs ys : List Int} (hn : 0 < n) (h : Asc 0 n xs) : ((List.range n.toNat).map fun d : Nat => (cnt n xs ys).getD ((0 - (d : Int)) % n).toNat 0) = cntP n (prod ys xs) := by
  rw [← cnt_eq hn h]
  unfold cntP
  refine List.map_congr_left fun d hd => ?_
  have hd' := List.mem_range.mp hd
  have m0 : 0 ≤ (0 - (d : Int)) % n := Int.emod_nonneg _ (by omega)
  have m1 : (0 - (d : Int)) % n < n := Int.emod_lt_of_pos _ hn
  rw [List.getD_eq_getElem?_getD, List.getElem?_map, List.getElem?_range (by omega), Option.map_some, Option.getD_some, swap_cnt]
  have e : (fun q : Int × Int => decide (((q.2, q.1).1 - (q.2, q.1).2) % n = ((((0 - (d : Int)) % n).toNat : Nat) : Int))) = fun q : Int × Int => decide ((q.1 - q.2) % n = (d : Int)) := by
    funext q
    refine decide_eq_decide.mpr ?_
    rw [show ((((0 - (d : Int)) % n).toNat : Nat) : Int) = (0 - (d : Int)) % n by omega]
    show (q.2 - q.1) % n = (0 - (d : Int)) % n ↔ (q.1 - q.2) % n = (d : Int)
    have hd2 : (d : Int) % n = (d : Int) := Int.emod_eq_of_lt (by omega) (by omega)
    constructor
    · intro z
      have := Int.emod_emod_of_dvd (0 - (q.2 - q.1)) (Int.dvd_refl n)
      have z2 : (0 - (q.2 - q.1)) % n = (0 - (0 - (d : Int))) % n := by rw [Int.sub_emod, z, ← Int.sub_emod]
      rw [show q.1 - q.2 = 0 - (q.2 - q.1) by omega, z2, show (0 : Int) - (0 - (d : Int)) = (d : Int) by omega, hd2]
    · intro z
      have z2 : (0 - (q.1 - q.2)) % n = (0 - (d : Int)) % n := by rw [Int.sub_emod, z, ← hd2, ← Int.sub_emod, hd2]
      rw [show q.2 - q.1 = 0 - (q.1 - q.2) by omega, z2]
  rw [e]
theorem inV_ints {i : Int} {xs : List Int} : inV (V.int i) (xs.map V.int) = decide (i ∈ xs) := by
  unfold inV
  induction xs with
  | nil => rfl
  | cons x xs ih =>
    rw [List.map_cons, List.any_cons, ih]
    by_cases h : x = i
    · subst h
      simp [eqV]
    · have h' : ¬ i = x := fun z => h z.symm
      simp [eqV, h, h']

/-! ### operators of own classes -/
section
variable {X : Cx} {CX : CXT} {pins : List (Addr × Obj)} {σ : L2.St} {H : Hp} {s : Shared} {f C : Addr} {fd : FuncData} {ps : List Str} {n : Nat} {sp : Sp}
theorem run_own {E : XK} {Q : VK} {us : List Value} {vs : List V} (F : FnOk X.prog X.w X.K X.mg X.base CX n f fd ps sp) (hr : Room n X.A) (hb : Binds X.K fd ps []) (hx : PassesAt CX X σ E)
    (I : Inv X pins σ H s) (r : Vals vs us) (h : sp vs H Q E) : wpAny (model X.prog X.w) X.A (call (.ref f) us) (PySem.W.CmpBack (EP X pins σ Q)) X.xe s := by
  have hl : us.length = ps.length := by rw [← r.length]; exact F.len _ _ _ _ h
  have b := hb s us I.kIn (by rw [List.append_nil]; exact hl)
  rw [List.append_nil] at b
  refine wpAny_call (codeAny_mono (F.run X.A X.stack s H ⟨us, []⟩ us vs Q E hr I.env0 b r h) fun r s' hq => ?_)
  cases r with
  | error e => exact hx pins H s e s' I hq
  | ok fl =>
    cases fl with
    | ret u =>
      obtain ⟨v, H', I', rv, q⟩ := I.after hq
      exact SlX.cmpback rv ⟨v, H', I', rv, q⟩
    | next => exact False.elim hq
    | brk => exact False.elim hq
    | cont => exact False.elim hq
end
/-- what an own operator asks: x an object of the class at C -/
def rOwn1 (C : Addr) (sp : Sp) (E : L2.St → XK) (σ : L2.St) : V → Hp → VK → Prop := fun x H Q => ∃ a dx fs, x = .ref a ∧ H a = some (.ins C dx fs) ∧ sp [x] H Q (E σ)
/-- .. y an object of the same class -/
def rOwn2 (C : Addr) (sp : Sp) (E : L2.St → XK) (σ : L2.St) : R2 := fun x y H Q => ∃ a dx fs b dy gs, x = .ref a ∧ H a = some (.ins C dx fs) ∧ y = .ref b ∧ H b = some (.ins C dy gs) ∧ sp [x, y] H Q (E σ)
/-- .. y an int -/
def rOwnI (C : Addr) (sp : Sp) (E : L2.St → XK) (σ : L2.St) : R2 := fun x y H Q => ∃ a dx fs i, x = .ref a ∧ H a = some (.ins C dx fs) ∧ y = .int i ∧ sp [x, y] H Q (E σ)
def OpS (X : Cx) (f : Value → Value → Sem Value) (r : L2.St → R2) : Prop :=
  ∀ (pins : List (Addr × Obj)) (s : Shared) (σ : L2.St) (H : Hp) (x y : V) (v u : Value) (Q : VK), Inv X pins σ H s → RelV x v → RelV y u → r σ x y H Q → wpAny (model X.prog X.w) X.A (f v u) (EP X pins σ Q) X.xe s
def UnS (X : Cx) (f : Value → Sem Value) (r : L2.St → V → Hp → VK → Prop) : Prop :=
  ∀ (pins : List (Addr × Obj)) (s : Shared) (σ : L2.St) (H : Hp) (x : V) (v : Value) (Q : VK), Inv X pins σ H s → RelV x v → r σ x H Q → wpAny (model X.prog X.w) X.A (f v) (EP X pins σ Q) X.xe s
def tOpS (r : L2.St → R2) (ta tb : TE) : TE := fun σ H Q => ta σ H fun x H1 => tb σ H1 fun y H2 => r σ x y H2 Q
def tUnS (r : L2.St → V → Hp → VK → Prop) (ta : TE) : TE := fun σ H Q => ta σ H fun x H1 => r σ x H1 Q
section
variable {X : Cx} {CX : CXT} {f C : Addr} {fd : FuncData} {ps : List Str} {n : Nat} {sp : Sp} {E : L2.St → XK} {op : Operator} {a b : Expr} {ta tb : TE} {pos : Pos}
theorem pe_opS {r : L2.St → R2} (ho : OpS X (binaryOp op) r) (ha : PE X a ta) (hb : PE X b tb) : PE X (.BinOp a op b pos) (tOpS r ta tb) := by
  refine ⟨fun pins s σ H Q I h => ?_⟩
  exact wpAny_BinOp (binT ha hb I h fun v u s2 x y H2 I2 rx ry q => ho pins s2 σ H2 x y v u Q I2 rx ry q)
theorem pe_unS {op : UnaryOp} {r : L2.St → V → Hp → VK → Prop} (ho : UnS X (unaryOp op) r) (ha : PE X a ta) : PE X (.UnaryOp op a pos) (tUnS r ta) := by
  refine ⟨fun pins s σ H Q I h => ?_⟩
  exact PyProof.Rows.UnaryOp_ (thn (ha.run pins s σ H _ I h) fun v s1 ⟨x, H1, I1, r1, q1⟩ => ho pins s1 σ H1 x v Q I1 r1 q1)
/-- the facts of a class with operators -/
structure Ops (K : PySem.W.Frag) (C : Addr) : Prop where
  first : PySem.W.selfFirst K C = true
  sub : PySem.W.subIn K (.type "int") (.ref C) = some false
theorem un_negO (m : Meth X.K C "__neg__" f) (F : FnOk X.prog X.w X.K X.mg X.base CX n f fd ps sp) (hr : Room n X.A) (hb : Binds X.K fd ps []) (hx : ∀ σ, PassesAt CX X σ (E σ)) : UnS X (unaryOp .USub) (rOwn1 C sp E) := by
  intro pins s σ H x v Q I rx h
  obtain ⟨a, dx, fs, rfl, ha, h⟩ := h
  cases rx
  obtain ⟨mA, J, _⟩ := ins_get I.hok ha
  obtain ⟨od, J, _⟩ := J.look
  obtain ⟨m', hF⟩ := I.fr
  refine PySem.W.ksp_neg hF I.ok.mod.kin J m.at_ m.fn (wpAny_mono (run_own (vs := [V.ref a]) F hr hb (hx σ) I (.cons rfl .nil) h) (fun v s' hv => ?_) fun _ _ e => e)
  cases v <;> first | exact hv.elim | exact hv
theorem un_invO (m : Meth X.K C "__invert__" f) (F : FnOk X.prog X.w X.K X.mg X.base CX n f fd ps sp) (hr : Room n X.A) (hb : Binds X.K fd ps []) (hx : ∀ σ, PassesAt CX X σ (E σ)) : UnS X (unaryOp .Invert) (rOwn1 C sp E) := by
  intro pins s σ H x v Q I rx h
  obtain ⟨a, dx, fs, rfl, ha, h⟩ := h
  cases rx
  obtain ⟨mA, J, _⟩ := ins_get I.hok ha
  obtain ⟨od, J, _⟩ := J.look
  obtain ⟨m', hF⟩ := I.fr
  refine PySem.W.ksp_inv hF I.ok.mod.kin J m.at_ m.fn (wpAny_mono (run_own (vs := [V.ref a]) F hr hb (hx σ) I (.cons rfl .nil) h) (fun v s' hv => ?_) fun _ _ e => e)
  cases v <;> first | exact hv.elim | exact hv
theorem op_own2 (o : Ops X.K C) (m : Meth X.K C (PySem.dunder op.info.2) f) (F : FnOk X.prog X.w X.K X.mg X.base CX n f fd ps sp) (hr : Room n X.A) (hb : Binds X.K fd ps []) (hx : ∀ σ, PassesAt CX X σ (E σ)) : OpS X (binaryOp op) (rOwn2 C sp E) := by
  intro pins s σ H x y v u Q I rx ry h
  obtain ⟨a, dx, fs, b, dy, gs, rfl, ha, rfl, hb', h⟩ := h
  cases rx
  cases ry
  obtain ⟨mA, J, _⟩ := ins_get I.hok ha
  obtain ⟨od, J, _⟩ := J.look
  obtain ⟨mB, J', _⟩ := ins_get I.hok hb'
  obtain ⟨od', J', _⟩ := J'.look
  obtain ⟨m', hF⟩ := I.fr
  exact PySem.W.binop_K hF I.ok.mod.kin J J'.type o.first m.at_ m.fn (run_own (vs := [V.ref a, V.ref b]) F hr hb (hx σ) I (.cons rfl (.cons rfl .nil)) h)
theorem op_ownI {rc : Option Value} {fo ro : Option Value} (o : Ops X.K C) (m : Meth X.K C (PySem.dunder op.info.2) f) (hrc : PySem.W.findIn X.K (.ref C) (dunderR op.info.2) = some rc) (hp : rc = none ∨ ∃ g : Addr, rc = some (.ref g))
    (h1 : PySem.W.findIn X.K (.type "int") (PySem.dunder op.info.2) = some fo) (h2 : PySem.W.findIn X.K (.type "int") (dunderR op.info.2) = some ro)
    (F : FnOk X.prog X.w X.K X.mg X.base CX n f fd ps sp) (hr : Room n X.A) (hb : Binds X.K fd ps []) (hx : ∀ σ, PassesAt CX X σ (E σ)) : OpS X (binaryOp op) (rOwnI C sp E) := by
  intro pins s σ H x y v u Q I rx ry h
  obtain ⟨a, dx, fs, i, rfl, ha, rfl, h⟩ := h
  cases rx
  obtain ⟨t, rfl⟩ := (show ∃ t, u = Value.int i t from ry)
  obtain ⟨mA, J, _⟩ := ins_get I.hok ha
  obtain ⟨od, J, _⟩ := J.look
  obtain ⟨m', hF⟩ := I.fr
  exact PySem.W.ksp_binT hF I.ok.mod.kin J rfl o.first m.at_ m.fn hrc hp h1 h2 o.sub (run_own (vs := [V.ref a, V.int i]) F hr hb (hx σ) I (.cons rfl (.cons ⟨t, rfl⟩ .nil)) h)
end
section
variable {X : Cx} {CX : CXT} {pins : List (Addr × Obj)} {σ : L2.St} {H : Hp} {s : Shared} {f C : Addr} {fd : FuncData} {ps : List Str} {n : Nat} {sp : Sp}
/-- .. called from a place A below the running body -/
theorem run_ownA {A : Around} {E : XK} {Q : VK} {us : List Value} {vs : List V} (F : FnOk X.prog X.w X.K X.mg X.base CX n f fd ps sp) (hr : Room n A) (hf : A.frames = X.A.frames) (hb : Binds X.K fd ps []) (hx : PassesAt CX X σ E)
    (I : Inv X pins σ H s) (r : Vals vs us) (h : sp vs H Q E) : wpAny (model X.prog X.w) A (call (.ref f) us) (EP X pins σ Q) X.xe s := by
  have hl : us.length = ps.length := by rw [← r.length]; exact F.len _ _ _ _ h
  have b := hb s us I.kIn (by rw [List.append_nil]; exact hl)
  rw [List.append_nil] at b
  have e0 : Env0 X.prog X.w X.K X.mg X.base A X.stack s H := by
    have e := I.env0
    exact ⟨by rw [hf]; exact e.frames, e.mod, e.bs, e.bsz, e.funs, e.frf, e.hok, e.bare⟩
  refine wpAny_call (codeAny_mono (F.run A X.stack s H ⟨us, []⟩ us vs Q E hr e0 b r h) fun r s' hq => ?_)
  cases r with
  | error e => exact hx pins H s e s' I hq
  | ok fl =>
    cases fl with
    | ret u => exact I.after hq
    | next => exact False.elim hq
    | brk => exact False.elim hq
    | cont => exact False.elim hq
theorem ty_looks {x : V} {u t : Value} (I : Inv X pins σ H s) (rx : RelV x u) (ty : TyX X.K H x t) : PySem.W.Looks (model X.prog X.w) s.heap (typeOf u) t := by
  obtain ⟨P, kx, hp, _⟩ := kit_of I rx ty
  exact kx.ty _ _ I.kIn hp
end
/-- x an object of the class at C, y of any known type -/
def rOwnC (K : PySem.W.Frag) (C : Addr) (sp : Sp) (E : L2.St → XK) (σ : L2.St) : R2 := fun x y H Q => ∃ a dx fs tb, x = .ref a ∧ H a = some (.ins C dx fs) ∧ TyX K H y tb ∧ PySem.W.notFirst K C tb = true ∧ sp [x, y] H Q (E σ)
/-- not ==: the other answer -/
def rOwnN (K : PySem.W.Frag) (C : Addr) (sp : Sp) (E : L2.St → XK) (σ : L2.St) : R2 := fun x y H Q => ∃ a dx fs tb, x = .ref a ∧ H a = some (.ins C dx fs) ∧ TyX K H y tb ∧ PySem.W.notFirst K C tb = true ∧ sp [x, y] H (fun v H' => ∃ b, v = .bl b ∧ Q (.bl (!b)) H') (E σ)
/-- y in x, x an object of the class at C -/
def rOwnIn (C : Addr) (sp : Sp) (E : L2.St → XK) (σ : L2.St) : R2 := fun y x H Q => ∃ a dx fs, x = .ref a ∧ H a = some (.ins C dx fs) ∧ sp [x, y] H (fun v H' => ∃ b, v = .bl b ∧ Q (.bl b) H') (E σ)
section
variable {X : Cx} {CX : CXT} {f C : Addr} {fd : FuncData} {ps : List Str} {n : Nat} {sp : Sp} {E : L2.St → XK} {a b : Expr} {ta tb : TE} {pos : Pos}
theorem pe_cmpS {op : CmpOp} {r : L2.St → R2} (ho : OpS X (compareOp op) r) (ha : PE X a ta) (hb : PE X b tb) (hm : behindInMarks op b = false) : PE X (.Compare a [op] [b] pos) (tOpS r ta tb) := by
  refine ⟨fun pins s σ H Q I h => ?_⟩
  exact wpAny_Compare1 (binT ha hb I h fun v u s2 x y H2 I2 rx ry q => ho pins s2 σ H2 x y v u Q I2 rx ry q) hm
theorem pt_cmpS {op : CmpOp} {r : L2.St → R2} (ho : OpS X (compareOp op) r) (ha : PE X a ta) (hb : PE X b tb) (hm : behindInMarks op b = false) : PT X (.Compare a [op] [b] pos) (tTest (tOpS r ta tb)) := by
  refine ⟨fun pins s σ H Q I h => ?_⟩
  refine wpAny_isTrue_Compare1 (thn (ha.run pins s σ H _ I h) fun v s1 ⟨x, H1, I1, r1, q1⟩ => thn (hb.run pins s1 σ H1 _ I1 q1) fun u s2 ⟨y, H2, I2, r2, q2⟩ =>
    thn (ho pins s2 σ H2 x y v u _ I2 r1 r2 q2) fun c s3 ⟨z, H3, I3, r3, k, e, q3⟩ => ?_) hm
  subst e
  cases r3
  exact wpAny_truthy_bool ⟨H3, I3, q3⟩
theorem op_ownC {K : PySem.W.Frag} {op : CmpOp} (hop : ∀ v u, compareOp op v u = richCompare op v u) (m : Meth X.K C (cmpInfo op).2.1 f) (F : FnOk X.prog X.w X.K X.mg X.base CX n f fd ps sp) (hr : Room n X.A) (hb : Binds X.K fd ps []) (hx : ∀ σ, PassesAt CX X σ (E σ))
    (hk : X.K = K := by rfl) : OpS X (compareOp op) (rOwnC K C sp E) := by
  subst hk
  intro pins s σ H x y v u Q I rx ry h
  obtain ⟨a, dx, fs, tb, rfl, ha, ty, nf, h⟩ := h
  cases rx
  obtain ⟨mA, J, _⟩ := ins_get I.hok ha
  obtain ⟨od, J, _⟩ := J.look
  obtain ⟨m', hF⟩ := I.fr
  rw [hop]
  exact PySem.W.cmp_K hr.units0 hF I.ok.mod.kin J (ty_looks I ry ty) nf m.at_ m.fn (run_own (vs := [V.ref a, y]) F hr hb (hx σ) I (.cons rfl (.cons ry .nil)) h)
/-- len of an object with an own __len__ -/
def rOwnLen (C : Addr) (sp : Sp) (E : XK) : List V → Hp → VK → Prop := fun xs H Q => ∃ a dx fs, xs = [.ref a] ∧ H a = some (.ins C dx fs) ∧ sp [.ref a] H (fun v H' => ∃ i : Int, v = .int i ∧ (0 ≤ i ∧ i < 2 ^ 63) ∧ Q (.int i) H') E
theorem call_lenO {E : XK} (m : Meth X.K C "__len__" f) (F : FnOk X.prog X.w X.K X.mg X.base CX n f fd ps sp) (hr : Room (n + 1) X.A) (hb : Binds X.K fd ps []) (hx : ∀ σ, PassesAt CX X σ E) : CallR X (.builtin "len") (rOwnLen C sp E) := by
  intro pins s σ H xs us Q I r h
  obtain ⟨a, dx, fs, rfl, ha, h⟩ := h
  obtain ⟨u, rfl, rx⟩ := vals1 r
  cases rx
  obtain ⟨mA, J, _⟩ := ins_get I.hok ha
  obtain ⟨od, J, _⟩ := J.look
  obtain ⟨m', hF⟩ := I.fr
  refine PySem.W.len_K hF I.ok.mod.kin J m.at_ m.fn (wpAny_mono (run_ownA (vs := [V.ref a]) F hr.in1 rfl hb (hx σ) I (.cons rfl .nil) h) (fun v s' hv => ?_) fun _ _ e => e)
  obtain ⟨z, H', I', rv, i, rfl, hi, q⟩ := hv
  obtain ⟨t, rfl⟩ := (show ∃ t, v = Value.int i t from rv)
  exact ⟨hi, ⟨.int i, H', I'.tok _, ⟨_, rfl⟩, q⟩⟩
theorem op_ownIn (m : Meth X.K C "__contains__" f) (F : FnOk X.prog X.w X.K X.mg X.base CX n f fd ps sp) (hr : Room n X.A) (hb : Binds X.K fd ps []) (hx : ∀ σ, PassesAt CX X σ (E σ)) : OpS X (compareOp .In) (rOwnIn C sp E) := by
  intro pins s σ H y x u v Q I ry rx h
  obtain ⟨a, dx, fs, rfl, ha, h⟩ := h
  cases rx
  obtain ⟨mA, J, _⟩ := ins_get I.hok ha
  obtain ⟨od, J, _⟩ := J.look
  have hX := I.kIn
  have one := run_own (vs := [V.ref a, y]) F hr hb (hx σ) I (.cons rfl (.cons ry .nil)) h
  show wpAny _ _ (do return Value.bool (← contains (.ref a) u)) _ X.xe s
  refine wpAny_bind ?_
  unfold contains
  refine wpAny_holding ?_
  refine wpAny_bind (wpAny_bind (J.type.here ((PySem.W.looks_findIn hX m.at_).here ?_)))
  show wpAny _ _ (if (some (Value.ref f) == some Value.none) = true then _ else _) _ X.xe s
  rw [if_neg (by simp)]
  unfold callSpecialUnlessNone?
  refine wpAny_bind (wpAny_bind (wpAny_bind (J.type.here ((PySem.W.looks_findIn hX m.at_).here ?_))))
  refine wpAny_holding (wpAny_bind ((PySem.W.bind_fn hX _ (beq_iff_eq.mp m.fn)).here ?_))
  show wpAny _ _ (if (Value.ref f == Value.none) = true then _ else _) _ X.xe s
  rw [if_neg (by simp)]
  refine wpAny_bind (wpAny_mono one (fun z s' hz => ?_) fun _ _ e => e)
  have hz' : (EP X pins σ fun v H' => ∃ b, v = .bl b ∧ Q (.bl b) H') z s' := by
    cases z <;> first | exact hz.elim | exact hz
  obtain ⟨v, H', I', rv, b, rfl, q⟩ := hz'
  cases (show z = Value.bool b from rv)
  refine wpAny_pure ?_
  exact wpAny_truthy_bool (wpAny_pure ⟨.bl b, H', I', rfl, q⟩)
end
/-! ### x op= y for classes without the in-place method -/
section
variable {prog : Program} {w : World} {A : Around} {R : Value → Shared → Prop} {s : Shared} {K : PySem.W.Frag} {x C f : Addr} {ox : Obj} {od : Option Obj} {y : Value} {nm : String}
/-- the first class of a class at C is the class itself -/
theorem mro_first (hc : PySem.W.selfFirst K C = true) : ∃ (d : ClassData) (r : List Value), PySem.W.clsIn K C = some d ∧ d.mro = .ref C :: r := by
  obtain ⟨d, hd, e⟩ := PySem.W.any_some hc
  cases q : d.mro with
  | nil => rw [q] at e; cases e
  | cons u r =>
    rw [q] at e
    cases (beq_iff_eq.mp e)
    exact ⟨d, r, hd, q⟩
theorem bin1_own {Q : Option Value → Shared → Prop} (X : K.In s.heap) (I : PySem.W.InstAt s.heap x ox C od) (hy : PySem.W.Looks (model prog w) s.heap (typeOf y) (.ref C)) (hc : PySem.W.selfFirst K C = true)
    (hs : PySem.W.findIn K (.ref C) (PySem.dunder nm) = some (some (.ref f))) (hf : PySem.W.isFn K (.ref f) = true) (h : wpAny (model prog w) A (call (.ref f) [.ref x, y]) (PySem.W.CmpBack fun v => Q (some v)) R s) :
    wpAny (model prog w) A (binaryOp1 nm (.ref x) y) Q R s := by
  obtain ⟨d, r, hd, hm⟩ := mro_first hc
  have fl := PySem.W.fills_K (M := model prog w) X hd hm hs
  unfold binaryOp1
  refine wpAny_bind (I.type.here ?_)
  refine wpAny_bind (hy.here ?_)
  refine wpAny_bind (fl.here ?_)
  simp only [beq_self_eq_true, if_true]
  refine wpAny_bind (wpAny_pure ?_)
  simp only [Bool.and_false, Bool.false_and, Bool.false_eq_true, if_false]
  refine wpAny_bind (wpAny_pure ?_)
  simp only [Bool.false_eq_true, if_false]
  refine wpAny_bind (m := tryMethod (.ref x) _ y) ?_
  unfold tryMethod
  refine wpAny_bind ?_
  refine PySem.W.special_fn X I hs (beq_iff_eq.mp hf) (wpAny_mono h (fun v t hv => ?_) fun _ _ z => z)
  cases v <;> first | exact hv.elim | exact wpAny_pure (wpAny_pure hv)
theorem no_inplace {M : Model} {h : Heap} {add : Bool} (X : K.In h) {d : ClassData} (hd : PySem.W.clsIn K C = some d) (hm : d.mro = [.ref C, .type "object"]) (hc : PySem.W.findIn K (.ref C) (dunderI nm) = some none)
    (ho : PySem.W.findIn K (.type "object") (dunderI nm) = some none) : PySem.W.Looks M h (fillsInplaceSlot (.ref C) nm add) false := by
  intro A Q E s k q
  have Lm : PySem.W.Looks M h (mroOf (.ref C)) d.mro := (PySem.W.looks_clsIn X hd).andThen (f := fun d => pure d.mro) .now
  have X' : K.In s.heap := X.keeps k
  have L1 : PySem.W.Looks M s.heap (typeLookup (.ref C) (dunderI nm)) none := PySem.W.looks_findIn X' hc
  have L2 : PySem.W.Looks M s.heap (typeLookup (.type "object") (dunderI nm)) none := PySem.W.looks_findIn X' ho
  unfold fillsInplaceSlot
  refine wpAny_bind ((Lm.keeps k).here ?_)
  rw [hm, List.anyM_cons]
  refine wpAny_bind (wpAny_bind (L1.here (wpAny_pure ?_)))
  simp only [Bool.false_eq_true, if_false]
  rw [List.anyM_cons]
  refine wpAny_bind (wpAny_bind (L2.here (wpAny_pure ?_)))
  simp only [Bool.false_eq_true, if_false]
  exact wpAny_pure q
theorem inplace_by {op : Operator} {Q : Value → Shared → Prop} (I : PySem.W.InstAt s.heap x ox C od) (L : PySem.W.Looks (model prog w) s.heap (fillsInplaceSlot (.ref C) op.info.2 (op == .Add)) false)
    (h : wpAny (model prog w) A (binaryOp1 op.info.2 (.ref x) y) (fun r t => ∃ v, r = some v ∧ Q v t) R s) : wpAny (model prog w) A (inplaceOp op (.ref x) y) Q R s := by
  unfold inplaceOp
  refine wpAny_holding ?_
  refine wpAny_bind (I.type.here ?_)
  refine wpAny_bind (L.here ?_)
  simp only [Bool.false_eq_true, if_false]
  refine wpAny_bind (wpAny_mono h (fun r t hr => ?_) fun _ _ z => z)
  obtain ⟨v, rfl, q⟩ := hr
  exact wpAny_pure q
theorem bin1_int {i : Int} {t : Tok} {Q : Option Value → Shared → Prop} {rc fo ro : Option Value} (X : K.In s.heap) (I : PySem.W.InstAt s.heap x ox C od) (hc : PySem.W.selfFirst K C = true)
    (hs : PySem.W.findIn K (.ref C) (PySem.dunder nm) = some (some (.ref f))) (hf : PySem.W.isFn K (.ref f) = true) (hr : PySem.W.findIn K (.ref C) (dunderR nm) = some rc) (hp : rc = none ∨ ∃ g : Addr, rc = some (.ref g))
    (h1 : PySem.W.findIn K (.type "int") (PySem.dunder nm) = some fo) (h2 : PySem.W.findIn K (.type "int") (dunderR nm) = some ro) (hsub : PySem.W.subIn K (.type "int") (.ref C) = some false)
    (h : wpAny (model prog w) A (call (.ref f) [.ref x, .int i t]) (PySem.W.CmpBack fun v => Q (some v)) R s) : wpAny (model prog w) A (binaryOp1 nm (.ref x) (.int i t)) Q R s := by
  obtain ⟨d, r, hd, hm⟩ := mro_first hc
  have la : PySem.W.Looks (model prog w) s.heap (fillsNumberSlot (.ref C) nm) true := PySem.W.fills_K X hd hm hs
  have lb : PySem.W.Looks (model prog w) s.heap (fillsNumberSlot (.type "int") nm) ((fo.isSome && !isSeqSlot fo) || (ro.isSome && !isSeqSlot ro)) := PySem.W.ksp_fillsT X h1 h2
  have ls : PySem.W.Looks (model prog w) s.heap (isSubtype (.type "int") (.ref C)) false := PySem.W.looks_subIn X hsub
  have lp : PySem.W.Looks (model prog w) s.heap (numberSlotInPython (.ref C) nm) true := PySem.W.ksp_inPy X hs hr hp
  have lq : PySem.W.Looks (model prog w) s.heap (numberSlotInPython (.type "int") nm) false := PySem.W.Looks.of_pure rfl
  have lt : PySem.W.Looks (model prog w) s.heap (typeLookup (.type "int") (dunderR nm)) ro := PySem.W.looks_findIn X h2
  have ly : PySem.W.Looks (model prog w) s.heap (typeOf (.int i t)) (.type "int") := PySem.W.Looks.of_pure rfl
  generalize ((fo.isSome && !isSeqSlot fo) || (ro.isSome && !isSeqSlot ro)) = right at lb
  have ne : (Value.ref C == Value.type "int") = false := by simp
  have one : wpAny (model prog w) A (tryMethod (.ref x) (PySem.dunder nm) (.int i t)) (fun r s' => ∃ v, r = some v ∧ Q (some v) s') R s := by
    unfold tryMethod
    refine wpAny_bind (PySem.W.special_fn X I hs (beq_iff_eq.mp hf) (wpAny_mono h (fun v s' hv => ?_) fun _ _ z => z))
    cases v <;> first | exact hv.elim | exact wpAny_pure ⟨_, rfl, hv⟩
  unfold binaryOp1
  refine wpAny_bind (I.type.here ?_)
  refine wpAny_bind (ly.here ?_)
  refine wpAny_bind (la.here ?_)
  simp only [ne, Bool.false_eq_true, if_false]
  refine wpAny_bind (lb.here ?_)
  cases right with
  | false =>
    simp only [Bool.and_false, Bool.false_and, Bool.false_eq_true, if_false, if_true]
    refine wpAny_bind (wpAny_pure ?_)
    simp only [Bool.false_eq_true, if_false]
    refine wpAny_bind (wpAny_mono one (fun r s' hr' => ?_) fun _ _ z => z)
    obtain ⟨v, rfl, q⟩ := hr'
    exact wpAny_pure q
  | true =>
    simp only [Bool.and_true, Bool.not_false, if_true]
    refine wpAny_bind (ls.here ?_)
    simp only [Bool.false_eq_true, if_false]
    refine wpAny_bind (lp.here ?_)
    simp only [if_true]
    refine wpAny_bind (lq.here ?_)
    simp only [Bool.not_false, if_true]
    refine wpAny_bind (lt.here ?_)
    refine wpAny_bind (wpAny_mono one (fun r s' hr' => ?_) fun _ _ z => z)
    obtain ⟨v, rfl, q⟩ := hr'
    exact wpAny_pure q
end
/-- what a class without in-place methods has -/
structure NoIn (K : PySem.W.Frag) (C : Addr) (d : ClassData) : Prop where
  at_ : PySem.W.clsIn K C = some d
  mro : d.mro = [.ref C, .type "object"]
section
variable {X : Cx} {CX : CXT} {f C : Addr} {fd : FuncData} {ps : List Str} {n : Nat} {sp : Sp} {E : XK} {op : Operator} {d : ClassData}
theorem ip_own2 (o : Ops X.K C) (ni : NoIn X.K C d) (m : Meth X.K C (PySem.dunder op.info.2) f) (h1 : PySem.W.findIn X.K (.ref C) (dunderI op.info.2) = some none) (h2 : PySem.W.findIn X.K (.type "object") (dunderI op.info.2) = some none)
    (F : FnOk X.prog X.w X.K X.mg X.base CX n f fd ps sp) (hr : Room n X.A) (hb : Binds X.K fd ps []) (hx : ∀ σ, PassesAt CX X σ E) : OpR X (inplaceOp op) (rOwn2 C sp (fun _ => E) []) := by
  intro pins s σ H x y v u Q I rx ry h
  obtain ⟨a, dx, fs, b, dy, gs, rfl, ha, rfl, hb', h⟩ := h
  cases rx
  cases ry
  obtain ⟨mA, J, _⟩ := ins_get I.hok ha
  obtain ⟨od, J, _⟩ := J.look
  obtain ⟨mB, J', _⟩ := ins_get I.hok hb'
  obtain ⟨od', J', _⟩ := J'.look
  refine inplace_by J (no_inplace I.kIn ni.at_ ni.mro h1 h2) (bin1_own I.kIn J J'.type o.first m.at_ m.fn (wpAny_mono (run_own (vs := [V.ref a, V.ref b]) F hr hb (hx σ) I (.cons rfl (.cons rfl .nil)) h) (fun v s' hv => ?_) fun _ _ e => e))
  cases v <;> first | exact hv.elim | exact ⟨_, rfl, hv⟩
theorem ip_ownI {rc fo ro : Option Value} (o : Ops X.K C) (ni : NoIn X.K C d) (m : Meth X.K C (PySem.dunder op.info.2) f) (hi1 : PySem.W.findIn X.K (.ref C) (dunderI op.info.2) = some none) (hi2 : PySem.W.findIn X.K (.type "object") (dunderI op.info.2) = some none)
    (hrc : PySem.W.findIn X.K (.ref C) (dunderR op.info.2) = some rc) (hp : rc = none ∨ ∃ g : Addr, rc = some (.ref g)) (h1 : PySem.W.findIn X.K (.type "int") (PySem.dunder op.info.2) = some fo) (h2 : PySem.W.findIn X.K (.type "int") (dunderR op.info.2) = some ro)
    (F : FnOk X.prog X.w X.K X.mg X.base CX n f fd ps sp) (hr : Room n X.A) (hb : Binds X.K fd ps []) (hx : ∀ σ, PassesAt CX X σ E) : OpR X (inplaceOp op) (rOwnI C sp (fun _ => E) []) := by
  intro pins s σ H x y v u Q I rx ry h
  obtain ⟨a, dx, fs, i, rfl, ha, rfl, h⟩ := h
  cases rx
  obtain ⟨t, rfl⟩ := (show ∃ t, u = Value.int i t from ry)
  obtain ⟨mA, J, _⟩ := ins_get I.hok ha
  obtain ⟨od, J, _⟩ := J.look
  refine inplace_by J (no_inplace I.kIn ni.at_ ni.mro hi1 hi2) (bin1_int I.kIn J o.first m.at_ m.fn hrc hp h1 h2 o.sub (wpAny_mono (run_own (vs := [V.ref a, V.int i]) F hr hb (hx σ) I (.cons rfl (.cons ⟨t, rfl⟩ .nil)) h) (fun v s' hv => ?_) fun _ _ e => e))
  cases v <;> first | exact hv.elim | exact ⟨_, rfl, hv⟩
end
theorem pAt {X : Cx} {CX : CXT} {E : XK} (h : Passes CX X E) : ∀ σ : L2.St, PassesAt CX X σ E := fun σ pins H s e s' I c => h pins σ H s e s' I c
/-- what a binary operator with an int on the right asks of the class at C -/
structure IntOp (K : PySem.W.Frag) (C : Addr) (nm : String) : Prop where
  rc : ∃ rc, PySem.W.findIn K (.ref C) (dunderR nm) = some rc ∧ (rc = none ∨ ∃ g : Addr, rc = some (.ref g))
  lo : ∃ fo, PySem.W.findIn K (.type "int") (PySem.dunder nm) = some fo
  ro : ∃ ro, PySem.W.findIn K (.type "int") (dunderR nm) = some ro
section
variable {X : Cx} {CX : CXT} {f C : Addr} {fd : FuncData} {ps : List Str} {n : Nat} {sp : Sp} {op : Operator}
theorem op_ownJ {E : L2.St → XK} (o : Ops X.K C) (m : Meth X.K C (PySem.dunder op.info.2) f) (j : IntOp X.K C op.info.2) (F : FnOk X.prog X.w X.K X.mg X.base CX n f fd ps sp) (hr : Room n X.A) (hb : Binds X.K fd ps []) (hx : ∀ σ, PassesAt CX X σ (E σ)) :
    OpS X (binaryOp op) (rOwnI C sp E) := by
  obtain ⟨⟨rc, h1, h2⟩, ⟨fo, h3⟩, ⟨ro, h4⟩⟩ := j
  exact op_ownI o m h1 h2 h3 h4 F hr hb hx
theorem ip_ownK {E : XK} (o : Ops X.K C) (ni : ∃ d, NoIn X.K C d) (m : Meth X.K C (PySem.dunder op.info.2) f) (h : PySem.W.findIn X.K (.ref C) (dunderI op.info.2) = some none ∧ PySem.W.findIn X.K (.type "object") (dunderI op.info.2) = some none)
    (F : FnOk X.prog X.w X.K X.mg X.base CX n f fd ps sp) (hr : Room n X.A) (hb : Binds X.K fd ps []) (hx : ∀ σ, PassesAt CX X σ E) : OpR X (inplaceOp op) (rOwn2 C sp (fun _ => E) []) := by
  obtain ⟨d, ni⟩ := ni
  exact ip_own2 o ni m h.1 h.2 F hr hb hx
theorem ip_ownJ {E : XK} (o : Ops X.K C) (ni : ∃ d, NoIn X.K C d) (m : Meth X.K C (PySem.dunder op.info.2) f) (j : IntOp X.K C op.info.2) (h : PySem.W.findIn X.K (.ref C) (dunderI op.info.2) = some none ∧ PySem.W.findIn X.K (.type "object") (dunderI op.info.2) = some none)
    (F : FnOk X.prog X.w X.K X.mg X.base CX n f fd ps sp) (hr : Room n X.A) (hb : Binds X.K fd ps []) (hx : ∀ σ, PassesAt CX X σ E) : OpR X (inplaceOp op) (rOwnI C sp (fun _ => E) []) := by
  obtain ⟨d, ni⟩ := ni
  obtain ⟨⟨rc, h1, h2⟩, ⟨fo, h3⟩, ⟨ro, h4⟩⟩ := j
  exact ip_ownI o ni m h.1 h.2 h1 h2 h3 h4 F hr hb hx
end

/-! ### try with several except clauses, each with a name or without -/
def endsA (D : Ends) : Option Nat → Ends
  | none => D
  | some i => { nx := fun σ H => D.nx (σ.set i none) H, rt := D.rt, bk := fun σ H => D.bk (σ.set i none) H, ct := fun σ H => D.ct (σ.set i none) H }
def putA (σ : L2.St) (a : Addr) : Option Nat → L2.St
  | none => σ
  | some i => σ.set i (some (.ref a))
abbrev Clause := Value × Option Nat × (Addr → Value → Option Addr → TS)
/-- what the clauses wish of what the body raises, one behind another -/
def wMas (K : PySem.W.Frag) (Wo : WX) (D : Ends) : List Clause → WX
  | [] => Wo
  | q :: r => fun cls d σ H => ∃ b, PySem.W.exmOne K cls q.1 = some b ∧ (b = true → ∀ a, H a = none → q.2.2 a cls d (endsA D q.2.1) (putA σ a q.2.1) H) ∧ (b = false → wMas K Wo D r cls d σ H)
inductive Clauses (X : Cx) : List ExceptHandler → List Clause → Prop
  | nil : Clauses X [] []
  | bare {x : Str} {c : Value} {ts : Addr → Value → Option Addr → TS} {s0 : Stmt} {sr : List Stmt} {p p' : Pos} {hs : List ExceptHandler} {l : List Clause} (hc : Names X x c)
      (hb : ∀ (a : Addr) (oe : Obj) (cls : Value) (d : Option Addr) (pn : List (Addr × Obj)), Zc cls d oe → (∃ vs, oe.data = .fields vs) → PSs (X.suite a ((a, oe) :: pn)) (s0 :: sr) (ts a cls d)) (r : Clauses X hs l) :
      Clauses X (.ExceptHandler (some (.Name x p)) none (s0 :: sr) p' :: hs) ((c, none, ts) :: l)
  | named {x n : Str} {i : Nat} {c : Value} {ts : Addr → Value → Option Addr → TS} {s0 : Stmt} {sr : List Stmt} {p p' : Pos} {hs : List ExceptHandler} {l : List Clause} (hi : X.N[i]? = some n) (hl : X.env.kindOf n = some .local) (hc : Names X x c)
      (hb : ∀ (a : Addr) (oe : Obj) (cls : Value) (d : Option Addr) (pn : List (Addr × Obj)), Zc cls d oe → (∃ vs, oe.data = .fields vs) → PSs (X.suite a ((a, oe) :: pn)) (s0 :: sr) (ts a cls d)) (r : Clauses X hs l) :
      Clauses X (.ExceptHandler (some (.Name x p)) (some n) (s0 :: sr) p' :: hs) ((c, some i, ts) :: l)
section
open PySem.Spec PyProof.Rows
variable {X : Cx} {body : List Stmt} {h0 : ExceptHandler} {hs : List ExceptHandler} {l : List Clause} {pos : Pos} {tb : WX → TS} {Wo : WX}
theorem ps_try_mas (hst : X.stack = X.env :: X.outer) (hfm : X.env.frame = some X.env.locals) (hND : X.N.Nodup) (tk : Takes X Wo)
    (hbody : ∀ (W : WX) (pn : List (Addr × Obj)) (xe : Value → Shared → Prop), Takes (X.tr pn xe) W → PassesOwn (model X.prog X.w) X.A X.env xe → PSs (X.tr pn xe) body (tb W))
    (hcl : Clauses X (h0 :: hs) l) : PS X (.Try body (h0 :: hs) [] [] pos) (fun D σ H => tb (wMas X.K Wo D l) D σ H) := by
  refine ⟨fun pins s σ H D I hq => ?_⟩
  have okX := I.ok
  have frX : X.A.frames = some (X.env :: X.outer) := by rw [okX.frames, hst]
  let fly : Value → Shared → Prop := fun e s1 => wpAny (model X.prog X.w) X.A (noteFrame e X.env) (fun _ s2 => wpAny (model X.prog X.w) X.A (setFlight e none) (fun _ s3 => wpAny (model X.prog X.w) X.A (handleBy e X.env (h0 :: hs)) (SP X pins D) X.xe s3) X.xe s2) X.xe s1
  refine wpAny_Try_except (wpAny_mono ((hbody (wMas X.K Wo D l) (X.pn ++ pins) fly (fun u t flown => ?_) PassesOwn.looking).run [] s σ H D (I.toTry _) hq) (fun f t done => ?_) fun e t z => z)
  · obtain ⟨a, B, sI, pins', σ1, G, cls, d, rfl, J0, nb, up, sky, na, os, ag, wish⟩ := flown
    have J : Inv X pins σ1 G sI := J0.ofTry okX
    show wpAny (model X.prog X.w) X.A (noteFrame (.ref a) X.env) _ _ _
    refine Sky.land Zc.steady frX hfm (show Sky B (X.env :: X.outer) a (Zc cls d) X.env.locals t.heap by rw [← hst]; exact sky) fun g fl upg => ?_
    have Jg : Inv X pins σ1 G { t with heap := g } := J.landed nb fl.1 (up.trans upg) os ag
    obtain ⟨ob, vb, at_b, zc_b, da_b⟩ := fl.there
    have apart : ∀ {g' : Heap} {o : Obj} {us : Array Value}, g'.FunFrames B (X.env :: X.outer) → g'.get? a = some o → o.data = .fields us → a ∉ frs (X.env :: X.outer) := fun {g' o us} ff ea da hm => by
      obtain ⟨_, o2, e2, nf⟩ := ff.mem hm
      rw [ea] at e2
      cases e2
      exact nf _ da
    have out1 := apart fl.2.2.1 at_b da_b
    have out2 : a ≠ X.env.locals := fun z => out1 (List.mem_filterMap.mpr ⟨X.env, List.mem_cons_self, by rw [hfm, z]⟩)
    have out3 : a ∉ X.fs := fun hm => by
      obtain ⟨e, he, q⟩ := List.mem_filterMap.mp hm
      exact out1 (List.mem_filterMap.mpr ⟨e, List.mem_cons_of_mem _ he, q⟩)
    have Sb := Jg.suite at_b da_b na out2 out3
    have look : ∀ {x : Str} {c : Value} {p : Pos} {R : Value → Shared → Prop} {R' : Value → Shared → Prop}, Names X x c → R c { t with heap := g } → wpAny (model X.prog X.w) (X.A.mark (some (.ref a))) (eval (.Name x p) X.env) R R' { t with heap := g } := fun {x c p R R'} hc q => by
      obtain ⟨hg, hdb, hm | ⟨hm, hv, hn⟩⟩ := hc
      · exact ld_glob (X := X.suite a ((a, ob) :: (X.pn ++ pins))) Sb hg hm q hdb
      · exact ld_blt (X := X.suite a ((a, ob) :: (X.pn ++ pins))) Sb hg hm hv q hn hdb
    have kind : PySem.W.Looks (model X.prog X.w) g (typeOf (.ref a)) cls := fun A Q E s k q => wpAny_typeOf_ref (k _ _ at_b) (by rw [zc_b.1]; exact q)
    have each : ∀ {hs' : List ExceptHandler} {l' : List Clause}, Clauses X hs' l' → wMas X.K Wo D l' cls d σ1 G → wpAny (model X.prog X.w) X.A (handleBy (.ref a) X.env hs') (SP X pins D) X.xe { t with heap := g } := by
      intro hs' l' hk
      induction hk with
      | nil =>
        intro wi
        refine wpAny_handleBy_nil ?_
        obtain ⟨_, _, _, oe, ue, TB, oT, te, g1, g2, g3, g4, g5⟩ := id fl
        unfold PySem.passOn
        refine wpAny_bind (wpAny_field g1 g3 g4 ?_)
        rw [if_neg (show ¬ ((Value.ref TB == Value.none) = true) from by simp)]
        have away : wpAny (model X.prog X.w) X.A (setFlight (.ref a) X.env.frame) (fun _ s4 => wpAny (model X.prog X.w) X.A (throw (.ref a) : Sem Flow) (SP X pins D) X.xe s4) X.xe { t with heap := g } := by
          rw [hfm]
          refine HandSPX.setFlight_upZ fl fun k hk up4 => wpAny_throw (tk _ _ ?_)
          exact ⟨a, B, sI, pins, σ1, G, cls, d, rfl, J, nb, (up.trans upg).trans up4, .inr (.inr (by rw [hst]; exact hk)), na, os, ag, wi⟩
        first
          | exact wpAny_bind (wpAny_pure (wpAny_bind away))
          | exact wpAny_bind away
      | @bare x c ts s0 sr p p' hs2 l2 hc hb r ih =>
        intro wi
        obtain ⟨b, hb1, yes, no⟩ := wi
        refine wpAny_handleBy_cons (codeAny_handlers_test ?_) (by intro q; cases q)
        refine look hc ((PySem.W.exm_one (M := model X.prog X.w) Jg.kIn kind hb1).here ?_)
        cases b with
        | false => exact ih (no rfl)
        | true =>
          refine codeAny_handlers_suite (HandSPX.lands_againZ fl fun k fl4 up4 => ?_)
          have J4 : Inv X pins σ1 G { t with heap := k } := J.landed nb fl4.1 ((up.trans upg).trans up4) os ag
          obtain ⟨o4, v4, e4, z4, d4⟩ := fl4.there
          refine wpAny_mono ((hb a o4 cls d (X.pn ++ pins) z4 ⟨_, d4⟩).run [] _ _ G _ (J4.suite e4 d4 na out2 out3) (yes rfl a na)) (fun f s6 r6 => ?_) (fun _ _ z => False.elim z)
          cases f with
          | ret u => obtain ⟨v6, σ6, H6, S6, rv, q6⟩ := r6; exact ⟨_, _, _, S6.unsuite okX, rv, q6⟩
          | next => obtain ⟨σ6, H6, S6, q6⟩ := r6; exact ⟨_, _, S6.unsuite okX, q6⟩
          | brk => obtain ⟨σ6, H6, S6, q6⟩ := r6; exact ⟨_, _, S6.unsuite okX, q6⟩
          | cont => obtain ⟨σ6, H6, S6, q6⟩ := r6; exact ⟨_, _, S6.unsuite okX, q6⟩
      | @named x n i c ts s0 sr p p' hs2 l2 hi hl hc hb r ih =>
        intro wi
        obtain ⟨b, hb1, yes, no⟩ := wi
        refine wpAny_handleBy_cons (codeAny_handlers_test ?_) (by intro q; cases q)
        refine look hc ((PySem.W.exm_one (M := model X.prog X.w) Jg.kIn kind hb1).here ?_)
        cases b with
        | false => exact ih (no rfl)
        | true =>
          refine codeAny_handlers_suite_as (HandSPX.lands_againZ fl fun k fl4 up4 => ?_)
          have J4 : Inv X pins σ1 G { t with heap := k } := J.landed nb fl4.1 ((up.trans upg).trans up4) os ag
          obtain ⟨o4, v4, e4, z4, d4⟩ := fl4.there
          refine store_ok (X := X.suite a ((a, o4) :: (X.pn ++ pins))) (v := .ref a) (J4.suite e4 d4 na out2 out3) hND hi (.inl hl) rfl (fun s5 S5 => ?_) (.inr hl)
          refine wpAny_mono ((hb a o4 cls d (X.pn ++ pins) z4 ⟨_, d4⟩).run [] s5 _ G _ S5 (yes rfl a na)) (fun f s6 r6 => ?_) (fun _ _ z => False.elim z)
          have leave : ∀ {σ6 : L2.St} {H6 : Hp} {R : Shared → Prop}, Inv (X.suite a ((a, o4) :: (X.pn ++ pins))) [] σ6 H6 s6 → (∀ s7, Inv X pins (σ6.set i none) H6 s7 → R s7) → wpAny (model X.prog X.w) X.A (do bindName X.env n .none; unbindBehindTheSuite X.env n p') (fun _ s7 => R s7) X.xe s6 :=
            fun {σ6 H6 R} S6 hr => gone_ok (S6.unsuite okX) hND hi hl hr
          cases f with
          | ret u => obtain ⟨v6, σ6, H6, S6, rv, q6⟩ := r6; exact leave S6 fun s7 J7 => ⟨_, _, _, J7, rv, q6⟩
          | next => obtain ⟨σ6, H6, S6, q6⟩ := r6; exact leave S6 fun s7 J7 => ⟨_, _, J7, q6⟩
          | brk => obtain ⟨σ6, H6, S6, q6⟩ := r6; exact leave S6 fun s7 J7 => ⟨_, _, J7, q6⟩
          | cont => obtain ⟨σ6, H6, S6, q6⟩ := r6; exact leave S6 fun s7 J7 => ⟨_, _, J7, q6⟩
    exact each hcl wish
  · cases f with
    | ret u => obtain ⟨v, σ', G', J', rv, q⟩ := done; exact ⟨v, σ', G', J'.ofTry okX, rv, q⟩
    | next => obtain ⟨σ', G', J', q⟩ := done; exact wpAny_execs_nil ⟨σ', G', J'.ofTry okX, q⟩
    | brk => obtain ⟨σ', G', J', q⟩ := done; exact ⟨σ', G', J'.ofTry okX, q⟩
    | cont => obtain ⟨σ', G', J', q⟩ := done; exact ⟨σ', G', J'.ofTry okX, q⟩
end

/-! ### an int on the left, an own object on the right -/
section
open PySem.Spec PyProof.Rows
variable {prog : Program} {w : World} {A : Around} {E : Value → Shared → Prop} {s : Shared} {K : PySem.W.Frag}
theorem no_int {i : Int} {t : Tok} {a C dx : Addr} {f : Int → Int → Sem Fin} {nm : String} {Q : Fin → Shared → Prop} (hg : s.heap.get? a = some (PySem.W.instObj C dx)) (q : Q (.done (.ret .notImplemented)) s) :
    wpAny (model prog w) A (Builtin.Int.intBinary nm f false ⟨[.int i t, .ref a], []⟩) Q E s := by
  unfold Builtin.Int.intBinary
  refine wpAny_bind (wpAny_pure (wpAny_bind (wpAny_pure (wpAny_bind ?_))))
  unfold asInt?
  exact wpAny_bind (wpAny_load hg (wpAny_pure (wpAny_bind (wpAny_rule (wpAny_pure q)))))
theorem call_no {i : Int} {t : Tok} {a C dx : Addr} {f : Int → Int → Sem Fin} {nm id : String} {name : Str} {Q : Value → Shared → Prop} (slot : Slot "int" name id) (entry : entryFor table id = some (Builtin.Int.intBinary nm f false))
    (ha : argsOk id ⟨[.int i t, .ref a], []⟩) (hg : s.heap.get? a = some (PySem.W.instObj C dx)) (q : Q .notImplemented s) : wpAny (model prog w) A (call (.builtin id) [.int i t, .ref a]) Q E s :=
  wpAny_call_entry slot (typeIs_int s i t) entry (no_int hg ⟨_, rfl, q⟩) ha
open PySem.W in
/-- i op o: what int gives up, the class's reflected method tells -/
theorem binop_refl {op : Operator} {o C fr fl dx : Addr} {ox : Obj} {od : Option Obj} {i : Int} {t : Tok} {hb : Heap} {L : Addr} {m : Str → Option Value} {f : Int → Int → Sem Fin} {nb id : String} {Q : Value → Shared → Prop} (F : Fr hb L s.heap m) (Xb : K.In hb) (I : InstAt s.heap o ox C od)
    (hg : s.heap.get? o = some (instObj C dx)) (hc : selfFirst K C = true) (hl : findIn K (.ref C) (PySem.dunder op.info.2) = some (some (.ref fl))) (hs : findIn K (.ref C) (dunderR op.info.2) = some (some (.ref fr))) (hf : isFn K (.ref fr) = true)
    (hsub : subIn K (.ref C) (.type "int") = some false) (fills : fillsNumberSlot (.type "int") op.info.2 = pure true) (slot : Slot "int" (PySem.dunder op.info.2) id) (entry : entryFor table id = some (Builtin.Int.intBinary nb f false)) (ha : argsOk id ⟨[.int i t, .ref o], []⟩)
    (h : wpAny (model prog w) A (call (.ref fr) [.ref o, .int i t]) (PySem.W.CmpBack Q) E s) : wpAny (model prog w) A (binaryOp op (.int i t) (.ref o)) Q E s := by
  have X1 := Xb.keeps F.keep
  obtain ⟨kd, more, hkd, hkm⟩ := ksp_first hc
  rcases hi : op.info with ⟨sy, n2⟩
  rw [hi] at hs hl fills slot
  dsimp only at hs hl fills slot
  have two := ksp_try X1 I hs hf h
  have one : wpAny (model prog w) A (tryMethod (.int i t) (PySem.dunder n2) (.ref o)) (fun r s' => r = none ∧ s' = s) E s := wpAny_tryMethod_declines (typeIs_int s i t) slot (call_no slot entry ha hg ⟨rfl, rfl, rfl⟩)
  obtain ⟨h2, g2, d2, t2, o2⟩ := s
  have M1 : Looks (model prog w) h2 (typeOf (.ref o)) (.ref C) := I.type
  have M2 : Looks (model prog w) h2 (typeOf (.int i t)) (.type "int") := Looks.of_pure rfl
  have M3 : Looks (model prog w) h2 (fillsNumberSlot (.ref C) n2) true := fills_K X1 hkd hkm hl
  have M4 : Looks (model prog w) h2 (fillsNumberSlot (.type "int") n2) true := Looks.of_pure fills
  have M5 : Looks (model prog w) h2 (isSubtype (.ref C) (.type "int")) false := looks_subIn X1 hsub
  have M6 : Looks (model prog w) h2 (numberSlotInPython (.type "int") n2) false := Looks.of_pure rfl
  have unlike : (Value.type "int" == Value.ref C) = false := Bool.eq_false_iff.mpr fun z => by cases beq_iff_eq.mp z
  simp only [binaryOp, hi]
  refine wpAny_holding (wpAny_bind ?_)
  unfold binaryOp1
  refine wpAny_bind (M2.at (wpAny_bind (M1.at (wpAny_bind (M4.at ?_)))))
  simp only [unlike, Bool.false_eq_true, if_false]
  ksp_lk
  refine wpAny_mono one (fun r s' z => ?_) fun _ _ e => e
  obtain ⟨rfl, rfl⟩ := z
  ksp_lk
  refine wpAny_mono two (fun r s' z => ?_) fun _ _ e => e
  obtain ⟨v, rfl, q⟩ := z
  ksp_lk
  exact q
open PySem.Calls in
theorem abs_own {o C f : Addr} {ox : Obj} {od : Option Obj} {Q : Value → Shared → Prop} (X1 : K.In s.heap) (I : PySem.W.InstAt s.heap o ox C od) (hs : PySem.W.findIn K (.ref C) "__abs__" = some (some (.ref f))) (hf : PySem.W.isFn K (.ref f) = true)
    (h : wpAny (model prog w) A.in1 (call (.ref f) [.ref o]) Q E s) : wpAny (model prog w) A (call (.builtin "abs") [.ref o]) Q E s := by
  refine call_function_entry kind_abs plain_abs entry_abs (args_abs _) ?_
  unfold Builtin.«abs»
  refine wpAny_bind (m := PySem.oneArg "abs" _) (wpAny_pure ?_)
  exact wpAny_bind (m := callSpecial? (.ref o) (Str.ofString "__abs__")) (PySem.W.special_fn X1 I hs (beq_iff_eq.mp hf) (wpAny_mono h (fun r s' hr => wpAny_pure ⟨_, rfl, hr⟩) fun _ _ y => y))
end
/-- the int's side of an operator: the method that gives up -/
structure IntSide (op : Operator) : Prop where
  fills : fillsNumberSlot (.type "int") op.info.2 = pure true
  gives : ∃ (id nb : String) (f : Int → Int → Sem Fin), Slot "int" (PySem.dunder op.info.2) id ∧ entryFor table id = some (Builtin.Int.intBinary nb f false) ∧ ∀ a b, argsOk id ⟨[a, b], []⟩
theorem side_add : IntSide .Add := ⟨PySem.F.fills_int_add, "int.__add__", "__add__", _, PySem.F.slot_int_add, PySem.F.entry_int_add, PySem.F.args_int_add_2⟩
theorem side_sub : IntSide .Sub := ⟨PySem.F.fills_int_sub, "int.__sub__", "__sub__", _, PySem.F.slot_int_sub, PySem.F.entry_int_sub, PySem.F.args_int_sub_2⟩
theorem side_mul : IntSide .Mult := ⟨PySem.F.fills_int_mul, "int.__mul__", "__mul__", _, PySem.F.slot_int_mul, PySem.F.entry_int_mul, PySem.F.args_int_mul_2⟩
/-- an int, then an object of the class -/
def rOwnR (C : Addr) (sp : Sp) (E : L2.St → XK) (σ : L2.St) : R2 := fun x y H Q => ∃ a dx fs i, y = .ref a ∧ H a = some (.ins C dx fs) ∧ x = .int i ∧ sp [y, x] H Q (E σ)
def rAlt (r1 r2 : L2.St → R2) (σ : L2.St) : R2 := fun x y H Q => r1 σ x y H Q ∨ r2 σ x y H Q
def uOr (r1 r2 : L2.St → V → Hp → VK → Prop) (σ : L2.St) : V → Hp → VK → Prop := fun x H Q => r1 σ x H Q ∨ r2 σ x H Q
def rNegI (_ : L2.St) : V → Hp → VK → Prop := fun x H Q => ∃ i, x = .int i ∧ Q (.int (-i)) H
section
open PySem.Spec PyProof.Rows
variable {X : Cx} {CX : CXT} {f fl C : Addr} {fd : FuncData} {ps : List Str} {n : Nat} {sp : Sp} {op : Operator} {E : L2.St → XK}
theorem op_ownR (o : Ops X.K C) (li : PySem.W.subIn X.K (.ref C) (.type "int") = some false) (ml : Meth X.K C (PySem.dunder op.info.2) fl) (m : Meth X.K C (dunderR op.info.2) f) (si : IntSide op) (F : FnOk X.prog X.w X.K X.mg X.base CX n f fd ps sp) (hr : Room n X.A) (hb : Binds X.K fd ps []) (hx : ∀ σ, PassesAt CX X σ (E σ)) :
    OpS X (binaryOp op) (rOwnR C sp E) := by
  intro pins s σ H x y v u Q I rx ry h
  obtain ⟨a, dx, fs, i, rfl, ha, rfl, h⟩ := h
  cases ry
  obtain ⟨t, rfl⟩ := (show ∃ t, v = Value.int i t from rx)
  obtain ⟨mA, J0, _⟩ := ins_get I.hok ha
  have hg := J0.1
  obtain ⟨od, J, _⟩ := J0.look
  obtain ⟨m', hF⟩ := I.fr
  obtain ⟨id, nb, g, h1, h2, h3⟩ := si.gives
  exact binop_refl hF I.ok.mod.kin J hg o.first ml.at_ m.at_ m.fn li si.fills h1 h2 (h3 _ _) (run_own (vs := [V.ref a, V.int i]) F hr hb (hx σ) I (.cons rfl (.cons ⟨t, rfl⟩ .nil)) h)
theorem ops_or {g : Value → Value → Sem Value} {r1 r2 : L2.St → R2} (h1 : OpS X g r1) (h2 : OpS X g r2) : OpS X g (rAlt r1 r2) := fun pins s σ H x y v u Q I rx ry h => h.elim (h1 pins s σ H x y v u Q I rx ry) (h2 pins s σ H x y v u Q I rx ry)
theorem uns_or {g : Value → Sem Value} {r1 r2 : L2.St → V → Hp → VK → Prop} (h1 : UnS X g r1) (h2 : UnS X g r2) : UnS X g (uOr r1 r2) := fun pins s σ H x v Q I rx h => h.elim (h1 pins s σ H x v Q I rx) (h2 pins s σ H x v Q I rx)
theorem un_negI : UnS X (unaryOp .USub) rNegI := by
  intro pins s σ H x v Q I rx h
  obtain ⟨i, rfl, q⟩ := h
  obtain ⟨t, rfl⟩ := (show ∃ t, v = Value.int i t from rx)
  exact neg_int ⟨.int (-i), H, I.tok _, ⟨_, rfl⟩, q⟩
def rOwnAbs (C : Addr) (sp : Sp) (E : XK) : List V → Hp → VK → Prop := fun xs H Q => ∃ a dx fs, xs = [.ref a] ∧ H a = some (.ins C dx fs) ∧ sp [.ref a] H Q E
theorem call_absO {E : XK} (m : Meth X.K C "__abs__" f) (F : FnOk X.prog X.w X.K X.mg X.base CX n f fd ps sp) (hr : Room (n + 1) X.A) (hb : Binds X.K fd ps []) (hx : ∀ σ, PassesAt CX X σ E) : CallR X (.builtin "abs") (rOwnAbs C sp E) := by
  intro pins s σ H xs us Q I r h
  obtain ⟨a, dx, fs, rfl, ha, h⟩ := h
  obtain ⟨u, rfl, rx⟩ := vals1 r
  cases rx
  obtain ⟨mA, J, _⟩ := ins_get I.hok ha
  obtain ⟨od, J, _⟩ := J.look
  exact abs_own I.kIn J m.at_ m.fn (run_ownA (vs := [V.ref a]) F hr.in1 rfl hb (hx σ) I (.cons rfl .nil) h)
theorem callr_or {b : Value} {r1 r2 : List V → Hp → VK → Prop} (h1 : CallR X b r1) (h2 : CallR X b r2) : CallR X b (fun xs H Q => r1 xs H Q ∨ r2 xs H Q) := fun pins s σ H xs us Q I r h => h.elim (h1 pins s σ H xs us Q I r) (h2 pins s σ H xs us Q I r)
/-- a term that is never reached -/
theorem pe_never {e : Expr} : PE X e (fun _ _ _ => False) := ⟨fun _ _ _ _ _ _ h => h.elim⟩
end

/-! ### comparisons: an int on the left; != -/
section
open PySem.Spec PyProof.Rows
variable {prog : Program} {w : World} {A : Around} {E : Value → Shared → Prop} {s : Shared} {K : PySem.W.Frag} {o C f dx : Addr} {ox : Obj} {od : Option Obj} {i : Int} {t : Tok} {hb : Heap} {L : Addr} {m : Str → Option Value}
theorem try_no {g : Int → Int → Sem Fin} {nb id : String} {name : Str} (slot : Slot "int" name id) (entry : entryFor table id = some (Builtin.Int.intBinary nb g false)) (ha : argsOk id ⟨[.int i t, .ref o], []⟩) (hg : s.heap.get? o = some (PySem.W.instObj C dx)) :
    wpAny (model prog w) A (tryCompare (.int i t) name (.ref o)) (fun r s' => r = none ∧ s' = s) E s := wpAny_tryCompare_declines (typeIs_int s i t) slot (call_no slot entry ha hg ⟨rfl, rfl, rfl⟩)
open PySem.W in
theorem try_own {name : Str} {b : Value} {Q : Value → Shared → Prop} (X1 : K.In s.heap) (I : InstAt s.heap o ox C od) (hs : findIn K (.ref C) name = some (some (.ref f))) (hf : isFn K (.ref f) = true) (h : wpAny (model prog w) A (call (.ref f) [.ref o, b]) (PySem.W.CmpBack Q) E s) :
    wpAny (model prog w) A (tryCompare (.ref o) name b) (fun r s' => ∃ v, r = some v ∧ Q v s') E s := by
  unfold tryCompare
  refine wpAny_bind (ifBound_K X1 I hs hf (wpAny_mono h (fun v s' z => ?_) fun _ _ e => e))
  cases v <;> first | exact z.elim | exact wpAny_pure ⟨_, rfl, z⟩
open PySem.W in
theorem cmp_refl {op : CmpOp} {g : Int → Int → Sem Fin} {nb id : String} {Q : Value → Shared → Prop} (hu : A.units < cLine) (X1 : K.In s.heap) (I : InstAt s.heap o ox C od) (hg : s.heap.get? o = some (instObj C dx)) (hsub : subIn K (.ref C) (.type "int") = some false)
    (slot : Slot "int" (cmpInfo op).2.1 id) (entry : entryFor table id = some (Builtin.Int.intBinary nb g false)) (ha : argsOk id ⟨[.int i t, .ref o], []⟩) (hot : oneThing? op (.int i t) (.ref o) = none)
    (two : wpAny (model prog w) A (tryCompare (.ref o) (cmpInfo op).2.2 (.int i t)) (fun r s' => ∃ v, r = some v ∧ Q v s') E s) : wpAny (model prog w) A (richCompare op (.int i t) (.ref o)) Q E s := by
  have one := try_no (prog := prog) (w := w) (A := A) (E := E) slot entry ha hg
  unfold richCompare
  simp only [hot]
  refine wpAny_holding (wpAny_bind (wpAny_cRoomFor hu ?_))
  refine wpAny_bind ((Looks.of_pure (show typeOf (.int i t) = pure (.type "int") from rfl)).here (wpAny_bind (I.type.here ?_)))
  have unlike : (Value.type "int" != Value.ref C) = true := by simp
  simp only [unlike, if_true]
  refine wpAny_bind ((looks_subIn X1 hsub).here ?_)
  simp only [Bool.false_eq_true, if_false, Bool.not_false, if_true]
  refine wpAny_bind (wpAny_mono one (fun r s' z => ?_) fun _ _ e => e)
  obtain ⟨rfl, rfl⟩ := z
  refine wpAny_bind (wpAny_mono two (fun r s' z => ?_) fun _ _ e => e)
  obtain ⟨v, rfl, q⟩ := z
  exact wpAny_pure q
open PySem.W in
theorem ifBound_B {name : Str} {id : String} {args : List Value} {Q : Option Value → Shared → Prop} (X1 : K.In s.heap) (I : InstAt s.heap o ox C od) (hs : findIn K (.ref C) name = some (some (.builtin id))) (bd : ∀ self, bindSpecial (.builtin id) self = pure (.builtin id, [self]))
    (h : wpAny (model prog w) A (call (.builtin id) (.ref o :: args)) (fun v => Q (some v)) E s) : wpAny (model prog w) A (callSpecialIfBound? (.ref o) name args) Q E s := by
  simp only [callSpecialIfBound?, bindSpecialIfBound?]
  refine wpAny_holding (wpAny_bind (wpAny_bind (wpAny_bind (I.type.here ((looks_findIn X1 hs).here (wpAny_bind (wpAny_askSetting (wpAny_ite ?_))))))))
  have last : wpAny (model prog w) A (call (.builtin id) ([.ref o] ++ args) >>= fun v => pure (some v)) Q E s := wpAny_bind (wpAny_mono h (fun v s' z => wpAny_pure z) fun _ _ z => z)
  split
  · exact wpAny_bind ((Looks.of_pure (bd _)).here (wpAny_pure (by exact last)))
  · exact wpAny_tryCatch (wpAny_bind ((Looks.of_pure (bd _)).here (wpAny_pure (by exact last))))
open PySem.W in
theorem ne_own {b : Value} {Q : Value → Shared → Prop} (hu : A.units + 1 < cLine) (X1 : K.In s.heap) (I : InstAt s.heap o ox C od) (hm : mroIn K C (.type "object") = some true) (hn : findIn K (.ref C) "__ne__" = some (some (.builtin "object.__ne__"))) (hs : findIn K (.ref C) "__eq__" = some (some (.ref f))) (hf : isFn K (.ref f) = true)
    (h : wpAny (model prog w) A.in1 (call (.ref f) [.ref o, b]) (fun v s' => ∃ k, v = .bool k ∧ Q (.bool (!k)) s') E s) : wpAny (model prog w) A (tryCompare (.ref o) "__ne__" b) (fun r s' => ∃ v, r = some v ∧ Q v s') E s := by
  unfold tryCompare
  refine wpAny_bind (ifBound_B (id := "object.__ne__") X1 I hn (fun _ => rfl) ?_)
  refine wpAny_call (codeAny_call_builtin PySem.F.cmp_object.ne.plain PySem.F.cmpEntry_ne (check_slot (i := "object.__ne__") (owner := "object") (n := "__ne__") PySem.F.cmpKind_ne PySem.F.cmpSplit_ne (I.type.andThen (looks_mroIn X1 hm)) (PySem.F.cmpArgs_ne _ _) ?_))
  unfold Builtin.«object.__ne__»
  refine wpAny_bind (m := slotArgs "__ne__" 1 _) (wpAny_pure ?_)
  refine wpAny_bind (m := cRoomFor _ _) (wpAny_cRoomFor (show A.units + 1 < cLine from hu) ?_)
  refine wpAny_bind (m := callSpecialIfBound? (.ref o) (Str.ofString "__eq__") _) (ifBound_K X1 I hs hf (wpAny_mono h (fun r s' z => ?_) fun _ _ y => y))
  obtain ⟨k, rfl, q⟩ := z
  exact wpAny_bind (wpAny_truthy_bool (wpAny_pure (wpAny_pure ⟨_, rfl, q⟩)))
open PySem.W in
theorem ne_left {b tb : Value} {Q : Value → Shared → Prop} (hu : A.units + 1 < cLine) (X1 : K.In s.heap) (I : InstAt s.heap o ox C od) (lb : Looks (model prog w) s.heap (typeOf b) tb) (nf : notFirst K C tb = true)
    (one : wpAny (model prog w) A (tryCompare (.ref o) "__ne__" b) (fun r s' => ∃ v, r = some v ∧ Q v s') E s) : wpAny (model prog w) A (richCompare .NotEq (.ref o) b) Q E s := by
  unfold richCompare
  simp only [oneThing_ref]
  refine wpAny_holding (wpAny_bind (wpAny_cRoomFor (by omega) (wpAny_bind (I.type.here (wpAny_bind (lb.here ?_))))))
  split
  · rename_i q
    have e : subIn K tb (.ref C) = some false := by
      rcases Bool.or_eq_true_iff.mp nf with e | e
      · rw [beq_iff_eq.mp e] at q
        simp at q
      · exact beq_iff_eq.mp e
    refine wpAny_bind ((looks_subIn X1 e).here ?_)
    simp only [Bool.false_eq_true, if_false]
    refine wpAny_bind (wpAny_mono one (fun r s' z => ?_) fun _ _ e => e)
    obtain ⟨v, rfl, z⟩ := z
    exact wpAny_pure z
  · refine wpAny_bind (wpAny_pure ?_)
    simp only [Bool.false_eq_true, if_false]
    refine wpAny_bind (wpAny_mono one (fun r s' z => ?_) fun _ _ e => e)
    obtain ⟨v, rfl, z⟩ := z
    exact wpAny_pure z
open PySem.W in
theorem bool_own {Q : Value → Shared → Prop} (F : Fr hb L s.heap m) (Xb : K.In hb) (I : InstAt s.heap o ox C od) (hs : findIn K (.ref C) "__bool__" = some (some (.ref f))) (hf : isFn K (.ref f) = true)
    (h : wpAny (model prog w) A.in1.in1 (call (.ref f) [.ref o]) (fun v s' => ∃ k, v = .bool k ∧ Q (.bool k) s') E s) : wpAny (model prog w) A (call (.type "bool") [.ref o]) Q E s := by
  refine callType_codes (T := "bool") (Bi := Builtin.«object.__init__») (Q₁ := fun r s₁ => ∃ k, r = .bool k ∧ Q r s₁) PySem.F.called_bool (PySem.F.typeCall_bool_1 _) PySem.F.entry_object_init ?_ ?_
  · refine codeAny_of_tree ?_
    show wpAny _ A.in1.in1 (do checkBuiltinCall "bool.__new__" ⟨[.type "bool", .ref o], []⟩; again (.builtin "bool.__new__" ⟨[.type "bool", .ref o], []⟩)) _ _ s
    refine wpAny_bind (wpAny_of_eq (PySem.F.newCall_bool_1 _) (wpAny_pure ⟨plainId_quiet (by decide +kernel) _, codeAny_builtin PySem.F.entry_bool_new ?_⟩))
    rw [Around.under_plainId (by decide +kernel) _]
    unfold Builtin.«bool.__new__»
    refine wpAny_bind (wpAny_of_eq (show isType (.type "bool") = pure true from rfl) ?_)
    simp only [Bool.not_true, Bool.false_eq_true, if_false]
    refine wpAny_bind (wpAny_of_eq PySem.F.conv_sub_bool ?_)
    simp only [Bool.not_true, Bool.false_eq_true, if_false]
    refine wpAny_bind (wpAny_pure ?_)
    refine wpAny_bind (truthy_K F Xb I hs hf (wpAny_mono h (fun v s' z => ?_) fun _ _ y => y))
    obtain ⟨k, rfl, q⟩ := z
    exact wpAny_pure ⟨k, rfl, q⟩
  · rintro obj s₁ ⟨k, rfl, q⟩
    exact ⟨PySem.typeIs_bool _ _, PySem.F.args_object_init_2 _ _, object_init_meets PySem.F.called_bool.init.lookup PySem.F.called_bool.made (by decide) prog w A.in1 _ s₁ ⟨PySem.typeIs_bool _ _, rfl, q⟩⟩
end
structure CmpSide (op : CmpOp) : Prop where
  gives : ∃ (id nb : String) (f : Int → Int → Sem Fin), Slot "int" (cmpInfo op).2.1 id ∧ entryFor table id = some (Builtin.Int.intBinary nb f false) ∧ ∀ a b, argsOk id ⟨[a, b], []⟩
  one : ∀ (i : Int) (t : Tok) (a : Addr), oneThing? op (.int i t) (.ref a) = none
theorem side_lt : CmpSide .Lt := ⟨⟨"int.__lt__", "__lt__", _, PySem.F.slot_int_lt, PySem.F.entry_int_lt, PySem.F.args_int_lt_2⟩, fun _ _ _ => rfl⟩
theorem side_le : CmpSide .LtE := ⟨⟨"int.__le__", "__le__", _, PySem.F.slot_int_le, PySem.F.entry_int_le, PySem.F.args_int_le_2⟩, fun _ _ _ => rfl⟩
theorem side_gt : CmpSide .Gt := ⟨⟨"int.__gt__", "__gt__", _, PySem.F.slot_int_gt, PySem.F.entry_int_gt, PySem.F.args_int_gt_2⟩, fun _ _ _ => rfl⟩
theorem side_ge : CmpSide .GtE := ⟨⟨"int.__ge__", "__ge__", _, PySem.F.slot_int_ge, PySem.F.entry_int_ge, PySem.F.args_int_ge_2⟩, fun _ _ _ => rfl⟩
theorem side_eq : CmpSide .Eq := ⟨⟨"int.__eq__", "__eq__", _, PySem.F.slot_int_eq, PySem.F.entry_int_eq, PySem.F.args_int_eq_2⟩, fun _ _ _ => rfl⟩
theorem side_ne : CmpSide .NotEq := ⟨⟨"int.__ne__", "__ne__", _, PySem.F.slot_int_ne, PySem.F.entry_int_ne, PySem.F.args_int_ne_2⟩, fun _ _ _ => rfl⟩
/-- the opposite of what a promise of a truth value tells -/
def notK (Q : VK) : VK := fun v H => ∃ k : Bool, v = .bl k ∧ Q (.bl (!k)) H
def rOwnNe (K : PySem.W.Frag) (C : Addr) (sp : Sp) (E : L2.St → XK) (σ : L2.St) : R2 := fun x y H Q => ∃ a dx fs tb, x = .ref a ∧ H a = some (.ins C dx fs) ∧ TyX K H y tb ∧ PySem.W.notFirst K C tb = true ∧ sp [x, y] H (notK Q) (E σ)
def rOwnNeR (C : Addr) (sp : Sp) (E : L2.St → XK) (σ : L2.St) : R2 := fun x y H Q => ∃ a dx fs i, y = .ref a ∧ H a = some (.ins C dx fs) ∧ x = .int i ∧ sp [y, x] H (notK Q) (E σ)
/-- what != asks of a class with an own __eq__ and no __ne__ -/
structure NeOf (K : PySem.W.Frag) (C : Addr) : Prop where
  ob : PySem.W.mroIn K C (.type "object") = some true
  ne : PySem.W.findIn K (.ref C) "__ne__" = some (some (.builtin "object.__ne__"))
section
open PySem.Spec PyProof.Rows
variable {X : Cx} {CX : CXT} {f C : Addr} {fd : FuncData} {ps : List Str} {n : Nat} {sp : Sp} {op : CmpOp} {E : L2.St → XK}
theorem op_ownCR (hop : ∀ v u, compareOp op v u = richCompare op v u) (li : PySem.W.subIn X.K (.ref C) (.type "int") = some false) (m : Meth X.K C (cmpInfo op).2.2 f) (si : CmpSide op) (F : FnOk X.prog X.w X.K X.mg X.base CX n f fd ps sp) (hr : Room n X.A) (hb : Binds X.K fd ps []) (hx : ∀ σ, PassesAt CX X σ (E σ)) :
    OpS X (compareOp op) (rOwnR C sp E) := by
  intro pins s σ H x y v u Q I rx ry h
  obtain ⟨a, dx, fs, i, rfl, ha, rfl, h⟩ := h
  cases ry
  obtain ⟨t, rfl⟩ := (show ∃ t, v = Value.int i t from rx)
  obtain ⟨mA, J0, _⟩ := ins_get I.hok ha
  have hg := J0.1
  obtain ⟨od, J, _⟩ := J0.look
  obtain ⟨id, nb, g, h1, h2, h3⟩ := si.gives
  rw [hop]
  exact cmp_refl hr.units0 I.kIn J hg li h1 h2 (h3 _ _) (si.one _ _ _) (try_own I.kIn J m.at_ m.fn (run_own (vs := [V.ref a, V.int i]) F hr hb (hx σ) I (.cons rfl (.cons ⟨t, rfl⟩ .nil)) h))
theorem back_not {pins : List (Addr × Obj)} {σ : L2.St} {Q : VK} {v : Value} {s' : Shared} (h : EP X pins σ (notK Q) v s') : ∃ k, v = Value.bool k ∧ EP X pins σ Q (.bool (!k)) s' := by
  obtain ⟨x, H', I', rv, k, rfl, q⟩ := h
  exact ⟨k, rv, .bl (!k), H', I', rfl, q⟩
theorem op_neO {K : PySem.W.Frag} (d : NeOf X.K C) (m : Meth X.K C "__eq__" f) (F : FnOk X.prog X.w X.K X.mg X.base CX n f fd ps sp) (hr : Room (n + 1) X.A) (hb : Binds X.K fd ps []) (hx : ∀ σ, PassesAt CX X σ (E σ)) (hk : X.K = K := by rfl) : OpS X (compareOp .NotEq) (rOwnNe K C sp E) := by
  subst hk
  intro pins s σ H x y v u Q I rx ry h
  obtain ⟨a, dx, fs, tb, rfl, ha, ty, nf, h⟩ := h
  cases rx
  obtain ⟨mA, J, _⟩ := ins_get I.hok ha
  obtain ⟨od, J, _⟩ := J.look
  have hu : X.A.units + 1 < cLine := by have := hr.un; omega
  show wpAny _ _ (richCompare .NotEq (.ref a) u) _ _ _
  exact ne_left hu I.kIn J (ty_looks I ry ty) nf (ne_own hu I.kIn J d.ob d.ne m.at_ m.fn (wpAny_mono (run_ownA (vs := [V.ref a, y]) F hr.in1 rfl hb (hx σ) I (.cons rfl (.cons ry .nil)) h) (fun v s' z => back_not z) fun _ _ e => e))
theorem op_neR (d : NeOf X.K C) (li : PySem.W.subIn X.K (.ref C) (.type "int") = some false) (m : Meth X.K C "__eq__" f) (F : FnOk X.prog X.w X.K X.mg X.base CX n f fd ps sp) (hr : Room (n + 1) X.A) (hb : Binds X.K fd ps []) (hx : ∀ σ, PassesAt CX X σ (E σ)) : OpS X (compareOp .NotEq) (rOwnNeR C sp E) := by
  intro pins s σ H x y v u Q I rx ry h
  obtain ⟨a, dx, fs, i, rfl, ha, rfl, h⟩ := h
  cases ry
  obtain ⟨t, rfl⟩ := (show ∃ t, v = Value.int i t from rx)
  obtain ⟨mA, J0, _⟩ := ins_get I.hok ha
  have hg := J0.1
  obtain ⟨od, J, _⟩ := J0.look
  obtain ⟨id, nb, g, h1, h2, h3⟩ := side_ne.gives
  have hu : X.A.units + 1 < cLine := by have := hr.un; omega
  show wpAny _ _ (richCompare .NotEq (.int i t) (.ref a)) _ _ _
  exact cmp_refl hr.units0 I.kIn J hg li h1 h2 (h3 _ _) rfl (ne_own hu I.kIn J d.ob d.ne m.at_ m.fn (wpAny_mono (run_ownA (vs := [V.ref a, V.int i]) F hr.in1 rfl hb (hx σ) I (.cons rfl (.cons ⟨t, rfl⟩ .nil)) h) (fun v s' z => back_not z) fun _ _ e => e))
def rOwnBool (C : Addr) (sp : Sp) (E : XK) : List V → Hp → VK → Prop := fun xs H Q => ∃ a dx fs, xs = [.ref a] ∧ H a = some (.ins C dx fs) ∧ sp [.ref a] H (fun v H' => ∃ k : Bool, v = .bl k ∧ Q (.bl k) H') E
theorem call_boolO {E : XK} (m : Meth X.K C "__bool__" f) (F : FnOk X.prog X.w X.K X.mg X.base CX n f fd ps sp) (hr : Room (n + 2) X.A) (hb : Binds X.K fd ps []) (hx : ∀ σ, PassesAt CX X σ E) : CallR X (.type "bool") (rOwnBool C sp E) := by
  intro pins s σ H xs us Q I r h
  obtain ⟨a, dx, fs, rfl, ha, h⟩ := h
  obtain ⟨u, rfl, rx⟩ := vals1 r
  cases rx
  obtain ⟨mA, J, _⟩ := ins_get I.hok ha
  obtain ⟨od, J, _⟩ := J.look
  obtain ⟨m', hF⟩ := I.fr
  refine bool_own hF I.ok.mod.kin J m.at_ m.fn (wpAny_mono (run_ownA (vs := [V.ref a]) F hr.in1.in1 rfl hb (hx σ) I (.cons rfl .nil) h) (fun v s' hv => ?_) fun _ _ e => e)
  obtain ⟨z, H', I', rv, k, rfl, q⟩ := hv
  exact ⟨k, rv, .bl k, H', I', rfl, q⟩
end
/-- o.m(e, ..) within a try -/
def tMethS (C : Addr) (m : Str) (sp : Sp) (dvs : List V) (E : L2.St → XK) (ta : TE) (t : TA) : TE := fun σ H Q => ta σ H fun x H1 => ∃ a dx fs, x = .ref a ∧ H1 a = some (.ins C dx fs) ∧ fs.lookup m = none ∧
  t σ H1 fun vs H2 => sp (x :: (vs ++ dvs)) H2 Q (E σ)
section
open PySem.Spec PyProof.Rows
variable {X : Cx} {CX : CXT} {k : Nat} {f C : Addr} {fd : FuncData} {ps : List Str} {sp : Sp} {dvs : List V} {ds : List Value} {E : L2.St → XK} {m : Str} {pos apos : Pos} {e o : Expr} {es : List Expr} {ta : TE} {t : TA}
theorem pe_methS {pl : Sem Bool} (he : PE X o ta) (c : Cls X.K C) (hm : Meth X.K C m f) (F : FnOk X.prog X.w X.K X.mg X.base CX k f fd ps sp) (hr : Room k X.A) (hb : Binds X.K fd ps ds) (hd : Vals dvs ds) (hx : ∀ σ, PassesAt CX X σ (E σ)) (ha : PA X (e :: es) t)
    (hst : starEach (e :: es) X.env = (false, eval e X.env) :: starEach es X.env := by rfl) (hpl : (backTo pos (starEach es X.env)).any (·.1) = false := by rfl)
    (ht : eval (.Call (.Attribute o m apos) (e :: es) [] pos) X.env = (do
      let v0 ← eval o X.env
      standAt apos.atName
      let (g0, first0) ← holding [v0] (getMethod v0 m pl)
      callWith pos g0 first0 (backTo pos (starEach (e :: es) X.env)) (backToKw pos (keywordEach [] X.env))) := by rfl) :
    PE X (.Call (.Attribute o m apos) (e :: es) [] pos) (tMethS C m sp dvs E ta t) := by
  refine ⟨fun pins s σ H Q I h => PySem.W.methodCall_KW (pl := pl) (thn (he.run pins s σ H _ I h) fun u s1 hu => ?_) ht⟩
  obtain ⟨x, H1, I1, rx, a, dx, fs, ex, ea, l, q⟩ := hu
  subst ex
  obtain rfl : u = Value.ref a := rx
  refine getmeth_ok I1 ea c hm l ?_
  refine PySem.W.callWith_K (first := [.ref a]) (h₀ := X.base) I.ok.mod.kin hm.kp (thn (ha.run pos pins s1 σ H1 _ I1 q) fun us s2 hw => ?_) hst hpl
  obtain ⟨vs, H2, I2, r, q2⟩ := hw
  exact ⟨I2.kIn, run_fnSD (us := .ref a :: us) (vs := .ref a :: vs) F hr hb hd (hx σ) I2 (.cons rfl r) q2⟩
end

/-! ### class methods -/
section
open PySem.Spec PyProof.Rows
variable {X : Cx} {CX : CXT} {k i : Nat} {f C p0 g : Addr} {fd : FuncData} {ps : List Str} {sp : Sp} {dvs : List V} {ds : List Value} {E : XK} {x m : Str} {p pos apos : Pos} {e o : Expr} {es : List Expr} {t : TA} {ta : TE} {mc : Value}
def tMakeV (i : Nat) (C : Addr) (sp : Sp) (dvs : List V) (E : XK) (t : TA) : TE := fun σ H Q => σ[i]? = some (some (.ref C)) ∧ tMake C sp dvs E t σ H Q
/-- cls(e, ..) -/
theorem pe_makeV (M : Mk X.K C f) (F : FnOk X.prog X.w X.K X.mg X.base CX k f fd ps sp) (hr : Room (k + 1) X.A) (hN : X.N[i]? = some x) (hv : Vis X.env.scope x) (hb : Binds X.K fd ps ds) (hd : Vals dvs ds) (hx : Passes CX X E) (ha : PA X (e :: es) t)
    (h1 : (x == ("__debug__" : Str)) = false := by decide) (h2 : (x == ("__classdict__" : Str)) = false := by decide) (he : starEach (e :: es) X.env = (false, eval e X.env) :: starEach es X.env := by rfl) (hpl : (backTo pos (starEach es X.env)).any (·.1) = false := by rfl) :
    PE X (.Call (.Name x p) (e :: es) [] pos) (tMakeV i C sp dvs E t) := by
  refine ⟨fun pins s σ H Q I h => ?_⟩
  obtain ⟨hs, h⟩ := h
  refine wpAny_Call_Name_kw (thn ((pe_var (pos := p) (i := i) hN hv h1 h2).run pins s σ H (fun v H1 => v = .ref C ∧ H1 = H) I ⟨.ref C, hs, rfl, rfl⟩) fun u s1 z => ?_)
  obtain ⟨v, H1, I1, r1, ev, eH⟩ := z
  subst ev
  rw [eH] at I1
  cases r1
  refine PySem.W.callWith_K (h₀ := X.base) I.ok.mod.kin M.kp (thn (ha.run pos pins s1 σ H _ I1 h) fun us s2 z => ?_) he hpl
  obtain ⟨vs, H2, I2, r, q⟩ := z
  exact ⟨I2.kIn, run_make M F hr hb hd hx I2 r q⟩
def tCMethS (C : Addr) (sp : Sp) (E : L2.St → XK) (ta : TE) (t : TA) : TE := fun σ H Q => ta σ H fun x H1 => x = .ref C ∧ t σ H1 fun vs H2 => sp (.ref C :: vs) H2 Q (E σ)
/-- C.m(e, ..) within a try -/
theorem pe_cmethS {pl : Sem Bool} {ES : L2.St → XK} (ho : PE X o ta) (r : ClX.CRead X.K C mc) (c : ClX.CMet X.K C mc m p0 g) (F : FnR X.prog X.w X.K X.mg X.base CX k g sp) (hr : Room k X.A) (hx : ∀ σ, PassesAt CX X σ (ES σ)) (ha : PA X (e :: es) t)
    (hst : starEach (e :: es) X.env = (false, eval e X.env) :: starEach es X.env := by rfl) (hpl : (backTo pos (starEach es X.env)).any (·.1) = false := by rfl)
    (ht : eval (.Call (.Attribute o m apos) (e :: es) [] pos) X.env = (do
      let v0 ← eval o X.env
      standAt apos.atName
      let (g0, first0) ← holding [v0] (getMethod v0 m pl)
      callWith pos g0 first0 (backTo pos (starEach (e :: es) X.env)) (backToKw pos (keywordEach [] X.env))) := by rfl) :
    PE X (.Call (.Attribute o m apos) (e :: es) [] pos) (tCMethS C sp ES ta t) := by
  refine ⟨fun pins s σ H Q I h => PySem.W.methodCall_KW (pl := pl) (thn (ho.run pins s σ H _ I h) fun u s1 z => ?_) ht⟩
  obtain ⟨v, H1, I1, rx, ex, q⟩ := z
  subst ex
  obtain rfl : u = Value.ref C := rx
  refine ClX.getmethcm_ok I1 r c fun s2 I2 => ?_
  refine ClX.callwith_cm I2 (ClX.base_none I1 (Nat.le_refl _)) c.fi (thn (ha.run pos _ s2 σ H1 _ I2 q) fun us s3 z => ?_) hst hpl
  obtain ⟨vs, H2, I3, rv, q2⟩ := z
  refine ⟨⟨ClX.pin_at I3, I3.kIn⟩, ?_⟩
  have run : codeAny (model X.prog X.w) X.A (.call (.ref g) ⟨.ref C :: us, []⟩) (fun r s' => match r with | .ok (.ret v) => EP X _ σ Q v s' | .ok _ => False | .error e => X.xe e s') s3 :=
    codeAny_mono (F X.A X.stack s3 H2 (.ref C :: us) (.ref C :: vs) Q (ES σ) hr I3.env0 (.cons rfl rv) q2) fun r4 s4 hq => by
      cases r4 with
      | error e => exact hx σ _ H2 s3 e s4 I3 hq
      | ok fl => cases fl with
        | ret u => exact I3.after hq
        | next => exact hq.elim
        | brk => exact hq.elim
        | cont => exact hq.elim
  exact thn (wpAny_call (PySem.W.method_call (ClX.pin_at I3) run)) fun _ _ y => ClX.unpinE y
end

/-! ### hours with a property -/
def hrs (n : Int) (p : Int → Bool) : List Int := pick n.toNat (fun h => p (h : Int)) fun h => (h : Int)
theorem mem_hrs {n z : Int} {p : Int → Bool} : z ∈ hrs n p ↔ (0 ≤ z ∧ z < n) ∧ p z = true := by
  unfold hrs pick
  constructor
  · intro h
    obtain ⟨i, hi, rfl⟩ := List.mem_map.mp h
    have a := List.mem_filter.mp hi
    have b := List.mem_range.mp a.1
    exact ⟨⟨by omega, by omega⟩, a.2⟩
  · rintro ⟨⟨h0, h1⟩, h2⟩
    have e : ((z.toNat : Nat) : Int) = z := by omega
    exact List.mem_map.mpr ⟨z.toNat, List.mem_filter.mpr ⟨List.mem_range.mpr (by omega), by rw [e]; exact h2⟩, e⟩
theorem asc_hrs {n : Int} {p : Int → Bool} (hn : 0 ≤ n) : Asc 0 n (hrs n p) := by
  have h := asc_range (f := fun h => p (h : Int)) n.toNat
  rw [show ((n.toNat : Nat) : Int) = n by omega] at h
  exact h
theorem hrs_eq {n : Int} {p : Int → Bool} {xs : List Int} (hn : 0 ≤ n) (h : Asc 0 n xs) (hp : ∀ z, 0 ≤ z → z < n → (z ∈ xs ↔ p z = true)) : hrs n p = xs := by
  refine asc_unique (asc_hrs hn).1 h.1 fun z => ?_
  rw [mem_hrs]
  constructor
  · rintro ⟨⟨h0, h1⟩, h2⟩
    exact (hp z h0 h1).mpr h2
  · intro hz
    have b := h.2 z hz
    exact ⟨b, (hp z b.1 b.2).mp hz⟩
theorem hrs_congr {n : Int} {p q : Int → Bool} (h : ∀ z, 0 ≤ z → z < n → p z = q z) : hrs n p = hrs n q := by
  unfold hrs
  exact pick_congr fun i hi => h (i : Int) (by omega) (by omega)
theorem resid_hrs {n : Int} {S : List Int} {p : Int → Bool} (hp : ∀ z, 0 ≤ z → z < n → (z ∈ S ↔ p z = true)) : resid n S = hrs n p := by
  unfold resid hrs
  refine pick_congr fun i hi => ?_
  have := hp (i : Int) (by omega) (by omega)
  rw [Bool.eq_iff_iff, decide_eq_true_iff]
  exact this
theorem scan_nodup {n : Int} : ∀ {ms seen : List Int}, (ms.map (· % n)).Nodup → (∀ x ∈ ms, x % n ∉ seen) → scanR n seen ms = none
  | [], _, _, _ => rfl
  | x :: xs, seen, hd, hs => by
    have h := List.nodup_cons.mp hd
    unfold scanR
    rw [if_neg (hs x List.mem_cons_self)]
    refine scan_nodup h.2 fun y hy hm => ?_
    rcases List.mem_append.mp hm with q | q
    · exact hs y (List.mem_cons_of_mem _ hy) q
    · exact h.1 (List.mem_map.mpr ⟨y, hy, List.mem_singleton.mp q⟩)
theorem nodup_map {xs : List Int} {g : Int → Int} (hd : xs.Nodup) (hi : ∀ x ∈ xs, ∀ y ∈ xs, g x = g y → x = y) : (xs.map g).Nodup := by
  induction xs with
  | nil => exact .nil
  | cons x xs ih =>
    have h := List.nodup_cons.mp hd
    refine List.nodup_cons.mpr ⟨fun hm => ?_, ih h.2 fun a ha b hb => hi a (List.mem_cons_of_mem _ ha) b (List.mem_cons_of_mem _ hb)⟩
    obtain ⟨y, hy, e⟩ := List.mem_map.mp hm
    have := hi y (List.mem_cons_of_mem _ hy) x List.mem_cons_self e
    rw [this] at hy
    exact h.1 hy
theorem Asc.nodup {lo hi : Int} {xs : List Int} (h : Asc lo hi xs) : xs.Nodup := h.1.imp fun {a b} hab => by omega
theorem small_eq {n a b : Int} (hn : 0 < n) (h1 : a - b < n) (h2 : b - a < n) (h : a % n = b % n) : a = b := by
  have ea := Int.mul_ediv_add_emod a n
  have eb := Int.mul_ediv_add_emod b n
  have e : a - b = n * (a / n - b / n) := by rw [Int.mul_sub]; omega
  generalize a / n - b / n = q at e
  rcases Int.lt_trichotomy q 0 with hq | hq | hq
  · have := Int.mul_le_mul_of_nonneg_left (show q ≤ -1 by omega) (show 0 ≤ n by omega)
    omega
  · rw [hq] at e
    omega
  · have := Int.mul_le_mul_of_nonneg_left (show 1 ≤ q by omega) (show 0 ≤ n by omega)
    omega
/-- residues of moved hours -/
theorem mem_plus {n k z : Int} {xs : List Int} (hn : 0 < n) (h : Asc 0 n xs) (h0 : 0 ≤ z) (h1 : z < n) : z ∈ (xs.map fun x => x + k).map (· % n) ↔ (z - k) % n ∈ xs := by
  constructor
  · intro hz
    obtain ⟨y, hy, rfl⟩ := List.mem_map.mp hz
    obtain ⟨x, hx, rfl⟩ := List.mem_map.mp hy
    have b := h.2 x hx
    rw [Int.sub_emod, Int.emod_emod, ← Int.sub_emod, show x + k - k = x by omega, Int.emod_eq_of_lt b.1 b.2]
    exact hx
  · intro hz
    refine List.mem_map.mpr ⟨_, List.mem_map.mpr ⟨_, hz, rfl⟩, ?_⟩
    show ((z - k) % n + k) % n = z
    rw [Int.add_emod, Int.emod_emod, ← Int.add_emod, show z - k + k = z by omega, Int.emod_eq_of_lt h0 h1]
theorem nodup_plus {n k : Int} {xs : List Int} (hn : 0 < n) (h : Asc 0 n xs) : ((xs.map fun x => x + k).map (· % n)).Nodup := by
  rw [List.map_map]
  refine nodup_map h.nodup fun x hx y hy e => ?_
  have a := h.2 x hx
  have b := h.2 y hy
  have := small_eq hn (a := x + k) (b := y + k) (by omega) (by omega) e
  omega
theorem mem_minus {n z : Int} {xs : List Int} (hn : 0 < n) (h : Asc 0 n xs) (h0 : 0 ≤ z) (h1 : z < n) : z ∈ (xs.map fun x => -x).map (· % n) ↔ (0 - z) % n ∈ xs := by
  constructor
  · intro hz
    obtain ⟨y, hy, rfl⟩ := List.mem_map.mp hz
    obtain ⟨x, hx, rfl⟩ := List.mem_map.mp hy
    have b := h.2 x hx
    rw [Int.sub_emod, Int.emod_emod, ← Int.sub_emod, show 0 - -x = x by omega, Int.emod_eq_of_lt b.1 b.2]
    exact hx
  · intro hz
    refine List.mem_map.mpr ⟨_, List.mem_map.mpr ⟨_, hz, rfl⟩, ?_⟩
    show (-((0 - z) % n)) % n = z
    rw [show -((0 - z) % n) = 0 - (0 - z) % n by omega, Int.sub_emod, Int.emod_emod, ← Int.sub_emod, show 0 - (0 - z) = z by omega, Int.emod_eq_of_lt h0 h1]
theorem nodup_minus {n : Int} {xs : List Int} (hn : 0 < n) (h : Asc 0 n xs) : ((xs.map fun x => -x).map (· % n)).Nodup := by
  rw [List.map_map]
  refine nodup_map h.nodup fun x hx y hy e => ?_
  have a := h.2 x hx
  have b := h.2 y hy
  have := small_eq hn (a := -x) (b := -y) (by omega) (by omega) e
  omega
theorem mem_self {n z : Int} {xs : List Int} (h : Asc 0 n xs) : z ∈ xs.map (· % n) ↔ z ∈ xs := by
  have := asc_mod h
  rw [this]
/-- ints told apart -/
theorem eqv_ints : ∀ xs ys : List Int, PyData.eqvAll (xs.map PyData.int) (ys.map PyData.int) = decide (xs = ys)
  | [], [] => by simp [PyData.eqvAll]
  | [], y :: ys => by simp [PyData.eqvAll]
  | x :: xs, [] => by simp [PyData.eqvAll]
  | x :: xs, y :: ys => by
    rw [List.map_cons, List.map_cons, PyData.eqvAll, eqv_ints xs ys, PyData.eqv]
    by_cases e : x = y
    · subst e; simp
    · simp [e]
theorem eqv_intsL {xs ys : List Int} : PyData.eqv (.list (xs.map PyData.int)) (.list (ys.map PyData.int)) = decide (xs = ys) := by
  rw [PyData.eqv, eqv_ints]
theorem lay_ints : ∀ xs : List Int, PyData.canLayAll0 (xs.map PyData.int) = true
  | [] => by simp [PyData.canLayAll0]
  | x :: xs => by
    have := lay_ints xs
    simp [PyData.canLayAll0, PyData.canLay0, this]
theorem depth_ints : ∀ xs : List Int, PyData.depthAll (xs.map PyData.int) ≤ 1
  | [] => by simp [PyData.depthAll]
  | x :: xs => by
    have := depth_ints xs
    simp [PyData.depthAll, PyData.depth]
    omega
theorem shaped_ints (xs : List Int) : SeqAt.shaped (.list (xs.map PyData.int)) = true := by
  have h1 := lay_ints xs
  have h2 := depth_ints xs
  unfold SeqAt.shaped
  simp [PyData.canLay0, PyData.depth, h1]
  omega
/-- v is a lot: its hours and members -/
structure LotIs (C : Addr) (v : V) (H : Hp) (n : Int) (xs : List Int) : Prop where
  at_ : LotAt C H v n xs
  hn : 1 ≤ n ∧ n ≤ 360
  asc : Asc 0 n xs
theorem LotIs.ex {C : Addr} {v : V} {H H' : Hp} {n : Int} {xs : List Int} (e : Ex H H') (h : LotIs C v H n xs) : LotIs C v H' n xs := ⟨h.at_.ex e, h.hn, h.asc⟩
theorem LotIs.len {C : Addr} {v : V} {H : Hp} {n : Int} {xs : List Int} (h : LotIs C v H n xs) : xs.length ≤ 360 := by
  have := h.asc.len
  have := h.hn
  omega

/-! ### turns: their step, the least one -/
def turnL (n k : Int) (xs : List Int) : List Int := hrs n fun z => decide ((z - k) % n ∈ xs)
theorem mem_turnL {n k z : Int} {xs : List Int} : z ∈ turnL n k xs ↔ (0 ≤ z ∧ z < n) ∧ (z - k) % n ∈ xs := by
  unfold turnL
  rw [mem_hrs, decide_eq_true_iff]
theorem turnL_cong {n k j : Int} {xs : List Int} (h : k % n = j % n) : turnL n k xs = turnL n j xs := by
  unfold turnL
  refine hrs_congr fun z _ _ => ?_
  rw [Int.sub_emod z k, h, ← Int.sub_emod]
theorem turnL_turnL {n k j : Int} {xs : List Int} (hn : 0 < n) : turnL n k (turnL n j xs) = turnL n (j + k) xs := by
  unfold turnL
  refine hrs_congr fun z _ _ => ?_
  have m0 := Int.emod_nonneg (z - k) (show n ≠ 0 by omega)
  have m1 := Int.emod_lt_of_pos (z - k) hn
  have e : ((z - k) % n - j) % n = (z - (j + k)) % n := by rw [Int.sub_emod, Int.emod_emod, ← Int.sub_emod, show z - k - j = z - (j + k) by omega]
  rw [decide_eq_decide, mem_hrs, decide_eq_true_iff, e]
  exact ⟨fun q => q.2, fun q => ⟨⟨m0, m1⟩, q⟩⟩
theorem turnL_zero {n : Int} {xs : List Int} (hn : 0 < n) (h : Asc 0 n xs) : turnL n 0 xs = xs := by
  unfold turnL
  refine hrs_eq (by omega) h fun z h0 h1 => ?_
  rw [decide_eq_true_iff, show z - 0 = z by omega, Int.emod_eq_of_lt h0 h1]
theorem asc_turnL {n k : Int} {xs : List Int} (hn : 0 < n) : Asc 0 n (turnL n k xs) := asc_hrs (by omega)
/-- k is a number by which the hours can be turned without a change -/
def Per (n : Int) (xs : List Int) (k : Int) : Prop := turnL n k xs = xs
theorem per_n {n : Int} {xs : List Int} (hn : 0 < n) (h : Asc 0 n xs) : Per n xs n := by
  unfold Per
  rw [turnL_cong (j := 0) (by simp), turnL_zero hn h]
theorem per_sub {n j k : Int} {xs : List Int} (hn : 0 < n) (h : Asc 0 n xs) (h1 : Per n xs j) (h2 : Per n xs k) : Per n xs (j - k) := by
  unfold Per at *
  have e : turnL n (k + (j - k)) xs = turnL n (j - k) (turnL n k xs) := (turnL_turnL hn).symm
  rw [h2, show k + (j - k) = j by omega, h1] at e
  exact e.symm
theorem per_mul {n k : Int} {xs : List Int} (hn : 0 < n) (h : Asc 0 n xs) (h2 : Per n xs k) : ∀ m : Nat, Per n xs (n - k * (m : Int))
  | 0 => by simpa using per_n hn h
  | m + 1 => by
    have := per_sub hn h (per_mul hn h h2 m) h2
    have e : n - k * ((m + 1 : Nat) : Int) = n - k * (m : Int) - k := by
      rw [show ((m + 1 : Nat) : Int) = (m : Int) + 1 by omega, Int.mul_add]
      omega
    rw [e]
    exact this
/-- p is the least such number from 1 on -/
structure IsStep (n : Int) (xs : List Int) (p : Int) : Prop where
  lo : 1 ≤ p
  hi : p ≤ n
  per : Per n xs p
  least : ∀ k, 1 ≤ k → k < p → ¬ Per n xs k
theorem IsStep.uniq {n p q : Int} {xs : List Int} (a : IsStep n xs p) (b : IsStep n xs q) : p = q := by
  rcases Int.lt_trichotomy p q with h | h | h
  · exact absurd a.per (b.least p a.lo h)
  · exact h
  · exact absurd b.per (a.least q b.lo h)
theorem IsStep.dvd {n p : Int} {xs : List Int} (hn : 0 < n) (h : Asc 0 n xs) (s : IsStep n xs p) : n % p = 0 := by
  have r0 := Int.emod_nonneg n (show p ≠ 0 by have := s.lo; omega)
  have r1 := Int.emod_lt_of_pos n (show 0 < p by have := s.lo; omega)
  by_cases e : n % p = 0
  · exact e
  · refine absurd ?_ (s.least (n % p) (by omega) r1)
    have m := per_mul hn h s.per (n / p).toNat
    have q0 : 0 ≤ n / p := Int.ediv_nonneg (by omega) (by have := s.lo; omega)
    rw [show ((n / p).toNat : Int) = n / p by omega] at m
    have d := Int.mul_ediv_add_emod n p
    rwa [show n - p * (n / p) = n % p by omega] at m
theorem step_ex {n : Int} {xs : List Int} (hn : 0 < n) (h : Asc 0 n xs) : ∃ p, IsStep n xs p := by
  have key : ∀ m : Nat, (∃ p, IsStep n xs p) ∨ ∀ k : Int, 1 ≤ k → k ≤ (m : Int) → k ≤ n → ¬ Per n xs k := fun m => by
    induction m with
    | zero => exact .inr fun k h1 h2 => by omega
    | succ m ih =>
      rcases ih with ih | ih
      · exact .inl ih
      · by_cases hm : ((m : Int) + 1 ≤ n) ∧ Per n xs ((m : Int) + 1)
        · exact .inl ⟨(m : Int) + 1, by omega, hm.1, hm.2, fun k h1 h2 => ih k h1 (by omega) (by omega)⟩
        · refine .inr fun k h1 h2 h3 => ?_
          by_cases e : k = (m : Int) + 1
          · subst e
            exact fun z => hm ⟨h3, z⟩
          · exact ih k h1 (by omega) h3
  rcases key n.toNat with k | k
  · exact k
  · exact absurd (per_n hn h) (k n (by omega) (by omega) (by omega))
/-- L is the least of the turned lists -/
structure IsLeast (n : Int) (xs L : List Int) : Prop where
  some_ : ∃ k, L = turnL n k xs
  none_ : ∀ k, ¬ turnL n k xs < L
theorem IsLeast.uniq {n : Int} {xs L M : List Int} (a : IsLeast n xs L) (b : IsLeast n xs M) : L = M := by
  obtain ⟨k, hk⟩ := a.some_
  obtain ⟨j, hj⟩ := b.some_
  exact List.le_antisymm (by have := a.none_ j; rw [← hj] at this; exact this) (by have := b.none_ k; rw [← hk] at this; exact this)
theorem IsLeast.turn {n j : Int} {xs L : List Int} (hn : 0 < n) (a : IsLeast n xs L) : IsLeast n (turnL n j xs) L := by
  obtain ⟨k, hk⟩ := a.some_
  refine ⟨⟨k - j, by rw [turnL_turnL hn, show j + (k - j) = k by omega]; exact hk⟩, fun m => ?_⟩
  rw [turnL_turnL hn]
  exact a.none_ _
theorem IsLeast.self {n : Int} {xs L : List Int} (hn : 0 < n) (a : IsLeast n xs L) : IsLeast n L L := by
  obtain ⟨k, hk⟩ := a.some_
  have := a.turn (j := k) hn
  rwa [← hk] at this
/-- equal least turns: turned into each other -/
theorem least_iff {n : Int} {xs ys L M : List Int} (hn : 0 < n) (hx : Asc 0 n xs) (hy : Asc 0 n ys) (a : IsLeast n xs L) (b : IsLeast n ys M) : L = M ↔ ∃ k : Int, (0 ≤ k ∧ k < n) ∧ turnL n k xs = ys := by
  constructor
  · intro e
    obtain ⟨k, hk⟩ := a.some_
    obtain ⟨j, hj⟩ := b.some_
    have m0 := Int.emod_nonneg (k - j) (show n ≠ 0 by omega)
    have m1 := Int.emod_lt_of_pos (k - j) hn
    refine ⟨(k - j) % n, ⟨m0, m1⟩, ?_⟩
    rw [turnL_cong (j := k - j) (by simp)]
    have e2 : turnL n (k + -j) xs = turnL n (-j) (turnL n k xs) := (turnL_turnL hn).symm
    rw [← hk, e, hj, turnL_turnL hn, show j + -j = 0 by omega, turnL_zero hn hy, show k + -j = k - j by omega] at e2
    exact e2
  · rintro ⟨k, _, rfl⟩
    exact (a.turn hn).uniq b
theorem lt_le_trans {a b c : List Int} (h : a < b) (h2 : ¬ c < b) : a < c := by
  by_cases e : c = b
  · rw [e]; exact h
  · have : b < c := by
      by_cases z : b < c
      · exact z
      · exact absurd (List.le_antisymm (show b ≤ c from h2) (show c ≤ b from z)).symm e
    exact List.lt_trans h this
/-- only a turn that puts a member at 0 can be the least one -/
theorem least_of_members {n : Int} {xs L : List Int} (hn : 0 < n) (hA : Asc 0 n xs) (h1 : ∃ k, L = turnL n k xs) (h2 : ¬ xs < L) (h3 : ∀ m ∈ xs, ¬ turnL n (-m) xs < L) : IsLeast n xs L := by
  refine ⟨h1, fun k hk => ?_⟩
  cases hx : xs with
  | nil =>
    have e : turnL n k xs = xs := by
      rw [hx]
      unfold turnL
      exact hrs_eq (by omega) .nil fun z _ _ => by simp
    rw [e] at hk
    exact h2 hk
  | cons m r =>
    have hm : m ∈ xs := by rw [hx]; exact List.mem_cons_self
    have bm := hA.2 m hm
    by_cases h0 : (0 - k) % n ∈ xs
    · refine h3 _ h0 ?_
      rw [turnL_cong (j := k)]
      · exact hk
      · rw [show -((0 - k) % n) = 0 - (0 - k) % n by omega, Int.sub_emod, Int.emod_emod, ← Int.sub_emod, show 0 - (0 - k) = k by omega]
    · have z0 : (0 : Int) ∈ turnL n (-m) xs := mem_turnL.mpr ⟨⟨by omega, hn⟩, by rw [show 0 - -m = m by omega, Int.emod_eq_of_lt bm.1 bm.2]; exact hm⟩
      have mk : (m + k) % n ∈ turnL n k xs := mem_turnL.mpr ⟨⟨Int.emod_nonneg _ (by omega), Int.emod_lt_of_pos _ hn⟩, by rw [Int.sub_emod, Int.emod_emod, ← Int.sub_emod, show m + k - k = m by omega, Int.emod_eq_of_lt bm.1 bm.2]; exact hm⟩
      have aT := asc_turnL (n := n) (k := -m) (xs := xs) hn
      have aK := asc_turnL (n := n) (k := k) (xs := xs) hn
      cases hT : turnL n (-m) xs with
      | nil => rw [hT] at z0; cases z0
      | cons t ts =>
        cases hK : turnL n k xs with
        | nil => rw [hK] at mk; cases mk
        | cons u us =>
          rw [hT] at z0 aT
          have t0 : t = 0 := by
            have b := aT.2 t List.mem_cons_self
            rcases List.mem_cons.mp z0 with e | e
            · exact e.symm
            · have := (List.pairwise_cons.mp aT.1).1 0 e
              omega
          have u0 : 0 < u := by
            have hu : u ∈ turnL n k xs := by rw [hK]; exact List.mem_cons_self
            have b := mem_turnL.mp hu
            by_cases e : u = 0
            · rw [e] at b; exact absurd b.2 h0
            · omega
          refine h3 m hm ?_
          rw [hT]
          rw [hK] at hk
          exact List.lt_trans (show t :: ts < u :: us from List.cons_lt_cons_iff.mpr (.inl (by omega))) hk
theorem ltI_data {xs ys : List Int} : PySem.W.dataLt (.list (xs.map PyData.int)) (.list (ys.map PyData.int)) = decide (xs < ys) := by
  rw [PySem.W.dataLt_list]
  exact PySem.W.dataLt_ints xs ys
/-- xs < ys, xs == ys of lists of ints -/
theorem rv_ltI {K : PySem.W.Frag} {H : Hp} {a b : Addr} {xs ys : List Int} (h1 : SqL K H a (xs.map V.int)) (h2 : SqL K H b (ys.map V.int)) : RV (rLtD K) (.ref a) (.ref b) H (.bl (decide (xs < ys))) := fun H1 e Q q =>
  ⟨.list (xs.map .int), .list (ys.map .int), .lst (ex_l e h1) (dp_ints _), .lst (ex_l e h2) (dp_ints _), by simp [PySem.W.alike, alike_ints], (fun z => by cases z), (by have := depth_ints xs; simp [PyData.depth]; omega), by rw [ltI_data]; exact q H1 (Ex.refl H1)⟩
theorem rv_eqI {K : PySem.W.Frag} {H : Hp} {a b : Addr} {xs ys : List Int} (h1 : SqL K H a (xs.map V.int)) (h2 : SqL K H b (ys.map V.int)) : RV (rEqD K) (.ref a) (.ref b) H (.bl (decide (xs = ys))) := fun H1 e Q q =>
  ⟨.list (xs.map .int), .list (ys.map .int), .lst (ex_l e h1) (dp_ints _), .lst (ex_l e h2) (dp_ints _), shaped_ints _, shaped_ints _, by rw [eqv_intsL]; exact q H1 (Ex.refl H1)⟩

/-! ### an object made within a try -/
section
open PySem.Spec PyProof.Rows
variable {X : Cx} {CX : CXT} {k : Nat} {f C : Addr} {fd : FuncData} {ps : List Str} {sp : Sp} {dvs : List V} {ds : List Value} {E : L2.St → XK} {x : Str} {p pos : Pos} {e : Expr} {es : List Expr} {t : TA}
def tMakeS (C : Addr) (sp : Sp) (dvs : List V) (E : L2.St → XK) (t : TA) : TE := fun σ H Q => t σ H fun vs H1 => ∀ x dx, H1 x = none → H1 dx = none → dx ≠ x →
  sp (.ref x :: (vs ++ dvs)) (upd (upd H1 dx (.own x)) x (.ins C dx [])) (fun v H2 => v = .non ∧ Q (.ref x) H2) (E σ)
theorem pe_makeS (M : Mk X.K C f) (F : FnOk X.prog X.w X.K X.mg X.base CX k f fd ps sp) (hr : Room (k + 1) X.A) (hg : Gl X x) (hm : X.mg x = some (.ref C)) (hb : Binds X.K fd ps ds) (hd : Vals dvs ds) (hx : ∀ σ, PassesAt CX X σ (E σ))
    (ha : PA X (e :: es) t) (hdb : (x == ("__debug__" : Str)) = false := by decide) (he : starEach (e :: es) X.env = (false, eval e X.env) :: starEach es X.env := by rfl) (hpl : (backTo pos (starEach es X.env)).any (·.1) = false := by rfl) :
    PE X (.Call (.Name x p) (e :: es) [] pos) (tMakeS C sp dvs E t) := by
  refine ⟨fun pins s σ H Q I h => wpAny_Call_Name_kw (ld_glob I hg hm ?_ hdb)⟩
  refine PySem.W.callWith_K (h₀ := X.base) I.ok.mod.kin M.kp (thn (ha.run pos pins s σ H _ I h) fun us s1 hu => ?_) he hpl
  obtain ⟨vs, H1, J, r, q⟩ := hu
  refine ⟨J.kIn, ?_⟩
  have hq := q (s1.heap.objs.size + 1) s1.heap.objs.size (J.hok.fresh (Nat.le_succ _)) (J.hok.fresh (Nat.le_refl _)) (Nat.ne_of_lt (Nat.lt_succ_self _))
  have J2 := Inv.made (C := C) J
  have r2 : Vals (V.ref (s1.heap.objs.size + 1) :: (vs ++ dvs)) (Value.ref (s1.heap.objs.size + 1) :: (us ++ ds)) := .cons rfl (r.append hd)
  have hl : (Value.ref (s1.heap.objs.size + 1) :: us ++ ds).length = ps.length := by
    have e0 := r2.length
    rw [F.len _ _ _ _ hq] at e0
    exact e0.symm
  have go := F.run _ X.stack _ _ ⟨Value.ref (s1.heap.objs.size + 1) :: us, []⟩ (Value.ref (s1.heap.objs.size + 1) :: (us ++ ds)) _ _ (E σ) (hr.make C us []) (J2.env0.make C us []) (hb _ (Value.ref (s1.heap.objs.size + 1) :: us) J2.kIn hl) r2 hq
  refine wpAny_call (make_map (f := f) J.kIn M.makes M.init (beq_iff_eq.mp M.fn) (codeAny_mono go fun r3 s3 hq3 => ?_))
  cases r3 with
  | error e => exact hx σ pins _ _ e s3 J2 hq3
  | ok fl => cases fl with
    | ret u =>
      obtain ⟨v, H3, J3, rv, ev, q3⟩ := J2.after hq3
      subst ev
      exact ⟨rv, ⟨V.ref (s1.heap.objs.size + 1), H3, J3, rfl, q3⟩⟩
    | next => exact hq3.elim
    | brk => exact hq3.elim
    | cont => exact hq3.elim
end

/-! ### letters and words -/
def LET : Str := "abcdefghijklmnopqrstuvwxyz"
theorem let_list : LET.cps.toList = (List.range 26).map fun c => 97 + c := by decide +kernel
theorem mem_let {c : Nat} : c ∈ LET.cps.toList ↔ 97 ≤ c ∧ c ≤ 122 := by
  rw [let_list]
  constructor
  · intro h
    obtain ⟨i, hi, rfl⟩ := List.mem_map.mp h
    have := List.mem_range.mp hi
    omega
  · rintro ⟨h0, h1⟩
    exact List.mem_map.mpr ⟨c - 97, List.mem_range.mpr (by omega), by omega⟩
theorem let_at {i : Int} (h : 0 ≤ i ∧ i < 26) : atI LET.cps.toList i = some (97 + i.toNat) := by
  have h2 := atI_nat (xs := LET.cps.toList) (j := i.toNat) (v := 97 + i.toNat) (by rw [let_list, List.getElem?_map, List.getElem?_range (by omega)]; rfl)
  rwa [Int.toNat_of_nonneg h.1] at h2
theorem let_occ {c : Nat} (h : 97 ≤ c ∧ c ≤ 122) : Builtin.Str.occurrences LET ⟨#[c]⟩ 0 LET.length 1 = [c - 97] := by
  have e : ∀ i : Nat, i < 26 → Builtin.Str.occurrences LET ⟨#[97 + i]⟩ 0 LET.length 1 = [i] := by decide +kernel
  have := e (c - 97) (by omega)
  rwa [show 97 + (c - 97) = c by omega] at this
/-- a text by its signs -/
def txt (l : List Nat) : Str := ⟨l.toArray⟩
theorem txt_list (l : List Nat) : (txt l).cps.toList = l := rfl
theorem txt_len (l : List Nat) : (txt l).length = l.length := by simp [txt, Str.length]
theorem txt_of (z : Str) : txt z.cps.toList = z := by cases z; simp [txt]
theorem txt_inj {a b : List Nat} (h : txt a = txt b) : a = b := by
  have := congrArg (fun z : Str => z.cps.toList) h
  simpa [txt] using this
theorem txt_add (a b : List Nat) : txt a ++ txt b = txt (a ++ b) := by
  show (⟨_ ++ _⟩ : Str) = _
  simp [txt]
theorem txt_one (c : Nat) : (⟨#[c]⟩ : Str) = txt [c] := rfl
/-- 1 to 8 letters -/
structure Word (z : Str) : Prop where
  len : 1 ≤ z.length ∧ z.length ≤ 8
  all : ∀ c ∈ z.cps.toList, 97 ≤ c ∧ c ≤ 122
theorem cut_last {l : List Nat} : cutS (txt l) none (some (-1)) = txt l.dropLast := by
  unfold cutS
  rw [HT.sIx_none, txt_len, txt_list, List.drop_zero, Nat.sub_zero, List.dropLast_eq_take]
  show txt _ = txt _
  congr 2
  show (if (-1 : Int) < 0 then ((-1 : Int) + (l.length : Int)).toNat else min (-1 : Int).toNat l.length) = _
  rw [if_pos (by decide)]
  omega
/-- one letter on, at the end -/
def bump (p : List Nat) (c i : Nat) : Str := txt (p ++ [97 + (c + i) % 26])
theorem bump_inj {p : List Nat} {c i j : Nat} (hi : i < 26) (hj : j < 26) (h : bump p c i = bump p c j) : i = j := by
  have e := List.append_inj_right' (txt_inj h) rfl
  simp at e
  omega
theorem word_split {z : Str} (h : Word z) : ∃ (p : List Nat) (c : Nat), c < 26 ∧ p.length ≤ 7 ∧ (∀ d ∈ p, 97 ≤ d ∧ d ≤ 122) ∧ z = bump p c 0 := by
  obtain ⟨⟨h1, h2⟩, ha⟩ := h
  have hl : z.cps.toList.length = z.length := by simp [Str.length]
  have hne : z.cps.toList ≠ [] := fun e => by rw [e] at hl; simp at hl; omega
  have hm := ha _ (List.getLast_mem hne)
  have hs := List.dropLast_concat_getLast hne
  refine ⟨z.cps.toList.dropLast, z.cps.toList.getLast hne - 97, by omega, by rw [List.length_dropLast]; omega, fun d hd => ha d (List.dropLast_subset _ hd), ?_⟩
  unfold bump
  rw [show 97 + (z.cps.toList.getLast hne - 97 + 0) % 26 = z.cps.toList.getLast hne by omega, hs, txt_of]
theorem bump_word {p : List Nat} {c i : Nat} (hp : p.length ≤ 7) (ha : ∀ d ∈ p, 97 ≤ d ∧ d ≤ 122) : Word (bump p c i) := by
  refine ⟨?_, fun d hd => ?_⟩
  · unfold bump
    rw [txt_len, List.length_append]
    simp
    omega
  · unfold bump at hd
    rw [txt_list] at hd
    rcases List.mem_append.mp hd with h | h
    · exact ha d h
    · have := List.mem_singleton.mp h
      omega
theorem bump_next {p : List Nat} {c i : Nat} : txt p ++ (⟨#[97 + ((97 + (c + i) % 26) - 97 + 1) % 26]⟩ : Str) = bump p c (i + 1) := by
  rw [txt_one, txt_add]
  unfold bump
  congr 3
  omega
theorem nodup_sub {α : Type} [DecidableEq α] : ∀ {l m : List α}, l.Nodup → (∀ x ∈ l, x ∈ m) → l.length ≤ m.length
  | [], _, _, _ => Nat.zero_le _
  | x :: l, m, hd, hs => by
    have h := List.nodup_cons.mp hd
    have hx := hs x List.mem_cons_self
    have ih := nodup_sub (m := m.erase x) h.2 fun y hy => (List.mem_erase_of_ne fun e => h.1 (by rw [← e]; exact hy)).mpr (hs y (List.mem_cons_of_mem _ hy))
    rw [List.length_erase_of_mem hx] at ih
    have := List.length_pos_of_mem hx
    rw [List.length_cons]
    omega
theorem bumps_out {p : List Nat} {c : Nat} {ns : List Str} (hn : ns.length ≤ 7) (h : ∀ s : Nat, s < 8 → bump p c s ∈ ns) : False := by
  have hd : ((List.range 8).map (bump p c)).Nodup := by
    refine List.pairwise_map.mpr (List.Pairwise.imp_of_mem (fun {i j} hi hj hne e => hne (bump_inj (by have := List.mem_range.mp hi; omega) (by have := List.mem_range.mp hj; omega) e)) List.nodup_range)
  have := nodup_sub hd (m := ns) fun x hx => by
    obtain ⟨i, hi, rfl⟩ := List.mem_map.mp hx
    exact h i (List.mem_range.mp hi)
  rw [List.length_map, List.length_range] at this
  omega
theorem inV_strs {x : Str} {ns : List Str} : inV (V.str x) (ns.map V.str) = decide (x ∈ ns) := by
  unfold inV
  induction ns with
  | nil => rfl
  | cons y ns ih =>
    rw [List.map_cons, List.any_cons, ih]
    by_cases h : y = x
    · subst h
      simp [eqV]
    · have h' : ¬ x = y := fun z => h z.symm
      simp [eqV, h, h']
theorem strs_flat (ns : List Str) : (ns.map V.str).all flatV = true := by
  rw [List.all_map, List.all_eq_true]
  exact fun _ _ => rfl
theorem some_str {ns : List Str} {i : Nat} {y : V} (h : (ns.map V.str)[i]? = some y) : ∃ u, y = V.str u ∧ ns[i]? = some u := by
  rw [List.getElem?_map] at h
  cases e : ns[i]? with
  | none => rw [e] at h; cases h
  | some u => rw [e] at h; exact ⟨u, (Option.some.inj h).symm, rfl⟩
/-! ### terms on texts -/
theorem rv_addS {H : Hp} {x y : Str} (h : x.length + y.length ≤ 100000) : RV (fun x y H Q => ∃ i j, x = .str i ∧ y = .str j ∧ i.length + j.length ≤ sizeLine ∧ Q (.str (i ++ j)) H) (.str x) (.str y) H (.str (x ++ y)) := fun H1 _ Q q => ⟨x, y, rfl, rfl, sz_of h, q H1 (Ex.refl H1)⟩
theorem ev_slS {te : TE} {tl th : TO} {σ : L2.St} {H : Hp} {z : Str} {lo hi : Option Int} (h : Ev te σ H (.str z)) (h1 : EvO tl σ H lo) (h2 : EvO th σ H hi) (hz : z.length ≤ 100000) : Ev (L2.tSl rSlS te tl th) σ H (.str (cutS z lo hi)) := fun H1 e Q q =>
  h H1 e _ fun H2 e2 => h1 H2 (e.trans e2) _ fun H3 e3 => h2 H3 ((e.trans e2).trans e3) _ fun H4 e4 => ⟨z, rfl, sz_of hz, q H4 ((e2.trans e3).trans e4)⟩
theorem ev_letIx {to te : TE} {σ : L2.St} {H : Hp} {c : Nat} (ho : Ev to σ H (.str LET)) (he : Ev te σ H (.str ⟨#[c]⟩)) (hc : 97 ≤ c ∧ c ≤ 122) : Ev (tM1 (fun x xs H Q => ∃ a b i rest, x = .str a ∧ xs = [.str b] ∧ Builtin.Str.occurrences a b 0 a.length 1 = i :: rest ∧ Q (.int (i : Nat)) H) to te) σ H (.int ((c - 97 : Nat) : Int)) := fun H1 e Q q =>
  ho H1 e _ fun H2 e2 => ⟨⟨_, rfl⟩, he H2 (e.trans e2) _ fun H3 e3 => ⟨LET, _, c - 97, [], rfl, rfl, let_occ hc, q H3 (e2.trans e3)⟩⟩
theorem ei_str {σ : L2.St} {H : Hp} {te : TE} {z : Str} (h : Ev te σ H (.str z)) : EvI (iStr te) σ H z.cps.size (fun i G v G' => G' = G ∧ ∃ c, z.cps[i]? = some c ∧ v = .str ⟨#[c]⟩) := fun H1 e R r => h H1 e _ fun H2 e2 =>
  ⟨z, rfl, r _ _ e2 (walk_str.mono (fun _ _ => True.intro) fun _ _ _ _ _ _ y => y)⟩
theorem rv_niS {H : Hp} {c : Nat} {z : Str} : RV (fun x y H Q => ∃ (c : Nat) (z : Str), x = .str ⟨#[c]⟩ ∧ y = .str z ∧ Q (.bl (!decide (c ∈ z.cps.toList))) H) (.str ⟨#[c]⟩) (.str z) H (.bl (!decide (c ∈ z.cps.toList))) := fun H1 _ Q q => ⟨c, z, rfl, rfl, q H1 (Ex.refl H1)⟩
theorem ev_lenS {K : PySem.W.Frag} {te : TE} {σ : L2.St} {H : Hp} {z : Str} (h : Ev te σ H (.str z)) (hz : z.length ≤ 100000) : Ev (tCB (rLenK K) (tCons te tNil)) σ H (.int (z.length : Int)) := ev_cb (ea_cons h ea_nil) fun H2 e2 Q q => ⟨.str z, z.length, rfl, ⟨sz_of hz, rfl⟩, q H2 (Ex.refl H2)⟩

/-! ### houses -/
theorem in_getD {α : Type} {xs : List α} {i : Nat} {d : α} (h : i < xs.length) : xs.getD i d ∈ xs := by
  rw [List.getD_eq_getElem?_getD, List.getElem?_eq_getElem h]
  exact List.getElem_mem _
def houF (n : Int) (p q : Addr) : List (Str × V) := [("hours", .int n), ("names", .ref p), ("stakes", .ref q)]
/-- v is a house of these hours and gates -/
def HouseIs (C : Addr) (v : V) (H : Hp) (n : Int) (gs : List (Str × Int)) : Prop := ∃ a dx p q, v = .ref a ∧ H a = some (.ins C dx (houF n p q)) ∧ H p = some (.tup ((gs.map (·.1)).map V.str)) ∧ H q = some (.tup ((gs.map (·.2)).map V.int))
theorem HouseIs.ex {C : Addr} {v : V} {H H' : Hp} {n : Int} {gs : List (Str × Int)} (e : Ex H H') (h : HouseIs C v H n gs) : HouseIs C v H' n gs := by
  obtain ⟨a, dx, p, q, rfl, h1, h2, h3⟩ := h
  exact ⟨a, dx, p, q, rfl, e _ _ h1, e _ _ h2, e _ _ h3⟩
/-- a list of pairs of a name and a stake -/
structure Gates (K : PySem.W.Frag) (H : Hp) (p : Addr) (gs : List (Str × Int)) : Prop where
  all : ∃ vs : List V, SqL K H p vs ∧ vs.length = gs.length ∧ ∀ (i : Nat) v, vs[i]? = some v → ∃ t, v = .ref t ∧ ∀ g, gs[i]? = some g → SqT K H t [.str g.1, .int g.2]
theorem Gates.ex {K : PySem.W.Frag} {H H' : Hp} {p : Addr} {gs : List (Str × Int)} (e : Ex H H') (h : Gates K H p gs) : Gates K H' p gs := by
  obtain ⟨vs, h1, h2, h3⟩ := h.all
  exact ⟨vs, ex_l e h1, h2, fun i v hv => (h3 i v hv).imp fun t h => ⟨h.1, fun g hg => ex_t e (h.2 g hg)⟩⟩
def goodName (z : Str) : Bool := decide (1 ≤ z.length ∧ z.length ≤ 8) && z.cps.toList.all fun c => decide (c ∈ LET.cps.toList)
theorem word_good {z : Str} (h : Word z) : goodName z = true := by
  unfold goodName
  rw [Bool.and_eq_true, decide_eq_true_iff, List.all_eq_true]
  exact ⟨h.len, fun c hc => decide_eq_true (mem_let.mpr (h.all c hc))⟩
inductive HErr where
  | hours
  | noGates
  | manyGates
  | name (z : Str)
  | again (z : Str)
  | stake (s : Int)
  | cells
/-- the first fault of the gates -/
def scanG : List Str → List (Str × Int) → Option HErr
  | _, [] => none
  | seen, g :: r => if goodName g.1 = false then some (.name g.1) else if g.1 ∈ seen then some (.again g.1) else if g.2 < 0 ∨ 60 < g.2 then some (.stake g.2) else scanG (seen ++ [g.1]) r
def houseErr (n : Int) (gs : List (Str × Int)) : Option HErr := if n < 1 ∨ 24 < n then some .hours else if gs.length = 0 then some .noGates else if 4 < gs.length then some .manyGates else
  match scanG [] gs with
  | some e => some e
  | none => if 48 < n * (gs.length : Int) then some .cells else none
theorem scan_good : ∀ {gs : List (Str × Int)} {seen : List Str}, (∀ g ∈ gs, Word g.1 ∧ 0 ≤ g.2 ∧ g.2 ≤ 60) → (seen ++ gs.map (·.1)).Nodup → scanG seen gs = none
  | [], _, _, _ => rfl
  | g :: gs, seen, h, hd => by
    have hg := h g List.mem_cons_self
    unfold scanG
    rw [List.map_cons] at hd
    have hn : g.1 ∉ seen := fun hm => (List.nodup_append.mp hd).2.2 _ hm _ List.mem_cons_self rfl
    rw [if_neg (by rw [word_good hg.1]; simp), if_neg hn, if_neg (by omega)]
    refine scan_good (fun x hx => h x (List.mem_cons_of_mem _ hx)) ?_
    rw [List.append_assoc]
    exact hd
theorem house_good {n : Int} {gs : List (Str × Int)} (hn : 1 ≤ n ∧ n ≤ 24) (hl : 1 ≤ gs.length ∧ gs.length ≤ 4) (hg : ∀ g ∈ gs, Word g.1 ∧ 0 ≤ g.2 ∧ g.2 ≤ 60) (hd : (gs.map (·.1)).Nodup) (hc : n * (gs.length : Int) ≤ 48) : houseErr n gs = none := by
  unfold houseErr
  rw [if_neg (by omega), if_neg (by omega), if_neg (by omega), scan_good hg (by simpa using hd)]
  exact if_neg (by omega)

/-! ### spreads of tries -/
abbrev T3 := Int × Int × Int
structure TripT (K : PySem.W.Frag) (H : Hp) (p : Addr) (ts : List T3) : Prop where
  all : ∃ vs : List V, SqT K H p vs ∧ vs.length = ts.length ∧ ∀ (i : Nat) v, vs[i]? = some v → ∃ t, v = .ref t ∧ ∀ x, ts[i]? = some x → SqT K H t [.int x.1, .int x.2.1, .int x.2.2]
theorem TripT.ex {K : PySem.W.Frag} {H H' : Hp} {p : Addr} {ts : List T3} (e : Ex H H') (h : TripT K H p ts) : TripT K H' p ts := by
  obtain ⟨vs, h1, h2, h3⟩ := h.all
  exact ⟨vs, ex_t e h1, h2, fun i v hv => (h3 i v hv).imp fun t h => ⟨h.1, fun g hg => ex_t e (h.2 g hg)⟩⟩
def inHouse (n : Int) (m : Nat) (g h : Int) : Bool := decide ((0 ≤ g ∧ g < (m : Int)) ∧ 0 ≤ h ∧ h < n)
def lexLe (a b c d : Int) : Bool := decide (a < c ∨ (a = c ∧ b ≤ d))
/-- the index of the first wrong triple -/
def firstW (n : Int) (m : Nat) : Nat → Int → Int → List T3 → Option Nat
  | _, _, _, [] => none
  | k, b, c, t :: r => if (!inHouse n m t.1 t.2.1 || decide (t.2.2 < 1) || lexLe t.1 t.2.1 b c) = true then some k else firstW n m (k + 1) t.1 t.2.1 r
inductive TRes where
  | wrong (k : Nat)
  | many
  | ok (z : Int)
def triesRes (n : Int) (m : Nat) (ts : List T3) : TRes := match firstW n m 0 (-1) (-1) ts with
  | some k => .wrong k
  | none => if 6 < (ts.map (·.2.2)).sum then .many else .ok (ts.map (·.2.2)).sum
theorem lex_data {a b c d : Int} : (!PySem.W.dataLt (.tuple [.int c, .int d]) (.tuple [.int a, .int b])) = lexLe a b c d := by
  have h : PySem.W.dataLt (.tuple [.int c, .int d]) (.tuple [.int a, .int b]) = decide ([c, d] < [a, b]) := by
    rw [PySem.W.dataLt_tuple]
    exact PySem.W.dataLt_ints [c, d] [a, b]
  rw [h]
  unfold lexLe
  rw [← decide_not, decide_eq_decide, List.cons_lt_cons_iff, List.cons_lt_cons_iff]
  simp
  omega

theorem sl_listK {X : Cx} {K : PySem.W.Frag} (h : X.K = K := by rfl) : SlR X (rSlL K) := by subst h; exact sl_list
/-! ### rows of triples -/
def triV (t : T3) : List V := [.int t.1, .int t.2.1, .int t.2.2]
def RowL (K : PySem.W.Frag) (H : Hp) (p : Addr) (rs : List (Addr × T3)) : Prop := SqL K H p (rs.map fun r => V.ref r.1) ∧ ∀ r ∈ rs, SqT K H r.1 (triV r.2)
def RowT (K : PySem.W.Frag) (H : Hp) (p : Addr) (rs : List (Addr × T3)) : Prop := SqT K H p (rs.map fun r => V.ref r.1) ∧ ∀ r ∈ rs, SqT K H r.1 (triV r.2)
theorem RowL.ex {K : PySem.W.Frag} {H H' : Hp} {p : Addr} {rs : List (Addr × T3)} (e : Ex H H') (h : RowL K H p rs) : RowL K H' p rs := ⟨ex_l e h.1, fun r hr => ex_t e (h.2 r hr)⟩
theorem RowT.ex {K : PySem.W.Frag} {H H' : Hp} {p : Addr} {rs : List (Addr × T3)} (e : Ex H H') (h : RowT K H p rs) : RowT K H' p rs := ⟨ex_t e h.1, fun r hr => ex_t e (h.2 r hr)⟩
theorem RowT.trip {K : PySem.W.Frag} {H : Hp} {p : Addr} {rs : List (Addr × T3)} (h : RowT K H p rs) : TripT K H p (rs.map (·.2)) := by
  refine ⟨_, h.1, by simp, fun i v hv => ?_⟩
  rw [List.getElem?_map] at hv
  cases e : rs[i]? with
  | none => rw [e] at hv; cases hv
  | some r =>
    rw [e] at hv
    cases hv
    refine ⟨r.1, rfl, fun x hx => ?_⟩
    rw [List.getElem?_map, e] at hx
    cases hx
    exact h.2 r (List.mem_of_getElem? e)
theorem row_at {rs : List (Addr × T3)} {i : Nat} {r : Addr × T3} (h : rs[i]? = some r) : atI (rs.map fun r => V.ref r.1) (i : Int) = some (.ref r.1) := atI_nat (by rw [List.getElem?_map, h]; rfl)
def isWrong (m n : Int) (ts : List T3) (k : Nat) : Bool :=
  let t := ts.getD k (0, 0, 0)
  let u := ts.getD (k - 1) (0, 0, 0)
  (decide (t.1 < 0) || (decide (m ≤ t.1) || (decide (t.2.1 < 0) || (decide (n ≤ t.2.1) || decide (t.2.2 < 1))))) || (decide ((0 : Int) < (k : Int)) && decide (t.1 * n + t.2.1 ≤ u.1 * n + u.2.1))
def dueD (n : Int) (m : Nat) (ts : List T3) : PyData := match triesRes n m ts with
  | .wrong k => .tuple [.str "BadSpread", .int (k : Int), .bool true, .bool false]
  | .many => .tuple [.str "TooMany", .str "tries", .int 6, .bool true, .bool false]
  | .ok z => .tuple [.str "number", .int z]
theorem lex_lin {n a b c d : Int} (h1 : 0 ≤ b ∧ b < n) (h2 : 0 ≤ d ∧ d < n) : lexLe a b c d = decide (a * n + b ≤ c * n + d) := by
  unfold lexLe
  rw [decide_eq_decide]
  constructor
  · rintro (h | ⟨rfl, h⟩)
    · have : (a + 1) * n ≤ c * n := Int.mul_le_mul_of_nonneg_right (by omega) (by omega)
      rw [Int.add_mul] at this
      omega
    · omega
  · intro h
    rcases Int.lt_trichotomy a c with h' | rfl | h'
    · exact .inl h'
    · exact .inr ⟨rfl, by omega⟩
    · have : (c + 1) * n ≤ a * n := Int.mul_le_mul_of_nonneg_right (by omega) (by omega)
      rw [Int.add_mul] at this
      omega
theorem first_find {n : Int} {m : Nat} {ts : List T3} : ∀ (j k : Nat) (b c : Int), k + j = ts.length → (k = 0 → b = -1 ∧ c = -1) → (0 < k → ∃ z, ts[k - 1]? = some (b, c, z) ∧ 0 ≤ b ∧ 0 ≤ c ∧ c < n) →
    firstW n m k b c (ts.drop k) = (List.range' k j).find? (isWrong m n ts)
  | 0, k, b, c, hk, _, _ => by rw [List.drop_of_length_le (by omega)]; rfl
  | j + 1, k, b, c, hk, h0, h1 => by
    have hi : k < ts.length := by omega
    have e1 : ts[k]? = some ts[k] := List.getElem?_eq_getElem hi
    rw [List.drop_eq_getElem_cons hi, List.range'_succ, List.find?_cons]
    generalize ts[k] = t at *
    obtain ⟨g, h, z⟩ := t
    have gd : ts.getD k (0, 0, 0) = (g, h, z) := by rw [List.getD_eq_getElem?_getD, e1]; rfl
    have key : (!inHouse n m g h || decide (z < 1) || lexLe g h b c) = isWrong m n ts k := by
      unfold isWrong
      rw [gd]
      dsimp only
      by_cases hv : inHouse n m g h = true
      · have hv' : (0 ≤ g ∧ g < (m : Int)) ∧ 0 ≤ h ∧ h < n := of_decide_eq_true hv
        rw [hv, decide_eq_false (by omega : ¬ g < 0), decide_eq_false (by omega : ¬ (m : Int) ≤ g), decide_eq_false (by omega : ¬ h < 0), decide_eq_false (by omega : ¬ n ≤ h)]
        by_cases hk0 : k = 0
        · obtain ⟨rfl, rfl⟩ := h0 hk0
          subst hk0
          have : lexLe g h (-1) (-1) = false := by
            unfold lexLe
            exact decide_eq_false (by omega)
          rw [this]
          simp
        · obtain ⟨z', hz', hb⟩ := h1 (by omega)
          have gd' : ts.getD (k - 1) (0, 0, 0) = (b, c, z') := by rw [List.getD_eq_getElem?_getD, hz']; rfl
          rw [gd', lex_lin hv'.2 hb.2, decide_eq_true (by omega : (0 : Int) < (k : Int))]
          simp
      · have hv' : ¬ ((0 ≤ g ∧ g < (m : Int)) ∧ 0 ≤ h ∧ h < n) := fun z => hv (decide_eq_true z)
        have : (decide (g < 0) || (decide ((m : Int) ≤ g) || (decide (h < 0) || (decide (n ≤ h) || decide (z < 1))))) = true := by
          simp only [Bool.or_eq_true, decide_eq_true_iff]
          omega
        rw [this, Bool.eq_false_iff.mpr hv]
        simp
    cases hw : isWrong m n ts k with
    | true => exact if_pos (by rw [key, hw])
    | false =>
      refine (if_neg (by rw [key, hw]; simp)).trans ?_
      have hv : inHouse n m g h = true := by
        rw [hw] at key
        cases hh : inHouse n m g h with
        | true => rfl
        | false => rw [hh] at key; simp at key
      have hv' : (0 ≤ g ∧ g < (m : Int)) ∧ 0 ≤ h ∧ h < n := of_decide_eq_true hv
      exact first_find j (k + 1) g h (by omega) (by omega) fun _ => ⟨z, by rw [Nat.add_sub_cancel]; exact e1, hv'.1.1, hv'.2.1, hv'.2.2⟩
theorem first_eq {n : Int} {m : Nat} {ts : List T3} : firstW n m 0 (-1) (-1) ts = (List.range ts.length).find? (isWrong m n ts) := by
  rw [List.range_eq_range']
  exact first_find ts.length 0 (-1) (-1) (by omega) (fun _ => ⟨rfl, rfl⟩) (fun h => absurd h (by omega))
theorem pick_head {n : Nat} {f : Nat → Bool} : (pick n f fun i => (i : Int)).head? = ((List.range n).find? f).map (fun i : Nat => (i : Int)) := by
  unfold pick
  rw [List.head?_map, List.head?_filter]

theorem sqT_mut {K : PySem.W.Frag} {H : Hp} {l t : Addr} {o : HO} {xs ys : List V} (hl : H l = some (.lst ys)) (h : SqT K H t xs) : SqT K (upd H l o) t xs := by
  have ne : ∀ {z : HO}, H t = some z → (∀ ys, z ≠ .lst ys) → t ≠ l := fun hz hn e => by
    rw [e, hl] at hz
    exact hn _ (Option.some.inj hz).symm
  rcases h with (h | ⟨o', h⟩) | h
  · exact .inl (.inl (by rw [upd_ne (ne h fun _ z => by cases z)]; exact h))
  · exact .inl (.inr ⟨o', by rw [upd_ne (ne h fun _ z => by cases z)]; exact h⟩)
  · exact .inr h
theorem inV_ints' {i : Int} {xs : List Int} : inV (V.int i) (xs.map V.int) = decide (i ∈ xs) := by
  unfold inV
  induction xs with
  | nil => rfl
  | cons y ns ih =>
    rw [List.map_cons, List.any_cons, ih]
    by_cases h : y = i
    · subst h
      simp [eqV]
    · have h' : ¬ i = y := fun z => h z.symm
      simp [eqV, h, h']
theorem ints_flat' (ns : List Int) : (ns.map V.int).all flatV = true := by
  rw [List.all_map, List.all_eq_true]
  exact fun _ _ => rfl
theorem cut_map {α : Type} (f : α → V) (l : List α) (lo hi : Option Int) : ∃ l' : List α, cutV (l.map f) lo hi = l'.map f ∧ (∀ x ∈ l', x ∈ l) ∧ l'.length ≤ l.length := by
  refine ⟨(l.drop (HT.sIx l.length 0 lo)).take (HT.sIx l.length l.length hi - HT.sIx l.length 0 lo), ?_, fun x hx => List.mem_of_mem_drop (List.mem_of_mem_take hx), ?_⟩
  · unfold cutV
    rw [List.length_map, List.map_take, List.map_drop]
  · rw [List.length_take, List.length_drop]
    omega
theorem cut_mapN {α : Type} (f : α → V) (l : List α) {lo hi : Int} (h0 : 0 ≤ lo) (h1 : 0 ≤ hi) : ∃ l' : List α, cutV (l.map f) (some lo) (some hi) = l'.map f ∧ (∀ x ∈ l', x ∈ l) ∧ (l'.length : Int) ≤ max 0 (hi - lo) := by
  refine ⟨(l.drop (HT.sIx l.length 0 (some lo))).take (HT.sIx l.length l.length (some hi) - HT.sIx l.length 0 (some lo)), ?_, fun x hx => List.mem_of_mem_drop (List.mem_of_mem_take hx), ?_⟩
  · unfold cutV
    rw [List.length_map, List.map_take, List.map_drop]
  · obtain ⟨a, rfl⟩ := Int.eq_ofNat_of_zero_le h0
    obtain ⟨b, rfl⟩ := Int.eq_ofNat_of_zero_le h1
    rw [List.length_take, List.length_drop, HT.sIx_nat, HT.sIx_nat]
    omega
theorem q_unp3 {K : PySem.W.Frag} {te : TE} {tz : TS} {D : Ends} {σ : L2.St} {H : Hp} {i j l n : Nat} {t : Addr} {x y z : V} (h : Ev te σ H (.ref t)) (ht : SqT K H t [x, y, z]) (k : ∀ H1, Ex H H1 → tz D (((σ.set i (some x)).set j (some y)).set l (some z)) H1) (hn : n = 3 := by rfl) :
    tSeq (tAsg te (gTup K n (gCons (gName i) (gCons (gName j) (gCons (gName l) gNil))))) tz D σ H := by
  subst hn
  exact h H (Ex.refl H) _ fun H1 e => ⟨t, _, rfl, ex_t e ht, rfl, x, _, rfl, y, _, rfl, z, _, rfl, rfl, k H1 e⟩
theorem s_setU {te ta tb : TE} {D : Ends} {σ : L2.St} {H : Hp} {l : Addr} {xs ys : List V} {k : Int} {j : Nat} (hl : H l = some (.lst xs)) (h : EvU te σ H ys) (ho : Ev ta σ H (.ref l)) (hi : Ev tb σ H (.int k)) (hj : ixN xs.length k = some j)
    (kk : ∀ p H1, H p = none → Ex H H1 → H1 p = some (.tup ys) → D.nx σ (upd H1 l (.lst (xs.set j (.ref p))))) : tAsg te (gSub ta tb rSetL) D σ H := h H (Ex.refl H) _ fun p H1 hp e1 h1 => ho H1 e1 _ fun H2 e2 => hi H2 (e1.trans e2) _ fun H3 e3 =>
  ⟨l, xs, k, j, rfl, rfl, ((e1.trans e2).trans e3) l _ hl, hj, kk p H3 hp ((e1.trans e2).trans e3) ((e2.trans e3) _ _ h1)⟩
theorem ixN_last {n : Nat} (h : 0 < n) : ixN n (-1) = some (n - 1) := by
  unfold ixN
  rw [if_neg (by omega), if_pos (by omega)]
  congr 1
  omega
theorem el_copy {K : PySem.W.Frag} {te : TE} {σ : L2.St} {H : Hp} {p : Addr} {xs : List V} (h : Ev te σ H (.ref p)) (hp : SqL K H p xs) : EvL (tCB (rListK K) (tCons te tNil)) σ H xs := fun H1 e Q q =>
  h H1 e _ fun H2 e2 => ⟨p, xs, rfl, .inl (ex_l (e.trans e2) hp), fun l hl => q l _ (fresh_back e2 hl) (e2.trans (Ex.new hl)) upd_same⟩
/-- a new row, its triples left open -/
def IsTri (K : PySem.W.Frag) (v : V) (H : Hp) : Prop := ∃ r : Addr × T3, v = .ref r.1 ∧ SqT K H r.1 (triV r.2)
def IsRow (K : PySem.W.Frag) (lo hi : Nat) (v : V) (H : Hp) : Prop := ∃ (p : Addr) (rs : List (Addr × T3)), v = .ref p ∧ (lo ≤ rs.length ∧ rs.length ≤ hi) ∧ H p = some (.lst (rs.map fun r => V.ref r.1)) ∧ ∀ r ∈ rs, SqT K H r.1 (triV r.2)
def Tris (K : PySem.W.Frag) (n : Nat) (vs : List V) (H : Hp) : Prop := ∃ rs : List (Addr × T3), vs = rs.map (fun r => V.ref r.1) ∧ rs.length = n ∧ ∀ r ∈ rs, SqT K H r.1 (triV r.2)
def EvAR (ta : TA) (σ : L2.St) (H : Hp) (P : List V → Hp → Prop) : Prop := ∀ H1, Ex H H1 → ∀ Q : List V → Hp → Prop, (∀ vs H2, Ex H1 H2 → P vs H2 → Q vs H2) → ta σ H1 Q
theorem at_nil {K : PySem.W.Frag} {σ : L2.St} {H : Hp} : EvAR tNil σ H (Tris K 0) := fun H1 _ Q q => q [] H1 (Ex.refl H1) ⟨[], rfl, rfl, fun r hr => by cases hr⟩
theorem at_cons {K : PySem.W.Frag} {σ : L2.St} {H : Hp} {te : TE} {ta : TA} {n : Nat} (h : EvR te σ H (IsTri K)) (r : EvAR ta σ H (Tris K n)) : EvAR (tCons te ta) σ H (Tris K (n + 1)) := fun H1 e Q q =>
  h H1 e _ fun v H2 e2 hv => r H2 (e.trans e2) _ fun vs H3 e3 hs => by
    obtain ⟨x, rfl, hx⟩ := hv
    obtain ⟨rs, rfl, hl, hr⟩ := hs
    refine q _ H3 (e2.trans e3) ⟨x :: rs, rfl, by rw [List.length_cons, hl], fun y hy => ?_⟩
    rcases List.mem_cons.mp hy with rfl | hy
    · exact ex_t e3 hx
    · exact hr y hy
theorem er_tri {K : PySem.W.Frag} {σ : L2.St} {H : Hp} {t1 t2 t3 : TE} {x y z : Int} (h1 : Ev t1 σ H (.int x)) (h2 : Ev t2 σ H (.int y)) (h3 : Ev t3 σ H (.int z)) : EvR (tTup (tCons t1 (tCons t2 (tCons t3 tNil)))) σ H (IsTri K) := fun H1 e Q q =>
  eu_tup (ea_cons h1 (ea_cons h2 (ea_cons h3 ea_nil))) (by show 3 ≤ 100000; decide) H1 e _ fun p H2 hp e2 h2 => q _ H2 e2 ⟨(p, x, y, z), rfl, st_of h2⟩
theorem er_row {K : PySem.W.Frag} {σ : L2.St} {H : Hp} {ta : TA} {n : Nat} (h : EvAR ta σ H (Tris K n)) (hn : n ≤ 1000) : EvR (tLst ta) σ H (IsRow K n n) := fun H1 e Q q =>
  h H1 e _ fun vs H2 e2 hs => by
    obtain ⟨rs, rfl, hl, hr⟩ := hs
    exact ⟨by rw [List.length_map, hl]; exact Nat.le_trans hn (by decide), fun p hp => q _ _ (e2.trans (Ex.new hp)) ⟨p, rs, rfl, by omega, upd_same, fun r hm => ex_t (Ex.new hp) (hr r hm)⟩⟩
theorem er_catR {K : PySem.W.Frag} {σ : L2.St} {H : Hp} {ta tb : TE} {a b c d : Nat} (h1 : EvR ta σ H (IsRow K a b)) (h2 : EvR tb σ H (IsRow K c d)) (hz : b + d ≤ 1000) : EvR (tOp rCat ta tb) σ H (IsRow K (a + c) (b + d)) := fun H1 e Q q =>
  h1 H1 e _ fun v H2 e2 hv => h2 H2 (e.trans e2) _ fun w H3 e3 hw => by
    obtain ⟨p1, r1, rfl, l1, s1, t1⟩ := hv
    obtain ⟨p2, r2, rfl, l2, s2, t2⟩ := hw
    exact ⟨p1, p2, _, _, rfl, rfl, e3 _ _ s1, s2, sz_of (by rw [List.length_map, List.length_map]; omega), fun p hp => q _ _ ((e2.trans e3).trans (Ex.new hp)) ⟨p, r1 ++ r2, rfl, by rw [List.length_append]; omega, by rw [List.map_append]; exact upd_same, fun r hr => ex_t (Ex.new hp) ((List.mem_append.mp hr).elim (fun z => ex_t e3 (t1 r z)) (t2 r))⟩⟩
theorem er_sl {K : PySem.W.Frag} {te : TE} {tl th : TO} {σ : L2.St} {H : Hp} {p : Addr} {rs : List (Addr × T3)} {lo hi : Option Int} (h : Ev te σ H (.ref p)) (hr : RowL K H p rs) (h1 : EvO tl σ H lo) (h2 : EvO th σ H hi) : EvR (tSl (rSlL K) te tl th) σ H (IsRow K 0 rs.length) := fun H1 e Q q => by
  obtain ⟨l', c1, c2, c3⟩ := cut_map (fun r : Addr × T3 => V.ref r.1) rs lo hi
  exact el_sl h h1 h2 hr.1 H1 e _ fun b H2 hb e2 h2 => q _ H2 e2 ⟨b, l', rfl, by omega, by rw [← c1]; exact h2, fun r hm => ex_t (e.trans e2) (hr.2 r (c2 r hm))⟩
theorem atI_row {rs : List (Addr × T3)} {i : Int} (h : -1 ≤ i) (h1 : i < (rs.length : Int)) (h0 : 0 < rs.length) : ∃ r ∈ rs, atI (rs.map fun r => V.ref r.1) i = some (.ref r.1) := by
  by_cases c : 0 ≤ i
  · obtain ⟨k, rfl⟩ := Int.eq_ofNat_of_zero_le c
    have hk : k < rs.length := by omega
    exact ⟨rs[k], List.getElem_mem hk, row_at (List.getElem?_eq_getElem hk)⟩
  · have : i = -1 := by omega
    subst this
    have hne : rs ≠ [] := by rintro rfl; simp at h0
    exact ⟨rs.getLast hne, List.getLast_mem hne, atI_last (by rw [List.getLast?_map, List.getLast?_eq_some_getLast hne]; rfl)⟩
theorem drawn_at {ms ds : List Int} {i : Nat} {m : Int} (h : Drawn ms ds) (hm : ms[i]? = some m) : 0 ≤ ds.getD i 0 ∧ ds.getD i 0 < m := by
  obtain ⟨d, h1, h2⟩ := h.2 i m hm
  rw [List.getD_eq_getElem?_getD, h1]
  exact h2

/-! ### enumerate(tuple) -/
section
open PySem.Spec PyProof.Rows
theorem F_typeCall_enum1 (v : Value) : PySem.checkTypeCall "enumerate" ⟨[v], []⟩ = pure () := PySem.F.typeCall_enumerate_1 v
theorem meets_enum_newB1 {v : Value} {o : Obj} {H : Heap → Prop} (B : PySem.Begins v o H) :
    Meets (Builtin.«enumerate.__new__» ⟨[.type "enumerate", v], []⟩) (fun _ R s => H s.heap ∧
      R (.ok (.ret (.ref (s.heap.push o).objs.size))) { s with heap := (s.heap.push o).push { cls := .type "enumerate", data := .fields #[.none, .bool false, .ref s.heap.objs.size, PySem.rawInt 0, .none, .none] } }) :=
  .of_wp fun prog w A R s h => by
    obtain ⟨hp, g, d, tk, os⟩ := s; obtain ⟨h1, h⟩ := h
    have hsub := PySem.sub_enumerate
    have q1 : ∀ {A' : Around} {E : Value → Shared → Prop} {Q : Value → Shared → Prop}, Q (.ref hp.objs.size) ⟨hp.push o, g, d, tk, os⟩ → wpAny (model prog w) A' (pyIter v) Q E ⟨hp, g, d, tk, os⟩ :=
      fun q => B.iter prog w _ _ ⟨hp, g, d, tk, os⟩ _ h1 q
    wp_walk using q1
    refine wpAny_stack_any fun st => wpAny_pure ?_
    split
    · rename_i c _ _ _ _ _
      cases (c == Value.type "enumerate")
      · wp_walk using q1
        exact ⟨_, rfl, h⟩
      · wp_walk using q1
        exact ⟨_, rfl, h⟩
    · wp_walk using q1
      exact ⟨_, rfl, h⟩
theorem call_enum_tuple {prog : Program} {w : World} {A : Around} {E : Value → Shared → Prop} {s : Shared} {a : Addr} {items : Array Value} {Q : Value → Shared → Prop} (h1 : s.heap.IsTuple a items)
    (h : ∀ h', PySem.IsEnum h' (s.heap.objs.size + 1) s.heap.objs.size 0 .none → h'.IsTupleIter s.heap.objs.size a 0 → h'.objs.size = s.heap.objs.size + 2 →
      (∀ b o, s.heap.get? b = some o → h'.get? b = some o) → Q (.ref (s.heap.objs.size + 1)) { s with heap := h' }) :
    wpAny (model prog w) A (call (.type "enumerate") [.ref a]) Q E s := by
  refine PySem.callType_new PySem.F.called_enumerate (by decide) (PySem.F.typeCall_enumerate_1 _) (PySem.F.newCall_enumerate_1 _) (fun obj => PySem.F.args_object_init_2 obj _) PySem.F.entry_enumerate_new
    (meets_enum_newB1 (PySem.begins_tuple a items)) ⟨h1, ?_⟩
  have hz : (s.heap.push { cls := .type "tuple_iterator", data := .fields #[.ref a, .int 0 0] }).objs.size = s.heap.objs.size + 1 := Heap.size_push ..
  show _ ∧ _
  rw [hz]
  have he : PySem.IsEnum ((s.heap.push { cls := .type "tuple_iterator", data := .fields #[.ref a, .int 0 0] }).push { cls := .type "enumerate", data := .fields #[.none, .bool false, .ref s.heap.objs.size, PySem.rawInt 0, .none, .none] }) (s.heap.objs.size + 1) s.heap.objs.size 0 .none := by
    have := Heap.get?_push_size (s.heap.push { cls := .type "tuple_iterator", data := .fields #[.ref a, .int 0 0] }) (o := { cls := .type "enumerate", data := .fields #[.none, .bool false, .ref s.heap.objs.size, PySem.rawInt 0, .none, .none] }) rfl
    rw [hz] at this; exact this
  refine ⟨⟨_, he, rfl⟩, h _ he ⟨_, Heap.get?_push_of_some _ (Heap.get?_push_size _ rfl), rfl, rfl⟩ (by rw [Heap.size_push, hz]) fun b o x => Heap.get?_push_of_some _ (Heap.get?_push_of_some _ x)⟩
def IteT (K : PySem.W.Frag) (a : Addr) : It :=
  ⟨fun i H => ∃ (xs : List V) (x : V), SqT K H a xs ∧ xs[i]? = some x, fun i H v H' => ∃ T x, v = .ref T ∧ H T = none ∧ H' = upd H T (.tup [.int (i : Nat), x]) ∧ ∀ xs, SqT K H a xs → xs[i]? = some x, fun i H => ∃ xs : List V, SqT K H a xs ∧ xs.length ≤ i⟩
theorem turn_enumT {P : Program} {w : World} {K : PySem.W.Frag} {elts : List Expr} {kk : Nat} {tpos : Pos} (a e it : Addr) :
    Turn P w K (.Tuple elts kk tpos) (IteT K a) [e, it] e (fun i h => (∃ old, PySem.IsEnum h e it ((i : Nat) : Int) old) ∧ h.IsTupleIter it a i ∧ e ≠ it ∧ e ≠ a ∧ a ≠ it) where
  mem := by simp
  obj := fun i h st b hb => by
    obtain ⟨⟨old, he⟩, ⟨o, ho, hc, hd⟩, _⟩ := st
    have e' : b = e ∨ b = it := by simpa using hb
    rcases e' with z | z
    · rw [z]; exact ⟨_, he, fun v q => nomatch q⟩
    · rw [z]; exact ⟨o, ho, fun v q => by rw [hd] at q; cases q⟩
  keep := fun i h h' st k => let ⟨⟨old, he⟩, hi, hne⟩ := st; ⟨⟨old, k e (by simp) _ he⟩, hi.at fun o q => k it (by simp) o q, hne⟩
  item := by
    intro X hP hw hK hc i pins s σ H E I hf st hg
    subst hP hw hK
    obtain ⟨⟨old, he⟩, hit, hne, hea, hai⟩ := st
    obtain ⟨xs, x, hq, hx⟩ := hg
    obtain ⟨its, rv, p, hz⟩ := I.tuple hq
    obtain ⟨u, hu, ru⟩ := rv.get hx
    have p' : s.heap.IsTuple a its.toArray := p
    have hel : e < s.heap.objs.size := Heap.lt_size he
    have hil : it < s.heap.objs.size := by obtain ⟨_, q, _⟩ := hit; exact Heap.lt_size q
    have hlt : i < its.toArray.size := by
      have := (List.getElem?_eq_some_iff.mp hu).1
      simpa using this
    refine PySem.wpAny_pyNext_enum_itemD (PySem.Draws.tuple (A := X.A.in1) (I.ok.hd hc) it a hai its.toArray) he ⟨hit, p'⟩ hlt hne (by simp [hne, hea]) fun y h' tk hy ho hst' hT hsz hk => ?_
    obtain rfl : y = u := by
      have e1 : its.toArray[i]? = some u := by simpa using hu
      have e2 : its.toArray[i]? = some y := hy
      rw [e1] at e2
      exact (Option.some.inj e2).symm
    refine ⟨_, rfl, PySem.wpAny_letOwnedTupleGo_enum (s := { s with heap := h', toks := tk + 1 }) ho fun h'' he' sb => ?_⟩
    have hT2 : h''.get? s.heap.objs.size = some { cls := .type "tuple", data := .seq #[.int i tk, y] } := (sb.2 _ (Nat.ne_of_gt hel)).trans hT
    have new : ObjOk X.prog X.w (upd H s.heap.objs.size (.tup [.int (i : Nat), x])) h'' s.heap.objs.size (.tup [.int (i : Nat), x]) :=
      ⟨by show 2 ≤ sizeLine; decide, [.int i tk, y], .cons ⟨_, rfl⟩ (.cons ru .nil), ⟨_, hT2, rfl, _, rfl⟩⟩
    have I1 : Inv X pins σ (upd H s.heap.objs.size (.tup [.int (i : Nat), x])) { s with heap := h'', toks := tk + 1 } :=
      I.turnedNew (ch := [e, it]) (fun b ob hb q => (sb.2 b (fun z => hb (by simp [z]))).trans (hk b ob (fun z => hb (by simp [z])) (fun z => hb (by simp [z])) q)) hf (Nat.le_refl _) new
    refine ⟨.ref s.heap.objs.size, _, I1, rfl, ⟨_, x, rfl, I.hok.fresh (Nat.le_refl _), rfl, fun ys hy => by rw [I.tuple_inj hy hq]; exact hx⟩, ⟨⟨y, ?_⟩, hst'.1.at fun o q => (sb.2 it (Ne.symm hne)).trans q, hne, hea, hai⟩, fun b hb => ?_⟩
    · have e1 : ((i + 1 : Nat) : Int) = (i : Int) + 1 := by omega
      rw [e1]; exact he'
    · have hb' : b < s.heap.objs.size := by
        have e' : b = e ∨ b = it := by simpa using hb
        rcases e' with z | z
        · rw [z]; exact hel
        · rw [z]; exact hil
      rw [upd_ne (Nat.ne_of_lt hb')]
      exact (hf b hb).1
  done := by
    intro X hP hw hK hc i pins s σ H E I hf st hg
    subst hP hw hK
    obtain ⟨⟨old, he⟩, hit, hne, hea, hai⟩ := st
    obtain ⟨xs, hq, hx⟩ := hg
    obtain ⟨its, rv, p, hz⟩ := I.tuple hq
    have p' : s.heap.IsTuple a its.toArray := p
    obtain ⟨f0, f1, f2, f3, f4, f5⟩ := hf it (by simp)
    have hl := rv.length
    have hend : its.toArray[i]? = none := by simp; omega
    have hT : s.TypeIs (.ref e) "enumerate" := ⟨_, he, rfl⟩
    unfold pyNext
    refine wpAny_bind (wpAny_attempt (PySem.wpAny_callSpecial?_slot (name := Str.ofString "__next__") hT PySem.F.slot_enumerate_next
      (PySem.wpAny_call_entry PySem.F.slot_enumerate_next hT PySem.F.entry_enumerate_next ?_ (PySem.F.args_enumerate_next_1 _))))
    show wpAny _ _ (field (.ref e) 2 >>= _) _ _ _
    refine wpAny_bind (wpAny_field he rfl (x := .ref it) rfl ?_)
    refine wpAny_bind (PySem.wpAny_nextOf_tuple_end (I.ok.hd hc) hit p' hend fun h' y he' hy' => ?_)
    obtain ⟨o, ho, hc⟩ := hy'
    refine wpAny_bind (PySem.wpAny_isInstance (T := "StopIteration") (b := true) ⟨o, ho, hc⟩ PySem.isSubtype_stop ?_)
    exact wpAny_pure ⟨rfl, I.turned (t' := s.toks) (fun b o hb q => he' b o hb q) f0 f1 f3 f4 f5⟩
  self := fun A i s Q E st h => let ⟨⟨_, he⟩, _⟩ := st; PySem.wpAny_pyIter_enum he h
def iEnumT (K : PySem.W.Frag) (ta : TA) : TI := fun σ H R => ta σ H fun vs H1 => ∃ a xs, vs = [.ref a] ∧ SqT K H1 a xs ∧ R (IteT K a) H1
theorem pi_enumT {X : Cx} {K : PySem.W.Frag} {e : Expr} {ta : TA} {p pos tpos : Pos} {elts : List Expr} {kk : Nat} (hg : Gl X "enumerate") (hm : X.mg "enumerate" = none) (ha : PA X [e] ta) (hK : X.K = K := by rfl) (hs : starEach [e] X.env = [(false, eval e X.env)] := by rfl) :
    PI X (.Tuple elts kk tpos) (.Call (.Name "enumerate" p) [e] [] pos) (iEnumT K ta) := by
  subst hK
  refine ⟨fun pins s σ H R I h => ?_⟩
  refine Call_ (ld_blt I hg hm boot_enumerate (PyProof.Rows.callWith_type1 (thn (ha.run pos pins s σ H _ I h) fun us s1 ⟨vs, H1, I1, r1, q1⟩ => ?_) hs rfl))
  obtain ⟨a, xs, ex, hq, q⟩ := q1
  subst ex
  cases r1 with
  | cons r rr =>
    cases rr
    cases r
    obtain ⟨its, rv, p', hz⟩ := I1.tuple hq
    have pt : s1.heap.IsTuple a its.toArray := p'
    have hal : a < s1.heap.objs.size := by obtain ⟨o, ho, _⟩ := pt; exact Heap.lt_size ho
    refine call_enum_tuple pt fun h' he hit hsz hk => PySem.wpAny_pyIter_enum he ?_
    have I2 : Inv X pins σ H1 { s1 with heap := h' } := I1.kept (t' := s1.toks) hk
    refine ⟨s1.heap.objs.size + 1, [s1.heap.objs.size + 1, s1.heap.objs.size], _, _, H1, rfl, I2, turn_enumT a (s1.heap.objs.size + 1) s1.heap.objs.size, ⟨⟨.none, he⟩, hit, Nat.succ_ne_self _, Nat.ne_of_gt (Nat.lt_succ_of_lt hal), Nat.ne_of_lt hal⟩, fun b hb => ?_, q⟩
    have e' : b = s1.heap.objs.size + 1 ∨ b = s1.heap.objs.size := by simpa using hb
    have hle : s1.heap.objs.size ≤ b := by
      rcases e' with z | z
      · rw [z]; exact Nat.le_add_right _ _
      · rw [z]; exact Nat.le_refl _
    exact I1.fpOk hle (I1.hok.fresh hle)
theorem walk_enumT {K : PySem.W.Frag} {a : Addr} {xs : List V} : Walk (IteT K a) xs.length (fun H => SqT K H a xs) (YPair (fun i => some (.int (i : Nat))) (fun i => xs[i]?)) :=
  ⟨fun i _ hi q => ⟨xs, xs[i], q, by simp [hi]⟩, fun _ q => ⟨xs, q, Nat.le_refl _⟩, fun i H x H' _ q y => by
    obtain ⟨T, z, rfl, hT, rfl, hall⟩ := y
    exact ⟨T, _, z, rfl, hT, rfl, rfl, hall xs q⟩⟩
theorem ei_enumT {K : PySem.W.Frag} {σ : L2.St} {H : Hp} {ta : TE} {xs : List V} (h : EvB ta σ H fun v G => ∃ p, v = .ref p ∧ SqT K G p xs) : EvI (iEnumT K (tCons ta tNil)) σ H xs.length (YPair (fun i => some (.int (i : Int))) fun i => xs[i]?) := fun H1 e R r => h H1 e _ fun v H2 e2 hv => by
  obtain ⟨a, rfl, hx⟩ := hv H2 (e.trans e2) fun _ _ _ z => z
  exact ⟨a, xs, rfl, hx, r _ _ e2 (walk_enumT.mono (fun G g => by
    obtain ⟨b, eb, hb⟩ := hv G g.1 g.2
    cases eb
    exact hb) fun _ _ _ _ _ _ y => y)⟩
end

/-! ### a[b] of an own class -/
/-- x an object of the class at C, its __getitem__ asked -/
def rOwnIx (C : Addr) (sp : Sp) (E : XK) : R2 := fun x y H Q => ∃ a dx fs, x = .ref a ∧ H a = some (.ins C dx fs) ∧ sp [x, y] H Q E
section
open PySem.Spec PyProof.Rows
variable {X : Cx} {CX : CXT} {f C : Addr} {fd : FuncData} {ps : List Str} {n : Nat} {sp : Sp} {E : XK} {a b : Expr} {ta tb : TE} {pos : Pos}
theorem pe_ixO (m : Meth X.K C "__getitem__" f) (hfi : PySem.W.fnIn X.K f = true) (F : FnOk X.prog X.w X.K X.mg X.base CX n f fd ps sp) (hr : Room (n + 1) X.A) (hb : Binds X.K fd ps []) (hx : ∀ σ, PassesAt CX X σ E)
    (ha : PE X a ta) (hb2 : PE X b tb) (hs : ∀ o i, subscripted b true o i = runValue (.builtin "lifetime.subscript" ⟨[o, i], []⟩)) : PE X (.Subscript a b pos) (tOp (rOwnIx C sp E) ta tb) := by
  refine ⟨fun pins s σ H Q I h => ?_⟩
  refine Subscript_ (binT ha hb2 I h fun v u s2 x y H2 I2 rx ry q => ?_)
  obtain ⟨a, dx, fs, rfl, ha', h⟩ := q
  cases rx
  obtain ⟨mA, J, _⟩ := ins_get I2.hok ha'
  obtain ⟨od, J, _⟩ := J.look
  obtain ⟨m', hF⟩ := I2.fr
  exact PySem.W.sub_K hF I2.ok.mod.kin J m.at_ hfi m.fn (run_ownA (vs := [V.ref a, y]) F hr.in1 rfl hb (hx σ) I2 (.cons rfl (.cons ry .nil)) h) (hs _ _)
end
theorem ev_ownIx {C : Addr} {sp : Sp} {E : XK} {ta tb : TE} {σ : L2.St} {H : Hp} {a dx : Addr} {fs : List (Str × V)} {y z : V} (ha : Ev ta σ H (.ref a)) (hi : H a = some (.ins C dx fs)) (hb : Ev tb σ H y) (hs : ∀ H1, Ex H H1 → ∀ Q : VK, (∀ H2, Ex H1 H2 → Q z H2) → sp [.ref a, y] H1 Q E) : Ev (tOp (rOwnIx C sp E) ta tb) σ H z := fun H1 e Q q =>
  ha H1 e _ fun H2 e2 => hb H2 (e.trans e2) _ fun H3 e3 => ⟨a, dx, fs, rfl, ((e.trans e2).trans e3) _ _ hi, hs H3 ((e.trans e2).trans e3) Q fun H4 e4 => q H4 ((e2.trans e3).trans e4)⟩
theorem ev_ownIxU {C : Addr} {sp : Sp} {E : XK} {ta tb : TE} {σ : L2.St} {H : Hp} {a dx : Addr} {fs : List (Str × V)} {ys : List V} {z : V} (ha : Ev ta σ H (.ref a)) (hi : H a = some (.ins C dx fs)) (hb : EvU tb σ H ys) (hs : ∀ p H1, Ex H H1 → H1 p = some (.tup ys) → ∀ Q : VK, (∀ H2, Ex H1 H2 → Q z H2) → sp [.ref a, .ref p] H1 Q E) : Ev (tOp (rOwnIx C sp E) ta tb) σ H z := fun H1 e Q q =>
  ha H1 e _ fun H2 e2 => hb H2 (e.trans e2) _ fun p H3 _ e3 hp => ⟨a, dx, fs, rfl, ((e.trans e2).trans e3) _ _ hi, hs p H3 ((e.trans e2).trans e3) hp Q fun H4 e4 => q H4 ((e2.trans e3).trans e4)⟩
/-! ### watches -/
def watF (h w : V) : List (Str × V) := [("house", h), ("_rows", w)]
/-- a list of lists of ints -/
structure RowsL (K : PySem.W.Frag) (H : Hp) (a : Addr) (xss : List (List Int)) : Prop where
  all : ∃ vs : List V, SqL K H a vs ∧ vs.length = xss.length ∧ ∀ (i : Nat) v, vs[i]? = some v → ∃ p, v = .ref p ∧ SqL K H p ((xss.getD i []).map V.int)
theorem RowsL.ex {K : PySem.W.Frag} {H H' : Hp} {a : Addr} {xss : List (List Int)} (e : Ex H H') (h : RowsL K H a xss) : RowsL K H' a xss := by
  obtain ⟨vs, h1, h2, h3⟩ := h.all
  exact ⟨vs, ex_l e h1, h2, fun i v hv => (h3 i v hv).imp fun p h => ⟨h.1, ex_l e h.2⟩⟩
/-- a tuple of tuples of ints -/
def RowsU (w : V) (H : Hp) (xss : List (List Int)) : Prop := ∃ p vs, w = .ref p ∧ H p = some (.tup vs) ∧ vs.length = xss.length ∧ ∀ (i : Nat) v, vs[i]? = some v → ∃ t, v = .ref t ∧ H t = some (.tup ((xss.getD i []).map V.int))
theorem RowsU.ex {w : V} {H H' : Hp} {xss : List (List Int)} (e : Ex H H') (h : RowsU w H xss) : RowsU w H' xss := by
  obtain ⟨p, vs, rfl, h1, h2, h3⟩ := h
  exact ⟨p, vs, rfl, e _ _ h1, h2, fun i v hv => (h3 i v hv).imp fun t h => ⟨h.1, e _ _ h.2⟩⟩
def WatchIs (C : Addr) (v : V) (H : Hp) (h : V) (xss : List (List Int)) : Prop := ∃ a dx w, v = .ref a ∧ H a = some (.ins C dx (watF h w)) ∧ RowsU w H xss
theorem WatchIs.ex {C : Addr} {v h : V} {H H' : Hp} {xss : List (List Int)} (e : Ex H H') (q : WatchIs C v H h xss) : WatchIs C v H' h xss := by
  obtain ⟨a, dx, w, rfl, h1, h2⟩ := q
  exact ⟨a, dx, w, rfl, e _ _ h1, h2.ex e⟩
structure Shape (n : Int) (m : Nat) (xss : List (List Int)) : Prop where
  len : xss.length = m
  row : ∀ xs ∈ xss, (xs.length : Int) = n
  val : ∀ xs ∈ xss, ∀ x ∈ xs, 0 ≤ x ∧ x ≤ 96
def rTupOf (K : PySem.W.Frag) : List V → Hp → VK → Prop := fun xs H Q => ∃ p ys, xs = [V.ref p] ∧ ((SqL K H p ys ∧ ∀ (l : Addr), H l = none → Q (V.ref l) (upd H l (HO.tup ys))) ∨ SqT K H p ys ∧ Q (V.ref p) H)
theorem tup_K {X : Cx} {K : PySem.W.Frag} (h : X.K = K := by rfl) : CallR X (.type "tuple") (rTupOf K) := by subst h; exact call_tuple_of
theorem en_tupL {K : PySem.W.Frag} {te : TE} {σ : L2.St} {H : Hp} {p : Addr} {xs : List V} (h : Ev te σ H (.ref p)) (hp : SqL K H p xs) : EvNew (tCB (rTupOf K) (tCons te tNil)) σ H fun v G => ∃ t, v = .ref t ∧ G t = some (.tup xs) := fun H1 e Q q =>
  h H1 e _ fun H2 e2 => ⟨p, xs, rfl, .inl ⟨ex_l (e.trans e2) hp, fun l hl => q _ _ (e2.trans (Ex.new hl)) fun G g => ⟨l, rfl, g l _ (fresh_back e2 hl) upd_same⟩⟩⟩
theorem en_tupN {K : PySem.W.Frag} {te : TE} {σ : L2.St} {H : Hp} {n : Nat} {P : Nat → V → Hp → Prop} (h : EvNew te σ H (ListP n P)) : EvNew (tCB (rTupOf K) (tCons te tNil)) σ H fun v G => ∃ p vs, v = .ref p ∧ G p = some (.tup vs) ∧ vs.length = n ∧ ∀ (k : Nat) x, vs[k]? = some x → P k x G := fun H1 e Q q =>
  h H1 e _ fun v H2 e2 hv => by
    obtain ⟨p, vs, rfl, hp, hl, _⟩ := hv.self
    refine ⟨p, vs, rfl, .inl ⟨sq_of hp, fun l hn => q _ _ (e2.trans (Ex.new hn)) fun G g => ?_⟩⟩
    have g2 : ∀ b o, H1 b = none → H2 b = some o → G b = some o := fun b o h1 h2 => g b o h1 (by rw [upd_ne (fun z => by rw [z, hn] at h2; cases h2)]; exact h2)
    obtain ⟨p', vs', e', hp', hl', ha'⟩ := hv G g2
    cases e'
    have hf : H1 p = none := by
      obtain ⟨p3, vs3, e3, hp3, _⟩ := hv (fun b => match H1 b with | none => H2 b | some _ => none) (fun b o h1 h2 => by simp only [h1, h2])
      cases e3
      cases hq : H1 p with
      | none => rfl
      | some o => simp only [hq] at hp3; cases hp3
    have hv2 := g2 p _ hf hp
    rw [hp'] at hv2
    cases hv2
    exact ⟨l, vs, rfl, g l _ (fresh_back e2 hn) upd_same, hl', ha'⟩
theorem sqL_ins {K : PySem.W.Frag} {H : Hp} {x p C dx : Addr} {fs : List (Str × V)} {o : HO} {xs : List V} (hx : H x = some (.ins C dx fs)) (h : SqL K H p xs) : SqL K (upd H x o) p xs := by
  have ne : ∀ {z : HO}, H p = some z → (∀ a b c, z ≠ .ins a b c) → p ≠ x := fun hz hn e => by
    rw [e, hx] at hz
    exact hn _ _ _ (Option.some.inj hz).symm
  rcases h with (h | ⟨o', h⟩) | h
  · exact .inl (.inl (by rw [upd_ne (ne h fun _ _ _ z => by cases z)]; exact h))
  · exact .inl (.inr ⟨o', by rw [upd_ne (ne h fun _ _ _ z => by cases z)]; exact h⟩)
  · exact .inr h
theorem RowsL.ins {K : PySem.W.Frag} {H : Hp} {x p C dx : Addr} {fs : List (Str × V)} {o : HO} {xss : List (List Int)} (hx : H x = some (.ins C dx fs)) (h : RowsL K H p xss) : RowsL K (upd H x o) p xss := by
  obtain ⟨vs, h1, h2, h3⟩ := h.all
  exact ⟨vs, sqL_ins hx h1, h2, fun i v hv => (h3 i v hv).imp fun p h => ⟨h.1, sqL_ins hx h.2⟩⟩
/-- a comprehension over a tuple whose items stand for the things of ps, the target of any form -/
theorem el_tupG {α : Type} (d : α) {K : PySem.W.Frag} {σ : L2.St} {H : Hp} {te tl : TE} {tt : TT} {g : TG} {vs : List Nat} {a : Addr} (xs : List V) (ps : List α) (p : α → Bool) (v : α → V) (τ : α → L2.St)
    (h : Ev tl σ H (.ref a)) (hx : SqT K H a xs) (hl : xs.length = ps.length) (hz : ps.length ≤ 40000)
    (hg : ∀ (i : Nat) x y H1 (k : L2.St → Hp → Prop), Ex H H1 → xs[i]? = some x → ps[i]? = some y → k (τ y) H1 → g x (wipe σ vs) H1 k)
    (hw : ∀ y, wipe (τ y) vs = wipe σ vs) (ht : ∀ y H1, Ex H H1 → y ∈ ps → EvT tt (τ y) H1 (p y)) (he : ∀ y H1, Ex H H1 → y ∈ ps → p y = true → Ev te (τ y) H1 (v y)) :
    EvL (tLc (iTup K tl) g tt te vs) σ H ((ps.filter p).map v) := by
  rw [← given_gen d ps p v]
  intro H0 e0 Q q
  refine h H0 e0 _ fun H1 e1 => ⟨a, rfl, ⟨xs, ex_t (e0.trans e1) hx⟩, fun D hD => ?_⟩
  refine lc_tup (xs := xs) (Cw H1 (fun i => p (ps.getD i d)) (fun i => v (ps.getD i d)) D) ⟨hD, Ex.new hD, upd_same⟩ (fun i H' _ c => ex_t ((e0.trans e1).trans c.2.1) hx) (fun i x H' hi c => ?_)
    (fun H' c => by rw [hl] at c; exact q D H' (fresh_back e1 c.1) (e1.trans c.2.1) c.2.2)
  have hil : i < ps.length := by
    have := (List.getElem?_eq_some_iff.mp hi).1
    omega
  have hy : ps[i]? = some (ps.getD i d) := by rw [List.getD_eq_getElem?_getD, List.getElem?_eq_getElem hil]; rfl
  refine hg i x _ H' _ ((e0.trans e1).trans c.2.1) hi hy ⟨hw _, ?_⟩
  exact cw_turn c (by omega) (ht _ H1 (e0.trans e1) (List.mem_of_getElem? hy)) (fun hf => he _ H1 (e0.trans e1) (List.mem_of_getElem? hy) hf)
theorem ev_whouse {K : PySem.W.Frag} {C : Addr} {te : TE} {σ : L2.St} {H : Hp} {a dx : Addr} {h w : V} (he : Ev te σ H (.ref a)) (hi : H a = some (.ins C dx (watF h w))) (c : Cls K C) (na : NoAttr K C "house") : Ev (tFld K te "house") σ H h := fun H1 e Q q' =>
  he H1 e _ fun H2 e2 => ⟨a, _, dx, _, _, rfl, e2 _ _ (e _ _ hi), c, na, rfl, q' H2 e2⟩
theorem ev_wrows {K : PySem.W.Frag} {C : Addr} {te : TE} {σ : L2.St} {H : Hp} {a dx : Addr} {h w : V} (he : Ev te σ H (.ref a)) (hi : H a = some (.ins C dx (watF h w))) (c : Cls K C) (na : NoAttr K C "_rows") : Ev (tFld K te "_rows") σ H w := fun H1 e Q q' =>
  he H1 e _ fun H2 e2 => ⟨a, _, dx, _, _, rfl, e2 _ _ (e _ _ hi), c, na, rfl, q' H2 e2⟩
theorem en_copyT {K : PySem.W.Frag} {te : TE} {σ : L2.St} {H : Hp} {p : Addr} {xs : List V} (h : Ev te σ H (.ref p)) (hp : SqT K H p xs) : EvNew (tCB (rListK K) (tCons te tNil)) σ H fun v G => ∃ t, v = .ref t ∧ G t = some (.lst xs) := fun H1 e Q q =>
  h H1 e _ fun H2 e2 => ⟨p, xs, rfl, .inr (ex_t (e.trans e2) hp), fun l hl => q _ _ (e2.trans (Ex.new hl)) fun G g => ⟨l, rfl, g l _ (fresh_back e2 hl) upd_same⟩⟩
def watVal (xss : List (List Int)) (n g h : Int) : Int := (xss.getD g.toNat []).getD (h % n).toNat 0

/-! ### rows under way -/
def RowsM (H0 H : Hp) (p : Addr) (qs : List (Addr × List Int)) : Prop := H0 p = none ∧ H p = some (.lst (qs.map fun q => V.ref q.1)) ∧ (qs.map (·.1)).Nodup ∧ ∀ q ∈ qs, q.1 ≠ p ∧ H0 q.1 = none ∧ H q.1 = some (.lst (q.2.map V.int))
theorem RowsM.ex {H0 H H' : Hp} {p : Addr} {qs : List (Addr × List Int)} (e : Ex H H') (h : RowsM H0 H p qs) : RowsM H0 H' p qs := ⟨h.1, e _ _ h.2.1, h.2.2.1, fun q hq => ⟨(h.2.2.2 q hq).1, (h.2.2.2 q hq).2.1, e _ _ (h.2.2.2 q hq).2.2⟩⟩
theorem RowsM.base {H0 H1 H : Hp} {p : Addr} {qs : List (Addr × List Int)} (e : Ex H0 H1) (h : RowsM H1 H p qs) : RowsM H0 H p qs := ⟨fresh_back e h.1, h.2.1, h.2.2.1, fun q hq => ⟨(h.2.2.2 q hq).1, fresh_back e (h.2.2.2 q hq).2.1, (h.2.2.2 q hq).2.2⟩⟩
theorem RowsM.rows {K : PySem.W.Frag} {H0 H : Hp} {p : Addr} {qs : List (Addr × List Int)} (h : RowsM H0 H p qs) : RowsL K H p (qs.map (·.2)) := by
  refine ⟨_, sq_of h.2.1, by simp, fun i v hv => ?_⟩
  rw [List.getElem?_map] at hv
  cases e : qs[i]? with
  | none => rw [e] at hv; cases hv
  | some q =>
    rw [e] at hv
    cases hv
    refine ⟨q.1, rfl, ?_⟩
    rw [List.getD_eq_getElem?_getD, List.getElem?_map, e]
    exact sq_of (h.2.2.2 q (List.mem_of_getElem? e)).2.2
/-! ### spreads that are good -/
def okT (n : Int) (m : Nat) (b c : Int) (t : T3) : Prop := inHouse n m t.1 t.2.1 = true ∧ 1 ≤ t.2.2 ∧ lexLe t.1 t.2.1 b c = false
def Good (n : Int) (m : Nat) : Int → Int → List T3 → Prop
  | _, _, [] => True
  | b, c, t :: r => okT n m b c t ∧ Good n m t.1 t.2.1 r
def lastB : Int → Int → List T3 → Int × Int
  | b, c, [] => (b, c)
  | _, _, t :: r => lastB t.1 t.2.1 r
theorem okT.not {n : Int} {m : Nat} {b c : Int} {t : T3} (h : okT n m b c t) : ¬ (!inHouse n m t.1 t.2.1 || decide (t.2.2 < 1) || lexLe t.1 t.2.1 b c) = true := by
  obtain ⟨h1, h2, h3⟩ := h
  rw [h1, h3, decide_eq_false (by omega)]
  simp
theorem firstW_pre {n : Int} {m : Nat} {r : List T3} : ∀ {ts : List T3} {k : Nat} {b c : Int}, Good n m b c ts → firstW n m k b c (ts ++ r) = firstW n m (k + ts.length) (lastB b c ts).1 (lastB b c ts).2 r
  | [], k, b, c, _ => rfl
  | t :: ts, k, b, c, h => by
    show (if (!inHouse n m t.1 t.2.1 || decide (t.2.2 < 1) || lexLe t.1 t.2.1 b c) = true then some k else firstW n m (k + 1) t.1 t.2.1 (ts ++ r)) = _
    rw [if_neg h.1.not, firstW_pre h.2, List.length_cons, show k + 1 + ts.length = k + (ts.length + 1) by omega]
    rfl
theorem good_none {n : Int} {m : Nat} {ts : List T3} {k : Nat} {b c : Int} (h : Good n m b c ts) : firstW n m k b c ts = none := by
  have := firstW_pre (r := []) (k := k) h
  rw [List.append_nil] at this
  rw [this]
  rfl
theorem good_app {n : Int} {m : Nat} {r : List T3} : ∀ {ts : List T3} {b c : Int}, Good n m b c (ts ++ r) ↔ Good n m b c ts ∧ Good n m (lastB b c ts).1 (lastB b c ts).2 r
  | [], b, c => by simp [Good, lastB]
  | t :: ts, b, c => by
    show okT n m b c t ∧ Good n m t.1 t.2.1 (ts ++ r) ↔ (okT n m b c t ∧ Good n m t.1 t.2.1 ts) ∧ _
    rw [good_app, and_assoc]
    rfl
theorem good_ok {n : Int} {m : Nat} {ts : List T3} (h : Good n m (-1) (-1) ts) (hs : (ts.map (·.2.2)).sum ≤ 6) : triesRes n m ts = .ok (ts.map (·.2.2)).sum := by
  unfold triesRes
  rw [good_none h]
  exact if_neg (by omega)
theorem lastB_app {ts : List T3} {t : T3} : ∀ {b c : Int}, lastB b c (ts ++ [t]) = (t.1, t.2.1) := by
  induction ts with
  | nil => intro b c; rfl
  | cons u ts ih => intro b c; exact ih

/-! ### watches turned and stretched -/
theorem Shape.row' {n m : Nat} {xss : List (List Int)} (h : Shape (n : Int) m xss) : ∀ xs ∈ xss, xs.length = n := fun xs hx => by have := h.row xs hx; omega
theorem Shape.map {n m : Nat} {xss : List (List Int)} {f : List Int → List Int} (h : Shape (n : Int) m xss) (hl : ∀ xs, xs.length = n → (f xs).length = n) (hv : ∀ xs, ∀ y ∈ f xs, y ∈ xs ∨ y = 0) : Shape (n : Int) m (xss.map f) :=
  ⟨by rw [List.length_map]; exact h.len, fun xs hx => by
    obtain ⟨ys, hy, rfl⟩ := List.mem_map.mp hx
    rw [hl ys (h.row' ys hy)], fun xs hx y hm => by
    obtain ⟨ys, hy, rfl⟩ := List.mem_map.mp hx
    rcases hv ys y hm with h1 | h1
    · exact h.val ys hy y h1
    · omega⟩
def turnR (n : Nat) (k : Int) (xs : List Int) : List Int := (List.range n).map fun (i : Nat) => xs.getD (((i : Int) - k) % (n : Int)).toNat 0
theorem getD_or {xs : List Int} {i : Nat} : xs.getD i 0 ∈ xs ∨ xs.getD i 0 = 0 := by
  rw [List.getD_eq_getElem?_getD]
  cases e : xs[i]? with
  | none => exact .inr rfl
  | some y => exact .inl (List.mem_of_getElem? e)
theorem turn_shape {n m : Nat} {k : Int} {xss : List (List Int)} (h : Shape (n : Int) m xss) : Shape (n : Int) m (xss.map (turnR n k)) :=
  h.map (fun xs _ => by simp [turnR]) fun xs y hy => by
    obtain ⟨i, _, rfl⟩ := List.mem_map.mp hy
    exact getD_or
/-- each strength put at its place, one after the other -/
def moveP (n : Nat) (idx : Nat → Nat) (xs : List Int) (i : Nat) : List Int := (List.range i).foldl (fun acc h => acc.set (idx h) (xs.getD h 0)) (List.replicate n 0)
theorem moveP_succ {n : Nat} {idx : Nat → Nat} {xs : List Int} {i : Nat} : moveP n idx xs (i + 1) = (moveP n idx xs i).set (idx i) (xs.getD i 0) := by
  unfold moveP
  rw [List.range_succ, List.foldl_append]
  rfl
theorem moveP_len {n : Nat} {idx : Nat → Nat} {xs : List Int} : ∀ {i : Nat}, (moveP n idx xs i).length = n
  | 0 => by simp [moveP]
  | i + 1 => by rw [moveP_succ, List.length_set, moveP_len]
theorem moveP_or {n : Nat} {idx : Nat → Nat} {xs : List Int} : ∀ {i : Nat} {y : Int}, y ∈ moveP n idx xs i → y ∈ xs ∨ y = 0
  | 0, y, h => .inr (List.mem_replicate.mp (by simpa [moveP] using h)).2
  | i + 1, y, h => by
    rw [moveP_succ] at h
    rcases List.mem_or_eq_of_mem_set h with h | h
    · exact moveP_or h
    · rw [h]; exact getD_or
def moveR (n : Nat) (f b : Int) (xs : List Int) : List Int := moveP n (fun h => ((f * (h : Int) + b) % (n : Int)).toNat) xs n
theorem move_shape {n m : Nat} {f b : Int} {xss : List (List Int)} (h : Shape (n : Int) m xss) : Shape (n : Int) m (xss.map (moveR n f b)) := h.map (fun xs _ => moveP_len) fun xs y hy => moveP_or hy
/-- where no place is met twice, each place holds what was sent there -/
theorem moveP_at {n : Nat} {idx : Nat → Nat} {xs : List Int} : ∀ {i : Nat}, i ≤ n → (∀ h, h < i → idx h < n) → (∀ h h', h < i → h' < i → idx h = idx h' → h = h') → ∀ h, h < i → (moveP n idx xs i).getD (idx h) 0 = xs.getD h 0
  | 0, _, _, _, h, hh => absurd hh (Nat.not_lt_zero _)
  | i + 1, hi, hb, hinj, h, hh => by
    rw [moveP_succ, List.getD_eq_getElem?_getD]
    by_cases e : h = i
    · subst e
      rw [List.getElem?_set_self (by rw [moveP_len]; exact hb h hh)]
      rfl
    · rw [List.getElem?_set_ne (fun z => e (hinj i h (by omega) hh z).symm), ← List.getD_eq_getElem?_getD]
      exact moveP_at (by omega) (fun h hh => hb h (by omega)) (fun a b ha hb' => hinj a b (by omega) (by omega)) h (by omega)
/-- a walk while something that was made before it is changed -/
theorem s_forB {wi : TI} {g : TG} {tu : TS} {σ : L2.St} {H0 H : Hp} {D : Ends} {n : Nat} {Y : Nat → Hp → V → Hp → Prop} (e : Ex H0 H) (h : EvI wi σ H0 n Y) (k : ∀ H2, Ex H H2 → ∃ Pv : Nat → L2.St → Hp → Prop, Pv 0 σ H2 ∧ (∀ i σ' H', i ≤ n → Pv i σ' H' → Ex H0 H' ∧ Since H H2 H') ∧
    (∀ i x σ' H' H'', i < n → Pv i σ' H' → Y i H' x H'' → g x σ' H'' fun σ2 H3 => tu { D with nx := Pv (i + 1), ct := Pv (i + 1), bk := D.nx } σ2 H3) ∧ ∀ σ' H', Pv n σ' H' → D.nx σ' H') : tFor wi g tu D σ H :=
  h H e _ fun J H2 e2 w => by
    obtain ⟨Pv, h0, hG, hs, hd⟩ := k H2 e2
    exact for_it w Pv h0 hG (fun i x σ' H' H'' hi p y => hs i x σ' H' H'' hi p y) hd
theorem q_forB {wi : TI} {g : TG} {tu tz : TS} {σ : L2.St} {H0 H : Hp} {D : Ends} {n : Nat} {Y : Nat → Hp → V → Hp → Prop} (e : Ex H0 H) (h : EvI wi σ H0 n Y) (k : ∀ H2, Ex H H2 → ∃ Pv : Nat → L2.St → Hp → Prop, Pv 0 σ H2 ∧ (∀ i σ' H', i ≤ n → Pv i σ' H' → Ex H0 H' ∧ Since H H2 H') ∧
    (∀ i x σ' H' H'', i < n → Pv i σ' H' → Y i H' x H'' → g x σ' H'' fun σ2 H3 => tu { D with nx := Pv (i + 1), ct := Pv (i + 1), bk := tz D } σ2 H3) ∧ ∀ σ' H', Pv n σ' H' → tz D σ' H') : tSeq (tFor wi g tu) tz D σ H := s_forB (D := { D with nx := tz D }) e h k
theorem since_ex {H H2 G G' : Hp} (h : Since H H2 G) (e : Ex G G') : Since H H2 G' := fun b o h1 h2 => e _ _ (h b o h1 h2)
theorem since_mut {H H2 G : Hp} {a : Addr} {o o' : HO} (h : Since H H2 G) (ha : H a = some o) : Since H H2 (upd G a o') := fun b z h1 h2 => by
  rw [upd_ne (fun q => by rw [q, ha] at h1; cases h1)]
  exact h b z h1 h2
/-- one more row -/
theorem RowsM.more {H0 H : Hp} {p b : Addr} {qs : List (Addr × List Int)} {ys : List Int} (h : RowsM H0 H p qs) (hb : H0 b = none) (hp : b ≠ p) (hn : ∀ q ∈ qs, q.1 ≠ b) (hy : H b = some (.lst (ys.map V.int))) : RowsM H0 (upd H p (.lst ((qs.map fun q => V.ref q.1) ++ [V.ref b]))) p (qs ++ [(b, ys)]) := by
  refine ⟨h.1, by rw [upd_same, List.map_append]; rfl, ?_, fun q hq => ?_⟩
  · rw [List.map_append]
    refine List.nodup_append.mpr ⟨h.2.2.1, List.pairwise_singleton _ _, fun x hx y hy e => ?_⟩
    obtain ⟨q, hq, rfl⟩ := List.mem_map.mp hx
    rw [List.mem_singleton.mp hy] at e
    exact hn q hq e
  · rcases List.mem_append.mp hq with h' | h'
    · obtain ⟨z1, z2, z3⟩ := h.2.2.2 q h'
      exact ⟨z1, z2, by rw [upd_ne z1]; exact z3⟩
    · rw [List.mem_singleton.mp h']
      exact ⟨hp, hb, by rw [upd_ne hp]; exact hy⟩
theorem RowsM.mut {H0 H : Hp} {p b : Addr} {o : HO} {qs : List (Addr × List Int)} (h : RowsM H0 H p qs) (hp : b ≠ p) (hn : ∀ q ∈ qs, q.1 ≠ b) : RowsM H0 (upd H b o) p qs :=
  ⟨h.1, by rw [upd_ne (Ne.symm hp)]; exact h.2.1, h.2.2.1, fun q hq => ⟨(h.2.2.2 q hq).1, (h.2.2.2 q hq).2.1, by rw [upd_ne (hn q hq)]; exact (h.2.2.2 q hq).2.2⟩⟩
theorem el_isW {te : TE} {σ : L2.St} {H : Hp} {xs ys : List V} (h : EvL te σ H xs) (e : xs = ys) : EvL te σ H ys := by subst e; exact h
theorem el_rngY {σ : L2.St} {H : Hp} {te : TE} {ta : TA} {j n : Nat} {vs : List Nat} (v : Nat → V) (h : EvA ta σ H [.int (n : Int)]) (hn : n ≤ 40000) (hw : ∀ x, wipe ((wipe σ vs).set j (some x)) vs = wipe σ vs)
    (he : ∀ (i : Nat) H1, i < n → Ex H H1 → Ev te ((wipe σ vs).set j (some (.int (i : Int)))) H1 (v i)) : EvL (tLc (iRng1 ta) (gName j) tYes te vs) σ H ((List.range n).map v) := by
  have r := ei_rng1 h (by omega)
  rw [Int.toNat_natCast] at r
  rw [← given_all]
  exact el_lc (fun _ => true) v r hn bd_fn (fun i _ => hw _) (fun _ _ _ _ => yes_T) fun i H1 hi e _ => he i H1 hi e

/-! ### tuples told alike -/
theorem eqv_intsT {xs ys : List Int} : PyData.eqv (.tuple (xs.map PyData.int)) (.tuple (ys.map PyData.int)) = decide (xs = ys) := by
  rw [PyData.eqv, eqv_ints]
theorem shaped_intsT (xs : List Int) : SeqAt.shaped (.tuple (xs.map PyData.int)) = true := by
  have h1 := lay_ints xs
  have h2 := depth_ints xs
  unfold SeqAt.shaped
  simp [PyData.canLay0, PyData.depth, h1]
  omega
theorem eqv_strs : ∀ xs ys : List Str, PyData.eqvAll (xs.map PyData.str) (ys.map PyData.str) = decide (xs = ys)
  | [], [] => by simp [PyData.eqvAll]
  | [], y :: ys => by simp [PyData.eqvAll]
  | x :: xs, [] => by simp [PyData.eqvAll]
  | x :: xs, y :: ys => by
    rw [List.map_cons, List.map_cons, PyData.eqvAll, eqv_strs xs ys, PyData.eqv]
    by_cases e : x = y
    · subst e; simp
    · simp [e]
theorem word_ok {x : Str} (h : Word x) : PyData.strOk x = true := by
  unfold PyData.strOk
  rw [Array.all_eq_true']
  intro c hc
  have := h.all c (by simpa using hc)
  exact decide_eq_true (by omega)
theorem lay_strs : ∀ xs : List Str, (∀ x ∈ xs, Word x) → PyData.canLayAll0 (xs.map PyData.str) = true
  | [], _ => by simp [PyData.canLayAll0]
  | x :: xs, h => by
    have := lay_strs xs fun y hy => h y (List.mem_cons_of_mem _ hy)
    simp [PyData.canLayAll0, PyData.canLay0, this, word_ok (h x List.mem_cons_self)]
theorem depth_strs : ∀ xs : List Str, PyData.depthAll (xs.map PyData.str) ≤ 1
  | [] => by simp [PyData.depthAll]
  | x :: xs => by
    have := depth_strs xs
    simp [PyData.depthAll, PyData.depth]
    omega
theorem eqv_strsT {xs ys : List Str} : PyData.eqv (.tuple (xs.map PyData.str)) (.tuple (ys.map PyData.str)) = decide (xs = ys) := by
  rw [PyData.eqv, eqv_strs]
theorem shaped_strsT (xs : List Str) (h : ∀ x ∈ xs, Word x) : SeqAt.shaped (.tuple (xs.map PyData.str)) = true := by
  have h1 := lay_strs xs h
  have h2 := depth_strs xs
  unfold SeqAt.shaped
  simp [PyData.canLay0, PyData.depth, h1]
  omega
theorem dp_strsB {K : PySem.W.Frag} {H : Hp} : ∀ ss : List Str, DpAll K H (ss.map V.str) (ss.map PyData.str)
  | [] => .nil
  | s :: ss => .cons (.str s) (dp_strsB ss)
theorem rv_eqTI {K : PySem.W.Frag} {H : Hp} {a b : Addr} {xs ys : List Int} (h1 : H a = some (.tup (xs.map V.int))) (h2 : H b = some (.tup (ys.map V.int))) : RV (rEqD K) (.ref a) (.ref b) H (.bl (decide (xs = ys))) := fun H1 e Q q =>
  ⟨.tuple (xs.map .int), .tuple (ys.map .int), .tup (st_of (e _ _ h1)) (dp_ints _), .tup (st_of (e _ _ h2)) (dp_ints _), shaped_intsT _, shaped_intsT _, by rw [eqv_intsT]; exact q H1 (Ex.refl H1)⟩
theorem rv_eqTS {K : PySem.W.Frag} {H : Hp} {a b : Addr} {xs ys : List Str} (h1 : H a = some (.tup (xs.map V.str))) (h2 : H b = some (.tup (ys.map V.str))) (w1 : ∀ x ∈ xs, Word x) (w2 : ∀ x ∈ ys, Word x) : RV (rEqD K) (.ref a) (.ref b) H (.bl (decide (xs = ys))) := fun H1 e Q q =>
  ⟨.tuple (xs.map .str), .tuple (ys.map .str), .tup (st_of (e _ _ h1)) (dp_strsB _), .tup (st_of (e _ _ h2)) (dp_strsB _), shaped_strsT _ w1, shaped_strsT _ w2, by rw [eqv_strsT]; exact q H1 (Ex.refl H1)⟩
theorem pairs_eq : ∀ {gs fs : List (Str × Int)}, (gs.map (·.1) = fs.map (·.1) ∧ gs.map (·.2) = fs.map (·.2)) ↔ gs = fs
  | [], [] => by simp
  | [], f :: fs => by simp
  | g :: gs, [] => by simp
  | g :: gs, f :: fs => by
    have := pairs_eq (gs := gs) (fs := fs)
    simp only [List.map_cons, List.cons.injEq, ← this]
    constructor
    · rintro ⟨⟨h1, h2⟩, h3, h4⟩
      exact ⟨Prod.ext h1 h3, h2, h4⟩
    · rintro ⟨rfl, h2, h4⟩
      exact ⟨⟨rfl, h2⟩, rfl, h4⟩
/-! ### beats -/
def beaF (h s : V) : List (Str × V) := [("house", h), ("steps", s)]
def BeatIs (C : Addr) (v : V) (H : Hp) (h : V) (ss : List Int) : Prop := ∃ a dx p, v = .ref a ∧ H a = some (.ins C dx (beaF h (.ref p))) ∧ H p = some (.tup (ss.map V.int))
theorem BeatIs.ex {C : Addr} {v h : V} {H H' : Hp} {ss : List Int} (e : Ex H H') (q : BeatIs C v H h ss) : BeatIs C v H' h ss := by
  obtain ⟨a, dx, p, rfl, h1, h2⟩ := q
  exact ⟨a, dx, p, rfl, e _ _ h1, e _ _ h2⟩
inductive BErr where
  | wlen (k : Nat)
  | step (x : Int)
def badStep (m : Nat) (x : Int) : Bool := decide (x < -1 ∨ (m : Int) - 1 < x)
def beatAll (n m : Nat) (ss : List Int) : List BErr := (if ss.length = n then [] else [.wlen ss.length]) ++ (ss.filter (badStep m)).map .step
def beatErr (n m : Nat) (ss : List Int) : Option BErr := (beatAll n m ss).head?
structure BeatGood (n m : Nat) (ss : List Int) : Prop where
  len : ss.length = n
  val : ∀ x ∈ ss, -1 ≤ x ∧ x < (m : Int)
theorem beat_good {n m : Nat} {ss : List Int} (h : beatErr n m ss = none) : BeatGood n m ss := by
  unfold beatErr beatAll at h
  by_cases c : ss.length = n
  · rw [if_pos c, List.nil_append, List.head?_eq_none_iff, List.map_eq_nil_iff, List.filter_eq_nil_iff] at h
    exact ⟨c, fun x hx => by
      have hb : badStep m x = false := by simpa using h x hx
      unfold badStep at hb
      have := of_decide_eq_false hb
      omega⟩
  · rw [if_neg c] at h
    simp at h
theorem good_beat {n m : Nat} {ss : List Int} (h : BeatGood n m ss) : beatErr n m ss = none := by
  unfold beatErr beatAll
  rw [if_pos h.len, List.nil_append, List.head?_eq_none_iff, List.map_eq_nil_iff, List.filter_eq_nil_iff]
  intro x hx
  have := h.val x hx
  unfold badStep
  rw [decide_eq_false (by omega)]
  simp

/-! ### what a spread of starts meets, hour by hour -/
def fit (n : Int) (xs ss : List Int) (d : Int) : Int := ((ss.filter fun s => decide ((d - s) % n ∈ xs)).length : Int)
def fitL (n : Int) (xs ss : List Int) : List Int := (List.range n.toNat).map fun d : Nat => fit n xs ss (d : Int)
def negL (n : Int) (xs : List Int) : List Int := hrs n fun z => decide ((0 - z) % n ∈ xs)
def okB (n : Int) (xss : List (List Int)) (nd ss : List Int) (g : Nat) : Bool := (fitL n (xss.getD g []) ss).all fun x => decide (nd.getD g 0 ≤ x)
def enB (n : Int) (xss : List (List Int)) (nd ss : List Int) : Bool := (List.range xss.length).all (okB n xss nd ss)
theorem filt_perm {n : Int} {as bs : List Int} {p : Int → Bool} (h : (as.map (· % n)).Perm (bs.map (· % n))) (hp : ∀ z, p (z % n) = p z) : (as.filter p).length = (bs.filter p).length := by
  have e : ∀ cs : List Int, (cs.filter p).length = ((cs.map (· % n)).filter p).length := fun cs => by
    rw [List.filter_map, List.length_map]
    congr 1
    exact List.filter_congr fun x _ => (hp x).symm
  rw [e as, e bs]
  exact (h.filter p).length_eq
theorem perm_mem {as bs : List Int} (ha : as.Nodup) (hb : bs.Nodup) (h : ∀ z, z ∈ as ↔ z ∈ bs) : as.Perm bs := (List.perm_ext_iff_of_nodup ha hb).mpr h
theorem mod_res {n : Int} {xs : List Int} (hn : 0 < n) (zs : List Int) (h : Asc 0 n xs) (hd : (zs.map (· % n)).Nodup) (hm : ∀ z, 0 ≤ z → z < n → (z ∈ zs.map (· % n) ↔ z ∈ xs)) : (zs.map (· % n)).Perm (xs.map (· % n)) := by
  rw [asc_mod h]
  refine perm_mem hd h.nodup fun z => ?_
  constructor
  · intro hz
    obtain ⟨u, _, rfl⟩ := List.mem_map.mp hz
    exact (hm _ (Int.emod_nonneg _ (by omega)) (Int.emod_lt_of_pos _ hn)).mp hz
  · intro hz
    have := h.2 z hz
    exact (hm z this.1 this.2).mpr hz
theorem neg_perm {n : Int} {ss : List Int} (hn : 0 < n) (h : Asc 0 n ss) : ((ss.map fun s => -s).map (· % n)).Perm ((negL n ss).map (· % n)) :=
  mod_res hn _ (asc_hrs (by omega)) (nodup_minus hn h) fun z h0 h1 => by
    rw [mem_minus hn h h0 h1]
    show _ ↔ z ∈ hrs n _
    rw [mem_hrs]
    simp [h0, h1]
theorem turn_perm {n k : Int} {ss : List Int} (hn : 0 < n) (h : Asc 0 n ss) : ((ss.map fun s => s + k).map (· % n)).Perm ((turnL n k ss).map (· % n)) :=
  mod_res hn _ (asc_hrs (by omega)) (nodup_plus hn h) fun z h0 h1 => by
    rw [mem_plus hn h h0 h1]
    show _ ↔ z ∈ hrs n _
    rw [mem_hrs]
    simp [h0, h1]
theorem fit_mod {n d : Int} {xs ss : List Int} : fit n xs ss (d % n) = fit n xs ss d := by
  refine congrArg (fun l : List Int => (l.length : Int)) (List.filter_congr fun s _ => ?_)
  rw [Int.sub_emod, Int.emod_emod, ← Int.sub_emod]
theorem fit_turn {n k j d : Int} {xs ss : List Int} (hn : 0 < n) (hs : Asc 0 n ss) : fit n (turnL n k xs) (turnL n j ss) d = fit n xs ss (d - j - k) := by
  unfold fit
  rw [← filt_perm (turn_perm (k := j) hn hs) (p := fun s => decide ((d - s) % n ∈ turnL n k xs)) (fun z => by rw [Int.sub_emod, Int.emod_emod, ← Int.sub_emod]), List.filter_map, List.length_map]
  refine congrArg (fun l : List Int => (l.length : Int)) (List.filter_congr fun s _ => ?_)
  show decide ((d - (s + j)) % n ∈ turnL n k xs) = _
  rw [decide_eq_decide, mem_turnL]
  have a := Int.emod_nonneg (d - (s + j)) (show n ≠ 0 by omega)
  have b := Int.emod_lt_of_pos (d - (s + j)) hn
  rw [show ((d - (s + j)) % n - k) % n = (d - j - k - s) % n by rw [Int.sub_emod, Int.emod_emod, ← Int.sub_emod]; congr 1; omega]
  exact ⟨fun z => z.2, fun z => ⟨⟨a, b⟩, z⟩⟩
/-- the law's own count -/
theorem cnt_law {n : Int} {xs ss : List Int} (hn : 0 < n) (h : Asc 0 n xs) : cntP n (prod xs (ss.map fun s => -s)) = fitL n xs ss := by
  rw [cnt_eq hn h]
  refine List.map_congr_left fun d _ => ?_
  unfold fit
  rw [List.filter_map, List.length_map]
  congr 3
  funext s
  show decide ((-s + (d : Int)) % n ∈ xs) = decide (((d : Int) - s) % n ∈ xs)
  rw [show -s + (d : Int) = (d : Int) - s by omega]
/-- .. and that of the program -/
theorem cnt_prog {n : Int} {xs ss : List Int} (hn : 0 < n) (h : Asc 0 n xs) (hs : Asc 0 n ss) : cntP n (prod xs (negL n ss)) = fitL n xs ss := by
  rw [← cnt_law hn h, cnt_eq hn h, cnt_eq hn h]
  refine List.map_congr_left fun d _ => ?_
  rw [filt_perm (neg_perm hn hs) (fun z => by rw [Int.add_emod, Int.emod_emod, ← Int.add_emod])]
theorem fitL_len {n : Int} {xs ss : List Int} : (fitL n xs ss).length = n.toNat := by
  unfold fitL
  rw [List.length_map, List.length_range]
theorem fitL_all {n : Int} {xs ss : List Int} {p : Int → Bool} (hn : 0 < n) : (fitL n xs ss).all p = true ↔ ∀ d : Int, p (fit n xs ss d) = true := by
  rw [List.all_eq_true]
  constructor
  · intro h d
    have a := Int.emod_nonneg d (show n ≠ 0 by omega)
    have b := Int.emod_lt_of_pos d hn
    rw [← fit_mod]
    refine h _ (List.mem_map.mpr ⟨(d % n).toNat, List.mem_range.mpr (by omega), ?_⟩)
    rw [show (((d % n).toNat : Nat) : Int) = d % n by omega]
  · intro h x hx
    obtain ⟨d, _, rfl⟩ := List.mem_map.mp hx
    exact h _
theorem okB_turn {n j : Int} {xss yss : List (List Int)} {nd ss : List Int} {g : Nat} (hn : 0 < n) (hs : Asc 0 n ss) (k : Int) (e : yss.getD g [] = turnL n k (xss.getD g [])) : okB n yss nd (turnL n j ss) g = okB n xss nd ss g := by
  unfold okB
  rw [Bool.eq_iff_iff, fitL_all hn, fitL_all hn, e]
  constructor
  · intro h d
    have := h (d + j + k)
    rw [fit_turn hn hs, show d + j + k - j - k = d by omega] at this
    exact this
  · intro h d
    rw [fit_turn hn hs]
    exact h _
theorem enB_turn {n j : Int} {xss yss : List (List Int)} {nd ss : List Int} (hn : 0 < n) (hs : Asc 0 n ss) (hl : yss.length = xss.length) (e : ∀ g, g < xss.length → ∃ k, yss.getD g [] = turnL n k (xss.getD g [])) : enB n yss nd (turnL n j ss) = enB n xss nd ss := by
  unfold enB
  rw [hl, Bool.eq_iff_iff, List.all_eq_true, List.all_eq_true]
  constructor
  · intro h g hg
    obtain ⟨k, hk⟩ := e g (List.mem_range.mp hg)
    rw [← okB_turn hn hs k hk (j := j)]
    exact h g hg
  · intro h g hg
    obtain ⟨k, hk⟩ := e g (List.mem_range.mp hg)
    rw [okB_turn hn hs k hk]
    exact h g hg

/-! ### y not in x, x an object of the class at C -/
def rOwnNi (C : Addr) (sp : Sp) (E : L2.St → XK) (σ : L2.St) : R2 := fun y x H Q => ∃ a dx fs, x = .ref a ∧ H a = some (.ins C dx fs) ∧ sp [x, y] H (fun v H' => ∃ b, v = .bl b ∧ Q (.bl (!b)) H') (E σ)
section
variable {X : Cx} {CX : CXT} {f C : Addr} {fd : FuncData} {ps : List Str} {n : Nat} {sp : Sp} {E : L2.St → XK}
theorem op_ownNi (m : Meth X.K C "__contains__" f) (F : FnOk X.prog X.w X.K X.mg X.base CX n f fd ps sp) (hr : Room n X.A) (hb : Binds X.K fd ps []) (hx : ∀ σ, PassesAt CX X σ (E σ)) : OpS X (compareOp .NotIn) (rOwnNi C sp E) := by
  intro pins s σ H y x u v Q I ry rx h
  obtain ⟨a, dx, fs, rfl, ha, h⟩ := h
  cases rx
  obtain ⟨mA, J, _⟩ := ins_get I.hok ha
  obtain ⟨od, J, _⟩ := J.look
  have hX := I.kIn
  have one := run_own (vs := [V.ref a, y]) F hr hb (hx σ) I (.cons rfl (.cons ry .nil)) h
  show wpAny _ _ (do return Value.bool (!(← contains (.ref a) u))) _ X.xe s
  refine wpAny_bind ?_
  unfold contains
  refine wpAny_holding ?_
  refine wpAny_bind (wpAny_bind (J.type.here ((PySem.W.looks_findIn hX m.at_).here ?_)))
  show wpAny _ _ (if (some (Value.ref f) == some Value.none) = true then _ else _) _ X.xe s
  rw [if_neg (by simp)]
  unfold callSpecialUnlessNone?
  refine wpAny_bind (wpAny_bind (wpAny_bind (J.type.here ((PySem.W.looks_findIn hX m.at_).here ?_))))
  refine wpAny_holding (wpAny_bind ((PySem.W.bind_fn hX _ (beq_iff_eq.mp m.fn)).here ?_))
  show wpAny _ _ (if (Value.ref f == Value.none) = true then _ else _) _ X.xe s
  rw [if_neg (by simp)]
  refine wpAny_bind (wpAny_mono one (fun z s' hz => ?_) fun _ _ e => e)
  have hz' : (EP X pins σ fun v H' => ∃ b, v = .bl b ∧ Q (.bl (!b)) H') z s' := by
    cases z <;> first | exact hz.elim | exact hz
  obtain ⟨v, H', I', rv, b, rfl, q⟩ := hz'
  cases (show z = Value.bool b from rv)
  refine wpAny_pure ?_
  exact wpAny_truthy_bool (wpAny_pure ⟨.bl (!b), H', I', rfl, q⟩)
end
/-! ### crews -/
def crewF (b s : V) : List (Str × V) := [("beat", b), ("starts", s)]
structure Ads where
  f_BadNumber_init : Addr
  d_BadNumber_init : FuncData
  f_TooMany_init : Addr
  d_TooMany_init : FuncData
  f_RepeatedHour_init : Addr
  d_RepeatedHour_init : FuncData
  f_WrongLength_init : Addr
  d_WrongLength_init : FuncData
  f_BadName_init : Addr
  d_BadName_init : FuncData
  f_RepeatedName_init : Addr
  d_RepeatedName_init : FuncData
  f_Lot_init : Addr
  d_Lot_init : FuncData
  f_Lot_members : Addr
  d_Lot_members : FuncData
  f_Lot_len : Addr
  d_Lot_len : FuncData
  f_Lot_iter : Addr
  d_Lot_iter : FuncData
  f_Lot_contains : Addr
  d_Lot_contains : FuncData
  f_Lot_eq : Addr
  d_Lot_eq : FuncData
  f_Lot_lshift : Addr
  d_Lot_lshift : FuncData
  f_Lot_neg : Addr
  d_Lot_neg : FuncData
  f_Lot_invert : Addr
  d_Lot_invert : FuncData
  f_check_name : Addr
  d_check_name : FuncData
  f_check_new_name : Addr
  d_check_new_name : FuncData
  f_House_init : Addr
  d_House_init : FuncData
  f_House_len : Addr
  d_House_len : FuncData
  f_House_eq : Addr
  d_House_eq : FuncData
  f_is_gate : Addr
  d_is_gate : FuncData
  f_Beat_init : Addr
  d_Beat_init : FuncData
  f_Beat_lot : Addr
  d_Beat_lot : FuncData
  f_Beat_getitem : Addr
  d_Beat_getitem : FuncData
  f_Beat_eq : Addr
  d_Beat_eq : FuncData
  f_Beat_lshift : Addr
  d_Beat_lshift : FuncData
  f_meetings : Addr
  d_meetings : FuncData
  f_Crew_init : Addr
  d_Crew_init : FuncData
  f_Crew_row : Addr
  d_Crew_row : FuncData
  f_Crew_working : Addr
  d_Crew_working : FuncData
  f_Crew_len : Addr
  d_Crew_len : FuncData
  f_Crew_eq : Addr
  d_Crew_eq : FuncData
  f_Crew_lshift : Addr
  d_Crew_lshift : FuncData
  f_u_law_cell : Addr
  d_u_law_cell : FuncData
  f_u_law_draws : Addr
  d_u_law_draws : FuncData
  f_u_law_two : Addr
  d_u_law_two : FuncData
  f_u_law_bits : Addr
  d_u_law_bits : FuncData
  f_u_law_is_int : Addr
  d_u_law_is_int : FuncData
  f_u_law_same : Addr
  d_u_law_same : FuncData
  f_u_law_name : Addr
  d_u_law_name : FuncData
  f_u_law_names : Addr
  d_u_law_names : FuncData
  f_u_law_gates : Addr
  d_u_law_gates : FuncData
  f_u_law_number : Addr
  d_u_law_number : FuncData
  f_u_law_walked : Addr
  d_u_law_walked : FuncData
  f_u_law_no_row : Addr
  d_u_law_no_row : FuncData
  f_u_law_works : Addr
  d_u_law_works : FuncData
  f_u_law_shows : Addr
  d_u_law_shows : FuncData
  f_u_law_other_ring : Addr
  d_u_law_other_ring : FuncData
  f_u_law_great : Addr
  d_u_law_great : FuncData
  f_u_law_unlike : Addr
  d_u_law_unlike : FuncData
  f_u_law_grown : Addr
  d_u_law_grown : FuncData
  f_law : Addr
  d_law : FuncData
  C_BadNumber : Addr
  C_TooMany : Addr
  C_RepeatedHour : Addr
  C_OtherHours : Addr
  C_OtherHouse : Addr
  C_WrongLength : Addr
  C_NoPlace : Addr
  C_BadName : Addr
  C_RepeatedName : Addr
  C_WatchError : Addr
  C_Lot : Addr
  C_House : Addr
  C_Beat : Addr
  C_Crew : Addr
  p_Lot_members : Addr
structure Txt (K : PySem.W.Frag) (mg : Str → Option Value) (A : Ads) : Prop where
  F_BadNumber_init : Fun K "__init__" "BadNumber.__init__" s_BadNumber_init A.f_BadNumber_init A.d_BadNumber_init
  F_TooMany_init : Fun K "__init__" "TooMany.__init__" s_TooMany_init A.f_TooMany_init A.d_TooMany_init
  F_RepeatedHour_init : Fun K "__init__" "RepeatedHour.__init__" s_RepeatedHour_init A.f_RepeatedHour_init A.d_RepeatedHour_init
  F_WrongLength_init : Fun K "__init__" "WrongLength.__init__" s_WrongLength_init A.f_WrongLength_init A.d_WrongLength_init
  F_BadName_init : Fun K "__init__" "BadName.__init__" s_BadName_init A.f_BadName_init A.d_BadName_init
  F_RepeatedName_init : Fun K "__init__" "RepeatedName.__init__" s_RepeatedName_init A.f_RepeatedName_init A.d_RepeatedName_init
  F_Lot_init : Fun K "__init__" "Lot.__init__" s_Lot_init A.f_Lot_init A.d_Lot_init
  F_Lot_members : Fun K "members" "Lot.members" s_Lot_members A.f_Lot_members A.d_Lot_members
  F_Lot_len : Fun K "__len__" "Lot.__len__" s_Lot_len A.f_Lot_len A.d_Lot_len
  F_Lot_iter : Fun K "__iter__" "Lot.__iter__" s_Lot_iter A.f_Lot_iter A.d_Lot_iter
  F_Lot_contains : Fun K "__contains__" "Lot.__contains__" s_Lot_contains A.f_Lot_contains A.d_Lot_contains
  F_Lot_eq : Fun K "__eq__" "Lot.__eq__" s_Lot_eq A.f_Lot_eq A.d_Lot_eq
  F_Lot_lshift : Fun K "__lshift__" "Lot.__lshift__" s_Lot_lshift A.f_Lot_lshift A.d_Lot_lshift
  F_Lot_neg : Fun K "__neg__" "Lot.__neg__" s_Lot_neg A.f_Lot_neg A.d_Lot_neg
  F_Lot_invert : Fun K "__invert__" "Lot.__invert__" s_Lot_invert A.f_Lot_invert A.d_Lot_invert
  F_check_name : Fun K "check_name" "check_name" s_check_name A.f_check_name A.d_check_name
  g_check_name : mg "check_name" = some (.ref A.f_check_name)
  k_check_name : PySem.W.keepIn K (.ref A.f_check_name) = true
  F_check_new_name : Fun K "check_new_name" "check_new_name" s_check_new_name A.f_check_new_name A.d_check_new_name
  g_check_new_name : mg "check_new_name" = some (.ref A.f_check_new_name)
  k_check_new_name : PySem.W.keepIn K (.ref A.f_check_new_name) = true
  F_House_init : Fun K "__init__" "House.__init__" s_House_init A.f_House_init A.d_House_init
  F_House_len : Fun K "__len__" "House.__len__" s_House_len A.f_House_len A.d_House_len
  F_House_eq : Fun K "__eq__" "House.__eq__" s_House_eq A.f_House_eq A.d_House_eq
  F_is_gate : Fun K "is_gate" "is_gate" s_is_gate A.f_is_gate A.d_is_gate
  g_is_gate : mg "is_gate" = some (.ref A.f_is_gate)
  k_is_gate : PySem.W.keepIn K (.ref A.f_is_gate) = true
  F_Beat_init : Fun K "__init__" "Beat.__init__" s_Beat_init A.f_Beat_init A.d_Beat_init
  F_Beat_lot : Fun K "lot" "Beat.lot" s_Beat_lot A.f_Beat_lot A.d_Beat_lot
  F_Beat_getitem : Fun K "__getitem__" "Beat.__getitem__" s_Beat_getitem A.f_Beat_getitem A.d_Beat_getitem
  F_Beat_eq : Fun K "__eq__" "Beat.__eq__" s_Beat_eq A.f_Beat_eq A.d_Beat_eq
  F_Beat_lshift : Fun K "__lshift__" "Beat.__lshift__" s_Beat_lshift A.f_Beat_lshift A.d_Beat_lshift
  F_meetings : Fun K "meetings" "meetings" s_meetings A.f_meetings A.d_meetings
  g_meetings : mg "meetings" = some (.ref A.f_meetings)
  k_meetings : PySem.W.keepIn K (.ref A.f_meetings) = true
  F_Crew_init : Fun K "__init__" "Crew.__init__" s_Crew_init A.f_Crew_init A.d_Crew_init
  F_Crew_row : Fun K "row" "Crew.row" s_Crew_row A.f_Crew_row A.d_Crew_row
  F_Crew_working : Fun K "working" "Crew.working" s_Crew_working A.f_Crew_working A.d_Crew_working
  F_Crew_len : Fun K "__len__" "Crew.__len__" s_Crew_len A.f_Crew_len A.d_Crew_len
  F_Crew_eq : Fun K "__eq__" "Crew.__eq__" s_Crew_eq A.f_Crew_eq A.d_Crew_eq
  F_Crew_lshift : Fun K "__lshift__" "Crew.__lshift__" s_Crew_lshift A.f_Crew_lshift A.d_Crew_lshift
  F_u_law_cell : Fun K "_law_cell" "_law_cell" s_u_law_cell A.f_u_law_cell A.d_u_law_cell
  g_u_law_cell : mg "_law_cell" = some (.ref A.f_u_law_cell)
  k_u_law_cell : PySem.W.keepIn K (.ref A.f_u_law_cell) = true
  F_u_law_draws : Fun K "_law_draws" "_law_draws" s_u_law_draws A.f_u_law_draws A.d_u_law_draws
  g_u_law_draws : mg "_law_draws" = some (.ref A.f_u_law_draws)
  k_u_law_draws : PySem.W.keepIn K (.ref A.f_u_law_draws) = true
  F_u_law_two : Fun K "_law_two" "_law_two" s_u_law_two A.f_u_law_two A.d_u_law_two
  g_u_law_two : mg "_law_two" = some (.ref A.f_u_law_two)
  k_u_law_two : PySem.W.keepIn K (.ref A.f_u_law_two) = true
  F_u_law_bits : Fun K "_law_bits" "_law_bits" s_u_law_bits A.f_u_law_bits A.d_u_law_bits
  g_u_law_bits : mg "_law_bits" = some (.ref A.f_u_law_bits)
  k_u_law_bits : PySem.W.keepIn K (.ref A.f_u_law_bits) = true
  F_u_law_is_int : Fun K "_law_is_int" "_law_is_int" s_u_law_is_int A.f_u_law_is_int A.d_u_law_is_int
  g_u_law_is_int : mg "_law_is_int" = some (.ref A.f_u_law_is_int)
  k_u_law_is_int : PySem.W.keepIn K (.ref A.f_u_law_is_int) = true
  F_u_law_same : Fun K "_law_same" "_law_same" s_u_law_same A.f_u_law_same A.d_u_law_same
  g_u_law_same : mg "_law_same" = some (.ref A.f_u_law_same)
  k_u_law_same : PySem.W.keepIn K (.ref A.f_u_law_same) = true
  F_u_law_name : Fun K "_law_name" "_law_name" s_u_law_name A.f_u_law_name A.d_u_law_name
  g_u_law_name : mg "_law_name" = some (.ref A.f_u_law_name)
  k_u_law_name : PySem.W.keepIn K (.ref A.f_u_law_name) = true
  F_u_law_names : Fun K "_law_names" "_law_names" s_u_law_names A.f_u_law_names A.d_u_law_names
  g_u_law_names : mg "_law_names" = some (.ref A.f_u_law_names)
  k_u_law_names : PySem.W.keepIn K (.ref A.f_u_law_names) = true
  F_u_law_gates : Fun K "_law_gates" "_law_gates" s_u_law_gates A.f_u_law_gates A.d_u_law_gates
  g_u_law_gates : mg "_law_gates" = some (.ref A.f_u_law_gates)
  k_u_law_gates : PySem.W.keepIn K (.ref A.f_u_law_gates) = true
  F_u_law_number : Fun K "_law_number" "_law_number" s_u_law_number A.f_u_law_number A.d_u_law_number
  g_u_law_number : mg "_law_number" = some (.ref A.f_u_law_number)
  k_u_law_number : PySem.W.keepIn K (.ref A.f_u_law_number) = true
  F_u_law_walked : Fun K "_law_walked" "_law_walked" s_u_law_walked A.f_u_law_walked A.d_u_law_walked
  g_u_law_walked : mg "_law_walked" = some (.ref A.f_u_law_walked)
  k_u_law_walked : PySem.W.keepIn K (.ref A.f_u_law_walked) = true
  F_u_law_no_row : Fun K "_law_no_row" "_law_no_row" s_u_law_no_row A.f_u_law_no_row A.d_u_law_no_row
  g_u_law_no_row : mg "_law_no_row" = some (.ref A.f_u_law_no_row)
  k_u_law_no_row : PySem.W.keepIn K (.ref A.f_u_law_no_row) = true
  F_u_law_works : Fun K "_law_works" "_law_works" s_u_law_works A.f_u_law_works A.d_u_law_works
  g_u_law_works : mg "_law_works" = some (.ref A.f_u_law_works)
  k_u_law_works : PySem.W.keepIn K (.ref A.f_u_law_works) = true
  F_u_law_shows : Fun K "_law_shows" "_law_shows" s_u_law_shows A.f_u_law_shows A.d_u_law_shows
  g_u_law_shows : mg "_law_shows" = some (.ref A.f_u_law_shows)
  k_u_law_shows : PySem.W.keepIn K (.ref A.f_u_law_shows) = true
  F_u_law_other_ring : Fun K "_law_other_ring" "_law_other_ring" s_u_law_other_ring A.f_u_law_other_ring A.d_u_law_other_ring
  g_u_law_other_ring : mg "_law_other_ring" = some (.ref A.f_u_law_other_ring)
  k_u_law_other_ring : PySem.W.keepIn K (.ref A.f_u_law_other_ring) = true
  F_u_law_great : Fun K "_law_great" "_law_great" s_u_law_great A.f_u_law_great A.d_u_law_great
  g_u_law_great : mg "_law_great" = some (.ref A.f_u_law_great)
  k_u_law_great : PySem.W.keepIn K (.ref A.f_u_law_great) = true
  F_u_law_unlike : Fun K "_law_unlike" "_law_unlike" s_u_law_unlike A.f_u_law_unlike A.d_u_law_unlike
  g_u_law_unlike : mg "_law_unlike" = some (.ref A.f_u_law_unlike)
  k_u_law_unlike : PySem.W.keepIn K (.ref A.f_u_law_unlike) = true
  F_u_law_grown : Fun K "_law_grown" "_law_grown" s_u_law_grown A.f_u_law_grown A.d_u_law_grown
  g_u_law_grown : mg "_law_grown" = some (.ref A.f_u_law_grown)
  k_u_law_grown : PySem.W.keepIn K (.ref A.f_u_law_grown) = true
  F_law : Fun K "law" "law" s_law A.f_law A.d_law
  g_law : mg "law" = some (.ref A.f_law)
  k_law : PySem.W.keepIn K (.ref A.f_law) = true
  c_LONGEST_NAME : ∃ t, mg "_LONGEST_NAME" = some (.int 8 t)
  c_MOST : ∃ t, mg "_MOST" = some (.int 360 t)
  c_REST : ∃ t, mg "REST" = some (.int (-1) t)
  c_LETTERS : ∃ t, mg "_LETTERS" = some (.str "abcdefghijklmnopqrstuvwxyz" t)
  z_abs : mg "abs" = none
  z_len : mg "len" = none
  z_int : mg "int" = none
  z_bool : mg "bool" = none
  z_str : mg "str" = none
  z_list : mg "list" = none
  z_tuple : mg "tuple" = none
  z_isinstance : mg "isinstance" = none
  z_range : mg "range" = none
  z_ValueError : mg "ValueError" = none
  z_min : mg "min" = none
  z_max : mg "max" = none
  z_enumerate : mg "enumerate" = none
  z_zip : mg "zip" = none
  z_iter : mg "iter" = none
  g_BadNumber : mg "BadNumber" = some (.ref A.C_BadNumber)
  g_TooMany : mg "TooMany" = some (.ref A.C_TooMany)
  g_RepeatedHour : mg "RepeatedHour" = some (.ref A.C_RepeatedHour)
  g_OtherHours : mg "OtherHours" = some (.ref A.C_OtherHours)
  g_OtherHouse : mg "OtherHouse" = some (.ref A.C_OtherHouse)
  g_WrongLength : mg "WrongLength" = some (.ref A.C_WrongLength)
  g_NoPlace : mg "NoPlace" = some (.ref A.C_NoPlace)
  g_BadName : mg "BadName" = some (.ref A.C_BadName)
  g_RepeatedName : mg "RepeatedName" = some (.ref A.C_RepeatedName)
  g_WatchError : mg "WatchError" = some (.ref A.C_WatchError)
  g_Lot : mg "Lot" = some (.ref A.C_Lot)
  g_House : mg "House" = some (.ref A.C_House)
  g_Beat : mg "Beat" = some (.ref A.C_Beat)
  g_Crew : mg "Crew" = some (.ref A.C_Crew)
  si_tuple : PySem.W.subIn K (.type "tuple") (.ref A.C_Beat) = some false
  kit_tuple_Beat : PySem.W.kitOne K (.type "tuple") (.ref A.C_Beat) = some false
  si_Beat_Crew : PySem.W.subIn K (.ref A.C_Beat) (.ref A.C_Crew) = some false
  kit_Beat_Crew : PySem.W.kitOne K (.ref A.C_Beat) (.ref A.C_Crew) = some false
  ox_BadNumber : OexC K A.C_BadNumber
  ni_BadNumber : PySem.W.findIn K (.ref A.C_BadNumber) "__init__" = some (some (.ref A.f_BadNumber_init))
  ti_BadNumber : PySem.W.typeIn K (.ref A.f_BadNumber_init) = some (.type "function")
  nf_BadNumber_name : PySem.W.findIn K (.ref A.C_BadNumber) "name" = some none
  nf_BadNumber_value : PySem.W.findIn K (.ref A.C_BadNumber) "value" = some none
  xf_BadNumber : XfC K A.C_BadNumber
  ex_BadNumber : ExcC K A.C_BadNumber
  ox_TooMany : OexC K A.C_TooMany
  ni_TooMany : PySem.W.findIn K (.ref A.C_TooMany) "__init__" = some (some (.ref A.f_TooMany_init))
  ti_TooMany : PySem.W.typeIn K (.ref A.f_TooMany_init) = some (.type "function")
  nf_TooMany_name : PySem.W.findIn K (.ref A.C_TooMany) "name" = some none
  nf_TooMany_most : PySem.W.findIn K (.ref A.C_TooMany) "most" = some none
  xf_TooMany : XfC K A.C_TooMany
  ex_TooMany : ExcC K A.C_TooMany
  ox_BadName : OexC K A.C_BadName
  ni_BadName : PySem.W.findIn K (.ref A.C_BadName) "__init__" = some (some (.ref A.f_BadName_init))
  ti_BadName : PySem.W.typeIn K (.ref A.f_BadName_init) = some (.type "function")
  nf_BadName_name : PySem.W.findIn K (.ref A.C_BadName) "name" = some none
  xf_BadName : XfC K A.C_BadName
  ex_BadName : ExcC K A.C_BadName
  ox_RepeatedName : OexC K A.C_RepeatedName
  ni_RepeatedName : PySem.W.findIn K (.ref A.C_RepeatedName) "__init__" = some (some (.ref A.f_RepeatedName_init))
  ti_RepeatedName : PySem.W.typeIn K (.ref A.f_RepeatedName_init) = some (.type "function")
  nf_RepeatedName_name : PySem.W.findIn K (.ref A.C_RepeatedName) "name" = some none
  xf_RepeatedName : XfC K A.C_RepeatedName
  ex_RepeatedName : ExcC K A.C_RepeatedName
  ox_WrongLength : OexC K A.C_WrongLength
  ni_WrongLength : PySem.W.findIn K (.ref A.C_WrongLength) "__init__" = some (some (.ref A.f_WrongLength_init))
  ti_WrongLength : PySem.W.typeIn K (.ref A.f_WrongLength_init) = some (.type "function")
  nf_WrongLength_length : PySem.W.findIn K (.ref A.C_WrongLength) "length" = some none
  xf_WrongLength : XfC K A.C_WrongLength
  ex_WrongLength : ExcC K A.C_WrongLength
  ox_RepeatedHour : OexC K A.C_RepeatedHour
  ni_RepeatedHour : PySem.W.findIn K (.ref A.C_RepeatedHour) "__init__" = some (some (.ref A.f_RepeatedHour_init))
  ti_RepeatedHour : PySem.W.typeIn K (.ref A.f_RepeatedHour_init) = some (.type "function")
  nf_RepeatedHour_hour : PySem.W.findIn K (.ref A.C_RepeatedHour) "hour" = some none
  xf_RepeatedHour : XfC K A.C_RepeatedHour
  ex_RepeatedHour : ExcC K A.C_RepeatedHour
  xP_NoPlace : PySem.W.excIn K A.C_NoPlace [.type "ValueError", .type "Exception", .type "BaseException", .type "object"] "ValueError.__new__" = true
  kP_NoPlace : PySem.W.keepIn K (.ref A.C_NoPlace) = true
  bP_NoPlace : PySem.W.subIn K (.ref A.C_NoPlace) (.type "BaseException") = some true
  tP_NoPlace : PySem.W.typeIn K (.ref A.C_NoPlace) = some (.type "type")
  ex_NoPlace : ExcC K A.C_NoPlace
  xP_OtherHours : PySem.W.excIn K A.C_OtherHours [.type "ValueError", .type "Exception", .type "BaseException", .type "object"] "ValueError.__new__" = true
  kP_OtherHours : PySem.W.keepIn K (.ref A.C_OtherHours) = true
  bP_OtherHours : PySem.W.subIn K (.ref A.C_OtherHours) (.type "BaseException") = some true
  tP_OtherHours : PySem.W.typeIn K (.ref A.C_OtherHours) = some (.type "type")
  ex_OtherHours : ExcC K A.C_OtherHours
  xP_OtherHouse : PySem.W.excIn K A.C_OtherHouse [.type "ValueError", .type "Exception", .type "BaseException", .type "object"] "ValueError.__new__" = true
  kP_OtherHouse : PySem.W.keepIn K (.ref A.C_OtherHouse) = true
  bP_OtherHouse : PySem.W.subIn K (.ref A.C_OtherHouse) (.type "BaseException") = some true
  tP_OtherHouse : PySem.W.typeIn K (.ref A.C_OtherHouse) = some (.type "type")
  ex_OtherHouse : ExcC K A.C_OtherHouse
  xm_NoPlace_NoPlace : PySem.W.exmOne K (.ref A.C_NoPlace) (.ref A.C_NoPlace) = some true
  xm_OtherHours_OtherHours : PySem.W.exmOne K (.ref A.C_OtherHours) (.ref A.C_OtherHours) = some true
  kit_NoPlace_WatchError : PySem.W.kitOne K (.ref A.C_NoPlace) (.ref A.C_WatchError) = some true
  kit_NoPlace_ValueError : PySem.W.kitOne K (.ref A.C_NoPlace) (.type "ValueError") = some true
  kit_NoPlace_OtherHours : PySem.W.kitOne K (.ref A.C_NoPlace) (.ref A.C_OtherHours) = some false
  kit_NoPlace_BadNumber : PySem.W.kitOne K (.ref A.C_NoPlace) (.ref A.C_BadNumber) = some false
  kit_OtherHours_WatchError : PySem.W.kitOne K (.ref A.C_OtherHours) (.ref A.C_WatchError) = some true
  kit_OtherHours_ValueError : PySem.W.kitOne K (.ref A.C_OtherHours) (.type "ValueError") = some true
  kit_OtherHours_OtherHouse : PySem.W.kitOne K (.ref A.C_OtherHours) (.ref A.C_OtherHouse) = some false
  kit_OtherHours_NoPlace : PySem.W.kitOne K (.ref A.C_OtherHours) (.ref A.C_NoPlace) = some false
  cl_House : Cls K A.C_House
  mk_House : Mk K A.C_House A.f_House_init
  na_House_hours : NoAttr K A.C_House "hours"
  na_House_names : NoAttr K A.C_House "names"
  na_House_stakes : NoAttr K A.C_House "stakes"
  ty_House : ∀ (H : Hp) (a dx : Addr) (fs : List (Str × V)), H a = some (.ins A.C_House dx fs) → TyX K H (.ref a) (.ref A.C_House)
  rd_House : ∃ mc, ClX.CRead K A.C_House mc ∧ (∃ t, ClX.CVal K A.C_House mc "MOST_HOURS" (.int 24) (.int 24 t)) ∧ (∃ t, ClX.CVal K A.C_House mc "MOST_GATES" (.int 4) (.int 4 t)) ∧ (∃ t, ClX.CVal K A.C_House mc "MOST_CELLS" (.int 48) (.int 48 t)) ∧ (∃ t, ClX.CVal K A.C_House mc "MOST_STAKE" (.int 60) (.int 60 t))
  cl_Beat : Cls K A.C_Beat
  mk_Beat : Mk K A.C_Beat A.f_Beat_init
  na_Beat_house : NoAttr K A.C_Beat "house"
  na_Beat_steps : NoAttr K A.C_Beat "steps"
  op_Beat : Ops K A.C_Beat
  D_Beat_lshift : Meth K A.C_Beat (PySem.dunder "lshift") A.f_Beat_lshift
  I_Beat_lshift : IntOp K A.C_Beat "lshift"
  no_Beat : ∃ d, NoIn K A.C_Beat d
  ip_Beat_lshift : PySem.W.findIn K (.ref A.C_Beat) (dunderI "lshift") = some none ∧ PySem.W.findIn K (.type "object") (dunderI "lshift") = some none
  ne_Beat : NeOf K A.C_Beat
  ty_Beat : ∀ (H : Hp) (a dx : Addr) (fs : List (Str × V)), H a = some (.ins A.C_Beat dx fs) → TyX K H (.ref a) (.ref A.C_Beat)
  cl_Lot : Cls K A.C_Lot
  mk_Lot : Mk K A.C_Lot A.f_Lot_init
  na_Lot_hours : NoAttr K A.C_Lot "hours"
  na_Lot_members : NoAttr K A.C_Lot "_members"
  op_Lot : Ops K A.C_Lot
  D_Lot_lshift : Meth K A.C_Lot (PySem.dunder "lshift") A.f_Lot_lshift
  I_Lot_lshift : IntOp K A.C_Lot "lshift"
  ty_Lot : ∀ (H : Hp) (a dx : Addr) (fs : List (Str × V)), H a = some (.ins A.C_Lot dx fs) → TyX K H (.ref a) (.ref A.C_Lot)
  rd_Lot : ∃ mc, ClX.CRead K A.C_Lot mc ∧ (∃ t, ClX.CVal K A.C_Lot mc "MOST" (.int 360) (.int 360 t))
  cl_Crew : Cls K A.C_Crew
  mk_Crew : Mk K A.C_Crew A.f_Crew_init
  na_Crew_beat : NoAttr K A.C_Crew "beat"
  na_Crew_starts : NoAttr K A.C_Crew "starts"
  op_Crew : Ops K A.C_Crew
  D_Crew_lshift : Meth K A.C_Crew (PySem.dunder "lshift") A.f_Crew_lshift
  I_Crew_lshift : IntOp K A.C_Crew "lshift"
  no_Crew : ∃ d, NoIn K A.C_Crew d
  ip_Crew_lshift : PySem.W.findIn K (.ref A.C_Crew) (dunderI "lshift") = some none ∧ PySem.W.findIn K (.type "object") (dunderI "lshift") = some none
  ne_Crew : NeOf K A.C_Crew
  ty_Crew : ∀ (H : Hp) (a dx : Addr) (fs : List (Str × V)), H a = some (.ins A.C_Crew dx fs) → TyX K H (.ref a) (.ref A.C_Crew)
  P_Lot_members : PropOf K A.C_Lot "members" A.p_Lot_members A.f_Lot_members
  M_Lot_len : Meth K A.C_Lot "__len__" A.f_Lot_len
  M_Lot_iter : Meth K A.C_Lot "__iter__" A.f_Lot_iter
  M_Lot_contains : Meth K A.C_Lot "__contains__" A.f_Lot_contains
  M_Lot_eq : Meth K A.C_Lot "__eq__" A.f_Lot_eq
  M_Lot_lshift : Meth K A.C_Lot "__lshift__" A.f_Lot_lshift
  M_Lot_neg : Meth K A.C_Lot "__neg__" A.f_Lot_neg
  M_Lot_invert : Meth K A.C_Lot "__invert__" A.f_Lot_invert
  M_House_len : Meth K A.C_House "__len__" A.f_House_len
  M_House_eq : Meth K A.C_House "__eq__" A.f_House_eq
  M_Beat_lot : Meth K A.C_Beat "lot" A.f_Beat_lot
  M_Beat_getitem : Meth K A.C_Beat "__getitem__" A.f_Beat_getitem
  FI_Beat_getitem : PySem.W.fnIn K A.f_Beat_getitem = true
  M_Beat_eq : Meth K A.C_Beat "__eq__" A.f_Beat_eq
  M_Beat_lshift : Meth K A.C_Beat "__lshift__" A.f_Beat_lshift
  M_Crew_row : Meth K A.C_Crew "row" A.f_Crew_row
  M_Crew_working : Meth K A.C_Crew "working" A.f_Crew_working
  M_Crew_len : Meth K A.C_Crew "__len__" A.f_Crew_len
  M_Crew_eq : Meth K A.C_Crew "__eq__" A.f_Crew_eq
  M_Crew_lshift : Meth K A.C_Crew "__lshift__" A.f_Crew_lshift
section
variable {P : Program} {w : World} {K : PySem.W.Frag} {mg : Str → Option Value} {base : Heap} {A : Ads}
theorem sc_BadNumber_init : FnScope N_BadNumber_init (["self", "name", "value"] : List Str) (defScope s_BadNumber_init) := ⟨rfl, rfl, rfl, by decide +kernel, rfl, by decide +kernel, by decide +kernel⟩
theorem b_BadNumber_init (T : Txt K mg A) : Binds K A.d_BadNumber_init (["self", "name", "value"] : List Str) [] := T.F_BadNumber_init.binds (ps := (["self", "name", "value"] : List Str)) fun _ _ _ _ _ _ us hl => match us, hl with | [_, _, _], _ => rfl
theorem sc_TooMany_init : FnScope N_TooMany_init (["self", "name", "most"] : List Str) (defScope s_TooMany_init) := ⟨rfl, rfl, rfl, by decide +kernel, rfl, by decide +kernel, by decide +kernel⟩
theorem b_TooMany_init (T : Txt K mg A) : Binds K A.d_TooMany_init (["self", "name", "most"] : List Str) [] := T.F_TooMany_init.binds (ps := (["self", "name", "most"] : List Str)) fun _ _ _ _ _ _ us hl => match us, hl with | [_, _, _], _ => rfl
theorem sc_RepeatedHour_init : FnScope N_RepeatedHour_init (["self", "hour"] : List Str) (defScope s_RepeatedHour_init) := ⟨rfl, rfl, rfl, by decide +kernel, rfl, by decide +kernel, by decide +kernel⟩
theorem b_RepeatedHour_init (T : Txt K mg A) : Binds K A.d_RepeatedHour_init (["self", "hour"] : List Str) [] := T.F_RepeatedHour_init.binds (ps := (["self", "hour"] : List Str)) fun _ _ _ _ _ _ us hl => match us, hl with | [_, _], _ => rfl
theorem sc_WrongLength_init : FnScope N_WrongLength_init (["self", "length"] : List Str) (defScope s_WrongLength_init) := ⟨rfl, rfl, rfl, by decide +kernel, rfl, by decide +kernel, by decide +kernel⟩
theorem b_WrongLength_init (T : Txt K mg A) : Binds K A.d_WrongLength_init (["self", "length"] : List Str) [] := T.F_WrongLength_init.binds (ps := (["self", "length"] : List Str)) fun _ _ _ _ _ _ us hl => match us, hl with | [_, _], _ => rfl
theorem sc_BadName_init : FnScope N_BadName_init (["self", "name"] : List Str) (defScope s_BadName_init) := ⟨rfl, rfl, rfl, by decide +kernel, rfl, by decide +kernel, by decide +kernel⟩
theorem b_BadName_init (T : Txt K mg A) : Binds K A.d_BadName_init (["self", "name"] : List Str) [] := T.F_BadName_init.binds (ps := (["self", "name"] : List Str)) fun _ _ _ _ _ _ us hl => match us, hl with | [_, _], _ => rfl
theorem sc_RepeatedName_init : FnScope N_RepeatedName_init (["self", "name"] : List Str) (defScope s_RepeatedName_init) := ⟨rfl, rfl, rfl, by decide +kernel, rfl, by decide +kernel, by decide +kernel⟩
theorem b_RepeatedName_init (T : Txt K mg A) : Binds K A.d_RepeatedName_init (["self", "name"] : List Str) [] := T.F_RepeatedName_init.binds (ps := (["self", "name"] : List Str)) fun _ _ _ _ _ _ us hl => match us, hl with | [_, _], _ => rfl
theorem sc_Lot_init : FnScope N_Lot_init (["self", "hours", "members"] : List Str) (defScope s_Lot_init) := ⟨rfl, rfl, rfl, by decide +kernel, rfl, by decide +kernel, by decide +kernel⟩
theorem b_Lot_init (T : Txt K mg A) : Binds K A.d_Lot_init (["self", "hours", "members"] : List Str) [] := T.F_Lot_init.binds (ps := (["self", "hours", "members"] : List Str)) fun _ _ _ _ _ _ us hl => match us, hl with | [_, _, _], _ => rfl
theorem sc_Lot_members : FnScope N_Lot_members (["self"] : List Str) (defScope s_Lot_members) := ⟨rfl, rfl, rfl, by decide +kernel, rfl, by decide +kernel, by decide +kernel⟩
theorem b_Lot_members (T : Txt K mg A) : Binds K A.d_Lot_members (["self"] : List Str) [] := T.F_Lot_members.binds (ps := (["self"] : List Str)) fun _ _ _ _ _ _ us hl => match us, hl with | [_], _ => rfl
theorem sc_Lot_len : FnScope N_Lot_len (["self"] : List Str) (defScope s_Lot_len) := ⟨rfl, rfl, rfl, by decide +kernel, rfl, by decide +kernel, by decide +kernel⟩
theorem b_Lot_len (T : Txt K mg A) : Binds K A.d_Lot_len (["self"] : List Str) [] := T.F_Lot_len.binds (ps := (["self"] : List Str)) fun _ _ _ _ _ _ us hl => match us, hl with | [_], _ => rfl
theorem sc_Lot_iter : FnScope N_Lot_iter (["self"] : List Str) (defScope s_Lot_iter) := ⟨rfl, rfl, rfl, by decide +kernel, rfl, by decide +kernel, by decide +kernel⟩
theorem b_Lot_iter (T : Txt K mg A) : Binds K A.d_Lot_iter (["self"] : List Str) [] := T.F_Lot_iter.binds (ps := (["self"] : List Str)) fun _ _ _ _ _ _ us hl => match us, hl with | [_], _ => rfl
theorem sc_Lot_contains : FnScope N_Lot_contains (["self", "x"] : List Str) (defScope s_Lot_contains) := ⟨rfl, rfl, rfl, by decide +kernel, rfl, by decide +kernel, by decide +kernel⟩
theorem b_Lot_contains (T : Txt K mg A) : Binds K A.d_Lot_contains (["self", "x"] : List Str) [] := T.F_Lot_contains.binds (ps := (["self", "x"] : List Str)) fun _ _ _ _ _ _ us hl => match us, hl with | [_, _], _ => rfl
theorem sc_Lot_eq : FnScope N_Lot_eq (["self", "other"] : List Str) (defScope s_Lot_eq) := ⟨rfl, rfl, rfl, by decide +kernel, rfl, by decide +kernel, by decide +kernel⟩
theorem b_Lot_eq (T : Txt K mg A) : Binds K A.d_Lot_eq (["self", "other"] : List Str) [] := T.F_Lot_eq.binds (ps := (["self", "other"] : List Str)) fun _ _ _ _ _ _ us hl => match us, hl with | [_, _], _ => rfl
theorem sc_Lot_lshift : FnScope N_Lot_lshift (["self", "other"] : List Str) (defScope s_Lot_lshift) := ⟨rfl, rfl, rfl, by decide +kernel, rfl, by decide +kernel, by decide +kernel⟩
theorem b_Lot_lshift (T : Txt K mg A) : Binds K A.d_Lot_lshift (["self", "other"] : List Str) [] := T.F_Lot_lshift.binds (ps := (["self", "other"] : List Str)) fun _ _ _ _ _ _ us hl => match us, hl with | [_, _], _ => rfl
theorem sc_Lot_neg : FnScope N_Lot_neg (["self"] : List Str) (defScope s_Lot_neg) := ⟨rfl, rfl, rfl, by decide +kernel, rfl, by decide +kernel, by decide +kernel⟩
theorem b_Lot_neg (T : Txt K mg A) : Binds K A.d_Lot_neg (["self"] : List Str) [] := T.F_Lot_neg.binds (ps := (["self"] : List Str)) fun _ _ _ _ _ _ us hl => match us, hl with | [_], _ => rfl
theorem sc_Lot_invert : FnScope N_Lot_invert (["self"] : List Str) (defScope s_Lot_invert) := ⟨rfl, rfl, rfl, by decide +kernel, rfl, by decide +kernel, by decide +kernel⟩
theorem b_Lot_invert (T : Txt K mg A) : Binds K A.d_Lot_invert (["self"] : List Str) [] := T.F_Lot_invert.binds (ps := (["self"] : List Str)) fun _ _ _ _ _ _ us hl => match us, hl with | [_], _ => rfl
theorem sc_check_name : FnScope N_check_name (["name"] : List Str) (defScope s_check_name) := ⟨rfl, rfl, rfl, by decide +kernel, rfl, by decide +kernel, by decide +kernel⟩
theorem b_check_name (T : Txt K mg A) : Binds K A.d_check_name (["name"] : List Str) [] := T.F_check_name.binds (ps := (["name"] : List Str)) fun _ _ _ _ _ _ us hl => match us, hl with | [_], _ => rfl
theorem sc_check_new_name : FnScope N_check_new_name (["name", "names"] : List Str) (defScope s_check_new_name) := ⟨rfl, rfl, rfl, by decide +kernel, rfl, by decide +kernel, by decide +kernel⟩
theorem b_check_new_name (T : Txt K mg A) : Binds K A.d_check_new_name (["name", "names"] : List Str) [] := T.F_check_new_name.binds (ps := (["name", "names"] : List Str)) fun _ _ _ _ _ _ us hl => match us, hl with | [_, _], _ => rfl
theorem sc_House_init : FnScope N_House_init (["self", "hours", "gates"] : List Str) (defScope s_House_init) := ⟨rfl, rfl, rfl, by decide +kernel, rfl, by decide +kernel, by decide +kernel⟩
theorem b_House_init (T : Txt K mg A) : Binds K A.d_House_init (["self", "hours", "gates"] : List Str) [] := T.F_House_init.binds (ps := (["self", "hours", "gates"] : List Str)) fun _ _ _ _ _ _ us hl => match us, hl with | [_, _, _], _ => rfl
theorem sc_House_len : FnScope N_House_len (["self"] : List Str) (defScope s_House_len) := ⟨rfl, rfl, rfl, by decide +kernel, rfl, by decide +kernel, by decide +kernel⟩
theorem b_House_len (T : Txt K mg A) : Binds K A.d_House_len (["self"] : List Str) [] := T.F_House_len.binds (ps := (["self"] : List Str)) fun _ _ _ _ _ _ us hl => match us, hl with | [_], _ => rfl
theorem sc_House_eq : FnScope N_House_eq (["self", "other"] : List Str) (defScope s_House_eq) := ⟨rfl, rfl, rfl, by decide +kernel, rfl, by decide +kernel, by decide +kernel⟩
theorem b_House_eq (T : Txt K mg A) : Binds K A.d_House_eq (["self", "other"] : List Str) [] := T.F_House_eq.binds (ps := (["self", "other"] : List Str)) fun _ _ _ _ _ _ us hl => match us, hl with | [_, _], _ => rfl
theorem sc_is_gate : FnScope N_is_gate (["house", "gate"] : List Str) (defScope s_is_gate) := ⟨rfl, rfl, rfl, by decide +kernel, rfl, by decide +kernel, by decide +kernel⟩
theorem b_is_gate (T : Txt K mg A) : Binds K A.d_is_gate (["house", "gate"] : List Str) [] := T.F_is_gate.binds (ps := (["house", "gate"] : List Str)) fun _ _ _ _ _ _ us hl => match us, hl with | [_, _], _ => rfl
theorem sc_Beat_init : FnScope N_Beat_init (["self", "house", "steps"] : List Str) (defScope s_Beat_init) := ⟨rfl, rfl, rfl, by decide +kernel, rfl, by decide +kernel, by decide +kernel⟩
theorem b_Beat_init (T : Txt K mg A) : Binds K A.d_Beat_init (["self", "house", "steps"] : List Str) [] := T.F_Beat_init.binds (ps := (["self", "house", "steps"] : List Str)) fun _ _ _ _ _ _ us hl => match us, hl with | [_, _, _], _ => rfl
theorem sc_Beat_lot : FnScope N_Beat_lot (["self", "gate"] : List Str) (defScope s_Beat_lot) := ⟨rfl, rfl, rfl, by decide +kernel, rfl, by decide +kernel, by decide +kernel⟩
theorem b_Beat_lot (T : Txt K mg A) : Binds K A.d_Beat_lot (["self", "gate"] : List Str) [] := T.F_Beat_lot.binds (ps := (["self", "gate"] : List Str)) fun _ _ _ _ _ _ us hl => match us, hl with | [_, _], _ => rfl
theorem sc_Beat_getitem : FnScope N_Beat_getitem (["self", "at"] : List Str) (defScope s_Beat_getitem) := ⟨rfl, rfl, rfl, by decide +kernel, rfl, by decide +kernel, by decide +kernel⟩
theorem b_Beat_getitem (T : Txt K mg A) : Binds K A.d_Beat_getitem (["self", "at"] : List Str) [] := T.F_Beat_getitem.binds (ps := (["self", "at"] : List Str)) fun _ _ _ _ _ _ us hl => match us, hl with | [_, _], _ => rfl
theorem sc_Beat_eq : FnScope N_Beat_eq (["self", "other"] : List Str) (defScope s_Beat_eq) := ⟨rfl, rfl, rfl, by decide +kernel, rfl, by decide +kernel, by decide +kernel⟩
theorem b_Beat_eq (T : Txt K mg A) : Binds K A.d_Beat_eq (["self", "other"] : List Str) [] := T.F_Beat_eq.binds (ps := (["self", "other"] : List Str)) fun _ _ _ _ _ _ us hl => match us, hl with | [_, _], _ => rfl
theorem sc_Beat_lshift : FnScope N_Beat_lshift (["self", "other"] : List Str) (defScope s_Beat_lshift) := ⟨rfl, rfl, rfl, by decide +kernel, rfl, by decide +kernel, by decide +kernel⟩
theorem b_Beat_lshift (T : Txt K mg A) : Binds K A.d_Beat_lshift (["self", "other"] : List Str) [] := T.F_Beat_lshift.binds (ps := (["self", "other"] : List Str)) fun _ _ _ _ _ _ us hl => match us, hl with | [_, _], _ => rfl
theorem sc_meetings : FnScope N_meetings (["one", "other"] : List Str) (defScope s_meetings) := ⟨rfl, rfl, rfl, by decide +kernel, rfl, by decide +kernel, by decide +kernel⟩
theorem b_meetings (T : Txt K mg A) : Binds K A.d_meetings (["one", "other"] : List Str) [] := T.F_meetings.binds (ps := (["one", "other"] : List Str)) fun _ _ _ _ _ _ us hl => match us, hl with | [_, _], _ => rfl
theorem sc_Crew_init : FnScope N_Crew_init (["self", "beat", "starts"] : List Str) (defScope s_Crew_init) := ⟨rfl, rfl, rfl, by decide +kernel, rfl, by decide +kernel, by decide +kernel⟩
theorem b_Crew_init (T : Txt K mg A) : Binds K A.d_Crew_init (["self", "beat", "starts"] : List Str) [] := T.F_Crew_init.binds (ps := (["self", "beat", "starts"] : List Str)) fun _ _ _ _ _ _ us hl => match us, hl with | [_, _, _], _ => rfl
theorem sc_Crew_row : FnScope N_Crew_row (["self", "gate"] : List Str) (defScope s_Crew_row) := ⟨rfl, rfl, rfl, by decide +kernel, rfl, by decide +kernel, by decide +kernel⟩
theorem b_Crew_row (T : Txt K mg A) : Binds K A.d_Crew_row (["self", "gate"] : List Str) [] := T.F_Crew_row.binds (ps := (["self", "gate"] : List Str)) fun _ _ _ _ _ _ us hl => match us, hl with | [_, _], _ => rfl
theorem sc_Crew_working : FnScope N_Crew_working (["self", "start"] : List Str) (defScope s_Crew_working) := ⟨rfl, rfl, rfl, by decide +kernel, rfl, by decide +kernel, by decide +kernel⟩
theorem b_Crew_working (T : Txt K mg A) : Binds K A.d_Crew_working (["self", "start"] : List Str) [] := T.F_Crew_working.binds (ps := (["self", "start"] : List Str)) fun _ _ _ _ _ _ us hl => match us, hl with | [_, _], _ => rfl
theorem sc_Crew_len : FnScope N_Crew_len (["self"] : List Str) (defScope s_Crew_len) := ⟨rfl, rfl, rfl, by decide +kernel, rfl, by decide +kernel, by decide +kernel⟩
theorem b_Crew_len (T : Txt K mg A) : Binds K A.d_Crew_len (["self"] : List Str) [] := T.F_Crew_len.binds (ps := (["self"] : List Str)) fun _ _ _ _ _ _ us hl => match us, hl with | [_], _ => rfl
theorem sc_Crew_eq : FnScope N_Crew_eq (["self", "other"] : List Str) (defScope s_Crew_eq) := ⟨rfl, rfl, rfl, by decide +kernel, rfl, by decide +kernel, by decide +kernel⟩
theorem b_Crew_eq (T : Txt K mg A) : Binds K A.d_Crew_eq (["self", "other"] : List Str) [] := T.F_Crew_eq.binds (ps := (["self", "other"] : List Str)) fun _ _ _ _ _ _ us hl => match us, hl with | [_, _], _ => rfl
theorem sc_Crew_lshift : FnScope N_Crew_lshift (["self", "other"] : List Str) (defScope s_Crew_lshift) := ⟨rfl, rfl, rfl, by decide +kernel, rfl, by decide +kernel, by decide +kernel⟩
theorem b_Crew_lshift (T : Txt K mg A) : Binds K A.d_Crew_lshift (["self", "other"] : List Str) [] := T.F_Crew_lshift.binds (ps := (["self", "other"] : List Str)) fun _ _ _ _ _ _ us hl => match us, hl with | [_, _], _ => rfl
theorem sc_u_law_cell : FnScope N_u_law_cell (["script", "k"] : List Str) (defScope s_u_law_cell) := ⟨rfl, rfl, rfl, by decide +kernel, rfl, by decide +kernel, by decide +kernel⟩
theorem b_u_law_cell (T : Txt K mg A) : Binds K A.d_u_law_cell (["script", "k"] : List Str) [] := T.F_u_law_cell.binds (ps := (["script", "k"] : List Str)) fun _ _ _ _ _ _ us hl => match us, hl with | [_, _], _ => rfl
theorem sc_u_law_draws : FnScope N_u_law_draws (["cell", "salt", "menu"] : List Str) (defScope s_u_law_draws) := ⟨rfl, rfl, rfl, by decide +kernel, rfl, by decide +kernel, by decide +kernel⟩
theorem b_u_law_draws (T : Txt K mg A) : Binds K A.d_u_law_draws (["cell", "salt", "menu"] : List Str) [] := T.F_u_law_draws.binds (ps := (["cell", "salt", "menu"] : List Str)) fun _ _ _ _ _ _ us hl => match us, hl with | [_, _, _], _ => rfl
theorem sc_u_law_two : FnScope N_u_law_two (["n"] : List Str) (defScope s_u_law_two) := ⟨rfl, rfl, rfl, by decide +kernel, rfl, by decide +kernel, by decide +kernel⟩
theorem b_u_law_two (T : Txt K mg A) : Binds K A.d_u_law_two (["n"] : List Str) [] := T.F_u_law_two.binds (ps := (["n"] : List Str)) fun _ _ _ _ _ _ us hl => match us, hl with | [_], _ => rfl
theorem sc_u_law_bits : FnScope N_u_law_bits (["n", "number"] : List Str) (defScope s_u_law_bits) := ⟨rfl, rfl, rfl, by decide +kernel, rfl, by decide +kernel, by decide +kernel⟩
theorem b_u_law_bits (T : Txt K mg A) : Binds K A.d_u_law_bits (["n", "number"] : List Str) [] := T.F_u_law_bits.binds (ps := (["n", "number"] : List Str)) fun _ _ _ _ _ _ us hl => match us, hl with | [_, _], _ => rfl
theorem sc_u_law_is_int : FnScope N_u_law_is_int (["x"] : List Str) (defScope s_u_law_is_int) := ⟨rfl, rfl, rfl, by decide +kernel, rfl, by decide +kernel, by decide +kernel⟩
theorem b_u_law_is_int (T : Txt K mg A) : Binds K A.d_u_law_is_int (["x"] : List Str) [] := T.F_u_law_is_int.binds (ps := (["x"] : List Str)) fun _ _ _ _ _ _ us hl => match us, hl with | [_], _ => rfl
theorem sc_u_law_same : FnScope N_u_law_same (["got", "due"] : List Str) (defScope s_u_law_same) := ⟨rfl, rfl, rfl, by decide +kernel, rfl, by decide +kernel, by decide +kernel⟩
theorem b_u_law_same (T : Txt K mg A) : Binds K A.d_u_law_same (["got", "due"] : List Str) [] := T.F_u_law_same.binds (ps := (["got", "due"] : List Str)) fun _ _ _ _ _ _ us hl => match us, hl with | [_, _], _ => rfl
theorem sc_u_law_name : FnScope N_u_law_name (["number"] : List Str) (defScope s_u_law_name) := ⟨rfl, rfl, rfl, by decide +kernel, rfl, by decide +kernel, by decide +kernel⟩
theorem b_u_law_name (T : Txt K mg A) : Binds K A.d_u_law_name (["number"] : List Str) [] := T.F_u_law_name.binds (ps := (["number"] : List Str)) fun _ _ _ _ _ _ us hl => match us, hl with | [_], _ => rfl
theorem sc_u_law_names : FnScope N_u_law_names (["numbers"] : List Str) (defScope s_u_law_names) := ⟨rfl, rfl, rfl, by decide +kernel, rfl, by decide +kernel, by decide +kernel⟩
theorem b_u_law_names (T : Txt K mg A) : Binds K A.d_u_law_names (["numbers"] : List Str) [] := T.F_u_law_names.binds (ps := (["numbers"] : List Str)) fun _ _ _ _ _ _ us hl => match us, hl with | [_], _ => rfl
theorem sc_u_law_gates : FnScope N_u_law_gates (["numbers", "stakes"] : List Str) (defScope s_u_law_gates) := ⟨rfl, rfl, rfl, by decide +kernel, rfl, by decide +kernel, by decide +kernel⟩
theorem b_u_law_gates (T : Txt K mg A) : Binds K A.d_u_law_gates (["numbers", "stakes"] : List Str) [] := T.F_u_law_gates.binds (ps := (["numbers", "stakes"] : List Str)) fun _ _ _ _ _ _ us hl => match us, hl with | [_, _], _ => rfl
theorem sc_u_law_number : FnScope N_u_law_number (["cell", "salt"] : List Str) (defScope s_u_law_number) := ⟨rfl, rfl, rfl, by decide +kernel, rfl, by decide +kernel, by decide +kernel⟩
theorem b_u_law_number (T : Txt K mg A) : Binds K A.d_u_law_number (["cell", "salt"] : List Str) [] := T.F_u_law_number.binds (ps := (["cell", "salt"] : List Str)) fun _ _ _ _ _ _ us hl => match us, hl with | [_, _], _ => rfl
theorem sc_u_law_walked : FnScope N_u_law_walked (["steps", "starts", "count"] : List Str) (defScope s_u_law_walked) := ⟨rfl, rfl, rfl, by decide +kernel, rfl, by decide +kernel, by decide +kernel⟩
theorem b_u_law_walked (T : Txt K mg A) : Binds K A.d_u_law_walked (["steps", "starts", "count"] : List Str) [] := T.F_u_law_walked.binds (ps := (["steps", "starts", "count"] : List Str)) fun _ _ _ _ _ _ us hl => match us, hl with | [_, _, _], _ => rfl
theorem sc_u_law_no_row : FnScope N_u_law_no_row (["crew", "gate"] : List Str) (defScope s_u_law_no_row) := ⟨rfl, rfl, rfl, by decide +kernel, rfl, by decide +kernel, by decide +kernel⟩
theorem b_u_law_no_row (T : Txt K mg A) : Binds K A.d_u_law_no_row (["crew", "gate"] : List Str) [] := T.F_u_law_no_row.binds (ps := (["crew", "gate"] : List Str)) fun _ _ _ _ _ _ us hl => match us, hl with | [_, _], _ => rfl
theorem sc_u_law_works : FnScope N_u_law_works (["crew", "steps", "starts", "start"] : List Str) (defScope s_u_law_works) := ⟨rfl, rfl, rfl, by decide +kernel, rfl, by decide +kernel, by decide +kernel⟩
theorem b_u_law_works (T : Txt K mg A) : Binds K A.d_u_law_works (["crew", "steps", "starts", "start"] : List Str) [] := T.F_u_law_works.binds (ps := (["crew", "steps", "starts", "start"] : List Str)) fun _ _ _ _ _ _ us hl => match us, hl with | [_, _, _, _], _ => rfl
theorem sc_u_law_shows : FnScope N_u_law_shows (["crew", "house", "steps", "starts", "count", "laps"] : List Str) (defScope s_u_law_shows) := ⟨rfl, rfl, rfl, by decide +kernel, rfl, by decide +kernel, by decide +kernel⟩
theorem b_u_law_shows (T : Txt K mg A) : Binds K A.d_u_law_shows (["crew", "house", "steps", "starts", "count", "laps"] : List Str) [] := T.F_u_law_shows.binds (ps := (["crew", "house", "steps", "starts", "count", "laps"] : List Str)) fun _ _ _ _ _ _ us hl => match us, hl with | [_, _, _, _, _, _], _ => rfl
theorem sc_u_law_other_ring : FnScope N_u_law_other_ring (["beat", "starts"] : List Str) (defScope s_u_law_other_ring) := ⟨rfl, rfl, rfl, by decide +kernel, rfl, by decide +kernel, by decide +kernel⟩
theorem b_u_law_other_ring (T : Txt K mg A) : Binds K A.d_u_law_other_ring (["beat", "starts"] : List Str) [] := T.F_u_law_other_ring.binds (ps := (["beat", "starts"] : List Str)) fun _ _ _ _ _ _ us hl => match us, hl with | [_, _], _ => rfl
theorem sc_u_law_great : FnScope N_u_law_great (["script", "gates"] : List Str) (defScope s_u_law_great) := ⟨rfl, rfl, rfl, by decide +kernel, rfl, by decide +kernel, by decide +kernel⟩
theorem b_u_law_great (T : Txt K mg A) : Binds K A.d_u_law_great (["script", "gates"] : List Str) [] := T.F_u_law_great.binds (ps := (["script", "gates"] : List Str)) fun _ _ _ _ _ _ us hl => match us, hl with | [_, _], _ => rfl
theorem sc_u_law_unlike : FnScope N_u_law_unlike (["crew", "others"] : List Str) (defScope s_u_law_unlike) := ⟨rfl, rfl, rfl, by decide +kernel, rfl, by decide +kernel, by decide +kernel⟩
theorem b_u_law_unlike (T : Txt K mg A) : Binds K A.d_u_law_unlike (["crew", "others"] : List Str) [] := T.F_u_law_unlike.binds (ps := (["crew", "others"] : List Str)) fun _ _ _ _ _ _ us hl => match us, hl with | [_, _], _ => rfl
theorem sc_u_law_grown : FnScope N_u_law_grown (["crew", "turned", "k"] : List Str) (defScope s_u_law_grown) := ⟨rfl, rfl, rfl, by decide +kernel, rfl, by decide +kernel, by decide +kernel⟩
theorem b_u_law_grown (T : Txt K mg A) : Binds K A.d_u_law_grown (["crew", "turned", "k"] : List Str) [] := T.F_u_law_grown.binds (ps := (["crew", "turned", "k"] : List Str)) fun _ _ _ _ _ _ us hl => match us, hl with | [_, _, _], _ => rfl
theorem sc_law : FnScope N_law (["script"] : List Str) (defScope s_law) := ⟨rfl, rfl, rfl, by decide +kernel, rfl, by decide +kernel, by decide +kernel⟩
theorem b_law (T : Txt K mg A) : Binds K A.d_law (["script"] : List Str) [] := T.F_law.binds (ps := (["script"] : List Str)) fun _ _ _ _ _ _ us hl => match us, hl with | [_], _ => rfl
theorem ok_BadNumber_init (T : Txt K mg A) : FnOk P w K mg base CX0 1 A.f_BadNumber_init A.d_BadNumber_init (["self", "name", "value"] : List Str) (spErr2 K A.C_BadNumber "name" "value") := by
  refine T.F_BadNumber_init.ok sc_BadNumber_init (fun vs H Q E h => ?_) (fun cdv Ar outer s H vs Q E hr h => ?_)
  · obtain ⟨a, x, y, rfl, _⟩ := h
    rfl
  · obtain ⟨a, x, y, rfl, hC, ha, k⟩ := h
    refine ⟨_, (pss_cons (ps_ost (pv 0) (pv 1))
        (pss_one (ps_ost (pv 0) (pv 2)))), ?_⟩
    refine ⟨_, rfl, _, rfl, a, _, rfl, hC, T.nf_BadNumber_name, .inl ⟨ha, fun d hd hne => ?_⟩⟩
    refine ⟨_, rfl, _, rfl, a, _, rfl, hC, T.nf_BadNumber_value, .inr ⟨d, _, upd_same, ?_, by show (1 : Nat) ≤ 900; decide, k d hd hne⟩⟩
    rw [upd_ne hne, upd_same]
theorem ok_TooMany_init (T : Txt K mg A) : FnOk P w K mg base CX0 1 A.f_TooMany_init A.d_TooMany_init (["self", "name", "most"] : List Str) (spErr2 K A.C_TooMany "name" "most") := by
  refine T.F_TooMany_init.ok sc_TooMany_init (fun vs H Q E h => ?_) (fun cdv Ar outer s H vs Q E hr h => ?_)
  · obtain ⟨a, x, y, rfl, _⟩ := h
    rfl
  · obtain ⟨a, x, y, rfl, hC, ha, k⟩ := h
    refine ⟨_, (pss_cons (ps_ost (pv 0) (pv 1))
        (pss_one (ps_ost (pv 0) (pv 2)))), ?_⟩
    refine ⟨_, rfl, _, rfl, a, _, rfl, hC, T.nf_TooMany_name, .inl ⟨ha, fun d hd hne => ?_⟩⟩
    refine ⟨_, rfl, _, rfl, a, _, rfl, hC, T.nf_TooMany_most, .inr ⟨d, _, upd_same, ?_, by show (1 : Nat) ≤ 900; decide, k d hd hne⟩⟩
    rw [upd_ne hne, upd_same]
theorem ok_RepeatedHour_init (T : Txt K mg A) : FnOk P w K mg base CX0 1 A.f_RepeatedHour_init A.d_RepeatedHour_init (["self", "hour"] : List Str) (spErr1 K A.C_RepeatedHour "hour") := by
  refine T.F_RepeatedHour_init.ok sc_RepeatedHour_init (fun vs H Q E h => ?_) (fun cdv Ar outer s H vs Q E hr h => ?_)
  · obtain ⟨a, x, rfl, _⟩ := h
    rfl
  · obtain ⟨a, x, rfl, hC, ha, k⟩ := h
    refine ⟨_, (pss_one (ps_ost (pv 0) (pv 1))), ?_⟩
    exact ⟨_, rfl, _, rfl, a, _, rfl, hC, T.nf_RepeatedHour_hour, .inl ⟨ha, fun d hd hne => k d hd hne⟩⟩
theorem ok_WrongLength_init (T : Txt K mg A) : FnOk P w K mg base CX0 1 A.f_WrongLength_init A.d_WrongLength_init (["self", "length"] : List Str) (spErr1 K A.C_WrongLength "length") := by
  refine T.F_WrongLength_init.ok sc_WrongLength_init (fun vs H Q E h => ?_) (fun cdv Ar outer s H vs Q E hr h => ?_)
  · obtain ⟨a, x, rfl, _⟩ := h
    rfl
  · obtain ⟨a, x, rfl, hC, ha, k⟩ := h
    refine ⟨_, (pss_one (ps_ost (pv 0) (pv 1))), ?_⟩
    exact ⟨_, rfl, _, rfl, a, _, rfl, hC, T.nf_WrongLength_length, .inl ⟨ha, fun d hd hne => k d hd hne⟩⟩
theorem ok_BadName_init (T : Txt K mg A) : FnOk P w K mg base CX0 1 A.f_BadName_init A.d_BadName_init (["self", "name"] : List Str) (spErr1 K A.C_BadName "name") := by
  refine T.F_BadName_init.ok sc_BadName_init (fun vs H Q E h => ?_) (fun cdv Ar outer s H vs Q E hr h => ?_)
  · obtain ⟨a, x, rfl, _⟩ := h
    rfl
  · obtain ⟨a, x, rfl, hC, ha, k⟩ := h
    refine ⟨_, (pss_one (ps_ost (pv 0) (pv 1))), ?_⟩
    exact ⟨_, rfl, _, rfl, a, _, rfl, hC, T.nf_BadName_name, .inl ⟨ha, fun d hd hne => k d hd hne⟩⟩
theorem ok_RepeatedName_init (T : Txt K mg A) : FnOk P w K mg base CX0 1 A.f_RepeatedName_init A.d_RepeatedName_init (["self", "name"] : List Str) (spErr1 K A.C_RepeatedName "name") := by
  refine T.F_RepeatedName_init.ok sc_RepeatedName_init (fun vs H Q E h => ?_) (fun cdv Ar outer s H vs Q E hr h => ?_)
  · obtain ⟨a, x, rfl, _⟩ := h
    rfl
  · obtain ⟨a, x, rfl, hC, ha, k⟩ := h
    refine ⟨_, (pss_one (ps_ost (pv 0) (pv 1))), ?_⟩
    exact ⟨_, rfl, _, rfl, a, _, rfl, hC, T.nf_RepeatedName_name, .inl ⟨ha, fun d hd hne => k d hd hne⟩⟩

def spLotInit (K : PySem.W.Frag) (A : Ads) : Sp := fun vs H Q E => ∃ (x dx a : Addr) (n : Int) (ms : List Int), vs = [.ref x, .int n, .ref a] ∧ H x = some (.ins A.C_Lot dx []) ∧ SqL K H a (ms.map V.int) ∧
  (¬ (1 ≤ n ∧ n ≤ 360) → ∀ d H', Ex H H' → H' d = some (.xd [("value", .int n), ("name", .str "hours")]) → E (.ref A.C_BadNumber) (some d) H') ∧
  (1 ≤ n ∧ n ≤ 360 → ∀ r, scanR n [] ms = some r → ∀ d H', Ex H H' → H' d = some (.xd [("hour", .int r)]) → E (.ref A.C_RepeatedHour) (some d) H') ∧
  (1 ≤ n ∧ n ≤ 360 → scanR n [] ms = none → ∀ l H', (∀ b o, b ≠ x → H b = some o → H' b = some o) → H l = none → H' x = some (.ins A.C_Lot dx (lotF n l)) → H' l = some (.lst ((resid n (ms.map (· % n))).map V.int)) → Q .non H')
theorem ok_Lot_init (T : Txt K mg A) : FnOk P w K mg base (L2.CX P w) 4 A.f_Lot_init A.d_Lot_init (["self", "hours", "members"] : List Str) (spLotInit K A) := by
  refine T.F_Lot_init.okX sc_Lot_init (fun vs H Q E h => ?_) (fun cdv Ar outer s H vs Q E hr h => ?_)
  · obtain ⟨x, dx, a, n, ms, rfl, _⟩ := h
    rfl
  · obtain ⟨x, dx, a, n, ms, rfl, hx, hS, k1, k2, k3⟩ := h
    refine ⟨_, (pss_cons (ps_if (PW.pt (pw_or (pt_cmpR op_lt (pv 1) pe_int (nomark _)) (pw_or1 (pt_cmpR op_gt (pv 1) (ClX.pe_cval (pe_glob (v := .ref A.C_Lot) rfl T.g_Lot rfl)) (nomark _))))) (pss_one (ps_raise rfl (takes_of rfl rfl rfl rfl) (pmk_oex T.ox_BadNumber T.ni_BadNumber T.ti_BadNumber (ok_BadNumber_init T) (hr.mono (by omega)) (b_BadNumber_init T) .nil pass0 rfl T.g_BadNumber (pa_cons pe_str (pa_cons (pv 1) pa_nil))))) pss_nil)
        (pss_cons (ps_set (i := 3) sc_Lot_init.nd rfl (Or.inr rfl) (pe_op op_rep (pe_lst (pa_cons pe_bl pa_nil)) (pv 1)))
        (pss_cons (ps_for (passes_of rfl) rfl (pi_listK (pv 2)) (pg_name (i := 4) sc_Lot_init.nd rfl (Or.inl rfl)) (pss_cons (ps_if (pt_val (pe_ix ix_lK (pv 3) (pe_op op_mod (pv 4) (pv 1)) (fun _ _ => rfl))) (pss_one (ps_raise rfl (takes_of rfl rfl rfl rfl) (pmk_oex T.ox_RepeatedHour T.ni_RepeatedHour T.ti_RepeatedHour (ok_RepeatedHour_init T) (hr.mono (by omega)) (b_RepeatedHour_init T) .nil pass0 rfl T.g_RepeatedHour (pa_cons (pe_op op_mod (pv 4) (pv 1)) pa_nil)))) pss_nil)
        (pss_one (ps_asg pe_bl (pg_sub (pv 3) (pe_op op_mod (pv 4) (pv 1)) set_list)))))
        (pss_cons (ps_fld (pv 0) (pv 1) rfl)
        (pss_one (ps_fld (pv 0) (pe_lc (own := [("hour", 5)]) (g := gName 5) rfl sc_Lot_init.nd (pi_range1 rfl T.z_range (pa_cons (pv 1) pa_nil)) (blkOk_by (own := [("hour", 5)]) (N := N_Lot_init) (sc := defScope s_Lot_init) (by decide +kernel)) (fun _ _ _ _ _ => (pg_name (i := 5) sc_Lot_init.nd rfl (Or.inl rfl))) (fun _ _ _ _ _ => (pts_one (pt_val (pe_ix ix_lK (pv 3) (pv 5) (fun _ _ => rfl))))) (fun _ _ _ _ _ => (pv 5))) rfl)))))), ?_⟩
    obtain ⟨mc, rdL, tL, cvL⟩ := T.rd_Lot
    refine ⟨_, rfl, n, 1, rfl, rfl, _, rfl, ?_⟩
    by_cases hn : 1 ≤ n ∧ n ≤ 360
    case neg =>
      have fin := raise2 (C := A.C_BadNumber) (f := "name") (g := "value") (σ := L2.start N_Lot_init [V.ref x, V.int n, V.ref a]) (ta := tCons (tC (.str "hours")) (tCons (tVar 1) tNil)) (x := .str "hours") (y := .int n) T.ox_BadNumber (fun Q q => ⟨_, rfl, q⟩) (k1 hn)
      by_cases c1 : n < 1
      · exact wayT c1 (iteT fin)
      · exact wayF c1 ⟨_, rfl, A.C_Lot, mc, _, _, rfl, rdL, cvL, n, 360, rfl, rfl, _, rfl, wayT (show 360 < n by omega) fin⟩
    refine wayF (by omega) ⟨_, rfl, A.C_Lot, mc, _, _, rfl, rdL, cvL, n, 360, rfl, rfl, _, rfl, wayF (by omega) ?_⟩
    refine ⟨by show 1 ≤ sizeLine; decide, fun q hq => ⟨_, rfl, q, n, _, rfl, rfl, upd_same, by omega, by omega, ?_, fun tk htk => ?_⟩⟩
    · show 1 * n.toNat ≤ sizeLine
      exact Nat.le_trans (show 1 * n.toNat ≤ 360 by omega) (by decide)
    have htk0 : H tk = none := fresh_back (Ex.new hq) htk
    have ex0 : ∀ o, Ex H (upd (upd H q (.lst [.bl false])) tk o) := fun o => (Ex.new hq).trans (Ex.new htk)
    rw [flags_nil]
    dsimp only
    refine q_forLn (K := K) (a := a) (xs := ms.map V.int) (ev_var rfl) (ex_l (ex0 _) hS)
      (fun i σ' H' => ∃ mv : Option V, σ' = [some (.ref x), some (.int n), some (.ref a), some (.ref tk), mv, none] ∧ Ex H H' ∧ H' tk = some (.lst (flags n.toNat ((ms.take i).map (· % n)))) ∧
        scanR n [] ms = scanR n ((ms.take i).map (· % n)) (ms.drop i))
      (fun H2 e2 => ⟨none, rfl, (ex0 _).trans e2, e2 _ _ upd_same, rfl⟩) (fun i σ' H' _ ⟨_, _, e, _⟩ => ex_l e hS) ?_ ?_
    · rintro i y σ' H' hi ⟨mv, rfl, ex, ht, hsc⟩
      obtain ⟨m, rfl, hm⟩ := some_int hi
      have m0 : 0 ≤ m % n := Int.emod_nonneg _ (by omega)
      have m1 : m % n < n := Int.emod_lt_of_pos _ (by omega)
      obtain ⟨j, hj⟩ : ∃ j : Nat, m % n = (j : Int) := ⟨(m % n).toNat, by omega⟩
      have hjn : j < n.toNat := by omega
      have hil : i < ms.length := (List.getElem?_eq_some_iff.mp hm).1
      have hd : ms.drop i = m :: ms.drop (i + 1) := by
        rw [List.drop_eq_getElem_cons hil]
        rw [List.getElem?_eq_getElem hil] at hm
        rw [Option.some.inj hm]
      have htake : (ms.take (i + 1)).map (· % n) = (ms.take i).map (· % n) ++ [(j : Int)] := by
        rw [List.take_succ, hm, List.map_append]
        show _ ++ [m % n] = _
        rw [hj]
      have hat : ∀ S : List Int, atI (flags n.toNat S) (m % n) = some (.bl (decide ((j : Int) ∈ S))) := fun S => by
        rw [hj]
        exact atI_nat (flags_get hjn)
      refine ⟨_, rfl, _, rfl, _, rfl, _, _, rfl, rfl, (by show (0 : Int) < n; omega), tk, _, _, _, rfl, rfl, SqL.of ht, hat _, _, rfl, ?_⟩
      rw [hd] at hsc
      refine way (fun hc => ?_) (fun hc => ?_)
      · refine raise1 (C := A.C_RepeatedHour) (f := "hour") (x := .int (m % n)) T.ox_RepeatedHour (fun Q q => ⟨_, rfl, _, rfl, _, _, rfl, rfl, (by show (0 : Int) < n; omega), q⟩) (fun d H2 e2 h2 => k2 hn (m % n) ?_ d H2 (ex.trans e2) h2)
        rw [hsc]
        unfold scanR
        rw [if_pos (by rw [hj]; exact hc)]
      · refine ⟨_, rfl, _, rfl, _, rfl, _, _, rfl, rfl, (by show (0 : Int) < n; omega), tk, _, _, j, rfl, rfl, ht, ?_, ?_⟩
        · show ixN (flags n.toNat _).length (m % n) = some j
          rw [hj]
          exact ixN_nat (by rw [flags_len]; exact hjn)
        · refine ⟨_, rfl, Ex.mut ex htk0, ?_, ?_⟩
          · rw [upd_same, flags_set hjn, htake]
          · rw [hsc, htake]
            conv => lhs; unfold scanR
            rw [if_neg (by rw [hj]; exact hc), hj]
    · rintro σ' H' ⟨mv, rfl, ex, ht, hsc⟩
      rw [List.length_map, List.take_length] at ht hsc
      rw [List.drop_length] at hsc
      have hx' := ex _ _ hx
      refine ⟨_, rfl, _, rfl, x, _, dx, [], rfl, hx', T.cl_Lot, T.na_Lot_hours, by decide, ?_⟩
      have xtk : tk ≠ x := fun e => by rw [e, hx] at htk0; cases htk0
      have ev : EvL _ [some (V.ref x), some (V.int n), some (V.ref a), some (V.ref tk), mv, none] (upd H' x (.ins A.C_Lot dx (putF "hours" (.int n) []))) (given n.toNat (fun h => decide ((h : Int) ∈ ms.map (· % n))) fun h => .int (h : Int)) :=
        el_rng1 (tt := tB (tOp (rIxL K) (tVar 3) (tVar 5))) (te := tVar 5) (ta := tCons (tVar 1) tNil) (j := 5) (vs := [5]) _ _ (ea_cons (ev_var rfl) ea_nil) (by omega) (fun x => rfl)
          (fun i H1 e1 hi => et_B (ev_op (ev_var rfl) (ev_var rfl) (rv_ixL (sq_of (e1 _ _ (by rw [upd_ne xtk]; exact ht))) (atI_nat (flags_get (by omega))))))
          (fun i H1 _ hi _ => ev_var rfl)
      dsimp only [sFld]
      refine ev _ (Ex.refl _) _ fun l H4 hl e4 h4 => ?_
      have hl0 : H' l = none := by
        by_cases e : l = x
        · rw [e, upd_same] at hl; cases hl
        · rw [upd_ne e] at hl; exact hl
      refine ⟨_, rfl, x, _, dx, _, rfl, e4 _ _ upd_same, T.cl_Lot, T.na_Lot_members, (by show 1 < 1000; decide), ?_⟩
      have lx : l ≠ x := fun e => by rw [e, upd_same] at hl; cases hl
      refine k3 hn (by rw [hsc]; rfl) l _ (fun b o hb ho => ?_) (fresh_back ex hl0) ?_ ?_
      · rw [upd_ne hb]
        exact e4 _ _ (by rw [upd_ne hb]; exact ex _ _ ho)
      · rw [upd_same, putF2]
        rfl
      · rw [upd_ne lx, h4, given_pick]
        rfl
/-- a lot is made: what spLotInit asks is answered by what is wished of the lot and of the errors -/
theorem mk_lot {K : PySem.W.Frag} {A : Ads} {H : Hp} {Q : VK} {E : XK} {l : Addr} {n : Int} {ms : List Int} (hS : SqL K H l (ms.map V.int))
    (k1 : ¬ (1 ≤ n ∧ n ≤ 360) → ∀ d H', Ex H H' → H' d = some (.xd [("value", .int n), ("name", .str "hours")]) → E (.ref A.C_BadNumber) (some d) H')
    (k2 : 1 ≤ n ∧ n ≤ 360 → ∀ r, scanR n [] ms = some r → ∀ d H', Ex H H' → H' d = some (.xd [("hour", .int r)]) → E (.ref A.C_RepeatedHour) (some d) H')
    (k3 : 1 ≤ n ∧ n ≤ 360 → scanR n [] ms = none → ∀ a dx m H', H a = none → H m = none → Ex H H' → H' a = some (.ins A.C_Lot dx (lotF n m)) → H' m = some (.lst ((resid n (ms.map (· % n))).map V.int)) → Q (.ref a) H') :
    ∀ x dx, H x = none → H dx = none → dx ≠ x → spLotInit K A (.ref x :: ([.int n, .ref l] ++ [])) (upd (upd H dx (.own x)) x (.ins A.C_Lot dx [])) (fun v H2 => v = .non ∧ Q (.ref x) H2) E := by
  intro x dx hx hdx hne
  have e0 : Ex H (upd (upd H dx (.own x)) x (.ins A.C_Lot dx [])) := fun b o hb => by rw [upd_ne (ne_of_none hb hx), upd_ne (ne_of_none hb hdx)]; exact hb
  refine ⟨x, dx, l, n, ms, rfl, upd_same, ex_l e0 hS, fun hn d H' e hd => k1 hn d H' (e0.trans e) hd, fun hn r hr d H' e hd => k2 hn r hr d H' (e0.trans e) hd, fun hn hs m H' hk hm h1 h2 => ⟨rfl, k3 hn hs x dx m H' hx (fresh_back e0 hm) (fun b o hb => ?_) h1 h2⟩⟩
  exact hk b o (ne_of_none hb hx) (e0 b o hb)
/-- .. what is wished told of the address -/
theorem mk_lotP {K : PySem.W.Frag} {A : Ads} {H : Hp} {P : Addr → Hp → Prop} {E : XK} {l : Addr} {n : Int} {ms : List Int} (hS : SqL K H l (ms.map V.int)) (hn : 1 ≤ n ∧ n ≤ 360) (hs : scanR n [] ms = none)
    (k : ∀ a dx m H', H a = none → H m = none → Ex H H' → H' a = some (.ins A.C_Lot dx (lotF n m)) → H' m = some (.lst ((resid n (ms.map (· % n))).map V.int)) → P a H') :
    ∀ x dx, H x = none → H dx = none → dx ≠ x → spLotInit K A (.ref x :: ([.int n, .ref l] ++ [])) (upd (upd H dx (.own x)) x (.ins A.C_Lot dx [])) (fun v H2 => v = .non ∧ P x H2) E := by
  intro x dx hx hdx hne
  have h := mk_lot (K := K) (A := A) (H := H) (Q := fun v H2 => ∃ y, v = .ref y ∧ P y H2) (E := E) (l := l) (n := n) (ms := ms) hS (fun z => absurd hn z) (fun _ r hr => by rw [hs] at hr; cases hr) (fun _ _ a dx m H' ha hm e g1 g2 => ⟨a, rfl, k a dx m H' ha hm e g1 g2⟩) x dx hx hdx hne
  obtain ⟨x1, dx1, a1, n1, ms1, e1, h1, h2, h3, h4, h5⟩ := h
  refine ⟨x1, dx1, a1, n1, ms1, e1, h1, h2, h3, h4, fun z1 z2 l H' a b c d => ?_⟩
  obtain ⟨r1, y, r2, r3⟩ := h5 z1 z2 l H' a b c d
  cases r2
  exact ⟨r1, r3⟩
def spLotMembers (A : Ads) : Sp := fun vs H Q _ => ∃ (a dx l : Addr) (n : Int) (ms : List Int), vs = [.ref a] ∧ H a = some (.ins A.C_Lot dx (lotF n l)) ∧ H l = some (.lst (ms.map V.int)) ∧
  ∀ p H', H p = none → Ex H H' → H' p = some (.lst (ms.map V.int)) → Q (.ref p) H' 
theorem ok_Lot_members (T : Txt K mg A) : FnOk P w K mg base CX0 1 A.f_Lot_members A.d_Lot_members (["self"] : List Str) (spLotMembers A) := by
  refine T.F_Lot_members.ok sc_Lot_members (fun vs H Q E h => ?_) (fun cdv Ar outer s H vs Q E hr h => ?_)
  · obtain ⟨a, dx, l, n, ms, rfl, _⟩ := h
    rfl
  · obtain ⟨a, dx, l, n, ms, rfl, h1, h2, k⟩ := h
    refine ⟨_, (pss_one (ps_ret (pe_callTy list_K (by rfl) T.z_list (by decide +kernel) (pa_cons (pe_fldK (pv 0) rfl) pa_nil)))), ?_⟩
    exact ⟨_, rfl, a, _, dx, _, _, rfl, h1, T.cl_Lot, T.na_Lot_members, rfl, l, _, rfl, .inl (SqL.of h2), fun p hp => k p _ hp (Ex.new hp) upd_same⟩

/-- a lot is made of numbers with different residues -/
theorem mk_lotS {K : PySem.W.Frag} {A : Ads} {H : Hp} {Q : VK} {E : XK} {l : Addr} {n : Int} {ms : List Int} {p : Int → Bool} (hS : SqL K H l (ms.map V.int)) (hn : 1 ≤ n ∧ n ≤ 360) (hd : (ms.map (· % n)).Nodup)
    (hp : ∀ z, 0 ≤ z → z < n → (z ∈ ms.map (· % n) ↔ p z = true)) (k : ∀ v H', Ex H H' → NewP (fun G => LotIs A.C_Lot v G n (hrs n p)) H H' → Q v H') :
    ∀ x dx, H x = none → H dx = none → dx ≠ x → spLotInit K A (.ref x :: ([.int n, .ref l] ++ [])) (upd (upd H dx (.own x)) x (.ins A.C_Lot dx [])) (fun v H2 => v = .non ∧ Q (.ref x) H2) E := by
  have h := mk_lotP (A := A) (H := H) (P := fun a H2 => Q (.ref a) H2) (E := E) hS hn (scan_nodup hd fun x _ z => by cases z) fun a dx m H' ha hm e g1 g2 => k (.ref a) H' e fun G g => ⟨⟨a, dx, m, rfl, g _ _ ha g1, by rw [g _ _ hm g2, resid_hrs hp]⟩, hn, asc_hrs (by omega)⟩
  exact h
theorem en_mkLot {K : PySem.W.Frag} {A : Ads} {E : XK} {σ : L2.St} {H : Hp} {tn tl : TE} {n : Int} {ms : List Int} {p : Int → Bool} (hs : Ev tn σ H (.int n)) (hl : EvR tl σ H fun v H1 => ∃ p, v = .ref p ∧ SqL K H1 p (ms.map V.int)) (hn : 1 ≤ n ∧ n ≤ 360) (hd : (ms.map (· % n)).Nodup)
    (hp : ∀ z, 0 ≤ z → z < n → (z ∈ ms.map (· % n) ↔ p z = true)) : EvNew (tMake A.C_Lot (spLotInit K A) [] E (tCons tn (tCons tl tNil))) σ H fun v H1 => LotIs A.C_Lot v H1 n (hrs n p) := fun H1 e Q q =>
  hs H1 e _ fun H2 e2 => hl H2 (e.trans e2) _ fun v H3 e3 hv => by
    obtain ⟨l, rfl, hS⟩ := hv
    exact mk_lotS hS hn hd hp fun w H' e' hw => q w H' ((e2.trans e3).trans e') (hw.out (e2.trans e3) (Ex.refl _))
/-- .. of ascending hours -/
theorem en_mkAsc {K : PySem.W.Frag} {A : Ads} {E : XK} {σ : L2.St} {H : Hp} {tn tl : TE} {n : Int} {xs : List Int} (hs : Ev tn σ H (.int n)) (hl : EvR tl σ H fun v H1 => ∃ p, v = .ref p ∧ SqL K H1 p (xs.map V.int)) (hn : 1 ≤ n ∧ n ≤ 360) (hA : Asc 0 n xs) :
    EvNew (tMake A.C_Lot (spLotInit K A) [] E (tCons tn (tCons tl tNil))) σ H fun v H1 => LotIs A.C_Lot v H1 n xs := by
  have h := en_mkLot (K := K) (A := A) (E := E) (p := fun z => decide (z ∈ xs)) hs hl hn (by rw [asc_mod hA]; exact hA.nodup) (fun z z0 z1 => by rw [mem_self hA]; simp)
  rw [hrs_eq (by omega) hA fun z _ _ => by simp] at h
  exact h
theorem er_mkAsc {K : PySem.W.Frag} {A : Ads} {E : XK} {σ : L2.St} {H : Hp} {tn tl : TE} {n : Int} {xs : List Int} (hs : Ev tn σ H (.int n)) (hl : EvR tl σ H fun v H1 => ∃ p, v = .ref p ∧ SqL K H1 p (xs.map V.int)) (hn : 1 ≤ n ∧ n ≤ 360) (hA : Asc 0 n xs) :
    EvR (tMake A.C_Lot (spLotInit K A) [] E (tCons tn (tCons tl tNil))) σ H fun v H1 => LotIs A.C_Lot v H1 n xs := (en_mkAsc hs hl hn hA).er
theorem er_listK {K : PySem.W.Frag} {σ : L2.St} {H : Hp} {te : TE} {xs : List V} (h : EvR te σ H fun v H1 => ∃ p, v = .ref p ∧ SqL K H1 p xs) : EvR (tCB (rListK K) (tCons te tNil)) σ H fun v H1 => ∃ p, v = .ref p ∧ SqL K H1 p xs := fun H1 e Q q =>
  h H1 e _ fun v H2 e2 hv => by
    obtain ⟨p, rfl, hp⟩ := hv
    exact ⟨p, xs, rfl, .inl hp, fun l hl => q _ _ (e2.trans (Ex.new hl)) ⟨l, rfl, SqL.of upd_same⟩⟩
theorem er_list {K : PySem.W.Frag} {σ : L2.St} {H : Hp} {te : TE} {xs : List V} (h : EvL te σ H xs) : EvR te σ H fun v H1 => ∃ p, v = .ref p ∧ SqL K H1 p xs := fun H1 e Q q => h H1 e Q fun p H2 _ e2 h2 => q _ H2 e2 ⟨p, rfl, sq_of h2⟩
theorem er_held {K : PySem.W.Frag} {σ : L2.St} {H : Hp} {i : Nat} {p : Addr} {xs : List V} (h : σ[i]? = some (some (.ref p))) (hp : SqL K H p xs) : EvR (tVar i) σ H fun v H1 => ∃ p, v = .ref p ∧ SqL K H1 p xs := er_ev (ev_var h) fun H1 e => ⟨p, rfl, ex_l e hp⟩
/-- what an operator of a lot promises -/
def spLot1 (A : Ads) (g : Int → List Int → List Int) : Sp := fun vs H Q _ => ∃ (v : V) (n : Int) (xs : List Int), vs = [v] ∧ LotIs A.C_Lot v H n xs ∧ ∀ w H', Ex H H' → NewP (fun G => LotIs A.C_Lot w G n (g n xs)) H H' → Q w H'
def spLotI (A : Ads) (g : Int → Int → List Int → List Int) : Sp := fun vs H Q _ => ∃ (v : V) (n k : Int) (xs : List Int), vs = [v, .int k] ∧ LotIs A.C_Lot v H n xs ∧ ∀ w H', Ex H H' → NewP (fun G => LotIs A.C_Lot w G n (g n k xs)) H H' → Q w H'
def spLot2 (A : Ads) (g : Int → List Int → List Int → List Int) : Sp := fun vs H Q E => ∃ (v w : V) (n m : Int) (xs ys : List Int), vs = [v, w] ∧ LotIs A.C_Lot v H n xs ∧ LotIs A.C_Lot w H m ys ∧
  (n ≠ m → ∀ H', Ex H H' → E (.ref A.C_OtherHours) none H') ∧ (n = m → ∀ z H', Ex H H' → NewP (fun G => LotIs A.C_Lot z G n (g n xs ys)) H H' → Q z H')
def spLotLen (A : Ads) : Sp := fun vs H Q _ => ∃ (v : V) (n : Int) (xs : List Int), vs = [v] ∧ LotIs A.C_Lot v H n xs ∧ ∀ H', Ex H H' → Q (.int (xs.length : Int)) H'
def spLotEq (A : Ads) : Sp := fun vs H Q _ => ∃ (v w : V) (n m : Int) (xs ys : List Int), vs = [v, w] ∧ LotIs A.C_Lot v H n xs ∧ LotIs A.C_Lot w H m ys ∧ ∀ H', Ex H H' → Q (.bl (decide (n = m ∧ xs = ys))) H'
def spMems (A : Ads) : Sp := fun vs H Q _ => ∃ (v : V) (n : Int) (xs : List Int), vs = [v] ∧ LotIs A.C_Lot v H n xs ∧ ∀ p H', H p = none → Ex H H' → H' p = some (.lst (xs.map V.int)) → Q (.ref p) H'
theorem mems_of {A : Ads} {vs : List V} {H : Hp} {Q : VK} {E : XK} (h : spMems A vs H Q E) : spLotMembers A vs H Q E := by
  obtain ⟨v, n, xs, rfl, ⟨⟨a, dx, l, rfl, h1, h2⟩, _, _⟩, k⟩ := h
  exact ⟨a, dx, l, n, xs, rfl, h1, h2, k⟩
/-- the members that a lot holds -/
theorem ev_mems {K : PySem.W.Frag} {A : Ads} {te : TE} {σ : L2.St} {H : Hp} {a dx l : Addr} {n : Int} (h : Ev te σ H (.ref a)) (hi : H a = some (.ins A.C_Lot dx (lotF n l))) (c : Cls K A.C_Lot) (na : NoAttr K A.C_Lot "_members") : Ev (tFld K te "_members") σ H (.ref l) := fun H1 e Q q =>
  h H1 e _ fun H2 e2 => ⟨a, _, dx, _, _, rfl, e2 _ _ (e _ _ hi), c, na, rfl, q H2 e2⟩
theorem ev_hours {K : PySem.W.Frag} {A : Ads} {te : TE} {σ : L2.St} {H : Hp} {a dx l : Addr} {n : Int} (h : Ev te σ H (.ref a)) (hi : H a = some (.ins A.C_Lot dx (lotF n l))) (c : Cls K A.C_Lot) (na : NoAttr K A.C_Lot "hours") : Ev (tFld K te "hours") σ H (.int n) := fun H1 e Q q =>
  h H1 e _ fun H2 e2 => ⟨a, _, dx, _, _, rfl, e2 _ _ (e _ _ hi), c, na, rfl, q H2 e2⟩
/-- a comprehension over a list of ints, each put through g -/
theorem el_map {K : PySem.W.Frag} {σ : L2.St} {H : Hp} {te tl : TE} {tt : TT} {j : Nat} {vs : List Nat} {a : Addr} (xs : List Int) (p : Int → Bool) (g : Int → Int) (h : Ev tl σ H (.ref a)) (hx : SqL K H a (xs.map V.int)) (hz : xs.length ≤ 40000)
    (hw : ∀ x, wipe ((wipe σ vs).set j (some x)) vs = wipe σ vs) (ht : ∀ (x : Int) H1, Ex H H1 → x ∈ xs → EvT tt ((wipe σ vs).set j (some (.int x))) H1 (p x))
    (he : ∀ (x : Int) H1, Ex H H1 → x ∈ xs → p x = true → Ev te ((wipe σ vs).set j (some (.int x))) H1 (.int (g x))) : EvL (tLc (iList K tl) (gName j) tt te vs) σ H (((xs.filter p).map g).map V.int) := by
  have e := el_lstG (K := K) (te := te) (tl := tl) (tt := tt) (g := gName j) (vs := vs) (σ := σ) (H := H) 0 (xs.map V.int) xs p (fun x => V.int (g x)) (fun x => (wipe σ vs).set j (some (.int x))) h hx (List.length_map _) hz
    (fun i x y H1 kk _ h1 h2 hk => by
      obtain ⟨u, rfl, hu⟩ := some_int h1
      rw [hu] at h2
      cases h2
      exact hk) (fun y => hw _) ht he
  rw [List.map_map]
  exact e
theorem el_mapA {K : PySem.W.Frag} {σ : L2.St} {H : Hp} {te tl : TE} {j : Nat} {vs : List Nat} {a : Addr} (xs : List Int) (g : Int → Int) (h : Ev tl σ H (.ref a)) (hx : SqL K H a (xs.map V.int)) (hz : xs.length ≤ 40000)
    (hw : ∀ x, wipe ((wipe σ vs).set j (some x)) vs = wipe σ vs)
    (he : ∀ (x : Int) H1, Ex H H1 → x ∈ xs → Ev te ((wipe σ vs).set j (some (.int x))) H1 (.int (g x))) : EvL (tLc (iList K tl) (gName j) tYes te vs) σ H ((xs.map g).map V.int) := by
  have e := el_map (K := K) (te := te) (tl := tl) (tt := tYes) (j := j) (vs := vs) (σ := σ) (H := H) xs (fun _ => true) g h hx hz hw (fun x H1 _ _ => fun H2 _ Q q => q H2 (Ex.refl H2)) (fun x H1 e1 hx _ => he x H1 e1 hx)
  rw [List.filter_eq_self.mpr fun _ _ => rfl] at e
  exact e
/-- the hours that a list of marks tells -/
theorem el_marks {K : PySem.W.Frag} {σ : L2.St} {H : Hp} {te : TE} {tt : TT} {ta : TA} {j : Nat} {vs : List Nat} {n : Int} (p : Int → Bool) (h : EvA ta σ H [.int n]) (hn : 1 ≤ n ∧ n ≤ 360) (hw : ∀ x, wipe ((wipe σ vs).set j (some x)) vs = wipe σ vs)
    (ht : ∀ (z : Int) H1, Ex H H1 → 0 ≤ z → z < n → EvT tt ((wipe σ vs).set j (some (.int z))) H1 (p z)) (he : ∀ (z : Int) H1, Ev te ((wipe σ vs).set j (some (.int z))) H1 (.int z)) : EvL (tLc (iRng1 ta) (gName j) tt te vs) σ H ((hrs n p).map V.int) := by
  have e := el_rng1 (te := te) (tt := tt) (ta := ta) (j := j) (vs := vs) (fun i => p (i : Int)) (fun i => V.int (i : Int)) h (by omega) hw (fun i H1 e hi => ht _ H1 e (by omega) hi) (fun i H1 e hi _ => he _ H1)
  rw [given_pick] at e
  exact e
theorem int_flat (xs : List Int) : (xs.map V.int).all flatV = true := by
  rw [List.all_map, List.all_eq_true]
  exact fun _ _ => rfl
theorem rv_inI {K : PySem.W.Frag} {H : Hp} {a : Addr} {x : Int} {xs : List Int} (h : SqL K H a (xs.map V.int)) : RV (rIn K false) (.int x) (.ref a) H (.bl (decide (x ∈ xs))) := by
  have := rv_inL (neg := false) (x := .int x) h rfl (int_flat xs)
  rw [inV_ints] at this
  exact this
theorem rv_niI {K : PySem.W.Frag} {H : Hp} {a : Addr} {x : Int} {xs : List Int} (h : SqL K H a (xs.map V.int)) : RV (rIn K true) (.int x) (.ref a) H (.bl (!decide (x ∈ xs))) := by
  have := rv_inL (neg := true) (x := .int x) h rfl (int_flat xs)
  rw [inV_ints] at this
  exact this
/-- sorted(..) of different ints -/
theorem sorted_hrs {n : Int} {zs ys : List Int} {p : Int → Bool} (hn : 0 ≤ n) (hp : ys.Perm zs) (ho : ys.Pairwise (· ≤ ·)) (hd : zs.Nodup) (hm : ∀ z, z ∈ zs ↔ z ∈ hrs n p) : ys = hrs n p := by
  have nd : ys.Nodup := hp.nodup_iff.mpr hd
  refine asc_unique ?_ (asc_hrs hn).1 fun z => by rw [hp.mem_iff]; exact hm z
  exact (ho.and nd).imp fun {a b} h => by
    have h1 : a ≤ b := h.1
    have h2 : a ≠ b := h.2
    omega
theorem asc_of_sorted {n : Int} {zs ys : List Int} (hp : ys.Perm zs) (ho : ys.Pairwise (· ≤ ·)) (hd : zs.Nodup) (hm : ∀ z ∈ zs, 0 ≤ z ∧ z < n) : Asc 0 n ys := by
  have nd : ys.Nodup := hp.nodup_iff.mpr hd
  refine ⟨(ho.and nd).imp fun {a b} h => ?_, fun z hz => hm z (hp.mem_iff.mp hz)⟩
  have h1 : a ≤ b := h.1
  have h2 : a ≠ b := h.2
  omega
theorem cr_sortedK {X : Cx} {K : PySem.W.Frag} (h : X.K = K := by rfl) : CallR X (.builtin "sorted") (rSortedI K) := by subst h; exact cr_sortedI
theorem er_sorted {K : PySem.W.Frag} {σ : L2.St} {H : Hp} {tl : TE} {zs : List Int} (h : EvL tl σ H (zs.map V.int)) : EvR (tCB (rSortedI K) (tCons tl tNil)) σ H fun v H1 => ∃ (p : Addr) (ys : List Int), v = .ref p ∧ H1 p = some (.lst (ys.map V.int)) ∧ H p = none ∧ ys.Perm zs ∧ ys.Pairwise (· ≤ ·) := fun H1 e Q q =>
  h H1 e _ fun a H2 _ e2 h2 => ⟨a, zs, rfl, sq_of h2, fun ys p hp ho hq => q _ _ (e2.trans (Ex.new hq)) ⟨p, ys, rfl, upd_same, fresh_back (e.trans e2) hq, hp, ho⟩⟩
theorem er_var {C : Addr} {σ : L2.St} {H : Hp} {i : Nat} {v : V} {n : Int} {xs : List Int} (h : σ[i]? = some (some v)) (hv : LotIs C v H n xs) : EvR (tVar i) σ H fun v H1 => LotIs C v H1 n xs := er_ev (ev_var h) fun H1 e => hv.ex e
theorem en_lotI {A : Ads} {g : Int → Int → List Int → List Int} {E : L2.St → XK} {ta tb : TE} {σ : L2.St} {H : Hp} {n k : Int} {xs : List Int} (ha : EvR ta σ H fun v H1 => LotIs A.C_Lot v H1 n xs) (hb : Ev tb σ H (.int k)) :
    EvNew (tOpS (rOwnI A.C_Lot (spLotI A g) E) ta tb) σ H fun v H1 => LotIs A.C_Lot v H1 n (g n k xs) := fun H1 e Q q =>
  ha H1 e _ fun v H2 e2 hv => hb H2 (e.trans e2) _ fun H3 e3 => by
    have h3 := hv.ex e3
    obtain ⟨a, dx, l, rfl, h1, _⟩ := id h3.at_
    exact ⟨a, dx, _, k, rfl, h1, rfl, .ref a, n, k, xs, rfl, h3, fun w H' e' hw => q w H' ((e2.trans e3).trans e') (hw.out (e2.trans e3) (Ex.refl _))⟩
theorem en_lot1 {A : Ads} {g : Int → List Int → List Int} {E : L2.St → XK} {ta : TE} {σ : L2.St} {H : Hp} {n : Int} {xs : List Int} (ha : EvR ta σ H fun v H1 => LotIs A.C_Lot v H1 n xs) :
    EvNew (tUnS (rOwn1 A.C_Lot (spLot1 A g) E) ta) σ H fun v H1 => LotIs A.C_Lot v H1 n (g n xs) := fun H1 e Q q =>
  ha H1 e _ fun v H2 e2 hv => by
    obtain ⟨a, dx, l, rfl, h1, _⟩ := id hv.at_
    exact ⟨a, dx, _, rfl, h1, .ref a, n, xs, rfl, hv, fun w H' e' hw => q w H' (e2.trans e') (hw.out e2 (Ex.refl _))⟩
theorem en_lot2 {A : Ads} {g : Int → List Int → List Int → List Int} {E : L2.St → XK} {ta tb : TE} {σ : L2.St} {H : Hp} {n : Int} {xs ys : List Int} (ha : EvR ta σ H fun v H1 => LotIs A.C_Lot v H1 n xs) (hb : EvR tb σ H fun v H1 => LotIs A.C_Lot v H1 n ys) :
    EvNew (tOpS (rOwn2 A.C_Lot (spLot2 A g) E) ta tb) σ H fun v H1 => LotIs A.C_Lot v H1 n (g n xs ys) := fun H1 e Q q =>
  ha H1 e _ fun v H2 e2 hv => hb H2 (e.trans e2) _ fun w H3 e3 hw => by
    have h3 := hv.ex e3
    obtain ⟨a, dx, l, rfl, h1, _⟩ := id h3.at_
    obtain ⟨b, dy, m, rfl, g1, _⟩ := id hw.at_
    exact ⟨a, dx, _, b, dy, _, rfl, h1, rfl, g1, .ref a, .ref b, n, n, xs, ys, rfl, h3, hw, fun z => absurd rfl z, fun _ z H' e' hz => q z H' ((e2.trans e3).trans e') (hz.out (e2.trans e3) (Ex.refl _))⟩
theorem er_lotI {A : Ads} {g : Int → Int → List Int → List Int} {E : L2.St → XK} {ta tb : TE} {σ : L2.St} {H : Hp} {n k : Int} {xs : List Int} (ha : EvR ta σ H fun v H1 => LotIs A.C_Lot v H1 n xs) (hb : Ev tb σ H (.int k)) :
    EvR (tOpS (rOwnI A.C_Lot (spLotI A g) E) ta tb) σ H fun v H1 => LotIs A.C_Lot v H1 n (g n k xs) := (en_lotI ha hb).er
theorem er_lot1 {A : Ads} {g : Int → List Int → List Int} {E : L2.St → XK} {ta : TE} {σ : L2.St} {H : Hp} {n : Int} {xs : List Int} (ha : EvR ta σ H fun v H1 => LotIs A.C_Lot v H1 n xs) :
    EvR (tUnS (rOwn1 A.C_Lot (spLot1 A g) E) ta) σ H fun v H1 => LotIs A.C_Lot v H1 n (g n xs) := (en_lot1 ha).er
theorem er_lot2 {A : Ads} {g : Int → List Int → List Int → List Int} {E : L2.St → XK} {ta tb : TE} {σ : L2.St} {H : Hp} {n : Int} {xs ys : List Int} (ha : EvR ta σ H fun v H1 => LotIs A.C_Lot v H1 n xs) (hb : EvR tb σ H fun v H1 => LotIs A.C_Lot v H1 n ys) :
    EvR (tOpS (rOwn2 A.C_Lot (spLot2 A g) E) ta tb) σ H fun v H1 => LotIs A.C_Lot v H1 n (g n xs ys) := (en_lot2 ha hb).er
theorem q_augI {A : Ads} {g : Int → Int → List Int → List Int} {E : XK} {te : TE} {tz : TS} {D : Ends} {σ : L2.St} {H : Hp} {i : Nat} {v : V} {n k : Int} {xs : List Int} (hi : σ[i]? = some (some v)) (hv : LotIs A.C_Lot v H n xs) (he : Ev te σ H (.int k))
    (c : ∀ w H1, Ex H H1 → LotIs A.C_Lot w H1 n (g n k xs) → tz D (σ.set i (some w)) H1) : tSeq (tAug i te (rOwnI A.C_Lot (spLotI A g) (fun _ => E) [])) tz D σ H :=
  ⟨v, hi, he H (Ex.refl H) _ fun H2 e2 => by
    have h2 := hv.ex e2
    obtain ⟨a, dx, l, rfl, h1, _⟩ := id h2.at_
    exact ⟨a, dx, _, k, rfl, h1, rfl, .ref a, n, k, xs, rfl, h2, fun w H' e' hw => c w H' (e2.trans e') hw.self⟩⟩
theorem q_aug2 {A : Ads} {g : Int → List Int → List Int → List Int} {E : XK} {te : TE} {tz : TS} {D : Ends} {σ : L2.St} {H : Hp} {i : Nat} {v : V} {n : Int} {xs ys : List Int} (hi : σ[i]? = some (some v)) (hv : LotIs A.C_Lot v H n xs) (he : EvR te σ H fun v H1 => LotIs A.C_Lot v H1 n ys)
    (c : ∀ w H1, Ex H H1 → LotIs A.C_Lot w H1 n (g n xs ys) → tz D (σ.set i (some w)) H1) : tSeq (tAug i te (rOwn2 A.C_Lot (spLot2 A g) (fun _ => E) [])) tz D σ H :=
  ⟨v, hi, he H (Ex.refl H) _ fun w H2 e2 hw => by
    have h2 := hv.ex e2
    obtain ⟨a, dx, l, rfl, h1, _⟩ := id h2.at_
    obtain ⟨b, dy, m, rfl, g1, _⟩ := id hw.at_
    exact ⟨a, dx, _, b, dy, _, rfl, h1, rfl, g1, .ref a, .ref b, n, n, xs, ys, rfl, h2, hw, fun z => absurd rfl z, fun _ z H' e' hz => c z H' (e2.trans e') hz.self⟩⟩
theorem ev_lotEq {K : PySem.W.Frag} {A : Ads} {E : L2.St → XK} {ta tb : TE} {σ : L2.St} {H : Hp} {n m : Int} {xs ys : List Int} (ha : EvR ta σ H fun v H1 => LotIs A.C_Lot v H1 n xs) (hb : EvR tb σ H fun v H1 => LotIs A.C_Lot v H1 m ys)
    (ty : ∀ (H : Hp) (a dx : Addr) (fs : List (Str × V)), H a = some (.ins A.C_Lot dx fs) → TyX K H (.ref a) (.ref A.C_Lot)) : Ev (tOpS (rOwnC K A.C_Lot (spLotEq A) E) ta tb) σ H (.bl (decide (n = m ∧ xs = ys))) := fun H1 e Q q =>
  ha H1 e _ fun v H2 e2 hv => hb H2 (e.trans e2) _ fun w H3 e3 hw => by
    have h3 := hv.ex e3
    obtain ⟨a, dx, l, rfl, h1, _⟩ := id h3.at_
    obtain ⟨b, dy, m', rfl, g1, _⟩ := id hw.at_
    refine ⟨a, dx, _, .ref A.C_Lot, rfl, h1, ty _ _ _ _ g1, ?_, .ref a, .ref b, n, m, xs, ys, rfl, h3, hw, fun H' e' => q H' ((e2.trans e3).trans e')⟩
    simp [PySem.W.notFirst]
theorem ev_lotLen {A : Ads} {E : XK} {ta : TE} {σ : L2.St} {H : Hp} {n : Int} {xs : List Int} (ha : EvR ta σ H fun v H1 => LotIs A.C_Lot v H1 n xs) : Ev (tCB (rOwnLen A.C_Lot (spLotLen A) E) (tCons ta tNil)) σ H (.int (xs.length : Int)) := fun H1 e Q q =>
  ha H1 e _ fun v H2 e2 hv => by
    have hl := hv.len
    obtain ⟨a, dx, l, rfl, h1, _⟩ := id hv.at_
    exact ⟨a, dx, _, rfl, h1, .ref a, n, xs, rfl, hv, fun H' e' => ⟨_, rfl, ⟨by omega, by omega⟩, q H' (e2.trans e')⟩⟩
theorem el_mems {A : Ads} {E : XK} {ta : TE} {σ : L2.St} {H : Hp} {n : Int} {xs : List Int} (ha : EvR ta σ H fun v H1 => LotIs A.C_Lot v H1 n xs)  : EvL (tProp A.C_Lot (spLotMembers A) [] E ta) σ H (xs.map V.int) := fun H1 e Q q => by
  refine ha H1 e _ fun v H2 e2 hv => ?_
  obtain ⟨a, dx, l, rfl, h1, h2⟩ := id hv.at_
  exact ⟨a, dx, _, rfl, h1, a, dx, l, n, xs, rfl, h1, h2, fun p H' hp e' h' => q p H' (fresh_back e2 hp) (e2.trans e') h'⟩
theorem ok_Lot_len (T : Txt K mg A) : FnOk P w K mg base CX0 1 A.f_Lot_len A.d_Lot_len (["self"] : List Str) (spLotLen A) := by
  refine T.F_Lot_len.ok sc_Lot_len (fun vs H Q E h => ?_) (fun cdv Ar outer s H vs Q E hr h => ?_)
  · obtain ⟨v, n, xs, rfl, _⟩ := h
    rfl
  · obtain ⟨v, n, xs, rfl, ⟨⟨a, dx, l, rfl, h1, h2⟩, _, _⟩, k⟩ := h
    refine ⟨_, (pss_one (ps_ret (pe_callB len_K (by rfl) T.z_len (by decide +kernel) (pa_cons (pe_fldK (pv 0) rfl) pa_nil)))), ?_⟩
    refine ⟨_, rfl, a, _, dx, _, _, rfl, h1, T.cl_Lot, T.na_Lot_members, rfl, .ref l, xs.length, rfl, .inl ⟨_, SqL.of h2, (List.length_map _).symm⟩, k _ (Ex.refl _)⟩
theorem ok_Lot_iter (T : Txt K mg A) : FnS P w K mg base 1 A.f_Lot_iter A.d_Lot_iter (["self"] : List Str) (spIt K A.C_Lot "_members") := by
  refine fnS_mk T.F_Lot_iter sc_Lot_iter (fun n vs H Q E h => ?_) (fun cdv Ar outer s H vs Q E hr h => ?_)
  · obtain ⟨a, dx, l, fs, xs, rfl, _⟩ := h
    rfl
  · obtain ⟨a, dx, l, fs, xs, rfl, ea, el, hq, k⟩ := h
    refine ⟨_, (pss_one (ps_ret (pe_callB ItX.call_iterN (by rfl) T.z_iter (by decide +kernel) (pa_cons (pe_fld (pv 0) rfl) pa_nil)))), ?_⟩
    exact ⟨_, rfl, a, _, dx, fs, _, rfl, ea, T.cl_Lot, T.na_Lot_members, el, l, xs, rfl, hq, k⟩

def spLotHas (A : Ads) : Sp := fun vs H Q E => ∃ (v : V) (z n : Int) (xs : List Int), vs = [v, .int z] ∧ LotIs A.C_Lot v H n xs ∧ ∀ H', Ex H H' → Q (.bl (decide (z % n ∈ xs))) H' 
theorem ok_Lot_contains (T : Txt K mg A) : FnOk P w K mg base CX0 1 A.f_Lot_contains A.d_Lot_contains (["self", "x"] : List Str) (spLotHas A) := by
  refine T.F_Lot_contains.ok sc_Lot_contains (fun vs H Q E h => ?_) (fun cdv Ar outer s H vs Q E hr h => ?_)
  · obtain ⟨v, z, n, xs, rfl, _⟩ := h
    rfl
  · obtain ⟨v, z, n, xs, rfl, ⟨⟨a, dx, l, rfl, h1, h2⟩, hn, hA⟩, k⟩ := h
    refine ⟨_, (pss_one (ps_ret (pe_cmpR in_K (pe_op op_mod (pv 1) (pe_fldK (pv 0) rfl)) (pe_fldK (pv 0) rfl) (by with_unfolding_all rfl)))), ?_⟩
    exact s_ret (v := .bl (decide (z % n ∈ xs))) (ev_op (ev_op (ev_var (i := 1) rfl) (ev_hours (ev_var (i := 0) rfl) h1 T.cl_Lot T.na_Lot_hours) (rv_I (show 0 < n by omega))) (ev_mems (ev_var (i := 0) rfl) h1 T.cl_Lot T.na_Lot_members) (rv_inI (sq_of h2))) fun H1 e1 => k H1 e1

theorem tyof_ex {K : PySem.W.Frag} {H H' : Hp} (e : Ex H H') {x : V} {t : Value} (h : TyOf K H x t) : TyOf K H' x t := by
  cases h with
  | non => exact .non
  | bl b => exact .bl b
  | int i => exact .int i
  | str z => exact .str z
  | flt z => exact .flt z
  | lst h => exact .lst (e _ _ h)
  | frz h => exact .frz (e _ _ h)
  | tup h => exact .tup (e _ _ h)
  | dK h => exact .dK (e _ _ h)
  | dT h => exact .dT (e _ _ h)
  | ins h c a n k m => exact .ins (e _ _ h) c a n k m
theorem tyx_ex {K : PySem.W.Frag} {H H' : Hp} (e : Ex H H') {x : V} {t : Value} (h : TyX K H x t) : TyX K H' x t := by
  cases h with
  | base h => exact .base (tyof_ex e h)
  | byt b => exact .byt b
  | set h => exact .set (e _ _ h)
  | kList h c => exact .kList h c
  | kTuple h c => exact .kTuple h c
  | kDict h c => exact .kDict h c
  | fTuple h => exact .fTuple (e _ _ h)
  | fDict h => exact .fDict (e _ _ h)

/-- something that is no lot -/
def Odd (K : PySem.W.Frag) (A : Ads) (H : Hp) (y : V) : Prop := ∃ n : String, TyX K H y (.type n) ∧ PySem.W.subIn K (.type n) (.ref A.C_Lot) = some false ∧ PySem.W.kitOne K (.type n) (.ref A.C_Lot) = some false
theorem odd_ex {K : PySem.W.Frag} {A : Ads} {H H' : Hp} {y : V} (e : Ex H H') (h : Odd K A H y) : Odd K A H' y := by
  obtain ⟨n, h1, h2⟩ := h
  exact ⟨n, tyx_ex e h1, h2⟩
def spLotEqK (K : PySem.W.Frag) (A : Ads) : Sp := fun vs H Q E => ∃ (v w : V) (n : Int) (xs : List Int), vs = [v, w] ∧ LotIs A.C_Lot v H n xs ∧
  ((∃ m ys, LotIs A.C_Lot w H m ys ∧ ∀ H', Ex H H' → Q (.bl (decide (n = m ∧ xs = ys))) H') ∨ (Odd K A H w ∧ ∀ H', Ex H H' → Q (.bl false) H'))

theorem ok_Lot_eq (T : Txt K mg A) : FnOk P w K mg base CX0 2 A.f_Lot_eq A.d_Lot_eq (["self", "other"] : List Str) (spLotEqK K A) := by
  refine T.F_Lot_eq.ok sc_Lot_eq (fun vs H Q E h => ?_) (fun cdv Ar outer s H vs Q E hr h => ?_)
  · obtain ⟨v, w, n, xs, rfl, _⟩ := h
    rfl
  · obtain ⟨v, w, n, xs, rfl, hv, h⟩ := h
    refine ⟨_, (pss_one (ps_ret (pe_and (pe_callB isi_K (by rfl) T.z_isinstance (by decide +kernel) (pa_cons (pv 1) (pa_cons (pe_glob (v := .ref A.C_Lot) rfl T.g_Lot rfl) pa_nil))) (pe_and (pe_cmpR op_eq (pe_fldK (pv 0) rfl) (pe_fldK (pv 1) rfl) (nomark _)) (pe_one (pe_cmpR (op_eqD hr.units) (pe_fldK (pv 0) rfl) (pe_fldK (pv 1) rfl) (nomark _))))))), ?_⟩
    obtain ⟨⟨a, dx, l, rfl, h1, h2⟩, hn, hA⟩ := id hv
    rcases h with ⟨m, ys, hw, k⟩ | ⟨⟨t, ty, hs, hk⟩, k⟩
    · obtain ⟨⟨b, dy, m', rfl, g1, g2⟩, _, _⟩ := id hw
      refine ⟨_, rfl, _, _, _, _, true, rfl, .own _, T.ty_Lot H b dy _ g1, kit_self, ⟨true, rfl, iteT ?_⟩⟩
      refine ⟨_, rfl, a, _, dx, _, _, rfl, h1, T.cl_Lot, T.na_Lot_hours, rfl, _, rfl, b, _, dy, _, _, rfl, g1, T.cl_Lot, T.na_Lot_hours, rfl, rfl, ?_⟩
      by_cases hnm : n = m
      · subst hnm
        refine ⟨true, by simp, iteT ?_⟩
        refine ⟨_, rfl, a, _, dx, _, _, rfl, h1, T.cl_Lot, T.na_Lot_members, rfl, _, rfl, b, _, dy, _, _, rfl, g1, T.cl_Lot, T.na_Lot_members, rfl, ?_⟩
        refine ⟨.list (xs.map .int), .list (ys.map .int), .lst (SqL.of h2) (dp_ints _), .lst (SqL.of g2) (dp_ints _), shaped_ints _, shaped_ints _, ?_⟩
        rw [eqv_intsL]
        have := k H (Ex.refl H)
        simpa using this
      · refine ⟨false, by simp [hnm], iteF ?_⟩
        have := k H (Ex.refl H)
        simpa [hnm] using this
    · exact ⟨_, rfl, _, _, _, _, false, rfl, .own _, ty, hk, ⟨false, rfl, iteF (k H (Ex.refl H))⟩⟩
theorem ok_Lot_lshift (T : Txt K mg A) : FnOk P w K mg base CX0 6 A.f_Lot_lshift A.d_Lot_lshift (["self", "other"] : List Str) (spLotI A fun n k xs => hrs n fun z => decide ((z - k) % n ∈ xs)) := by
  refine T.F_Lot_lshift.ok sc_Lot_lshift (fun vs H Q E h => ?_) (fun cdv Ar outer s H vs Q E hr h => ?_)
  · obtain ⟨v, n, kk, xs, rfl, _⟩ := h
    rfl
  · obtain ⟨v, n, kk, xs, rfl, hL, k⟩ := h
    refine ⟨_, (pss_one (ps_ret (pe_make T.mk_Lot (ok_Lot_init T) (hr.mono (by omega)) rfl T.g_Lot (b_Lot_init T) .nil passL (pa_cons (pe_fldK (pv 0) rfl) (pa_cons (pe_lc (own := [("member", 2)]) (g := gName 2) (tt := tYes) rfl sc_Lot_lshift.nd (pi_listK (pe_fldK (pv 0) rfl)) (blkOk_by (own := [("member", 2)]) (N := N_Lot_lshift) (sc := defScope s_Lot_lshift) (by decide +kernel)) (fun _ _ _ _ _ => (pg_name (i := 2) sc_Lot_lshift.nd rfl (Or.inl rfl))) (fun _ _ _ _ _ => pts_nil) (fun _ _ _ _ _ => (pe_op op_add (pv 2) (pv 1)))) pa_nil))))), ?_⟩
    obtain ⟨⟨a, dx, l, rfl, h1, h2⟩, hn, hA⟩ := id hL
    refine ⟨_, rfl, a, _, dx, _, _, rfl, h1, T.cl_Lot, T.na_Lot_hours, rfl, ?_⟩
    try dsimp only
    refine el_mapA (K := K) xs (fun x => x + kk) (ev_mems (ev_var (i := 0) rfl) h1 T.cl_Lot T.na_Lot_members) (sq_of h2) (by have := hL.len; omega) (fun x => rfl) (fun x H1 e1 hx => ev_op (ev_var (i := 2) rfl) (ev_var (i := 1) rfl) rv_I0) _ (Ex.refl _) _ fun p H1 hp e1 h3 => ?_
    exact mk_lotS (ms := xs.map fun x => x + kk) (SqL.of h3) hn (nodup_plus (k := kk) (by omega) hA) (fun z z0 z1 => by rw [mem_plus (by omega) hA z0 z1]; simp) fun w H' e' hw => k w H' (e1.trans e') (hw.out e1 (Ex.refl _))
theorem ok_Lot_neg (T : Txt K mg A) : FnOk P w K mg base CX0 6 A.f_Lot_neg A.d_Lot_neg (["self"] : List Str) (spLot1 A fun n xs => hrs n fun z => decide ((0 - z) % n ∈ xs)) := by
  refine T.F_Lot_neg.ok sc_Lot_neg (fun vs H Q E h => ?_) (fun cdv Ar outer s H vs Q E hr h => ?_)
  · obtain ⟨v, n, xs, rfl, _⟩ := h
    rfl
  · obtain ⟨v, n, xs, rfl, hL, k⟩ := h
    refine ⟨_, (pss_one (ps_ret (pe_make T.mk_Lot (ok_Lot_init T) (hr.mono (by omega)) rfl T.g_Lot (b_Lot_init T) .nil passL (pa_cons (pe_fldK (pv 0) rfl) (pa_cons (pe_lc (own := [("member", 1)]) (g := gName 1) (tt := tYes) rfl sc_Lot_neg.nd (pi_listK (pe_fldK (pv 0) rfl)) (blkOk_by (own := [("member", 1)]) (N := N_Lot_neg) (sc := defScope s_Lot_neg) (by decide +kernel)) (fun _ _ _ _ _ => (pg_name (i := 1) sc_Lot_neg.nd rfl (Or.inl rfl))) (fun _ _ _ _ _ => pts_nil) (fun _ _ _ _ _ => (pe_un un_neg (pv 1)))) pa_nil))))), ?_⟩
    obtain ⟨⟨a, dx, l, rfl, h1, h2⟩, hn, hA⟩ := id hL
    refine ⟨_, rfl, a, _, dx, _, _, rfl, h1, T.cl_Lot, T.na_Lot_hours, rfl, ?_⟩
    try dsimp only
    refine el_mapA (K := K) xs (fun x => -x) (ev_mems (ev_var (i := 0) rfl) h1 T.cl_Lot T.na_Lot_members) (sq_of h2) (by have := hL.len; omega) (fun x => rfl) (fun x H1 e1 hx => ev_un (ev_var (i := 1) rfl) ru_neg) _ (Ex.refl _) _ fun p H1 hp e1 h3 => ?_
    exact mk_lotS (ms := xs.map fun x => -x) (SqL.of h3) hn (nodup_minus (by omega) hA) (fun z z0 z1 => by rw [mem_minus (by omega) hA z0 z1]; simp) fun w H' e' hw => k w H' (e1.trans e') (hw.out e1 (Ex.refl _))
theorem ok_Lot_invert (T : Txt K mg A) : FnOk P w K mg base CX0 6 A.f_Lot_invert A.d_Lot_invert (["self"] : List Str) (spLot1 A fun n xs => hrs n fun z => !decide (z ∈ xs)) := by
  refine T.F_Lot_invert.ok sc_Lot_invert (fun vs H Q E h => ?_) (fun cdv Ar outer s H vs Q E hr h => ?_)
  · obtain ⟨v, n, xs, rfl, _⟩ := h
    rfl
  · obtain ⟨v, n, xs, rfl, hL, k⟩ := h
    refine ⟨_, (pss_one (ps_ret (pe_make T.mk_Lot (ok_Lot_init T) (hr.mono (by omega)) rfl T.g_Lot (b_Lot_init T) .nil passL (pa_cons (pe_fldK (pv 0) rfl) (pa_cons (pe_lc (own := [("hour", 1)]) (g := gName 1) rfl sc_Lot_invert.nd (pi_range1 rfl T.z_range (pa_cons (pe_fldK (pv 0) rfl) pa_nil)) (blkOk_by (own := [("hour", 1)]) (N := N_Lot_invert) (sc := defScope s_Lot_invert) (by decide +kernel)) (fun _ _ _ _ _ => (pg_name (i := 1) sc_Lot_invert.nd rfl (Or.inl rfl))) (fun _ _ _ _ _ => (pts_one (pt_cmpR notin_K (pv 1) (pe_fldK (pv 0) rfl) (by with_unfolding_all rfl)))) (fun _ _ _ _ _ => (pv 1))) pa_nil))))), ?_⟩
    obtain ⟨⟨a, dx, l, rfl, h1, h2⟩, hn, hA⟩ := id hL
    refine ⟨_, rfl, a, _, dx, _, _, rfl, h1, T.cl_Lot, T.na_Lot_hours, rfl, ?_⟩
    try dsimp only
    have lc := el_rng1 (σ := [some (V.ref a), none]) (H := H) (te := tVar 1) (tt := tTest (tOp (rIn K true) (tVar 1) (tFld K (tVar 0) "_members"))) (ta := tCons (tFld K (tVar 0) "hours") tNil) (j := 1) (vs := [1]) (fun i => !decide ((i : Int) ∈ xs)) (fun i => V.int (i : Int))
      (ea_cons (ev_hours (ev_var (i := 0) rfl) h1 T.cl_Lot T.na_Lot_hours) ea_nil) (by omega) (fun x => rfl)
      (fun i H1 e1 hi => et_test (ev_op (ev_var (i := 1) rfl) (ev_mems (ev_var (i := 0) rfl) (e1 _ _ h1) T.cl_Lot T.na_Lot_members) (rv_niI (sq_of (e1 _ _ h2))))) (fun i H1 e1 hi _ => ev_var (i := 1) rfl)
    rw [given_pick] at lc
    have hAs := asc_hrs (n := n) (p := fun z => !decide (z ∈ xs)) (by omega)
    refine lc _ (Ex.refl _) _ fun p H1 hp e1 h3 => ?_
    refine mk_lotS (ms := hrs n fun z => !decide (z ∈ xs)) (SqL.of h3) hn ?_ (fun z z0 z1 => ?_) fun w H' e' hw => k w H' (e1.trans e') (hw.out e1 (Ex.refl _))
    · rw [asc_mod hAs]
      exact hAs.nodup
    · rw [mem_self hAs, mem_hrs]
      simp [z0, z1]

def BadName (A : Ads) (z : Str) (H : Hp) (E : XK) : Prop := ∀ d H', Ex H H' → H' d = some (.xd [("name", .str z)]) → E (.ref A.C_BadName) (some d) H'
def spChkName (A : Ads) : Sp := fun vs H Q E => ∃ z : Str, vs = [.str z] ∧ z.length ≤ 100000 ∧ (goodName z = false → BadName A z H E) ∧ (goodName z = true → ∀ H', Ex H H' → Q .non H')
theorem ok_check_name (T : Txt K mg A) : FnOk P w K mg base (L2.CX P w) 4 A.f_check_name A.d_check_name (["name"] : List Str) (spChkName A) := by
  refine T.F_check_name.okX sc_check_name (fun vs H Q E h => ?_) (fun cdv Ar outer s H vs Q E hr h => ?_)
  · obtain ⟨z, rfl, _⟩ := h
    rfl
  · obtain ⟨z, rfl, hz, k1, k2⟩ := h
    obtain ⟨tc_LONGEST_NAME, gc_LONGEST_NAME⟩ := T.c_LONGEST_NAME
    obtain ⟨tc_LETTERS, gc_LETTERS⟩ := T.c_LETTERS
    refine ⟨_, (pss_cons (ps_if (PW.pt (pw_or (pt_cmpR op_lt (pe_callB len_K (by rfl) T.z_len (by decide +kernel) (pa_cons (pv 0) pa_nil)) pe_int (nomark _)) (pw_or1 (pt_cmpR op_gt (pe_callB len_K (by rfl) T.z_len (by decide +kernel) (pa_cons (pv 0) pa_nil)) (pe_glob (v := .int 8) rfl gc_LONGEST_NAME ⟨_, rfl⟩) (nomark _))))) (pss_one (ps_raise rfl (takes_of rfl rfl rfl rfl) (pmk_oex T.ox_BadName T.ni_BadName T.ti_BadName (ok_BadName_init T) (hr.mono (by omega)) (b_BadName_init T) .nil pass0 rfl T.g_BadName (pa_cons (pv 0) pa_nil)))) pss_nil)
        (pss_one (ps_for (passes_of rfl) rfl (pi_str (pv 0)) (pg_name (i := 1) sc_check_name.nd rfl (Or.inl rfl)) (pss_one (ps_if (pt_cmpR op_notIn_sign (pv 1) (pe_glob (v := .str "abcdefghijklmnopqrstuvwxyz") rfl gc_LETTERS ⟨_, rfl⟩) (by with_unfolding_all rfl)) (pss_one (ps_raise rfl (takes_of rfl rfl rfl rfl) (pmk_oex T.ox_BadName T.ni_BadName T.ti_BadName (ok_BadName_init T) (hr.mono (by omega)) (b_BadName_init T) .nil pass0 rfl T.g_BadName (pa_cons (pv 0) pa_nil)))) pss_nil))))), ?_⟩
    have ra : ∀ {σ : L2.St} {G : Hp}, σ[0]? = some (some (.str z)) → Ex H G → goodName z = false → tMkO A.C_BadName (spErr1 K A.C_BadName "name") [] (tCons (tVar 0) tNil) σ G E := fun h0 e hb => raise1 (C := A.C_BadName) (f := "name") (x := .str z) T.ox_BadName (fun Q q => ⟨_, h0, q⟩) (fun d H' e' hd => k1 hb d H' (e.trans e') hd)
    try dsimp only
    refine q_when (b := decide (((z.length : Nat) : Int) < 1) || decide (8 < ((z.length : Nat) : Int))) (et_or (et_test (ev_op (ev_lenS (K := K) (ev_var (i := 0) rfl) hz) ev_c rv_I0)) fun _ => et_test (ev_op (ev_lenS (K := K) (ev_var (i := 0) rfl) hz) ev_c rv_I0)) (fun h H1 e1 => ?_) (fun h H1 e1 => ?_)
    · refine ra rfl e1 ?_
      unfold goodName
      rw [Bool.or_eq_true, decide_eq_true_iff, decide_eq_true_iff] at h
      rw [decide_eq_false (by omega)]
      rfl
    have hl : 1 ≤ z.length ∧ z.length ≤ 8 := by
      rw [Bool.or_eq_false_iff, decide_eq_false_iff_not, decide_eq_false_iff_not] at h
      omega
    try dsimp only
    refine s_forI (ei_str (ev_var (i := 0) rfl)) fun H2 e2 => ⟨fun i σ' G => (∃ lv : Option V, σ' = [some (.str z), lv]) ∧ Ex H2 G ∧ ∀ j, j < i → ∀ c, z.cps[j]? = some c → c ∈ LET.cps.toList, ⟨⟨none, rfl⟩, Ex.refl _, fun j hj => absurd hj (Nat.not_lt_zero _)⟩, fun i σ' G _ p => p.2.1, ?_, ?_⟩
    · rintro i x σ' G G' hi ⟨⟨lv, rfl⟩, eG, hall⟩ ⟨rfl, c, hc, rfl⟩
      have e12 := (e1.trans e2).trans eG
      dsimp only [gName]
      refine s_when (b := !decide (c ∈ LET.cps.toList)) (et_test (ev_op (ev_var (i := 1) rfl) ev_c rv_niS)) (fun h G1 g1 => ?_) (fun h G1 g1 => ⟨⟨_, rfl⟩, eG.trans g1, fun j hj d hd => ?_⟩)
      · refine ra rfl (e12.trans g1) ?_
        unfold goodName
        rw [Bool.and_eq_false_iff]
        refine .inr (List.all_eq_false.mpr ⟨c, ?_, by simpa using h⟩)
        exact List.mem_of_getElem? (i := i) (by simpa using hc)
      · by_cases c' : j < i
        · exact hall j c' d hd
        · have : j = i := by omega
          subst this
          rw [hc] at hd
          cases hd
          simpa using h
    rintro σ' G ⟨⟨lv, rfl⟩, eG, hall⟩
    refine k2 ?_ G ((e1.trans e2).trans eG)
    unfold goodName
    rw [Bool.and_eq_true, decide_eq_true_iff, List.all_eq_true]
    refine ⟨hl, fun c hc => decide_eq_true ?_⟩
    obtain ⟨j, hj⟩ := List.getElem?_of_mem hc
    have hj' : z.cps[j]? = some c := by simpa using hj
    exact hall j (by have := (List.getElem?_eq_some_iff.mp hj).1; simpa using this) c hj' 

def Again (A : Ads) (z : Str) (H : Hp) (E : XK) : Prop := ∀ d H', Ex H H' → H' d = some (.xd [("name", .str z)]) → E (.ref A.C_RepeatedName) (some d) H'
def spChkNew (K : PySem.W.Frag) (A : Ads) : Sp := fun vs H Q E => ∃ (z : Str) (p : Addr) (ns : List Str), vs = [.str z, .ref p] ∧ z.length ≤ 100000 ∧ SqL K H p (ns.map V.str) ∧ (goodName z = false → BadName A z H E) ∧ (goodName z = true → z ∈ ns → Again A z H E) ∧ (goodName z = true → z ∉ ns → ∀ H', Ex H H' → Q .non H')
theorem ok_check_new_name (T : Txt K mg A) : FnOk P w K mg base (L2.CX P w) 5 A.f_check_new_name A.d_check_new_name (["name", "names"] : List Str) (spChkNew K A) := by
  refine T.F_check_new_name.okX sc_check_new_name (fun vs H Q E h => ?_) (fun cdv Ar outer s H vs Q E hr h => ?_)
  · obtain ⟨z, p, ns, rfl, _⟩ := h
    rfl
  · obtain ⟨z, p, ns, rfl, hz, hp, k1, k2, k3⟩ := h
    refine ⟨_, (pss_cons (ps_expr (pe_call (ok_check_name T) (hr.mono (by omega)) rfl T.g_check_name T.k_check_name (b_check_name T) .nil (passes_call (takes_of rfl rfl rfl rfl) (fun _ _ _ _ h => h)) (pa_cons (pv 0) pa_nil)))
        (pss_one (ps_if (pt_cmpR in_K (pv 0) (pv 1) (by with_unfolding_all rfl)) (pss_one (ps_raise rfl (takes_of rfl rfl rfl rfl) (pmk_oex T.ox_RepeatedName T.ni_RepeatedName T.ti_RepeatedName (ok_RepeatedName_init T) (hr.mono (by omega)) (b_RepeatedName_init T) .nil pass0 rfl T.g_RepeatedName (pa_cons (pv 0) pa_nil)))) pss_nil))), ?_⟩
    refine ⟨_, rfl, z, rfl, hz, k1, fun hg H1 e1 => ?_⟩
    try dsimp only
    refine s_when (b := decide (z ∈ ns)) (et_test (ev_is (ev_op (ev_var (i := 0) rfl) (ev_var (i := 1) rfl) (rv_inL (neg := false) (ex_l e1 hp) rfl (strs_flat ns))) (by rw [← inV_strs]; rfl))) (fun h H2 e2 => ?_) (fun h H2 e2 => k3 hg (of_decide_eq_false h) H2 (e1.trans e2))
    exact raise1 (C := A.C_RepeatedName) (f := "name") (x := .str z) T.ox_RepeatedName (fun Q q => ⟨_, rfl, q⟩) (fun d H' e' hd => k2 hg (of_decide_eq_true h) d H' ((e1.trans e2).trans e') hd)

theorem putF3 {y z u : V} : putF "stakes" u (putF "names" z (putF "hours" y [])) = [(("hours" : Str), y), (("names" : Str), z), (("stakes" : Str), u)] := by
  have h1 : ¬ ("hours" : Str) = "names" := by decide +kernel
  have h2 : ¬ ("hours" : Str) = "stakes" := by decide +kernel
  have h3 : ¬ ("names" : Str) = "stakes" := by decide +kernel
  have e : putF "names" z (putF "hours" y []) = [(("hours" : Str), y), (("names" : Str), z)] := by
    show (if ("hours" : Str) = "names" then _ else (("hours" : Str), y) :: putF "names" z []) = _
    rw [if_neg h1]
    rfl
  rw [e]
  show (if ("hours" : Str) = "stakes" then _ else (("hours" : Str), y) :: (if ("names" : Str) = "stakes" then _ else (("names" : Str), z) :: putF "stakes" u [])) = _
  rw [if_neg h2, if_neg h3]
  rfl
theorem he_scan {n : Int} {gs : List (Str × Int)} {e : HErr} (h1 : ¬ (n < 1 ∨ 24 < n)) (h2 : ¬ gs.length = 0) (h3 : ¬ 4 < gs.length) (hs : scanG [] gs = some e) : houseErr n gs = some e := by
  unfold houseErr
  rw [if_neg h1, if_neg h2, if_neg h3, hs]
def HE (A : Ads) (n : Int) (H : Hp) (E : XK) : HErr → Prop
  | .hours => ∀ d H', Ex H H' → H' d = some (.xd [("value", .int n), ("name", .str "hours")]) → E (.ref A.C_BadNumber) (some d) H'
  | .noGates => ∀ d H', Ex H H' → H' d = some (.xd [("value", .int 0), ("name", .str "gates")]) → E (.ref A.C_BadNumber) (some d) H'
  | .manyGates => ∀ d H', Ex H H' → H' d = some (.xd [("most", .int 4), ("name", .str "gates")]) → E (.ref A.C_TooMany) (some d) H'
  | .name z => BadName A z H E
  | .again z => Again A z H E
  | .stake s => ∀ d H', Ex H H' → H' d = some (.xd [("value", .int s), ("name", .str "stake")]) → E (.ref A.C_BadNumber) (some d) H'
  | .cells => ∀ d H', Ex H H' → H' d = some (.xd [("most", .int 48), ("name", .str "cells")]) → E (.ref A.C_TooMany) (some d) H'
def spHouse (K : PySem.W.Frag) (A : Ads) : Sp := fun vs H Q E => ∃ (x dx p : Addr) (n : Int) (gs : List (Str × Int)), vs = [.ref x, .int n, .ref p] ∧ H x = some (.ins A.C_House dx []) ∧ Gates K H p gs ∧ gs.length ≤ 100 ∧ (∀ g ∈ gs, g.1.length ≤ 100000) ∧ (∀ e, houseErr n gs = some e → HE A n H E e) ∧
  (houseErr n gs = none → ∀ q r H', (∀ b o, b ≠ x → H b = some o → H' b = some o) → H q = none → H r = none → H' x = some (.ins A.C_House dx (houF n q r)) → H' q = some (.tup ((gs.map (·.1)).map V.str)) → H' r = some (.tup ((gs.map (·.2)).map V.int)) → Q .non H')
theorem ok_House_init (T : Txt K mg A) : FnOk P w K mg base (L2.CX P w) 6 A.f_House_init A.d_House_init (["self", "hours", "gates"] : List Str) (spHouse K A) := by
  refine T.F_House_init.okX sc_House_init (fun vs H Q E h => ?_) (fun cdv Ar outer s H vs Q E hr h => ?_)
  · obtain ⟨x, dx, p, n, gs, rfl, _⟩ := h
    rfl
  · obtain ⟨x, dx, p, n, gs, rfl, hx, hG, hgl, hgz, k1, k2⟩ := h
    refine ⟨_, (pss_cons (ps_if (PW.pt (pw_or (pt_cmpR op_lt (pv 1) pe_int (nomark _)) (pw_or1 (pt_cmpR op_gt (pv 1) (ClX.pe_cval (pe_glob (v := .ref A.C_House) rfl T.g_House rfl)) (nomark _))))) (pss_one (ps_raise rfl (takes_of rfl rfl rfl rfl) (pmk_oex T.ox_BadNumber T.ni_BadNumber T.ti_BadNumber (ok_BadNumber_init T) (hr.mono (by omega)) (b_BadNumber_init T) .nil pass0 rfl T.g_BadNumber (pa_cons pe_str (pa_cons (pv 1) pa_nil))))) pss_nil)
        (pss_cons (ps_if (pt_cmpR op_eq (pe_callB len_K (by rfl) T.z_len (by decide +kernel) (pa_cons (pv 2) pa_nil)) pe_int (nomark _)) (pss_one (ps_raise rfl (takes_of rfl rfl rfl rfl) (pmk_oex T.ox_BadNumber T.ni_BadNumber T.ti_BadNumber (ok_BadNumber_init T) (hr.mono (by omega)) (b_BadNumber_init T) .nil pass0 rfl T.g_BadNumber (pa_cons pe_str (pa_cons pe_int pa_nil))))) pss_nil)
        (pss_cons (ps_if (pt_cmpR op_gt (pe_callB len_K (by rfl) T.z_len (by decide +kernel) (pa_cons (pv 2) pa_nil)) (ClX.pe_cval (pe_glob (v := .ref A.C_House) rfl T.g_House rfl)) (nomark _)) (pss_one (ps_raise rfl (takes_of rfl rfl rfl rfl) (pmk_oex T.ox_TooMany T.ni_TooMany T.ti_TooMany (ok_TooMany_init T) (hr.mono (by omega)) (b_TooMany_init T) .nil pass0 rfl T.g_TooMany (pa_cons pe_str (pa_cons (ClX.pe_cval (pe_glob (v := .ref A.C_House) rfl T.g_House rfl)) pa_nil))))) pss_nil)
        (pss_cons (ps_set (i := 3) sc_House_init.nd rfl (Or.inl rfl) (pe_lst pa_nil))
        (pss_cons (ps_set (i := 4) sc_House_init.nd rfl (Or.inl rfl) (pe_lst pa_nil))
        (pss_cons (ps_for (passes_of rfl) rfl (pi_listK (pv 2)) (pg_tup rfl (pgs_cons (pg_name (i := 5) sc_House_init.nd rfl (Or.inl rfl)) (pgs_cons (pg_name (i := 6) sc_House_init.nd rfl (Or.inl rfl)) pgs_nil))) (pss_cons (ps_expr (pe_call (ok_check_new_name T) (hr.mono (by omega)) rfl T.g_check_new_name T.k_check_new_name (b_check_new_name T) .nil (passes_call (takes_of rfl rfl rfl rfl) (fun _ _ _ _ h => h)) (pa_cons (pv 5) (pa_cons (pv 3) pa_nil))))
        (pss_cons (ps_if (PW.pt (pw_or (pt_cmpR op_lt (pv 6) pe_int (nomark _)) (pw_or1 (pt_cmpR op_gt (pv 6) (ClX.pe_cval (pe_glob (v := .ref A.C_House) rfl T.g_House rfl)) (nomark _))))) (pss_one (ps_raise rfl (takes_of rfl rfl rfl rfl) (pmk_oex T.ox_BadNumber T.ni_BadNumber T.ti_BadNumber (ok_BadNumber_init T) (hr.mono (by omega)) (b_BadNumber_init T) .nil pass0 rfl T.g_BadNumber (pa_cons pe_str (pa_cons (pv 6) pa_nil))))) pss_nil)
        (pss_cons (ps_expr (pe_bm PySem.F.plainAttrs_list PySem.F.slot_list_append PySem.F.type_list_append mt_append (pv 3) (pa_cons (pv 5) pa_nil)))
        (pss_one (ps_expr (pe_bm PySem.F.plainAttrs_list PySem.F.slot_list_append PySem.F.type_list_append mt_append (pv 4) (pa_cons (pv 6) pa_nil))))))))
        (pss_cons (ps_if (pt_cmpR op_gt (pe_op op_mul (pv 1) (pe_callB len_K (by rfl) T.z_len (by decide +kernel) (pa_cons (pv 2) pa_nil))) (ClX.pe_cval (pe_glob (v := .ref A.C_House) rfl T.g_House rfl)) (nomark _)) (pss_one (ps_raise rfl (takes_of rfl rfl rfl rfl) (pmk_oex T.ox_TooMany T.ni_TooMany T.ti_TooMany (ok_TooMany_init T) (hr.mono (by omega)) (b_TooMany_init T) .nil pass0 rfl T.g_TooMany (pa_cons pe_str (pa_cons (ClX.pe_cval (pe_glob (v := .ref A.C_House) rfl T.g_House rfl)) pa_nil))))) pss_nil)
        (pss_cons (ps_fld (pv 0) (pv 1) rfl)
        (pss_cons (ps_fld (pv 0) (pe_callTy tup_K (by rfl) T.z_tuple (by decide +kernel) (pa_cons (pv 3) pa_nil)) rfl)
        (pss_one (ps_fld (pv 0) (pe_callTy tup_K (by rfl) T.z_tuple (by decide +kernel) (pa_cons (pv 4) pa_nil)) rfl))))))))))), ?_⟩
    obtain ⟨mc, rdH, ⟨t1, c1⟩, ⟨t2, c2⟩, ⟨t3, c3⟩, ⟨t4, c4⟩⟩ := T.rd_House
    obtain ⟨vs, hvs, hvl, hall⟩ := hG.all
    have lenP : ∀ {σ : L2.St} {G : Hp}, σ[2]? = some (some (.ref p)) → Ex H G → Ev (tCB (rLenK K) (tCons (tVar 2) tNil)) σ G (.int (gs.length : Int)) := fun h2 e => ev_cb (r := rLenK K) (ea_cons (ev_var h2) ea_nil) fun H2 e2 Q q => ⟨.ref p, gs.length, rfl, .inl ⟨vs, ex_l (e.trans e2) hvs, hvl.symm⟩, q H2 (Ex.refl H2)⟩
    have cst : ∀ {f : Str} {z : Int} {t : Tok} {G : Hp} {σ : L2.St}, ClX.CVal K A.C_House mc f (V.int z) (Value.int z t) → Ev (ClX.tCVal K (tC (V.ref A.C_House)) f) σ G (.int z) := fun c H1 e Q q => ⟨A.C_House, mc, _, _, rfl, rdH, c, q H1 (Ex.refl H1)⟩
    try dsimp only
    refine q_when (b := decide (n < 1) || decide (24 < n)) (et_or (et_test (ev_op (ev_var (i := 1) rfl) ev_c rv_I0)) fun _ => et_test (ev_op (ev_var (i := 1) rfl) (cst c1) rv_I0)) (fun h H1 e1 => ?_) (fun h H1 e1 => ?_)
    · rw [Bool.or_eq_true, decide_eq_true_iff, decide_eq_true_iff] at h
      exact raise2 (C := A.C_BadNumber) (f := "name") (g := "value") (x := .str "hours") (y := .int n) T.ox_BadNumber (fun Q q => ⟨_, rfl, q⟩) (fun d H' e' hd => k1 .hours (if_pos h) d H' (e1.trans e') hd)
    rw [Bool.or_eq_false_iff, decide_eq_false_iff_not, decide_eq_false_iff_not] at h
    have a1 : ¬ (n < 1 ∨ 24 < n) := by omega
    try dsimp only
    refine q_when (b := decide ((gs.length : Int) = 0)) (et_test (ev_is (ev_op (lenP rfl e1) ev_c (rv_eq rfl)) (by rw [dec_ii]))) (fun h H2 e2 => ?_) (fun h H2 e2 => ?_)
    · have h := of_decide_eq_true h
      exact raise2 (C := A.C_BadNumber) (f := "name") (g := "value") (x := .str "gates") (y := .int 0) T.ox_BadNumber (fun Q q => q) (fun d H' e' hd => k1 .noGates ((if_neg a1).trans (if_pos (by omega))) d H' ((e1.trans e2).trans e') hd)
    have a2 : ¬ gs.length = 0 := by have := of_decide_eq_false h; omega
    replace e2 := e1.trans e2
    try dsimp only
    refine q_when (b := decide (4 < (gs.length : Int))) (et_test (ev_op (lenP rfl e2) (cst c2) rv_I0)) (fun h H3 e3 => ?_) (fun h H3 e3 => ?_)
    · have h := of_decide_eq_true h
      exact raise2 (C := A.C_TooMany) (f := "name") (g := "most") (x := .str "gates") (y := .int 4) T.ox_TooMany (fun Q q => ⟨A.C_House, mc, _, _, rfl, rdH, c2, q⟩) (fun d H' e' hd => k1 .manyGates ((if_neg a1).trans ((if_neg a2).trans (if_pos (by omega)))) d H' ((e2.trans e3).trans e') hd)
    have a3 : ¬ 4 < gs.length := by have := of_decide_eq_false h; omega
    replace e3 := e2.trans e3
    try dsimp only
    refine q_asgL (xs := []) (el_lst ea_nil (by decide)) fun np H4 hnp e4 h4 => ?_
    try dsimp only
    refine q_asgL (xs := []) (el_lst ea_nil (by decide)) fun sp H5 hsp e5 h5 => ?_
    have hne : np ≠ sp := ne_of_none h4 hsp
    have e05 := (e3.trans e4).trans e5
    have np0 : H np = none := fresh_back e3 hnp
    have sp0 : H sp = none := fresh_back (e3.trans e4) hsp
    try dsimp only
    refine q_forL (K := K) (a := p) (xs := vs) (ev_var (i := 2) rfl) (ex_l e05 hvs) (fun i σ' G => ∃ nv sv : Option V, σ' = [some (.ref x), some (.int n), some (.ref p), some (.ref np), some (.ref sp), nv, sv] ∧ Ex H G ∧ G np = some (.lst (((gs.take i).map (·.1)).map V.str)) ∧ G sp = some (.lst (((gs.take i).map (·.2)).map V.int)) ∧ scanG [] gs = scanG ((gs.take i).map (·.1)) (gs.drop i))
      (fun H6 e6 => ⟨none, none, rfl, e05.trans e6, (e5.trans e6) _ _ h4, e6 _ _ h5, rfl⟩) (fun i σ' G _ ⟨_, _, _, e, _⟩ => ex_l e hvs) ?_ ?_
    · rintro i v σ' G hv ⟨nv, sv, rfl, eG, hn, hs, hsc⟩
      obtain ⟨t, rfl, hall'⟩ := hall i v hv
      have hi : i < gs.length := by have := (List.getElem?_eq_some_iff.mp hv).1; omega
      have hg : gs[i]? = some gs[i] := List.getElem?_eq_getElem hi
      have ht := ex_t eG (hall' _ hg)
      have hz := hgz _ (List.getElem_mem hi)
      rw [List.drop_eq_getElem_cons hi] at hsc
      have htk : gs.take (i + 1) = gs.take i ++ [gs[i]] := List.take_succ_eq_append_getElem hi
      generalize gs[i] = g at *
      obtain ⟨z, st⟩ := g
      refine ⟨t, _, rfl, ht, rfl, .str z, _, rfl, .int st, _, rfl, rfl, ?_⟩
      have fault : ∀ e, scanG ((gs.take i).map (·.1)) ((z, st) :: gs.drop (i + 1)) = some e → houseErr n gs = some e := fun e he => he_scan a1 a2 a3 (by rw [hsc, he])
      try dsimp only
      refine ⟨_, rfl, _, rfl, z, np, (gs.take i).map (·.1), rfl, hz, sq_of hn, fun hb d H' e' hd => ?_, fun hb hm d H' e' hd => ?_, fun hb hm G1 g1 => ?_⟩
      · exact k1 (.name z) (fault _ (if_pos hb)) d H' (eG.trans e') hd
      · exact k1 (.again z) (fault _ ((if_neg (by rw [hb]; simp)).trans (if_pos hm))) d H' (eG.trans e') hd
      have f1 : ¬ goodName z = false := by rw [hb]; simp
      try dsimp only
      refine q_when (b := decide (st < 0) || decide (60 < st)) (et_or (et_test (ev_op (ev_var (i := 6) rfl) ev_c rv_I0)) fun _ => et_test (ev_op (ev_var (i := 6) rfl) (cst c4) rv_I0)) (fun h G2 g2 => ?_) (fun h G2 g2 => ?_)
      · rw [Bool.or_eq_true, decide_eq_true_iff, decide_eq_true_iff] at h
        exact raise2 (C := A.C_BadNumber) (f := "name") (g := "value") (x := .str "stake") (y := .int st) T.ox_BadNumber (fun Q q => ⟨_, rfl, q⟩) (fun d H' e' hd => k1 (.stake st) (fault _ ((if_neg f1).trans ((if_neg hm).trans (if_pos h)))) d H' (eG.trans (g1.trans (g2.trans e'))) hd)
      rw [Bool.or_eq_false_iff, decide_eq_false_iff_not, decide_eq_false_iff_not] at h
      have g12 := g1.trans g2
      have sz : ∀ {α : Type} (f : Str × Int → α) (V' : α → V), (((gs.take i).map f).map V').length < 100000 := fun f V' => by rw [List.length_map, List.length_map, List.length_take]; omega
      try dsimp only
      refine q_app (g12 _ _ hn) (ev_var (i := 3) rfl) (ev_var (i := 5) rfl) (sz _ _) fun G3 g3 => ?_
      try dsimp only
      refine s_app (xs := ((gs.take i).map (·.2)).map V.int) (by rw [upd_ne (Ne.symm hne)]; exact (g12.trans g3) _ _ hs) (ev_var (i := 4) rfl) (ev_var (i := 6) rfl) (sz _ _) fun G4 g4 => ?_
      refine ⟨_, _, rfl, Ex.mut ((Ex.mut (eG.trans (g12.trans g3)) np0).trans g4) sp0, ?_, ?_, ?_⟩
      · rw [upd_ne hne, g4 _ _ upd_same, htk, List.map_append, List.map_append]
        rfl
      · rw [upd_same, htk, List.map_append, List.map_append]
        rfl
      · rw [hsc, htk, List.map_append]
        exact (if_neg f1).trans ((if_neg hm).trans (if_neg (by omega)))
    rintro σ' G ⟨nv, sv, rfl, eG, hn, hs, hsc⟩
    rw [hvl, List.take_length] at hn hs hsc
    rw [List.drop_length] at hsc
    have hsc : scanG [] gs = none := hsc
    try dsimp only
    refine q_when (b := decide (48 < n * (gs.length : Int))) (et_test (ev_op (ev_op (ev_var (i := 1) rfl) (lenP rfl eG) (rv_I (show CMul n (gs.length : Int) from .inl ⟨by omega, by omega⟩))) (cst c3) rv_I0)) (fun h H7 e7 => ?_) (fun h H7 e7 => ?_)
    · exact raise2 (C := A.C_TooMany) (f := "name") (g := "most") (x := .str "cells") (y := .int 48) T.ox_TooMany (fun Q q => ⟨A.C_House, mc, _, _, rfl, rdH, c3, q⟩) (fun d H' e' hd => k1 .cells (by
        unfold houseErr
        rw [if_neg a1, if_neg a2, if_neg a3, hsc]
        exact if_pos (of_decide_eq_true h)) d H' (eG.trans (e7.trans e')) hd)
    have hno : houseErr n gs = none := by
      unfold houseErr
      rw [if_neg a1, if_neg a2, if_neg a3, hsc]
      exact if_neg (of_decide_eq_false h)
    have e07 := eG.trans e7
    have hx7 := e07 _ _ hx
    have hn7 := e7 _ _ hn
    have hs7 := e7 _ _ hs
    have xnp : x ≠ np := fun z => by rw [z, np0] at hx; cases hx
    have xsp : x ≠ sp := fun z => by rw [z, sp0] at hx; cases hx
    refine ⟨_, rfl, _, rfl, x, _, dx, [], rfl, hx7, T.cl_House, T.na_House_hours, by decide, ?_⟩
    refine ⟨_, rfl, np, _, rfl, .inl ⟨SqL.of (by rw [upd_ne (Ne.symm xnp)]; exact hn7), fun q hq => ?_⟩⟩
    have xq : q ≠ x := fun z => by rw [z, upd_same] at hq; cases hq
    have hq7 : H7 q = none := by rw [upd_ne xq] at hq; exact hq
    refine ⟨_, rfl, x, _, dx, _, rfl, by rw [upd_ne (Ne.symm xq), upd_same], T.cl_House, T.na_House_names, by show 1 < 1000; decide, ?_⟩
    have spq : sp ≠ q := fun z => by rw [← z, hs7] at hq7; cases hq7
    refine ⟨_, rfl, sp, _, rfl, .inl ⟨SqL.of (by rw [upd_ne (Ne.symm xsp), upd_ne spq, upd_ne (Ne.symm xsp)]; exact hs7), fun r hr => ?_⟩⟩
    have xr : r ≠ x := fun z => by rw [z, upd_same] at hr; cases hr
    have rq : r ≠ q := fun z => by rw [z, upd_ne xq, upd_same] at hr; cases hr
    have hr7 : H7 r = none := by rw [upd_ne xr, upd_ne rq, upd_ne xr] at hr; exact hr
    refine ⟨_, rfl, x, _, dx, _, rfl, by rw [upd_ne (Ne.symm xr), upd_same], T.cl_House, T.na_House_stakes, by show 2 < 1000; decide, ?_⟩
    refine k2 hno q r _ (fun b o hb ho => ?_) (fresh_back e07 hq7) (fresh_back e07 hr7) ?_ ?_ ?_
    · have h7 := e07 _ _ ho
      rw [upd_ne hb, upd_ne (ne_of_none h7 hr7), upd_ne hb, upd_ne (ne_of_none h7 hq7), upd_ne hb]
      exact h7
    · rw [upd_same, putF3]
      rfl
    · rw [upd_ne xq, upd_ne (Ne.symm rq), upd_ne xq, upd_same]
    · rw [upd_ne xr, upd_same]

def spHLen (A : Ads) : Sp := fun vs H Q _ => ∃ (v : V) (n : Int) (gs : List (Str × Int)), vs = [v] ∧ HouseIs A.C_House v H n gs ∧ gs.length ≤ 100 ∧ ∀ H', Ex H H' → Q (.int (gs.length : Int)) H'
theorem ev_hnames {K : PySem.W.Frag} {C : Addr} {te : TE} {σ : L2.St} {H : Hp} {a dx p q : Addr} {n : Int} (h : Ev te σ H (.ref a)) (hi : H a = some (.ins C dx (houF n p q))) (c : Cls K C) (na : NoAttr K C "names") : Ev (tFld K te "names") σ H (.ref p) := fun H1 e Q q' =>
  h H1 e _ fun H2 e2 => ⟨a, _, dx, _, _, rfl, e2 _ _ (e _ _ hi), c, na, rfl, q' H2 e2⟩
theorem ev_hhours {K : PySem.W.Frag} {C : Addr} {te : TE} {σ : L2.St} {H : Hp} {a dx p q : Addr} {n : Int} (h : Ev te σ H (.ref a)) (hi : H a = some (.ins C dx (houF n p q))) (c : Cls K C) (na : NoAttr K C "hours") : Ev (tFld K te "hours") σ H (.int n) := fun H1 e Q q' =>
  h H1 e _ fun H2 e2 => ⟨a, _, dx, _, _, rfl, e2 _ _ (e _ _ hi), c, na, rfl, q' H2 e2⟩
theorem ev_hstakes {K : PySem.W.Frag} {C : Addr} {te : TE} {σ : L2.St} {H : Hp} {a dx p q : Addr} {n : Int} (h : Ev te σ H (.ref a)) (hi : H a = some (.ins C dx (houF n p q))) (c : Cls K C) (na : NoAttr K C "stakes") : Ev (tFld K te "stakes") σ H (.ref q) := fun H1 e Q q' =>
  h H1 e _ fun H2 e2 => ⟨a, _, dx, _, _, rfl, e2 _ _ (e _ _ hi), c, na, rfl, q' H2 e2⟩
theorem ok_House_len (T : Txt K mg A) : FnOk P w K mg base CX0 1 A.f_House_len A.d_House_len (["self"] : List Str) (spHLen A) := by
  refine T.F_House_len.ok sc_House_len (fun vs H Q E h => ?_) (fun cdv Ar outer s H vs Q E hr h => ?_)
  · obtain ⟨v, n, gs, rfl, _⟩ := h
    rfl
  · obtain ⟨v, n, gs, rfl, ⟨a, dx, p, q, rfl, h1, h2, h3⟩, hl, k⟩ := h
    refine ⟨_, (pss_one (ps_ret (pe_callB len_K (by rfl) T.z_len (by decide +kernel) (pa_cons (pe_fldK (pv 0) rfl) pa_nil)))), ?_⟩
    try dsimp only
    exact s_ret (v := .int (gs.length : Int)) (ev_cb (r := rLenK K) (ea_cons (ev_hnames (ev_var (i := 0) rfl) h1 T.cl_House T.na_House_names) ea_nil) fun H2 e2 Q q' => ⟨.ref p, gs.length, rfl, .inr ⟨_, st_of (e2 _ _ h2), by rw [List.length_map, List.length_map]⟩, q' H2 (Ex.refl H2)⟩) fun H1 e1 => k H1 e1

def spHEq (K : PySem.W.Frag) (A : Ads) : Sp := fun vs H Q _ => ∃ (v w : V) (n m : Int) (gs fs : List (Str × Int)), vs = [v, w] ∧ HouseIs A.C_House v H n gs ∧ HouseIs A.C_House w H m fs ∧ (∀ g ∈ gs, Word g.1) ∧ (∀ g ∈ fs, Word g.1) ∧ ∀ H', Ex H H' → Q (.bl (decide (n = m ∧ gs = fs))) H'
theorem ev_isOwn {K : PySem.W.Frag} {te : TE} {σ : L2.St} {H : Hp} {b C : Addr} (h : Ev te σ H (.ref b)) (ty : ∀ H1, Ex H H1 → TyX K H1 (.ref b) (.ref C)) : Ev (tCB (rIsi K) (tCons te (tCons (tC (.ref C)) tNil))) σ H (.bl true) := fun H1 e Q q => h H1 e _ fun H2 e2 => ⟨_, _, _, _, true, rfl, .own _, ty H2 (e.trans e2), kit_self, q H2 e2⟩
theorem ok_House_eq (T : Txt K mg A) : FnOk P w K mg base CX0 2 A.f_House_eq A.d_House_eq (["self", "other"] : List Str) (spHEq K A) := by
  refine T.F_House_eq.ok sc_House_eq (fun vs H Q E h => ?_) (fun cdv Ar outer s H vs Q E hr h => ?_)
  · obtain ⟨v, w, n, m, gs, fs, rfl, _⟩ := h
    rfl
  · obtain ⟨v, w, n, m, gs, fs, rfl, ⟨a, dx, p, q, rfl, h1, h2, h3⟩, ⟨b, dy, p2, q2, rfl, g1, g2, g3⟩, w1, w2, k⟩ := h
    refine ⟨_, (pss_one (ps_ret (pe_and (pe_callB isi_K (by rfl) T.z_isinstance (by decide +kernel) (pa_cons (pv 1) (pa_cons (pe_glob (v := .ref A.C_House) rfl T.g_House rfl) pa_nil))) (pe_and (pe_cmpR op_eq (pe_fldK (pv 0) rfl) (pe_fldK (pv 1) rfl) (nomark _)) (pe_and (pe_cmpR (eqD_K hr.units) (pe_fldK (pv 0) rfl) (pe_fldK (pv 1) rfl) (nomark _)) (pe_one (pe_cmpR (eqD_K hr.units) (pe_fldK (pv 0) rfl) (pe_fldK (pv 1) rfl) (nomark _)))))))), ?_⟩
    try dsimp only
    have fin : (true && (decide (n = m) && (decide (gs.map (·.1) = fs.map (·.1)) && decide (gs.map (·.2) = fs.map (·.2))))) = decide (n = m ∧ gs = fs) := by
      rw [Bool.true_and, ← Bool.decide_and, ← Bool.decide_and, decide_eq_decide, pairs_eq]
    refine s_ret (v := .bl (decide (n = m ∧ gs = fs))) (ev_is (ev_andV (a := true) (b := decide (n = m) && (decide (gs.map (·.1) = fs.map (·.1)) && decide (gs.map (·.2) = fs.map (·.2)))) (ev_isOwn (K := K) (ev_var (i := 1) rfl) fun H1 e => T.ty_House H1 b dy _ (e _ _ g1)) fun _ => ev_andV (ev_is (ev_op (ev_hhours (ev_var (i := 0) rfl) h1 T.cl_House T.na_House_hours) (ev_hhours (ev_var (i := 1) rfl) g1 T.cl_House T.na_House_hours) (rv_eq rfl)) (by rw [dec_ii])) fun _ =>
      ev_andV (ev_op (ev_hnames (ev_var (i := 0) rfl) h1 T.cl_House T.na_House_names) (ev_hnames (ev_var (i := 1) rfl) g1 T.cl_House T.na_House_names) (rv_eqTS (K := K) h2 g2 (fun x hx => by obtain ⟨g, hg, rfl⟩ := List.mem_map.mp hx; exact w1 g hg) (fun x hx => by obtain ⟨g, hg, rfl⟩ := List.mem_map.mp hx; exact w2 g hg))) fun _ => ev_op (ev_hstakes (ev_var (i := 0) rfl) h1 T.cl_House T.na_House_stakes) (ev_hstakes (ev_var (i := 1) rfl) g1 T.cl_House T.na_House_stakes) (rv_eqTI (K := K) h3 g3)) (by rw [fin])) fun H1 e1 => k H1 e1

theorem ev_houseLen {A : Ads} {E : XK} {ta : TE} {σ : L2.St} {H : Hp} {v : V} {n : Int} {gs : List (Str × Int)} (ha : Ev ta σ H v) (hv : HouseIs A.C_House v H n gs) (hl : gs.length ≤ 100) : Ev (tCB (rOwnLen A.C_House (spHLen A) E) (tCons ta tNil)) σ H (.int (gs.length : Int)) := fun H1 e Q q =>
  ha H1 e _ fun H2 e2 => by
    have h2 := hv.ex (e.trans e2)
    obtain ⟨a, dx, p, q', rfl, h1, _⟩ := id h2
    exact ⟨a, dx, _, rfl, h1, .ref a, n, gs, rfl, h2, hl, fun H' e' => ⟨_, rfl, ⟨by omega, by omega⟩, q H' (e2.trans e')⟩⟩
def spIsGate (A : Ads) : Sp := fun vs H Q _ => ∃ (v : V) (n g : Int) (gs : List (Str × Int)), vs = [v, .int g] ∧ HouseIs A.C_House v H n gs ∧ gs.length ≤ 100 ∧ ∀ H', Ex H H' → Q (.bl (decide (0 ≤ g ∧ g < (gs.length : Int)))) H' 
theorem ok_is_gate (T : Txt K mg A) : FnOk P w K mg base CX0 3 A.f_is_gate A.d_is_gate (["house", "gate"] : List Str) (spIsGate A) := by
  refine T.F_is_gate.ok sc_is_gate (fun vs H Q E h => ?_) (fun cdv Ar outer s H vs Q E hr h => ?_)
  · obtain ⟨v, n, g, gs, rfl, _⟩ := h
    rfl
  · obtain ⟨v, n, g, gs, rfl, hv, hl, k⟩ := h
    refine ⟨_, (pss_one (ps_ret (pe_and (pe_cmpR op_ge (pv 1) pe_int (nomark _)) (pe_one (pe_cmpR op_lt (pv 1) (pe_callB (call_lenO (E := E0) T.M_House_len (ok_House_len T) (hr.mono (by omega)) (b_House_len T) (pAt pass0)) (by rfl) T.z_len (by decide +kernel) (pa_cons (pv 0) pa_nil)) (nomark _)))))), ?_⟩
    try dsimp only
    exact s_ret (v := .bl (decide (0 ≤ g ∧ g < (gs.length : Int)))) (ev_is (ev_andV (a := decide (0 ≤ g)) (b := decide (g < (gs.length : Int))) (ev_op (ev_var (i := 1) rfl) ev_c rv_I0) fun _ => ev_op (ev_var (i := 1) rfl) (ev_houseLen (ev_var (i := 0) rfl) hv hl) rv_I0) (by rw [Bool.decide_and])) fun H1 e1 => k H1 e1

theorem putB {y z : V} : putF "steps" z (putF "house" y []) = beaF y z := by
  have h1 : ¬ ("house" : Str) = "steps" := by decide +kernel
  show (if ("house" : Str) = "steps" then _ else (("house" : Str), y) :: putF "steps" z []) = _
  rw [if_neg h1]
  rfl
def BE (A : Ads) (H : Hp) (E : XK) : BErr → Prop
  | .wlen k => ∀ d H', Ex H H' → H' d = some (.xd [("length", .int (k : Int))]) → E (.ref A.C_WrongLength) (some d) H'
  | .step x => ∀ d H', Ex H H' → H' d = some (.xd [("value", .int x), ("name", .str "step")]) → E (.ref A.C_BadNumber) (some d) H'
def spBeat (K : PySem.W.Frag) (A : Ads) : Sp := fun vs H Q E => ∃ (x dx : Addr) (v : V) (p : Addr) (n : Nat) (gs : List (Str × Int)) (ss : List Int), vs = [.ref x, v, .ref p] ∧ H x = some (.ins A.C_Beat dx []) ∧ HouseIs A.C_House v H (n : Int) gs ∧ gs.length ≤ 100 ∧ SqL K H p (ss.map V.int) ∧ ss.length ≤ 1000 ∧
  (∀ e, beatErr n gs.length ss = some e → BE A H E e) ∧
  (beatErr n gs.length ss = none → ∀ q H', (∀ b o, b ≠ x → H b = some o → H' b = some o) → H q = none → H' x = some (.ins A.C_Beat dx (beaF v (.ref q))) → H' q = some (.tup (ss.map V.int)) → Q .non H')
theorem ok_Beat_init (T : Txt K mg A) : FnOk P w K mg base (L2.CX P w) 6 A.f_Beat_init A.d_Beat_init (["self", "house", "steps"] : List Str) (spBeat K A) := by
  refine T.F_Beat_init.okX sc_Beat_init (fun vs H Q E h => ?_) (fun cdv Ar outer s H vs Q E hr h => ?_)
  · obtain ⟨x, dx, v, p, n, gs, ss, rfl, _⟩ := h
    rfl
  · obtain ⟨x, dx, v, p, n, gs, ss, rfl, hx, hv, hl, hp, hz, k1, k2⟩ := h
    obtain ⟨tc_REST, gc_REST⟩ := T.c_REST
    refine ⟨_, (pss_cons (ps_if (pt_cmpR op_ne (pe_callB len_K (by rfl) T.z_len (by decide +kernel) (pa_cons (pv 2) pa_nil)) (pe_fldK (pv 1) rfl) (nomark _)) (pss_one (ps_raise rfl (takes_of rfl rfl rfl rfl) (pmk_oex T.ox_WrongLength T.ni_WrongLength T.ti_WrongLength (ok_WrongLength_init T) (hr.mono (by omega)) (b_WrongLength_init T) .nil pass0 rfl T.g_WrongLength (pa_cons (pe_callB len_K (by rfl) T.z_len (by decide +kernel) (pa_cons (pv 2) pa_nil)) pa_nil)))) pss_nil)
        (pss_cons (ps_for (passes_of rfl) rfl (pi_listK (pv 2)) (pg_name (i := 3) sc_Beat_init.nd rfl (Or.inl rfl)) (pss_one (ps_if (PW.pt (pw_and (pt_cmpR op_ne (pv 3) (pe_glob (v := .int (-1)) rfl gc_REST ⟨_, rfl⟩) (nomark _)) (pw_and1 (pt_not (pt_val (pe_call (ok_is_gate T) (hr.mono (by omega)) rfl T.g_is_gate T.k_is_gate (b_is_gate T) .nil pass0 (pa_cons (pv 1) (pa_cons (pv 3) pa_nil)))))))) (pss_one (ps_raise rfl (takes_of rfl rfl rfl rfl) (pmk_oex T.ox_BadNumber T.ni_BadNumber T.ti_BadNumber (ok_BadNumber_init T) (hr.mono (by omega)) (b_BadNumber_init T) .nil pass0 rfl T.g_BadNumber (pa_cons pe_str (pa_cons (pv 3) pa_nil))))) pss_nil)))
        (pss_cons (ps_fld (pv 0) (pv 1) rfl)
        (pss_one (ps_fld (pv 0) (pe_callTy tup_K (by rfl) T.z_tuple (by decide +kernel) (pa_cons (pv 2) pa_nil)) rfl))))), ?_⟩
    obtain ⟨a3, dx3, p3, q3, rfl, h5, _⟩ := id hv
    try dsimp only
    refine q_when (b := !decide ((ss.length : Int) = (n : Int))) (et_test (ev_is (ev_op (ev_cb (r := rLenK K) (ea_cons (ev_var (i := 2) rfl) ea_nil) fun H2 e2 Q q => ⟨.ref p, ss.length, rfl, .inl ⟨_, ex_l e2 hp, (List.length_map _).symm⟩, q H2 (Ex.refl H2)⟩) (ev_hhours (ev_var (i := 1) rfl) h5 T.cl_House T.na_House_hours) (rv_ne rfl)) (by rw [dec_ii]))) (fun hb H1 e1 => ?_) (fun hb H1 e1 => ?_)
    · have hb : ¬ ((ss.length : Int) = (n : Int)) := by simpa using hb
      have hb : ¬ ss.length = n := by omega
      refine raise1 (C := A.C_WrongLength) (f := "length") (x := .int (ss.length : Int)) T.ox_WrongLength (fun Q q => ?_) (fun d H' e' hd => k1 (.wlen ss.length) (by unfold beatErr beatAll; rw [if_neg hb]; rfl) d H' (e1.trans e') hd)
      exact ⟨_, rfl, .ref p, ss.length, rfl, .inl ⟨_, ex_l e1 hp, (List.length_map _).symm⟩, q⟩
    have hb : (ss.length : Int) = (n : Int) := by simpa using hb
    have hb : ss.length = n := by omega
    try dsimp only
    refine q_forLn (K := K) (a := p) (xs := ss.map V.int) (j := 3) (ev_var (i := 2) rfl) (ex_l e1 hp) (fun i σ' G => ∃ v3 : Option V, σ' = [some (.ref x), some (.ref a3), some (.ref p), v3] ∧ Ex H G ∧ ∀ y ∈ ss.take i, badStep gs.length y = false) (fun H2 e2 => ⟨_, rfl, e1.trans e2, fun y hy => by cases hy⟩) (fun i σ' G _ ⟨_, _, e, _⟩ => ex_l e hp) ?_ ?_
    · rintro i y σ' G hy ⟨v3, rfl, eG, hall⟩
      obtain ⟨m, rfl, hm⟩ := some_int hy
      have hi : i < ss.length := (List.getElem?_eq_some_iff.mp hm).1
      have htk : ss.take (i + 1) = ss.take i ++ [m] := by
        rw [List.take_succ_eq_append_getElem hi]
        rw [List.getElem?_eq_getElem hi] at hm
        rw [Option.some.inj hm]
      try dsimp only
      have eqb : (!decide (m = -1) && !decide (0 ≤ m ∧ m < (gs.length : Int))) = badStep gs.length m := by
        unfold badStep
        rw [Bool.eq_iff_iff]
        simp
        omega
      refine s_when (b := !decide (m = -1) && !decide (0 ≤ m ∧ m < (gs.length : Int))) (et_and (et_test (ev_is (ev_op (ev_var (i := 3) rfl) ev_c (rv_ne rfl)) (by rw [dec_ii]))) fun _ => et_not (et_B (ev_call (z := .bl (decide (0 ≤ m ∧ m < (gs.length : Int)))) (ea_cons (ev_var (i := 1) rfl) (ea_cons (ev_var (i := 3) rfl) ea_nil)) fun H2 e2 Q q _ => ⟨.ref a3, n, m, gs, rfl, hv.ex (eG.trans e2), hl, fun H' e' => q H' e'⟩))) (fun hbad G1 g1 => ?_) (fun hbad G1 g1 => ⟨_, rfl, eG.trans g1, fun y hy => ?_⟩)
      all_goals rw [eqb] at hbad
      · refine raise2 (C := A.C_BadNumber) (f := "name") (g := "value") (x := .str "step") (y := .int m) T.ox_BadNumber (fun Q q => ⟨_, rfl, q⟩) (fun d H' e' hd => k1 (.step m) ?_ d H' ((eG.trans g1).trans e') hd)
        unfold beatErr beatAll
        rw [if_pos hb, List.nil_append, List.head?_map, ← List.take_append_drop (i + 1) ss, htk, List.filter_append, List.filter_append, List.filter_eq_nil_iff.mpr fun y hy => by rw [hall y hy]; simp]
        simp [hbad]
      · rw [htk] at hy
        rcases List.mem_append.mp hy with h | h
        · exact hall y h
        · rw [List.mem_singleton.mp h]; exact hbad
    rintro σ' G ⟨v3, rfl, eG, hall⟩
    rw [List.length_map, List.take_length] at hall
    have hnone : beatErr n gs.length ss = none := by
      unfold beatErr beatAll
      rw [if_pos hb, List.nil_append, List.head?_eq_none_iff, List.map_eq_nil_iff, List.filter_eq_nil_iff]
      exact fun y hy => by rw [hall y hy]; simp
    have hxG := eG _ _ hx
    refine ⟨_, rfl, _, rfl, x, _, dx, [], rfl, hxG, T.cl_Beat, T.na_Beat_house, by decide, ?_⟩
    try dsimp only
    refine ⟨_, rfl, p, _, rfl, .inl ⟨sqL_ins hxG (ex_l eG hp), fun q hq => ?_⟩⟩
    have xq : q ≠ x := fun z => by rw [z, upd_same] at hq; cases hq
    have hqG : G q = none := by rw [upd_ne xq] at hq; exact hq
    refine ⟨_, rfl, x, _, dx, _, rfl, by rw [upd_ne (Ne.symm xq), upd_same], T.cl_Beat, T.na_Beat_steps, by show 1 < 1000; decide, ?_⟩
    refine k2 hnone q _ (fun b o hb' ho => ?_) (fresh_back eG hqG) ?_ ?_
    · have hG := eG _ _ ho
      rw [upd_ne hb', upd_ne (ne_of_none hG hqG), upd_ne hb']
      exact hG
    · rw [upd_same, putB]
    · rw [upd_ne xq, upd_same]

structure BeatOk (K : PySem.W.Frag) (A : Ads) (v : V) (H : Hp) (h : V) (n : Nat) (gs : List (Str × Int)) (ss : List Int) : Prop where
  b : BeatIs A.C_Beat v H h ss
  hs : HouseIs A.C_House h H (n : Int) gs
  gl : gs.length ≤ 100
  gd : BeatGood n gs.length ss
  nb : 1 ≤ n ∧ n ≤ 360
  wd : ∀ g ∈ gs, Word g.1
theorem BeatOk.ex {K : PySem.W.Frag} {A : Ads} {v h : V} {H H' : Hp} {n : Nat} {gs : List (Str × Int)} {ss : List Int} (e : Ex H H') (q : BeatOk K A v H h n gs ss) : BeatOk K A v H' h n gs ss := ⟨q.b.ex e, q.hs.ex e, q.gl, q.gd, q.nb, q.wd⟩
theorem ev_bhouse {K : PySem.W.Frag} {C : Addr} {te : TE} {σ : L2.St} {H : Hp} {a dx : Addr} {h s : V} (he : Ev te σ H (.ref a)) (hi : H a = some (.ins C dx (beaF h s))) (c : Cls K C) (na : NoAttr K C "house") : Ev (tFld K te "house") σ H h := fun H1 e Q q' =>
  he H1 e _ fun H2 e2 => ⟨a, _, dx, _, _, rfl, e2 _ _ (e _ _ hi), c, na, rfl, q' H2 e2⟩
theorem ev_bsteps {K : PySem.W.Frag} {C : Addr} {te : TE} {σ : L2.St} {H : Hp} {a dx : Addr} {h s : V} (he : Ev te σ H (.ref a)) (hi : H a = some (.ins C dx (beaF h s))) (c : Cls K C) (na : NoAttr K C "steps") : Ev (tFld K te "steps") σ H s := fun H1 e Q q' =>
  he H1 e _ fun H2 e2 => ⟨a, _, dx, _, _, rfl, e2 _ _ (e _ _ hi), c, na, rfl, q' H2 e2⟩
def lotOf (n : Nat) (ss : List Int) (g : Int) : List Int := hrs (n : Int) fun z => decide (ss.getD z.toNat 0 = g)
def spBLot (K : PySem.W.Frag) (A : Ads) : Sp := fun vs H Q E => ∃ (v h : V) (g : Int) (n : Nat) (gs : List (Str × Int)) (ss : List Int), vs = [v, .int g] ∧ BeatOk K A v H h n gs ss ∧ (¬ (-1 ≤ g ∧ g < (gs.length : Int)) → ∀ H', Ex H H' → E (.ref A.C_NoPlace) none H') ∧
  (-1 ≤ g ∧ g < (gs.length : Int) → ∀ w H', Ex H H' → LotIs A.C_Lot w H' (n : Int) (lotOf n ss g) → Q w H')
theorem ok_Beat_lot (T : Txt K mg A) : FnOk P w K mg base (L2.CX P w) 7 A.f_Beat_lot A.d_Beat_lot (["self", "gate"] : List Str) (spBLot K A) := by
  refine T.F_Beat_lot.okX sc_Beat_lot (fun vs H Q E h => ?_) (fun cdv Ar outer s H vs Q E hr h => ?_)
  · obtain ⟨v, h, g, n, gs, ss, rfl, _⟩ := h
    rfl
  · obtain ⟨v, h, g, n, gs, ss, rfl, W, k1, k2⟩ := h
    obtain ⟨tc_REST, gc_REST⟩ := T.c_REST
    refine ⟨_, (pss_cons (ps_if (PW.pt (pw_and (pt_cmpR op_ne (pv 1) (pe_glob (v := .int (-1)) rfl gc_REST ⟨_, rfl⟩) (nomark _)) (pw_and1 (pt_not (pt_val (pe_call (ok_is_gate T) (hr.mono (by omega)) rfl T.g_is_gate T.k_is_gate (b_is_gate T) .nil pass0 (pa_cons (pe_fldK (pv 0) rfl) (pa_cons (pv 1) pa_nil)))))))) (pss_one (ps_raise rfl (takes_of rfl rfl rfl rfl) (pmk_none PySem.F.excBase_ValueError T.xP_NoPlace T.g_NoPlace T.kP_NoPlace (raises_own T.bP_NoPlace T.tP_NoPlace) rfl))) pss_nil)
        (pss_one (ps_ret (pe_make T.mk_Lot (ok_Lot_init T) (hr.mono (by omega)) rfl T.g_Lot (b_Lot_init T) .nil (passes_call (takes_of rfl rfl rfl rfl) (fun _ _ _ _ h => h)) (pa_cons (pe_fldK (pe_fldK (pv 0) rfl) rfl) (pa_cons (pe_lc (own := [("hour", 2), ("step", 3)]) (g := gTup K 2 (gCons (gName 2) (gCons (gName 3) gNil))) rfl sc_Beat_lot.nd (pi_enumT (by rfl) T.z_enumerate (pa_cons (pe_fldK (pv 0) rfl) pa_nil)) (blkOk_by (own := [("hour", 2), ("step", 3)]) (N := N_Beat_lot) (sc := defScope s_Beat_lot) (by decide +kernel)) (fun _ _ _ _ _ => (pg_tupK rfl rfl (pgs_cons (pg_name (i := 2) sc_Beat_lot.nd rfl (Or.inl rfl)) (pgs_cons (pg_name (i := 3) sc_Beat_lot.nd rfl (Or.inl rfl)) pgs_nil)))) (fun _ _ _ _ _ => (pts_one (pt_cmpR op_eq (pv 3) (pv 1) (nomark _)))) (fun _ _ _ _ _ => (pv 2))) pa_nil)))))), ?_⟩
    obtain ⟨a, dx, p, rfl, h1, h2⟩ := id W.b
    obtain ⟨a3, dx3, p3, q3, rfl, h5, _⟩ := id W.hs
    have nb := W.nb
    have gl := W.gl
    have ln := W.gd.len
    try dsimp only
    have eqb : (!decide (g = -1) && !decide (0 ≤ g ∧ g < (gs.length : Int))) = !decide (-1 ≤ g ∧ g < (gs.length : Int)) := by
      rw [Bool.eq_iff_iff]
      simp
      omega
    refine q_when (b := !decide (g = -1) && !decide (0 ≤ g ∧ g < (gs.length : Int))) (et_and (et_test (ev_is (ev_op (ev_var (i := 1) rfl) ev_c (rv_ne rfl)) (by rw [dec_ii]))) fun _ => et_not (et_B (ev_call (z := .bl (decide (0 ≤ g ∧ g < (gs.length : Int)))) (ea_cons (ev_bhouse (ev_var (i := 0) rfl) h1 T.cl_Beat T.na_Beat_house) (ea_cons (ev_var (i := 1) rfl) ea_nil)) fun H2 e2 Q q _ => ⟨.ref a3, n, g, gs, rfl, W.hs.ex e2, gl, fun H' e' => q H' e'⟩))) (fun hb H1 e1 => k1 (fun hc => by rw [eqb, decide_eq_true hc] at hb; cases hb) H1 e1) (fun hb H1 e1 => ?_)
    rw [eqb] at hb
    have hb : -1 ≤ g ∧ g < (gs.length : Int) := by simpa using hb
    try dsimp only
    refine s_retR (er_mkAsc (K := K) (A := A) (n := (n : Int)) (xs := lotOf n ss g) (ev_hhours (ev_bhouse (ev_var (i := 0) rfl) (e1 _ _ h1) T.cl_Beat T.na_Beat_house) (e1 _ _ h5) T.cl_House T.na_House_hours) ?_ (by omega) (asc_hrs (by omega))) fun w H2 e2 hw => k2 hb w H2 (e1.trans e2) hw
    refine (er_L (el_isW (el_lc (fun i => decide (ss.getD i 0 = g)) (fun i => V.int (i : Int)) (ei_enumT (K := K) (eb_ev (ev_bsteps (ev_var (i := 0) rfl) (e1 _ _ h1) T.cl_Beat T.na_Beat_steps) fun G e => ⟨p, rfl, st_of (e _ _ (e1 _ _ h2))⟩)) (by rw [List.length_map]; omega) bd_pair (fun i _ => rfl) (fun i H3 hi e3 => ?_) (fun i H3 hi e3 _ => ev_var (i := 2) rfl)) ?_)).imp fun v G ⟨q, z1, z2⟩ => ⟨q, z1, sq_of z2⟩
    · rw [List.length_map] at hi
      have xi : (ss.map V.int)[i]? = some (.int (ss.getD i 0)) := by
        rw [List.getElem?_map, List.getD_eq_getElem?_getD, List.getElem?_eq_getElem hi]
        rfl
      rw [xi]
      exact et_test (ev_is (ev_op (ev_var (i := 3) rfl) (ev_var (i := 1) rfl) (rv_eq rfl)) (by rw [dec_ii]))
    · rw [given_pick (g := fun i => (i : Int)), List.length_map, ln]
      unfold lotOf hrs
      rw [Int.toNat_natCast]
      rfl

def spBGet (K : PySem.W.Frag) (A : Ads) : Sp := fun vs H Q _ => ∃ (v h : V) (t : Int) (n : Nat) (gs : List (Str × Int)) (ss : List Int), vs = [v, .int t] ∧ BeatOk K A v H h n gs ss ∧ ∀ H', Ex H H' → Q (.int (ss.getD (t % (n : Int)).toNat 0)) H'
theorem ev_bget {K : PySem.W.Frag} {A : Ads} {ta tb : TE} {σ : L2.St} {H : Hp} {v h : V} {t : Int} {n : Nat} {gs : List (Str × Int)} {ss : List Int} (h1 : Ev ta σ H v) (W : BeatOk K A v H h n gs ss) (h2 : Ev tb σ H (.int t)) : Ev (tOp (rOwnIx A.C_Beat (spBGet K A) E0) ta tb) σ H (.int (ss.getD (t % (n : Int)).toNat 0)) := by
  obtain ⟨a, dx, p, rfl, g1, _⟩ := id W.b
  exact ev_ownIx h1 g1 h2 fun H1 e Q q => ⟨.ref a, h, t, n, gs, ss, rfl, W.ex e, fun H' e' => q H' e'⟩
theorem ok_Beat_getitem (T : Txt K mg A) : FnOk P w K mg base CX0 1 A.f_Beat_getitem A.d_Beat_getitem (["self", "at"] : List Str) (spBGet K A) := by
  refine T.F_Beat_getitem.ok sc_Beat_getitem (fun vs H Q E h => ?_) (fun cdv Ar outer s H vs Q E hr h => ?_)
  · obtain ⟨v, h, t, n, gs, ss, rfl, _⟩ := h
    rfl
  · obtain ⟨v, h, t, n, gs, ss, rfl, W, k⟩ := h
    refine ⟨_, (pss_one (ps_ret (pe_ix ix_tK (pe_fldK (pv 0) rfl) (pe_op op_mod (pv 1) (pe_fldK (pe_fldK (pv 0) rfl) rfl)) (fun _ _ => rfl)))), ?_⟩
    obtain ⟨a, dx, p, rfl, h1, h2⟩ := id W.b
    obtain ⟨a3, dx3, p3, q3, rfl, h5, _⟩ := id W.hs
    have nb := W.nb
    have ln := W.gd.len
    have m0 := Int.emod_nonneg t (b := (n : Int)) (by omega)
    have m1 := Int.emod_lt_of_pos t (b := (n : Int)) (by omega)
    try dsimp only
    exact s_ret (ev_op (ev_bsteps (ev_var (i := 0) rfl) h1 T.cl_Beat T.na_Beat_steps) (ev_op (ev_var (i := 1) rfl) (ev_hhours (ev_bhouse (ev_var (i := 0) rfl) h1 T.cl_Beat T.na_Beat_house) h5 T.cl_House T.na_House_hours) (rv_I (show (0 : Int) < n by omega))) (rv_ixT (K := K) (st_of h2) (atI_ints m0 (by omega)))) fun H1 e1 => k H1 e1

def spBEq (K : PySem.W.Frag) (A : Ads) : Sp := fun vs H Q _ => ∃ (v w h : V) (n : Nat) (gs : List (Str × Int)) (ss : List Int), vs = [v, w] ∧ BeatOk K A v H h n gs ss ∧
  ((∃ (h' : V) (m : Nat) (fs : List (Str × Int)) (ts : List Int), BeatOk K A w H h' m fs ts ∧ ∀ H', Ex H H' → Q (.bl (decide ((n = m ∧ gs = fs) ∧ ss = ts))) H') ∨ (∃ xs, (∃ p, w = .ref p ∧ SqT K H p xs) ∧ ∀ H', Ex H H' → Q (.bl false) H'))
theorem ev_heq {K : PySem.W.Frag} {A : Ads} {E : L2.St → XK} {ta tb : TE} {σ : L2.St} {H : Hp} {v w : V} {n m : Int} {gs fs : List (Str × Int)} (ty : ∀ (H : Hp) (a dx : Addr) (fs : List (Str × V)), H a = some (.ins A.C_House dx fs) → TyX K H (.ref a) (.ref A.C_House)) (nf : PySem.W.notFirst K A.C_House (.ref A.C_House) = true) (h1 : Ev ta σ H v) (h2 : Ev tb σ H w) (g1 : HouseIs A.C_House v H n gs) (g2 : HouseIs A.C_House w H m fs) (w1 : ∀ g ∈ gs, Word g.1) (w2 : ∀ g ∈ fs, Word g.1) :
    Ev (tOpS (rOwnC K A.C_House (spHEq K A) E) ta tb) σ H (.bl (decide (n = m ∧ gs = fs))) := fun H1 e Q q => h1 H1 e _ fun H2 e2 => h2 H2 (e.trans e2) _ fun H3 e3 => by
  have e03 := (e.trans e2).trans e3
  have a1 := g1.ex e03
  have a2 := g2.ex e03
  obtain ⟨a, dx, p, q', rfl, z1, _⟩ := id a1
  obtain ⟨b, dy, p2, q2, rfl, z2, _⟩ := id a2
  exact ⟨a, dx, _, _, rfl, z1, ty H3 b dy _ z2, nf, .ref a, .ref b, n, m, gs, fs, rfl, a1, a2, w1, w2, fun H' e' => q H' ((e2.trans e3).trans e')⟩
theorem ev_isTup {K : PySem.W.Frag} {te : TE} {σ : L2.St} {H : Hp} {p C : Addr} {xs : List V} (h : Ev te σ H (.ref p)) (hp : SqT K H p xs) (hk : PySem.W.kitOne K (.type "tuple") (.ref C) = some false) : Ev (tCB (rIsi K) (tCons te (tCons (tC (.ref C)) tNil))) σ H (.bl false) := fun H1 e Q q => h H1 e _ fun H2 e2 => ⟨_, _, _, _, false, rfl, .own _, tyx_t (ex_t (e.trans e2) hp), hk, q H2 e2⟩
theorem ok_Beat_eq (T : Txt K mg A) : FnOk P w K mg base CX0 4 A.f_Beat_eq A.d_Beat_eq (["self", "other"] : List Str) (spBEq K A) := by
  refine T.F_Beat_eq.ok sc_Beat_eq (fun vs H Q E h => ?_) (fun cdv Ar outer s H vs Q E hr h => ?_)
  · obtain ⟨v, w, h, n, gs, ss, rfl, _⟩ := h
    rfl
  · obtain ⟨v, w, h, n, gs, ss, rfl, W, hor⟩ := h
    refine ⟨_, (pss_one (ps_ret (pe_and (pe_callB isi_K (by rfl) T.z_isinstance (by decide +kernel) (pa_cons (pv 1) (pa_cons (pe_glob (v := .ref A.C_Beat) rfl T.g_Beat rfl) pa_nil))) (pe_and (pe_cmpS (op_ownC (op := .Eq) (E := fun _ => E0) (fun _ _ => rfl) T.M_House_eq (ok_House_eq T) (hr.mono (by omega)) (b_House_eq T) (pAt pass0)) (pe_fldK (pv 0) rfl) (pe_fldK (pv 1) rfl) (nomark _)) (pe_one (pe_cmpR (eqD_K hr.units) (pe_fldK (pv 0) rfl) (pe_fldK (pv 1) rfl) (nomark _))))))), ?_⟩
    obtain ⟨a, dx, p, rfl, h1, h2⟩ := id W.b
    have nfH : PySem.W.notFirst K A.C_House (.ref A.C_House) = true := by unfold PySem.W.notFirst; simp
    rcases hor with ⟨h', m, fs, ts, W2, k⟩ | ⟨xs, ⟨t, rfl, ht⟩, k⟩
    · obtain ⟨b, dy, p2, rfl, g1, g2⟩ := id W2.b
      have fin : (true && (decide ((n : Int) = (m : Int) ∧ gs = fs) && decide (ss = ts))) = decide ((n = m ∧ gs = fs) ∧ ss = ts) := by
        rw [Bool.true_and, ← Bool.decide_and, decide_eq_decide]
        constructor
        · rintro ⟨⟨q1, q2⟩, q3⟩
          exact ⟨⟨by omega, q2⟩, q3⟩
        · rintro ⟨⟨q1, q2⟩, q3⟩
          exact ⟨⟨by omega, q2⟩, q3⟩
      try dsimp only
      exact s_ret (v := .bl (decide ((n = m ∧ gs = fs) ∧ ss = ts))) (ev_is (ev_andV (a := true) (b := decide ((n : Int) = (m : Int) ∧ gs = fs) && decide (ss = ts)) (ev_isOwn (K := K) (ev_var (i := 1) rfl) fun H1 e => T.ty_Beat H1 b dy _ (e _ _ g1)) fun _ => ev_andV (ev_heq (K := K) (A := A) T.ty_House nfH (ev_bhouse (ev_var (i := 0) rfl) h1 T.cl_Beat T.na_Beat_house) (ev_bhouse (ev_var (i := 1) rfl) g1 T.cl_Beat T.na_Beat_house) W.hs W2.hs W.wd W2.wd) fun _ =>
        ev_op (ev_bsteps (ev_var (i := 0) rfl) h1 T.cl_Beat T.na_Beat_steps) (ev_bsteps (ev_var (i := 1) rfl) g1 T.cl_Beat T.na_Beat_steps) (rv_eqTI (K := K) h2 g2)) (by rw [fin])) fun H1 e1 => k H1 e1
    · try dsimp only
      exact s_ret (v := .bl false) (ev_andV (a := false) (b := false) (ev_isTup (K := K) (ev_var (i := 1) rfl) ht T.kit_tuple_Beat) fun z => Bool.noConfusion z) fun H1 e1 => k H1 e1

theorem turn_good {n m : Nat} {k : Int} {ss : List Int} (hn : 1 ≤ n) (h : BeatGood n m ss) : BeatGood n m (turnR n k ss) := ⟨by simp [turnR], fun x hx => by
  obtain ⟨i, _, rfl⟩ := List.mem_map.mp hx
  have m0 := Int.emod_nonneg ((i : Int) - k) (b := (n : Int)) (by omega)
  have m1 := Int.emod_lt_of_pos ((i : Int) - k) (b := (n : Int)) (by omega)
  have hl := h.len
  have hm : ss.getD (((i : Int) - k) % (n : Int)).toNat 0 ∈ ss := in_getD (show (((i : Int) - k) % (n : Int)).toNat < ss.length by omega)
  exact h.val _ hm⟩
theorem en_beat {K : PySem.W.Frag} {A : Ads} {E : XK} {σ : L2.St} {H : Hp} {t1 t2 : TE} {v : V} {n : Nat} {gs : List (Str × Int)} {ss : List Int} (h1 : Ev t1 σ H v) (h2 : EvR t2 σ H fun v G => ∃ p, v = .ref p ∧ SqL K G p (ss.map V.int)) (hv : HouseIs A.C_House v H (n : Int) gs) (hl : gs.length ≤ 100) (hg : BeatGood n gs.length ss) (hn : 1 ≤ n ∧ n ≤ 360) (hw : ∀ g ∈ gs, Word g.1) :
    EvR (tMake A.C_Beat (spBeat K A) [] E (tCons t1 (tCons t2 tNil))) σ H fun w G => BeatOk K A w G v n gs ss := fun H1 e Q q => h1 H1 e _ fun H2 e2 => h2 H2 (e.trans e2) _ fun w H3 e3 hw' => by
  obtain ⟨p, rfl, hR⟩ := hw'
  intro x dx hx hdx hne
  have eN : Ex H3 (upd (upd H3 dx (.own x)) x (.ins A.C_Beat dx [])) := (Ex.new hdx).trans (Ex.new (by rw [upd_ne (Ne.symm hne)]; exact hx))
  have e03 := (e.trans e2).trans e3
  refine ⟨x, dx, v, p, n, gs, ss, rfl, upd_same, hv.ex (e03.trans eN), hl, ex_l eN hR, by have := hg.len; omega, (fun er he => by rw [good_beat hg] at he; cases he), fun _ np H' hk hn1 f1 f2 => ⟨rfl, ?_⟩⟩
  have e' : Ex H3 H' := fun c o hc => hk c o (fun z => by rw [z, hx] at hc; cases hc) (eN c o hc)
  exact q _ H' ((e2.trans e3).trans e') ⟨⟨x, dx, np, rfl, f1, f2⟩, hv.ex (e03.trans e'), hl, hg, hn, hw⟩
def spBLsh (K : PySem.W.Frag) (A : Ads) : Sp := fun vs H Q _ => ∃ (v h : V) (k : Int) (n : Nat) (gs : List (Str × Int)) (ss : List Int), vs = [v, .int k] ∧ BeatOk K A v H h n gs ss ∧ ∀ w H', Ex H H' → BeatOk K A w H' h n gs (turnR n k ss) → Q w H' 
theorem ok_Beat_lshift (T : Txt K mg A) : FnOk P w K mg base CX0 8 A.f_Beat_lshift A.d_Beat_lshift (["self", "other"] : List Str) (spBLsh K A) := by
  refine T.F_Beat_lshift.ok sc_Beat_lshift (fun vs H Q E h => ?_) (fun cdv Ar outer s H vs Q E hr h => ?_)
  · obtain ⟨v, h, k, n, gs, ss, rfl, _⟩ := h
    rfl
  · obtain ⟨v, h, k, n, gs, ss, rfl, W, kq⟩ := h
    refine ⟨_, (pss_one (ps_ret (pe_make T.mk_Beat (ok_Beat_init T) (hr.mono (by omega)) rfl T.g_Beat (b_Beat_init T) .nil passL (pa_cons (pe_fldK (pv 0) rfl) (pa_cons (pe_lc (own := [("hour", 2)]) (g := gName 2) (tt := tYes) rfl sc_Beat_lshift.nd (pi_range1 rfl T.z_range (pa_cons (pe_fldK (pe_fldK (pv 0) rfl) rfl) pa_nil)) (blkOk_by (own := [("hour", 2)]) (N := N_Beat_lshift) (sc := defScope s_Beat_lshift) (by decide +kernel)) (fun _ _ _ _ _ => (pg_name (i := 2) sc_Beat_lshift.nd rfl (Or.inl rfl))) (fun _ _ _ _ _ => pts_nil) (fun _ _ _ _ _ => (pe_ixO (E := E0) T.M_Beat_getitem T.FI_Beat_getitem (ok_Beat_getitem T) (hr.mono (by omega)) (b_Beat_getitem T) (pAt pass0) (pv 0) (pe_op op_sub (pv 2) (pv 1)) (fun _ _ => rfl)))) pa_nil))))), ?_⟩
    obtain ⟨a, dx, p, rfl, h1, h2⟩ := id W.b
    obtain ⟨a3, dx3, p3, q3, rfl, h5, _⟩ := id W.hs
    have nb := W.nb
    try dsimp only
    refine s_retR (en_beat (K := K) (A := A) (n := n) (ss := turnR n k ss) (ev_bhouse (ev_var (i := 0) rfl) h1 T.cl_Beat T.na_Beat_house) ?_ W.hs W.gl (turn_good nb.1 W.gd) nb W.wd) fun w H1 e1 hw => kq w H1 e1 hw
    refine (er_L (el_isW (el_rngY (n := n) (fun j => V.int (ss.getD (((j : Int) - k) % (n : Int)).toNat 0)) (ea_cons (ev_hhours (ev_bhouse (ev_var (i := 0) rfl) h1 T.cl_Beat T.na_Beat_house) h5 T.cl_House T.na_House_hours) ea_nil) (by omega) (fun x => rfl) fun j H3 hj e3 => ev_bget (K := K) (A := A) (ev_var (i := 0) rfl) (W.ex e3) (ev_op (ev_var (i := 2) rfl) (ev_var (i := 1) rfl) rv_I0)) (by unfold turnR; rw [List.map_map]; rfl))).imp fun v G ⟨q, z1, z2⟩ => ⟨q, z1, sq_of z2⟩

def spMeet (A : Ads) : Sp := fun vs H Q E => ∃ (v w : V) (n m : Int) (xs ys : List Int), vs = [v, w] ∧ LotAt A.C_Lot H v n xs ∧ LotAt A.C_Lot H w m ys ∧ (1 ≤ n ∧ n ≤ 360) ∧ xs.length ≤ 360 ∧ ys.length ≤ 360 ∧
  (n ≠ m → E (.ref A.C_OtherHours) none H) ∧ (n = m → ∀ p H', H p = none → Ex H H' → H' p = some (.lst ((cntP n (prod xs ys)).map V.int)) → Q (.ref p) H')
theorem ok_meetings (T : Txt K mg A) : FnOk P w K mg base (L2.CX P w) 4 A.f_meetings A.d_meetings (["one", "other"] : List Str) (spMeet A) := by
  refine T.F_meetings.okX sc_meetings (fun vs H Q E h => ?_) (fun cdv Ar outer s H vs Q E hr h => ?_)
  · obtain ⟨v, w, n, m, xs, ys, rfl, _⟩ := h
    rfl
  · obtain ⟨v, w, n, m, xs, ys, rfl, ⟨a, dx, l, rfl, hi, hL⟩, ⟨b, dy, k, rfl, hj, hK⟩, hn, hx, hy, k1, k2⟩ := h
    refine ⟨_, (pss_cons (ps_if (pt_cmpR op_ne (pe_fldK (pv 0) rfl) (pe_fldK (pv 1) rfl) (nomark _)) (pss_one (ps_raise rfl (takes_of rfl rfl rfl rfl) (pmk_none PySem.F.excBase_ValueError T.xP_OtherHours T.g_OtherHours T.kP_OtherHours (raises_own T.bP_OtherHours T.tP_OtherHours) rfl))) pss_nil)
        (pss_cons (ps_set (i := 2) sc_meetings.nd rfl (Or.inl rfl) (pe_op op_rep (pe_lst (pa_cons pe_int pa_nil)) (pe_fldK (pv 0) rfl)))
        (pss_cons (ps_for (passes_of rfl) rfl (pi_own rfl (pv 0) T.M_Lot_iter (ok_Lot_iter T) (hr.mono (by omega)) (b_Lot_iter T)) (pg_name (i := 3) sc_meetings.nd rfl (Or.inl rfl)) (pss_one (ps_for (passes_of rfl) rfl (pi_own rfl (pv 1) T.M_Lot_iter (ok_Lot_iter T) (hr.mono (by omega)) (b_Lot_iter T)) (pg_name (i := 4) sc_meetings.nd rfl (Or.inl rfl)) (pss_cons (ps_set (i := 5) sc_meetings.nd rfl (Or.inl rfl) (pe_op op_mod (pe_op op_sub (pv 3) (pv 4)) (pe_fldK (pv 0) rfl)))
        (pss_one (ps_asg (pe_op op_add (pe_ix ix_lK (pv 2) (pv 5) (fun _ _ => rfl)) pe_int) (pg_sub (pv 2) (pv 5) set_list)))))))
        (pss_one (ps_ret (pv 2)))))), ?_⟩
    refine ⟨_, rfl, a, _, dx, _, _, rfl, hi, T.cl_Lot, T.na_Lot_hours, rfl, _, rfl, b, _, dy, _, _, rfl, hj, T.cl_Lot, T.na_Lot_hours, rfl, rfl, _, rfl, ?_⟩
    by_cases hnm : n = m
    case neg =>
      refine wayNF (fun z => hnm (V.int.inj z)) ?_
      exact k1 hnm
    subst hnm
    refine wayNT rfl ?_
    refine ⟨by show 1 ≤ sizeLine; decide, fun q hq => ⟨_, rfl, a, _, dx, _, _, rfl, Ex.new hq _ _ hi, T.cl_Lot, T.na_Lot_hours, rfl, q, n, _, rfl, rfl, upd_same, by omega, by omega, ?_, fun tk htk => ?_⟩⟩
    · show 1 * n.toNat ≤ sizeLine
      exact Nat.le_trans (show 1 * n.toNat ≤ 360 by omega) (by decide)
    have htk0 : H tk = none := fresh_back (Ex.new hq) htk
    have ex0 : ∀ o, Ex H (upd (upd H q (.lst [.int 0])) tk o) := fun o => (Ex.new hq).trans (Ex.new htk)
    rw [cntP_nil]
    try dsimp only
    refine q_forLn (K := K) (a := l) (xs := xs.map V.int) (j := 3) (ev_own (ev_var (i := 0) rfl) (ex0 _ _ _ hi) rfl) (sq_of (ex0 _ _ _ hL))
      (fun i σ' H' => ∃ xv yv bv : Option V, σ' = [some (.ref a), some (.ref b), some (.ref tk), xv, yv, bv] ∧ Ex H H' ∧ H' tk = some (.lst ((cntP n (prod (xs.take i) ys)).map V.int)))
      (fun H2 e2 => ⟨none, none, none, rfl, (ex0 _).trans e2, e2 _ _ upd_same⟩) (fun i σ' H' _ ⟨_, _, _, _, e, _⟩ => sq_of (e _ _ hL)) ?_ ?_
    · rintro i x' σ' H' hix ⟨xv, yv, bv, rfl, ex, ht⟩
      obtain ⟨x, rfl, hxi⟩ := some_int hix
      try dsimp only
      refine s_forLn (K := K) (a := k) (xs := ys.map V.int) (j := 4) (ev_own (ev_var (i := 1) rfl) (ex _ _ hj) rfl) (sq_of (ex _ _ hK))
        (fun j σ' H' => ∃ yv bv : Option V, σ' = [some (.ref a), some (.ref b), some (.ref tk), some (.int x), yv, bv] ∧ Ex H H' ∧ H' tk = some (.lst ((cntP n (prod (xs.take i) ys ++ (ys.take j).map fun y => (x, y))).map V.int)))
        (fun H2 e2 => ⟨yv, bv, rfl, ex.trans e2, by rw [e2 _ _ ht]; simp⟩) (fun i σ' H' _ ⟨_, _, _, e, _⟩ => sq_of (e _ _ hK)) ?_ ?_
      · rintro j y' σ' H' hjy ⟨yv, bv, rfl, ex, ht⟩
        obtain ⟨y, rfl, hyj⟩ := some_int hjy
        have m0 : 0 ≤ (x - y) % n := Int.emod_nonneg _ (by omega)
        have m1 : (x - y) % n < n := Int.emod_lt_of_pos _ (by omega)
        obtain ⟨d, hd⟩ : ∃ d : Nat, (x - y) % n = (d : Int) := ⟨((x - y) % n).toNat, by omega⟩
        have hdn : d < n.toNat := by omega
        refine ⟨_, rfl, _, rfl, _, _, rfl, rfl, _, rfl, a, _, dx, _, _, rfl, ex _ _ hi, T.cl_Lot, T.na_Lot_hours, rfl, _, _, rfl, rfl, (show (0 : Int) < n by omega), ?_⟩
        try dsimp only
        refine s_setL (j := d) (v := .int (((((prod (xs.take i) ys ++ (ys.take j).map fun y => (x, y))).filter fun p => decide ((p.1 - p.2) % n = (d : Int))).length : Int) + 1)) ht (ev_op (ev_op (ev_var (i := 2) rfl) (ev_var (i := 5) rfl) (rv_ixL (sq_of ht) (by rw [hd]; exact atI_nat (by rw [List.getElem?_map, cntP_get hdn]; rfl)))) ev_c rv_I0) (ev_var (i := 2) rfl) (by rw [← hd]; exact ev_var (i := 5) rfl) (by rw [List.length_map, cntP_len]; exact hdn) fun H3 e3 => ?_
        refine ⟨_, _, rfl, Ex.mut (ex.trans e3) htk0, ?_⟩
        rw [upd_same, List.take_succ, hyj, List.map_append, ← List.append_assoc]
        show some (HO.lst _) = some (HO.lst ((cntP n (_ ++ [(x, y)])).map V.int))
        rw [← cntP_set hdn hd, List.map_set]
      · rintro σ' H' ⟨yv, bv, rfl, ex, ht⟩
        refine ⟨_, _, _, rfl, ex, ?_⟩
        rw [ht, prod_take hxi, List.length_map, List.take_length]
    rintro σ' H' ⟨xv, yv, bv, rfl, ex, ht⟩
    rw [List.length_map, List.take_length] at ht
    exact ⟨_, rfl, k2 rfl tk H' htk0 ex ht⟩

theorem putC {y z : V} : putF "starts" z (putF "beat" y []) = crewF y z := by
  have h1 : ¬ ("beat" : Str) = "starts" := by decide +kernel
  show (if ("beat" : Str) = "starts" then _ else (("beat" : Str), y) :: putF "starts" z []) = _
  rw [if_neg h1]
  rfl
structure CrewOk (K : PySem.W.Frag) (A : Ads) (v : V) (H : Hp) (n : Nat) (gs : List (Str × Int)) (ss xs : List Int) : Prop where
  at_ : ∃ a dx b s h, v = .ref a ∧ H a = some (.ins A.C_Crew dx (crewF b s)) ∧ BeatOk K A b H h n gs ss ∧ LotIs A.C_Lot s H (n : Int) xs
theorem CrewOk.ex {K : PySem.W.Frag} {A : Ads} {v : V} {H H' : Hp} {n : Nat} {gs : List (Str × Int)} {ss xs : List Int} (e : Ex H H') (q : CrewOk K A v H n gs ss xs) : CrewOk K A v H' n gs ss xs := by
  obtain ⟨a, dx, b, s, h, rfl, h1, h2, h3⟩ := q.at_
  exact ⟨a, dx, b, s, h, rfl, e _ _ h1, h2.ex e, h3.ex e⟩
def spCrew (K : PySem.W.Frag) (A : Ads) : Sp := fun vs H Q E => ∃ (x dx : Addr) (b s h : V) (n : Nat) (m : Int) (gs : List (Str × Int)) (ss xs : List Int), vs = [.ref x, b, s] ∧ H x = some (.ins A.C_Crew dx []) ∧ BeatOk K A b H h n gs ss ∧ LotIs A.C_Lot s H m xs ∧
  (m ≠ (n : Int) → ∀ H', Ex H H' → E (.ref A.C_OtherHours) none H') ∧ (m = (n : Int) → ∀ H', (∀ c o, c ≠ x → H c = some o → H' c = some o) → H' x = some (.ins A.C_Crew dx (crewF b s)) → Q .non H')
theorem ok_Crew_init (T : Txt K mg A) : FnOk P w K mg base (L2.CX P w) 4 A.f_Crew_init A.d_Crew_init (["self", "beat", "starts"] : List Str) (spCrew K A) := by
  refine T.F_Crew_init.okX sc_Crew_init (fun vs H Q E h => ?_) (fun cdv Ar outer s H vs Q E hr h => ?_)
  · obtain ⟨x, dx, b, s, h, n, m, gs, ss, xs, rfl, _⟩ := h
    rfl
  · obtain ⟨x, dx, b, s, h, n, m, gs, ss, xs, rfl, hx, W, hL, k1, k2⟩ := h
    refine ⟨_, (pss_cons (ps_if (pt_cmpR op_ne (pe_fldK (pv 2) rfl) (pe_fldK (pe_fldK (pv 1) rfl) rfl) (nomark _)) (pss_one (ps_raise rfl (takes_of rfl rfl rfl rfl) (pmk_none PySem.F.excBase_ValueError T.xP_OtherHours T.g_OtherHours T.kP_OtherHours (raises_own T.bP_OtherHours T.tP_OtherHours) rfl))) pss_nil)
        (pss_cons (ps_fld (pv 0) (pv 1) rfl)
        (pss_one (ps_fld (pv 0) (pv 2) rfl)))), ?_⟩
    obtain ⟨ba, bdx, bp, rfl, h1, h2⟩ := id W.b
    obtain ⟨a3, dx3, p3, q3, rfl, h5, _⟩ := id W.hs
    obtain ⟨sa, sdx, l, rfl, g1, g2⟩ := id hL.at_
    try dsimp only
    refine q_when (b := !decide (m = (n : Int))) (et_test (ev_is (ev_op (ev_hours (K := K) (ev_var (i := 2) rfl) g1 T.cl_Lot T.na_Lot_hours) (ev_hhours (ev_bhouse (ev_var (i := 1) rfl) h1 T.cl_Beat T.na_Beat_house) h5 T.cl_House T.na_House_hours) (rv_ne rfl)) (by rw [dec_ii]))) (fun hb H1 e1 => k1 (by simpa using hb) H1 e1) (fun hb H1 e1 => ?_)
    have hb : m = (n : Int) := by simpa using hb
    have hx1 := e1 _ _ hx
    refine ⟨_, rfl, _, rfl, x, _, dx, [], rfl, hx1, T.cl_Crew, T.na_Crew_beat, by decide, ?_⟩
    try dsimp only
    refine ⟨_, rfl, _, rfl, x, _, dx, _, rfl, upd_same, T.cl_Crew, T.na_Crew_starts, by show 1 < 1000; decide, ?_⟩
    refine k2 hb _ (fun c o hc ho => ?_) ?_
    · rw [upd_ne hc, upd_ne hc]
      exact e1 _ _ ho
    · rw [upd_same, putC]

theorem beaF_lot {h s : V} : List.lookup ("lot" : Str) (beaF h s) = none := by
  have h1 : (("lot" : Str) == "house") = false := by decide +kernel
  have h2 : (("lot" : Str) == "steps") = false := by decide +kernel
  unfold beaF
  rw [List.lookup_cons, h1, List.lookup_cons, h2]
  rfl
theorem er_blot {K : PySem.W.Frag} {A : Ads} {E : XK} {σ : L2.St} {H : Hp} {ta tb : TE} {h : V} {g : Int} {n : Nat} {gs : List (Str × Int)} {ss : List Int} (h1 : EvR ta σ H fun v G => BeatOk K A v G h n gs ss) (h2 : Ev tb σ H (.int g)) (hg : -1 ≤ g ∧ g < (gs.length : Int)) : EvR (tMeth A.C_Beat "lot" (spBLot K A) [] E ta (tCons tb tNil)) σ H fun w G => LotIs A.C_Lot w G (n : Int) (lotOf n ss g) := fun H1 e Q q => h1 H1 e _ fun v H2 e2 hv => by
  obtain ⟨a, dx, p, rfl, g1, _⟩ := id hv.b
  refine ⟨a, dx, _, rfl, g1, beaF_lot, h2 H2 (e.trans e2) _ fun H3 e3 => ⟨.ref a, h, g, n, gs, ss, rfl, hv.ex e3, fun hc => absurd hg hc, fun _ w H' e' hw => q w H' ((e2.trans e3).trans e') hw⟩⟩

theorem mem_lotOf {n : Nat} {ss : List Int} {g z : Int} : z ∈ lotOf n ss g ↔ (0 ≤ z ∧ z < (n : Int)) ∧ ss.getD z.toNat 0 = g := by
  unfold lotOf
  rw [mem_hrs]
  simp [and_assoc]
theorem ev_cbeat {K : PySem.W.Frag} {C : Addr} {te : TE} {σ : L2.St} {H : Hp} {a dx : Addr} {b s : V} (he : Ev te σ H (.ref a)) (hi : H a = some (.ins C dx (crewF b s))) (c : Cls K C) (na : NoAttr K C "beat") : Ev (tFld K te "beat") σ H b := fun H1 e Q q' =>
  he H1 e _ fun H2 e2 => ⟨a, _, dx, _, _, rfl, e2 _ _ (e _ _ hi), c, na, rfl, q' H2 e2⟩
theorem ev_cstarts {K : PySem.W.Frag} {C : Addr} {te : TE} {σ : L2.St} {H : Hp} {a dx : Addr} {b s : V} (he : Ev te σ H (.ref a)) (hi : H a = some (.ins C dx (crewF b s))) (c : Cls K C) (na : NoAttr K C "starts") : Ev (tFld K te "starts") σ H s := fun H1 e Q q' =>
  he H1 e _ fun H2 e2 => ⟨a, _, dx, _, _, rfl, e2 _ _ (e _ _ hi), c, na, rfl, q' H2 e2⟩
def rowL (n : Nat) (ss xs : List Int) (g : Int) : List Int := fitL (n : Int) (lotOf n ss g) xs
def spRow (K : PySem.W.Frag) (A : Ads) : Sp := fun vs H Q E => ∃ (v : V) (g : Int) (n : Nat) (gs : List (Str × Int)) (ss xs : List Int), vs = [v, .int g] ∧ CrewOk K A v H n gs ss xs ∧ (¬ (0 ≤ g ∧ g < (gs.length : Int)) → ∀ H', Ex H H' → E (.ref A.C_NoPlace) none H') ∧
  (0 ≤ g ∧ g < (gs.length : Int) → ∀ p H', H p = none → Ex H H' → H' p = some (.lst ((rowL n ss xs g).map V.int)) → Q (.ref p) H')
theorem ok_Crew_row (T : Txt K mg A) : FnOk P w K mg base (L2.CX P w) 9 A.f_Crew_row A.d_Crew_row (["self", "gate"] : List Str) (spRow K A) := by
  refine T.F_Crew_row.okX sc_Crew_row (fun vs H Q E h => ?_) (fun cdv Ar outer s H vs Q E hr h => ?_)
  · obtain ⟨v, g, n, gs, ss, xs, rfl, _⟩ := h
    rfl
  · obtain ⟨v, g, n, gs, ss, xs, rfl, W, k1, k2⟩ := h
    refine ⟨_, (pss_cons (ps_if (pt_not (pt_val (pe_call (ok_is_gate T) (hr.mono (by omega)) rfl T.g_is_gate T.k_is_gate (b_is_gate T) .nil pass0 (pa_cons (pe_fldK (pe_fldK (pv 0) rfl) rfl) (pa_cons (pv 1) pa_nil))))) (pss_one (ps_raise rfl (takes_of rfl rfl rfl rfl) (pmk_none PySem.F.excBase_ValueError T.xP_NoPlace T.g_NoPlace T.kP_NoPlace (raises_own T.bP_NoPlace T.tP_NoPlace) rfl))) pss_nil)
        (pss_one (ps_ret (pe_call (ok_meetings T) (hr.mono (by omega)) rfl T.g_meetings T.k_meetings (b_meetings T) .nil (passes_call (takes_of rfl rfl rfl rfl) (fun _ _ _ _ h => h)) (pa_cons (pe_meth (pe_fldK (pv 0) rfl) T.cl_Beat T.M_Beat_lot (ok_Beat_lot T) (hr.mono (by omega)) (b_Beat_lot T) .nil (passes_call (takes_of rfl rfl rfl rfl) (fun _ _ _ _ h => h)) (pa_cons (pv 1) pa_nil)) (pa_cons (pe_unS (un_negO (E := fun _ => E0) T.M_Lot_neg (ok_Lot_neg T) (hr.mono (by omega)) (b_Lot_neg T) (pAt pass0)) (pe_fldK (pv 0) rfl)) pa_nil)))))), ?_⟩
    obtain ⟨a, dx, b, s, h, rfl, h1, hB, hL⟩ := id W.at_
    obtain ⟨ba, bdx, bp, rfl, h2, h3⟩ := id hB.b
    obtain ⟨a3, dx3, p3, q3, rfl, h5, _⟩ := id hB.hs
    have nb := hB.nb
    have gl := hB.gl
    try dsimp only
    refine q_when (b := !decide (0 ≤ g ∧ g < (gs.length : Int))) (et_not (et_B (ev_call (z := .bl (decide (0 ≤ g ∧ g < (gs.length : Int)))) (ea_cons (ev_bhouse (ev_cbeat (ev_var (i := 0) rfl) h1 T.cl_Crew T.na_Crew_beat) h2 T.cl_Beat T.na_Beat_house) (ea_cons (ev_var (i := 1) rfl) ea_nil)) fun H2 e2 Q q _ => ⟨.ref a3, n, g, gs, rfl, hB.hs.ex e2, gl, fun H' e' => q H' e'⟩))) (fun hb H1 e1 => k1 (fun z => by rw [decide_eq_true z] at hb; cases hb) H1 e1) (fun hb H1 e1 => ?_)
    have hb : 0 ≤ g ∧ g < (gs.length : Int) := by simpa using hb
    have h11 := e1 _ _ h1
    refine (er_blot (K := K) (A := A) (er_ev (ev_cbeat (ev_var (i := 0) rfl) h11 T.cl_Crew T.na_Crew_beat) fun G e => hB.ex (e1.trans e)) (ev_var (i := 1) rfl) (by omega)) H1 (Ex.refl _) _ fun w H2 e2 hw => (er_lot1 (er_ev (ev_cstarts (ev_var (i := 0) rfl) h11 T.cl_Crew T.na_Crew_starts) fun G e => hL.ex (e1.trans e))) H2 e2 _ fun u H3 e3 hu => ?_
    have hw3 := hw.ex e3
    have e03 := e1.trans (e2.trans e3)
    exact ⟨w, u, (n : Int), (n : Int), lotOf n ss g, negL (n : Int) xs, rfl, hw3.at_, hu.at_, by omega, by have := hw3.len; omega, by have := hu.len; unfold negL; omega, fun z => absurd rfl z, fun _ p H4 hp e4 h4 => k2 hb p H4 (fresh_back e03 hp) (e03.trans e4) (by rw [h4, cnt_prog (by omega) hw3.asc hL.asc]; rfl)⟩

def workL (n : Nat) (ss : List Int) (z : Int) : List Int := hrs (n : Int) fun y => decide (0 ≤ ss.getD ((y - z) % (n : Int)).toNat 0)
theorem ev_hasN {A : Ads} {ty tv : TE} {σ : L2.St} {H : Hp} {v : V} {z n : Int} {xs : List Int} (hy : Ev ty σ H (.int z)) (hv : Ev tv σ H v) (hL : LotIs A.C_Lot v H n xs) (sp : Sp) (hsp : ∀ H1 Q E, Ex H H1 → (∀ H', Ex H1 H' → Q (.bl (decide (z % n ∈ xs))) H') → sp [v, .int z] H1 Q E) (E : L2.St → XK) : Ev (tOpS (rOwnNi A.C_Lot sp E) ty tv) σ H (.bl (!decide (z % n ∈ xs))) := fun H1 e Q q =>
  hy H1 e _ fun H2 e2 => hv H2 (e.trans e2) _ fun H3 e3 => by
    have e03 := (e.trans e2).trans e3
    obtain ⟨a, dx, l, rfl, h1, _⟩ := id (hL.ex e03).at_
    exact ⟨a, dx, _, rfl, h1, hsp H3 _ _ e03 fun H' e' => ⟨_, rfl, q H' ((e2.trans e3).trans e')⟩⟩
theorem work_eq {n : Nat} {ss : List Int} {z : Int} (hn : 1 ≤ n) (hl : ss.length = n) (hv : ∀ x ∈ ss, -1 ≤ x) : turnL (n : Int) z (hrs (n : Int) fun y => !decide (y ∈ lotOf n ss (-1))) = workL n ss z := by
  unfold turnL workL
  refine hrs_congr fun y y0 y1 => ?_
  have m0 := Int.emod_nonneg (y - z) (b := (n : Int)) (by omega)
  have m1 := Int.emod_lt_of_pos (y - z) (b := (n : Int)) (by omega)
  have hm : ss.getD ((y - z) % (n : Int)).toNat 0 ∈ ss := in_getD (by omega)
  have := hv _ hm
  rw [decide_eq_decide, mem_hrs]
  simp only [mem_lotOf, Bool.not_eq_true', decide_eq_false_iff_not]
  constructor
  · rintro ⟨_, c⟩
    by_cases d : ss.getD ((y - z) % (n : Int)).toNat 0 = -1
    · exact absurd ⟨⟨m0, m1⟩, d⟩ c
    · omega
  · intro c
    exact ⟨⟨m0, m1⟩, fun d => by omega⟩
def spWorking (K : PySem.W.Frag) (A : Ads) : Sp := fun vs H Q E => ∃ (v : V) (z : Int) (n : Nat) (gs : List (Str × Int)) (ss xs : List Int), vs = [v, .int z] ∧ CrewOk K A v H n gs ss xs ∧ (¬ z % (n : Int) ∈ xs → ∀ H', Ex H H' → E (.ref A.C_NoPlace) none H') ∧
  (z % (n : Int) ∈ xs → ∀ w H', Ex H H' → LotIs A.C_Lot w H' (n : Int) (workL n ss z) → Q w H')
theorem ok_Crew_working (T : Txt K mg A) : FnOk P w K mg base (L2.CX P w) 9 A.f_Crew_working A.d_Crew_working (["self", "start"] : List Str) (spWorking K A) := by
  refine T.F_Crew_working.okX sc_Crew_working (fun vs H Q E h => ?_) (fun cdv Ar outer s H vs Q E hr h => ?_)
  · obtain ⟨v, z, n, gs, ss, xs, rfl, _⟩ := h
    rfl
  · obtain ⟨v, z, n, gs, ss, xs, rfl, W, k1, k2⟩ := h
    obtain ⟨tc_REST, gc_REST⟩ := T.c_REST
    refine ⟨_, (pss_cons (ps_if (pt_cmpS (op_ownNi (E := fun _ => E0) T.M_Lot_contains (ok_Lot_contains T) (hr.mono (by omega)) (b_Lot_contains T) (pAt pass0)) (pv 1) (pe_fldK (pv 0) rfl) (by with_unfolding_all rfl)) (pss_one (ps_raise rfl (takes_of rfl rfl rfl rfl) (pmk_none PySem.F.excBase_ValueError T.xP_NoPlace T.g_NoPlace T.kP_NoPlace (raises_own T.bP_NoPlace T.tP_NoPlace) rfl))) pss_nil)
        (pss_one (ps_ret (pe_opS (op_ownJ (op := .LShift) (E := fun _ => E0) T.op_Lot T.D_Lot_lshift T.I_Lot_lshift (ok_Lot_lshift T) (hr.mono (by omega)) (b_Lot_lshift T) (pAt pass0)) (pe_unS (un_invO (E := fun _ => E0) T.M_Lot_invert (ok_Lot_invert T) (hr.mono (by omega)) (b_Lot_invert T) (pAt pass0)) (pe_meth (pe_fldK (pv 0) rfl) T.cl_Beat T.M_Beat_lot (ok_Beat_lot T) (hr.mono (by omega)) (b_Beat_lot T) .nil (passes_call (takes_of rfl rfl rfl rfl) (fun _ _ _ _ h => h)) (pa_cons (pe_glob (v := .int (-1)) rfl gc_REST ⟨_, rfl⟩) pa_nil))) (pv 1))))), ?_⟩
    obtain ⟨a, dx, b, s, h, rfl, h1, hB, hL⟩ := id W.at_
    have nb := hB.nb
    try dsimp only
    refine q_when (b := !decide (z % (n : Int) ∈ xs)) (et_test (ev_hasN (A := A) (ev_var (i := 1) rfl) (ev_cstarts (ev_var (i := 0) rfl) h1 T.cl_Crew T.na_Crew_starts) hL (spLotHas A) (fun H1 Q E e q => ⟨s, z, (n : Int), xs, rfl, hL.ex e, q⟩) _)) (fun hb H1 e1 => k1 (by simpa using hb) H1 e1) (fun hb H1 e1 => ?_)
    have hb : z % (n : Int) ∈ xs := by simpa using hb
    have h11 := e1 _ _ h1
    refine s_retR (er_lotI (er_lot1 (er_blot (K := K) (A := A) (er_ev (ev_cbeat (ev_var (i := 0) rfl) h11 T.cl_Crew T.na_Crew_beat) fun G e => hB.ex (e1.trans e)) ev_c (by omega))) (ev_var (i := 1) rfl)) fun w H2 e2 hw => k2 hb w H2 (e1.trans e2) ?_
    rw [← work_eq nb.1 hB.gd.len fun x hx => (hB.gd.val x hx).1]
    exact hw

def spCrewLen (K : PySem.W.Frag) (A : Ads) : Sp := fun vs H Q _ => ∃ (v : V) (n : Nat) (gs : List (Str × Int)) (ss xs : List Int), vs = [v] ∧ CrewOk K A v H n gs ss xs ∧ ∀ H', Ex H H' → Q (.int (xs.length : Int)) H' 
theorem ok_Crew_len (T : Txt K mg A) : FnOk P w K mg base CX0 3 A.f_Crew_len A.d_Crew_len (["self"] : List Str) (spCrewLen K A) := by
  refine T.F_Crew_len.ok sc_Crew_len (fun vs H Q E h => ?_) (fun cdv Ar outer s H vs Q E hr h => ?_)
  · obtain ⟨v, n, gs, ss, xs, rfl, _⟩ := h
    rfl
  · obtain ⟨v, n, gs, ss, xs, rfl, W, k⟩ := h
    refine ⟨_, (pss_one (ps_ret (pe_callB (call_lenO (E := E0) T.M_Lot_len (ok_Lot_len T) (hr.mono (by omega)) (b_Lot_len T) (pAt pass0)) (by rfl) T.z_len (by decide +kernel) (pa_cons (pe_fldK (pv 0) rfl) pa_nil)))), ?_⟩
    obtain ⟨a, dx, b, s, h, rfl, h1, hB, hL⟩ := id W.at_
    try dsimp only
    exact s_ret (ev_lotLen (er_ev (ev_cstarts (ev_var (i := 0) rfl) h1 T.cl_Crew T.na_Crew_starts) fun G e => hL.ex e)) fun H1 e1 => k H1 e1

def BUn (K : PySem.W.Frag) (A : Ads) (H : Hp) (n : Nat) (gs : List (Str × Int)) (ss : List Int) (w : V) (b : Bool) : Prop := (∃ (h' : V) (m : Nat) (fs : List (Str × Int)) (ts : List Int), BeatOk K A w H h' m fs ts ∧ decide ((n = m ∧ gs = fs) ∧ ss = ts) = b) ∨ (∃ xs, (∃ p, w = .ref p ∧ SqT K H p xs) ∧ b = false)
theorem BUn.ex {K : PySem.W.Frag} {A : Ads} {H H' : Hp} {n : Nat} {gs : List (Str × Int)} {ss : List Int} {w : V} {b : Bool} (e : Ex H H') : BUn K A H n gs ss w b → BUn K A H' n gs ss w b
  | .inl ⟨h', m, fs, ts, h1, h2⟩ => .inl ⟨h', m, fs, ts, h1.ex e, h2⟩
  | .inr ⟨xs, ⟨p, h1, h2⟩, h3⟩ => .inr ⟨xs, ⟨p, h1, ex_t e h2⟩, h3⟩
theorem nf_ofB {K : PySem.W.Frag} {C : Addr} {t : Value} (h : PySem.W.subIn K t (.ref C) = some false) : PySem.W.notFirst K C t = true := by
  unfold PySem.W.notFirst
  simp [h]
theorem beq_sp {K : PySem.W.Frag} {A : Ads} {H : Hp} {Q : VK} {E : XK} {v w h : V} {n : Nat} {gs : List (Str × Int)} {ss : List Int} {b : Bool} (W : BeatOk K A v H h n gs ss) (hw : BUn K A H n gs ss w b) (q : ∀ H', Ex H H' → Q (.bl b) H') : spBEq K A [v, w] H Q E := by
  refine ⟨v, w, h, n, gs, ss, rfl, W, ?_⟩
  rcases hw with ⟨h', m, fs, ts, z1, z2⟩ | ⟨xs, z1, z2⟩
  · exact .inl ⟨h', m, fs, ts, z1, fun H' e => by rw [z2]; exact q H' e⟩
  · subst z2
    exact .inr ⟨xs, z1, q⟩
theorem bun_ty {K : PySem.W.Frag} {A : Ads} {H : Hp} {n : Nat} {gs : List (Str × Int)} {ss : List Int} {w : V} {b : Bool} (ty : ∀ (H : Hp) (a dx : Addr) (fs : List (Str × V)), H a = some (.ins A.C_Beat dx fs) → TyX K H (.ref a) (.ref A.C_Beat)) (si : PySem.W.subIn K (.type "tuple") (.ref A.C_Beat) = some false) (h : BUn K A H n gs ss w b) : ∃ tb, TyX K H w tb ∧ PySem.W.notFirst K A.C_Beat tb = true := by
  rcases h with ⟨h', m, fs, ts, z1, _⟩ | ⟨xs, ⟨p, rfl, z1⟩, _⟩
  · obtain ⟨b, dy, p, rfl, g1, _⟩ := id z1.b
    exact ⟨_, ty H b dy _ g1, by unfold PySem.W.notFirst; simp⟩
  · exact ⟨_, tyx_t z1, nf_ofB si⟩
theorem ev_beq {K : PySem.W.Frag} {A : Ads} {E : L2.St → XK} {ta tb : TE} {σ : L2.St} {H : Hp} {h : V} {n : Nat} {gs : List (Str × Int)} {ss : List Int} {b : Bool} (ty : ∀ (H : Hp) (a dx : Addr) (fs : List (Str × V)), H a = some (.ins A.C_Beat dx fs) → TyX K H (.ref a) (.ref A.C_Beat)) (si : PySem.W.subIn K (.type "tuple") (.ref A.C_Beat) = some false) (h1 : EvR ta σ H fun v G => BeatOk K A v G h n gs ss) (h2 : EvR tb σ H fun w G => BUn K A G n gs ss w b) : Ev (tOpS (rOwnC K A.C_Beat (spBEq K A) E) ta tb) σ H (.bl b) := fun H1 e Q q => h1 H1 e _ fun v H2 e2 hv => h2 H2 (e.trans e2) _ fun w H3 e3 hw => by
  obtain ⟨t, t1, t2⟩ := bun_ty ty si hw
  have hv3 := hv.ex e3
  obtain ⟨a, dx, p, rfl, g1, _⟩ := id hv3.b
  exact ⟨a, dx, _, t, rfl, g1, t1, t2, beq_sp hv3 hw fun H' e' => q H' ((e2.trans e3).trans e')⟩
theorem ev_bne {K : PySem.W.Frag} {A : Ads} {E : L2.St → XK} {ta tb : TE} {σ : L2.St} {H : Hp} {h : V} {n : Nat} {gs : List (Str × Int)} {ss : List Int} {b : Bool} (ty : ∀ (H : Hp) (a dx : Addr) (fs : List (Str × V)), H a = some (.ins A.C_Beat dx fs) → TyX K H (.ref a) (.ref A.C_Beat)) (si : PySem.W.subIn K (.type "tuple") (.ref A.C_Beat) = some false) (h1 : EvR ta σ H fun v G => BeatOk K A v G h n gs ss) (h2 : EvR tb σ H fun w G => BUn K A G n gs ss w b) : Ev (tOpS (rOwnNe K A.C_Beat (spBEq K A) E) ta tb) σ H (.bl (!b)) := fun H1 e Q q => h1 H1 e _ fun v H2 e2 hv => h2 H2 (e.trans e2) _ fun w H3 e3 hw => by
  obtain ⟨t, t1, t2⟩ := bun_ty ty si hw
  have hv3 := hv.ex e3
  obtain ⟨a, dx, p, rfl, g1, _⟩ := id hv3.b
  exact ⟨a, dx, _, t, rfl, g1, t1, t2, beq_sp hv3 hw fun H' e' => ⟨b, rfl, q H' ((e2.trans e3).trans e')⟩⟩

theorem nf_of {K : PySem.W.Frag} {C : Addr} {t : Value} (h : PySem.W.subIn K t (.ref C) = some false) : PySem.W.notFirst K C t = true := by
  unfold PySem.W.notFirst
  simp [h]
theorem nf_self {K : PySem.W.Frag} {C : Addr} : PySem.W.notFirst K C (.ref C) = true := by
  unfold PySem.W.notFirst
  simp
abbrev TyL (K : PySem.W.Frag) (A : Ads) : Prop := ∀ (H : Hp) (a dx : Addr) (fs : List (Str × V)), H a = some (.ins A.C_Lot dx fs) → TyX K H (.ref a) (.ref A.C_Lot)
theorem ev_eqLL {K : PySem.W.Frag} {A : Ads} {E : L2.St → XK} {ta tb : TE} {σ : L2.St} {H : Hp} {n m : Int} {xs ys : List Int} (ty : TyL K A) (ha : EvR ta σ H fun v H1 => LotIs A.C_Lot v H1 n xs) (hb : EvR tb σ H fun v H1 => LotIs A.C_Lot v H1 m ys) {z : Bool} (hz : decide (n = m ∧ xs = ys) = z) :
    Ev (tOpS (rOwnC K A.C_Lot (spLotEqK K A) E) ta tb) σ H (.bl z) := fun H1 e Q q =>
  ha H1 e _ fun v H2 e2 hv => hb H2 (e.trans e2) _ fun w H3 e3 hw => by
    have hv3 := hv.ex e3
    obtain ⟨a, dx, l, rfl, h1, _⟩ := id hv3.at_
    obtain ⟨b, dy, l', rfl, g1, _⟩ := id hw.at_
    exact ⟨a, dx, _, _, rfl, h1, ty H3 b dy _ g1, nf_self, _, _, n, xs, rfl, hv3, .inl ⟨m, ys, hw, fun H' e' => by rw [hz]; exact q H' ((e2.trans e3).trans e')⟩⟩

theorem ev_isNot {K : PySem.W.Frag} {te : TE} {σ : L2.St} {H : Hp} {b B C : Addr} (h : Ev te σ H (.ref b)) (ty : ∀ H1, Ex H H1 → TyX K H1 (.ref b) (.ref B)) (hk : PySem.W.kitOne K (.ref B) (.ref C) = some false) : Ev (tCB (rIsi K) (tCons te (tCons (tC (.ref C)) tNil))) σ H (.bl false) := fun H1 e Q q => h H1 e _ fun H2 e2 => ⟨_, _, _, _, false, rfl, .own _, ty H2 (e.trans e2), hk, q H2 e2⟩
def spCEq (K : PySem.W.Frag) (A : Ads) : Sp := fun vs H Q _ => ∃ (v w : V) (n : Nat) (gs : List (Str × Int)) (ss xs : List Int), vs = [v, w] ∧ CrewOk K A v H n gs ss xs ∧
  ((∃ (m : Nat) (fs : List (Str × Int)) (ts ys : List Int), CrewOk K A w H m fs ts ys ∧ ∀ H', Ex H H' → Q (.bl (decide (((n = m ∧ gs = fs) ∧ ss = ts) ∧ xs = ys))) H') ∨ ((∃ b dx bf, w = .ref b ∧ H b = some (.ins A.C_Beat dx bf)) ∧ ∀ H', Ex H H' → Q (.bl false) H'))
theorem ok_Crew_eq (T : Txt K mg A) : FnOk P w K mg base CX0 6 A.f_Crew_eq A.d_Crew_eq (["self", "other"] : List Str) (spCEq K A) := by
  refine T.F_Crew_eq.ok sc_Crew_eq (fun vs H Q E h => ?_) (fun cdv Ar outer s H vs Q E hr h => ?_)
  · obtain ⟨v, w, n, gs, ss, xs, rfl, _⟩ := h
    rfl
  · obtain ⟨v, w, n, gs, ss, xs, rfl, W, hor⟩ := h
    refine ⟨_, (pss_one (ps_ret (pe_and (pe_callB isi_K (by rfl) T.z_isinstance (by decide +kernel) (pa_cons (pv 1) (pa_cons (pe_glob (v := .ref A.C_Crew) rfl T.g_Crew rfl) pa_nil))) (pe_and (pe_cmpS (op_ownC (op := .Eq) (E := fun _ => E0) (fun _ _ => rfl) T.M_Beat_eq (ok_Beat_eq T) (hr.mono (by omega)) (b_Beat_eq T) (pAt pass0)) (pe_fldK (pv 0) rfl) (pe_fldK (pv 1) rfl) (nomark _)) (pe_one (pe_cmpS (op_ownC (op := .Eq) (E := fun _ => E0) (fun _ _ => rfl) T.M_Lot_eq (ok_Lot_eq T) (hr.mono (by omega)) (b_Lot_eq T) (pAt pass0)) (pe_fldK (pv 0) rfl) (pe_fldK (pv 1) rfl) (nomark _))))))), ?_⟩
    obtain ⟨a, dx, b, s, h, rfl, h1, hB, hL⟩ := id W.at_
    rcases hor with ⟨m, fs, ts, ys, W2, k⟩ | ⟨⟨c, dy, bf, rfl, hc⟩, k⟩
    · obtain ⟨c, dy, b', s', h', rfl, g1, gB, gL⟩ := id W2.at_
      have fin : (true && (decide ((n = m ∧ gs = fs) ∧ ss = ts) && decide ((n : Int) = (m : Int) ∧ xs = ys))) = decide (((n = m ∧ gs = fs) ∧ ss = ts) ∧ xs = ys) := by
        rw [Bool.true_and, ← Bool.decide_and, decide_eq_decide]
        constructor
        · rintro ⟨q1, q2, q3⟩
          exact ⟨q1, q3⟩
        · rintro ⟨q1, q3⟩
          exact ⟨q1, by rw [q1.1.1], q3⟩
      try dsimp only
      exact s_ret (v := .bl (decide (((n = m ∧ gs = fs) ∧ ss = ts) ∧ xs = ys))) (ev_is (ev_andV (a := true) (b := decide ((n = m ∧ gs = fs) ∧ ss = ts) && decide ((n : Int) = (m : Int) ∧ xs = ys)) (ev_isOwn (K := K) (ev_var (i := 1) rfl) fun H1 e => T.ty_Crew H1 c dy _ (e _ _ g1)) fun _ => ev_andV (ev_beq (K := K) (A := A) (b := decide ((n = m ∧ gs = fs) ∧ ss = ts)) T.ty_Beat T.si_tuple (er_ev (ev_cbeat (ev_var (i := 0) rfl) h1 T.cl_Crew T.na_Crew_beat) fun G e => hB.ex e) (er_ev (ev_cbeat (ev_var (i := 1) rfl) g1 T.cl_Crew T.na_Crew_beat) fun G e => .inl ⟨h', m, fs, ts, gB.ex e, rfl⟩)) fun _ =>
        ev_eqLL (K := K) (A := A) T.ty_Lot (er_ev (ev_cstarts (ev_var (i := 0) rfl) h1 T.cl_Crew T.na_Crew_starts) fun G e => hL.ex e) (er_ev (ev_cstarts (ev_var (i := 1) rfl) g1 T.cl_Crew T.na_Crew_starts) fun G e => gL.ex e) rfl) (by rw [fin])) fun H1 e1 => k H1 e1
    · try dsimp only
      exact s_ret (v := .bl false) (ev_andV (a := false) (b := false) (ev_isNot (K := K) (ev_var (i := 1) rfl) (fun H1 e => T.ty_Beat H1 c dy _ (e _ _ hc)) T.kit_Beat_Crew) fun z => Bool.noConfusion z) fun H1 e1 => k H1 e1

theorem er_crew {K : PySem.W.Frag} {A : Ads} {E : XK} {σ : L2.St} {H : Hp} {t1 t2 : TE} {n : Nat} {gs : List (Str × Int)} {ss xs : List Int} (h1 : EvR t1 σ H fun v G => ∃ h, BeatOk K A v G h n gs ss) (h2 : EvR t2 σ H fun v G => LotIs A.C_Lot v G (n : Int) xs) : EvR (tMake A.C_Crew (spCrew K A) [] E (tCons t1 (tCons t2 tNil))) σ H fun w G => CrewOk K A w G n gs ss xs := fun H1 e Q q => h1 H1 e _ fun b H2 e2 hb => h2 H2 (e.trans e2) _ fun s H3 e3 hs => by
  obtain ⟨h, hb⟩ := hb
  intro x dx hx hdx hne
  have eN : Ex H3 (upd (upd H3 dx (.own x)) x (.ins A.C_Crew dx [])) := (Ex.new hdx).trans (Ex.new (by rw [upd_ne (Ne.symm hne)]; exact hx))
  refine ⟨x, dx, b, s, h, n, (n : Int), gs, ss, xs, rfl, upd_same, (hb.ex e3).ex eN, hs.ex eN, fun z => absurd rfl z, fun _ H' hk f1 => ⟨rfl, ?_⟩⟩
  have e' : Ex H3 H' := fun c o hc => hk c o (fun z => by rw [z, hx] at hc; cases hc) (eN c o hc)
  exact q _ H' ((e2.trans e3).trans e') ⟨⟨x, dx, b, s, h, rfl, f1, (hb.ex e3).ex e', hs.ex e'⟩⟩
def spCLsh (K : PySem.W.Frag) (A : Ads) : Sp := fun vs H Q _ => ∃ (v : V) (k : Int) (n : Nat) (gs : List (Str × Int)) (ss xs : List Int), vs = [v, .int k] ∧ CrewOk K A v H n gs ss xs ∧ ∀ w H', Ex H H' → CrewOk K A w H' n gs ss (turnL (n : Int) k xs) → Q w H' 
theorem ok_Crew_lshift (T : Txt K mg A) : FnOk P w K mg base CX0 9 A.f_Crew_lshift A.d_Crew_lshift (["self", "other"] : List Str) (spCLsh K A) := by
  refine T.F_Crew_lshift.ok sc_Crew_lshift (fun vs H Q E h => ?_) (fun cdv Ar outer s H vs Q E hr h => ?_)
  · obtain ⟨v, k, n, gs, ss, xs, rfl, _⟩ := h
    rfl
  · obtain ⟨v, k, n, gs, ss, xs, rfl, W, kq⟩ := h
    refine ⟨_, (pss_one (ps_ret (pe_make T.mk_Crew (ok_Crew_init T) (hr.mono (by omega)) rfl T.g_Crew (b_Crew_init T) .nil passL (pa_cons (pe_fldK (pv 0) rfl) (pa_cons (pe_opS (op_ownJ (op := .LShift) (E := fun _ => E0) T.op_Lot T.D_Lot_lshift T.I_Lot_lshift (ok_Lot_lshift T) (hr.mono (by omega)) (b_Lot_lshift T) (pAt pass0)) (pe_fldK (pv 0) rfl) (pv 1)) pa_nil))))), ?_⟩
    obtain ⟨a, dx, b, s, h, rfl, h1, hB, hL⟩ := id W.at_
    try dsimp only
    exact s_retR (er_crew (K := K) (A := A) (er_ev (ev_cbeat (ev_var (i := 0) rfl) h1 T.cl_Crew T.na_Crew_beat) fun G e => ⟨h, hB.ex e⟩) (er_lotI (er_ev (ev_cstarts (ev_var (i := 0) rfl) h1 T.cl_Crew T.na_Crew_starts) fun G e => hL.ex e) (ev_var (i := 1) rfl))) fun w H1 e1 hw => kq w H1 e1 hw

def sp_cell (K : PySem.W.Frag) : Sp := fun vs H Q _ => ∃ (a : Addr) (ns : List Int) (k : Nat), vs = [.ref a, .int (k : Int)] ∧ SqL K H a (ns.map V.int) ∧ Q (.int (cellA ns k)) H
theorem ev_cell {K : PySem.W.Frag} {E : XK} {σ : L2.St} {H : Hp} {ta tk : TE} {a : Addr} {ns : List Int} {k : Nat} {z : Int} (ha : Ev ta σ H (.ref a)) (hk : Ev tk σ H (.int z)) (hS : SqL K H a (ns.map V.int)) (hz : z = (k : Int) := by rfl) : Ev (tCall (sp_cell K) [] E (tCons ta (tCons tk tNil))) σ H (.int (cellA ns k)) := fun H1 e Q q =>
  ha H1 e _ fun H2 e2 => hk H2 (e.trans e2) _ fun H3 e3 => by subst hz; exact ⟨a, ns, k, rfl, ex_l ((e.trans e2).trans e3) hS, q H3 (e2.trans e3)⟩
theorem ok_u_law_cell (T : Txt K mg A) : FnOk P w K mg base CX0 1 A.f_u_law_cell A.d_u_law_cell (["script", "k"] : List Str) (sp_cell K) := by
  refine T.F_u_law_cell.ok sc_u_law_cell (fun vs H Q E h => ?_) (fun cdv Ar outer s H vs Q E hr h => ?_)
  · obtain ⟨a, ns, k, rfl, _⟩ := h
    rfl
  · obtain ⟨a, ns, k, rfl, hS, q⟩ := h
    refine ⟨_, (pss_cons (ps_if (pt_cmpR op_lt (pv 1) (pe_callB len_K (by rfl) T.z_len (by decide +kernel) (pa_cons (pv 0) pa_nil)) (nomark _)) (pss_one (ps_ret (pe_callB call_abs (by rfl) T.z_abs (by decide +kernel) (pa_cons (pe_ix ix_lK (pv 0) (pv 1) (fun _ _ => rfl)) pa_nil)))) pss_nil)
        (pss_one (ps_ret pe_int))), ?_⟩
    refine ⟨_, rfl, _, rfl, .ref a, _, rfl, .inl ⟨_, hS, rfl⟩, _, _, rfl, rfl, _, rfl, ?_⟩
    unfold cellA at q
    rw [List.length_map]
    by_cases hk : k < ns.length
    · refine wayT (show (k : Int) < (ns.length : Int) by omega) ?_
      rw [if_pos hk] at q
      refine ⟨_, rfl, _, rfl, a, _, _, .int (ns.getD k 0), rfl, rfl, hS, atI_nat ?_, _, rfl, q⟩
      rw [List.getElem?_map, List.getD_eq_getElem?_getD, List.getElem?_eq_getElem hk]
      rfl
    · refine wayF (show ¬ (k : Int) < (ns.length : Int) by omega) ?_
      rw [if_neg hk] at q
      exact q

def sp_draws (K : PySem.W.Frag) : Sp := fun vs H Q _ => ∃ (c s : Int) (m : Addr) (ms : List Int), vs = [.int c, .int s, .ref m] ∧ SqL K H m (ms.map V.int) ∧ 0 ≤ c ∧ (-1000000 ≤ s ∧ s ≤ 1000000) ∧ ms.length ≤ 64 ∧
  (∀ x ∈ ms, 1 ≤ x ∧ x.natAbs < 2 ^ 1000) ∧ ∀ p H' ds, H p = none → Ex H H' → H' p = some (.lst (ds.map V.int)) → Drawn ms ds → Q (.ref p) H'
theorem er_draws {K : PySem.W.Frag} {E : XK} {σ : L2.St} {H : Hp} {tc ts tm : TE} {c z : Int} {ms : List Int} (hc : Ev tc σ H (.int c)) (hs : Ev ts σ H (.int z)) (hm : EvL tm σ H (ms.map V.int)) (h0 : 0 ≤ c) (hz : -1000000 ≤ z ∧ z ≤ 1000000) (hl : ms.length ≤ 64)
    (hb : ∀ x ∈ ms, 1 ≤ x ∧ x.natAbs < 2 ^ 1000) : EvR (tCall (sp_draws K) [] E (tCons tc (tCons ts (tCons tm tNil)))) σ H fun v H1 => ∃ p ds, v = .ref p ∧ H1 p = some (.lst (ds.map V.int)) ∧ Drawn ms ds := fun H1 e Q q =>
  hc H1 e _ fun H2 e2 => hs H2 (e.trans e2) _ fun H3 e3 => hm H3 ((e.trans e2).trans e3) _ fun m H4 _ e4 h4 =>
    ⟨c, z, m, ms, rfl, sq_of h4, h0, hz, hl, hb, fun p H' ds hp e' h' hD => q _ H' ((e2.trans e3).trans (e4.trans e')) ⟨p, ds, rfl, h', hD⟩⟩
theorem drawn_more {ms ds : List Int} {i : Nat} {m d : Int} (h : Drawn (ms.take i) ds) (hm : ms[i]? = some m) (h0 : 0 ≤ d) (h1 : d < m) : Drawn (ms.take (i + 1)) (ds ++ [d]) := by
  have hi : i < ms.length := (List.getElem?_eq_some_iff.mp hm).1
  obtain ⟨hl, hd⟩ := h
  have hl' : ds.length = i := by rw [hl, List.length_take]; omega
  refine ⟨by rw [List.length_append, hl', List.length_take]; simp; omega, fun j x hj => ?_⟩
  by_cases hji : j < i
  · have hx : (ms.take i)[j]? = some x := by
      rw [List.getElem?_take_of_lt hji]
      rw [List.getElem?_take_of_lt (by omega)] at hj
      exact hj
    obtain ⟨d', e, z⟩ := hd j x hx
    exact ⟨d', by rw [List.getElem?_append_left (by omega)]; exact e, z⟩
  · have hlt : j < i + 1 := by
      have := (List.getElem?_eq_some_iff.mp hj).1
      rw [List.length_take] at this
      omega
    have ej : j = i := by omega
    subst ej
    rw [List.getElem?_take_of_lt hlt, hm] at hj
    cases hj
    exact ⟨d, by rw [List.getElem?_append_right (by omega), hl', Nat.sub_self]; rfl, h0, h1⟩
theorem ok_u_law_draws (T : Txt K mg A) : FnOk P w K mg base CX0 1 A.f_u_law_draws A.d_u_law_draws (["cell", "salt", "menu"] : List Str) (sp_draws K) := by
  refine T.F_u_law_draws.ok sc_u_law_draws (fun vs H Q E h => ?_) (fun cdv Ar outer s H vs Q E hr h => ?_)
  · obtain ⟨c, s, m, ms, rfl, _⟩ := h
    rfl
  · obtain ⟨c, sa, m, ms, rfl, hS, hc, hs, hl, hm, k⟩ := h
    refine ⟨_, (pss_cons (ps_set (i := 3) sc_u_law_draws.nd rfl (Or.inl rfl) (pe_lst pa_nil))
        (pss_cons (ps_set (i := 4) sc_u_law_draws.nd rfl (Or.inl rfl) (pe_op op_sub (pv 0) (pe_op op_pow pe_int pe_int)))
        (pss_cons (ps_set (i := 5) sc_u_law_draws.nd rfl (Or.inl rfl) (pe_op op_add (pv 0) (pe_op op_mul pe_int (pv 1))))
        (pss_cons (ps_for PassesOwn.never rfl (pi_range1 rfl T.z_range (pa_cons (pe_callB len_K (by rfl) T.z_len (by decide +kernel) (pa_cons (pv 2) pa_nil)) pa_nil)) (pg_name (i := 6) sc_u_law_draws.nd rfl (Or.inl rfl)) (pss_one (ps_if (pt_cmpR op_ge (pv 4) pe_int (nomark _)) (pss_cons (ps_expr (pe_bm PySem.F.plainAttrs_list PySem.F.slot_list_append PySem.F.type_list_append mt_append (pv 3) (pa_cons (pe_op op_mod (pe_callTy call_int1 (by rfl) T.z_int (by decide +kernel) (pa_cons (pv 4) pa_nil)) (pe_ix ix_lK (pv 2) (pv 6) (fun _ _ => rfl))) pa_nil)))
        (pss_one (ps_set (i := 4) sc_u_law_draws.nd rfl (Or.inl rfl) (pe_op op_fdivW (pv 4) (pe_ix ix_lK (pv 2) (pv 6) (fun _ _ => rfl)))))) (pss_cons (ps_set (i := 5) sc_u_law_draws.nd rfl (Or.inl rfl) (pe_op op_mod (pe_callTy call_int1 (by rfl) T.z_int (by decide +kernel) (pa_cons (pe_op op_add (pe_op op_add (pe_op op_mul (pv 5) (pv 5)) (pe_op op_mul pe_int (pe_op op_add (pv 6) pe_int))) pe_int) pa_nil)) pe_int))
        (pss_cons (ps_set (i := 5) sc_u_law_draws.nd rfl (Or.inl rfl) (pe_op op_mod (pe_callTy call_int1 (by rfl) T.z_int (by decide +kernel) (pa_cons (pe_op op_add (pe_op op_mul (pv 5) (pv 5)) (pe_op op_fdiv (pv 5) pe_int)) pa_nil)) pe_int))
        (pss_one (ps_expr (pe_bm PySem.F.plainAttrs_list PySem.F.slot_list_append PySem.F.type_list_append mt_append (pv 3) (pa_cons (pe_op op_mod (pe_callTy call_int1 (by rfl) T.z_int (by decide +kernel) (pa_cons (pe_op op_fdiv (pv 5) pe_int) pa_nil)) (pe_ix ix_lK (pv 2) (pv 6) (fun _ _ => rfl))) pa_nil)))))))))
        (pss_one (ps_ret (pv 3))))))), ?_⟩
    refine ⟨Nat.zero_le _, fun p hp => ?_⟩
    refine ⟨_, rfl, _, _, rfl, rfl, ⟨by decide, by decide, by decide⟩, _, _, rfl, rfl, ?_⟩
    refine ⟨_, rfl, _, rfl, _, _, rfl, rfl, .inl ⟨by decide, by decide⟩, _, _, rfl, rfl, ?_⟩
    have e10 : ((10 : Int) ^ (18 : Int).toNat) = 1000000000000000000 := by decide
    have hS1 : SqL K (upd H p (.lst [])) m (ms.map V.int) := ex_l (Ex.new hp) hS
    refine ⟨_, rfl, .ref m, _, rfl, .inl ⟨_, hS1, rfl⟩, _, rfl, by omega, by rw [List.length_map]; omega, ?_⟩
    refine for_range (lo := 0) (n := ((ms.map V.int).length : Int).toNat) (fun i σ H' => ∃ (ds : List Int) (rest mixed : Int) (kv : Option V), σ = [some (.int c), some (.int sa), some (.ref m), some (.ref p), some (.int rest), some (.int mixed), kv] ∧ Ex H H' ∧
        H' p = some (.lst (ds.map V.int)) ∧ Drawn (ms.take i) ds ∧ (0 ≤ rest ∨ (-18446744073709551616 < mixed ∧ mixed < 18446744073709551616))) ?_ ?_ ?_
    · refine ⟨[], _, _, none, rfl, Ex.new hp, upd_same, ⟨by simp, fun i x h => by simp at h⟩, ?_⟩
      rw [e10]
      omega
    · rintro i σ H' hi ⟨ds, rest, mixed, kv, rfl, ex, hH, hD, hr0⟩
      have hi' : i < ms.length := by simpa using hi
      obtain ⟨mi, hmi⟩ : ∃ mi, ms[i]? = some mi := ⟨ms[i], List.getElem?_eq_getElem hi'⟩
      have hmm := hm mi (List.mem_of_getElem? hmi)
      have hSi : SqL K H' m (ms.map V.int) := ex_l ex hS
      have hat : atI (ms.map V.int) (0 + (i : Int)) = some (.int mi) := by
        rw [Int.zero_add]
        refine atI_nat ?_
        rw [List.getElem?_map, hmi]
        rfl
      have hdl : ds.length ≤ 64 := by
        have := hD.1
        rw [List.length_take] at this
        omega
      have hsz : (ds.map V.int).length < sizeLine := by
        rw [List.length_map]
        exact Nat.lt_of_le_of_lt hdl (by decide)
      have e0 : (0 : Int) + (i : Int) = (i : Int) := Int.zero_add _
      refine ⟨_, rfl, _, _, rfl, rfl, _, rfl, way (fun hr => ?_) (fun hr => ?_)⟩
      · refine ⟨_, rfl, .inl ⟨rfl, _, SqL.of hH⟩, _, rfl, .inl ⟨rest, rfl, _, rfl, _, rfl, m, _, _, .int mi, rfl, rfl, hSi, hat, _, _, rfl, rfl, (by show (0 : Int) < mi; omega), p, _, _, rfl, rfl, hH, hsz, ?_⟩⟩
        have ex2 : Ex H (upd H' p (.lst (ds.map V.int ++ [.int (rest % mi)]))) := Ex.mut ex hp
        refine ⟨_, rfl, _, rfl, _, rfl, m, _, _, .int mi, rfl, rfl, ex_l ex2 hS, hat, _, _, rfl, rfl, wide_div (by omega) hmm.2 (by decide) (by decide), ?_⟩
        refine ⟨ds ++ [rest % mi], rest / mi, mixed, _, rfl, ex2, ?_, drawn_more hD hmi (Int.emod_nonneg _ (by omega)) (Int.emod_lt_of_pos _ (by omega)), .inl (Int.ediv_nonneg hr (by omega))⟩
        rw [upd_same, List.map_append]
        rfl
      · have hx : -18446744073709551616 < mixed ∧ mixed < 18446744073709551616 := by omega
        refine ⟨_, rfl, _, rfl, _, _, rfl, rfl, .inl ⟨hx.1, hx.2⟩, _, rfl, _, _, rfl, rfl, _, _, rfl, rfl, .inl ⟨by decide, by decide⟩, _, _, rfl, rfl, _, _, rfl, rfl, .inl ⟨_, rfl, _, _, rfl, rfl, (by show (0 : Int) < 2147483399; decide), ?_⟩⟩
        have b1 : ∀ z : Int, 0 ≤ z % 2147483399 ∧ z % 2147483399 < 2147483399 := fun z => ⟨Int.emod_nonneg _ (by decide), Int.emod_lt_of_pos _ (by decide)⟩
        have b2 : ∀ z : Int, 0 ≤ z % 2147483629 ∧ z % 2147483629 < 2147483629 := fun z => ⟨Int.emod_nonneg _ (by decide), Int.emod_lt_of_pos _ (by decide)⟩
        refine ⟨_, rfl, _, rfl, _, _, rfl, rfl, .inl ⟨Int.lt_of_lt_of_le (by decide) (b1 _).1, Int.lt_trans (b1 _).2 (by decide)⟩, _, rfl, _, _, rfl, rfl, ⟨by decide, by decide⟩, _, _, rfl, rfl, .inl ⟨_, rfl, _, _, rfl, rfl, (by show (0 : Int) < 2147483629; decide), ?_⟩⟩
        refine ⟨_, rfl, .inl ⟨rfl, _, SqL.of hH⟩, _, rfl, _, _, rfl, rfl, ⟨by decide, by decide⟩, .inl ⟨_, rfl, _, rfl, _, rfl, m, _, _, .int mi, rfl, rfl, hSi, hat, _, _, rfl, rfl, (by show (0 : Int) < mi; omega), p, _, _, rfl, rfl, hH, hsz, ?_⟩⟩
        refine ⟨ds ++ [((((mixed * mixed + 3571 * (0 + (i : Int) + 1) + 40692) % 2147483399) * ((mixed * mixed + 3571 * (0 + (i : Int) + 1) + 40692) % 2147483399) + ((mixed * mixed + 3571 * (0 + (i : Int) + 1) + 40692) % 2147483399) / 97) % 2147483629) / 8 % mi], rest, _, _, rfl, Ex.mut ex hp, ?_, drawn_more hD hmi (Int.emod_nonneg _ (by omega)) (Int.emod_lt_of_pos _ (by omega)), .inr ⟨Int.lt_of_lt_of_le (by decide) (b2 _).1, Int.lt_trans (b2 _).2 (by decide)⟩⟩
        rw [upd_same, List.map_append]
        rfl
    · rintro σ H' ⟨ds, rest, mixed, kv, rfl, ex, hH, hD, _⟩
      refine ⟨_, rfl, k p H' ds hp ex hH ?_⟩
      have e : ((ms.map V.int).length : Int).toNat = ms.length := by simp
      rw [e, List.take_length] at hD
      exact hD

def spTwo : Sp := fun vs H Q _ => ∃ n : Int, vs = [.int n] ∧ (0 ≤ n ∧ n ≤ 25) ∧ ∀ z H', Ex H H' → 1 ≤ z ∧ z ≤ 33554432 → Q (.int z) H' 
theorem ok_u_law_two (T : Txt K mg A) : FnOk P w K mg base CX0 1 A.f_u_law_two A.d_u_law_two (["n"] : List Str) spTwo := by
  refine T.F_u_law_two.ok sc_u_law_two (fun vs H Q E h => ?_) (fun cdv Ar outer s H vs Q E hr h => ?_)
  · obtain ⟨n, rfl, _⟩ := h
    rfl
  · obtain ⟨n, rfl, hn, k⟩ := h
    refine ⟨_, (pss_cons (ps_set (i := 1) sc_u_law_two.nd rfl (Or.inl rfl) pe_int)
        (pss_cons (ps_for PassesOwn.never rfl (pi_range1 rfl T.z_range (pa_cons (pv 0) pa_nil)) (pg_name (i := 2) sc_u_law_two.nd rfl (Or.inl rfl)) (pss_one (ps_set (i := 1) sc_u_law_two.nd rfl (Or.inl rfl) (pe_op op_mul (pv 1) pe_int))))
        (pss_one (ps_ret (pv 1))))), ?_⟩
    try dsimp only
    refine q_asg (v := .int 1) ev_c fun H1 e1 => ?_
    try dsimp only
    refine q_forR1 (n := n) (ea_cons (ev_var (i := 0) rfl) ea_nil) (by omega) (fun i σ' H' => ∃ (kv : Option V), σ' = [some (.int n), some (.int ((2 ^ i : Nat) : Int)), kv] ∧ Ex H H') (fun H2 e2 => ⟨none, rfl, e1.trans e2⟩) ?_ ?_
    · rintro i σ' H' hi ⟨kv, rfl, e⟩
      try dsimp only
      refine s_asg (v := .int (((2 ^ i : Nat) : Int) * 2)) (by repeat' first | exact ev_c | exact ev_var rfl | exact ea_nil | apply ea_cons | apply ev_int | apply ev_op | apply ev_un | exact ru_neg | exact rv_I0 | exact rv_eq rfl | exact rv_ne rfl | exact rv_I (by decide) | exact rv_I (.inl ⟨by decide, by decide⟩) | exact rv_I (.inr ⟨by decide, by decide⟩) | exact rv_I (by omega) | exact rv_I (.inl ⟨by omega, by omega⟩) | exact rv_I (.inr ⟨by omega, by omega⟩)) fun H3 e3 => ⟨some (.int (i : Int)), ?_, e.trans e3⟩
      rw [show ((2 ^ (i + 1) : Nat) : Int) = ((2 ^ i : Nat) : Int) * 2 by rw [Nat.pow_succ, Int.natCast_mul]; rfl]
      rfl
    rintro σ' H' ⟨kv, rfl, e⟩
    have h1 : 2 ^ n.toNat ≤ 2 ^ 25 := Nat.pow_le_pow_right (by decide) (by omega)
    have h2 : 0 < 2 ^ n.toNat := Nat.pow_pos (by decide)
    exact ⟨_, rfl, k _ H' e ⟨by omega, by omega⟩⟩

def spBits : Sp := fun vs H Q _ => ∃ n z : Int, vs = [.int n, .int z] ∧ (0 ≤ n ∧ n ≤ 25) ∧ ∀ p H' xs, H p = none → Ex H H' → H' p = some (.lst (xs.map V.int)) → Asc 0 n xs → Q (.ref p) H' 
theorem ok_u_law_bits (T : Txt K mg A) : FnOk P w K mg base CX0 1 A.f_u_law_bits A.d_u_law_bits (["n", "number"] : List Str) spBits := by
  refine T.F_u_law_bits.ok sc_u_law_bits (fun vs H Q E h => ?_) (fun cdv Ar outer s H vs Q E hr h => ?_)
  · obtain ⟨n, z, rfl, _⟩ := h
    rfl
  · obtain ⟨n, z, rfl, hn, k⟩ := h
    refine ⟨_, (pss_cons (ps_set (i := 2) sc_u_law_bits.nd rfl (Or.inl rfl) (pe_lst pa_nil))
        (pss_cons (ps_for PassesOwn.never rfl (pi_range1 rfl T.z_range (pa_cons (pv 0) pa_nil)) (pg_name (i := 3) sc_u_law_bits.nd rfl (Or.inl rfl)) (pss_cons (ps_if (pt_cmpR op_eq (pe_op op_mod (pe_callTy call_int1 (by rfl) T.z_int (by decide +kernel) (pa_cons (pv 1) pa_nil)) pe_int) pe_int (nomark _)) (pss_one (ps_expr (pe_bm PySem.F.plainAttrs_list PySem.F.slot_list_append PySem.F.type_list_append mt_append (pv 2) (pa_cons (pv 3) pa_nil)))) pss_nil)
        (pss_one (ps_set (i := 1) sc_u_law_bits.nd rfl (Or.inl rfl) (pe_op op_fdiv (pv 1) pe_int)))))
        (pss_one (ps_ret (pv 2))))), ?_⟩
    try dsimp only
    refine q_asgL (xs := []) (el_lst ea_nil (by decide)) fun fp H1 hfp e1 h1 => ?_
    refine q_forR1 (j := 3) (n := n) (ea_cons (ev_var rfl) ea_nil) (by omega)
      (fun i σ' H' => ∃ (z : Int) (hv : Option V) (xs : List Int), σ' = [some (.int n), some (.int z), some (.ref fp), hv] ∧ Ex H H' ∧ H' fp = some (.lst (xs.map V.int)) ∧ Asc 0 (i : Int) xs)
      (fun H2 e2 => ⟨z, none, [], rfl, e1.trans e2, e2 _ _ h1, .nil⟩) ?_ ?_
    · rintro i σ' H' hi ⟨z, hv, xs, rfl, ex, hf, hA⟩
      have hl := hA.len
      have hsz : (xs.map V.int).length < 100000 := by rw [List.length_map]; omega
      try dsimp only
      have tail : ∀ (H2 : Hp) (ys : List Int) (D : Ends), Ex H H2 → H2 fp = some (.lst (ys.map V.int)) → Asc 0 ((i : Int) + 1) ys →
          (∀ σ' H', (∃ (z : Int) (hv : Option V) (xs : List Int), σ' = [some (.int n), some (.int z), some (.ref fp), hv] ∧ Ex H H' ∧ H' fp = some (.lst (xs.map V.int)) ∧ Asc 0 ((i + 1 : Nat) : Int) xs) → D.nx σ' H') →
          tAsg (tOp (rI CDiv fun i j => V.int (i / j)) (tVar 1) (tC (V.int 2))) (gName 1) D [some (.int n), some (.int z), some (.ref fp), some (.int (i : Int))] H2 := fun H2 ys D e2 h2 hA2 hD =>
        s_asg (v := .int (z / 2)) (ev_op (ev_var (i := 1) rfl) ev_c (rv_I (show CDiv z 2 from ⟨by decide, by decide⟩))) fun H3 e3 => hD _ _ ⟨z / 2, _, ys, rfl, e2.trans e3, e3 _ _ h2, by simpa using hA2⟩
      refine q_when (b := decide (z % 2 = 1)) (et_test (ev_is (ev_op (ev_op (ev_cb (ea_cons (ev_var (i := 1) rfl) ea_nil) (fun H1 _ _ q => .inl ⟨_, rfl, q H1 (Ex.refl H1)⟩)) ev_c (rv_I (show (0 : Int) < 2 by decide))) ev_c (rv_eq rfl)) (by rw [dec_ii]))) (fun _ H2 e2 => ?_) (fun _ H2 e2 => ?_)
      · refine s_app (e2 _ _ hf) (ev_var (i := 2) rfl) (ev_var (i := 3) rfl) hsz fun H3 e3 => ?_
        refine tail _ (xs ++ [(i : Int)]) _ (Ex.mut ((ex.trans e2).trans e3) hfp) (by rw [upd_same, List.map_append]; rfl) ?_ (fun _ _ h => h)
        exact hA.append (mid' := (i : Int)) ⟨List.pairwise_singleton _ _, fun x hx => by cases List.mem_singleton.mp hx; omega⟩ (by omega) (by omega) (by omega)
      · exact tail _ xs _ (ex.trans e2) (e2 _ _ hf) (hA.mono (by omega) (by omega)) (fun _ _ h => h)
    rintro σ' H' ⟨z, hv, xs, rfl, ex, hf, hA⟩
    exact ⟨_, rfl, k fp H' xs hfp ex hf (hA.mono (by omega) (by omega))⟩

theorem isi {K : PySem.W.Frag} {H : Hp} {x : V} {t n : String} {b : Bool} {Q : VK} (ty : TyX K H x (.type t)) (h : kitB t n = some b) (q : Q (.bl b) H) : rIsi K [x, .ty n] H Q := ⟨x, .ty n, _, _, b, rfl, .ty n, ty, kit_ty h, q⟩
def sp_is_int (K : PySem.W.Frag) : Sp := fun vs H Q _ => ∃ i : Int, vs = [.int i] ∧ Q (.bl true) H
theorem ok_u_law_is_int (T : Txt K mg A) : FnOk P w K mg base CX0 1 A.f_u_law_is_int A.d_u_law_is_int (["x"] : List Str) (sp_is_int K) := by
  refine T.F_u_law_is_int.ok sc_u_law_is_int (fun vs H Q E h => ?_) (fun cdv Ar outer s H vs Q E hr h => ?_)
  · obtain ⟨i, rfl, _⟩ := h
    rfl
  · obtain ⟨i, rfl, q⟩ := h
    refine ⟨_, (pss_one (ps_ret (pe_and (pe_callB isi_K (by rfl) T.z_isinstance (by decide +kernel) (pa_cons (pv 0) (pa_cons (pe_bltn (v := .ty "int") (by rfl) T.z_int (by decide +kernel) rfl) pa_nil))) (pe_one (pe_not (pe_callB isi_K (by rfl) T.z_isinstance (by decide +kernel) (pa_cons (pv 0) (pa_cons (pe_bltn (v := .ty "bool") (by rfl) T.z_bool (by decide +kernel) rfl) pa_nil)))))))), ?_⟩
    refine ⟨_, rfl, _, _, _, _, true, rfl, .ty _, .base (.int i), kit_ty (by decide +kernel), ⟨_, rfl, iteT ?_⟩⟩
    exact ⟨_, rfl, _, _, _, _, false, rfl, .ty _, .base (.int i), kit_ty (by decide +kernel), ⟨_, rfl, q⟩⟩
/-- like data are told alike -/
def sp_same (K : PySem.W.Frag) (n : Nat) : Sp := fun vs H Q _ => ∃ (x y : V) (d : PyData), vs = [x, y] ∧ Dp K H x d ∧ Dp K H y d ∧ Flat n d ∧ Q (.bl true) H
theorem same_loop {K : PySem.W.Frag} {H : Hp} {n k : Nat} {xs ys : List V} {ds : List PyData} {x y : V} {kv : Option V} {Q : VK} {N : L2.St → Hp → Prop} {tb : TS} (hk : k = ds.length) (hx : DpAll K H xs ds) (hy : DpAll K H ys ds) (hf : ∀ d ∈ ds, Flat n d) (hl : ds.length ≤ 40000)
    (hb : ∀ (i : Nat) (u v : V) (d : PyData) (kv : Option V) (D : Ends), i < ds.length → xs[i]? = some u → ys[i]? = some v → Dp K H u d → Dp K H v d → Flat n d → D.nx [some x, some y, some (.int (i : Int))] H → tb D ([some x, some y, kv].set 2 (some (.int (i : Int)))) H)
    (hq : ∀ kv, N [some x, some y, kv] H) :
    ∃ W : Nat → Nat → L2.St → Hp → Prop, (∃ m, W 0 m [some x, some y, kv] H) ∧ ∀ i m σ H, W i m σ H →
      ((Itr 0 k).stop i H ∧ N σ H) ∨ ((Itr 0 k).go i H ∧ ∃ N' : L2.St → Hp → Prop, (∀ σ' H', N' σ' H' → ∃ m', m' < m ∧ W (i + 1) m' σ' H') ∧ ∀ z H', (Itr 0 k).yld i H z H' → gName 2 z σ H' fun σ2 H2 => tb { nx := N', ct := N', bk := N, rt := Q } σ2 H2) := by
  subst hk
  refine for_range (D := { nx := N, rt := Q }) (fun i σ H' => H' = H ∧ ∃ kv, σ = [some x, some y, kv]) ⟨rfl, _, rfl⟩ ?_ ?_
  · rintro i σ H' hi ⟨rfl, kv, rfl⟩
    obtain ⟨_, gx⟩ := dp_get hx
    obtain ⟨_, gy⟩ := dp_get hy
    have ed := List.getElem?_eq_getElem hi
    obtain ⟨u, eu, du⟩ := gx i _ ed
    obtain ⟨v, ev, dv⟩ := gy i _ ed
    show tb _ ([some x, some y, kv].set 2 (some (.int (0 + (i : Int))))) H'
    rw [Int.zero_add]
    exact hb i u v _ kv _ hi eu ev du dv (hf _ (List.getElem_mem hi)) ⟨rfl, _, rfl⟩
  · rintro σ H' ⟨rfl, kv, rfl⟩
    exact hq kv
theorem ok_u_law_same_n (T : Txt K mg A) : ∀ n, FnOk P w K mg base CX0 (n + 2) A.f_u_law_same A.d_u_law_same (["got", "due"] : List Str) (sp_same K n) := by
  intro n
  induction n with
  | zero => exact ⟨fun vs H Q E h => by obtain ⟨x, y, d, rfl, _⟩ := h; rfl, fun Ar outer s H args us vs Q E _ _ _ _ h => by obtain ⟨x, y, d, _, _, _, hf, _⟩ := h; exact hf.elim⟩
  | succ n ih =>
    refine T.F_u_law_same.ok sc_u_law_same (fun vs H Q E h => ?_) (fun cdv Ar outer s H vs Q E hr h => ?_)
    · obtain ⟨x, y, d, rfl, _⟩ := h
      rfl
    · obtain ⟨x, y, d, rfl, hx, hy, hf, q⟩ := h
      have ihx := ih
      refine ⟨_, (pss_cons (ps_if (pt_cmpR op_isN (pv 1) pe_non (nomark _)) (pss_one (ps_ret (pe_cmpR op_isN (pv 0) pe_non (nomark _)))) pss_nil)
        (pss_cons (ps_if (pt_cmpR op_isK (pv 1) pe_bl (nomark _)) (pss_one (ps_ret (pe_cmpR op_isK (pv 0) pe_bl (nomark _)))) pss_nil)
        (pss_cons (ps_if (pt_cmpR op_isK (pv 1) pe_bl (nomark _)) (pss_one (ps_ret (pe_cmpR op_isK (pv 0) pe_bl (nomark _)))) pss_nil)
        (pss_cons (ps_if (pt_val (pe_callB isi_K (by rfl) T.z_isinstance (by decide +kernel) (pa_cons (pv 1) (pa_cons (pe_bltn (v := .ty "int") (by rfl) T.z_int (by decide +kernel) rfl) pa_nil)))) (pss_one (ps_ret (pe_and (pe_call (ok_u_law_is_int T) (hr.mono (by omega)) rfl T.g_u_law_is_int T.k_u_law_is_int (b_u_law_is_int T) .nil pass0 (pa_cons (pv 0) pa_nil)) (pe_one (pe_cmpR op_eq (pv 0) (pv 1) (nomark _)))))) pss_nil)
        (pss_cons (ps_if (pt_val (pe_callB isi_K (by rfl) T.z_isinstance (by decide +kernel) (pa_cons (pv 1) (pa_cons (pe_bltn (v := .ty "str") (by rfl) T.z_str (by decide +kernel) rfl) pa_nil)))) (pss_one (ps_ret (pe_and (pe_callB isi_K (by rfl) T.z_isinstance (by decide +kernel) (pa_cons (pv 0) (pa_cons (pe_bltn (v := .ty "str") (by rfl) T.z_str (by decide +kernel) rfl) pa_nil))) (pe_one (pe_cmpR op_eq (pv 0) (pv 1) (nomark _)))))) pss_nil)
        (pss_cons (ps_if (pt_val (pe_callB isi_K (by rfl) T.z_isinstance (by decide +kernel) (pa_cons (pv 1) (pa_cons (pe_bltn (v := .ty "tuple") (by rfl) T.z_tuple (by decide +kernel) rfl) pa_nil)))) (pss_one (ps_if (PW.pt (pw_or (pt_not (pt_val (pe_callB isi_K (by rfl) T.z_isinstance (by decide +kernel) (pa_cons (pv 0) (pa_cons (pe_bltn (v := .ty "tuple") (by rfl) T.z_tuple (by decide +kernel) rfl) pa_nil))))) (pw_or1 (pt_cmpR op_ne (pe_callB len_K (by rfl) T.z_len (by decide +kernel) (pa_cons (pv 0) pa_nil)) (pe_callB len_K (by rfl) T.z_len (by decide +kernel) (pa_cons (pv 1) pa_nil)) (nomark _))))) (pss_one (ps_ret pe_bl)) pss_nil)) (pss_one (ps_if (PW.pt (pw_or (pt_not (pt_val (pe_callB isi_K (by rfl) T.z_isinstance (by decide +kernel) (pa_cons (pv 0) (pa_cons (pe_bltn (v := .ty "list") (by rfl) T.z_list (by decide +kernel) rfl) pa_nil))))) (pw_or1 (pt_cmpR op_ne (pe_callB len_K (by rfl) T.z_len (by decide +kernel) (pa_cons (pv 0) pa_nil)) (pe_callB len_K (by rfl) T.z_len (by decide +kernel) (pa_cons (pv 1) pa_nil)) (nomark _))))) (pss_one (ps_ret pe_bl)) pss_nil)))
        (pss_cons (ps_for PassesOwn.never rfl (pi_range1 rfl T.z_range (pa_cons (pe_callB len_K (by rfl) T.z_len (by decide +kernel) (pa_cons (pv 1) pa_nil)) pa_nil)) (pg_name (i := 2) sc_u_law_same.nd rfl (Or.inl rfl)) (pss_one (ps_if (pt_not (pt_val (pe_call ih (hr.mono (by omega)) rfl T.g_u_law_same T.k_u_law_same (b_u_law_same T) .nil pass0 (pa_cons (pe_ix ix_sK (pv 0) (pv 2) (fun _ _ => rfl)) (pa_cons (pe_ix ix_sK (pv 1) (pv 2) (fun _ _ => rfl)) pa_nil))))) (pss_one (ps_ret pe_bl)) pss_nil)))
        (pss_one (ps_ret pe_bl))))))))), ?_⟩
      cases hx with
      | non => cases hy; exact ⟨_, rfl, rfl, _, rfl, wayT rfl ⟨_, rfl, rfl, q⟩⟩
      | bl b =>
        cases hy
        refine ⟨_, rfl, rfl, _, rfl, wayF (fun z => by cases z) ?_⟩
        cases b with
        | true => exact ⟨_, rfl, _, rfl, _, rfl, wayT rfl ⟨_, rfl, _, rfl, q⟩⟩
        | false => exact ⟨_, rfl, _, rfl, _, rfl, wayF (fun z => by cases z) ⟨_, rfl, _, rfl, _, rfl, wayT rfl ⟨_, rfl, _, rfl, q⟩⟩⟩
      | int i =>
        cases hy
        refine ⟨_, rfl, rfl, _, rfl, wayF (fun z => by cases z) ⟨_, rfl, _, rfl, _, rfl, wayF (fun z => by cases z) ⟨_, rfl, _, rfl, _, rfl, wayF (fun z => by cases z) ?_⟩⟩⟩
        refine ⟨_, rfl, _, _, _, _, true, rfl, .ty _, .base (.int i), kit_ty (by decide +kernel), ⟨_, rfl, iteT ?_⟩⟩
        refine ⟨_, rfl, i, rfl, _, rfl, iteT ?_⟩
        refine ⟨_, rfl, _, rfl, rfl, ?_⟩
        rw [decide_eq_true rfl]
        exact q
      | str z =>
        cases hy
        refine ⟨_, rfl, rfl, _, rfl, wayF (fun z => by cases z) ⟨_, rfl, _, rfl, _, rfl, wayF (fun z => by cases z) ⟨_, rfl, _, rfl, _, rfl, wayF (fun z => by cases z) ?_⟩⟩⟩
        refine ⟨_, rfl, _, _, _, _, false, rfl, .ty _, .base (.str z), kit_ty (by decide +kernel), ⟨_, rfl, iteF ?_⟩⟩
        refine ⟨_, rfl, _, _, _, _, true, rfl, .ty _, .base (.str z), kit_ty (by decide +kernel), ⟨_, rfl, iteT ?_⟩⟩
        refine ⟨_, rfl, _, _, _, _, true, rfl, .ty _, .base (.str z), kit_ty (by decide +kernel), ⟨_, rfl, iteT ?_⟩⟩
        refine ⟨_, rfl, _, rfl, rfl, ?_⟩
        rw [decide_eq_true rfl]
        exact q
      | lst sx ax =>
        cases hy with
        | lst sy ay =>
          refine ⟨_, rfl, rfl, _, rfl, wayF (fun z => by cases z) ⟨_, rfl, _, rfl, _, rfl, wayF (fun z => by cases z) ⟨_, rfl, _, rfl, _, rfl, wayF (fun z => by cases z) ?_⟩⟩⟩
          refine ⟨_, rfl, _, _, _, _, false, rfl, .ty _, tyx_l sy, kit_ty (by decide +kernel), ⟨_, rfl, iteF ?_⟩⟩
          refine ⟨_, rfl, _, _, _, _, false, rfl, .ty _, tyx_l sy, kit_ty (by decide +kernel), ⟨_, rfl, iteF ?_⟩⟩
          refine ⟨_, rfl, _, _, _, _, false, rfl, .ty _, tyx_l sy, kit_ty (by decide +kernel), ⟨_, rfl, iteF ?_⟩⟩
          refine ⟨_, rfl, _, _, _, _, true, rfl, .ty _, tyx_l sx, kit_ty (by decide +kernel), ⟨_, rfl, iteF ?_⟩⟩
          have lx := (dp_get ax).1
          have ly := (dp_get ay).1
          refine ⟨_, rfl, _, _, rfl, .inl ⟨_, sx, rfl⟩, _, rfl, _, _, rfl, .inl ⟨_, sy, rfl⟩, rfl, _, rfl, wayNT (by rw [lx, ly]) ?_⟩
          have h40 := hf.1
          refine ⟨_, rfl, _, _, rfl, .inl ⟨_, sy, rfl⟩, _, rfl, by omega, by omega, same_loop (by omega) ax ay hf.2 hf.1 (fun i u v d kv D hi eu ev du dv fd hn => ?_) (fun kv => q)⟩
          refine ⟨_, rfl, _, rfl, .inl ⟨_, _, _, u, rfl, rfl, sx, atI_nat eu, ?_⟩⟩
          refine ⟨_, rfl, _, rfl, .inl ⟨_, _, _, v, rfl, rfl, sy, atI_nat ev, ?_⟩⟩
          exact ⟨u, v, d, rfl, du, dv, fd, _, rfl, iteF hn⟩
      | tup sx ax =>
        cases hy with
        | tup sy ay =>
          refine ⟨_, rfl, rfl, _, rfl, wayF (fun z => by cases z) ⟨_, rfl, _, rfl, _, rfl, wayF (fun z => by cases z) ⟨_, rfl, _, rfl, _, rfl, wayF (fun z => by cases z) ?_⟩⟩⟩
          refine ⟨_, rfl, _, _, _, _, false, rfl, .ty _, tyx_t sy, kit_ty (by decide +kernel), ⟨_, rfl, iteF ?_⟩⟩
          refine ⟨_, rfl, _, _, _, _, false, rfl, .ty _, tyx_t sy, kit_ty (by decide +kernel), ⟨_, rfl, iteF ?_⟩⟩
          refine ⟨_, rfl, _, _, _, _, true, rfl, .ty _, tyx_t sy, kit_ty (by decide +kernel), ⟨_, rfl, iteT ?_⟩⟩
          refine ⟨_, rfl, _, _, _, _, true, rfl, .ty _, tyx_t sx, kit_ty (by decide +kernel), ⟨_, rfl, iteF ?_⟩⟩
          have lx := (dp_get ax).1
          have ly := (dp_get ay).1
          refine ⟨_, rfl, _, _, rfl, .inr ⟨_, sx, rfl⟩, _, rfl, _, _, rfl, .inr ⟨_, sy, rfl⟩, rfl, _, rfl, wayNT (by rw [lx, ly]) ?_⟩
          have h40 := hf.1
          refine ⟨_, rfl, _, _, rfl, .inr ⟨_, sy, rfl⟩, _, rfl, by omega, by omega, same_loop (by omega) ax ay hf.2 hf.1 (fun i u v d kv D hi eu ev du dv fd hn => ?_) (fun kv => q)⟩
          refine ⟨_, rfl, _, rfl, .inr (.inl ⟨_, _, _, u, rfl, rfl, sx, atI_nat eu, ?_⟩)⟩
          refine ⟨_, rfl, _, rfl, .inr (.inl ⟨_, _, _, v, rfl, rfl, sy, atI_nat ev, ?_⟩)⟩
          exact ⟨u, v, d, rfl, du, dv, fd, _, rfl, iteF hn⟩
theorem ok_u_law_same (T : Txt K mg A) : FnOk P w K mg base CX0 6 A.f_u_law_same A.d_u_law_same (["got", "due"] : List Str) (sp_same K 4) := ok_u_law_same_n T 4

def spName : Sp := fun vs H Q _ => ∃ n : Int, vs = [.int n] ∧ ∀ z H', Ex H H' → Word z → Q (.str z) H'
theorem er_name {E : XK} {σ : L2.St} {H : Hp} {t1 : TE} {n : Int} (h1 : Ev t1 σ H (.int n)) : EvR (tCall spName [] E (tCons t1 tNil)) σ H fun v _ => ∃ z, v = .str z ∧ Word z :=
  er_call (ea_cons h1 ea_nil) fun H1 e Q q => ⟨n, rfl, fun z H' e' h => q _ H' e' ⟨z, rfl, h⟩⟩
theorem ok_u_law_name (T : Txt K mg A) : FnOk P w K mg base CX0 1 A.f_u_law_name A.d_u_law_name (["number"] : List Str) spName := by
  refine T.F_u_law_name.ok sc_u_law_name (fun vs H Q E h => ?_) (fun cdv Ar outer s H vs Q E hr h => ?_)
  · obtain ⟨n, rfl, _⟩ := h
    rfl
  · obtain ⟨n, rfl, k⟩ := h
    refine ⟨_, (pss_cons (ps_set (i := 1) sc_u_law_name.nd rfl (Or.inl rfl) pe_str)
        (pss_cons (ps_set (i := 2) sc_u_law_name.nd rfl (Or.inl rfl) pe_str)
        (pss_cons (ps_for PassesOwn.never rfl (pi_range1 rfl T.z_range (pa_cons (pe_op op_add pe_int (pe_op op_mod (pe_callTy call_int1 (by rfl) T.z_int (by decide +kernel) (pa_cons (pv 0) pa_nil)) pe_int)) pa_nil)) (pg_name (i := 3) sc_u_law_name.nd rfl (Or.inl rfl)) (pss_cons (ps_set (i := 0) sc_u_law_name.nd rfl (Or.inl rfl) (pe_op op_add (pe_op op_add (pe_op op_fdiv (pv 0) pe_int) (pe_op op_mul pe_int (pv 3))) pe_int))
        (pss_one (ps_set (i := 2) sc_u_law_name.nd rfl (Or.inl rfl) (pe_op op_add_str (pv 2) (pe_ix ix_str (pv 1) (pe_op op_mod (pe_callTy call_int1 (by rfl) T.z_int (by decide +kernel) (pa_cons (pv 0) pa_nil)) pe_int) (fun _ _ => rfl)))))))
        (pss_one (ps_ret (pv 2)))))), ?_⟩
    try dsimp only
    refine q_asg (v := .str LET) ev_c fun H1 e1 => ?_
    try dsimp only
    refine q_asg (v := .str (txt [])) ev_c fun H2 e2 => ?_
    try dsimp only
    refine q_forR1 (j := 3) (n := 1 + n % 8) (ea_cons (ev_op ev_c (ev_op (ev_int (ev_var (i := 0) rfl)) ev_c (rv_I (show (0 : Int) < 8 by decide))) rv_I0) ea_nil) (by omega)
      (fun i σ' G => ∃ (m : Int) (l : List Nat) (kv : Option V), σ' = [some (.int m), some (.str LET), some (.str (txt l)), kv] ∧ Ex H G ∧ l.length = i ∧ ∀ c ∈ l, 97 ≤ c ∧ c ≤ 122) (fun H3 e3 => ⟨n, [], none, rfl, (e1.trans e2).trans e3, rfl, fun c hc => by cases hc⟩) ?_ ?_
    · rintro i σ' G hi ⟨m, l, kv, rfl, eG, hl, hc⟩
      try dsimp only
      refine q_asg (v := .int (m / 8 + 31 * (i : Int) + 5)) (ev_op (ev_op (ev_op (ev_var (i := 0) rfl) ev_c (rv_I (show CDiv m 8 from ⟨by decide, by decide⟩))) (ev_op ev_c (ev_var (i := 3) rfl) (rv_I (show CMul 31 (i : Int) from .inl ⟨by decide, by decide⟩))) rv_I0) ev_c rv_I0) fun G1 g1 => ?_
      generalize m / 8 + 31 * (i : Int) + 5 = m2
      have m0 : 0 ≤ m2 % 26 ∧ m2 % 26 < 26 := by omega
      try dsimp only
      refine s_asg (v := .str (txt (l ++ [97 + (m2 % 26).toNat]))) (ev_is (ev_op (ev_var (i := 2) rfl) (ev_op (ev_var (i := 1) rfl) (ev_op (ev_int (ev_var (i := 0) rfl)) ev_c (rv_I (show (0 : Int) < 26 by decide))) (rv_ixS (w := LET) (by decide) (let_at m0))) (rv_addS (by rw [txt_len, txt_one, txt_len]; show l.length + 1 ≤ 100000; omega))) (by rw [txt_one, txt_add])) fun G2 g2 => ⟨m2, _, _, rfl, eG.trans (g1.trans g2), by rw [List.length_append, hl]; rfl, fun c h => ?_⟩
      rcases List.mem_append.mp h with h | h
      · exact hc c h
      · have := List.mem_singleton.mp h
        omega
    rintro σ' G ⟨m, l, kv, rfl, eG, hl, hc⟩
    exact s_ret (ev_var (i := 2) rfl) fun G1 g1 => k _ G1 (eG.trans g1) ⟨by rw [txt_len]; omega, hc⟩

def spNames (K : PySem.W.Frag) : Sp := fun vs H Q _ => ∃ (a : Addr) (ns : List Int), vs = [.ref a] ∧ SqL K H a (ns.map V.int) ∧ ns.length ≤ 7 ∧ ∀ p H' (zs : List Str), Ex H H' → H' p = some (.lst (zs.map V.str)) → zs.length = ns.length → zs.Nodup → (∀ z ∈ zs, Word z) → Q (.ref p) H'
theorem er_names {K : PySem.W.Frag} {E : XK} {σ : L2.St} {H : Hp} {t1 : TE} {ns : List Int} (h1 : EvR t1 σ H fun v H1 => ∃ p : Addr, v = .ref p ∧ SqL K H1 p (ns.map V.int)) (hl : ns.length ≤ 7) : EvR (tCall (spNames K) [] E (tCons t1 tNil)) σ H fun v H1 => ∃ (p : Addr) (zs : List Str), v = .ref p ∧ H1 p = some (.lst (zs.map V.str)) ∧ zs.length = ns.length ∧ zs.Nodup ∧ ∀ z ∈ zs, Word z := fun H1 e Q q =>
  h1 H1 e _ fun v H2 e2 hv => by
    obtain ⟨a, rfl, ha⟩ := hv
    exact ⟨a, ns, rfl, ha, hl, fun p H' zs e' hp h1 h2 h3 => q _ H' (e2.trans e') ⟨p, zs, rfl, hp, h1, h2, h3⟩⟩
theorem ok_u_law_names (T : Txt K mg A) : FnOk P w K mg base CX0 2 A.f_u_law_names A.d_u_law_names (["numbers"] : List Str) (spNames K) := by
  refine T.F_u_law_names.ok sc_u_law_names (fun vs H Q E h => ?_) (fun cdv Ar outer s H vs Q E hr h => ?_)
  · obtain ⟨a, ns, rfl, _⟩ := h
    rfl
  · obtain ⟨a, ns, rfl, hS, hl, k⟩ := h
    refine ⟨_, (pss_cons (ps_set (i := 1) sc_u_law_names.nd rfl (Or.inl rfl) pe_str)
        (pss_cons (ps_set (i := 2) sc_u_law_names.nd rfl (Or.inl rfl) (pe_lst pa_nil))
        (pss_cons (ps_for PassesOwn.never rfl (pi_listK (pv 0)) (pg_name (i := 3) sc_u_law_names.nd rfl (Or.inl rfl)) (pss_cons (ps_set (i := 4) sc_u_law_names.nd rfl (Or.inl rfl) (pe_call (ok_u_law_name T) (hr.mono (by omega)) rfl T.g_u_law_name T.k_u_law_name (b_u_law_name T) .nil pass0 (pa_cons (pv 3) pa_nil)))
        (pss_cons (ps_for PassesOwn.never rfl (pi_range1 rfl T.z_range (pa_cons pe_int pa_nil)) (pg_name (i := 5) sc_u_law_names.nd rfl (Or.inl rfl)) (pss_one (ps_if (pt_cmpR in_K (pv 4) (pv 2) (by with_unfolding_all rfl)) (pss_one (ps_set (i := 4) sc_u_law_names.nd rfl (Or.inl rfl) (pe_op op_add_str (pe_slice sl_str (pv 4) po_none (po_some (pe_un un_neg pe_int))) (pe_ix ix_str (pv 1) (pe_op op_mod (pe_callTy call_int1 (by rfl) T.z_int (by decide +kernel) (pa_cons (pe_op op_add (pe_m1 PySem.F.slot_str_index PySem.F.type_str_index mt_sindex (pv 1) (pe_ix ix_str (pv 4) (pe_un un_neg pe_int) (fun _ _ => rfl))) pe_int) pa_nil)) pe_int) (fun _ _ => rfl))))) pss_nil)))
        (pss_one (ps_expr (pe_bm PySem.F.plainAttrs_list PySem.F.slot_list_append PySem.F.type_list_append mt_append (pv 2) (pa_cons (pv 4) pa_nil)))))))
        (pss_one (ps_ret (pv 2)))))), ?_⟩
    try dsimp only
    refine q_asg (v := .str LET) ev_c fun H1 e1 => ?_
    try dsimp only
    refine q_asgL (xs := []) (el_lst ea_nil (by decide)) fun np H2 hnp e2 h2 => ?_
    have np0 : H np = none := fresh_back e1 hnp
    try dsimp only
    refine q_forLn (K := K) (a := a) (xs := ns.map V.int) (j := 3) (ev_var (i := 0) rfl) (ex_l (e1.trans e2) hS)
      (fun i σ' G => ∃ (v3 v4 v5 : Option V) (zs : List Str), σ' = [some (.ref a), some (.str LET), some (.ref np), v3, v4, v5] ∧ Ex H G ∧ G np = some (.lst (zs.map V.str)) ∧ zs.length = i ∧ zs.Nodup ∧ ∀ z ∈ zs, Word z)
      (fun H3 e3 => ⟨none, none, none, [], rfl, (e1.trans e2).trans e3, e3 _ _ h2, rfl, .nil, fun z hz => by cases hz⟩) (fun i σ' G _ ⟨_, _, _, _, _, e, _⟩ => ex_l e hS) ?_ ?_
    · rintro i y σ' G hy ⟨v3, v4, v5, zs, rfl, eG, hz, hzl, hzd, hzw⟩
      obtain ⟨m, rfl, hm⟩ := some_int hy
      have hi : i < ns.length := (List.getElem?_eq_some_iff.mp hm).1
      try dsimp only
      refine q_asgR (er_name (ev_var (i := 3) rfl)) fun w G1 g1 hw => ?_
      obtain ⟨z0, rfl, hw0⟩ := hw
      obtain ⟨p, c, hc, hp, hpa, rfl⟩ := word_split hw0
      try dsimp only
      refine q_forR1 (j := 5) (n := 8) (ea_cons ev_c ea_nil) (by decide)
        (fun t σ' G' => ∃ (w : Str) (v5 : Option V), σ' = [some (.ref a), some (.str LET), some (.ref np), some (.int m), some (.str w), v5] ∧ Ex G G' ∧ Word w ∧ (w ∉ zs ∨ (w = bump p c t ∧ ∀ s, s < t → bump p c s ∈ zs))) (fun H3 e3 => ⟨_, v5, rfl, g1.trans e3, hw0, .inr ⟨rfl, fun s hs => absurd hs (Nat.not_lt_zero _)⟩⟩) ?_ ?_
      · rintro t σ' G' ht ⟨w, v5, rfl, eG', hww, hor⟩
        try dsimp only
        refine s_when (b := decide (w ∈ zs)) (et_test (ev_is (ev_op (ev_var (i := 4) rfl) (ev_var (i := 2) rfl) (rv_inL (K := K) (neg := false) (sq_of (eG' _ _ hz)) rfl (strs_flat zs))) (by rw [← inV_strs]; rfl))) (fun h G2 g2 => ?_) (fun h G2 g2 => ⟨w, _, rfl, eG'.trans g2, hww, .inl (of_decide_eq_false h)⟩)
        have h := of_decide_eq_true h
        obtain ⟨rfl, hall⟩ := hor.resolve_left (fun z => z h)
        have l1 : (bump p c t).length ≤ 8 := hww.len.2
        have at1 : atI (bump p c t).cps.toList (-1) = some (97 + (c + t) % 26) := atI_last (by show (p ++ [97 + (c + t) % 26]).getLast? = _; simp)
        have m0 : 0 ≤ (((97 + (c + t) % 26 - 97 : Nat) : Int) + 1) % 26 ∧ (((97 + (c + t) % 26 - 97 : Nat) : Int) + 1) % 26 < 26 := by omega
        have cut : cutS (bump p c t) none (some (-1)) = txt p := by unfold bump; rw [cut_last, List.dropLast_concat]
        try dsimp only
        refine s_asg (v := .str (bump p c (t + 1))) (ev_is (ev_op (ev_is (ev_slS (ev_var (i := 4) rfl) eo_none (eo_some (i := -1) (ev_un ev_c ru_neg)) (by omega)) (congrArg V.str cut)) (ev_op (ev_var (i := 1) rfl) (ev_op (ev_int (ev_op (ev_letIx (ev_var (i := 1) rfl) (ev_op (ev_var (i := 4) rfl) (ev_un ev_c ru_neg) (rv_ixS (by omega) at1)) (by omega)) ev_c rv_I0)) ev_c (rv_I (show (0 : Int) < 26 by decide))) (rv_ixS (w := LET) (by decide) (let_at m0))) (rv_addS (by rw [txt_len, txt_one, txt_len]; show p.length + 1 ≤ 100000; omega))) ?_) fun G3 g3 => ⟨_, _, rfl, eG'.trans (g2.trans g3), bump_word hp hpa, .inr ⟨rfl, fun s hs => ?_⟩⟩
        · rw [← bump_next, show (((97 + (c + t) % 26 - 97 : Nat) : Int) + 1) % 26 = (((97 + (c + t) % 26 - 97 + 1) % 26 : Nat) : Int) by omega, Int.toNat_natCast]
        · by_cases e : s = t
          · subst e; exact h
          · exact hall s (by omega)
      rintro σ' G' ⟨w, v5, rfl, eG', hww, hor⟩
      have hout : w ∉ zs := hor.elim id fun h => (bumps_out (by omega) h.2).elim
      try dsimp only
      refine s_app (xs := zs.map V.str) (eG' _ _ hz) (ev_var (i := 2) rfl) (ev_var (i := 4) rfl) (by rw [List.length_map]; omega) fun G3 g3 => ⟨_, _, _, zs ++ [w], rfl, Ex.mut (eG.trans (eG'.trans g3)) np0, by rw [upd_same, List.map_append]; rfl, by rw [List.length_append, hzl]; rfl, ?_, fun z hz' => ?_⟩
      · exact List.nodup_append.mpr ⟨hzd, List.pairwise_singleton _ _, fun x hx y hy e => hout (by rw [← List.mem_singleton.mp hy, ← e]; exact hx)⟩
      · rcases List.mem_append.mp hz' with h | h
        · exact hzw z h
        · rw [List.mem_singleton.mp h]; exact hww
    rintro σ' G ⟨v3, v4, v5, zs, rfl, eG, hz, hzl, hzd, hzw⟩
    rw [List.length_map] at hzl
    exact ⟨_, rfl, k np G zs eG hz hzl hzd hzw⟩

def spGates (K : PySem.W.Frag) : Sp := fun vs H Q _ => ∃ (a b : Addr) (ns ss : List Int), vs = [.ref a, .ref b] ∧ SqL K H a (ns.map V.int) ∧ SqL K H b (ss.map V.int) ∧ ns.length ≤ 7 ∧ ns.length ≤ ss.length ∧ (∀ s ∈ ss, 0 ≤ s ∧ s ≤ 60) ∧ ∀ v H' (gs : List (Str × Int)), Ex H H' → NewP (fun G => ∃ p, v = .ref p ∧ Gates K G p gs) H H' → gs.length = ns.length → (gs.map (·.1)).Nodup → (∀ g ∈ gs, Word g.1 ∧ 0 ≤ g.2 ∧ g.2 ≤ 60) → gs.map (·.2) = ss.take ns.length → Q v H' 
theorem ok_u_law_gates (T : Txt K mg A) : FnOk P w K mg base CX0 3 A.f_u_law_gates A.d_u_law_gates (["numbers", "stakes"] : List Str) (spGates K) := by
  refine T.F_u_law_gates.ok sc_u_law_gates (fun vs H Q E h => ?_) (fun cdv Ar outer s H vs Q E hr h => ?_)
  · obtain ⟨a, b, ns, ss, rfl, _⟩ := h
    rfl
  · obtain ⟨a, b, ns, ss, rfl, hS, hT, hl, hls, hss, k⟩ := h
    refine ⟨_, (pss_cons (ps_set (i := 2) sc_u_law_gates.nd rfl (Or.inr rfl) (pe_call (ok_u_law_names T) (hr.mono (by omega)) rfl T.g_u_law_names T.k_u_law_names (b_u_law_names T) .nil pass0 (pa_cons (pv 0) pa_nil)))
        (pss_one (ps_ret (pe_lc (own := [("k", 3)]) (g := gName 3) (tt := tYes) rfl sc_u_law_gates.nd (pi_range1 rfl T.z_range (pa_cons (pe_callB len_K (by rfl) T.z_len (by decide +kernel) (pa_cons (pv 2) pa_nil)) pa_nil)) (blkOk_by (own := [("k", 3)]) (N := N_u_law_gates) (sc := defScope s_u_law_gates) (by decide +kernel)) (fun _ _ _ _ _ => (pg_name (i := 3) sc_u_law_gates.nd rfl (Or.inl rfl))) (fun _ _ _ _ _ => pts_nil) (fun _ _ _ _ _ => (pe_tup (pa_cons (pe_ix ix_lK (pv 2) (pv 3) (fun _ _ => rfl)) (pa_cons (pe_ix ix_lK (pv 1) (pv 3) (fun _ _ => rfl)) pa_nil)))))))), ?_⟩
    try dsimp only
    refine q_asgR (er_names (K := K) (er_ev (ev_var (i := 0) rfl) fun H1 e => ⟨_, rfl, ex_l e hS⟩) hl) fun v H1 e1 hv => ?_
    obtain ⟨np, zs, rfl, hz, hzl, hzd, hzw⟩ := hv
    let gs : List (Str × Int) := (List.range zs.length).map fun k => (zs.getD k "", ss.getD k 0)
    have gsl : gs.length = ns.length := by simp [gs, hzl]
    have gse : gs.map (·.1) = zs := by
      show List.map _ (List.map _ _) = _
      rw [List.map_map]
      refine List.ext_getElem (by simp) fun i h1 h2 => ?_
      simp [List.getD_eq_getElem?_getD, List.getElem?_eq_getElem h2]
    have gsg : ∀ g ∈ gs, Word g.1 ∧ 0 ≤ g.2 ∧ g.2 ≤ 60 := fun g hg => by
      obtain ⟨i, hi, rfl⟩ := List.mem_map.mp hg
      have hi := List.mem_range.mp hi
      have h1 : zs.getD i "" ∈ zs := in_getD hi
      have h2 : ss.getD i 0 ∈ ss := in_getD (by omega)
      exact ⟨hzw _ h1, hss _ h2⟩
    have lc := en_lc (wi := iRng1 (tCons (tCB (rLenK K) (tCons (tVar 2) tNil)) tNil)) (g := gName 3) (te := tTup (tCons (tOp (rIxL K) (tVar 2) (tVar 3)) (tCons (tOp (rIxL K) (tVar 1) (tVar 3)) tNil))) (σ := [some (.ref a), some (.ref b), some (.ref np), none]) (H := H1) (n := zs.length) (vs := [3]) (fun k v G => ∃ t, v = .ref t ∧ G t = some (.tup [.str (zs.getD k ""), .int (ss.getD k 0)]))
      (by have e := ei_rng1 (σ := [some (.ref a), some (.ref b), some (.ref np), none]) (H := H1) (ta := tCons (tCB (rLenK K) (tCons (tVar 2) tNil)) tNil) (n := (zs.length : Int)) (ea_cons (ev_cb (r := rLenK K) (ea_cons (ev_var (i := 2) rfl) ea_nil) fun H2 e2 Q q => ⟨.ref np, zs.length, rfl, .inl ⟨_, sq_of (e2 _ _ hz), (List.length_map _).symm⟩, q H2 (Ex.refl H2)⟩) ea_nil) (by omega); rw [Int.toNat_natCast] at e; exact e)
      (by omega) bd_fn (fun i _ => rfl) (fun i H2 hi e2 => by
        have x1 : (zs.map V.str)[i]? = some (.str (zs.getD i "")) := by rw [List.getElem?_map, List.getD_eq_getElem?_getD, List.getElem?_eq_getElem hi]; rfl
        have x2 : (ss.map V.int)[i]? = some (.int (ss.getD i 0)) := by rw [List.getElem?_map, List.getD_eq_getElem?_getD, List.getElem?_eq_getElem (by omega)]; rfl
        exact fun H3 e3 Q q => eu_tup (ea_cons (ev_op (ev_var (i := 2) rfl) (ev_var (i := 3) rfl) (rv_ixL (K := K) (sq_of (e2 _ _ hz)) (atI_nat x1))) (ea_cons (ev_op (ev_var (i := 1) rfl) (ev_var (i := 3) rfl) (rv_ixL (K := K) (ex_l (e1.trans e2) hT) (atI_nat x2))) ea_nil)) (by show 2 ≤ 100000; decide) H3 e3 Q fun p H4 hp e4 h4 => q _ H4 e4 fun G g => ⟨p, rfl, g p _ hp h4⟩)
    try dsimp only
    have gst : gs.map (·.2) = ss.take ns.length := by
      show List.map _ (List.map _ _) = _
      rw [List.map_map]
      refine List.ext_getElem (by simp; omega) fun i h1 h2 => ?_
      have hi : i < ss.length := by rw [List.length_take] at h2; omega
      simp [List.getD_eq_getElem?_getD, List.getElem?_eq_getElem hi]
    refine lc H1 (Ex.refl _) _ fun v H2 e2 hv => k v H2 gs (e1.trans e2) ?_ gsl (by rw [gse]; exact hzd) gsg gst
    intro G g
    obtain ⟨p, vs, rfl, hp, hvl, hall⟩ := hv G fun b o hb h => g b o (fresh_back e1 hb) h
    refine ⟨p, rfl, ⟨vs, SqL.of hp, by simp [gs, hvl], fun i v hv => ?_⟩⟩
    obtain ⟨t, rfl, ht⟩ := hall i v hv
    refine ⟨t, rfl, fun g' hg' => ?_⟩
    have hi : i < zs.length := by have := (List.getElem?_eq_some_iff.mp hv).1; omega
    have : gs[i]? = some (zs.getD i "", ss.getD i 0) := by simp [gs, hi]
    rw [this] at hg'
    cases hg'
    exact st_of ht

structure GoodG (gs : List (Str × Int)) (m : Nat) : Prop where
  len : gs.length = m
  nd : (gs.map (·.1)).Nodup
  all : ∀ g ∈ gs, Word g.1 ∧ 0 ≤ g.2 ∧ g.2 ≤ 60

theorem ei_rngN {σ : L2.St} {H : Hp} {ta : TA} {n : Nat} (h : EvA ta σ H [.int (n : Int)]) (hn : n ≤ 40000) : EvI (iRng1 ta) σ H n (YFn fun i => .int (i : Int)) := by
  have r := ei_rng1 h (by omega)
  rw [Int.toNat_natCast] at r
  exact r
theorem ev_ixl {K : PySem.W.Frag} {tl ti : TE} {σ : L2.St} {H : Hp} {xs : List Int} {i : Int} (hl : EvL tl σ H (xs.map V.int)) (hi : Ev ti σ H (.int i)) (hb : 0 ≤ i ∧ i < (xs.length : Int)) : Ev (tOp (rIxL K) tl ti) σ H (.int (xs.getD i.toNat 0)) := fun H1 e Q q => hl H1 e _ fun p H2 _ e2 h2 => hi H2 (e.trans e2) _ fun H3 e3 =>
  ⟨p, _, i, _, rfl, rfl, sq_of (e3 _ _ h2), atI_ints hb.1 hb.2, q H3 (e2.trans e3)⟩
theorem en_U {te : TE} {σ : L2.St} {H : Hp} {xs : List V} (h : EvU te σ H xs) : EvNew te σ H fun v G => ∃ t, v = .ref t ∧ G t = some (.tup xs) := fun H1 e Q q => h H1 e _ fun p H2 hp e2 h2 => q _ H2 e2 fun G g => ⟨p, rfl, g p _ hp h2⟩
theorem en_houseG {K : PySem.W.Frag} {A : Ads} {E : XK} {σ : L2.St} {H : Hp} {t1 t2 : TE} {n : Int} {m : Nat} {gs : List (Str × Int)} (h1 : Ev t1 σ H (.int n)) (h2 : EvNew t2 σ H fun v G => ∃ p, v = .ref p ∧ Gates K G p gs) (hg : GoodG gs m) (hn : 1 ≤ n ∧ n ≤ 24) (hm : 1 ≤ m ∧ m ≤ 4) (hc : n * (m : Int) ≤ 48) :
    EvNew (tMake A.C_House (spHouse K A) [] E (tCons t1 (tCons t2 tNil))) σ H fun v G => HouseIs A.C_House v G n gs := fun H1 e Q q => h1 H1 e _ fun H2 e2 => h2 H2 (e.trans e2) _ fun v H3 e3 hv => by
  obtain ⟨p, rfl, hG⟩ := hv.self
  intro x dx hx hdx hne
  have eN : Ex H3 (upd (upd H3 dx (.own x)) x (.ins A.C_House dx [])) := (Ex.new hdx).trans (Ex.new (by rw [upd_ne (Ne.symm hne)]; exact hx))
  have good := house_good hn (by rw [hg.len]; exact hm) hg.all hg.nd (by rw [hg.len]; exact hc)
  refine ⟨x, dx, p, n, gs, rfl, upd_same, hG.ex eN, by rw [hg.len]; omega, (fun g hm => by have := (hg.all g hm).1.len; omega), (fun er he => by rw [good] at he; cases he), fun _ np kp H' hk hn1 hn2 f1 f2 f3 => ⟨rfl, ?_⟩⟩
  have e' : Ex H3 H' := fun c o hc => hk c o (fun z => by rw [z, hx] at hc; cases hc) (eN c o hc)
  have e23 := e2.trans e3
  exact q _ H' (e23.trans e') fun G g => ⟨x, dx, np, kp, rfl, g _ _ (fresh_back e23 hx) f1, g _ _ (fresh_back (e23.trans eN) hn1) f2, g _ _ (fresh_back (e23.trans eN) hn2) f3⟩
theorem en_copyR {K : PySem.W.Frag} {te : TE} {σ : L2.St} {H : Hp} {p : Addr} {xs : List V} (h : Ev te σ H (.ref p)) (hp : SqL K H p xs) : EvNew (tCB (rListK K) (tCons te tNil)) σ H fun v G => ∃ t, v = .ref t ∧ G t = some (.lst xs) := fun H1 e Q q =>
  h H1 e _ fun H2 e2 => ⟨p, xs, rfl, .inl (ex_l (e.trans e2) hp), fun l hl => q _ _ (e2.trans (Ex.new hl)) fun G g => ⟨l, rfl, g l _ (fresh_back e2 hl) upd_same⟩⟩
theorem list_getD_ext {xs ys : List Int} {n : Nat} (hx : xs.length = n) (hy : ys.length = n) (h : ∀ i, i < n → xs.getD i 0 = ys.getD i 0) : xs = ys := by
  refine List.ext_getElem (by omega) fun i h1 h2 => ?_
  have := h i (by omega)
  rw [List.getD_eq_getElem?_getD, List.getD_eq_getElem?_getD, List.getElem?_eq_getElem h1, List.getElem?_eq_getElem h2] at this
  exact this

def spNumber : Sp := fun vs H Q _ => ∃ (c s : Int), vs = [.int c, .int s] ∧ 0 ≤ c ∧ (-1000000 ≤ s ∧ s ≤ 1000000) ∧ ∀ z H', Ex H H' → Q (.int z) H'
theorem el_copyB {K : PySem.W.Frag} {te : TE} {σ : L2.St} {H : Hp} {p : Addr} {xs : List V} (h : Ev te σ H (.ref p)) (hp : SqL K H p xs) : EvL (tCB (rListK K) (tCons te tNil)) σ H xs := fun H1 e Q q =>
  h H1 e _ fun H2 e2 => ⟨p, xs, rfl, .inl (ex_l (e.trans e2) hp), fun l hl => q l _ (fresh_back e2 hl) (e2.trans (Ex.new hl)) upd_same⟩
theorem s_pop {K : PySem.W.Frag} {ta : TE} {D : Ends} {σ : L2.St} {H : Hp} {l : Addr} {xs : List V} (hl : H l = some (.lst xs)) (ha : Ev ta σ H (.ref l)) (hn : 0 < xs.length) (k : ∀ H1, Ex H H1 → D.nx σ (upd H1 l (.lst xs.dropLast))) : tDrop (tBM0 K "list" rPop ta) D σ H :=
  ha H (Ex.refl H) _ fun H1 e1 => ⟨Or.inl ⟨rfl, xs, sq_of (e1 l _ hl)⟩, l, xs, xs[xs.length - 1], rfl, rfl, e1 l _ hl, List.getElem?_eq_getElem (by omega), k H1 e1⟩
theorem s_appR {K : PySem.W.Frag} {ta te : TE} {D : Ends} {σ : L2.St} {H : Hp} {l : Addr} {xs : List V} {P : V → Hp → Prop} (hl : H l = some (.lst xs)) (ha : Ev ta σ H (.ref l)) (h : EvR te σ H P) (hz : xs.length < 100000) (k : ∀ v H1, Ex H H1 → P v H1 → D.nx σ (upd H1 l (.lst (xs ++ [v])))) :
    tDrop (tBM K "list" rAppend ta (tCons te tNil)) D σ H := ha H (Ex.refl H) _ fun H1 e1 => ⟨Or.inl ⟨rfl, xs, sq_of (e1 l _ hl)⟩, h H1 e1 _ fun v H2 e2 hv => ⟨l, xs, v, rfl, rfl, e2 l _ (e1 l _ hl), sz_lt hz, k v H2 (e1.trans e2) hv⟩⟩
theorem ok_u_law_number (T : Txt K mg A) : FnOk P w K mg base CX0 2 A.f_u_law_number A.d_u_law_number (["cell", "salt"] : List Str) spNumber := by
  refine T.F_u_law_number.ok sc_u_law_number (fun vs H Q E h => ?_) (fun cdv Ar outer s H vs Q E hr h => ?_)
  · obtain ⟨c, s, rfl, _⟩ := h
    rfl
  · obtain ⟨c, sa, rfl, hc, hs, k⟩ := h
    refine ⟨_, (pss_cons (ps_set (i := 2) sc_u_law_number.nd rfl (Or.inl rfl) (pe_call (ok_u_law_draws T) (hr.mono (by omega)) rfl T.g_u_law_draws T.k_u_law_draws (b_u_law_draws T) .nil pass0 (pa_cons (pv 0) (pa_cons (pv 1) (pa_cons (pe_lst (pa_cons pe_int (pa_cons pe_int (pa_cons pe_int (pa_cons (pe_op op_pow pe_int pe_int) pa_nil))))) pa_nil)))))
        (pss_cons (ps_set (i := 3) sc_u_law_number.nd rfl (Or.inl rfl) (pe_ix ix_lK (pe_lst (pa_cons (pe_ix ix_lK (pv 2) pe_int (fun _ _ => rfl)) (pa_cons (pe_ix ix_lK (pv 2) pe_int (fun _ _ => rfl)) pa_nil))) (pe_ix ix_lK (pv 2) pe_int (fun _ _ => rfl)) (fun _ _ => rfl)))
        (pss_one (ps_ret (pe_ix ix_lK (pe_lst (pa_cons (pv 3) (pa_cons (pe_op op_sub pe_int (pv 3)) pa_nil))) (pe_ix ix_lK (pv 2) pe_int (fun _ _ => rfl)) (fun _ _ => rfl)))))), ?_⟩
    try dsimp only
    refine q_asgR (er_draws (K := K) (ms := [2, 2, 60, 10 ^ 59]) (ev_var (i := 0) rfl) (ev_var (i := 1) rfl) (el_lst (ea_cons ev_c (ea_cons ev_c (ea_cons ev_c (ea_cons (ev_op ev_c ev_c (rv_I (show CPow 10 59 from ⟨by decide, by decide, by decide⟩))) ea_nil)))) (by show 4 ≤ 100000; decide)) hc hs (by decide) (by decide +kernel)) fun v H1 e1 hp => ?_
    obtain ⟨dp, ds, rfl, hd, hD⟩ := hp
    have dl : ds.length = 4 := hD.1
    have d0 : 0 ≤ ds.getD 0 0 ∧ ds.getD 0 0 < 2 := drawn_at hD rfl
    have d1 : 0 ≤ ds.getD 1 0 ∧ ds.getD 1 0 < 2 := drawn_at hD rfl
    clear hD
    have dE : ∀ {σ : L2.St} {G : Hp} {te : TE} {i : Int}, σ[2]? = some (some (.ref dp)) → Ex H1 G → Ev te σ G (.int i) → 0 ≤ i → i < 4 → Ev (tOp (rIxL K) (tVar 2) te) σ G (.int (ds.getD i.toNat 0)) := fun h e he h0 h1 => ev_op (ev_var h) he (rv_ixL (K := K) (sq_of (e _ _ hd)) (atI_ints h0 (by rw [dl]; omega)))
    try dsimp only
    refine q_asg (v := .int (([ds.getD 2 0, ds.getD 3 0] : List Int).getD (ds.getD 1 0).toNat 0)) (ev_ixl (K := K) (xs := [ds.getD 2 0, ds.getD 3 0]) (el_lst (ea_cons (dE rfl (Ex.refl _) ev_c (by decide) (by decide)) (ea_cons (dE rfl (Ex.refl _) ev_c (by decide) (by decide)) ea_nil)) (by show 2 ≤ 100000; decide)) (dE rfl (Ex.refl _) ev_c (by decide) (by decide)) d1) fun H2 e2 => ?_
    generalize ([ds.getD 2 0, ds.getD 3 0] : List Int).getD (ds.getD 1 0).toNat 0 = z
    exact s_ret (ev_ixl (K := K) (xs := [z, 0 - z]) (el_lst (ea_cons (ev_var (i := 3) rfl) (ea_cons (ev_op ev_c (ev_var (i := 3) rfl) rv_I0) ea_nil)) (by show 2 ≤ 100000; decide)) (dE rfl e2 ev_c (by decide) (by decide)) d0) fun H3 e3 => k _ H3 ((e1.trans e2).trans e3)

theorem set_same {α : Type} {xs : List α} {i : Nat} {x : α} (h : xs[i]? = some x) : xs.set i x = xs := by
  obtain ⟨hi, rfl⟩ := List.getElem?_eq_some_iff.mp h
  exact List.set_getElem_self hi
theorem RowsM.put {H0 H : Hp} {p : Addr} {qs : List (Addr × List Int)} {i j : Nat} {q : Addr × List Int} {z : Int} (h : RowsM H0 H p qs) (hi : qs[i]? = some q) : RowsM H0 (upd H q.1 (.lst ((q.2.set j z).map V.int))) p (qs.set i (q.1, q.2.set j z)) := by
  have hq := h.2.2.2 q (List.mem_of_getElem? hi)
  refine ⟨h.1, ?_, ?_, fun y hy => ?_⟩
  · rw [upd_ne (Ne.symm hq.1), h.2.1, List.map_set, set_same (by rw [List.getElem?_map, hi]; rfl)]
  · rw [List.map_set, set_same (by rw [List.getElem?_map, hi]; rfl)]
    exact h.2.2.1
  · obtain ⟨k, hk⟩ := List.getElem?_of_mem hy
    rw [List.getElem?_set] at hk
    by_cases c : i = k
    · subst c
      rw [if_pos rfl, if_pos (List.getElem?_eq_some_iff.mp hi).1] at hk
      cases hk
      exact ⟨hq.1, hq.2.1, upd_same⟩
    · rw [if_neg c] at hk
      have hy' := h.2.2.2 y (List.mem_of_getElem? hk)
      have ne : y.1 ≠ q.1 := by
        obtain ⟨hi', rfl⟩ := List.getElem?_eq_some_iff.mp hi
        obtain ⟨hk', rfl⟩ := List.getElem?_eq_some_iff.mp hk
        have nd := List.pairwise_iff_getElem.mp h.2.2.1
        rcases Nat.lt_or_gt_of_ne c with c | c
        · have := nd i k (by simpa using hi') (by simpa using hk') c
          simpa using this.symm
        · have := nd k i (by simpa using hk') (by simpa using hi') c
          simpa using this
      exact ⟨hy'.1, hy'.2.1, by rw [upd_ne ne]; exact hy'.2.2⟩

/-! ### a walk counted guard by guard -/
theorem back_mod {n h j : Nat} {x : Int} (hh : h < n) (hj : j < n) : ((h : Int) - x) % (n : Int) = (j : Int) ↔ (h : Int) = (x + (j : Int)) % (n : Int) := by
  have a1 : (h : Int) % (n : Int) = (h : Int) := Int.emod_eq_of_lt (by omega) (by omega)
  have a2 : (j : Int) % (n : Int) = (j : Int) := Int.emod_eq_of_lt (by omega) (by omega)
  constructor
  · intro e
    rw [← e, Int.add_emod, Int.emod_emod, ← Int.add_emod, show x + ((h : Int) - x) = (h : Int) by omega, a1]
  · intro e
    rw [e, Int.sub_emod, Int.emod_emod, ← Int.sub_emod, show x + (j : Int) - x = (j : Int) by omega, a2]
def pw (n : Nat) (ss xs : List Int) (i j : Nat) (g h : Int) : Int := fit (n : Int) (lotOf n ss g) (xs.take i) h + if (h - xs.getD i 0) % (n : Int) < (j : Int) ∧ ss.getD ((h - xs.getD i 0) % (n : Int)).toNat 0 = g then 1 else 0
def pwL (n : Nat) (ss xs : List Int) (i j : Nat) (g : Int) : List Int := (List.range n).map fun h : Nat => pw n ss xs i j g (h : Int)
theorem pwL_len {n : Nat} {ss xs : List Int} {i j : Nat} {g : Int} : (pwL n ss xs i j g).length = n := by simp [pwL]
theorem pwL_at {n : Nat} {ss xs : List Int} {i j h : Nat} {g : Int} (hh : h < n) : (pwL n ss xs i j g).getD h 0 = pw n ss xs i j g (h : Int) := by
  unfold pwL
  rw [List.getD_eq_getElem?_getD, List.getElem?_map, List.getElem?_range hh]
  rfl
theorem pwL_zero {n : Nat} {ss xs : List Int} {i : Nat} {g : Int} (hn : 1 ≤ n) : pwL n ss xs i 0 g = rowL n ss (xs.take i) g := by
  unfold pwL rowL fitL
  rw [Int.toNat_natCast]
  refine List.map_congr_left fun h _ => ?_
  have m0 := Int.emod_nonneg ((h : Int) - xs.getD i 0) (b := (n : Int)) (by omega)
  unfold pw
  rw [if_neg (by omega)]
  omega
theorem pwL_full {n : Nat} {ss xs : List Int} {i : Nat} {g : Int} (hn : 1 ≤ n) (hi : i < xs.length) : pwL n ss xs i n g = rowL n ss (xs.take (i + 1)) g := by
  unfold pwL rowL fitL
  rw [Int.toNat_natCast]
  refine List.map_congr_left fun h _ => ?_
  have m0 := Int.emod_nonneg ((h : Int) - xs.getD i 0) (b := (n : Int)) (by omega)
  have m1 := Int.emod_lt_of_pos ((h : Int) - xs.getD i 0) (b := (n : Int)) (by omega)
  have tk : xs.take (i + 1) = xs.take i ++ [xs.getD i 0] := by
    rw [List.take_succ_eq_append_getElem hi, List.getD_eq_getElem?_getD, List.getElem?_eq_getElem hi]
    rfl
  unfold pw fit
  rw [tk, List.filter_append, List.length_append, Int.natCast_add, List.filter_cons, List.filter_nil]
  by_cases c : ss.getD (((h : Int) - xs.getD i 0) % (n : Int)).toNat 0 = g
  · rw [if_pos ⟨m1, c⟩, if_pos (decide_eq_true (mem_lotOf.mpr ⟨⟨m0, m1⟩, c⟩))]
    rfl
  · rw [if_neg (fun z => c z.2), if_neg (fun z => c (mem_lotOf.mp (of_decide_eq_true z)).2)]
    rfl
theorem pwL_other {n : Nat} {ss xs : List Int} {i j : Nat} {g : Int} (hn : 1 ≤ n) (hg : ss.getD j 0 ≠ g) : pwL n ss xs i (j + 1) g = pwL n ss xs i j g := by
  refine List.map_congr_left fun h _ => ?_
  have m0 := Int.emod_nonneg ((h : Int) - xs.getD i 0) (b := (n : Int)) (by omega)
  unfold pw
  congr 1
  by_cases c : ((h : Int) - xs.getD i 0) % (n : Int) = (j : Int)
  · rw [if_neg (fun z => hg (by rw [← z.2, c, Int.toNat_natCast])), if_neg (fun z => by have := z.1; omega)]
  · by_cases d : ((h : Int) - xs.getD i 0) % (n : Int) < (j : Int)
    · simp only [d, show ((h : Int) - xs.getD i 0) % (n : Int) < ((j + 1 : Nat) : Int) by omega]
    · rw [if_neg (fun z => by have := z.1; omega), if_neg (fun z => d z.1)]
theorem pwL_set {n : Nat} {ss xs : List Int} {i j : Nat} {g : Int} (hn : 1 ≤ n) (hj : j < n) (hg : ss.getD j 0 = g) : (pwL n ss xs i j g).set ((xs.getD i 0 + (j : Int)) % (n : Int)).toNat ((pwL n ss xs i j g).getD ((xs.getD i 0 + (j : Int)) % (n : Int)).toNat 0 + 1) = pwL n ss xs i (j + 1) g := by
  have a0 := Int.emod_nonneg (xs.getD i 0 + (j : Int)) (b := (n : Int)) (by omega)
  have a1 := Int.emod_lt_of_pos (xs.getD i 0 + (j : Int)) (b := (n : Int)) (by omega)
  refine list_getD_ext (n := n) (by rw [List.length_set, pwL_len]) pwL_len fun h hh => ?_
  have m0 := Int.emod_nonneg ((h : Int) - xs.getD i 0) (b := (n : Int)) (by omega)
  rw [pwL_at hh, List.getD_eq_getElem?_getD, List.getElem?_set]
  have bm := back_mod (x := xs.getD i 0) hh hj
  by_cases c : ((xs.getD i 0 + (j : Int)) % (n : Int)).toNat = h
  · have c' : ((h : Int) - xs.getD i 0) % (n : Int) = (j : Int) := bm.mpr (by omega)
    rw [if_pos c, if_pos (by rw [pwL_len]; omega), c, pwL_at hh]
    show pw n ss xs i j g h + 1 = _
    unfold pw
    rw [c', Int.toNat_natCast, if_neg (by omega), if_pos ⟨by omega, hg⟩]
    omega
  · have c' : ¬ ((h : Int) - xs.getD i 0) % (n : Int) = (j : Int) := fun z => c (by have := bm.mp z; omega)
    rw [if_neg c, ← List.getD_eq_getElem?_getD, pwL_at hh]
    unfold pw
    congr 1
    by_cases d : ((h : Int) - xs.getD i 0) % (n : Int) < (j : Int)
    · simp only [d, show ((h : Int) - xs.getD i 0) % (n : Int) < ((j + 1 : Nat) : Int) by omega]
    · rw [if_neg (fun z => d z.1), if_neg (fun z => by have := z.1; omega)]

theorem walk_set {n m : Nat} {ss xs : List Int} {i j g0 : Nat} (hn : 1 ≤ n) (hj : j < n) (hg : ss.getD j 0 = (g0 : Int)) (hm : g0 < m) : ((List.range m).map fun g : Nat => pwL n ss xs i j (g : Int)).set g0 ((pwL n ss xs i j (g0 : Int)).set ((xs.getD i 0 + (j : Int)) % (n : Int)).toNat ((pwL n ss xs i j (g0 : Int)).getD ((xs.getD i 0 + (j : Int)) % (n : Int)).toNat 0 + 1)) = (List.range m).map fun g : Nat => pwL n ss xs i (j + 1) (g : Int) := by
  refine List.ext_getElem (by simp) fun k h1 h2 => ?_
  rw [List.getElem_set]
  by_cases c : g0 = k
  · subst c
    rw [if_pos rfl, pwL_set hn hj hg]
    simp
  · rw [if_neg c]
    simp only [List.getElem_map, List.getElem_range]
    exact (pwL_other hn (by rw [hg]; omega)).symm
theorem s_appL {K : PySem.W.Frag} {ta te : TE} {D : Ends} {σ : L2.St} {H : Hp} {l : Addr} {xs ys : List V} (hl : H l = some (.lst xs)) (ha : Ev ta σ H (.ref l)) (h : EvL te σ H ys) (hz : xs.length < 100000) (k : ∀ b H1, H b = none → Ex H H1 → H1 b = some (.lst ys) → D.nx σ (upd H1 l (.lst (xs ++ [.ref b])))) :
    tDrop (tBM K "list" rAppend ta (tCons te tNil)) D σ H := ha H (Ex.refl H) _ fun H1 e1 => ⟨Or.inl ⟨rfl, xs, sq_of (e1 l _ hl)⟩, h H1 e1 _ fun b H2 hb e2 h2 => ⟨l, xs, .ref b, rfl, rfl, e2 l _ (e1 l _ hl), sz_lt hz, k b H2 (fresh_back e1 hb) (e1.trans e2) h2⟩⟩

def spWalked (K : PySem.W.Frag) : Sp := fun vs H Q _ => ∃ (p q : Addr) (n m : Nat) (ss xs : List Int), vs = [.ref p, .ref q, .int (m : Int)] ∧ SqL K H p (ss.map V.int) ∧ SqL K H q (xs.map V.int) ∧ ss.length = n ∧ (1 ≤ n ∧ n ≤ 100) ∧ m ≤ 100 ∧ xs.length ≤ 1000 ∧ (∀ x ∈ ss, -1 ≤ x ∧ x < (m : Int)) ∧ ∀ r H', Ex H H' → RowsL K H' r ((List.range m).map fun g : Nat => rowL n ss xs (g : Int)) → Q (.ref r) H' 
theorem ok_u_law_walked (T : Txt K mg A) : FnOk P w K mg base CX0 1 A.f_u_law_walked A.d_u_law_walked (["steps", "starts", "count"] : List Str) (spWalked K) := by
  refine T.F_u_law_walked.ok sc_u_law_walked (fun vs H Q E h => ?_) (fun cdv Ar outer s H vs Q E hr h => ?_)
  · obtain ⟨p, q, n, m, ss, xs, rfl, _⟩ := h
    rfl
  · obtain ⟨p, q, n, m, ss, xs, rfl, hp, hq, hl, hn, hm, hx, hv, k⟩ := h
    refine ⟨_, (pss_cons (ps_set (i := 3) sc_u_law_walked.nd rfl (Or.inl rfl) (pe_callB len_K (by rfl) T.z_len (by decide +kernel) (pa_cons (pv 0) pa_nil)))
        (pss_cons (ps_set (i := 4) sc_u_law_walked.nd rfl (Or.inl rfl) (pe_lst pa_nil))
        (pss_cons (ps_for PassesOwn.never rfl (pi_range1 rfl T.z_range (pa_cons (pv 2) pa_nil)) (pg_name (i := 5) sc_u_law_walked.nd rfl (Or.inl rfl)) (pss_one (ps_expr (pe_bm PySem.F.plainAttrs_list PySem.F.slot_list_append PySem.F.type_list_append mt_append (pv 4) (pa_cons (pe_lc (own := [("h", 6)]) (g := gName 6) (tt := tYes) rfl sc_u_law_walked.nd (pi_range1 rfl T.z_range (pa_cons (pv 3) pa_nil)) (blkOk_by (own := [("h", 6)]) (N := N_u_law_walked) (sc := defScope s_u_law_walked) (by decide +kernel)) (fun _ _ _ _ _ => (pg_name (i := 6) sc_u_law_walked.nd rfl (Or.inl rfl))) (fun _ _ _ _ _ => pts_nil) (fun _ _ _ _ _ => pe_int)) pa_nil)))))
        (pss_cons (ps_for PassesOwn.never rfl (pi_listK (pv 1)) (pg_name (i := 7) sc_u_law_walked.nd rfl (Or.inl rfl)) (pss_one (ps_for PassesOwn.never rfl (pi_range1 rfl T.z_range (pa_cons (pv 3) pa_nil)) (pg_name (i := 8) sc_u_law_walked.nd rfl (Or.inl rfl)) (pss_one (ps_if (pt_cmpR op_ge (pe_ix ix_lK (pv 0) (pv 8) (fun _ _ => rfl)) pe_int (nomark _)) (pss_cons (ps_set (i := 9) sc_u_law_walked.nd rfl (Or.inl rfl) (pe_ix ix_lK (pv 4) (pe_ix ix_lK (pv 0) (pv 8) (fun _ _ => rfl)) (fun _ _ => rfl)))
        (pss_one (ps_asg (pe_op op_add (pe_ix ix_lK (pv 9) (pe_op op_mod (pe_callTy call_int1 (by rfl) T.z_int (by decide +kernel) (pa_cons (pe_op op_add (pv 7) (pv 8)) pa_nil)) (pv 3)) (fun _ _ => rfl)) pe_int) (pg_sub (pv 9) (pe_op op_mod (pe_callTy call_int1 (by rfl) T.z_int (by decide +kernel) (pa_cons (pe_op op_add (pv 7) (pv 8)) pa_nil)) (pv 3)) set_list)))) pss_nil)))))
        (pss_one (ps_ret (pv 4))))))), ?_⟩
    try dsimp only
    refine q_asg (v := .int (n : Int)) (ev_cb (r := rLenK K) (ea_cons (ev_var (i := 0) rfl) ea_nil) fun H2 e2 Q q => ⟨.ref p, n, rfl, .inl ⟨_, ex_l e2 hp, by rw [List.length_map, hl]⟩, q H2 (Ex.refl H2)⟩) fun H1 e1 => ?_
    try dsimp only
    refine q_asgL (xs := []) (el_lst ea_nil (by decide)) fun rp H2 hrp e2 h2 => ?_
    have hp1 := ex_l e1 hp
    have hq1 := ex_l e1 hq
    have npos : (0 : Int) < (n : Int) := by omega
    have rows0 : ∀ g : Int, rowL n ss [] g = List.replicate n 0 := fun g => by
      unfold rowL fitL
      rw [Int.toNat_natCast]
      exact List.ext_getElem (by simp) fun i h1 h2 => by simp [fit]
    try dsimp only
    refine q_forR1 (j := 5) (n := (m : Int)) (ea_cons (ev_var (i := 2) rfl) ea_nil) (by omega)
      (fun i σ' G => ∃ (v5 v6 : Option V) (qs : List (Addr × List Int)), σ' = [some (.ref p), some (.ref q), some (.int (m : Int)), some (.int (n : Int)), some (.ref rp), v5, v6, none, none, none] ∧ Ex H1 G ∧ RowsM H1 G rp qs ∧ qs.map (·.2) = (List.range i).map fun _ => List.replicate n (0 : Int))
      (fun H3 e3 => ⟨none, none, [], rfl, e2.trans e3, ⟨hrp, e3 _ _ h2, .nil, fun y hy => by cases hy⟩, rfl⟩) ?_ ?_
    · rintro i σ' G hi ⟨v5, v6, qs, rfl, eG, hM, hqs⟩
      have ql : qs.length = i := by have := congrArg List.length hqs; simpa using this
      try dsimp only
      refine s_appL hM.2.1 (ev_var (i := 4) rfl) (ys := (List.replicate n (0 : Int)).map V.int) (el_isW (el_rngY (n := n) (fun _ => V.int 0) (ea_cons (ev_var (i := 3) rfl) ea_nil) (by omega) (fun x => rfl) fun i G hi e => ev_c) (by rw [List.map_replicate]; exact List.ext_getElem (by simp) fun i h1 h2 => by simp)) (by rw [List.length_map, ql]; omega) fun b G1 hb g1 hy => ?_
      have brp : b ≠ rp := fun z => by rw [z, hM.2.1] at hb; cases hb
      have bq : ∀ y ∈ qs, y.1 ≠ b := fun y hy' z => by have := (hM.2.2.2 y hy').2.2; rw [z, hb] at this; cases this
      refine ⟨_, _, qs ++ [(b, List.replicate n 0)], rfl, Ex.mut (eG.trans g1) hrp, (hM.ex g1).more (fresh_back eG hb) brp bq hy, ?_⟩
      rw [List.map_append, hqs, List.range_succ, List.map_append]
      rfl
    rintro σ' G ⟨v5, v6, qs, rfl, eG, hM, hqs⟩
    try dsimp only
    refine q_forLn (K := K) (a := q) (xs := xs.map V.int) (j := 7) (ev_var (i := 1) rfl) (ex_l eG hq1)
      (fun i σ' G => ∃ (v7 v8 v9 : Option V) (qs : List (Addr × List Int)), σ' = [some (.ref p), some (.ref q), some (.int (m : Int)), some (.int (n : Int)), some (.ref rp), v5, v6, v7, v8, v9] ∧ Ex H1 G ∧ RowsM H1 G rp qs ∧ qs.map (·.2) = (List.range m).map fun g : Nat => rowL n ss (xs.take i) (g : Int))
      (fun H3 e3 => ⟨none, none, none, qs, rfl, eG.trans e3, hM.ex e3, by
        rw [hqs, Int.toNat_natCast]
        exact List.map_congr_left fun g _ => (rows0 _).symm⟩) (fun i σ' G _ ⟨_, _, _, _, _, e, _⟩ => ex_l e hq1) ?_ ?_
    · rintro i x' σ' G hix ⟨v7, v8, v9, qs, rfl, eG, hM, hqs⟩
      obtain ⟨x, rfl, hxi⟩ := some_int hix
      have hi : i < xs.length := (List.getElem?_eq_some_iff.mp hxi).1
      have ex0 : xs.getD i 0 = x := by rw [List.getD_eq_getElem?_getD, hxi]; rfl
      try dsimp only
      refine s_forR1 (j := 8) (n := (n : Int)) (ea_cons (ev_var (i := 3) rfl) ea_nil) (by omega)
        (fun j σ' F => ∃ (v8 v9 : Option V) (qs : List (Addr × List Int)), σ' = [some (.ref p), some (.ref q), some (.int (m : Int)), some (.int (n : Int)), some (.ref rp), v5, v6, some (.int x), v8, v9] ∧ Ex H1 F ∧ RowsM H1 F rp qs ∧ qs.map (·.2) = (List.range m).map fun g : Nat => pwL n ss xs i j (g : Int))
        (fun H3 e3 => ⟨v8, v9, qs, rfl, eG.trans e3, hM.ex e3, by
          rw [hqs]
          exact List.map_congr_left fun g _ => (pwL_zero hn.1).symm⟩) ?_ ?_
      · rintro j σ' F hj ⟨v8, v9, qs, rfl, eF, hM, hqs⟩
        have hj : j < n := by omega
        have ql : qs.length = m := by have := congrArg List.length hqs; simpa using this
        have xj : (ss.map V.int)[j]? = some (.int (ss.getD j 0)) := by
          rw [List.getElem?_map, List.getD_eq_getElem?_getD, List.getElem?_eq_getElem (by omega)]
          rfl
        have vj := hv _ (in_getD (d := 0) (show j < ss.length by omega))
        have stE : ∀ {σ : L2.St} {F' : Hp}, σ[0]? = some (some (.ref p)) → σ[8]? = some (some (.int (j : Int))) → Ex F F' → Ev (tOp (rIxL K) (tVar 0) (tVar 8)) σ F' (.int (ss.getD j 0)) := fun s0 s8 e => ev_op (ev_var s0) (ev_var s8) (rv_ixL (K := K) (ex_l (eF.trans e) hp1) (atI_nat xj))
        try dsimp only
        refine s_when (b := decide (0 ≤ ss.getD j 0)) (et_test (ev_op (stE rfl rfl (Ex.refl _)) ev_c rv_I0)) (fun hb F1 f1 => ?_) (fun hb F1 f1 => ?_)
        · have hb := of_decide_eq_true hb
          obtain ⟨g0, hg0⟩ : ∃ g0 : Nat, ss.getD j 0 = (g0 : Int) := ⟨(ss.getD j 0).toNat, by omega⟩
          have hgm : g0 < m := by omega
          have hq0 : qs[g0]? = some qs[g0] := List.getElem?_eq_getElem (by omega)
          have hrow : qs[g0].2 = pwL n ss xs i j (g0 : Int) := by
            have := congrArg (fun l => l[g0]?) hqs
            simpa [hq0, List.getElem?_range hgm] using this
          have hM1 := hM.ex f1
          have hqq := hM1.2.2.2 _ (List.getElem_mem (show g0 < qs.length by omega))
          generalize qs[g0] = qr at *
          have a1 : atI (qs.map fun q => V.ref q.1) (g0 : Int) = some (.ref qr.1) := atI_nat (by rw [List.getElem?_map, hq0]; rfl)
          try dsimp only
          refine q_asg (v := .ref qr.1) (ev_op (ev_var (i := 4) rfl) (ev_is (stE rfl rfl f1) (congrArg V.int hg0)) (rv_ixL (K := K) (sq_of hM1.2.1) a1)) fun F2 f2 => ?_
          have m0 := Int.emod_nonneg (x + (j : Int)) (b := (n : Int)) (by omega)
          have m1 := Int.emod_lt_of_pos (x + (j : Int)) npos
          have rl : qr.2.length = n := by rw [hrow, pwL_len]
          have at2 : (qr.2.map V.int)[((x + (j : Int)) % (n : Int)).toNat]? = some (.int (qr.2.getD ((x + (j : Int)) % (n : Int)).toNat 0)) := by
            rw [List.getElem?_map, List.getD_eq_getElem?_getD, List.getElem?_eq_getElem (by omega)]
            rfl
          have hM2 := hM1.ex f2
          have hr2 := f2 _ _ hqq.2.2
          try dsimp only
          refine s_setL (l := qr.1) (xs := qr.2.map V.int) (j := ((x + (j : Int)) % (n : Int)).toNat) (v := .int (qr.2.getD ((x + (j : Int)) % (n : Int)).toNat 0 + 1)) hr2 (ev_op (ev_op (ev_var (i := 9) rfl) (ev_is (ev_op (ev_int (ev_op (ev_var (i := 7) rfl) (ev_var (i := 8) rfl) rv_I0)) (ev_var (i := 3) rfl) (rv_I npos)) (by rw [Int.toNat_of_nonneg m0])) (rv_ixL (K := K) (sq_of hr2) (atI_nat at2))) ev_c rv_I0) (ev_var (i := 9) rfl) (ev_is (ev_op (ev_int (ev_op (ev_var (i := 7) rfl) (ev_var (i := 8) rfl) rv_I0)) (ev_var (i := 3) rfl) (rv_I npos)) (by rw [Int.toNat_of_nonneg m0])) (by rw [List.length_map]; omega) fun F3 f3 => ?_
          have hp3 := (hM2.ex f3).put (j := ((x + (j : Int)) % (n : Int)).toNat) (z := qr.2.getD ((x + (j : Int)) % (n : Int)).toNat 0 + 1) hq0
          refine ⟨_, _, _, rfl, Ex.mut (((eF.trans f1).trans f2).trans f3) hqq.2.1, by rw [List.map_set] at hp3; exact hp3, ?_⟩
          rw [List.map_set, hqs, hrow, ← ex0]
          exact walk_set hn.1 hj hg0 hgm
        · have hb := of_decide_eq_false hb
          refine ⟨_, _, qs, rfl, eF.trans f1, hM.ex f1, ?_⟩
          rw [hqs]
          exact List.map_congr_left fun g _ => (pwL_other hn.1 (by omega)).symm
      · rintro σ' F ⟨v8, v9, qs, rfl, eF, hM, hqs⟩
        refine ⟨_, _, _, qs, rfl, eF, hM, ?_⟩
        rw [hqs, Int.toNat_natCast]
        exact List.map_congr_left fun g _ => pwL_full hn.1 hi
    rintro σ' G ⟨v7, v8, v9, qs, rfl, eG, hM, hqs⟩
    rw [List.length_map, List.take_length] at hqs
    exact s_ret (ev_var (i := 4) rfl) fun H3 e3 => k rp H3 ((e1.trans eG).trans e3) (by rw [← hqs]; exact (hM.ex e3).rows (K := K))

/-! ### data told twice -/
theorem ed_ev {K : PySem.W.Frag} {σ : L2.St} {H : Hp} {te : TE} {v : V} {d : PyData} (h : Ev te σ H v) (hd : ∀ H1, Ex H H1 → Dp K H1 v d) : EvR te σ H fun v H1 => Dp K H1 v d := er_ev h hd
theorem ed_int {K : PySem.W.Frag} {σ : L2.St} {H : Hp} {te : TE} {z : Int} (h : Ev te σ H (.int z)) : EvR te σ H fun v H1 => Dp K H1 v (.int z) := er_ev h fun _ _ => .int z
theorem ed_bl {K : PySem.W.Frag} {σ : L2.St} {H : Hp} {te : TE} {z : Bool} (h : Ev te σ H (.bl z)) : EvR te σ H fun v H1 => Dp K H1 v (.bool z) := er_ev h fun _ _ => .bl z
theorem ed_str {K : PySem.W.Frag} {σ : L2.St} {H : Hp} {te : TE} {z : Str} (h : Ev te σ H (.str z)) : EvR te σ H fun v H1 => Dp K H1 v (.str z) := er_ev h fun _ _ => .str z
theorem ed_L {K : PySem.W.Frag} {σ : L2.St} {H : Hp} {te : TE} {xs : List Int} (h : EvL te σ H (xs.map V.int)) : EvR te σ H fun v H1 => Dp K H1 v (.list (xs.map .int)) := (er_L h).imp fun v H1 q => by
  obtain ⟨p, rfl, hp⟩ := q
  exact .lst (sq_of hp) (dp_ints _)
theorem ed_held {K : PySem.W.Frag} {σ : L2.St} {H : Hp} {i : Nat} {p : Addr} {xs : List Int} (h : σ[i]? = some (some (.ref p))) (hp : SqL K H p (xs.map V.int)) : EvR (tVar i) σ H fun v H1 => Dp K H1 v (.list (xs.map .int)) := er_ev (ev_var h) fun H1 e => .lst (ex_l e hp) (dp_ints _)
def EvDs (K : PySem.W.Frag) (ta : TA) (σ : L2.St) (H : Hp) (ds : List PyData) : Prop := ∀ H1, Ex H H1 → ∀ Q : List V → Hp → Prop, (∀ vs H2, Ex H1 H2 → DpAll K H2 vs ds → Q vs H2) → ta σ H1 Q
theorem eds_nil {K : PySem.W.Frag} {σ : L2.St} {H : Hp} : EvDs K tNil σ H [] := fun H1 _ Q q => q [] H1 (Ex.refl H1) .nil
theorem eds_cons {K : PySem.W.Frag} {σ : L2.St} {H : Hp} {te : TE} {ta : TA} {d : PyData} {ds : List PyData} (h : EvR te σ H fun v H1 => Dp K H1 v d) (r : EvDs K ta σ H ds) : EvDs K (tCons te ta) σ H (d :: ds) := fun H1 e Q q =>
  h H1 e _ fun v H2 e2 hv => r H2 (e.trans e2) _ fun vs H3 e3 hs => q (v :: vs) H3 (e2.trans e3) (.cons (dp_ex e3 hv) hs)
theorem ed_tup {K : PySem.W.Frag} {σ : L2.St} {H : Hp} {ta : TA} {ds : List PyData} (h : EvDs K ta σ H ds) (hl : ds.length ≤ 1000) : EvR (tTup ta) σ H fun v H1 => Dp K H1 v (.tuple ds) := fun H1 e Q q =>
  h H1 e _ fun vs H2 e2 hs => by
    have l := (dp_get hs).1
    exact ⟨by rw [l]; exact Nat.le_trans hl (by decide), fun p hp => q _ _ (e2.trans (Ex.new hp)) (.tup (st_of upd_same) (dpa_ex (Ex.new hp) hs))⟩
theorem ed_lst {K : PySem.W.Frag} {σ : L2.St} {H : Hp} {ta : TA} {ds : List PyData} (h : EvDs K ta σ H ds) (hl : ds.length ≤ 1000) : EvR (tLst ta) σ H fun v H1 => Dp K H1 v (.list ds) := fun H1 e Q q =>
  h H1 e _ fun vs H2 e2 hs => by
    have l := (dp_get hs).1
    exact ⟨by rw [l]; exact Nat.le_trans hl (by decide), fun p hp => q _ _ (e2.trans (Ex.new hp)) (.lst (sq_of upd_same) (dpa_ex (Ex.new hp) hs))⟩
theorem ev_same {K : PySem.W.Frag} {E : XK} {σ : L2.St} {H : Hp} {ta tb : TE} {d : PyData} (ha : EvR ta σ H fun v H1 => Dp K H1 v d) (hb : EvR tb σ H fun v H1 => Dp K H1 v d) (hf : Flat 4 d) : Ev (tCall (sp_same K 4) [] E (tCons ta (tCons tb tNil))) σ H (.bl true) := fun H1 e Q q =>
  ha H1 e _ fun v H2 e2 hv => hb H2 (e.trans e2) _ fun w H3 e3 hw => ⟨v, w, d, rfl, dp_ex e3 hv, hw, hf, q H3 (e2.trans e3)⟩
theorem dp_rows {K : PySem.W.Frag} {H : Hp} : ∀ (vs : List V) (xss : List (List Int)), vs.length = xss.length → (∀ (i : Nat) v, vs[i]? = some v → ∃ p, v = .ref p ∧ SqL K H p ((xss.getD i []).map V.int)) → DpAll K H vs (xss.map fun xs => .list (xs.map .int))
  | [], [], _, _ => .nil
  | v :: vs, xs :: xss, hl, h => by
    obtain ⟨p, rfl, hp⟩ := h 0 v rfl
    exact .cons (.lst hp (dp_ints _)) (dp_rows vs xss (by simpa using hl) fun i u hu => h (i + 1) u hu)
theorem flat_rows {xss : List (List Int)} (h : xss.length ≤ 400) (hx : ∀ xs ∈ xss, xs.length ≤ 360) : Flat 4 (.list (xss.map fun xs => .list (xs.map .int))) :=
  ⟨by rw [List.length_map]; omega, fun d hd => by
    obtain ⟨xs, hm, rfl⟩ := List.mem_map.mp hd
    exact ⟨by rw [List.length_map]; have := hx xs hm; omega, fun d hd => by
      obtain ⟨i, _, rfl⟩ := List.mem_map.mp hd
      exact True.intro⟩⟩
/-- lists of ints within a list -/
structure Rows (K : PySem.W.Frag) (H : Hp) (a : Addr) (xss : List (List Int)) : Prop where
  all : ∃ vs : List V, SqL K H a vs ∧ vs.length = xss.length ∧ ∀ (i : Nat) v, vs[i]? = some v → ∃ p, v = .ref p ∧ SqL K H p ((xss.getD i []).map V.int)
theorem Rows.ex {K : PySem.W.Frag} {H H' : Hp} {a : Addr} {xss : List (List Int)} (e : Ex H H') (h : Rows K H a xss) : Rows K H' a xss := by
  obtain ⟨vs, h1, h2, h3⟩ := h.all
  exact ⟨vs, ex_l e h1, h2, fun i v hv => (h3 i v hv).imp fun p h => ⟨h.1, ex_l e h.2⟩⟩
theorem Rows.dp {K : PySem.W.Frag} {H : Hp} {a : Addr} {xss : List (List Int)} (h : Rows K H a xss) : Dp K H (.ref a) (.list (xss.map fun xs => .list (xs.map .int))) := by
  obtain ⟨vs, h1, h2, h3⟩ := h.all
  exact .lst h1 (dp_rows vs xss h2 h3)
theorem ed_rows {K : PySem.W.Frag} {σ : L2.St} {H : Hp} {i : Nat} {p : Addr} {xss : List (List Int)} (h : σ[i]? = some (some (.ref p))) (hp : Rows K H p xss) : EvR (tVar i) σ H fun v H1 => Dp K H1 v (.list (xss.map fun xs => .list (xs.map .int))) := er_ev (ev_var h) fun H1 e => (hp.ex e).dp
theorem getD_mem {α : Type} {xs : List α} {i : Nat} {d : α} (h : i < xs.length) : xs.getD i d ∈ xs := by
  rw [List.getD_eq_getElem?_getD, List.getElem?_eq_getElem h]
  exact List.getElem_mem _

theorem ev_xf {σ : L2.St} {H : Hp} {te : TE} {a C dd : Addr} {f : Str} {fs : List (Str × V)} {v : V} (h : Ev te σ H (.ref a)) (hx : H dd = some (.xd fs)) (hl : fs.lookup f = some v) : Ev (tXf a (.ref C) (some dd) C f te) σ H v := fun H1 e Q q => h H1 e _ fun H2 e2 => ⟨rfl, rfl, dd, fs, v, rfl, (e.trans e2) _ _ hx, hl, q H2 e2⟩

theorem flat_bools (bs : List Bool) (h : bs.length ≤ 100) : Flat 4 (.tuple (bs.map .bool)) := ⟨by rw [List.length_map]; omega, fun d hd => by
  obtain ⟨i, _, rfl⟩ := List.mem_map.mp hd
  exact True.intro⟩
theorem flat_boolsL (bs : List Bool) (h : bs.length ≤ 100) : Flat 4 (.list (bs.map .bool)) := ⟨by rw [List.length_map]; omega, fun d hd => by
  obtain ⟨i, _, rfl⟩ := List.mem_map.mp hd
  exact True.intro⟩

theorem crewF_row {b s : V} : List.lookup ("row" : Str) (crewF b s) = none := by
  have h1 : (("row" : Str) == "beat") = false := by decide +kernel
  have h2 : (("row" : Str) == "starts") = false := by decide +kernel
  unfold crewF
  rw [List.lookup_cons, h1, List.lookup_cons, h2]
  rfl
theorem crewF_working {b s : V} : List.lookup ("working" : Str) (crewF b s) = none := by
  have h1 : (("working" : Str) == "beat") = false := by decide +kernel
  have h2 : (("working" : Str) == "starts") = false := by decide +kernel
  unfold crewF
  rw [List.lookup_cons, h1, List.lookup_cons, h2]
  rfl

def spNoRow (K : PySem.W.Frag) (A : Ads) : Sp := fun vs H Q _ => ∃ (v : V) (g : Int) (n : Nat) (gs : List (Str × Int)) (ss xs : List Int), vs = [v, .int g] ∧ CrewOk K A v H n gs ss xs ∧ ¬ (0 ≤ g ∧ g < (gs.length : Int)) ∧ ∀ H', Ex H H' → Q (.bl true) H' 
theorem ok_u_law_no_row (T : Txt K mg A) : FnOk P w K mg base CX0 11 A.f_u_law_no_row A.d_u_law_no_row (["crew", "gate"] : List Str) (spNoRow K A) := by
  refine T.F_u_law_no_row.ok sc_u_law_no_row (fun vs H Q E h => ?_) (fun cdv Ar outer s H vs Q E hr h => ?_)
  · obtain ⟨v, g, n, gs, ss, xs, rfl, _⟩ := h
    rfl
  · obtain ⟨v, g, n, gs, ss, xs, rfl, W, hg, k⟩ := h
    refine ⟨_, (pss_cons (ps_set (i := 2) sc_u_law_no_row.nd rfl (Or.inl rfl) pe_non)
        (pss_cons (ps_try_as (i := 3) (Wout := fun _ _ _ _ => False) rfl rfl sc_u_law_no_row.nd rfl rfl ⟨rfl, by decide, Or.inl T.g_NoPlace⟩ takes0 (fun W pn xe tk _ => (pss_one (ps_expr (pe_methS (pv 0) T.cl_Crew T.M_Crew_row (ok_Crew_row T) (hr.mono (by omega)) (b_Crew_row T) .nil (fun σ => passAt tk σ) (pa_cons (pv 1) pa_nil))))) (fun a oe cls dd pn hz hf => (pss_one (ps_set (i := 2) sc_u_law_no_row.nd rfl (Or.inl rfl) (pe_tup (pa_cons (pe_callB (call_isN T.ex_NoPlace hz hf) (by rfl) T.z_isinstance (by decide +kernel) (pa_cons (pv 3) (pa_cons (pe_glob (v := .ref A.C_WatchError) rfl T.g_WatchError rfl) pa_nil))) (pa_cons (pe_callB (call_isN T.ex_NoPlace hz hf) (by rfl) T.z_isinstance (by decide +kernel) (pa_cons (pv 3) (pa_cons (pe_bltn (v := .ty "ValueError") (by rfl) T.z_ValueError (by decide +kernel) rfl) pa_nil))) (pa_cons (pe_callB (call_isN T.ex_NoPlace hz hf) (by rfl) T.z_isinstance (by decide +kernel) (pa_cons (pv 3) (pa_cons (pe_glob (v := .ref A.C_OtherHours) rfl T.g_OtherHours rfl) pa_nil))) (pa_cons (pe_callB (call_isN T.ex_NoPlace hz hf) (by rfl) T.z_isinstance (by decide +kernel) (pa_cons (pv 3) (pa_cons (pe_glob (v := .ref A.C_BadNumber) rfl T.g_BadNumber rfl) pa_nil))) pa_nil)))))))))
        (pss_one (ps_ret (pe_call (ok_u_law_same T) (hr.mono (by omega)) rfl T.g_u_law_same T.k_u_law_same (b_u_law_same T) .nil pass0 (pa_cons (pv 2) (pa_cons (pe_tup (pa_cons pe_bl (pa_cons pe_bl (pa_cons pe_bl (pa_cons pe_bl pa_nil))))) pa_nil))))))), ?_⟩
    obtain ⟨a, dx, b, s, h, rfl, h1, _⟩ := id W.at_
    try dsimp only
    refine q_asg (v := .non) ev_c fun H1 e1 => ?_
    refine ⟨_, rfl, a, dx, _, rfl, e1 _ _ h1, crewF_row, _, rfl, .ref a, g, n, gs, ss, xs, rfl, W.ex e1, fun _ H2 e2 => ?_, fun hc => absurd hc hg⟩
    refine ⟨true, T.xm_NoPlace_NoPlace, fun _ ea hea => ?_, fun z => Bool.noConfusion z⟩
    have isz : ∀ (c : V) (b : Bool), (∃ cv, (∀ u, RelV c u → u = cv) ∧ PySem.W.kitOne K (.ref A.C_NoPlace) cv = some b) → ∀ G σ', σ'[3]? = some (some (.ref ea)) → Ev (tCB (rIsN K A.C_NoPlace ea (.ref A.C_NoPlace) none) (tCons (tVar 3) (tCons (tC c) tNil))) σ' G (.bl b) := fun c b ⟨cv, h1, h2⟩ G σ' hσ =>
      ev_cb (ea_cons (ev_var hσ) (ea_cons ev_c ea_nil)) fun H3 e3 Q q => ⟨rfl, rfl, c, cv, b, rfl, h1, h2, q H3 (Ex.refl H3)⟩
    try dsimp only
    refine s_asgR (ed_tup (K := K) (ds := [.bool true, .bool true, .bool false, .bool false]) (eds_cons (ed_bl (isz (.ref A.C_WatchError) _ ⟨.ref A.C_WatchError, fun u h => h, T.kit_NoPlace_WatchError⟩ _ _ rfl)) (eds_cons (ed_bl (isz (.ty "ValueError") _ ⟨.type "ValueError", fun u h => h, T.kit_NoPlace_ValueError⟩ _ _ rfl)) (eds_cons (ed_bl (isz (.ref A.C_OtherHours) _ ⟨.ref A.C_OtherHours, fun u h => h, T.kit_NoPlace_OtherHours⟩ _ _ rfl)) (eds_cons (ed_bl (isz (.ref A.C_BadNumber) _ ⟨.ref A.C_BadNumber, fun u h => h, T.kit_NoPlace_BadNumber⟩ _ _ rfl)) eds_nil)))) (by show 4 ≤ 1000; decide)) fun w H3 e3 hw => ?_
    try dsimp only
    exact s_ret (v := .bl true) (ev_same (d := .tuple [.bool true, .bool true, .bool false, .bool false]) (er_ev (ev_var (i := 2) rfl) fun G e => dp_ex e hw) (ed_tup (eds_cons (ed_bl ev_c) (eds_cons (ed_bl ev_c) (eds_cons (ed_bl ev_c) (eds_cons (ed_bl ev_c) eds_nil)))) (by show 4 ≤ 1000; decide)) (flat_bools [true, true, false, false] (by decide))) fun H4 e4 => k H4 ((e1.trans e2).trans (e3.trans e4))

theorem rv_isN {x : V} {H : Hp} : RV (fun x y H Q => y = .non ∧ Q (.bl (decide (x = .non))) H) x .non H (.bl (decide (x = .non))) := fun H1 _ _ q => ⟨rfl, q H1 (Ex.refl H1)⟩
theorem rv_notN {x : V} {H : Hp} : RV (fun x y H Q => y = .non ∧ Q (.bl (!decide (x = .non))) H) x .non H (.bl (!decide (x = .non))) := fun H1 _ _ q => ⟨rfl, q H1 (Ex.refl H1)⟩

def spWorks (K : PySem.W.Frag) (A : Ads) : Sp := fun vs H Q _ => ∃ (v : V) (p q : Addr) (z : Int) (n : Nat) (gs : List (Str × Int)) (ss xs : List Int), vs = [v, .ref p, .ref q, .int z] ∧ CrewOk K A v H n gs ss xs ∧ SqL K H p (ss.map V.int) ∧ SqL K H q (xs.map V.int) ∧ ∀ H', Ex H H' → Q (.bl true) H' 
theorem ok_u_law_works (T : Txt K mg A) : FnOk P w K mg base CX0 11 A.f_u_law_works A.d_u_law_works (["crew", "steps", "starts", "start"] : List Str) (spWorks K A) := by
  refine T.F_u_law_works.ok sc_u_law_works (fun vs H Q E h => ?_) (fun cdv Ar outer s H vs Q E hr h => ?_)
  · obtain ⟨v, p, q, z, n, gs, ss, xs, rfl, _⟩ := h
    rfl
  · obtain ⟨v, p, q, z, n, gs, ss, xs, rfl, W, hp, hq, k⟩ := h
    refine ⟨_, (pss_cons (ps_set (i := 4) sc_u_law_works.nd rfl (Or.inr rfl) (pe_callB len_K (by rfl) T.z_len (by decide +kernel) (pa_cons (pv 1) pa_nil)))
        (pss_cons (ps_set (i := 5) sc_u_law_works.nd rfl (Or.inl rfl) pe_non)
        (pss_cons (ps_set (i := 6) sc_u_law_works.nd rfl (Or.inl rfl) pe_non)
        (pss_cons (ps_try_as (i := 7) (Wout := fun _ _ _ _ => False) rfl rfl sc_u_law_works.nd rfl rfl ⟨rfl, by decide, Or.inl T.g_NoPlace⟩ takes0 (fun W pn xe tk _ => (pss_one (ps_set (i := 5) sc_u_law_works.nd rfl (Or.inl rfl) (pe_methS (pv 0) T.cl_Crew T.M_Crew_working (ok_Crew_working T) (hr.mono (by omega)) (b_Crew_working T) .nil (fun σ => passAt tk σ) (pa_cons (pv 3) pa_nil))))) (fun a oe cls dd pn hz hf => (pss_one (ps_set (i := 6) sc_u_law_works.nd rfl (Or.inl rfl) (pe_tup (pa_cons (pe_callB (call_isN T.ex_NoPlace hz hf) (by rfl) T.z_isinstance (by decide +kernel) (pa_cons (pv 7) (pa_cons (pe_glob (v := .ref A.C_WatchError) rfl T.g_WatchError rfl) pa_nil))) (pa_cons (pe_callB (call_isN T.ex_NoPlace hz hf) (by rfl) T.z_isinstance (by decide +kernel) (pa_cons (pv 7) (pa_cons (pe_glob (v := .ref A.C_OtherHours) rfl T.g_OtherHours rfl) pa_nil))) (pa_cons (pe_callB (call_isN T.ex_NoPlace hz hf) (by rfl) T.z_isinstance (by decide +kernel) (pa_cons (pv 7) (pa_cons (pe_glob (v := .ref A.C_BadNumber) rfl T.g_BadNumber rfl) pa_nil))) pa_nil))))))))
        (pss_cons (ps_if (pt_cmpR notin_K (pe_op op_mod (pe_callTy call_int1 (by rfl) T.z_int (by decide +kernel) (pa_cons (pv 3) pa_nil)) (pv 4)) (pv 2) (by with_unfolding_all rfl)) (pss_one (ps_ret (pe_and (pe_cmpR op_isN (pv 5) pe_non (nomark _)) (pe_one (pe_call (ok_u_law_same T) (hr.mono (by omega)) rfl T.g_u_law_same T.k_u_law_same (b_u_law_same T) .nil pass0 (pa_cons (pv 6) (pa_cons (pe_tup (pa_cons pe_bl (pa_cons pe_bl (pa_cons pe_bl pa_nil)))) pa_nil))))))) pss_nil)
        (pss_cons (ps_if (PW.pt (pw_or (pt_cmpR op_notN (pv 6) pe_non (nomark _)) (pw_or1 (pt_not (pt_val (pe_call (ok_u_law_same T) (hr.mono (by omega)) rfl T.g_u_law_same T.k_u_law_same (b_u_law_same T) .nil pass0 (pa_cons (pe_fldK (pv 5) rfl) (pa_cons (pv 4) pa_nil)))))))) (pss_one (ps_ret pe_bl)) pss_nil)
        (pss_one (ps_ret (pe_call (ok_u_law_same T) (hr.mono (by omega)) rfl T.g_u_law_same T.k_u_law_same (b_u_law_same T) .nil pass0 (pa_cons (pe_prop (pv 5) T.cl_Lot T.P_Lot_members (ok_Lot_members T) (hr.mono (by omega)) (b_Lot_members T) .nil pass0 rfl) (pa_cons (pe_lc (own := [("h", 8)]) (g := gName 8) rfl sc_u_law_works.nd (pi_range1 rfl T.z_range (pa_cons (pv 4) pa_nil)) (blkOk_by (own := [("h", 8)]) (N := N_u_law_works) (sc := defScope s_u_law_works) (by decide +kernel)) (fun _ _ _ _ _ => (pg_name (i := 8) sc_u_law_works.nd rfl (Or.inl rfl))) (fun _ _ _ _ _ => (pts_one (pt_cmpR op_ge (pe_ix ix_lK (pv 1) (pe_op op_mod (pe_callTy call_int1 (by rfl) T.z_int (by decide +kernel) (pa_cons (pe_op op_sub (pv 8) (pv 3)) pa_nil)) (pv 4)) (fun _ _ => rfl)) pe_int (nomark _)))) (fun _ _ _ _ _ => (pv 8))) pa_nil))))))))))), ?_⟩
    obtain ⟨a, dx, b, s, h, rfl, h1, hB, hL⟩ := id W.at_
    have nb := hB.nb
    have ln := hB.gd.len
    have npos : (0 : Int) < (n : Int) := by omega
    try dsimp only
    refine q_asg (v := .int (n : Int)) (ev_cb (r := rLenK K) (ea_cons (ev_var (i := 1) rfl) ea_nil) fun H2 e2 Q q => ⟨.ref p, n, rfl, .inl ⟨_, ex_l e2 hp, by rw [List.length_map, ln]⟩, q H2 (Ex.refl H2)⟩) fun H1 e1 => ?_
    try dsimp only
    refine q_asg (v := .non) ev_c fun H2 e2 => ?_
    try dsimp only
    refine q_asg (v := .non) ev_c fun H3 e3 => ?_
    have e03 := (e1.trans e2).trans e3
    refine ⟨_, rfl, a, dx, _, rfl, e03 _ _ h1, crewF_working, _, rfl, .ref a, z, n, gs, ss, xs, rfl, W.ex e03, fun hz H4 e4 => ?_, fun hz w H4 e4 hw => ?_⟩
    · have e04 := e03.trans e4
      refine ⟨true, T.xm_NoPlace_NoPlace, fun _ ea hea => ?_, fun z => Bool.noConfusion z⟩
      have isz : ∀ (c : V) (b : Bool), (∃ cv, (∀ u, RelV c u → u = cv) ∧ PySem.W.kitOne K (.ref A.C_NoPlace) cv = some b) → ∀ G σ', σ'[7]? = some (some (.ref ea)) → Ev (tCB (rIsN K A.C_NoPlace ea (.ref A.C_NoPlace) none) (tCons (tVar 7) (tCons (tC c) tNil))) σ' G (.bl b) := fun c b ⟨cv, h1, h2⟩ G σ' hσ =>
        ev_cb (ea_cons (ev_var hσ) (ea_cons ev_c ea_nil)) fun H3 e3 Q q => ⟨rfl, rfl, c, cv, b, rfl, h1, h2, q H3 (Ex.refl H3)⟩
      try dsimp only
      refine s_asgR (ed_tup (K := K) (ds := [.bool true, .bool false, .bool false]) (eds_cons (ed_bl (isz (.ref A.C_WatchError) _ ⟨.ref A.C_WatchError, fun u h => h, T.kit_NoPlace_WatchError⟩ _ _ rfl)) (eds_cons (ed_bl (isz (.ref A.C_OtherHours) _ ⟨.ref A.C_OtherHours, fun u h => h, T.kit_NoPlace_OtherHours⟩ _ _ rfl)) (eds_cons (ed_bl (isz (.ref A.C_BadNumber) _ ⟨.ref A.C_BadNumber, fun u h => h, T.kit_NoPlace_BadNumber⟩ _ _ rfl)) eds_nil))) (by show 3 ≤ 1000; decide)) fun w H5 e5 hw => ?_
      try dsimp only
      refine q_when (b := !decide (z % (n : Int) ∈ xs)) (et_test (ev_op (ev_op (ev_int (ev_var (i := 3) rfl)) (ev_var (i := 4) rfl) (rv_I npos)) (ev_var (i := 2) rfl) (rv_niI (ex_l (e04.trans e5) hq)))) (fun hb H6 e6 => ?_) (fun hb => by simp [hz] at hb)
      exact s_ret (v := .bl true) (ev_andV (a := true) (b := true) (ev_op (ev_var (i := 5) rfl) ev_c rv_isN) fun _ => ev_same (d := .tuple [.bool true, .bool false, .bool false]) (er_ev (ev_var (i := 6) rfl) fun G e => dp_ex (e6.trans e) hw) (ed_tup (eds_cons (ed_bl ev_c) (eds_cons (ed_bl ev_c) (eds_cons (ed_bl ev_c) eds_nil))) (by show 3 ≤ 1000; decide)) (flat_bools [true, false, false] (by decide))) fun H7 e7 => k H7 ((e04.trans e5).trans (e6.trans e7))
    · have e04 := e03.trans e4
      try dsimp only
      refine q_skip (et_test (ev_is (ev_op (ev_op (ev_int (ev_var (i := 3) rfl)) (ev_var (i := 4) rfl) (rv_I npos)) (ev_var (i := 2) rfl) (rv_niI (ex_l e04 hq))) (by rw [decide_eq_true hz]; rfl))) fun H5 e5 => ?_
      have hw5 := hw.ex e5
      obtain ⟨wa, wdx, l, rfl, w1, w2⟩ := id hw5.at_
      try dsimp only
      refine q_skip (et_orF (et_test (ev_is (ev_op (ev_var (i := 6) rfl) ev_c rv_notN) rfl)) (et_notT (et_B (ev_same (d := .int (n : Int)) (ed_int (ev_hours (K := K) (ev_var (i := 5) rfl) w1 T.cl_Lot T.na_Lot_hours)) (ed_int (ev_var (i := 4) rfl)) True.intro)))) fun H6 e6 => ?_
      have hw6 := hw5.ex e6
      have e06 := (e04.trans e5).trans e6
      try dsimp only
      refine s_ret (v := .bl true) (ev_same (d := .list ((workL n ss z).map .int)) (ed_L (el_mems (A := A) (n := (n : Int)) (xs := workL n ss z) (er_ev (ev_var (i := 5) rfl) fun F e => hw6.ex e))) (ed_L (el_isW (el_lc (fun i => decide (0 ≤ ss.getD (((i : Int) - z) % (n : Int)).toNat 0)) (fun i => V.int (i : Int)) (ei_rngN (n := n) (ea_cons (ev_var (i := 4) rfl) ea_nil) (by omega)) (by omega) bd_fn (fun i _ => rfl) (fun j F2 hj f2 => ?_) (fun j F2 hj f2 _ => ev_var (i := 8) rfl)) ?_)) (flatI ?_)) fun H7 e7 => k H7 (e06.trans e7)
      · have m0 := Int.emod_nonneg ((j : Int) - z) (b := (n : Int)) (by omega)
        have m1 := Int.emod_lt_of_pos ((j : Int) - z) npos
        exact et_test (ev_op (ev_op (ev_var (i := 1) rfl) (ev_op (ev_int (ev_op (ev_var (i := 8) rfl) (ev_var (i := 3) rfl) rv_I0)) (ev_var (i := 4) rfl) (rv_I npos)) (rv_ixL (K := K) (ex_l (e06.trans f2) hp) (atI_ints m0 (by omega)))) ev_c rv_I0)
      · rw [given_pick (g := fun i => (i : Int))]
        unfold workL hrs
        rw [Int.toNat_natCast]
      · have := hw6.len
        omega

theorem en_tupB {K : PySem.W.Frag} {te : TE} {σ : L2.St} {H : Hp} {p : Addr} {xs : List V} (h : Ev te σ H (.ref p)) (hp : SqL K H p xs) : EvR (tCB (rTupOf K) (tCons te tNil)) σ H fun v G => ∃ t, v = .ref t ∧ G t = some (.tup xs) := (en_tupL h hp).er
theorem flat_intsT {ns : List Int} (h : ns.length ≤ 1000) : Flat 4 (.tuple (ns.map .int)) := ⟨by rw [List.length_map]; omega, fun d hd => by
  obtain ⟨i, _, rfl⟩ := List.mem_map.mp hd
  exact True.intro⟩

theorem er_walked {K : PySem.W.Frag} {E : XK} {σ : L2.St} {H : Hp} {t1 t2 t3 : TE} {p q : Addr} {n m : Nat} {ss xs : List Int} (h1 : Ev t1 σ H (.ref p)) (h2 : Ev t2 σ H (.ref q)) (h3 : Ev t3 σ H (.int (m : Int))) (hp : SqL K H p (ss.map V.int)) (hq : SqL K H q (xs.map V.int)) (hl : ss.length = n) (hn : 1 ≤ n ∧ n ≤ 100) (hm : m ≤ 100) (hx : xs.length ≤ 1000) (hv : ∀ x ∈ ss, -1 ≤ x ∧ x < (m : Int)) :
    EvR (tCall (spWalked K) [] E (tCons t1 (tCons t2 (tCons t3 tNil)))) σ H fun v G => ∃ r, v = .ref r ∧ RowsL K G r ((List.range m).map fun g : Nat => rowL n ss xs (g : Int)) :=
  er_call (vs := [.ref p, .ref q, .int (m : Int)]) (ea_cons h1 (ea_cons h2 (ea_cons h3 ea_nil))) fun H1 e Q k => ⟨p, q, n, m, ss, xs, rfl, ex_l e hp, ex_l e hq, hl, hn, hm, hx, hv, fun r H' e' hr => k (.ref r) H' e' ⟨r, rfl, hr⟩⟩
theorem ev_crewLen {K : PySem.W.Frag} {A : Ads} {E : XK} {ta : TE} {σ : L2.St} {H : Hp} {n : Nat} {gs : List (Str × Int)} {ss xs : List Int} (ha : EvR ta σ H fun v G => CrewOk K A v G n gs ss xs) : Ev (tCB (rOwnLen A.C_Crew (spCrewLen K A) E) (tCons ta tNil)) σ H (.int (xs.length : Int)) := fun H1 e Q q =>
  ha H1 e _ fun v H2 e2 hv => by
    obtain ⟨a, dx, b, s, h, rfl, h1, hB, hL⟩ := id hv.at_
    have hl := hL.len
    exact ⟨a, dx, _, rfl, h1, .ref a, n, gs, ss, xs, rfl, hv, fun H' e' => ⟨_, rfl, ⟨by omega, by omega⟩, q H' (e2.trans e')⟩⟩
theorem el_row {K : PySem.W.Frag} {A : Ads} {E : XK} {ta tb : TE} {σ : L2.St} {H : Hp} {n : Nat} {g : Int} {gs : List (Str × Int)} {ss xs : List Int} (ha : EvR ta σ H fun v G => CrewOk K A v G n gs ss xs) (hb : Ev tb σ H (.int g)) (hg : 0 ≤ g ∧ g < (gs.length : Int)) : EvL (tMeth A.C_Crew "row" (spRow K A) [] E ta (tCons tb tNil)) σ H ((rowL n ss xs g).map V.int) := fun H1 e Q q =>
  ha H1 e _ fun v H2 e2 hv => by
    obtain ⟨a, dx, b, s, h, rfl, h1, _⟩ := id hv.at_
    exact ⟨a, dx, _, rfl, h1, crewF_row, hb H2 (e.trans e2) _ fun H3 e3 => ⟨.ref a, g, n, gs, ss, xs, rfl, hv.ex e3, fun z => absurd hg z, fun _ p H' hp e' h' => q p H' (fresh_back (e2.trans e3) hp) ((e2.trans e3).trans e') h'⟩⟩
theorem el_meet {K : PySem.W.Frag} {A : Ads} {E : XK} {ta tb : TE} {σ : L2.St} {H : Hp} {n : Nat} {g : Int} {ss xs : List Int} (hs : Asc 0 (n : Int) xs) (ha : EvR ta σ H fun v G => LotIs A.C_Lot v G (n : Int) (lotOf n ss g)) (hb : EvR tb σ H fun v G => LotIs A.C_Lot v G (n : Int) (hrs (n : Int) fun z => decide ((0 - z) % (n : Int) ∈ xs))) : EvL (tCall (spMeet A) [] E (tCons ta (tCons tb tNil))) σ H ((rowL n ss xs g).map V.int) := fun H1 e Q q =>
  ha H1 e _ fun v H2 e2 hv => hb H2 (e.trans e2) _ fun w H3 e3 hw => by
    have hv3 := hv.ex e3
    have hn := hv3.hn
    exact ⟨v, w, (n : Int), (n : Int), lotOf n ss g, negL (n : Int) xs, rfl, hv3.at_, hw.at_, hn, by have := hv3.len; omega, by have := hw.len; unfold negL; omega, fun z => absurd rfl z, fun _ p H4 hp e4 h4 => q p H4 (fresh_back (e2.trans e3) hp) ((e2.trans e3).trans e4) (by rw [h4, cnt_prog (by omega) hv3.asc hs]; rfl)⟩
theorem ev_works {K : PySem.W.Frag} {A : Ads} {E : XK} {t1 t2 t3 t4 : TE} {σ : L2.St} {H : Hp} {p q : Addr} {n : Nat} {z : Int} {gs : List (Str × Int)} {ss xs : List Int} (h1 : EvR t1 σ H fun v G => CrewOk K A v G n gs ss xs) (h2 : Ev t2 σ H (.ref p)) (h3 : Ev t3 σ H (.ref q)) (h4 : Ev t4 σ H (.int z)) (hp : SqL K H p (ss.map V.int)) (hq : SqL K H q (xs.map V.int)) : Ev (tCall (spWorks K A) [] E (tCons t1 (tCons t2 (tCons t3 (tCons t4 tNil))))) σ H (.bl true) := fun H1 e Q k =>
  h1 H1 e _ fun v H2 e2 hv => h2 H2 (e.trans e2) _ fun H3 e3 => h3 H3 ((e.trans e2).trans e3) _ fun H4 e4 => h4 H4 (((e.trans e2).trans e3).trans e4) _ fun H5 e5 => by
    have e25 := (e3.trans e4).trans e5
    have e05 := (e.trans e2).trans e25
    exact ⟨v, p, q, z, n, gs, ss, xs, rfl, hv.ex e25, ex_l e05 hp, ex_l e05 hq, fun H' e' => k H' ((e2.trans e25).trans e')⟩

def spCShows (K : PySem.W.Frag) (A : Ads) : Sp := fun vs H Q _ => ∃ (v hv : V) (p q lp : Addr) (n : Nat) (gs : List (Str × Int)) (ss xs : List Int) (l0 l1 : Int), vs = [v, hv, .ref p, .ref q, .int (gs.length : Int), .ref lp] ∧ CrewOk K A v H n gs ss xs ∧ HouseIs A.C_House hv H (n : Int) gs ∧ SqL K H p (ss.map V.int) ∧ SqL K H q (xs.map V.int) ∧ SqL K H lp [.int l0, .int l1] ∧ (0 ≤ l0 ∧ 0 ≤ l1) ∧ n ≤ 24 ∧ ∀ H', Ex H H' → Q (.bl true) H' 
theorem ok_u_law_shows (T : Txt K mg A) : FnOk P w K mg base CX0 12 A.f_u_law_shows A.d_u_law_shows (["crew", "house", "steps", "starts", "count", "laps"] : List Str) (spCShows K A) := by
  refine T.F_u_law_shows.ok sc_u_law_shows (fun vs H Q E h => ?_) (fun cdv Ar outer s H vs Q E hr h => ?_)
  · obtain ⟨v, hv, p, q, lp, n, gs, ss, xs, l0, l1, rfl, _⟩ := h
    rfl
  · obtain ⟨v, hv, p, q, lp, n, gs, ss, xs, l0, l1, rfl, W, hh, hp, hq, hlp, hl, hn, k⟩ := h
    refine ⟨_, (pss_cons (ps_set (i := 6) sc_u_law_shows.nd rfl (Or.inl rfl) (pe_callB len_K (by rfl) T.z_len (by decide +kernel) (pa_cons (pv 2) pa_nil)))
        (pss_cons (ps_set (i := 7) sc_u_law_shows.nd rfl (Or.inl rfl) (pe_call (ok_u_law_walked T) (hr.mono (by omega)) rfl T.g_u_law_walked T.k_u_law_walked (b_u_law_walked T) .nil pass0 (pa_cons (pv 2) (pa_cons (pv 3) (pa_cons (pv 4) pa_nil)))))
        (pss_cons (ps_if (PW.pt (pw_or (pt_not (pt_val (pe_call (ok_u_law_same T) (hr.mono (by omega)) rfl T.g_u_law_same T.k_u_law_same (b_u_law_same T) .nil pass0 (pa_cons (pe_callB (call_lenO (E := E0) T.M_Crew_len (ok_Crew_len T) (hr.mono (by omega)) (b_Crew_len T) (pAt pass0)) (by rfl) T.z_len (by decide +kernel) (pa_cons (pv 0) pa_nil)) (pa_cons (pe_callB len_K (by rfl) T.z_len (by decide +kernel) (pa_cons (pv 3) pa_nil)) pa_nil))))) (pw_or1 (pt_not (pt_val (pe_call (ok_u_law_same T) (hr.mono (by omega)) rfl T.g_u_law_same T.k_u_law_same (b_u_law_same T) .nil pass0 (pa_cons (pe_fldK (pe_fldK (pv 0) rfl) rfl) (pa_cons (pe_callTy tup_K (by rfl) T.z_tuple (by decide +kernel) (pa_cons (pv 2) pa_nil)) pa_nil)))))))) (pss_one (ps_ret pe_bl)) pss_nil)
        (pss_cons (ps_if (PW.pt (pw_or (pt_not (pt_val (pe_call (ok_u_law_same T) (hr.mono (by omega)) rfl T.g_u_law_same T.k_u_law_same (b_u_law_same T) .nil pass0 (pa_cons (pe_fldK (pe_fldK (pv 0) rfl) rfl) (pa_cons (pv 6) pa_nil))))) (pw_or1 (pt_not (pt_val (pe_call (ok_u_law_same T) (hr.mono (by omega)) rfl T.g_u_law_same T.k_u_law_same (b_u_law_same T) .nil pass0 (pa_cons (pe_prop (pe_fldK (pv 0) rfl) T.cl_Lot T.P_Lot_members (ok_Lot_members T) (hr.mono (by omega)) (b_Lot_members T) .nil pass0 rfl) (pa_cons (pv 3) pa_nil)))))))) (pss_one (ps_ret pe_bl)) pss_nil)
        (pss_cons (ps_if (pt_not (pt_val (pe_call (ok_u_law_same T) (hr.mono (by omega)) rfl T.g_u_law_same T.k_u_law_same (b_u_law_same T) .nil pass0 (pa_cons (pe_cmpS (op_ownC (op := .Eq) (E := fun _ => E0) (fun _ _ => rfl) T.M_House_eq (ok_House_eq T) (hr.mono (by omega)) (b_House_eq T) (pAt pass0)) (pe_fldK (pe_fldK (pv 0) rfl) rfl) (pv 1) (nomark _)) (pa_cons pe_bl pa_nil))))) (pss_one (ps_ret pe_bl)) pss_nil)
        (pss_cons (ps_for PassesOwn.never rfl (pi_range1 rfl T.z_range (pa_cons (pv 4) pa_nil)) (pg_name (i := 8) sc_u_law_shows.nd rfl (Or.inl rfl)) (pss_cons (ps_set (i := 9) sc_u_law_shows.nd rfl (Or.inl rfl) (pe_meth (pv 0) T.cl_Crew T.M_Crew_row (ok_Crew_row T) (hr.mono (by omega)) (b_Crew_row T) .nil passL (pa_cons (pv 8) pa_nil)))
        (pss_cons (ps_if (PW.pt (pw_or (pt_not (pt_val (pe_call (ok_u_law_same T) (hr.mono (by omega)) rfl T.g_u_law_same T.k_u_law_same (b_u_law_same T) .nil pass0 (pa_cons (pv 9) (pa_cons (pe_ix ix_lK (pv 7) (pv 8) (fun _ _ => rfl)) pa_nil))))) (pw_or1 (pt_not (pt_val (pe_call (ok_u_law_same T) (hr.mono (by omega)) rfl T.g_u_law_same T.k_u_law_same (b_u_law_same T) .nil pass0 (pa_cons (pe_call (ok_meetings T) (hr.mono (by omega)) rfl T.g_meetings T.k_meetings (b_meetings T) .nil passL (pa_cons (pe_meth (pe_fldK (pv 0) rfl) T.cl_Beat T.M_Beat_lot (ok_Beat_lot T) (hr.mono (by omega)) (b_Beat_lot T) .nil passL (pa_cons (pv 8) pa_nil)) (pa_cons (pe_unS (un_negO (E := fun _ => E0) T.M_Lot_neg (ok_Lot_neg T) (hr.mono (by omega)) (b_Lot_neg T) (pAt pass0)) (pe_fldK (pv 0) rfl)) pa_nil))) (pa_cons (pe_ix ix_lK (pv 7) (pv 8) (fun _ _ => rfl)) pa_nil)))))))) (pss_one (ps_ret pe_bl)) pss_nil)
        (pss_cons (ps_asg pe_int (pg_sub (pv 9) pe_int set_list))
        (pss_cons (ps_expr (pe_bm PySem.F.plainAttrs_list PySem.F.slot_list_append PySem.F.type_list_append mt_append (pv 9) (pa_cons pe_int pa_nil)))
        (pss_one (ps_if (pt_not (pt_val (pe_call (ok_u_law_same T) (hr.mono (by omega)) rfl T.g_u_law_same T.k_u_law_same (b_u_law_same T) .nil pass0 (pa_cons (pe_meth (pv 0) T.cl_Crew T.M_Crew_row (ok_Crew_row T) (hr.mono (by omega)) (b_Crew_row T) .nil passL (pa_cons (pv 8) pa_nil)) (pa_cons (pe_ix ix_lK (pv 7) (pv 8) (fun _ _ => rfl)) pa_nil))))) (pss_one (ps_ret pe_bl)) pss_nil)))))))
        (pss_cons (ps_for PassesOwn.never rfl (pi_range1 rfl T.z_range (pa_cons (pv 6) pa_nil)) (pg_name (i := 10) sc_u_law_shows.nd rfl (Or.inl rfl)) (pss_one (ps_for PassesOwn.never rfl (pi_listK (pe_lst (pa_cons (pv 10) (pa_cons (pe_op op_add (pv 10) (pe_op op_mul (pv 6) (pe_ix ix_lK (pv 5) pe_int (fun _ _ => rfl)))) (pa_cons (pe_op op_sub (pv 10) (pe_op op_mul (pv 6) (pe_ix ix_lK (pv 5) pe_int (fun _ _ => rfl)))) pa_nil))))) (pg_name (i := 11) sc_u_law_shows.nd rfl (Or.inl rfl)) (pss_one (ps_if (pt_not (pt_val (pe_call (ok_u_law_works T) (hr.mono (by omega)) rfl T.g_u_law_works T.k_u_law_works (b_u_law_works T) .nil pass0 (pa_cons (pv 0) (pa_cons (pv 2) (pa_cons (pv 3) (pa_cons (pv 11) pa_nil))))))) (pss_one (ps_ret pe_bl)) pss_nil)))))
        (pss_cons (ps_for PassesOwn.never rfl (pi_listK (pe_lst (pa_cons (pe_un un_neg pe_int) (pa_cons (pv 4) (pa_cons (pe_op op_add (pv 4) (pe_ix ix_lK (pv 5) pe_int (fun _ _ => rfl))) (pa_cons (pe_op op_sub (pe_un un_neg pe_int) (pe_ix ix_lK (pv 5) pe_int (fun _ _ => rfl))) pa_nil)))))) (pg_name (i := 12) sc_u_law_shows.nd rfl (Or.inl rfl)) (pss_one (ps_if (pt_not (pt_val (pe_call (ok_u_law_no_row T) (hr.mono (by omega)) rfl T.g_u_law_no_row T.k_u_law_no_row (b_u_law_no_row T) .nil pass0 (pa_cons (pv 0) (pa_cons (pv 12) pa_nil))))) (pss_one (ps_ret pe_bl)) pss_nil)))
        (pss_one (ps_ret pe_bl)))))))))), ?_⟩
    obtain ⟨a, dx, b, s, h, rfl, h1, hB, hL⟩ := id W.at_
    obtain ⟨ba, bdx, bp, rfl, h2, h3⟩ := id hB.b
    obtain ⟨sa, sdx, sl, rfl, s1, s2⟩ := id hL.at_
    have nfH : PySem.W.notFirst K A.C_House (.ref A.C_House) = true := by unfold PySem.W.notFirst; simp
    have nb := hB.nb
    have gl := hB.gl
    have ln := hB.gd.len
    have xl := hL.len
    try dsimp only
    refine q_asg (v := .int (n : Int)) (ev_cb (r := rLenK K) (ea_cons (ev_var (i := 2) rfl) ea_nil) fun H2 e2 Q q => ⟨.ref p, n, rfl, .inl ⟨_, ex_l e2 hp, by rw [List.length_map, ln]⟩, q H2 (Ex.refl H2)⟩) fun H1 e1 => ?_
    try dsimp only
    refine q_asgR (er_walked (K := K) (n := n) (m := gs.length) (ss := ss) (xs := xs) (ev_var (i := 2) rfl) (ev_var (i := 3) rfl) (ev_var (i := 4) rfl) (ex_l e1 hp) (ex_l e1 hq) ln (by omega) gl (by omega) hB.gd.val) fun v H2 e2 hr => ?_
    obtain ⟨r, rfl, hR⟩ := hr
    have e02 := e1.trans e2
    try dsimp only
    refine q_skip (et_orF (et_notT (et_B (ev_same (d := .int (xs.length : Int)) (ed_int (ev_crewLen (K := K) (A := A) (er_ev (ev_var (i := 0) rfl) fun G e => W.ex (e02.trans e)))) (ed_int (ev_cb (r := rLenK K) (ea_cons (ev_var (i := 3) rfl) ea_nil) fun H3 e3 Q q' => ⟨.ref q, xs.length, rfl, .inl ⟨_, ex_l (e02.trans e3) hq, (List.length_map _).symm⟩, q' H3 (Ex.refl H3)⟩)) True.intro)))
      (et_notT (et_B (ev_same (d := .tuple (ss.map .int)) (er_ev (ev_bsteps (ev_cbeat (ev_var (i := 0) rfl) (e02 _ _ h1) T.cl_Crew T.na_Crew_beat) (e02 _ _ h2) T.cl_Beat T.na_Beat_steps) fun G e => .tup (st_of ((e02.trans e) _ _ h3)) (dp_ints _)) ((en_tupB (K := K) (ev_var (i := 2) rfl) (ex_l e02 hp)).imp fun v G ⟨t, z1, z2⟩ => by rw [z1]; exact .tup (st_of z2) (dp_ints _)) (flat_intsT (by omega)))))) fun H3 e3 => ?_
    have e03 := e02.trans e3
    try dsimp only
    refine q_skip (et_orF (et_notT (et_B (ev_same (d := .int (n : Int)) (ed_int (ev_hours (K := K) (ev_cstarts (ev_var (i := 0) rfl) (e03 _ _ h1) T.cl_Crew T.na_Crew_starts) (e03 _ _ s1) T.cl_Lot T.na_Lot_hours)) (ed_int (ev_var (i := 6) rfl)) True.intro)))
      (et_notT (et_B (ev_same (d := .list (xs.map .int)) (ed_L (el_mems (A := A) (n := (n : Int)) (xs := xs) (er_ev (ev_cstarts (ev_var (i := 0) rfl) (e03 _ _ h1) T.cl_Crew T.na_Crew_starts) fun F e => hL.ex (e03.trans e)))) (ed_held (i := 3) rfl (ex_l e03 hq)) (flatI (by omega)))))) fun H4 e4 => ?_
    have e04 := e03.trans e4
    try dsimp only
    refine q_skip (et_notT (et_B (ev_same (d := .bool true) (ed_bl (ev_is (ev_heq (K := K) (A := A) T.ty_House nfH (ev_bhouse (ev_cbeat (ev_var (i := 0) rfl) (e04 _ _ h1) T.cl_Crew T.na_Crew_beat) (e04 _ _ h2) T.cl_Beat T.na_Beat_house) (ev_var (i := 1) rfl) (hB.hs.ex e04) (hh.ex e04) hB.wd hB.wd) (by rw [decide_eq_true ⟨rfl, rfl⟩]))) (ed_bl ev_c) True.intro))) fun H5 e5 => ?_
    have e05 := e04.trans e5
    have hR5 := hR.ex ((e3.trans e4).trans e5)
    clear e02 e03 e04 hR
    try dsimp only
    refine q_forR1 (j := 8) (n := (gs.length : Int)) (ea_cons (ev_var (i := 4) rfl) ea_nil) (by omega) (fun i σ' G => ∃ v8 v9 : Option V, σ' = [some (.ref a), some hv, some (.ref p), some (.ref q), some (.int (gs.length : Int)), some (.ref lp), some (.int (n : Int)), some (.ref r), v8, v9, none, none, none] ∧ Ex H5 G) (fun H6 e6 => ⟨none, none, rfl, e6⟩) ?_ ?_
    · rintro i σ' G hi ⟨v8, v9, rfl, eG⟩
      have hi : i < gs.length := by omega
      have e0G := e05.trans eG
      obtain ⟨vs, r1, r2, r3⟩ := (hR5.ex eG).all
      rw [List.length_map, List.length_range] at r2
      have xi : vs[i]? = some vs[i] := List.getElem?_eq_getElem (by omega)
      obtain ⟨rq, hrq, hrow⟩ := r3 i _ xi
      rw [List.getD_eq_getElem?_getD, List.getElem?_map, List.getElem?_range hi] at hrow
      have hrow : SqL K G rq ((rowL n ss xs (i : Int)).map V.int) := hrow
      rw [hrq] at xi
      have rlen : (rowL n ss xs (i : Int)).length = n := by unfold rowL; rw [fitL_len, Int.toNat_natCast]
      have rwE : ∀ {σ : L2.St} {F : Hp}, σ[7]? = some (some (.ref r)) → σ[8]? = some (some (.int (i : Int))) → Ex G F → EvR (tOp (rIxL K) (tVar 7) (tVar 8)) σ F fun v H1 => Dp K H1 v (.list ((rowL n ss xs (i : Int)).map .int)) := fun s7 s8 e => er_ev (ev_op (ev_var s7) (ev_var s8) (rv_ixL (K := K) (ex_l e r1) (atI_nat xi))) fun F' e' => .lst (ex_l (e.trans e') hrow) (dp_ints _)
      try dsimp only
      refine q_asgL (el_row (K := K) (A := A) (er_ev (ev_var (i := 0) rfl) fun F e => W.ex (e0G.trans e)) (ev_var (i := 8) rfl) ⟨by omega, by omega⟩) fun w G1 hw g1 hwl => ?_
      try dsimp only
      refine q_skip (et_orF (et_notT (et_B (ev_same (d := .list ((rowL n ss xs (i : Int)).map .int)) (ed_held (i := 9) rfl (sq_of hwl)) (rwE rfl rfl g1) (flatI (by omega)))))
        (et_notT (et_B (ev_same (d := .list ((rowL n ss xs (i : Int)).map .int)) (ed_L (el_meet (K := K) (A := A) (hs := hL.asc) (er_blot (K := K) (A := A) (er_ev (ev_cbeat (ev_var (i := 0) rfl) ((e0G.trans g1) _ _ h1) T.cl_Crew T.na_Crew_beat) fun F e => hB.ex ((e0G.trans g1).trans e)) (ev_var (i := 8) rfl) ⟨by omega, by omega⟩) (er_lot1 (er_ev (ev_cstarts (ev_var (i := 0) rfl) ((e0G.trans g1) _ _ h1) T.cl_Crew T.na_Crew_starts) fun F e => hL.ex ((e0G.trans g1).trans e))))) (rwE rfl rfl g1) (flatI (by omega)))))) fun G2 g2 => ?_
      have g12 := g1.trans g2
      try dsimp only
      refine q_setL (j := 0) (v := .int 97) (g2 _ _ hwl) ev_c (ev_var (i := 9) rfl) ev_c (by rw [List.length_map]; omega) fun G3 g3 => ?_
      have g13 : Ex G (upd G3 w (.lst (((rowL n ss xs (i : Int)).map V.int).set 0 (.int 97)))) := Ex.mut (g12.trans g3) hw
      try dsimp only
      refine q_app (v := .int 1) upd_same (ev_var (i := 9) rfl) ev_c (by rw [List.length_set, List.length_map]; omega) fun G4 g4 => ?_
      have g14 := Ex.mut (o := .lst (((rowL n ss xs (i : Int)).map V.int).set 0 (.int 97) ++ [.int 1])) (g13.trans g4) hw
      try dsimp only
      exact s_when (b := false) (et_notT (et_B (ev_same (d := .list ((rowL n ss xs (i : Int)).map .int)) (ed_L (el_row (K := K) (A := A) (er_ev (ev_var (i := 0) rfl) fun F e => W.ex ((e0G.trans g14).trans e)) (ev_var (i := 8) rfl) ⟨by omega, by omega⟩)) (rwE rfl rfl g14) (flatI (by omega))))) (fun z => Bool.noConfusion z) fun _ G5 g5 => ⟨_, _, rfl, (eG.trans g14).trans g5⟩
    rintro σ' G ⟨v8, v9, rfl, eG⟩
    have e0G := e05.trans eG
    try dsimp only
    refine q_forR1 (j := 10) (n := (n : Int)) (ea_cons (ev_var (i := 6) rfl) ea_nil) (by omega) (fun i σ' F => ∃ v10 v11 : Option V, σ' = [some (.ref a), some hv, some (.ref p), some (.ref q), some (.int (gs.length : Int)), some (.ref lp), some (.int (n : Int)), some (.ref r), v8, v9, v10, v11, none] ∧ Ex H F) (fun H6 e6 => ⟨none, none, rfl, e0G.trans e6⟩) ?_ ?_
    · rintro i σ' F hi ⟨v10, v11, rfl, eF⟩
      try dsimp only
      refine s_forI (ei_list (K := K) (eb_L (K := K) (xs := [.int (i : Int), .int ((i : Int) + (n : Int) * l0), .int ((i : Int) - (n : Int) * l1)]) (el_lst (ea_cons (ev_var (i := 10) rfl) (ea_cons (ev_op (ev_var (i := 10) rfl) (ev_op (ev_var (i := 6) rfl) (ev_op (ev_var (i := 5) rfl) ev_c (rv_ixL (K := K) (ex_l eF hlp) (atI_nat (j := 0) rfl))) (rv_I (show CMul (n : Int) l0 from .inl ⟨by omega, by omega⟩))) rv_I0) (ea_cons (ev_op (ev_var (i := 10) rfl) (ev_op (ev_var (i := 6) rfl) (ev_op (ev_var (i := 5) rfl) ev_c (rv_ixL (K := K) (ex_l eF hlp) (atI_nat (j := 1) rfl))) (rv_I (show CMul (n : Int) l1 from .inl ⟨by omega, by omega⟩))) rv_I0) ea_nil))) (by show 3 ≤ 100000; decide)))) fun H3 e3 => ⟨fun j σ' F' => ∃ v11 : Option V, σ' = [some (.ref a), some hv, some (.ref p), some (.ref q), some (.int (gs.length : Int)), some (.ref lp), some (.int (n : Int)), some (.ref r), v8, v9, some (.int (i : Int)), v11, none] ∧ Ex H3 F', ⟨_, rfl, Ex.refl _⟩, fun j σ' F' _ ⟨_, _, e⟩ => e, ?_, ?_⟩
      · rintro j y σ' F1 F2 hj ⟨v11', rfl, eF1⟩ ⟨rfl, hy⟩
        obtain ⟨z, rfl⟩ : ∃ z : Int, y = .int z := by
          have : j = 0 ∨ j = 1 ∨ j = 2 := by
            have hj : j < 3 := hj
            omega
          rcases this with rfl | rfl | rfl
          · exact ⟨_, (Option.some.inj hy).symm⟩
          · exact ⟨_, (Option.some.inj hy).symm⟩
          · exact ⟨_, (Option.some.inj hy).symm⟩
        have e0F := eF.trans (e3.trans eF1)
        dsimp only [gName]
        try dsimp only
        exact s_when (b := false) (et_notT (et_B (ev_works (K := K) (A := A) (er_ev (ev_var (i := 0) rfl) fun F e => W.ex (e0F.trans e)) (ev_var (i := 2) rfl) (ev_var (i := 3) rfl) (ev_var (i := 11) rfl) (ex_l e0F hp) (ex_l e0F hq)))) (fun z => Bool.noConfusion z) fun _ F3 f3 => ⟨_, rfl, eF1.trans f3⟩
      rintro σ' F1 ⟨v11', rfl, eF1⟩
      exact ⟨_, _, rfl, eF.trans (e3.trans eF1)⟩
    rintro σ' F ⟨v10, v11, rfl, eF⟩
    try dsimp only
    refine q_forI (ei_list (K := K) (eb_L (K := K) (xs := [.int (-1), .int (gs.length : Int), .int ((gs.length : Int) + l0), .int (-2 - l1)]) (el_lst (ea_cons (ev_un ev_c ru_neg) (ea_cons (ev_var (i := 4) rfl) (ea_cons (ev_op (ev_var (i := 4) rfl) (ev_op (ev_var (i := 5) rfl) ev_c (rv_ixL (K := K) (ex_l eF hlp) (atI_nat (j := 0) rfl))) rv_I0) (ea_cons (ev_op (ev_un ev_c ru_neg) (ev_op (ev_var (i := 5) rfl) ev_c (rv_ixL (K := K) (ex_l eF hlp) (atI_nat (j := 1) rfl))) rv_I0) ea_nil)))) (by show 4 ≤ 100000; decide)))) fun H3 e3 => ⟨fun j σ' F' => ∃ v12 : Option V, σ' = [some (.ref a), some hv, some (.ref p), some (.ref q), some (.int (gs.length : Int)), some (.ref lp), some (.int (n : Int)), some (.ref r), v8, v9, v10, v11, v12] ∧ Ex H3 F', ⟨_, rfl, Ex.refl _⟩, fun j σ' F' _ ⟨_, _, e⟩ => e, ?_, ?_⟩
    · rintro j u σ' F1 F2 hj ⟨v12', rfl, eF1⟩ ⟨rfl, hu⟩
      obtain ⟨z, rfl, hz⟩ : ∃ z : Int, u = .int z ∧ ¬ (0 ≤ z ∧ z < (gs.length : Int)) := by
        have : j = 0 ∨ j = 1 ∨ j = 2 ∨ j = 3 := by
          have hj : j < 4 := hj
          omega
        rcases this with rfl | rfl | rfl | rfl
        · exact ⟨_, (Option.some.inj hu).symm, by omega⟩
        · exact ⟨_, (Option.some.inj hu).symm, by omega⟩
        · exact ⟨_, (Option.some.inj hu).symm, by omega⟩
        · exact ⟨_, (Option.some.inj hu).symm, by omega⟩
      have e0F := eF.trans (e3.trans eF1)
      dsimp only [gName]
      try dsimp only
      exact s_when (b := false) (et_notT (et_B (ev_call (ea_cons (ev_var (i := 0) rfl) (ea_cons (ev_var (i := 12) rfl) ea_nil)) fun H2 e Q q _ => ⟨.ref a, z, n, gs, ss, xs, rfl, W.ex (e0F.trans e), hz, fun H' e' => q H' e'⟩))) (fun z => Bool.noConfusion z) fun _ F3 f3 => ⟨_, rfl, eF1.trans f3⟩
    rintro σ' F1 ⟨v12, rfl, eF1⟩
    exact s_ret ev_c fun F2 f2 => k F2 (eF.trans (e3.trans (eF1.trans f2)))

def spOtherRing (K : PySem.W.Frag) (A : Ads) : Sp := fun vs H Q _ => ∃ (b s h : V) (n : Nat) (m : Int) (gs : List (Str × Int)) (ss xs : List Int), vs = [b, s] ∧ BeatOk K A b H h n gs ss ∧ LotIs A.C_Lot s H m xs ∧ m ≠ (n : Int) ∧ ∀ H', Ex H H' → Q (.bl true) H' 
theorem ok_u_law_other_ring (T : Txt K mg A) : FnOk P w K mg base CX0 8 A.f_u_law_other_ring A.d_u_law_other_ring (["beat", "starts"] : List Str) (spOtherRing K A) := by
  refine T.F_u_law_other_ring.ok sc_u_law_other_ring (fun vs H Q E h => ?_) (fun cdv Ar outer s H vs Q E hr h => ?_)
  · obtain ⟨b, s, h, n, m, gs, ss, xs, rfl, _⟩ := h
    rfl
  · obtain ⟨b, s, h, n, m, gs, ss, xs, rfl, W, hL, hm, k⟩ := h
    refine ⟨_, (pss_cons (ps_set (i := 2) sc_u_law_other_ring.nd rfl (Or.inl rfl) pe_non)
        (pss_cons (ps_try_as (i := 3) (Wout := fun _ _ _ _ => False) rfl rfl sc_u_law_other_ring.nd rfl rfl ⟨rfl, by decide, Or.inl T.g_OtherHours⟩ takes0 (fun W pn xe tk _ => (pss_one (ps_expr (pe_makeS T.mk_Crew (ok_Crew_init T) (hr.mono (by omega)) rfl T.g_Crew (b_Crew_init T) .nil (fun σ => passAt tk σ) (pa_cons (pv 0) (pa_cons (pv 1) pa_nil)))))) (fun a oe cls dd pn hz hf => (pss_one (ps_set (i := 2) sc_u_law_other_ring.nd rfl (Or.inl rfl) (pe_tup (pa_cons (pe_callB (call_isN T.ex_OtherHours hz hf) (by rfl) T.z_isinstance (by decide +kernel) (pa_cons (pv 3) (pa_cons (pe_glob (v := .ref A.C_WatchError) rfl T.g_WatchError rfl) pa_nil))) (pa_cons (pe_callB (call_isN T.ex_OtherHours hz hf) (by rfl) T.z_isinstance (by decide +kernel) (pa_cons (pv 3) (pa_cons (pe_bltn (v := .ty "ValueError") (by rfl) T.z_ValueError (by decide +kernel) rfl) pa_nil))) (pa_cons (pe_callB (call_isN T.ex_OtherHours hz hf) (by rfl) T.z_isinstance (by decide +kernel) (pa_cons (pv 3) (pa_cons (pe_glob (v := .ref A.C_OtherHouse) rfl T.g_OtherHouse rfl) pa_nil))) (pa_cons (pe_callB (call_isN T.ex_OtherHours hz hf) (by rfl) T.z_isinstance (by decide +kernel) (pa_cons (pv 3) (pa_cons (pe_glob (v := .ref A.C_NoPlace) rfl T.g_NoPlace rfl) pa_nil))) pa_nil)))))))))
        (pss_one (ps_ret (pe_call (ok_u_law_same T) (hr.mono (by omega)) rfl T.g_u_law_same T.k_u_law_same (b_u_law_same T) .nil pass0 (pa_cons (pv 2) (pa_cons (pe_tup (pa_cons pe_bl (pa_cons pe_bl (pa_cons pe_bl (pa_cons pe_bl pa_nil))))) pa_nil))))))), ?_⟩
    try dsimp only
    refine q_asg (v := .non) ev_c fun H1 e1 => ?_
    refine ⟨_, rfl, _, rfl, fun x dx hx hdx hne => ?_⟩
    have eN : Ex H1 (upd (upd H1 dx (.own x)) x (.ins A.C_Crew dx [])) := (Ex.new hdx).trans (Ex.new (by rw [upd_ne (Ne.symm hne)]; exact hx))
    have e1N := e1.trans eN
    refine ⟨x, dx, b, s, h, n, m, gs, ss, xs, rfl, upd_same, W.ex e1N, hL.ex e1N, fun _ H2 e2 => ?_, fun hc => absurd hc hm⟩
    refine ⟨true, T.xm_OtherHours_OtherHours, fun _ ea hea => ?_, fun z => Bool.noConfusion z⟩
    have isz : ∀ (c : V) (b : Bool), (∃ cv, (∀ u, RelV c u → u = cv) ∧ PySem.W.kitOne K (.ref A.C_OtherHours) cv = some b) → ∀ G σ', σ'[3]? = some (some (.ref ea)) → Ev (tCB (rIsN K A.C_OtherHours ea (.ref A.C_OtherHours) none) (tCons (tVar 3) (tCons (tC c) tNil))) σ' G (.bl b) := fun c b ⟨cv, h1, h2⟩ G σ' hσ =>
      ev_cb (ea_cons (ev_var hσ) (ea_cons ev_c ea_nil)) fun H3 e3 Q q => ⟨rfl, rfl, c, cv, b, rfl, h1, h2, q H3 (Ex.refl H3)⟩
    try dsimp only
    refine s_asgR (ed_tup (K := K) (ds := [.bool true, .bool true, .bool false, .bool false]) (eds_cons (ed_bl (isz (.ref A.C_WatchError) _ ⟨.ref A.C_WatchError, fun u h => h, T.kit_OtherHours_WatchError⟩ _ _ rfl)) (eds_cons (ed_bl (isz (.ty "ValueError") _ ⟨.type "ValueError", fun u h => h, T.kit_OtherHours_ValueError⟩ _ _ rfl)) (eds_cons (ed_bl (isz (.ref A.C_OtherHouse) _ ⟨.ref A.C_OtherHouse, fun u h => h, T.kit_OtherHours_OtherHouse⟩ _ _ rfl)) (eds_cons (ed_bl (isz (.ref A.C_NoPlace) _ ⟨.ref A.C_NoPlace, fun u h => h, T.kit_OtherHours_NoPlace⟩ _ _ rfl)) eds_nil)))) (by show 4 ≤ 1000; decide)) fun w H3 e3 hw => ?_
    try dsimp only
    exact s_ret (v := .bl true) (ev_same (d := .tuple [.bool true, .bool true, .bool false, .bool false]) (er_ev (ev_var (i := 2) rfl) fun G e => dp_ex e hw) (ed_tup (eds_cons (ed_bl ev_c) (eds_cons (ed_bl ev_c) (eds_cons (ed_bl ev_c) (eds_cons (ed_bl ev_c) eds_nil)))) (by show 4 ≤ 1000; decide)) (flat_bools [true, true, false, false] (by decide))) fun H4 e4 => k H4 ((e1N.trans e2).trans (e3.trans e4))

theorem q_asgVia {K : PySem.W.Frag} {tl te : TE} {tt : TT} {g : TG} {vs : List Nat} {tz : TS} {D : Ends} {σ : L2.St} {H : Hp} {i : Nat} {P : V → Hp → Prop} (h : EvR tl σ H P) (k : ∀ v H1, Ex H H1 → P v H1 → tSeq (tAsg (tLc (iList K (tC v)) g tt te vs) (gName i)) tz D σ H1) : tSeq (tAsg (tLc (iList K tl) g tt te vs) (gName i)) tz D σ H :=
  h H (Ex.refl H) _ fun v H1 e p => k v H1 e p
theorem er_houseE {K : PySem.W.Frag} {A : Ads} {E : XK} {σ : L2.St} {H : Hp} {t1 t2 : TE} {n : Nat} {m : Nat} {gs : List (Str × Int)} (h1 : Ev t1 σ H (.int (n : Int))) (h2 : EvR t2 σ H fun v G => ∃ p, v = .ref p ∧ Gates K G p gs) (hg : GoodG gs m) (hn : 1 ≤ n ∧ n ≤ 24) (hm : 1 ≤ m ∧ m ≤ 4) (hc : m * n ≤ 48) :
    EvR (tMake A.C_House (spHouse K A) [] E (tCons t1 (tCons t2 tNil))) σ H fun v G => HouseIs A.C_House v G (n : Int) gs := fun H1 e Q q => h1 H1 e _ fun H2 e2 => h2 H2 (e.trans e2) _ fun v H3 e3 hv => by
  obtain ⟨p, rfl, hG⟩ := hv
  intro x dx hx hdx hne
  have eN : Ex H3 (upd (upd H3 dx (.own x)) x (.ins A.C_House dx [])) := (Ex.new hdx).trans (Ex.new (by rw [upd_ne (Ne.symm hne)]; exact hx))
  have good := house_good (n := (n : Int)) (by omega) (by rw [hg.len]; exact hm) hg.all hg.nd (by rw [hg.len, ← Int.natCast_mul, Nat.mul_comm]; omega)
  refine ⟨x, dx, p, n, gs, rfl, upd_same, hG.ex eN, by rw [hg.len]; omega, (fun g hm => by have := (hg.all g hm).1.len; omega), (fun er he => by rw [good] at he; cases he), fun _ np kp H' hk hn1 hn2 f1 f2 f3 => ⟨rfl, ?_⟩⟩
  have e' : Ex H3 H' := fun c o hc => hk c o (fun z => by rw [z, hx] at hc; cases hc) (eN c o hc)
  exact q _ H' ((e2.trans e3).trans e') ⟨x, dx, np, kp, rfl, f1, f2, f3⟩

theorem cut2 {vs : List V} : cutV vs none (some 2) = vs.take 2 := by
  unfold cutV
  rw [HT.sIx_none, show (2 : Int) = ((2 : Nat) : Int) from rfl, HT.sIx_nat, List.drop_zero, Nat.sub_zero, ← List.take_eq_take_min]
theorem er_cutG {K : PySem.W.Frag} {σ : L2.St} {H : Hp} {te : TE} {p : Addr} {gs fs : List (Str × Int)} (h : Ev te σ H (.ref p)) (hG : Gates K H p gs) (hf : fs = gs.take 2) : EvR (tSl (rSlL K) te tNoPart (tPart (tC (.int 2)))) σ H fun v G => ∃ p, v = .ref p ∧ Gates K G p fs := by
  obtain ⟨vs, z1, z2, z3⟩ := hG.all
  exact fun H1 e Q q => (er_L (el_isW (el_sl h eo_none (eo_some ev_c) z1) cut2)) H1 e Q fun v H2 e2 hv => by
    obtain ⟨l, rfl, hl⟩ := hv
    refine q _ H2 e2 ⟨l, rfl, ⟨vs.take 2, sq_of hl, by rw [List.length_take, z2, hf, List.length_take], fun i v hv => ?_⟩⟩
    rw [List.getElem?_take] at hv
    by_cases c : i < 2
    · rw [if_pos c] at hv
      refine (z3 i v hv).imp fun t ht => ⟨ht.1, fun g hg => ex_t (e.trans e2) (ht.2 g ?_)⟩
      rw [hf, List.getElem?_take, if_pos c] at hg
      exact hg
    · rw [if_neg c] at hv
      cases hv
theorem ev_lenR {K : PySem.W.Frag} {σ : L2.St} {H : Hp} {te : TE} {n : Nat} (h : EvR te σ H fun v G => ∃ p xs, v = .ref p ∧ SqL K G p xs ∧ xs.length = n) : Ev (tCB (rLenK K) (tCons te tNil)) σ H (.int (n : Int)) := fun H1 e Q q => h H1 e _ fun v H2 e2 hv => by
  obtain ⟨p, xs, rfl, hp, hl⟩ := hv
  exact ⟨.ref p, n, rfl, .inl ⟨xs, hp, hl.symm⟩, q H2 e2⟩
theorem er_two {E : XK} {σ : L2.St} {H : Hp} {t : TE} {n : Int} (h : Ev t σ H (.int n)) (hn : 0 ≤ n ∧ n ≤ 25) : EvR (tCall spTwo [] E (tCons t tNil)) σ H fun v _ => ∃ z : Int, v = .int z ∧ 1 ≤ z ∧ z ≤ 33554432 :=
  er_call (vs := [.int n]) (ea_cons h ea_nil) fun H1 e Q q => ⟨n, rfl, hn, fun z H' e' hz => q (.int z) H' e' ⟨z, rfl, hz⟩⟩
/-- draws out of a menu whose first number is not known beforehand -/
theorem er_drawsZ {K : PySem.W.Frag} {E : XK} {σ : L2.St} {H : Hp} {tc ts t1 : TE} {ta : TA} {c z : Int} {ms : List Int} (hc : Ev tc σ H (.int c)) (hs : Ev ts σ H (.int z)) (h1 : EvR t1 σ H fun v _ => ∃ z : Int, v = .int z ∧ 1 ≤ z ∧ z ≤ 33554432) (hm : EvA ta σ H (ms.map V.int)) (h0 : 0 ≤ c) (hz : -1000000 ≤ z ∧ z ≤ 1000000) (hl : ms.length ≤ 63)
    (hb : ∀ x ∈ ms, 1 ≤ x ∧ x.natAbs < 2 ^ 1000) : EvR (tCall (sp_draws K) [] E (tCons tc (tCons ts (tCons (tLst (tCons t1 ta)) tNil)))) σ H fun v H1 => ∃ (p : Addr) (ds : List Int) (m : Int), v = .ref p ∧ H1 p = some (.lst (ds.map V.int)) ∧ (1 ≤ m ∧ m ≤ 33554432) ∧ Drawn (m :: ms) ds := fun H1 e Q q =>
  hc H1 e _ fun H2 e2 => hs H2 (e.trans e2) _ fun H3 e3 => h1 H3 ((e.trans e2).trans e3) _ fun v H4 e4 hv => hm H4 (((e.trans e2).trans e3).trans e4) _ fun H5 e5 => by
    obtain ⟨m, rfl, m1, m2⟩ := hv
    refine ⟨?_, fun a ha => ⟨c, z, a, m :: ms, rfl, sq_of upd_same, h0, hz, by show ms.length + 1 ≤ 64; omega, fun x hx => ?_, fun p H' ds hp e' h' hD => q _ H' ((((e2.trans e3).trans e4).trans e5).trans ((Ex.new ha).trans e')) ⟨p, ds, m, rfl, h', ⟨m1, m2⟩, hD⟩⟩⟩
    · rw [List.length_cons, List.length_map]
      exact Nat.le_trans (show ms.length + 1 ≤ 64 by omega) (by decide)
    · rcases List.mem_cons.mp hx with rfl | hx
      · exact ⟨m1, Nat.lt_of_lt_of_le (show x.natAbs < 2 ^ 26 by omega) (Nat.pow_le_pow_right (by decide) (by decide))⟩
      · exact hb x hx
theorem er_bits {E : XK} {σ : L2.St} {H : Hp} {t1 t2 : TE} {n : Int} (h1 : Ev t1 σ H (.int n)) (h2 : EvR t2 σ H fun v _ => ∃ z : Int, v = .int z) (hn : 0 ≤ n ∧ n ≤ 25) : EvR (tCall spBits [] E (tCons t1 (tCons t2 tNil))) σ H fun v G => ∃ (p : Addr) (xs : List Int), v = .ref p ∧ G p = some (.lst (xs.map V.int)) ∧ Asc 0 n xs := fun H1 e Q q =>
  h1 H1 e _ fun H2 e2 => h2 H2 (e.trans e2) _ fun v H3 e3 hv => by
    obtain ⟨z, rfl⟩ := hv
    exact ⟨n, z, rfl, hn, fun p H' xs hp e' h' hA => q _ H' ((e2.trans e3).trans e') ⟨p, xs, rfl, h', hA⟩⟩

def spGreat (K : PySem.W.Frag) : Sp := fun vs H Q _ => ∃ (p gp : Addr) (cs : List Int) (m : Nat) (gs : List (Str × Int)), vs = [.ref p, .ref gp] ∧ SqL K H p (cs.map V.int) ∧ Gates K H gp gs ∧ GoodG gs m ∧ (1 ≤ m ∧ m ≤ 4) ∧ ∀ H', Ex H H' → Q (.bl true) H' 
theorem ok_u_law_great (T : Txt K mg A) : FnOk P w K mg base CX0 13 A.f_u_law_great A.d_u_law_great (["script", "gates"] : List Str) (spGreat K) := by
  refine T.F_u_law_great.ok sc_u_law_great (fun vs H Q E h => ?_) (fun cdv Ar outer s H vs Q E hr h => ?_)
  · obtain ⟨p, gp, cs, m, gs, rfl, _⟩ := h
    rfl
  · obtain ⟨p, gp, cs, m, gs, rfl, hp, hG, hg, hm, k⟩ := h
    refine ⟨_, (pss_cons (ps_set (i := 2) sc_u_law_great.nd rfl (Or.inl rfl) (pe_make T.mk_House (ok_House_init T) (hr.mono (by omega)) rfl T.g_House (b_House_init T) .nil passL (pa_cons pe_int (pa_cons (pe_slice sl_list (pv 1) po_none (po_some pe_int)) pa_nil))))
        (pss_cons (ps_set (i := 3) sc_u_law_great.nd rfl (Or.inr rfl) (pe_callB len_K (by rfl) T.z_len (by decide +kernel) (pa_cons (pe_slice sl_list (pv 1) po_none (po_some pe_int)) pa_nil)))
        (pss_cons (ps_setLc (i := 4) (own := [("place", 6)]) (g := gName 6) (tt := tYes) rfl sc_u_law_great.nd rfl rfl (sw_true rfl rfl rfl (by decide +kernel)) (pi_listK (pe_call (ok_u_law_draws T) (hr.mono (by omega)) rfl T.g_u_law_draws T.k_u_law_draws (b_u_law_draws T) .nil pass0 (pa_cons (pe_call (ok_u_law_cell T) (hr.mono (by omega)) rfl T.g_u_law_cell T.k_u_law_cell (b_u_law_cell T) .nil pass0 (pa_cons (pv 0) (pa_cons pe_int pa_nil))) (pa_cons pe_int (pa_cons (pe_lc (own := [("h", 5)]) (g := gName 5) (tt := tYes) rfl sc_u_law_great.nd (pi_range1 rfl T.z_range (pa_cons pe_int pa_nil)) (blkOk_by (own := [("h", 5)]) (N := N_u_law_great) (sc := defScope s_u_law_great) (by decide +kernel)) (fun _ _ _ _ _ => (pg_name (i := 5) sc_u_law_great.nd rfl (Or.inl rfl))) (fun _ _ _ _ _ => pts_nil) (fun _ _ _ _ _ => (pe_op op_add (pv 3) pe_int))) pa_nil))))) (blkOk_by (own := [("place", 6)]) (N := N_u_law_great) (sc := defScope s_u_law_great) (by decide +kernel)) (fun _ _ _ _ _ => (pg_name (i := 6) sc_u_law_great.nd rfl (Or.inl rfl))) (fun _ _ _ _ _ => pts_nil) (fun _ _ _ _ _ => (pe_op op_sub (pv 6) pe_int)))
        (pss_cons (ps_set (i := 7) sc_u_law_great.nd rfl (Or.inl rfl) (pe_call (ok_u_law_draws T) (hr.mono (by omega)) rfl T.g_u_law_draws T.k_u_law_draws (b_u_law_draws T) .nil pass0 (pa_cons (pe_call (ok_u_law_cell T) (hr.mono (by omega)) rfl T.g_u_law_cell T.k_u_law_cell (b_u_law_cell T) .nil pass0 (pa_cons (pv 0) (pa_cons pe_int pa_nil))) (pa_cons pe_int (pa_cons (pe_lst (pa_cons (pe_call (ok_u_law_two T) (hr.mono (by omega)) rfl T.g_u_law_two T.k_u_law_two (b_u_law_two T) .nil pass0 (pa_cons pe_int pa_nil)) (pa_cons pe_int pa_nil))) pa_nil)))))
        (pss_cons (ps_set (i := 8) sc_u_law_great.nd rfl (Or.inl rfl) (pe_call (ok_u_law_bits T) (hr.mono (by omega)) rfl T.g_u_law_bits T.k_u_law_bits (b_u_law_bits T) .nil pass0 (pa_cons pe_int (pa_cons (pe_ix ix_lK (pv 7) pe_int (fun _ _ => rfl)) pa_nil))))
        (pss_cons (ps_set (i := 9) sc_u_law_great.nd rfl (Or.inr rfl) (pe_make T.mk_Crew (ok_Crew_init T) (hr.mono (by omega)) rfl T.g_Crew (b_Crew_init T) .nil passL (pa_cons (pe_make T.mk_Beat (ok_Beat_init T) (hr.mono (by omega)) rfl T.g_Beat (b_Beat_init T) .nil passL (pa_cons (pv 2) (pa_cons (pe_callTy list_K (by rfl) T.z_list (by decide +kernel) (pa_cons (pv 4) pa_nil)) pa_nil))) (pa_cons (pe_make T.mk_Lot (ok_Lot_init T) (hr.mono (by omega)) rfl T.g_Lot (b_Lot_init T) .nil passL (pa_cons pe_int (pa_cons (pe_callTy list_K (by rfl) T.z_list (by decide +kernel) (pa_cons (pv 8) pa_nil)) pa_nil))) pa_nil))))
        (pss_cons (ps_setLc (i := 10) (own := [("g", 11)]) (g := gName 11) (tt := tYes) rfl sc_u_law_great.nd rfl rfl (sw_true rfl rfl rfl (by decide +kernel)) (pi_range1 rfl T.z_range (pa_cons (pv 3) pa_nil)) (blkOk_by (own := [("g", 11)]) (N := N_u_law_great) (sc := defScope s_u_law_great) (by decide +kernel)) (fun _ _ _ _ _ => (pg_name (i := 11) sc_u_law_great.nd rfl (Or.inl rfl))) (fun _ _ _ _ _ => pts_nil) (fun _ _ _ _ _ => (pe_meth (pv 9) T.cl_Crew T.M_Crew_row (ok_Crew_row T) (hr.mono (by omega)) (b_Crew_row T) .nil passL (pa_cons (pv 11) pa_nil))))
        (pss_one (ps_ret (pe_and (pe_call (ok_u_law_same T) (hr.mono (by omega)) rfl T.g_u_law_same T.k_u_law_same (b_u_law_same T) .nil pass0 (pa_cons (pv 10) (pa_cons (pe_call (ok_u_law_walked T) (hr.mono (by omega)) rfl T.g_u_law_walked T.k_u_law_walked (b_u_law_walked T) .nil pass0 (pa_cons (pv 4) (pa_cons (pv 8) (pa_cons (pv 3) pa_nil)))) pa_nil))) (pe_one (pe_call (ok_u_law_works T) (hr.mono (by omega)) rfl T.g_u_law_works T.k_u_law_works (b_u_law_works T) .nil pass0 (pa_cons (pv 9) (pa_cons (pv 4) (pa_cons (pv 8) (pa_cons (pe_ix ix_lK (pv 7) pe_int (fun _ _ => rfl)) pa_nil)))))))))))))))), ?_⟩
    obtain ⟨fs, hfs⟩ : ∃ fs, fs = gs.take 2 := ⟨_, rfl⟩
    have gl := hg.len
    have fl : 1 ≤ fs.length ∧ fs.length ≤ 2 := by rw [hfs, List.length_take]; omega
    have gf : GoodG fs fs.length := ⟨rfl, by rw [hfs, List.map_take]; exact hg.nd.sublist (List.take_sublist _ _), fun g hm => hg.all g (by rw [hfs] at hm; exact List.mem_of_mem_take hm)⟩
    have wds : ∀ g ∈ fs, Word g.1 := fun g hg => (gf.all g hg).1
    try dsimp only
    refine q_asgR (er_houseE (K := K) (A := A) (n := 24) (gs := fs) ev_c (er_cutG (K := K) (ev_var (i := 1) rfl) hG hfs) gf ⟨by decide, by decide⟩ ⟨fl.1, by omega⟩ (by omega)) fun hv H1 e1 hh => ?_
    try dsimp only
    refine q_asg (v := .int (fs.length : Int)) (ev_lenR (K := K) (EvR.imp (er_cutG (K := K) (ev_var (i := 1) rfl) (hG.ex e1) hfs) fun v G ⟨p, z1, z2⟩ => z2.all.elim fun vs z3 => ⟨p, vs, z1, z3.1, z3.2.1⟩)) fun H2 e2 => ?_
    have e12 := e1.trans e2
    try dsimp only
    refine q_asgVia (er_draws (K := K) (ms := List.replicate 24 ((fs.length : Int) + 1)) (ev_cell (k := 9) (ev_var rfl) ev_c (ex_l e12 hp)) ev_c (el_isW (el_rngY (n := 24) (fun _ => .int ((fs.length : Int) + 1)) (ea_cons ev_c ea_nil) (by omega) (fun x => rfl) fun i G hi e => ev_op (ev_var (i := 3) rfl) ev_c rv_I0) (by rw [List.map_replicate, List.map_const', List.length_range])) (cellA_nn _ _) (by decide) (by rw [List.length_replicate]; omega) (fun x hx => by rw [(List.mem_replicate.mp hx).2]; exact ⟨by omega, Nat.lt_of_lt_of_le (show _ < 2 ^ 7 by omega) (Nat.pow_le_pow_right (by decide) (by decide))⟩)) fun v H3 e3 hq => ?_
    obtain ⟨qp, qs, rfl, hq, hDq⟩ := hq
    have ql : qs.length = 24 := by rw [hDq.1, List.length_replicate]
    have qb : ∀ x ∈ qs, 0 ≤ x ∧ x < (fs.length : Int) + 1 := fun x hx => by
      obtain ⟨i, hi, rfl⟩ := List.getElem_of_mem hx
      have := drawn_at hDq (i := i) (m := (fs.length : Int) + 1) (by rw [List.getElem?_replicate, if_pos (by omega)])
      rwa [List.getD_eq_getElem?_getD, List.getElem?_eq_getElem hi] at this
    clear hDq
    obtain ⟨ss, hss⟩ : ∃ ss : List Int, ss = qs.map fun x => x - 1 := ⟨_, rfl⟩
    have gd : BeatGood 24 fs.length ss := ⟨by rw [hss, List.length_map, ql], fun x hx => by
      rw [hss] at hx
      obtain ⟨y, hy, rfl⟩ := List.mem_map.mp hx
      have := qb y hy
      omega⟩
    try dsimp only
    refine q_asgL (xs := ss.map V.int) (el_isW (el_mapA (K := K) qs (fun x => x - 1) ev_c (sq_of hq) (by omega) (fun x => rfl) fun x G e hx => ev_op (ev_var (i := 6) rfl) ev_c rv_I0) (by rw [hss])) fun sp H4 hsp e4 hs => ?_
    have sl := gd.len
    have e14 := e12.trans (e3.trans e4)
    try dsimp only
    refine q_asgR (er_drawsZ (K := K) (ms := [24]) (ev_cell (k := 10) (ev_var rfl) ev_c (ex_l e14 hp)) ev_c (er_two ev_c (by decide)) (ea_cons ev_c ea_nil) (cellA_nn _ _) (by decide) (by decide) (fun x hx => by rw [List.mem_singleton.mp hx]; decide +kernel)) fun v H5 e5 hd => ?_
    obtain ⟨dp, ds, z0, rfl, hd, _, hD⟩ := hd
    have dl : ds.length = 2 := hD.1
    have dE : ∀ {σ : L2.St} {G : Hp} {te : TE} {i : Int}, σ[7]? = some (some (.ref dp)) → Ex H5 G → Ev te σ G (.int i) → 0 ≤ i → i < 2 → Ev (tOp (rIxL K) (tVar 7) te) σ G (.int (ds.getD i.toNat 0)) := fun h e he h0 h1 => ev_op (ev_var h) he (rv_ixL (K := K) (sq_of (e _ _ hd)) (atI_ints h0 (by rw [dl]; omega)))
    try dsimp only
    refine q_asgR (er_bits (n := ((24 : Nat) : Int)) ev_c (er_ev (dE rfl (Ex.refl _) ev_c (by decide) (by decide)) fun G e => ⟨_, rfl⟩) (by decide)) fun v H6 e6 hx => ?_
    obtain ⟨xp, xs, rfl, hx, hA⟩ := hx
    have xl := hA.len
    have e46 := e5.trans e6
    have e26 := (e3.trans e4).trans e46
    try dsimp only
    refine q_asgR (er_crew (K := K) (A := A) (n := 24) (gs := fs) (ss := ss) (xs := xs) (EvR.imp (en_beat (K := K) (A := A) (n := 24) (gs := fs) (ss := ss) (ev_var (i := 2) rfl) ((er_L (el_copyB (K := K) (ev_var (i := 4) rfl) (sq_of (e46 _ _ hs)))).imp fun v G ⟨q, z1, z2⟩ => ⟨q, z1, sq_of z2⟩) (hh.ex (e2.trans e26)) (by omega) gd (by decide) wds) fun w G hw => ⟨_, hw⟩) (er_mkAsc (K := K) (A := A) (n := ((24 : Nat) : Int)) (xs := xs) ev_c ((er_L (el_copyB (K := K) (ev_var (i := 8) rfl) (sq_of hx))).imp fun v G ⟨q, z1, z2⟩ => ⟨q, z1, sq_of z2⟩) (by decide) hA)) fun cv H7 e7 hW => ?_
    have e17 := e14.trans (e46.trans e7)
    try dsimp only
    refine q_asgR (en_lcR1 (n := (fs.length : Int)) (fun i w G => ∃ t, w = .ref t ∧ G t = some (.lst ((rowL 24 ss xs (i : Int)).map V.int))) (ea_cons (ev_var (i := 3) rfl) ea_nil) (by omega) (fun x => rfl) fun i G e hi => en_L (el_row (K := K) (A := A) (er_ev (ev_var (i := 9) rfl) fun F e' => hW.ex (e.trans e')) (ev_var (i := 11) rfl) ⟨by omega, by omega⟩)).er fun tv H8 e8 ht => ?_
    obtain ⟨tp, ws, rfl, t1, t2, t3⟩ := ht
    rw [Int.toNat_natCast] at t2
    have rlen : ∀ i : Int, (rowL 24 ss xs i).length = 24 := fun i => by unfold rowL; rw [fitL_len, Int.toNat_natCast]
    have hT : Rows K H8 tp ((List.range fs.length).map fun g : Nat => rowL 24 ss xs (g : Int)) := ⟨ws, sq_of t1, by rw [t2, List.length_map, List.length_range], fun i v hv => by
      have hi : i < fs.length := by have := (List.getElem?_eq_some_iff.mp hv).1; omega
      obtain ⟨t, rfl, ht⟩ := t3 i v hv
      refine ⟨t, rfl, ?_⟩
      rw [List.getD_eq_getElem?_getD, List.getElem?_map, List.getElem?_range hi]
      exact sq_of ht⟩
    have e58 := (e6.trans e7).trans e8
    have hs8 := (e5.trans e58) _ _ hs
    have hx8 := (e7.trans e8) _ _ hx
    try dsimp only
    exact s_ret (v := .bl true) (ev_andV (a := true) (b := true) (ev_same (er_ev (ev_var (i := 10) rfl) fun G e => (hT.ex e).dp) (EvR.imp (er_walked (K := K) (n := 24) (m := fs.length) (ss := ss) (xs := xs) (ev_var (i := 4) rfl) (ev_var (i := 8) rfl) (ev_var (i := 3) rfl) (sq_of hs8) (sq_of hx8) sl (by decide) (by omega) (by omega) gd.val) fun v G ⟨r, z1, z2⟩ => by
      subst z1
      exact (show Rows K G r _ from ⟨z2.all⟩).dp) (flat_rows (by rw [List.length_map, List.length_range]; omega) fun ys hy => by
      obtain ⟨g, _, rfl⟩ := List.mem_map.mp hy
      rw [rlen]
      decide)) fun _ => ev_works (K := K) (A := A) (er_ev (ev_var (i := 9) rfl) fun G e => hW.ex (e8.trans e)) (ev_var (i := 4) rfl) (ev_var (i := 8) rfl) (dE rfl e58 ev_c (by decide) (by decide)) (sq_of hs8) (sq_of hx8)) fun H9 e9 => k H9 ((e17.trans e8).trans e9)

/-- something told apart from this crew, or not -/
def CUn (K : PySem.W.Frag) (A : Ads) (H : Hp) (n : Nat) (gs : List (Str × Int)) (ss xs : List Int) (w : V) (b : Bool) : Prop := (∃ (m : Nat) (fs : List (Str × Int)) (ts ys : List Int), CrewOk K A w H m fs ts ys ∧ decide (((n = m ∧ gs = fs) ∧ ss = ts) ∧ xs = ys) = b) ∨ ((∃ c dx bf, w = .ref c ∧ H c = some (.ins A.C_Beat dx bf)) ∧ b = false)
theorem CUn.ex {K : PySem.W.Frag} {A : Ads} {H H' : Hp} {n : Nat} {gs : List (Str × Int)} {ss xs : List Int} {w : V} {b : Bool} (e : Ex H H') : CUn K A H n gs ss xs w b → CUn K A H' n gs ss xs w b
  | .inl ⟨m, fs, ts, ys, h1, h2⟩ => .inl ⟨m, fs, ts, ys, h1.ex e, h2⟩
  | .inr ⟨⟨c, dx, bf, h1, h2⟩, h3⟩ => .inr ⟨⟨c, dx, bf, h1, e _ _ h2⟩, h3⟩
theorem ceq_sp {K : PySem.W.Frag} {A : Ads} {H : Hp} {Q : VK} {E : XK} {v w : V} {n : Nat} {gs : List (Str × Int)} {ss xs : List Int} {b : Bool} (W : CrewOk K A v H n gs ss xs) (hw : CUn K A H n gs ss xs w b) (q : ∀ H', Ex H H' → Q (.bl b) H') : spCEq K A [v, w] H Q E := by
  refine ⟨v, w, n, gs, ss, xs, rfl, W, ?_⟩
  rcases hw with ⟨m, fs, ts, ys, z1, z2⟩ | ⟨z1, z2⟩
  · exact .inl ⟨m, fs, ts, ys, z1, fun H' e => by rw [z2]; exact q H' e⟩
  · subst z2
    exact .inr ⟨z1, q⟩
abbrev TyC (K : PySem.W.Frag) (C : Addr) : Prop := ∀ (H : Hp) (a dx : Addr) (fs : List (Str × V)), H a = some (.ins C dx fs) → TyX K H (.ref a) (.ref C)
theorem cun_ty {K : PySem.W.Frag} {A : Ads} {H : Hp} {n : Nat} {gs : List (Str × Int)} {ss xs : List Int} {w : V} {b : Bool} (ty : TyC K A.C_Crew) (tb : TyC K A.C_Beat) (si : PySem.W.subIn K (.ref A.C_Beat) (.ref A.C_Crew) = some false) (h : CUn K A H n gs ss xs w b) : ∃ tb, TyX K H w tb ∧ PySem.W.notFirst K A.C_Crew tb = true := by
  rcases h with ⟨m, fs, ts, ys, z1, _⟩ | ⟨⟨c, dx, bf, rfl, z1⟩, _⟩
  · obtain ⟨a, dx, b, s, h, rfl, g1, _⟩ := id z1.at_
    exact ⟨_, ty H a dx _ g1, by unfold PySem.W.notFirst; simp⟩
  · exact ⟨_, tb H c dx _ z1, nf_ofB si⟩
theorem ev_ceq {K : PySem.W.Frag} {A : Ads} {E : L2.St → XK} {ta tb : TE} {σ : L2.St} {H : Hp} {n : Nat} {gs : List (Str × Int)} {ss xs : List Int} {b : Bool} (ty : TyC K A.C_Crew) (tyb : TyC K A.C_Beat) (si : PySem.W.subIn K (.ref A.C_Beat) (.ref A.C_Crew) = some false) (h1 : EvR ta σ H fun v G => CrewOk K A v G n gs ss xs) (h2 : EvR tb σ H fun w G => CUn K A G n gs ss xs w b) : Ev (tOpS (rOwnC K A.C_Crew (spCEq K A) E) ta tb) σ H (.bl b) := fun H1 e Q q => h1 H1 e _ fun v H2 e2 hv => h2 H2 (e.trans e2) _ fun w H3 e3 hw => by
  obtain ⟨t, t1, t2⟩ := cun_ty ty tyb si hw
  have hv3 := hv.ex e3
  obtain ⟨a, dx, _, _, _, rfl, g1, _⟩ := id hv3.at_
  exact ⟨a, dx, _, t, rfl, g1, t1, t2, ceq_sp hv3 hw fun H' e' => q H' ((e2.trans e3).trans e')⟩
theorem ev_cne {K : PySem.W.Frag} {A : Ads} {E : L2.St → XK} {ta tb : TE} {σ : L2.St} {H : Hp} {n : Nat} {gs : List (Str × Int)} {ss xs : List Int} {b : Bool} (ty : TyC K A.C_Crew) (tyb : TyC K A.C_Beat) (si : PySem.W.subIn K (.ref A.C_Beat) (.ref A.C_Crew) = some false) (h1 : EvR ta σ H fun v G => CrewOk K A v G n gs ss xs) (h2 : EvR tb σ H fun w G => CUn K A G n gs ss xs w b) : Ev (tOpS (rOwnNe K A.C_Crew (spCEq K A) E) ta tb) σ H (.bl (!b)) := fun H1 e Q q => h1 H1 e _ fun v H2 e2 hv => h2 H2 (e.trans e2) _ fun w H3 e3 hw => by
  obtain ⟨t, t1, t2⟩ := cun_ty ty tyb si hw
  have hv3 := hv.ex e3
  obtain ⟨a, dx, _, _, _, rfl, g1, _⟩ := id hv3.at_
  exact ⟨a, dx, _, t, rfl, g1, t1, t2, ceq_sp hv3 hw fun H' e' => ⟨b, rfl, q H' ((e2.trans e3).trans e')⟩⟩
def spCUnl (K : PySem.W.Frag) (A : Ads) : Sp := fun vs H Q _ => ∃ (v w0 w1 w2 w3 w4 : V) (p : Addr) (n : Nat) (gs : List (Str × Int)) (ss xs : List Int), vs = [v, .ref p] ∧ CrewOk K A v H n gs ss xs ∧ SqL K H p [w0, w1, w2, w3, w4] ∧ CUn K A H n gs ss xs w0 true ∧ CUn K A H n gs ss xs w1 false ∧ CUn K A H n gs ss xs w2 false ∧ CUn K A H n gs ss xs w3 false ∧ CUn K A H n gs ss xs w4 false ∧ ∀ H', Ex H H' → Q (.bl true) H' 
theorem ok_u_law_unlike (T : Txt K mg A) : FnOk P w K mg base CX0 9 A.f_u_law_unlike A.d_u_law_unlike (["crew", "others"] : List Str) (spCUnl K A) := by
  refine T.F_u_law_unlike.ok sc_u_law_unlike (fun vs H Q E h => ?_) (fun cdv Ar outer s H vs Q E hr h => ?_)
  · obtain ⟨v, w0, w1, w2, w3, w4, p, n, gs, ss, xs, rfl, _⟩ := h
    rfl
  · obtain ⟨v, w0, w1, w2, w3, w4, p, n, gs, ss, xs, rfl, W, hp, b0, b1, b2, b3, b4, k⟩ := h
    refine ⟨_, (pss_one (ps_ret (pe_call (ok_u_law_same T) (hr.mono (by omega)) rfl T.g_u_law_same T.k_u_law_same (b_u_law_same T) .nil pass0 (pa_cons (pe_lc (own := [("other", 2)]) (g := gName 2) (tt := tYes) rfl sc_u_law_unlike.nd (pi_listK (pv 1)) (blkOk_by (own := [("other", 2)]) (N := N_u_law_unlike) (sc := defScope s_u_law_unlike) (by decide +kernel)) (fun _ _ _ _ _ => (pg_name (i := 2) sc_u_law_unlike.nd rfl (Or.inl rfl))) (fun _ _ _ _ _ => pts_nil) (fun _ _ _ _ _ => (pe_cmpS (op_neO (E := fun _ => E0) T.ne_Crew T.M_Crew_eq (ok_Crew_eq T) (hr.mono (by omega)) (b_Crew_eq T) (pAt pass0)) (pv 0) (pv 2) (nomark _)))) (pa_cons (pe_op op_cat (pe_lst (pa_cons pe_bl pa_nil)) (pe_lc (own := [("other", 2)]) (g := gName 2) (tt := tYes) rfl sc_u_law_unlike.nd (pi_listK (pe_slice sl_listK (pv 1) (po_some pe_int) po_none)) (blkOk_by (own := [("other", 2)]) (N := N_u_law_unlike) (sc := defScope s_u_law_unlike) (by decide +kernel)) (fun _ _ _ _ _ => (pg_name (i := 2) sc_u_law_unlike.nd rfl (Or.inl rfl))) (fun _ _ _ _ _ => pts_nil) (fun _ _ _ _ _ => pe_bl))) pa_nil))))), ?_⟩
    have dpb : ∀ (bs : List Bool) {G : Hp}, DpAll K G (bs.map V.bl) (bs.map PyData.bool) := fun bs {G} => by
      induction bs with
      | nil => exact .nil
      | cons b bs ih => exact .cons (.bl b) ih
    have edb : ∀ {te : TE} {σ : L2.St} {G : Hp} (bs : List Bool), EvL te σ G (bs.map V.bl) → EvR te σ G fun v H1 => Dp K H1 v (.list (bs.map .bool)) := fun bs h => (er_L h).imp fun v G ⟨p, z1, z2⟩ => by rw [z1]; exact .lst (sq_of z2) (dpb bs)
    try dsimp only
    refine s_ret (v := .bl true) (ev_same (d := .list ([false, true, true, true, true].map .bool)) (edb [false, true, true, true, true] (el_isW (el_lc (fun _ => true) (fun i => V.bl (decide (0 < i))) (ei_list (K := K) (eb_held (i := 1) rfl hp)) (by show 5 ≤ 40000; decide) bd_at (fun i _ => rfl) (fun _ _ _ _ => yes_T) (fun i H1 hi e _ => ?_)) rfl)) (edb [false, true, true, true, true] (el_cat (xs := [V.bl false]) (ys := [V.bl true, V.bl true, V.bl true, V.bl true]) (el_lst (ea_cons ev_c ea_nil) (by decide)) (el_isW (el_lstN (K := K) (tt := tYes) V.non [w1, w2, w3, w4] [w1, w2, w3, w4] (fun _ => true) (fun _ => V.bl true) (fun y => [some v, some (.ref p), some y]) (el_isW (el_sl (ev_var (i := 1) rfl) (eo_some ev_c) eo_none hp) rfl) rfl (by show 4 ≤ 40000; decide) (fun i x y H1 kk e z1 z2 hk => by rw [z1] at z2; cases z2; exact hk) (fun y => rfl) (fun y H1 e hy => yes_T) (fun y H1 e hy _ => ev_c)) rfl) (by decide))) (flat_boolsL [false, true, true, true, true] (by decide))) fun H1 e1 => k H1 e1
    have hi : i < 5 := hi
    have : i = 0 ∨ i = 1 ∨ i = 2 ∨ i = 3 ∨ i = 4 := by omega
    have go : ∀ {σ : L2.St} {w : V} {b : Bool}, σ[0]? = some (some v) → σ[2]? = some (some w) → CUn K A H n gs ss xs w b → Ev (tOpS (rOwnNe K A.C_Crew (spCEq K A) fun x => E0) (tVar 0) (tVar 2)) σ H1 (.bl (!b)) := fun s0 s2 hu => ev_cne (K := K) (A := A) T.ty_Crew T.ty_Beat T.si_Beat_Crew (er_ev (ev_var s0) fun G g => W.ex (e.trans g)) (er_ev (ev_var s2) fun G g => hu.ex (e.trans g))
    rcases this with rfl | rfl | rfl | rfl | rfl
    · exact go rfl rfl b0
    · exact go rfl rfl b1
    · exact go rfl rfl b2
    · exact go rfl rfl b3
    · exact go rfl rfl b4

theorem q_augC {K : PySem.W.Frag} {A : Ads} {E : XK} {te : TE} {tz : TS} {D : Ends} {σ : L2.St} {H : Hp} {i : Nat} {v : V} {n : Nat} {k : Int} {gs : List (Str × Int)} {ss xs : List Int} (hi : σ[i]? = some (some v)) (hv : CrewOk K A v H n gs ss xs) (he : Ev te σ H (.int k))
    (c : ∀ w H1, Ex H H1 → CrewOk K A w H1 n gs ss (turnL (n : Int) k xs) → tz D (σ.set i (some w)) H1) : tSeq (tAug i te (rOwnI A.C_Crew (spCLsh K A) (fun _ => E) [])) tz D σ H :=
  ⟨v, hi, he H (Ex.refl H) _ fun H2 e2 => by
    have h2 := hv.ex e2
    obtain ⟨a, dx, _, _, _, rfl, h1, _⟩ := id h2.at_
    exact ⟨a, dx, _, k, rfl, h1, rfl, .ref a, k, n, gs, ss, xs, rfl, h2, fun w H' e' hw => c w H' (e2.trans e') hw⟩⟩

def spCGrown (K : PySem.W.Frag) (A : Ads) : Sp := fun vs H Q _ => ∃ (v w : V) (kk : Int) (n : Nat) (gs : List (Str × Int)) (ss xs : List Int), vs = [v, w, .int kk] ∧ CrewOk K A v H n gs ss xs ∧ CrewOk K A w H n gs ss (turnL (n : Int) kk xs) ∧ ∀ H', Ex H H' → Q (.bl true) H' 
theorem ok_u_law_grown (T : Txt K mg A) : FnOk P w K mg base CX0 10 A.f_u_law_grown A.d_u_law_grown (["crew", "turned", "k"] : List Str) (spCGrown K A) := by
  refine T.F_u_law_grown.ok sc_u_law_grown (fun vs H Q E h => ?_) (fun cdv Ar outer s H vs Q E hr h => ?_)
  · obtain ⟨v, w, kk, n, gs, ss, xs, rfl, _⟩ := h
    rfl
  · obtain ⟨v, w, kk, n, gs, ss, xs, rfl, W, W2, k⟩ := h
    refine ⟨_, (pss_cons (ps_set (i := 3) sc_u_law_grown.nd rfl (Or.inl rfl) (pv 0))
        (pss_cons (ps_aug (i := 3) sc_u_law_grown.nd rfl (Or.inl rfl) (pv 2) (ip_ownJ (op := .LShift) (E := E0) T.op_Crew T.no_Crew T.D_Crew_lshift T.I_Crew_lshift T.ip_Crew_lshift (ok_Crew_lshift T) (hr.mono (by omega)) (b_Crew_lshift T) (pAt pass0)))
        (pss_one (ps_ret (pe_and (pe_call (ok_u_law_same T) (hr.mono (by omega)) rfl T.g_u_law_same T.k_u_law_same (b_u_law_same T) .nil pass0 (pa_cons (pe_cmpS (op_ownC (op := .Eq) (E := fun _ => E0) (fun _ _ => rfl) T.M_Crew_eq (ok_Crew_eq T) (hr.mono (by omega)) (b_Crew_eq T) (pAt pass0)) (pv 3) (pv 1) (nomark _)) (pa_cons pe_bl pa_nil))) (pe_one (pe_call (ok_u_law_same T) (hr.mono (by omega)) rfl T.g_u_law_same T.k_u_law_same (b_u_law_same T) .nil pass0 (pa_cons (pe_prop (pe_fldK (pv 3) rfl) T.cl_Lot T.P_Lot_members (ok_Lot_members T) (hr.mono (by omega)) (b_Lot_members T) .nil pass0 rfl) (pa_cons (pe_prop (pe_fldK (pv 1) rfl) T.cl_Lot T.P_Lot_members (ok_Lot_members T) (hr.mono (by omega)) (b_Lot_members T) .nil pass0 rfl) pa_nil))))))))), ?_⟩
    try dsimp only
    refine q_asg (v := v) (ev_var (i := 0) rfl) fun H1 e1 => ?_
    refine q_augC (K := K) (A := A) rfl (W.ex e1) (ev_var (i := 2) rfl) fun u H2 e2 hu => ?_
    have e12 := e1.trans e2
    obtain ⟨a1, d1, b1, s1, h1, rfl, z1, _, zL⟩ := id hu.at_
    obtain ⟨a2, d2, b2, s2, h2, rfl, y1, _, yL⟩ := id (W2.ex e12).at_
    have xl := zL.len
    try dsimp only
    exact s_ret (v := .bl true) (ev_andV (a := true) (b := true) (ev_same (d := .bool true) (ed_bl (ev_ceq (K := K) (A := A) (b := true) T.ty_Crew T.ty_Beat T.si_Beat_Crew (er_ev (ev_var (i := 3) rfl) fun G e => hu.ex e) (er_ev (ev_var (i := 1) rfl) fun G e => .inl ⟨n, gs, ss, _, W2.ex (e12.trans e), decide_eq_true ⟨⟨⟨rfl, rfl⟩, rfl⟩, rfl⟩⟩))) (ed_bl ev_c) True.intro) fun _ =>
      ev_same (d := .list ((turnL (n : Int) kk xs).map .int)) (ed_L (el_mems (A := A) (n := (n : Int)) (xs := turnL (n : Int) kk xs) (er_ev (ev_cstarts (ev_var (i := 3) rfl) z1 T.cl_Crew T.na_Crew_starts) fun F e => zL.ex e))) (ed_L (el_mems (A := A) (n := (n : Int)) (xs := turnL (n : Int) kk xs) (er_ev (ev_cstarts (ev_var (i := 1) rfl) y1 T.cl_Crew T.na_Crew_starts) fun F e => yL.ex e))) (flatI (by omega))) fun H3 e3 => k H3 (e12.trans e3)

def spLaw (K : PySem.W.Frag) : Sp := fun vs H Q _ => ∃ (a : Addr) (ns : List Int), vs = [.ref a] ∧ SqL K H a (ns.map V.int) ∧ ns.length ≤ 63 ∧ ∀ H', Q (.bl true) H'
theorem er_gatesD {K : PySem.W.Frag} {E : XK} {σ : L2.St} {H : Hp} {t1 t2 : TE} {ns : List Int} {m : Nat} (h1 : EvL t1 σ H (ns.map V.int)) (h2 : EvR t2 σ H fun v G => ∃ (p : Addr) (ss : List Int), v = .ref p ∧ SqL K G p (ss.map V.int) ∧ m ≤ ss.length ∧ ∀ s ∈ ss, 0 ≤ s ∧ s ≤ 60) (hm : ns.length = m) (hl : m ≤ 7) :
    EvR (tCall (spGates K) [] E (tCons t1 (tCons t2 tNil))) σ H fun v G => ∃ p gs, v = .ref p ∧ Gates K G p gs ∧ GoodG gs m := fun H1 e Q q => h1 H1 e _ fun a H2 _ e2 g2 => h2 H2 (e.trans e2) _ fun v H3 e3 hv => by
  obtain ⟨b, ss, rfl, g3, hs, ha⟩ := hv
  exact ⟨a, b, ns, ss, rfl, sq_of (e3 _ _ g2), g3, by omega, by omega, ha, fun v H' gs e' hn h4 hd hw hst => q v H' ((e2.trans e3).trans e') (by
    obtain ⟨p, z1, hG⟩ := hn.self
    refine ⟨p, gs, z1, hG, h4.trans hm, hd, fun g hg => ?_⟩
    exact hw g hg)⟩
theorem er_copyG {K : PySem.W.Frag} {σ : L2.St} {H : Hp} {te : TE} {p : Addr} {gs : List (Str × Int)} (h : Ev te σ H (.ref p)) (hG : Gates K H p gs) : EvR (tCB (rListK K) (tCons te tNil)) σ H fun v G => ∃ p, v = .ref p ∧ Gates K G p gs := by
  obtain ⟨vs, z1, z2, z3⟩ := hG.all
  exact fun H1 e Q q => (er_L (el_copyB (K := K) h z1)) H1 e Q fun v H2 e2 hv => by
    obtain ⟨l, rfl, hl⟩ := hv
    exact q _ H2 e2 ⟨l, rfl, ⟨vs, sq_of hl, z2, fun i v hv => (z3 i v hv).imp fun t ht => ⟨ht.1, fun g hg => ex_t (e.trans e2) (ht.2 g hg)⟩⟩⟩
theorem er_num {E : XK} {σ : L2.St} {H : Hp} {t1 t2 : TE} {c s : Int} (h1 : Ev t1 σ H (.int c)) (h2 : Ev t2 σ H (.int s)) (hc : 0 ≤ c) (hs : -1000000 ≤ s ∧ s ≤ 1000000) : EvR (tCall spNumber [] E (tCons t1 (tCons t2 tNil))) σ H fun v _ => ∃ z : Int, v = .int z :=
  er_call (ea_cons h1 (ea_cons h2 ea_nil)) fun H1 e Q q => ⟨c, s, rfl, hc, hs, fun z H' e' => q _ H' e' ⟨z, rfl⟩⟩
theorem er_houseO {K : PySem.W.Frag} {A : Ads} {E : XK} {σ : L2.St} {H : Hp} {t1 t2 : TE} {n : Nat} {m : Nat} {gs : List (Str × Int)} (h1 : Ev t1 σ H (.int (n : Int))) (h2 : EvR t2 σ H fun v G => ∃ p fs, v = .ref p ∧ Gates K G p fs ∧ GoodG fs m ∧ fs ≠ gs) (hn : 1 ≤ n ∧ n ≤ 24) (hm : 1 ≤ m ∧ m ≤ 4) (hc : m * n ≤ 48) :
    EvR (tMake A.C_House (spHouse K A) [] E (tCons t1 (tCons t2 tNil))) σ H fun v G => ∃ fs, HouseIs A.C_House v G (n : Int) fs ∧ GoodG fs m ∧ fs ≠ gs := fun H1 e Q q => h1 H1 e _ fun H2 e2 => h2 H2 (e.trans e2) _ fun v H3 e3 hv => by
  obtain ⟨p, fs, rfl, hG, hgf, hne⟩ := hv
  exact er_houseE (K := K) (A := A) (E := E) (t1 := tC (.int (n : Int))) (t2 := tC (.ref p)) (σ := σ) (H := H3) ev_c (er_ev ev_c fun G e => ⟨p, rfl, hG.ex e⟩) hgf hn hm hc H3 (Ex.refl _) Q fun w H4 e4 hw => q w H4 (e2.trans (e3.trans e4)) ⟨fs, hw, hgf, hne⟩
theorem er_beatN {K : PySem.W.Frag} {A : Ads} {E : XK} {σ : L2.St} {H : Hp} {t1 t2 : TE} {n : Nat} {gs : List (Str × Int)} {ss : List Int} (h1 : EvR t1 σ H fun v G => HouseIs A.C_House v G (n : Int) gs) (h2 : EvR t2 σ H fun v G => ∃ p, v = .ref p ∧ SqL K G p (ss.map V.int)) (hl : gs.length ≤ 100) (hg : BeatGood n gs.length ss) (hn : 1 ≤ n ∧ n ≤ 360) (hw : ∀ g ∈ gs, Word g.1) :
    EvR (tMake A.C_Beat (spBeat K A) [] E (tCons t1 (tCons t2 tNil))) σ H fun w G => ∃ h, BeatOk K A w G h n gs ss := fun H1 e Q q => h1 H1 e _ fun v H2 e2 hv =>
  en_beat (K := K) (A := A) (E := E) (t1 := tC v) (t2 := t2) (σ := σ) (H := H2) ev_c (h2.mono (e.trans e2)) hv hl hg hn hw H2 (Ex.refl _) Q fun w H3 e3 hw => q w H3 (e2.trans e3) ⟨v, hw⟩
theorem other_step {m : Nat} {x w : Int} (hm : 1 ≤ m ∧ m ≤ 4) (hx : -1 ≤ x ∧ x < (m : Int)) : -1 ≤ (x + 2 + w % (m : Int)) % ((m : Int) + 1) - 1 ∧ (x + 2 + w % (m : Int)) % ((m : Int) + 1) - 1 < (m : Int) ∧ (x + 2 + w % (m : Int)) % ((m : Int) + 1) - 1 ≠ x := by
  have hmc : m = 1 ∨ m = 2 ∨ m = 3 ∨ m = 4 := by omega
  rcases hmc with rfl | rfl | rfl | rfl
  · show -1 ≤ (x + 2 + w % 1) % 2 - 1 ∧ (x + 2 + w % 1) % 2 - 1 < 1 ∧ (x + 2 + w % 1) % 2 - 1 ≠ x
    omega
  · show -1 ≤ (x + 2 + w % 2) % 3 - 1 ∧ (x + 2 + w % 2) % 3 - 1 < 2 ∧ (x + 2 + w % 2) % 3 - 1 ≠ x
    omega
  · show -1 ≤ (x + 2 + w % 3) % 4 - 1 ∧ (x + 2 + w % 3) % 4 - 1 < 3 ∧ (x + 2 + w % 3) % 4 - 1 ≠ x
    omega
  · show -1 ≤ (x + 2 + w % 4) % 5 - 1 ∧ (x + 2 + w % 4) % 5 - 1 < 4 ∧ (x + 2 + w % 4) % 5 - 1 ≠ x
    omega
theorem at_st {tz : TS} {D : Ends} {σ σ' : L2.St} {H : Hp} (h : σ = σ') (k : tz D σ' H) : tz D σ H := by rw [h]; exact k
theorem er_drawsF {K : PySem.W.Frag} {E : XK} {σ : L2.St} {H : Hp} {tc ts tm : TE} {c z : Int} {ms : List Int} (hc : Ev tc σ H (.int c)) (hs : Ev ts σ H (.int z)) (hm : EvL tm σ H (ms.map V.int)) (h0 : 0 ≤ c) (hz : -1000000 ≤ z ∧ z ≤ 1000000) (hl : ms.length ≤ 64)
    (hb : ∀ x ∈ ms, 1 ≤ x ∧ x.natAbs < 2 ^ 1000) : EvR (tCall (sp_draws K) [] E (tCons tc (tCons ts (tCons tm tNil)))) σ H fun v H1 => ∃ (p : Addr) (ds : List Int), v = .ref p ∧ H p = none ∧ H1 p = some (.lst (ds.map V.int)) ∧ Drawn ms ds := fun H1 e Q q =>
  hc H1 e _ fun H2 e2 => hs H2 (e.trans e2) _ fun H3 e3 => hm H3 ((e.trans e2).trans e3) _ fun m H4 _ e4 h4 =>
    ⟨c, z, m, ms, rfl, sq_of h4, h0, hz, hl, hb, fun p H' ds hp e' h' hD => q _ H' ((e2.trans e3).trans (e4.trans e')) ⟨p, ds, rfl, fresh_back (((e.trans e2).trans e3).trans e4) hp, h', hD⟩⟩

theorem cut_upto {xs : List Int} {k : Nat} (h : k ≤ xs.length) : cutV (xs.map V.int) none (some (k : Int)) = (xs.take k).map V.int := by
  unfold cutV
  rw [HT.sIx_none, HT.sIx_nat, List.length_map, List.drop_zero, Nat.min_eq_left h, Nat.sub_zero, List.map_take]

theorem er_ix0 {K : PySem.W.Frag} {σ : L2.St} {H : Hp} {te : TE} (h : EvR te σ H fun v G => ∃ (p : Addr) (ds : List Int) (m : Int), v = .ref p ∧ G p = some (.lst (ds.map V.int)) ∧ (1 ≤ m ∧ m ≤ 33554432) ∧ Drawn [m] ds) : EvR (tOp (rIxL K) te (tC (.int 0))) σ H fun v _ => ∃ z : Int, v = .int z := fun H1 e Q q => h H1 e _ fun v H2 e2 hv => by
  obtain ⟨p, ds, m, rfl, hd, _, hD⟩ := hv
  have dl : ds.length = 1 := hD.1
  exact (ev_op (σ := σ) (ev_c (v := .ref p)) (ev_c (v := .int 0)) (rv_ixL (K := K) (sq_of hd) (atI_ints (i := 0) (by decide) (by rw [dl]; decide)))) H2 (Ex.refl _) Q fun H3 e3 => q _ H3 (e2.trans e3) ⟨_, rfl⟩
theorem ev_cshows {K : PySem.W.Frag} {A : Ads} {E : XK} {σ : L2.St} {H : Hp} {t1 t2 t3 t4 t5 t6 : TE} {hv : V} {lp : Addr} {n : Nat} {gs : List (Str × Int)} {ss xs : List Int} {l0 l1 : Int} (h1 : EvR t1 σ H fun v G => CrewOk K A v G n gs ss xs) (h2 : Ev t2 σ H hv) (h3 : EvR t3 σ H fun v G => ∃ p, v = .ref p ∧ SqL K G p (ss.map V.int)) (h4 : EvR t4 σ H fun v G => ∃ p, v = .ref p ∧ SqL K G p (xs.map V.int)) (h5 : Ev t5 σ H (.int (gs.length : Int))) (h6 : Ev t6 σ H (.ref lp)) (hh : HouseIs A.C_House hv H (n : Int) gs) (hlp : SqL K H lp [.int l0, .int l1]) (hl : 0 ≤ l0 ∧ 0 ≤ l1) (hn : n ≤ 24) :
    Ev (tCall (spCShows K A) [] E (tCons t1 (tCons t2 (tCons t3 (tCons t4 (tCons t5 (tCons t6 tNil))))))) σ H (.bl true) := fun H1 e Q q => h1 H1 e _ fun v H2 e2 hv' => h2 H2 (e.trans e2) _ fun H3 e3 => h3 H3 ((e.trans e2).trans e3) _ fun w H4 e4 hw => h4 H4 (((e.trans e2).trans e3).trans e4) _ fun u H5 e5 hu => h5 H5 ((((e.trans e2).trans e3).trans e4).trans e5) _ fun H6 e6 => h6 H6 (((((e.trans e2).trans e3).trans e4).trans e5).trans e6) _ fun H7 e7 => by
  obtain ⟨p, rfl, hp⟩ := hw
  obtain ⟨r, rfl, hr⟩ := hu
  have e57 := (e5.trans e6).trans e7
  have e37 := (e3.trans e4).trans e57
  have e07 := (e.trans e2).trans e37
  exact ⟨v, hv, p, r, lp, n, gs, ss, xs, l0, l1, rfl, hv'.ex e37, hh.ex e07, ex_l e57 hp, ex_l (e6.trans e7) hr, ex_l e07 hlp, hl, hn, fun H' e' => q H' ((e2.trans e37).trans e')⟩
theorem er_clsh {K : PySem.W.Frag} {A : Ads} {E : L2.St → XK} {ta tb : TE} {σ : L2.St} {H : Hp} {k : Int} {n : Nat} {gs : List (Str × Int)} {ss xs : List Int} (ha : EvR ta σ H fun v G => CrewOk K A v G n gs ss xs) (hb : Ev tb σ H (.int k)) : EvR (tOpS (rOwnI A.C_Crew (spCLsh K A) E) ta tb) σ H fun v G => CrewOk K A v G n gs ss (turnL (n : Int) k xs) := fun H1 e Q q => ha H1 e _ fun v H2 e2 hv => hb H2 (e.trans e2) _ fun H3 e3 => by
  have h3 := hv.ex e3
  obtain ⟨a, dx, _, _, _, rfl, h1, _⟩ := id h3.at_
  exact ⟨a, dx, _, k, rfl, h1, rfl, .ref a, k, n, gs, ss, xs, rfl, h3, fun w H' e' hw => q w H' ((e2.trans e3).trans e') hw⟩
theorem er_cstarts {K : PySem.W.Frag} {A : Ads} {ta : TE} {σ : L2.St} {H : Hp} {n : Nat} {gs : List (Str × Int)} {ss xs : List Int} (c : Cls K A.C_Crew) (na : NoAttr K A.C_Crew "starts") (ha : EvR ta σ H fun v G => CrewOk K A v G n gs ss xs) : EvR (tFld K ta "starts") σ H fun v G => LotIs A.C_Lot v G (n : Int) xs := fun H1 e Q q => ha H1 e _ fun v H2 e2 hv => by
  obtain ⟨a, dx, b, s, h, rfl, h1, _, hL⟩ := id hv.at_
  exact ⟨a, _, dx, _, _, rfl, h1, c, na, rfl, q s H2 e2 hL⟩
theorem ev_otherRing {K : PySem.W.Frag} {A : Ads} {E : XK} {σ : L2.St} {H : Hp} {t1 t2 : TE} {h : V} {n : Nat} {m : Int} {gs : List (Str × Int)} {ss xs : List Int} (h1 : EvR t1 σ H fun v G => BeatOk K A v G h n gs ss) (h2 : EvR t2 σ H fun v G => LotIs A.C_Lot v G m xs) (hm : m ≠ (n : Int)) : Ev (tCall (spOtherRing K A) [] E (tCons t1 (tCons t2 tNil))) σ H (.bl true) := fun H1 e Q q => h1 H1 e _ fun v H2 e2 hv => h2 H2 (e.trans e2) _ fun w H3 e3 hw =>
  ⟨v, w, h, n, m, gs, ss, xs, rfl, hv.ex e3, hw, hm, fun H' e' => q H' ((e2.trans e3).trans e')⟩
theorem ev_cunl {K : PySem.W.Frag} {A : Ads} {E : XK} {σ : L2.St} {H : Hp} {t1 t2 : TE} {v w0 w1 w2 w3 w4 : V} {n : Nat} {gs : List (Str × Int)} {ss xs : List Int} (h1 : Ev t1 σ H v) (h2 : EvL t2 σ H [w0, w1, w2, w3, w4]) (W : CrewOk K A v H n gs ss xs) (b0 : CUn K A H n gs ss xs w0 true) (b1 : CUn K A H n gs ss xs w1 false) (b2 : CUn K A H n gs ss xs w2 false) (b3 : CUn K A H n gs ss xs w3 false) (b4 : CUn K A H n gs ss xs w4 false) : Ev (tCall (spCUnl K A) [] E (tCons t1 (tCons t2 tNil))) σ H (.bl true) := fun H1 e Q q => h1 H1 e _ fun H2 e2 => h2 H2 (e.trans e2) _ fun p H3 _ e3 hp => by
  have e03 := (e.trans e2).trans e3
  exact ⟨v, w0, w1, w2, w3, w4, p, n, gs, ss, xs, rfl, W.ex e03, sq_of hp, b0.ex e03, b1.ex e03, b2.ex e03, b3.ex e03, b4.ex e03, fun H' e' => q H' ((e2.trans e3).trans e')⟩

theorem ok_law (T : Txt K mg A) : FnOk P w K mg base CX0 20 A.f_law A.d_law (["script"] : List Str) (spLaw K) := by
  refine T.F_law.ok sc_law (fun vs H Q E h => ?_) (fun cdv Ar outer s H vs Q E hr h => ?_)
  · obtain ⟨a, ns, rfl, _⟩ := h
    rfl
  · obtain ⟨sa, ns, rfl, hS, hl, k⟩ := h
    refine ⟨_, (pss_cons (ps_set (i := 1) sc_law.nd rfl (Or.inl rfl) (pe_call (ok_u_law_draws T) (hr.mono (by omega)) rfl T.g_u_law_draws T.k_u_law_draws (b_u_law_draws T) .nil pass0 (pa_cons (pe_call (ok_u_law_cell T) (hr.mono (by omega)) rfl T.g_u_law_cell T.k_u_law_cell (b_u_law_cell T) .nil pass0 (pa_cons (pv 0) (pa_cons pe_int pa_nil))) (pa_cons pe_int (pa_cons (pe_lst (pa_cons pe_int (pa_cons pe_int (pa_cons pe_int pa_nil)))) pa_nil)))))
        (pss_cons (ps_set (i := 2) sc_law.nd rfl (Or.inr rfl) (pe_op op_add pe_int (pe_ix ix_lK (pv 1) pe_int (fun _ _ => rfl))))
        (pss_cons (ps_set (i := 3) sc_law.nd rfl (Or.inr rfl) (pe_op op_add pe_int (pe_ix ix_lK (pv 1) pe_int (fun _ _ => rfl))))
        (pss_cons (ps_set (i := 4) sc_law.nd rfl (Or.inl rfl) (pe_call (ok_u_law_draws T) (hr.mono (by omega)) rfl T.g_u_law_draws T.k_u_law_draws (b_u_law_draws T) .nil pass0 (pa_cons (pe_call (ok_u_law_cell T) (hr.mono (by omega)) rfl T.g_u_law_cell T.k_u_law_cell (b_u_law_cell T) .nil pass0 (pa_cons (pv 0) (pa_cons pe_int pa_nil))) (pa_cons pe_int (pa_cons (pe_lst (pa_cons (pe_op op_pow pe_int pe_int) (pa_cons (pe_op op_pow pe_int pe_int) (pa_cons (pe_op op_pow pe_int pe_int) (pa_cons (pe_op op_pow pe_int pe_int) pa_nil))))) pa_nil)))))
        (pss_cons (ps_set (i := 5) sc_law.nd rfl (Or.inr rfl) (pe_call (ok_u_law_gates T) (hr.mono (by omega)) rfl T.g_u_law_gates T.k_u_law_gates (b_u_law_gates T) .nil pass0 (pa_cons (pe_slice sl_listK (pv 4) po_none (po_some (pv 2))) (pa_cons (pe_call (ok_u_law_draws T) (hr.mono (by omega)) rfl T.g_u_law_draws T.k_u_law_draws (b_u_law_draws T) .nil pass0 (pa_cons (pe_call (ok_u_law_cell T) (hr.mono (by omega)) rfl T.g_u_law_cell T.k_u_law_cell (b_u_law_cell T) .nil pass0 (pa_cons (pv 0) (pa_cons pe_int pa_nil))) (pa_cons pe_int (pa_cons (pe_lst (pa_cons pe_int (pa_cons pe_int (pa_cons pe_int (pa_cons pe_int pa_nil))))) pa_nil)))) pa_nil))))
        (pss_cons (ps_set (i := 6) sc_law.nd rfl (Or.inl rfl) (pe_make T.mk_House (ok_House_init T) (hr.mono (by omega)) rfl T.g_House (b_House_init T) .nil passL (pa_cons (pv 3) (pa_cons (pe_callTy list_K (by rfl) T.z_list (by decide +kernel) (pa_cons (pv 5) pa_nil)) pa_nil))))
        (pss_cons (ps_setLc (i := 7) (own := [("place", 9)]) (g := gName 9) (tt := tYes) rfl sc_law.nd rfl rfl (sw_true rfl rfl rfl (by decide +kernel)) (pi_listK (pe_call (ok_u_law_draws T) (hr.mono (by omega)) rfl T.g_u_law_draws T.k_u_law_draws (b_u_law_draws T) .nil pass0 (pa_cons (pe_call (ok_u_law_cell T) (hr.mono (by omega)) rfl T.g_u_law_cell T.k_u_law_cell (b_u_law_cell T) .nil pass0 (pa_cons (pv 0) (pa_cons pe_int pa_nil))) (pa_cons pe_int (pa_cons (pe_lc (own := [("h", 8)]) (g := gName 8) (tt := tYes) rfl sc_law.nd (pi_range1 rfl T.z_range (pa_cons (pv 3) pa_nil)) (blkOk_by (own := [("h", 8)]) (N := N_law) (sc := defScope s_law) (by decide +kernel)) (fun _ _ _ _ _ => (pg_name (i := 8) sc_law.nd rfl (Or.inl rfl))) (fun _ _ _ _ _ => pts_nil) (fun _ _ _ _ _ => (pe_op op_add (pv 2) pe_int))) pa_nil))))) (blkOk_by (own := [("place", 9)]) (N := N_law) (sc := defScope s_law) (by decide +kernel)) (fun _ _ _ _ _ => (pg_name (i := 9) sc_law.nd rfl (Or.inl rfl))) (fun _ _ _ _ _ => pts_nil) (fun _ _ _ _ _ => (pe_op op_sub (pv 9) pe_int)))
        (pss_cons (ps_set (i := 10) sc_law.nd rfl (Or.inr rfl) (pe_call (ok_u_law_bits T) (hr.mono (by omega)) rfl T.g_u_law_bits T.k_u_law_bits (b_u_law_bits T) .nil pass0 (pa_cons (pv 3) (pa_cons (pe_ix ix_lK (pe_call (ok_u_law_draws T) (hr.mono (by omega)) rfl T.g_u_law_draws T.k_u_law_draws (b_u_law_draws T) .nil pass0 (pa_cons (pe_call (ok_u_law_cell T) (hr.mono (by omega)) rfl T.g_u_law_cell T.k_u_law_cell (b_u_law_cell T) .nil pass0 (pa_cons (pv 0) (pa_cons pe_int pa_nil))) (pa_cons pe_int (pa_cons (pe_lst (pa_cons (pe_call (ok_u_law_two T) (hr.mono (by omega)) rfl T.g_u_law_two T.k_u_law_two (b_u_law_two T) .nil pass0 (pa_cons (pv 3) pa_nil)) pa_nil)) pa_nil)))) pe_int (fun _ _ => rfl)) pa_nil))))
        (pss_cons (ps_set (i := 11) sc_law.nd rfl (Or.inl rfl) (pe_call (ok_u_law_draws T) (hr.mono (by omega)) rfl T.g_u_law_draws T.k_u_law_draws (b_u_law_draws T) .nil pass0 (pa_cons (pe_call (ok_u_law_cell T) (hr.mono (by omega)) rfl T.g_u_law_cell T.k_u_law_cell (b_u_law_cell T) .nil pass0 (pa_cons (pv 0) (pa_cons pe_int pa_nil))) (pa_cons pe_int (pa_cons (pe_lst (pa_cons (pe_op op_pow pe_int pe_int) (pa_cons (pe_op op_pow pe_int pe_int) pa_nil))) pa_nil)))))
        (pss_cons (ps_set (i := 12) sc_law.nd rfl (Or.inl rfl) (pe_make T.mk_Beat (ok_Beat_init T) (hr.mono (by omega)) rfl T.g_Beat (b_Beat_init T) .nil passL (pa_cons (pv 6) (pa_cons (pe_callTy list_K (by rfl) T.z_list (by decide +kernel) (pa_cons (pv 7) pa_nil)) pa_nil))))
        (pss_cons (ps_set (i := 13) sc_law.nd rfl (Or.inl rfl) (pe_make T.mk_Lot (ok_Lot_init T) (hr.mono (by omega)) rfl T.g_Lot (b_Lot_init T) .nil passL (pa_cons (pv 3) (pa_cons (pe_callTy list_K (by rfl) T.z_list (by decide +kernel) (pa_cons (pv 10) pa_nil)) pa_nil))))
        (pss_cons (ps_set (i := 14) sc_law.nd rfl (Or.inl rfl) (pe_make T.mk_Crew (ok_Crew_init T) (hr.mono (by omega)) rfl T.g_Crew (b_Crew_init T) .nil passL (pa_cons (pv 12) (pa_cons (pv 13) pa_nil))))
        (pss_cons (ps_if (pt_not (pt_val (pe_call (ok_u_law_shows T) (hr.mono (by omega)) rfl T.g_u_law_shows T.k_u_law_shows (b_u_law_shows T) .nil pass0 (pa_cons (pv 14) (pa_cons (pv 6) (pa_cons (pv 7) (pa_cons (pv 10) (pa_cons (pv 2) (pa_cons (pv 11) pa_nil))))))))) (pss_one (ps_ret pe_bl)) pss_nil)
        (pss_cons (ps_set (i := 15) sc_law.nd rfl (Or.inl rfl) (pe_call (ok_u_law_draws T) (hr.mono (by omega)) rfl T.g_u_law_draws T.k_u_law_draws (b_u_law_draws T) .nil pass0 (pa_cons (pe_call (ok_u_law_cell T) (hr.mono (by omega)) rfl T.g_u_law_cell T.k_u_law_cell (b_u_law_cell T) .nil pass0 (pa_cons (pv 0) (pa_cons pe_int pa_nil))) (pa_cons pe_int (pa_cons (pe_lst (pa_cons pe_int (pa_cons pe_int (pa_cons pe_int (pa_cons pe_int (pa_cons pe_int pa_nil)))))) pa_nil)))))
        (pss_cons (ps_set (i := 16) sc_law.nd rfl (Or.inr rfl) (pe_op op_mod (pe_callTy call_int1 (by rfl) T.z_int (by decide +kernel) (pa_cons (pe_ix ix_lK (pv 15) pe_int (fun _ _ => rfl)) pa_nil)) (pv 3)))
        (pss_cons (ps_set (i := 17) sc_law.nd rfl (Or.inl rfl) (pe_callTy list_K (by rfl) T.z_list (by decide +kernel) (pa_cons (pv 7) pa_nil)))
        (pss_cons (ps_asg (pe_op op_sub (pe_op op_mod (pe_callTy call_int1 (by rfl) T.z_int (by decide +kernel) (pa_cons (pe_op op_add (pe_op op_add (pe_ix ix_lK (pv 7) (pv 16) (fun _ _ => rfl)) pe_int) (pe_op op_mod (pe_callTy call_int1 (by rfl) T.z_int (by decide +kernel) (pa_cons (pe_ix ix_lK (pv 15) pe_int (fun _ _ => rfl)) pa_nil)) (pv 2))) pa_nil)) (pe_op op_add (pv 2) pe_int)) pe_int) (pg_sub (pv 17) (pv 16) set_list))
        (pss_cons (ps_set (i := 16) sc_law.nd rfl (Or.inr rfl) (pe_op op_mod (pe_callTy call_int1 (by rfl) T.z_int (by decide +kernel) (pa_cons (pe_ix ix_lK (pv 15) pe_int (fun _ _ => rfl)) pa_nil)) (pv 3)))
        (pss_cons (ps_setLc (i := 18) (own := [("h", 8)]) (g := gName 8) rfl sc_law.nd rfl rfl (sw_true rfl rfl rfl (by decide +kernel)) (pi_range1 rfl T.z_range (pa_cons (pv 3) pa_nil)) (blkOk_by (own := [("h", 8)]) (N := N_law) (sc := defScope s_law) (by decide +kernel)) (fun _ _ _ _ _ => (pg_name (i := 8) sc_law.nd rfl (Or.inl rfl))) (fun _ _ _ _ _ => (pts_one (pt_cmpR op_ne (pe_cmpR in_K (pv 8) (pv 10) (by with_unfolding_all rfl)) (pe_cmpR op_eq (pv 8) (pv 16) (nomark _)) (nomark _)))) (fun _ _ _ _ _ => (pv 8)))
        (pss_cons (ps_set (i := 19) sc_law.nd rfl (Or.inl rfl) (pe_make T.mk_Crew (ok_Crew_init T) (hr.mono (by omega)) rfl T.g_Crew (b_Crew_init T) .nil passL (pa_cons (pe_make T.mk_Beat (ok_Beat_init T) (hr.mono (by omega)) rfl T.g_Beat (b_Beat_init T) .nil passL (pa_cons (pv 6) (pa_cons (pe_callTy list_K (by rfl) T.z_list (by decide +kernel) (pa_cons (pv 17) pa_nil)) pa_nil))) (pa_cons (pv 13) pa_nil))))
        (pss_cons (ps_set (i := 20) sc_law.nd rfl (Or.inl rfl) (pe_make T.mk_Crew (ok_Crew_init T) (hr.mono (by omega)) rfl T.g_Crew (b_Crew_init T) .nil passL (pa_cons (pv 12) (pa_cons (pe_make T.mk_Lot (ok_Lot_init T) (hr.mono (by omega)) rfl T.g_Lot (b_Lot_init T) .nil passL (pa_cons (pv 3) (pa_cons (pe_callTy list_K (by rfl) T.z_list (by decide +kernel) (pa_cons (pv 18) pa_nil)) pa_nil))) pa_nil))))
        (pss_cons (ps_if (PW.pt (pw_or (pt_not (pt_val (pe_call (ok_u_law_shows T) (hr.mono (by omega)) rfl T.g_u_law_shows T.k_u_law_shows (b_u_law_shows T) .nil pass0 (pa_cons (pv 19) (pa_cons (pv 6) (pa_cons (pv 17) (pa_cons (pv 10) (pa_cons (pv 2) (pa_cons (pv 11) pa_nil))))))))) (pw_or1 (pt_not (pt_val (pe_call (ok_u_law_shows T) (hr.mono (by omega)) rfl T.g_u_law_shows T.k_u_law_shows (b_u_law_shows T) .nil pass0 (pa_cons (pv 20) (pa_cons (pv 6) (pa_cons (pv 7) (pa_cons (pv 18) (pa_cons (pv 2) (pa_cons (pv 11) pa_nil)))))))))))) (pss_one (ps_ret pe_bl)) pss_nil)
        (pss_cons (ps_set (i := 21) sc_law.nd rfl (Or.inr rfl) (pe_call (ok_u_law_number T) (hr.mono (by omega)) rfl T.g_u_law_number T.k_u_law_number (b_u_law_number T) .nil pass0 (pa_cons (pe_call (ok_u_law_cell T) (hr.mono (by omega)) rfl T.g_u_law_cell T.k_u_law_cell (b_u_law_cell T) .nil pass0 (pa_cons (pv 0) (pa_cons pe_int pa_nil))) (pa_cons pe_int pa_nil))))
        (pss_cons (ps_set (i := 22) sc_law.nd rfl (Or.inr rfl) (pe_call (ok_u_law_number T) (hr.mono (by omega)) rfl T.g_u_law_number T.k_u_law_number (b_u_law_number T) .nil pass0 (pa_cons (pe_call (ok_u_law_cell T) (hr.mono (by omega)) rfl T.g_u_law_cell T.k_u_law_cell (b_u_law_cell T) .nil pass0 (pa_cons (pv 0) (pa_cons pe_int pa_nil))) (pa_cons pe_int pa_nil))))
        (pss_cons (ps_set (i := 23) sc_law.nd rfl (Or.inl rfl) (pe_opS (op_ownJ (op := .LShift) (E := fun _ => E0) T.op_Crew T.D_Crew_lshift T.I_Crew_lshift (ok_Crew_lshift T) (hr.mono (by omega)) (b_Crew_lshift T) (pAt pass0)) (pv 14) (pv 21)))
        (pss_cons (ps_if (pt_not (pt_val (pe_call (ok_u_law_shows T) (hr.mono (by omega)) rfl T.g_u_law_shows T.k_u_law_shows (b_u_law_shows T) .nil pass0 (pa_cons (pv 23) (pa_cons (pv 6) (pa_cons (pv 7) (pa_cons (pe_lc (own := [("h", 8)]) (g := gName 8) rfl sc_law.nd (pi_range1 rfl T.z_range (pa_cons (pv 3) pa_nil)) (blkOk_by (own := [("h", 8)]) (N := N_law) (sc := defScope s_law) (by decide +kernel)) (fun _ _ _ _ _ => (pg_name (i := 8) sc_law.nd rfl (Or.inl rfl))) (fun _ _ _ _ _ => (pts_one (pt_cmpR in_K (pe_op op_mod (pe_callTy call_int1 (by rfl) T.z_int (by decide +kernel) (pa_cons (pe_op op_sub (pv 8) (pv 21)) pa_nil)) (pv 3)) (pv 10) (by with_unfolding_all rfl)))) (fun _ _ _ _ _ => (pv 8))) (pa_cons (pv 2) (pa_cons (pv 11) pa_nil))))))))) (pss_one (ps_ret pe_bl)) pss_nil)
        (pss_cons (ps_if (PW.pt (pw_or (pt_not (pt_val (pe_call (ok_u_law_same T) (hr.mono (by omega)) rfl T.g_u_law_same T.k_u_law_same (b_u_law_same T) .nil pass0 (pa_cons (pe_cmpS (op_ownC (op := .Eq) (E := fun _ => E0) (fun _ _ => rfl) T.M_Crew_eq (ok_Crew_eq T) (hr.mono (by omega)) (b_Crew_eq T) (pAt pass0)) (pe_opS (op_ownJ (op := .LShift) (E := fun _ => E0) T.op_Crew T.D_Crew_lshift T.I_Crew_lshift (ok_Crew_lshift T) (hr.mono (by omega)) (b_Crew_lshift T) (pAt pass0)) (pv 23) (pv 22)) (pe_opS (op_ownJ (op := .LShift) (E := fun _ => E0) T.op_Crew T.D_Crew_lshift T.I_Crew_lshift (ok_Crew_lshift T) (hr.mono (by omega)) (b_Crew_lshift T) (pAt pass0)) (pv 14) (pe_op op_add (pv 21) (pv 22))) (nomark _)) (pa_cons pe_bl pa_nil))))) (pw_or1 (pt_not (pt_val (pe_call (ok_u_law_same T) (hr.mono (by omega)) rfl T.g_u_law_same T.k_u_law_same (b_u_law_same T) .nil pass0 (pa_cons (pe_cmpS (op_ownC (op := .Eq) (E := fun _ => E0) (fun _ _ => rfl) T.M_Crew_eq (ok_Crew_eq T) (hr.mono (by omega)) (b_Crew_eq T) (pAt pass0)) (pv 23) (pe_make T.mk_Crew (ok_Crew_init T) (hr.mono (by omega)) rfl T.g_Crew (b_Crew_init T) .nil passL (pa_cons (pv 12) (pa_cons (pe_opS (op_ownJ (op := .LShift) (E := fun _ => E0) T.op_Lot T.D_Lot_lshift T.I_Lot_lshift (ok_Lot_lshift T) (hr.mono (by omega)) (b_Lot_lshift T) (pAt pass0)) (pv 13) (pv 21)) pa_nil))) (nomark _)) (pa_cons pe_bl pa_nil)))))))) (pss_one (ps_ret pe_bl)) pss_nil)
        (pss_cons (ps_if (pt_not (pt_val (pe_call (ok_u_law_same T) (hr.mono (by omega)) rfl T.g_u_law_same T.k_u_law_same (b_u_law_same T) .nil pass0 (pa_cons (pe_prop (pe_fldK (pe_opS (op_ownJ (op := .LShift) (E := fun _ => E0) T.op_Crew T.D_Crew_lshift T.I_Crew_lshift (ok_Crew_lshift T) (hr.mono (by omega)) (b_Crew_lshift T) (pAt pass0)) (pv 23) (pv 22)) rfl) T.cl_Lot T.P_Lot_members (ok_Lot_members T) (hr.mono (by omega)) (b_Lot_members T) .nil pass0 rfl) (pa_cons (pe_lc (own := [("h", 8)]) (g := gName 8) rfl sc_law.nd (pi_range1 rfl T.z_range (pa_cons (pv 3) pa_nil)) (blkOk_by (own := [("h", 8)]) (N := N_law) (sc := defScope s_law) (by decide +kernel)) (fun _ _ _ _ _ => (pg_name (i := 8) sc_law.nd rfl (Or.inl rfl))) (fun _ _ _ _ _ => (pts_one (pt_cmpR in_K (pe_op op_mod (pe_callTy call_int1 (by rfl) T.z_int (by decide +kernel) (pa_cons (pe_op op_sub (pe_op op_sub (pv 8) (pv 21)) (pv 22)) pa_nil)) (pv 3)) (pv 10) (by with_unfolding_all rfl)))) (fun _ _ _ _ _ => (pv 8))) pa_nil))))) (pss_one (ps_ret pe_bl)) pss_nil)
        (pss_cons (ps_set (i := 24) sc_law.nd rfl (Or.inr rfl) (pe_ix ix_lK (pe_lst (pa_cons (pe_op op_add (pv 3) pe_int) (pa_cons (pe_op op_mul pe_int (pv 3)) (pa_cons (pe_callB (call_max2 rfl) (by rfl) T.z_max (by decide +kernel) (pa_cons pe_int (pa_cons (pe_op op_sub (pv 3) pe_int) pa_nil))) (pa_cons (pe_op op_add (pe_op op_add (pv 3) pe_int) (pe_ix ix_lK (pv 15) pe_int (fun _ _ => rfl))) (pa_cons pe_int pa_nil)))))) (pe_ix ix_lK (pv 15) pe_int (fun _ _ => rfl)) (fun _ _ => rfl)))
        (pss_cons (ps_if (PW.pt (pw_and (pt_cmpR op_ne (pv 24) (pv 3) (nomark _)) (pw_and1 (pt_not (pt_val (pe_call (ok_u_law_other_ring T) (hr.mono (by omega)) rfl T.g_u_law_other_ring T.k_u_law_other_ring (b_u_law_other_ring T) .nil pass0 (pa_cons (pv 12) (pa_cons (pe_make T.mk_Lot (ok_Lot_init T) (hr.mono (by omega)) rfl T.g_Lot (b_Lot_init T) .nil passL (pa_cons (pv 24) (pa_cons (pe_lc (own := [("h", 8)]) (g := gName 8) rfl sc_law.nd (pi_listK (pv 10)) (blkOk_by (own := [("h", 8)]) (N := N_law) (sc := defScope s_law) (by decide +kernel)) (fun _ _ _ _ _ => (pg_name (i := 8) sc_law.nd rfl (Or.inl rfl))) (fun _ _ _ _ _ => (pts_one (pt_cmpR op_lt (pv 8) (pv 24) (nomark _)))) (fun _ _ _ _ _ => (pv 8))) pa_nil))) pa_nil)))))))) (pss_one (ps_ret pe_bl)) pss_nil)
        (pss_cons (ps_setLc (i := 25) (own := [("g", 26)]) (g := gName 26) (tt := tYes) rfl sc_law.nd rfl rfl (sw_true rfl rfl rfl (by decide +kernel)) (pi_range1 rfl T.z_range (pa_cons (pv 2) pa_nil)) (blkOk_by (own := [("g", 26)]) (N := N_law) (sc := defScope s_law) (by decide +kernel)) (fun _ _ _ _ _ => (pg_name (i := 26) sc_law.nd rfl (Or.inl rfl))) (fun _ _ _ _ _ => pts_nil) (fun _ _ _ _ _ => (pe_tup (pa_cons (pe_ix ix_tK (pe_ix ix_lK (pv 5) (pv 26) (fun _ _ => rfl)) pe_int (fun _ _ => rfl)) (pa_cons (pe_op op_mod (pe_callTy call_int1 (by rfl) T.z_int (by decide +kernel) (pa_cons (pe_op op_add (pe_ix ix_tK (pe_ix ix_lK (pv 5) (pv 26) (fun _ _ => rfl)) pe_int (fun _ _ => rfl)) pe_int) pa_nil)) pe_int) pa_nil)))))
        (pss_cons (ps_set (i := 27) sc_law.nd rfl (Or.inl rfl) (pe_make T.mk_Crew (ok_Crew_init T) (hr.mono (by omega)) rfl T.g_Crew (b_Crew_init T) .nil passL (pa_cons (pe_make T.mk_Beat (ok_Beat_init T) (hr.mono (by omega)) rfl T.g_Beat (b_Beat_init T) .nil passL (pa_cons (pe_make T.mk_House (ok_House_init T) (hr.mono (by omega)) rfl T.g_House (b_House_init T) .nil passL (pa_cons (pv 3) (pa_cons (pe_callTy list_K (by rfl) T.z_list (by decide +kernel) (pa_cons (pv 5) pa_nil)) pa_nil))) (pa_cons (pe_callTy list_K (by rfl) T.z_list (by decide +kernel) (pa_cons (pv 7) pa_nil)) pa_nil))) (pa_cons (pe_make T.mk_Lot (ok_Lot_init T) (hr.mono (by omega)) rfl T.g_Lot (b_Lot_init T) .nil passL (pa_cons (pv 3) (pa_cons (pe_callTy list_K (by rfl) T.z_list (by decide +kernel) (pa_cons (pv 10) pa_nil)) pa_nil))) pa_nil))))
        (pss_cons (ps_set (i := 28) sc_law.nd rfl (Or.inl rfl) (pe_make T.mk_Crew (ok_Crew_init T) (hr.mono (by omega)) rfl T.g_Crew (b_Crew_init T) .nil passL (pa_cons (pe_make T.mk_Beat (ok_Beat_init T) (hr.mono (by omega)) rfl T.g_Beat (b_Beat_init T) .nil passL (pa_cons (pe_make T.mk_House (ok_House_init T) (hr.mono (by omega)) rfl T.g_House (b_House_init T) .nil passL (pa_cons (pv 3) (pa_cons (pv 25) pa_nil))) (pa_cons (pe_callTy list_K (by rfl) T.z_list (by decide +kernel) (pa_cons (pv 7) pa_nil)) pa_nil))) (pa_cons (pe_make T.mk_Lot (ok_Lot_init T) (hr.mono (by omega)) rfl T.g_Lot (b_Lot_init T) .nil passL (pa_cons (pv 3) (pa_cons (pe_callTy list_K (by rfl) T.z_list (by decide +kernel) (pa_cons (pv 10) pa_nil)) pa_nil))) pa_nil))))
        (pss_cons (ps_set (i := 29) sc_law.nd rfl (Or.inl rfl) (pe_lst (pa_cons (pe_cmpS (op_ownC (op := .Eq) (E := fun _ => E0) (fun _ _ => rfl) T.M_Crew_eq (ok_Crew_eq T) (hr.mono (by omega)) (b_Crew_eq T) (pAt pass0)) (pv 14) (pv 27) (nomark _)) (pa_cons (pe_cmpS (op_ownC (op := .Eq) (E := fun _ => E0) (fun _ _ => rfl) T.M_Crew_eq (ok_Crew_eq T) (hr.mono (by omega)) (b_Crew_eq T) (pAt pass0)) (pv 27) (pv 14) (nomark _)) (pa_cons (pe_cmpS (op_ownC (op := .Eq) (E := fun _ => E0) (fun _ _ => rfl) T.M_Crew_eq (ok_Crew_eq T) (hr.mono (by omega)) (b_Crew_eq T) (pAt pass0)) (pe_opS (op_ownJ (op := .LShift) (E := fun _ => E0) T.op_Crew T.D_Crew_lshift T.I_Crew_lshift (ok_Crew_lshift T) (hr.mono (by omega)) (b_Crew_lshift T) (pAt pass0)) (pv 14) (pe_op op_mul (pv 3) (pe_ix ix_lK (pv 11) pe_int (fun _ _ => rfl)))) (pv 14) (nomark _)) (pa_cons (pe_cmpS (op_ownC (op := .Eq) (E := fun _ => E0) (fun _ _ => rfl) T.M_Crew_eq (ok_Crew_eq T) (hr.mono (by omega)) (b_Crew_eq T) (pAt pass0)) (pv 14) (pv 19) (nomark _)) (pa_cons (pe_cmpS (op_ownC (op := .Eq) (E := fun _ => E0) (fun _ _ => rfl) T.M_Crew_eq (ok_Crew_eq T) (hr.mono (by omega)) (b_Crew_eq T) (pAt pass0)) (pv 14) (pv 20) (nomark _)) (pa_cons (pe_cmpS (op_ownC (op := .Eq) (E := fun _ => E0) (fun _ _ => rfl) T.M_Crew_eq (ok_Crew_eq T) (hr.mono (by omega)) (b_Crew_eq T) (pAt pass0)) (pv 14) (pv 28) (nomark _)) (pa_cons (pe_cmpS (op_ownC (op := .Eq) (E := fun _ => E0) (fun _ _ => rfl) T.M_Crew_eq (ok_Crew_eq T) (hr.mono (by omega)) (b_Crew_eq T) (pAt pass0)) (pv 14) (pv 12) (nomark _)) pa_nil)))))))))
        (pss_cons (ps_if (pt_not (pt_val (pe_call (ok_u_law_same T) (hr.mono (by omega)) rfl T.g_u_law_same T.k_u_law_same (b_u_law_same T) .nil pass0 (pa_cons (pv 29) (pa_cons (pe_lst (pa_cons pe_bl (pa_cons pe_bl (pa_cons pe_bl (pa_cons pe_bl (pa_cons pe_bl (pa_cons pe_bl (pa_cons pe_bl pa_nil)))))))) pa_nil))))) (pss_one (ps_ret pe_bl)) pss_nil)
        (pss_cons (ps_if (PW.pt (pw_or (pt_not (pt_val (pe_call (ok_u_law_unlike T) (hr.mono (by omega)) rfl T.g_u_law_unlike T.k_u_law_unlike (b_u_law_unlike T) .nil pass0 (pa_cons (pv 14) (pa_cons (pe_lst (pa_cons (pv 27) (pa_cons (pv 19) (pa_cons (pv 20) (pa_cons (pv 28) (pa_cons (pv 12) pa_nil)))))) pa_nil))))) (pw_or1 (pt_not (pt_val (pe_call (ok_u_law_grown T) (hr.mono (by omega)) rfl T.g_u_law_grown T.k_u_law_grown (b_u_law_grown T) .nil pass0 (pa_cons (pv 14) (pa_cons (pv 23) (pa_cons (pv 21) pa_nil))))))))) (pss_one (ps_ret pe_bl)) pss_nil)
        (pss_cons (ps_if (PW.pt (pw_and (pt_cmpR op_eq (pe_ix ix_lK (pv 1) pe_int (fun _ _ => rfl)) pe_int (nomark _)) (pw_and1 (pt_not (pt_val (pe_call (ok_u_law_great T) (hr.mono (by omega)) rfl T.g_u_law_great T.k_u_law_great (b_u_law_great T) .nil pass0 (pa_cons (pv 0) (pa_cons (pv 5) pa_nil)))))))) (pss_one (ps_ret pe_bl)) pss_nil)
        (pss_one (ps_ret (pe_call (ok_u_law_shows T) (hr.mono (by omega)) rfl T.g_u_law_shows T.k_u_law_shows (b_u_law_shows T) .nil pass0 (pa_cons (pv 14) (pa_cons (pv 6) (pa_cons (pv 7) (pa_cons (pv 10) (pa_cons (pv 2) (pa_cons (pv 11) pa_nil)))))))))))))))))))))))))))))))))))))))))))))), ?_⟩
    try dsimp only
    refine q_asgR (er_draws (K := K) (ms := [4, 10, 4]) (ev_cell (k := 0) (ev_var rfl) ev_c hS) ev_c (el_lst (ea_cons ev_c (ea_cons ev_c (ea_cons ev_c ea_nil))) (by show 3 ≤ 100000; decide)) (cellA_nn _ _) (by decide) (by decide) (by decide +kernel)) fun v H1 e1 hp => ?_
    obtain ⟨dp, ds, rfl, hd, hD⟩ := hp
    have dl : ds.length = 3 := hD.1
    have d0 : 0 ≤ ds.getD 0 0 ∧ ds.getD 0 0 < 4 := drawn_at hD rfl
    have d1 : 0 ≤ ds.getD 1 0 ∧ ds.getD 1 0 < 10 := drawn_at hD rfl
    clear hD
    have dE : ∀ {σ : L2.St} {G : Hp} {te : TE} {i : Int}, σ[1]? = some (some (.ref dp)) → Ex H1 G → Ev te σ G (.int i) → 0 ≤ i → i < 3 → Ev (tOp (rIxL K) (tVar 1) te) σ G (.int (ds.getD i.toNat 0)) := fun h e he h0 h1 => ev_op (ev_var h) he (rv_ixL (K := K) (sq_of (e _ _ hd)) (atI_ints h0 (by rw [dl]; omega)))
    obtain ⟨m, hm⟩ : ∃ g : Nat, 1 + ds.getD 0 0 = (g : Int) := ⟨(1 + ds.getD 0 0).toNat, by omega⟩
    try dsimp only
    refine q_asg (v := .int (m : Int)) (ev_is (ev_op ev_c (dE rfl (Ex.refl _) ev_c (by decide) (by decide)) rv_I0) (congrArg V.int hm)) fun H2 e2 => ?_
    have hmb : 1 ≤ m ∧ m ≤ 4 := by omega
    obtain ⟨n, hn⟩ : ∃ g : Nat, 1 + ds.getD 1 0 = (g : Int) := ⟨(1 + ds.getD 1 0).toNat, by omega⟩
    try dsimp only
    refine q_asg (v := .int (n : Int)) (ev_is (ev_op ev_c (dE rfl e2 ev_c (by decide) (by decide)) rv_I0) (congrArg V.int hn)) fun H3 e3 => ?_
    have hn1 : 1 ≤ n := by omega
    have hn0 : n ≤ 10 := by omega
    have hn2 : n ≤ 24 := by omega
    have hmn : m * n ≤ 48 := Nat.le_trans (Nat.mul_le_mul hmb.2 hn0) (by decide)
    clear hn hm d0 d1
    have e13 := e2.trans e3
    have e03 := e1.trans (e2.trans e3)
    have c12 : ∀ {σ : L2.St} {G : Hp}, Ev (tOp (rI CPow fun i j => V.int (i ^ j.toNat)) (tC (.int 10)) (tC (.int 12))) σ G (.int (10 ^ 12)) := ev_op ev_c ev_c (rv_I (show CPow 10 12 from ⟨by decide, by decide, by decide⟩))
    try dsimp only
    refine q_asgR (er_draws (K := K) (ms := [10 ^ 12, 10 ^ 12, 10 ^ 12, 10 ^ 12]) (ev_cell (k := 1) (ev_var rfl) ev_c (ex_l e03 hS)) ev_c (el_lst (ea_cons c12 (ea_cons c12 (ea_cons c12 (ea_cons c12 ea_nil)))) (by show 4 ≤ 100000; decide)) (cellA_nn _ _) (by decide) (by decide) (by decide +kernel)) fun v H4 e4 hp => ?_
    obtain ⟨np, nums, rfl, hnu, hDn⟩ := hp
    have nl : nums.length = 4 := hDn.1
    clear hDn
    have e04 := e03.trans e4
    try dsimp only
    refine q_asgR (er_gatesD (K := K) (m := m) (ns := nums.take m) (el_isW (el_sl (ev_var (i := 4) rfl) eo_none (eo_some (ev_var (i := 2) rfl)) (sq_of hnu)) (cut_upto (by omega))) ((er_draws (K := K) (ms := [61, 61, 61, 61]) (ev_cell (k := 2) (ev_var rfl) ev_c (ex_l e04 hS)) ev_c (el_lst (ea_cons ev_c (ea_cons ev_c (ea_cons ev_c (ea_cons ev_c ea_nil)))) (by show 4 ≤ 100000; decide)) (cellA_nn _ _) (by decide) (by decide) (by decide +kernel)).imp fun v G ⟨p, ss, z1, z2, z3⟩ => ⟨p, ss, z1, sq_of z2, by rw [z3.1]; exact hmb.2, fun s hs => by
      obtain ⟨i, hi, rfl⟩ := List.getElem_of_mem hs
      have hi4 : i < 4 := by have := z3.1; simp at this; omega
      have : i = 0 ∨ i = 1 ∨ i = 2 ∨ i = 3 := by omega
      have e : ss.getD i 0 = ss[i] := by rw [List.getD_eq_getElem?_getD, List.getElem?_eq_getElem hi]; rfl
      rw [← e]
      rcases this with rfl | rfl | rfl | rfl
      · have := drawn_at z3 (i := 0) (m := 61) rfl; omega
      · have := drawn_at z3 (i := 1) (m := 61) rfl; omega
      · have := drawn_at z3 (i := 2) (m := 61) rfl; omega
      · have := drawn_at z3 (i := 3) (m := 61) rfl; omega⟩) (by rw [List.length_take]; omega) (by omega)) fun v H5 e5 hv => ?_
    obtain ⟨gp, gs, rfl, hG, hgg⟩ := hv
    obtain rfl := hgg.len
    have wds : ∀ g ∈ gs, Word g.1 := fun g hg => (hgg.all g hg).1
    try dsimp only
    refine q_asgR (er_houseE (K := K) (A := A) (n := n) (gs := gs) (ev_var (i := 3) rfl) (er_copyG (K := K) (ev_var (i := 5) rfl) hG) hgg ⟨hn1, hn2⟩ hmb hmn) fun hv H6 e6 hh => ?_
    have e06 := (e04.trans e5).trans e6
    try dsimp only
    refine q_asgVia (er_draws (K := K) (ms := List.replicate n ((gs.length : Int) + 1)) (ev_cell (k := 3) (ev_var rfl) ev_c (ex_l e06 hS)) ev_c (el_isW (el_rngY (n := n) (fun _ => .int ((gs.length : Int) + 1)) (ea_cons (ev_var (i := 3) rfl) ea_nil) (by omega) (fun x => rfl) fun i G hi e => ev_op (ev_var (i := 2) rfl) ev_c rv_I0) (by rw [List.map_replicate]; exact List.ext_getElem (by simp) fun i h1 h2 => by simp)) (cellA_nn _ _) (by decide) (by rw [List.length_replicate]; omega) (fun x hx => by rw [(List.mem_replicate.mp hx).2]; exact ⟨by omega, Nat.lt_of_lt_of_le (show _ < 2 ^ 7 by omega) (Nat.pow_le_pow_right (by decide) (by decide))⟩)) fun v H7 e7 hp => ?_
    obtain ⟨qp, qs, rfl, hq, hDq⟩ := hp
    have ql : qs.length = n := by rw [hDq.1, List.length_replicate]
    have qb : ∀ x ∈ qs, 0 ≤ x ∧ x < (gs.length : Int) + 1 := fun x hx => by
      obtain ⟨i, hi, rfl⟩ := List.getElem_of_mem hx
      have := drawn_at hDq (i := i) (m := (gs.length : Int) + 1) (by rw [List.getElem?_replicate, if_pos (by omega)])
      rwa [List.getD_eq_getElem?_getD, List.getElem?_eq_getElem hi] at this
    clear hDq
    obtain ⟨ss, hss⟩ : ∃ ss : List Int, ss = qs.map fun x => x - 1 := ⟨_, rfl⟩
    have gd : BeatGood n gs.length ss := ⟨by rw [hss, List.length_map, ql], fun x hx => by
      rw [hss] at hx
      obtain ⟨y, hy, rfl⟩ := List.mem_map.mp hx
      have := qb y hy
      omega⟩
    try dsimp only
    refine q_asgL (xs := ss.map V.int) (el_isW (el_mapA (K := K) qs (fun x => x - 1) ev_c (sq_of hq) (by omega) (fun x => rfl) fun x G e hx => ev_op (ev_var (i := 9) rfl) ev_c rv_I0) (by rw [hss])) fun sp H8 hsp e8 hs => ?_
    have sl := gd.len
    have e08 := (e06.trans e7).trans e8
    clear qb
    try dsimp only
    refine q_asgR (er_bits (n := (n : Int)) (ev_var (i := 3) rfl) (er_ix0 (K := K) (er_drawsZ (K := K) (ms := []) (ev_cell (k := 4) (ev_var rfl) ev_c (ex_l e08 hS)) ev_c (er_two (ev_var (i := 3) rfl) (by omega)) ea_nil (cellA_nn _ _) (by decide) (by decide) (fun x hx => by cases hx))) (by omega)) fun v H9 e9 hx => ?_
    obtain ⟨xp, xs, rfl, hx, hA⟩ := hx
    have xl := hA.len
    have c57 : ∀ {σ : L2.St} {G : Hp}, Ev (tOp (rI CPow fun i j => V.int (i ^ j.toNat)) (tC (.int 10)) (tC (.int 57))) σ G (.int (10 ^ 57)) := ev_op ev_c ev_c (rv_I (show CPow 10 57 from ⟨by decide, by decide, by decide⟩))
    have e09 := e08.trans e9
    try dsimp only
    refine q_asgR (er_draws (K := K) (ms := [10 ^ 57, 10 ^ 57]) (ev_cell (k := 5) (ev_var rfl) ev_c (ex_l e09 hS)) ev_c (el_lst (ea_cons c57 (ea_cons c57 ea_nil)) (by show 2 ≤ 100000; decide)) (cellA_nn _ _) (by decide) (by decide) (by decide +kernel)) fun v H10 e10 hp => ?_
    obtain ⟨lp, ls, rfl, hlq, hDl⟩ := hp
    obtain ⟨l0, l1, rfl, hl0, hl1⟩ : ∃ l0 l1 : Int, ls = [l0, l1] ∧ 0 ≤ l0 ∧ 0 ≤ l1 := by
      have h2 : ls.length = 2 := hDl.1
      match ls, h2, hDl with
      | [x, y], _, hD => exact ⟨x, y, rfl, (drawn_at hD (i := 0) (m := 10 ^ 57) rfl).1, (drawn_at hD (i := 1) (m := 10 ^ 57) rfl).1⟩
    clear hDl
    have e0a := e09.trans e10
    have e6a := ((e7.trans e8).trans e9).trans e10
    refine at_st (σ' := [some (.ref sa), some (.ref dp), some (.int (gs.length : Int)), some (.int (n : Int)), some (.ref np), some (.ref gp), some hv, some (.ref sp), none, none, some (.ref xp), some (.ref lp), none, none, none, none, none, none, none, none, none, none, none, none, none, none, none, none, none, none]) rfl ?_
    
    try dsimp only
    refine q_asgR (en_beat (K := K) (A := A) (n := n) (gs := gs) (ss := ss) (ev_var (i := 6) rfl) ((er_L (el_copyB (K := K) (ev_var (i := 7) rfl) (sq_of ((e9.trans e10) _ _ hs)))).imp fun v G ⟨q, z1, z2⟩ => ⟨q, z1, sq_of z2⟩) (hh.ex e6a) (by omega) gd ⟨by omega, by omega⟩ wds) fun bv H11 e11 hB => ?_
    obtain ⟨ba, bdx, bst, rfl, hb1, hb2⟩ := id hB.b
    try dsimp only
    refine q_asgR (er_mkAsc (K := K) (A := A) (n := (n : Int)) (xs := xs) (ev_var (i := 3) rfl) ((er_L (el_copyB (K := K) (ev_var (i := 10) rfl) (sq_of ((e10.trans e11) _ _ hx)))).imp fun v G ⟨q, z1, z2⟩ => ⟨q, z1, sq_of z2⟩) (by omega) hA) fun lv H12 e12 hL => ?_
    have e012 := (e0a.trans e11).trans e12
    have e612 := (e6a.trans e11).trans e12
    have hh12 := hh.ex e612
    have hs12 := ((e9.trans e10).trans (e11.trans e12)) _ _ hs
    have hx12 := (e10.trans (e11.trans e12)) _ _ hx
    have hl12 := (e11.trans e12) _ _ hlq
    have hG12 := hG.ex (e6.trans e612)
    have hS12 := ex_l e012 hS
    have hd12 := (e13.trans (e4.trans (e5.trans (e6.trans e612)))) _ _ hd
    have hB12 := hB.ex e12
    have hc12 := e12 _ _ hb1
    have npos : (0 : Int) < (n : Int) := by omega
    clear hh hs hx hlq hq hnu hS e13 dE hd hb1 hb2 hB hsp ql
    try dsimp only
    refine q_asgR (er_crew (K := K) (A := A) (n := n) (gs := gs) (ss := ss) (xs := xs) (er_ev (ev_var (i := 12) rfl) fun G e => ⟨hv, hB12.ex e⟩) (er_ev (ev_var (i := 13) rfl) fun G e => hL.ex e)) fun cv H13 e13 hW => ?_
    have shE : ∀ {σ : L2.St} {G : Hp}, σ[14]? = some (some cv) → σ[6]? = some (some hv) → σ[7]? = some (some (.ref sp)) → σ[10]? = some (some (.ref xp)) → σ[2]? = some (some (.int (gs.length : Int))) → σ[11]? = some (some (.ref lp)) → Ex H13 G → Ev (tCall (spCShows K A) [] E0 (tCons (tVar 14) (tCons (tVar 6) (tCons (tVar 7) (tCons (tVar 10) (tCons (tVar 2) (tCons (tVar 11) tNil))))))) σ G (.bl true) := fun s14 s6 s7 s10 s2 s11 e => ev_cshows (K := K) (A := A) (er_ev (ev_var s14) fun G e' => hW.ex (e.trans e')) (ev_var s6) (er_ev (ev_var s7) fun G e' => ⟨sp, rfl, sq_of ((e13.trans (e.trans e')) _ _ hs12)⟩) (er_ev (ev_var s10) fun G e' => ⟨xp, rfl, sq_of ((e13.trans (e.trans e')) _ _ hx12)⟩) (ev_var s2) (ev_var s11) (hh12.ex (e13.trans e)) (sq_of ((e13.trans e) _ _ hl12)) ⟨hl0, hl1⟩ hn2
    try dsimp only
    refine q_skip (et_notT (et_B (shE rfl rfl rfl rfl rfl rfl (Ex.refl _)))) fun H14 e14 => ?_
    have e1214 := e13.trans e14
    try dsimp only
    refine q_asgR (er_draws (K := K) (ms := [10, 10, 4, 5, 61]) (ev_cell (k := 6) (ev_var rfl) ev_c (ex_l e1214 hS12)) ev_c (el_lst (ea_cons ev_c (ea_cons ev_c (ea_cons ev_c (ea_cons ev_c (ea_cons ev_c ea_nil))))) (by show 5 ≤ 100000; decide)) (cellA_nn _ _) (by decide) (by decide) (by decide +kernel)) fun v H15 e15 hp => ?_
    obtain ⟨wp, ws, rfl, hw, hDw⟩ := hp
    have wl : ws.length = 5 := hDw.1
    have w3 : 0 ≤ ws.getD 3 0 ∧ ws.getD 3 0 < 5 := drawn_at hDw rfl
    have w4 : 0 ≤ ws.getD 4 0 ∧ ws.getD 4 0 < 61 := drawn_at hDw rfl
    clear hDw
    have wE : ∀ {σ : L2.St} {G : Hp} {te : TE} {i : Int}, σ[15]? = some (some (.ref wp)) → Ex H15 G → Ev te σ G (.int i) → 0 ≤ i → i < 5 → Ev (tOp (rIxL K) (tVar 15) te) σ G (.int (ws.getD i.toNat 0)) := fun h e he h0 h1 => ev_op (ev_var h) he (rv_ixL (K := K) (sq_of (e _ _ hw)) (atI_ints h0 (by rw [wl]; omega)))
    have e1215 := e1214.trans e15
    refine at_st (σ' := [some (.ref sa), some (.ref dp), some (.int (gs.length : Int)), some (.int (n : Int)), some (.ref np), some (.ref gp), some hv, some (.ref sp), none, none, some (.ref xp), some (.ref lp), some (.ref ba), some lv, some cv, some (.ref wp), none, none, none, none, none, none, none, none, none, none, none, none, none, none]) rfl ?_
    
    try dsimp only
    refine q_asg (v := .int (ws.getD 0 0 % (n : Int))) (ev_op (ev_int (wE rfl (Ex.refl _) ev_c (by decide) (by decide))) (ev_var (i := 3) rfl) (rv_I npos)) fun H16 e16 => ?_
    have a0 := Int.emod_nonneg (ws.getD 0 0) (b := (n : Int)) (by omega)
    have a1 := Int.emod_lt_of_pos (ws.getD 0 0) npos
    generalize ws.getD 0 0 % (n : Int) = az at *
    obtain ⟨ai, rfl⟩ := Int.eq_ofNat_of_zero_le a0
    have hai : ai < ss.length := by omega
    have xi : (ss.map V.int)[ai]? = some (.int (ss.getD ai 0)) := by
      rw [List.getElem?_map, List.getD_eq_getElem?_getD, List.getElem?_eq_getElem hai]
      rfl
    have xb := gd.val _ (in_getD (d := 0) hai)
    obtain ⟨y, hy⟩ : ∃ y, (ss.getD ai 0 + 2 + ws.getD 2 0 % (gs.length : Int)) % ((gs.length : Int) + 1) - 1 = y := ⟨_, rfl⟩
    have yb : -1 ≤ y ∧ y < (gs.length : Int) ∧ y ≠ ss.getD ai 0 := by rw [← hy]; exact other_step hmb xb
    have e1216 := e1215.trans e16
    refine at_st (σ' := [some (.ref sa), some (.ref dp), some (.int (gs.length : Int)), some (.int (n : Int)), some (.ref np), some (.ref gp), some hv, some (.ref sp), none, none, some (.ref xp), some (.ref lp), some (.ref ba), some lv, some cv, some (.ref wp), some (.int (ai : Int)), none, none, none, none, none, none, none, none, none, none, none, none, none]) rfl ?_
    
    try dsimp only
    refine q_asgL (el_copyB (K := K) (ev_var (i := 7) rfl) (sq_of (e1216 _ _ hs12))) fun cp H17 hcp e17 hc => ?_
    try dsimp only
    refine q_setL (j := ai) (v := .int y) hc (ev_is (ev_op (ev_op (ev_int (ev_op (ev_op (ev_op (ev_var (i := 7) rfl) (ev_var (i := 16) rfl) (rv_ixL (K := K) (sq_of ((e1216.trans e17) _ _ hs12)) (atI_nat xi))) ev_c rv_I0) (ev_op (ev_int (wE rfl (e16.trans e17) ev_c (by decide) (by decide))) (ev_var (i := 2) rfl) (rv_I (show (0 : Int) < (gs.length : Int) by omega))) rv_I0)) (ev_op (ev_var (i := 2) rfl) ev_c rv_I0) (rv_I (show (0 : Int) < (gs.length : Int) + 1 by omega))) ev_c rv_I0) (congrArg V.int hy)) (ev_var (i := 17) rfl) (ev_var (i := 16) rfl) (by rw [List.length_map]; omega) fun H18 e18 => ?_
    have e1618 : Ex H16 (upd H18 cp (.lst ((ss.map V.int).set ai (.int y)))) := Ex.mut (e17.trans e18) hcp
    obtain ⟨ts, hts⟩ : ∃ ts : List Int, ts = ss.set ai y := ⟨_, rfl⟩
    have hc18 : upd H18 cp (.lst ((ss.map V.int).set ai (.int y))) cp = some (.lst (ts.map V.int)) := by rw [upd_same, hts, List.map_set]
    generalize upd H18 cp (.lst ((ss.map V.int).set ai (.int y))) = G18 at *
    have tl : ts.length = n := by rw [hts, List.length_set]; exact sl
    have gt : BeatGood n gs.length ts := ⟨tl, fun x hx => by
      rw [hts] at hx
      rcases List.mem_or_eq_of_mem_set hx with h | h
      · exact gd.val x h
      · rw [h]; exact ⟨yb.1, yb.2.1⟩⟩
    have ne : ss ≠ ts := fun z => yb.2.2 (by
      have := congrArg (fun l : List Int => l.getD ai 0) z
      simp only [hts, List.getD_eq_getElem?_getD] at this
      rw [List.getElem?_set_self hai] at this
      rw [List.getD_eq_getElem?_getD]
      exact this.symm)
    have e1518 := e16.trans e1618
    have e1218 := e1215.trans e1518
    clear hts hy xb yb xi e1618 hc hcp e17 e18
    refine at_st (σ' := [some (.ref sa), some (.ref dp), some (.int (gs.length : Int)), some (.int (n : Int)), some (.ref np), some (.ref gp), some hv, some (.ref sp), none, none, some (.ref xp), some (.ref lp), some (.ref ba), some lv, some cv, some (.ref wp), some (.int (ai : Int)), some (.ref cp), none, none, none, none, none, none, none, none, none, none, none, none]) rfl ?_
    
    try dsimp only
    refine q_asg (v := .int (ws.getD 1 0 % (n : Int))) (ev_op (ev_int (wE rfl e1518 ev_c (by decide) (by decide))) (ev_var (i := 3) rfl) (rv_I npos)) fun H19 e19 => ?_
    have b0 := Int.emod_nonneg (ws.getD 1 0) (b := (n : Int)) (by omega)
    have b1 := Int.emod_lt_of_pos (ws.getD 1 0) npos
    generalize ws.getD 1 0 % (n : Int) = bz at *
    have e1219 := e1218.trans e19
    obtain ⟨ys, hys⟩ : ∃ ys : List Int, ys = hrs (n : Int) fun z => !decide (V.bl (decide (z ∈ xs)) = V.bl (decide (z = bz))) := ⟨_, rfl⟩
    try dsimp only
    refine q_asgL (xs := ys.map V.int) (el_isW (el_marks (K := K) (n := (n : Int)) (fun z => !decide (V.bl (decide (z ∈ xs)) = V.bl (decide (z = bz)))) (ea_cons (ev_var (i := 3) rfl) ea_nil) (by omega) (fun x => rfl) (fun z G e z0 z1 => et_test (ev_op (ev_op (ev_var (i := 8) rfl) (ev_var (i := 10) rfl) (rv_inI (K := K) (sq_of ((e1219.trans e) _ _ hx12)))) (ev_is (ev_op (ev_var (i := 8) rfl) (ev_var (i := 16) rfl) (rv_eq rfl)) (by rw [dec_ii])) (rv_ne rfl))) (fun z G => ev_var (i := 8) rfl)) (by rw [hys])) fun fp H20 hfp e20 hf => ?_
    have hAy : Asc 0 (n : Int) ys := by rw [hys]; exact asc_hrs (by omega)
    have ney : xs ≠ ys := fun z => by
      have h1 : bz ∈ ys ↔ ¬ bz ∈ xs := by
        rw [hys, mem_hrs]
        simp [b0, b1]
      rw [← z] at h1
      by_cases c : bz ∈ xs
      · exact h1.mp c c
      · exact c (h1.mpr c)
    clear hys hfp
    have e1920 := e19.trans e20
    have e1220 := e1219.trans e20
    have hc20 := e1920 _ _ hc18
    refine at_st (σ' := [some (.ref sa), some (.ref dp), some (.int (gs.length : Int)), some (.int (n : Int)), some (.ref np), some (.ref gp), some hv, some (.ref sp), none, none, some (.ref xp), some (.ref lp), some (.ref ba), some lv, some cv, some (.ref wp), some (.int bz), some (.ref cp), some (.ref fp), none, none, none, none, none, none, none, none, none, none, none]) rfl ?_
    
    try dsimp only
    refine q_asgR (er_crew (K := K) (A := A) (n := n) (gs := gs) (ss := ts) (xs := xs) (EvR.imp (en_beat (K := K) (A := A) (n := n) (gs := gs) (ss := ts) (ev_var (i := 6) rfl) ((er_L (el_copyB (K := K) (ev_var (i := 17) rfl) (sq_of hc20))).imp fun v G ⟨q, z1, z2⟩ => ⟨q, z1, sq_of z2⟩) (hh12.ex e1220) (by omega) gt ⟨by omega, by omega⟩ wds) fun w G hw => ⟨hv, hw⟩) (er_ev (ev_var (i := 13) rfl) fun G e => hL.ex (e1220.trans e))) fun ov H21 e21 hO => ?_
    have e1221 := e1220.trans e21
    try dsimp only
    refine q_asgR (er_crew (K := K) (A := A) (n := n) (gs := gs) (ss := ss) (xs := ys) (er_ev (ev_var (i := 12) rfl) fun G e => ⟨hv, hB12.ex (e1221.trans e)⟩) (er_mkAsc (K := K) (A := A) (n := (n : Int)) (xs := ys) (ev_var (i := 3) rfl) ((er_L (el_copyB (K := K) (ev_var (i := 18) rfl) (sq_of (e21 _ _ hf)))).imp fun v G ⟨q, z1, z2⟩ => ⟨q, z1, sq_of z2⟩) (by omega) hAy)) fun fv H22 e22 hF => ?_
    have e1222 := e1221.trans e22
    have hO22 := hO.ex e22
    try dsimp only
    refine q_skip (et_orF (et_notT (et_B (ev_cshows (K := K) (A := A) (ss := ts) (xs := xs) (er_ev (ev_var (i := 19) rfl) fun G e' => hO22.ex e') (ev_var (i := 6) rfl) (er_ev (ev_var (i := 17) rfl) fun G e' => ⟨cp, rfl, sq_of (((e21.trans e22).trans e') _ _ hc20)⟩) (er_ev (ev_var (i := 10) rfl) fun G e' => ⟨xp, rfl, sq_of ((e1222.trans e') _ _ hx12)⟩) (ev_var (i := 2) rfl) (ev_var (i := 11) rfl) (hh12.ex e1222) (sq_of (e1222 _ _ hl12)) ⟨hl0, hl1⟩ hn2)))
      (et_notT (et_B (ev_cshows (K := K) (A := A) (ss := ss) (xs := ys) (er_ev (ev_var (i := 20) rfl) fun G e' => hF.ex e') (ev_var (i := 6) rfl) (er_ev (ev_var (i := 7) rfl) fun G e' => ⟨sp, rfl, sq_of ((e1222.trans e') _ _ hs12)⟩) (er_ev (ev_var (i := 18) rfl) fun G e' => ⟨fp, rfl, sq_of (((e21.trans e22).trans e') _ _ hf)⟩) (ev_var (i := 2) rfl) (ev_var (i := 11) rfl) (hh12.ex e1222) (sq_of (e1222 _ _ hl12)) ⟨hl0, hl1⟩ hn2)))) fun H23 e23 => ?_
    have e1223 := e1222.trans e23
    refine at_st (σ' := [some (.ref sa), some (.ref dp), some (.int (gs.length : Int)), some (.int (n : Int)), some (.ref np), some (.ref gp), some hv, some (.ref sp), none, none, some (.ref xp), some (.ref lp), some (.ref ba), some lv, some cv, some (.ref wp), some (.int bz), some (.ref cp), some (.ref fp), some ov, some fv, none, none, none, none, none, none, none, none, none]) rfl ?_
    
    try dsimp only
    refine q_asgR (er_num (ev_cell (k := 7) (ev_var rfl) ev_c (ex_l e1223 hS12)) ev_c (cellA_nn _ _) (by decide)) fun v H24 e24 hp => ?_
    obtain ⟨kk, rfl⟩ := hp
    have e1224 := e1223.trans e24
    try dsimp only
    refine q_asgR (er_num (ev_cell (k := 8) (ev_var rfl) ev_c (ex_l e1224 hS12)) ev_c (cellA_nn _ _) (by decide)) fun v H25 e25 hp => ?_
    obtain ⟨jj, rfl⟩ := hp
    have e1225 := e1224.trans e25
    have e2225 := (e23.trans e24).trans e25
    have e2025 := (e21.trans e22).trans e2225
    have e1525 := ((e1518.trans e1920).trans (e21.trans e22)).trans e2225
    have e1325 := (e14.trans e15).trans e1525
    have hW25 := hW.ex e1325
    have hO25 := hO22.ex e2225
    have hF25 := hF.ex e2225
    have hL25 := hL.ex e1225
    have hB25 := hB12.ex e1225
    clear hO hO22 hF hc18 hc20
    refine at_st (σ' := [some (.ref sa), some (.ref dp), some (.int (gs.length : Int)), some (.int (n : Int)), some (.ref np), some (.ref gp), some hv, some (.ref sp), none, none, some (.ref xp), some (.ref lp), some (.ref ba), some lv, some cv, some (.ref wp), some (.int bz), some (.ref cp), some (.ref fp), some ov, some fv, some (.int kk), some (.int jj), none, none, none, none, none, none, none]) rfl ?_
    
    try dsimp only
    refine q_asgR (er_clsh (K := K) (A := A) (er_ev (ev_var (i := 14) rfl) fun G e => hW25.ex e) (ev_var (i := 21) rfl)) fun tv H26 e26 hT => ?_
    have e1226 := e1225.trans e26
    have mkE : ∀ {σ : L2.St} {G : Hp} {tt : TT} (z1 : Int → Int), σ[3]? = some (some (.int (n : Int))) → True := fun _ _ => True.intro
    clear mkE
    refine at_st (σ' := [some (.ref sa), some (.ref dp), some (.int (gs.length : Int)), some (.int (n : Int)), some (.ref np), some (.ref gp), some hv, some (.ref sp), none, none, some (.ref xp), some (.ref lp), some (.ref ba), some lv, some cv, some (.ref wp), some (.int bz), some (.ref cp), some (.ref fp), some ov, some fv, some (.int kk), some (.int jj), some tv, none, none, none, none, none, none]) rfl ?_
    
    try dsimp only
    refine q_skip (et_notT (et_B (ev_cshows (K := K) (A := A) (ss := ss) (xs := turnL (n : Int) kk xs) (er_ev (ev_var (i := 23) rfl) fun G e' => hT.ex e') (ev_var (i := 6) rfl) (er_ev (ev_var (i := 7) rfl) fun G e' => ⟨sp, rfl, sq_of ((e1226.trans e') _ _ hs12)⟩) (EvR.imp (er_L (el_marks (K := K) (n := (n : Int)) (fun z => decide ((z - kk) % (n : Int) ∈ xs)) (ea_cons (ev_var (i := 3) rfl) ea_nil) (by omega) (fun x => rfl) (fun z G e z0 z1 => et_test (ev_op (ev_op (ev_int (ev_op (ev_var (i := 8) rfl) (ev_var (i := 21) rfl) rv_I0)) (ev_var (i := 3) rfl) (rv_I npos)) (ev_var (i := 10) rfl) (rv_inI (K := K) (sq_of ((e1226.trans e) _ _ hx12))))) (fun z G => ev_var (i := 8) rfl))) fun v G ⟨q, z1, z2⟩ => ⟨q, z1, sq_of z2⟩) (ev_var (i := 2) rfl) (ev_var (i := 11) rfl) (hh12.ex e1226) (sq_of (e1226 _ _ hl12)) ⟨hl0, hl1⟩ hn2))) fun H27 e27 => ?_
    have e1227 := e1226.trans e27
    have hT27 := hT.ex e27
    have e2527 := e26.trans e27
    have e2027 := e2025.trans e2527
    try dsimp only
    refine q_skip (et_orF (et_notT (et_B (ev_same (d := .bool true) (ed_bl (ev_ceq (K := K) (A := A) (b := true) T.ty_Crew T.ty_Beat T.si_Beat_Crew (er_clsh (K := K) (A := A) (er_ev (ev_var (i := 23) rfl) fun G e => hT27.ex e) (ev_var (i := 22) rfl)) ((er_clsh (K := K) (A := A) (er_ev (ev_var (i := 14) rfl) fun G e => hW25.ex (e2527.trans e)) (ev_op (ev_var (i := 21) rfl) (ev_var (i := 22) rfl) rv_I0)).imp fun w G hw => .inl ⟨n, gs, ss, _, hw, decide_eq_true ⟨⟨⟨rfl, rfl⟩, rfl⟩, turnL_turnL npos⟩⟩))) (ed_bl ev_c) True.intro)))
      (et_notT (et_B (ev_same (d := .bool true) (ed_bl (ev_ceq (K := K) (A := A) (b := true) T.ty_Crew T.ty_Beat T.si_Beat_Crew (er_ev (ev_var (i := 23) rfl) fun G e => hT27.ex e) ((er_crew (K := K) (A := A) (n := n) (gs := gs) (ss := ss) (xs := turnL (n : Int) kk xs) (er_ev (ev_var (i := 12) rfl) fun G e => ⟨hv, hB25.ex (e2527.trans e)⟩) (er_lotI (er_ev (ev_var (i := 13) rfl) fun G e => hL25.ex (e2527.trans e)) (ev_var (i := 21) rfl))).imp fun w G hw => .inl ⟨n, gs, ss, _, hw, decide_eq_true ⟨⟨⟨rfl, rfl⟩, rfl⟩, rfl⟩⟩))) (ed_bl ev_c) True.intro)))) fun H28 e28 => ?_
    have e1228 := e1227.trans e28
    have hT28 := hT27.ex e28
    try dsimp only
    refine q_skip (et_notT (et_B (ev_same (d := .list ((turnL (n : Int) jj (turnL (n : Int) kk xs)).map .int)) (ed_L (el_mems (A := A) (n := (n : Int)) (xs := turnL (n : Int) jj (turnL (n : Int) kk xs)) (er_cstarts (K := K) (A := A) T.cl_Crew T.na_Crew_starts (er_clsh (K := K) (A := A) (er_ev (ev_var (i := 23) rfl) fun G e => hT28.ex e) (ev_var (i := 22) rfl))))) (ed_L (el_isW (el_marks (K := K) (n := (n : Int)) (fun z => decide ((z - kk - jj) % (n : Int) ∈ xs)) (ea_cons (ev_var (i := 3) rfl) ea_nil) (by omega) (fun x => rfl) (fun z G e z0 z1 => et_test (ev_op (ev_op (ev_int (ev_op (ev_op (ev_var (i := 8) rfl) (ev_var (i := 21) rfl) rv_I0) (ev_var (i := 22) rfl) rv_I0)) (ev_var (i := 3) rfl) (rv_I npos)) (ev_var (i := 10) rfl) (rv_inI (K := K) (sq_of ((e1228.trans e) _ _ hx12))))) (fun z G => ev_var (i := 8) rfl)) (by
      rw [turnL_turnL npos]
      unfold turnL
      congr 1
      refine hrs_congr fun z _ _ => ?_
      rw [show z - (kk + jj) = z - kk - jj by omega]))) (flatI (by have := (asc_turnL (n := (n : Int)) (k := jj) (xs := turnL (n : Int) kk xs) npos).len; omega))))) fun H29 e29 => ?_
    have e1229 := e1228.trans e29
    have e1529 := ((e1525.trans e2527).trans e28).trans e29
    obtain ⟨R, hR, hR1, hR2⟩ : ∃ R : Int, ([(n : Int) + 1, 2 * (n : Int), (if (n : Int) - 1 > 1 then (n : Int) - 1 else 1), (n : Int) + 7 + ws.getD 4 0, 360] : List Int).getD (ws.getD 3 0).toNat 0 = R ∧ 1 ≤ R ∧ R ≤ 360 := by
      refine ⟨_, rfl, ?_⟩
      have hb : ∀ x ∈ ([(n : Int) + 1, 2 * (n : Int), (if (n : Int) - 1 > 1 then (n : Int) - 1 else 1), (n : Int) + 7 + ws.getD 4 0, 360] : List Int), 1 ≤ x ∧ x ≤ 360 := by
        intro x hx
        simp only [List.mem_cons, List.not_mem_nil, or_false] at hx
        rcases hx with rfl | rfl | rfl | rfl | rfl
        · omega
        · omega
        · split <;> omega
        · omega
        · omega
      exact hb _ (in_getD (by show (ws.getD 3 0).toNat < 5; omega))
    try dsimp only
    refine q_asg (v := .int R) (ev_is (ev_ixl (K := K) (xs := [(n : Int) + 1, 2 * (n : Int), (if (n : Int) - 1 > 1 then (n : Int) - 1 else 1), (n : Int) + 7 + ws.getD 4 0, 360]) (el_lst (ea_cons (ev_op (ev_var (i := 3) rfl) ev_c rv_I0) (ea_cons (ev_op ev_c (ev_var (i := 3) rfl) (rv_I (show CMul 2 (n : Int) from .inl ⟨by omega, by omega⟩))) (ea_cons (ev_cb (ea_cons ev_c (ea_cons (ev_op (ev_var (i := 3) rfl) ev_c rv_I0) ea_nil)) fun G e Q q => ⟨1, (n : Int) - 1, rfl, q G (Ex.refl G)⟩) (ea_cons (ev_op (ev_op (ev_var (i := 3) rfl) ev_c rv_I0) (wE rfl e1529 ev_c (by decide) (by decide)) rv_I0) (ea_cons ev_c ea_nil))))) (by show 5 ≤ 100000; decide)) (wE rfl e1529 ev_c (by decide) (by decide)) w3) (congrArg V.int hR)) fun H30 e30 => ?_
    clear hR
    have e1230 := e1229.trans e30
    refine at_st (σ' := [some (.ref sa), some (.ref dp), some (.int (gs.length : Int)), some (.int (n : Int)), some (.ref np), some (.ref gp), some hv, some (.ref sp), none, none, some (.ref xp), some (.ref lp), some (.ref ba), some lv, some cv, some (.ref wp), some (.int bz), some (.ref cp), some (.ref fp), some ov, some fv, some (.int kk), some (.int jj), some tv, some (.int R), none, none, none, none, none]) rfl ?_
    
    try dsimp only
    refine q_skip (et_is (et_and (b := false) (et_test (ev_is (w := .bl (!decide (R = (n : Int)))) (ev_op (ev_var (i := 24) rfl) (ev_var (i := 3) rfl) (rv_ne rfl)) (by rw [dec_ii]))) fun hb => et_notT (et_B (ev_otherRing (K := K) (A := A) (n := n) (m := R) (er_ev (ev_var (i := 12) rfl) fun G e => hB12.ex (e1230.trans e)) (er_mkAsc (K := K) (A := A) (n := R) (xs := xs.filter fun x => decide (x < R)) (ev_var (i := 24) rfl) (EvR.imp (er_L (el_isW (el_map (K := K) xs (fun x => decide (x < R)) (fun x => x) (ev_var (i := 10) rfl) (sq_of (e1230 _ _ hx12)) (by omega) (fun x => rfl) (fun x G e hx => et_test (ev_op (ev_var (i := 8) rfl) (ev_var (i := 24) rfl) rv_I0)) (fun x G e hx hp => ev_var (i := 8) rfl)) (by rw [List.map_id']))) fun v G ⟨q, z1, z2⟩ => ⟨q, z1, sq_of z2⟩) ⟨hR1, hR2⟩ ⟨hA.1.filter _, fun x hx => ⟨(hA.2 x (List.mem_filter.mp hx).1).1, of_decide_eq_true (List.mem_filter.mp hx).2⟩⟩) (by simpa using hb)))) (Bool.and_false _)) fun H31 e31 => ?_
    have e1231 := e1230.trans e31
    obtain ⟨gvs, hg1, hg2, hg3⟩ := (hG12.ex e1231).all
    obtain ⟨fs, hfs⟩ : ∃ fs : List (Str × Int), fs = gs.map fun g => (g.1, (g.2 + 1) % 61) := ⟨_, rfl⟩
    try dsimp only
    refine q_asgR (en_lcR1 (n := (gs.length : Int)) (fun i w G => ∃ t, w = .ref t ∧ G t = some (.tup [.str (gs.getD i (Str.empty, 0)).1, .int (((gs.getD i (Str.empty, 0)).2 + 1) % 61)])) (ea_cons (ev_var (i := 2) rfl) ea_nil) (by omega) (fun x => rfl) fun i G e hi => ?_).er fun tvv H32 e32 ht => ?_
    · have hi : i < gs.length := by omega
      have gi : gs[i]? = some (gs.getD i (Str.empty, 0)) := by rw [List.getD_eq_getElem?_getD, List.getElem?_eq_getElem hi]; rfl
      have vi : gvs[i]? = some gvs[i] := List.getElem?_eq_getElem (by omega)
      obtain ⟨t, ht, hT⟩ := hg3 i _ vi
      have hT := hT _ gi
      rw [ht] at vi
      generalize gs.getD i (Str.empty, 0) = g at *
      have gE : ∀ {σ : L2.St} {G' : Hp}, σ[5]? = some (some (.ref gp)) → σ[26]? = some (some (.int (i : Int))) → Ex G G' → Ev (tOp (rIxL K) (tVar 5) (tVar 26)) σ G' (.ref t) := fun s5 s26 e' => ev_op (ev_var s5) (ev_var s26) (rv_ixL (K := K) (ex_l (e.trans e') hg1) (atI_nat vi))
      exact en_U (eu_tup (ea_cons (ev_op (gE rfl rfl (Ex.refl _)) ev_c (rv_ixT (K := K) (ex_t e hT) (atI_nat (j := 0) rfl))) (ea_cons (ev_op (ev_int (ev_op (ev_op (gE rfl rfl (Ex.refl _)) ev_c (rv_ixT (K := K) (ex_t e hT) (atI_nat (j := 1) rfl))) ev_c rv_I0)) ev_c (rv_I (show (0 : Int) < 61 by decide))) ea_nil)) (by show 2 ≤ 100000; decide))
    obtain ⟨stp, tws, rfl, t1, t2, t3⟩ := ht
    rw [Int.toNat_natCast] at t2
    have hGs : Gates K H32 stp fs := ⟨tws, sq_of t1, by rw [t2, hfs, List.length_map], fun i v hv => by
      obtain ⟨t, rfl, ht⟩ := t3 i v hv
      refine ⟨t, rfl, fun g hg => ?_⟩
      have hi : i < gs.length := by have := (List.getElem?_eq_some_iff.mp hv).1; omega
      rw [hfs, List.getElem?_map, List.getElem?_eq_getElem hi] at hg
      have hg := Option.some.inj hg
      rw [List.getD_eq_getElem?_getD, List.getElem?_eq_getElem hi] at ht
      subst hg
      exact st_of ht⟩
    have gfs : GoodG fs gs.length := ⟨by rw [hfs, List.length_map], by rw [hfs, List.map_map]; exact hgg.nd, fun g hg => by
      rw [hfs] at hg
      obtain ⟨g0, hg0, rfl⟩ := List.mem_map.mp hg
      have := hgg.all g0 hg0
      exact ⟨this.1, by show 0 ≤ (g0.2 + 1) % 61; omega, by show (g0.2 + 1) % 61 ≤ 60; omega⟩⟩
    have nefs : gs ≠ fs := fun z => by
      have h0 : gs[0]? = some (gs[0]'(by omega)) := List.getElem?_eq_getElem (by omega)
      have ha := hgg.all _ (List.mem_of_getElem? h0)
      have h1 := congrArg (fun l : List (Str × Int) => l[0]?) z
      simp only [hfs, List.getElem?_map, h0, Option.map_some] at h1
      have h2 := congrArg Prod.snd (Option.some.inj h1)
      have h2 : (gs[0]'(by omega)).2 = ((gs[0]'(by omega)).2 + 1) % 61 := h2
      omega
    clear hfs t1 t2 t3 hg1 hg2 hg3
    have e1232 := e1231.trans e32
    refine at_st (σ' := [some (.ref sa), some (.ref dp), some (.int (gs.length : Int)), some (.int (n : Int)), some (.ref np), some (.ref gp), some hv, some (.ref sp), none, none, some (.ref xp), some (.ref lp), some (.ref ba), some lv, some cv, some (.ref wp), some (.int bz), some (.ref cp), some (.ref fp), some ov, some fv, some (.int kk), some (.int jj), some tv, some (.int R), some (.ref stp), none, none, none, none]) rfl ?_
    
    try dsimp only
    refine q_asgR (er_crew (K := K) (A := A) (n := n) (gs := gs) (ss := ss) (xs := xs) (er_beatN (K := K) (A := A) (n := n) (gs := gs) (ss := ss) (er_houseE (K := K) (A := A) (n := n) (gs := gs) (ev_var (i := 3) rfl) (er_copyG (K := K) (ev_var (i := 5) rfl) (hG12.ex e1232)) hgg ⟨hn1, hn2⟩ hmb hmn) ((er_L (el_copyB (K := K) (ev_var (i := 7) rfl) (sq_of (e1232 _ _ hs12)))).imp fun v G ⟨q, z1, z2⟩ => ⟨q, z1, sq_of z2⟩) (by omega) gd ⟨by omega, by omega⟩ wds) (er_mkAsc (K := K) (A := A) (n := (n : Int)) (xs := xs) (ev_var (i := 3) rfl) ((er_L (el_copyB (K := K) (ev_var (i := 10) rfl) (sq_of (e1232 _ _ hx12)))).imp fun v G ⟨q, z1, z2⟩ => ⟨q, z1, sq_of z2⟩) (by omega) hA)) fun wv H33 e33 hV => ?_
    have e1233 := e1232.trans e33
    try dsimp only
    refine q_asgR (er_crew (K := K) (A := A) (n := n) (gs := fs) (ss := ss) (xs := xs) (er_beatN (K := K) (A := A) (n := n) (gs := fs) (ss := ss) (er_houseE (K := K) (A := A) (n := n) (m := gs.length) (gs := fs) (ev_var (i := 3) rfl) (er_ev (ev_var (i := 25) rfl) fun G e => ⟨stp, rfl, hGs.ex (e33.trans e)⟩) gfs ⟨hn1, hn2⟩ hmb hmn) ((er_L (el_copyB (K := K) (ev_var (i := 7) rfl) (sq_of (e1233 _ _ hs12)))).imp fun v G ⟨q, z1, z2⟩ => ⟨q, z1, sq_of z2⟩) (by rw [gfs.len]; omega) (by rw [gfs.len]; exact gd) ⟨by omega, by omega⟩ (fun g hg => (gfs.all g hg).1)) (er_mkAsc (K := K) (A := A) (n := (n : Int)) (xs := xs) (ev_var (i := 3) rfl) ((er_L (el_copyB (K := K) (ev_var (i := 10) rfl) (sq_of (e1233 _ _ hx12)))).imp fun v G ⟨q, z1, z2⟩ => ⟨q, z1, sq_of z2⟩) (by omega) hA)) fun av H34 e34 hX => ?_
    have e1234 := e1233.trans e34
    have e2934 := ((e30.trans e31).trans (e32.trans e33)).trans e34
    have e2534 := ((e2527.trans e28).trans e29).trans e2934
    have hW34 := hW25.ex e2534
    have hO34 := hO25.ex e2534
    have hF34 := hF25.ex e2534
    have hV34 := hV.ex e34
    have hT34 := hT28.ex (e29.trans e2934)
    have hb34 := e1234 _ _ hc12
    clear hW25 hO25 hF25 hV hT hT27 hT28
    have uT : ∀ {G : Hp}, Ex H34 G → CUn K A G n gs ss xs wv true := fun e => .inl ⟨n, gs, ss, xs, hV34.ex e, decide_eq_true ⟨⟨⟨rfl, rfl⟩, rfl⟩, rfl⟩⟩
    have uW : ∀ {G : Hp}, Ex H34 G → CUn K A G n gs ss xs cv true := fun e => .inl ⟨n, gs, ss, xs, hW34.ex e, decide_eq_true ⟨⟨⟨rfl, rfl⟩, rfl⟩, rfl⟩⟩
    have uO : ∀ {G : Hp}, Ex H34 G → CUn K A G n gs ss xs ov false := fun e => .inl ⟨n, gs, ts, xs, hO34.ex e, decide_eq_false fun z => ne z.1.2⟩
    have uF : ∀ {G : Hp}, Ex H34 G → CUn K A G n gs ss xs fv false := fun e => .inl ⟨n, gs, ss, ys, hF34.ex e, decide_eq_false fun z => ney z.2⟩
    have uA : ∀ {G : Hp}, Ex H34 G → CUn K A G n gs ss xs av false := fun e => .inl ⟨n, fs, ss, xs, hX.ex e, decide_eq_false fun z => nefs z.1.1.2⟩
    have uB : ∀ {G : Hp}, Ex H34 G → CUn K A G n gs ss xs (.ref ba) false := fun e => .inr ⟨⟨ba, bdx, _, rfl, e _ _ hb34⟩, rfl⟩
    have bE : ∀ {σ : L2.St} {te : TE} {w : V} {b : Bool}, σ[14]? = some (some cv) → Ev te σ H34 w → (∀ {G : Hp}, Ex H34 G → CUn K A G n gs ss xs w b) → Ev (tOpS (rOwnC K A.C_Crew (spCEq K A) fun x => E0) (tVar 14) te) σ H34 (.bl b) := fun s14 he hu => ev_ceq (K := K) (A := A) T.ty_Crew T.ty_Beat T.si_Beat_Crew (er_ev (ev_var s14) fun G e => hW34.ex e) (er_ev he fun G e => hu e)
    refine at_st (σ' := [some (.ref sa), some (.ref dp), some (.int (gs.length : Int)), some (.int (n : Int)), some (.ref np), some (.ref gp), some hv, some (.ref sp), none, none, some (.ref xp), some (.ref lp), some (.ref ba), some lv, some cv, some (.ref wp), some (.int bz), some (.ref cp), some (.ref fp), some ov, some fv, some (.int kk), some (.int jj), some tv, some (.int R), some (.ref stp), none, some wv, some av, none]) rfl ?_
    
    try dsimp only
    refine q_asgL (xs := [true, true, true, false, false, false, false].map V.bl) (el_lst (ea_cons (bE rfl (ev_var (i := 27) rfl) uT) (ea_cons (ev_ceq (K := K) (A := A) (b := true) T.ty_Crew T.ty_Beat T.si_Beat_Crew (er_ev (ev_var (i := 27) rfl) fun G e => hV34.ex e) (er_ev (ev_var (i := 14) rfl) fun G e => uW e)) (ea_cons (ev_ceq (K := K) (A := A) (b := true) T.ty_Crew T.ty_Beat T.si_Beat_Crew (EvR.imp (er_clsh (K := K) (A := A) (er_ev (ev_var (i := 14) rfl) fun G e => hW34.ex e) (ev_op (ev_var (i := 3) rfl) (ev_op (ev_var (i := 11) rfl) ev_c (rv_ixL (K := K) (sq_of (e1234 _ _ hl12)) (atI_nat (j := 0) rfl))) (rv_I (show CMul (n : Int) l0 from .inl ⟨by omega, by omega⟩)))) fun v G h => by
      rw [turnL_cong (j := 0) (by rw [Int.mul_emod_right, Int.zero_emod]), turnL_zero npos hA] at h
      exact h) (er_ev (ev_var (i := 14) rfl) fun G e => uW e)) (ea_cons (bE rfl (ev_var (i := 19) rfl) uO) (ea_cons (bE rfl (ev_var (i := 20) rfl) uF) (ea_cons (bE rfl (ev_var (i := 28) rfl) uA) (ea_cons (bE rfl (ev_var (i := 12) rfl) uB) ea_nil))))))) (by show 7 ≤ 100000; decide)) fun kp H35 _ e35 hkp => ?_
    have e1235 := e1234.trans e35
    have dpb : ∀ (bs : List Bool) {G : Hp}, DpAll K G (bs.map V.bl) (bs.map PyData.bool) := fun bs {G} => by
      induction bs with
      | nil => exact .nil
      | cons b bs ih => exact .cons (.bl b) ih
    try dsimp only
    refine q_skip (et_notT (et_B (ev_same (d := .list ([true, true, true, false, false, false, false].map .bool)) (er_ev (ev_var (i := 29) rfl) fun G e => .lst (sq_of (e _ _ hkp)) (dpb _)) ((er_L (el_isW (el_lst (ea_cons ev_c (ea_cons ev_c (ea_cons ev_c (ea_cons ev_c (ea_cons ev_c (ea_cons ev_c (ea_cons ev_c ea_nil))))))) (by show 7 ≤ 100000; decide)) (show [V.bl true, V.bl true, V.bl true, V.bl false, V.bl false, V.bl false, V.bl false] = [true, true, true, false, false, false, false].map V.bl from rfl))).imp fun v G ⟨p, z1, z2⟩ => by rw [z1]; exact .lst (sq_of z2) (dpb _)) (flat_boolsL _ (by decide))))) fun H36 e36 => ?_
    have e3436 := e35.trans e36
    have e1236 := e1234.trans e3436
    try dsimp only
    refine q_skip (et_orF (et_notT (et_B (ev_cunl (K := K) (A := A) (ev_var (i := 14) rfl) (el_lst (ea_cons (ev_var (i := 27) rfl) (ea_cons (ev_var (i := 19) rfl) (ea_cons (ev_var (i := 20) rfl) (ea_cons (ev_var (i := 28) rfl) (ea_cons (ev_var (i := 12) rfl) ea_nil))))) (by show 5 ≤ 100000; decide)) (hW34.ex e3436) (uT e3436) (uO e3436) (uF e3436) (uA e3436) (uB e3436))))
      (et_notT (et_B (ev_call (ea_cons (ev_var (i := 14) rfl) (ea_cons (ev_var (i := 23) rfl) (ea_cons (ev_var (i := 21) rfl) ea_nil))) fun H2 e Q q _ => ⟨cv, tv, kk, n, gs, ss, xs, rfl, hW34.ex (e3436.trans e), hT34.ex (e3436.trans e), fun H' e' => q H' e'⟩)))) fun H37 e37 => ?_
    have e1237 := e1236.trans e37
    try dsimp only
    refine q_skip (et_is (et_and (b := false) (et_test (ev_is (w := .bl (decide (ds.getD 2 0 = 3))) (ev_op (ev_op (ev_var (i := 1) rfl) ev_c (rv_ixL (K := K) (sq_of (e1237 _ _ hd12)) (atI_ints (i := 2) (by decide) (by rw [dl]; decide)))) ev_c (rv_eq rfl)) (by rw [dec_ii]; rfl))) fun hb => et_notT (et_B (ev_call (ea_cons (ev_var (i := 0) rfl) (ea_cons (ev_var (i := 5) rfl) ea_nil)) fun H2 e Q q _ => ⟨sa, gp, ns, gs.length, gs, rfl, ex_l (e1237.trans e) hS12, hG12.ex (e1237.trans e), hgg, hmb, fun H' e' => q H' e'⟩))) (Bool.and_false _)) fun H38 e38 => ?_
    exact s_ret (shE rfl rfl rfl rfl rfl rfl ((e1325.trans (e2534.trans e3436)).trans (e37.trans e38))) fun G g => k G
theorem all_mk {l : PySem.W.OpenLaw} {w : World} {K : PySem.W.Frag} {h : Heap} {mg : Str → Option Value} {fa : Addr} (X : K.In h) (G : h.Ns mainGlobals mg) (hfa : mg "law" = some (.ref fa))
    {od0 an0 : Option Addr} {sl0 : Array (Option Value)} {oc0 kV0 dc0 pm0 cd0 ct0 : Value} {f0 : Addr}
    {od1 an1 : Option Addr} {sl1 : Array (Option Value)} {oc1 kV1 dc1 pm1 cd1 ct1 : Value} {f1 : Addr}
    {od2 an2 : Option Addr} {sl2 : Array (Option Value)} {oc2 kV2 dc2 pm2 cd2 ct2 : Value} {f2 : Addr}
    {od3 an3 : Option Addr} {sl3 : Array (Option Value)} {oc3 kV3 dc3 pm3 cd3 ct3 : Value} {f3 : Addr}
    {od4 an4 : Option Addr} {sl4 : Array (Option Value)} {oc4 kV4 dc4 pm4 cd4 ct4 : Value} {f4 : Addr}
    {od5 an5 : Option Addr} {sl5 : Array (Option Value)} {oc5 kV5 dc5 pm5 cd5 ct5 : Value} {f5 : Addr}
    {od6 an6 : Option Addr} {sl6 : Array (Option Value)} {oc6 kV6 dc6 pm6 cd6 ct6 : Value} {f6 : Addr}
    {od7 an7 : Option Addr} {sl7 : Array (Option Value)} {oc7 kV7 dc7 pm7 cd7 ct7 : Value} {f7 : Addr}
    {od8 an8 : Option Addr} {sl8 : Array (Option Value)} {oc8 kV8 dc8 pm8 cd8 ct8 : Value} {f8 : Addr}
    {od9 an9 : Option Addr} {sl9 : Array (Option Value)} {oc9 kV9 dc9 pm9 cd9 ct9 : Value} {f9 : Addr}
    {od10 an10 : Option Addr} {sl10 : Array (Option Value)} {oc10 kV10 dc10 pm10 cd10 ct10 : Value} {f10 : Addr}
    {od11 an11 : Option Addr} {sl11 : Array (Option Value)} {oc11 kV11 dc11 pm11 cd11 ct11 : Value} {f11 : Addr}
    {od12 an12 : Option Addr} {sl12 : Array (Option Value)} {oc12 kV12 dc12 pm12 cd12 ct12 : Value} {f12 : Addr}
    {od13 an13 : Option Addr} {sl13 : Array (Option Value)} {oc13 kV13 dc13 pm13 cd13 ct13 : Value} {f13 : Addr}
    {od14 an14 : Option Addr} {sl14 : Array (Option Value)} {oc14 kV14 dc14 pm14 cd14 ct14 : Value} {f14 : Addr}
    {od15 an15 : Option Addr} {sl15 : Array (Option Value)} {oc15 kV15 dc15 pm15 cd15 ct15 : Value} {f15 : Addr}
    {od16 an16 : Option Addr} {sl16 : Array (Option Value)} {oc16 kV16 dc16 pm16 cd16 ct16 : Value} {f16 : Addr}
    {od17 an17 : Option Addr} {sl17 : Array (Option Value)} {oc17 kV17 dc17 pm17 cd17 ct17 : Value} {f17 : Addr}
    {od18 an18 : Option Addr} {sl18 : Array (Option Value)} {oc18 kV18 dc18 pm18 cd18 ct18 : Value} {f18 : Addr}
    {od19 an19 : Option Addr} {sl19 : Array (Option Value)} {oc19 kV19 dc19 pm19 cd19 ct19 : Value} {f19 : Addr}
    {od20 an20 : Option Addr} {sl20 : Array (Option Value)} {oc20 kV20 dc20 pm20 cd20 ct20 : Value} {f20 : Addr}
    {od21 an21 : Option Addr} {sl21 : Array (Option Value)} {oc21 kV21 dc21 pm21 cd21 ct21 : Value} {f21 : Addr}
    {od22 an22 : Option Addr} {sl22 : Array (Option Value)} {oc22 kV22 dc22 pm22 cd22 ct22 : Value} {f22 : Addr}
    {od23 an23 : Option Addr} {sl23 : Array (Option Value)} {oc23 kV23 dc23 pm23 cd23 ct23 : Value} {f23 : Addr}
    {od24 an24 : Option Addr} {sl24 : Array (Option Value)} {oc24 kV24 dc24 pm24 cd24 ct24 : Value} {f24 : Addr}
    {od25 an25 : Option Addr} {sl25 : Array (Option Value)} {oc25 kV25 dc25 pm25 cd25 ct25 : Value} {f25 : Addr}
    {od26 an26 : Option Addr} {sl26 : Array (Option Value)} {oc26 kV26 dc26 pm26 cd26 ct26 : Value} {f26 : Addr}
    {od27 an27 : Option Addr} {sl27 : Array (Option Value)} {oc27 kV27 dc27 pm27 cd27 ct27 : Value} {f27 : Addr}
    {od28 an28 : Option Addr} {sl28 : Array (Option Value)} {oc28 kV28 dc28 pm28 cd28 ct28 : Value} {f28 : Addr}
    {od29 an29 : Option Addr} {sl29 : Array (Option Value)} {oc29 kV29 dc29 pm29 cd29 ct29 : Value} {f29 : Addr}
    {od30 an30 : Option Addr} {sl30 : Array (Option Value)} {oc30 kV30 dc30 pm30 cd30 ct30 : Value} {f30 : Addr}
    {od31 an31 : Option Addr} {sl31 : Array (Option Value)} {oc31 kV31 dc31 pm31 cd31 ct31 : Value} {f31 : Addr}
    {od32 an32 : Option Addr} {sl32 : Array (Option Value)} {oc32 kV32 dc32 pm32 cd32 ct32 : Value} {f32 : Addr}
    {od33 an33 : Option Addr} {sl33 : Array (Option Value)} {oc33 kV33 dc33 pm33 cd33 ct33 : Value} {f33 : Addr}
    {od34 an34 : Option Addr} {sl34 : Array (Option Value)} {oc34 kV34 dc34 pm34 cd34 ct34 : Value} {f34 : Addr}
    {od35 an35 : Option Addr} {sl35 : Array (Option Value)} {oc35 kV35 dc35 pm35 cd35 ct35 : Value} {f35 : Addr}
    {od36 an36 : Option Addr} {sl36 : Array (Option Value)} {oc36 kV36 dc36 pm36 cd36 ct36 : Value} {f36 : Addr}
    {od37 an37 : Option Addr} {sl37 : Array (Option Value)} {oc37 kV37 dc37 pm37 cd37 ct37 : Value} {f37 : Addr}
    {od38 an38 : Option Addr} {sl38 : Array (Option Value)} {oc38 kV38 dc38 pm38 cd38 ct38 : Value} {f38 : Addr}
    {od39 an39 : Option Addr} {sl39 : Array (Option Value)} {oc39 kV39 dc39 pm39 cd39 ct39 : Value} {f39 : Addr}
    {od40 an40 : Option Addr} {sl40 : Array (Option Value)} {oc40 kV40 dc40 pm40 cd40 ct40 : Value} {f40 : Addr}
    {od41 an41 : Option Addr} {sl41 : Array (Option Value)} {oc41 kV41 dc41 pm41 cd41 ct41 : Value} {f41 : Addr}
    {od42 an42 : Option Addr} {sl42 : Array (Option Value)} {oc42 kV42 dc42 pm42 cd42 ct42 : Value} {f42 : Addr}
    {od43 an43 : Option Addr} {sl43 : Array (Option Value)} {oc43 kV43 dc43 pm43 cd43 ct43 : Value} {f43 : Addr}
    {od44 an44 : Option Addr} {sl44 : Array (Option Value)} {oc44 kV44 dc44 pm44 cd44 ct44 : Value} {f44 : Addr}
    {od45 an45 : Option Addr} {sl45 : Array (Option Value)} {oc45 kV45 dc45 pm45 cd45 ct45 : Value} {f45 : Addr}
    {od46 an46 : Option Addr} {sl46 : Array (Option Value)} {oc46 kV46 dc46 pm46 cd46 ct46 : Value} {f46 : Addr}
    {od47 an47 : Option Addr} {sl47 : Array (Option Value)} {oc47 kV47 dc47 pm47 cd47 ct47 : Value} {f47 : Addr}
    {od48 an48 : Option Addr} {sl48 : Array (Option Value)} {oc48 kV48 dc48 pm48 cd48 ct48 : Value} {f48 : Addr}
    {od49 an49 : Option Addr} {sl49 : Array (Option Value)} {oc49 kV49 dc49 pm49 cd49 ct49 : Value} {f49 : Addr}
    {od50 an50 : Option Addr} {sl50 : Array (Option Value)} {oc50 kV50 dc50 pm50 cd50 ct50 : Value} {f50 : Addr}
    {od51 an51 : Option Addr} {sl51 : Array (Option Value)} {oc51 kV51 dc51 pm51 cd51 ct51 : Value} {f51 : Addr}
    {C_BadNumber : Addr} {C_TooMany : Addr} {C_RepeatedHour : Addr} {C_OtherHours : Addr} {C_OtherHouse : Addr} {C_WrongLength : Addr} {C_NoPlace : Addr} {C_BadName : Addr} {C_RepeatedName : Addr} {C_WatchError : Addr} {C_Lot : Addr} {C_House : Addr} {C_Beat : Addr} {C_Crew : Addr}
    {t_LONGEST_NAME : Tok} {t_MOST : Tok} {t_REST : Tok} {t_LETTERS : Tok}
    {nm_BadNumber q_BadNumber : Str} {N_BadNumber : Addr} {bs_BadNumber : List Value} {sn_BadNumber : List Str} {sub_BadNumber : List Value} {ab_BadNumber : Bool} {col_BadNumber : Option Bool} {dd_BadNumber : Option Addr} {m0_BadNumber m1_BadNumber m2_BadNumber m3_BadNumber m5_BadNumber : Option Value}
    {nm_TooMany q_TooMany : Str} {N_TooMany : Addr} {bs_TooMany : List Value} {sn_TooMany : List Str} {sub_TooMany : List Value} {ab_TooMany : Bool} {col_TooMany : Option Bool} {dd_TooMany : Option Addr} {m0_TooMany m1_TooMany m2_TooMany m3_TooMany m5_TooMany : Option Value}
    {nm_BadName q_BadName : Str} {N_BadName : Addr} {bs_BadName : List Value} {sn_BadName : List Str} {sub_BadName : List Value} {ab_BadName : Bool} {col_BadName : Option Bool} {dd_BadName : Option Addr} {m0_BadName m1_BadName m2_BadName m3_BadName m5_BadName : Option Value}
    {nm_RepeatedName q_RepeatedName : Str} {N_RepeatedName : Addr} {bs_RepeatedName : List Value} {sn_RepeatedName : List Str} {sub_RepeatedName : List Value} {ab_RepeatedName : Bool} {col_RepeatedName : Option Bool} {dd_RepeatedName : Option Addr} {m0_RepeatedName m1_RepeatedName m2_RepeatedName m3_RepeatedName m5_RepeatedName : Option Value}
    {nm_WrongLength q_WrongLength : Str} {N_WrongLength : Addr} {bs_WrongLength : List Value} {sn_WrongLength : List Str} {sub_WrongLength : List Value} {ab_WrongLength : Bool} {col_WrongLength : Option Bool} {dd_WrongLength : Option Addr} {m0_WrongLength m1_WrongLength m2_WrongLength m3_WrongLength m5_WrongLength : Option Value}
    {nm_RepeatedHour q_RepeatedHour : Str} {N_RepeatedHour : Addr} {bs_RepeatedHour : List Value} {sn_RepeatedHour : List Str} {sub_RepeatedHour : List Value} {ab_RepeatedHour : Bool} {col_RepeatedHour : Option Bool} {dd_RepeatedHour : Option Addr} {m0_RepeatedHour m1_RepeatedHour m2_RepeatedHour m3_RepeatedHour m5_RepeatedHour : Option Value}
    {tk_House_MOST_HOURS : Tok}
    {tk_House_MOST_GATES : Tok}
    {tk_House_MOST_CELLS : Tok}
    {tk_House_MOST_STAKE : Tok}
    {fo_Beat_lshift ro_Beat_lshift : Option Value}
    {cd_Beat : ClassData}
    {fo_Lot_lshift ro_Lot_lshift : Option Value}
    {tk_Lot_MOST : Tok}
    {fo_Crew_lshift ro_Crew_lshift : Option Value}
    {cd_Crew : ClassData}
    {p7 : Addr} {rest7 : List Value}
    (g_BadNumber : PySem.W.nsIn K mainGlobals "BadNumber" = some (some (.ref C_BadNumber)))
    (g_TooMany : PySem.W.nsIn K mainGlobals "TooMany" = some (some (.ref C_TooMany)))
    (g_RepeatedHour : PySem.W.nsIn K mainGlobals "RepeatedHour" = some (some (.ref C_RepeatedHour)))
    (g_OtherHours : PySem.W.nsIn K mainGlobals "OtherHours" = some (some (.ref C_OtherHours)))
    (g_OtherHouse : PySem.W.nsIn K mainGlobals "OtherHouse" = some (some (.ref C_OtherHouse)))
    (g_WrongLength : PySem.W.nsIn K mainGlobals "WrongLength" = some (some (.ref C_WrongLength)))
    (g_NoPlace : PySem.W.nsIn K mainGlobals "NoPlace" = some (some (.ref C_NoPlace)))
    (g_BadName : PySem.W.nsIn K mainGlobals "BadName" = some (some (.ref C_BadName)))
    (g_RepeatedName : PySem.W.nsIn K mainGlobals "RepeatedName" = some (some (.ref C_RepeatedName)))
    (g_WatchError : PySem.W.nsIn K mainGlobals "WatchError" = some (some (.ref C_WatchError)))
    (g_Lot : PySem.W.nsIn K mainGlobals "Lot" = some (some (.ref C_Lot)))
    (g_House : PySem.W.nsIn K mainGlobals "House" = some (some (.ref C_House)))
    (g_Beat : PySem.W.nsIn K mainGlobals "Beat" = some (some (.ref C_Beat)))
    (g_Crew : PySem.W.nsIn K mainGlobals "Crew" = some (some (.ref C_Crew)))
    (a0 : PySem.W.findIn K (.ref C_BadNumber) "__init__" = some (some (.ref f0)))
    (l0 : K.lookup f0 = some ⟨oc0, od0, .func (PySem.W.fnOf "__init__" "BadNumber.__init__" (defArgs s_BadNumber_init) (defBody s_BadNumber_init) (defScope s_BadNumber_init) .none kV0 dc0 pm0 an0 cd0 ct0), sl0⟩)
    (c0 : PySem.W.codeIn K cd0 "BadNumber.__init__" = true)
    (k0 : PySem.W.keepIn K (.ref f0) = true)
    (a1 : PySem.W.findIn K (.ref C_TooMany) "__init__" = some (some (.ref f1)))
    (l1 : K.lookup f1 = some ⟨oc1, od1, .func (PySem.W.fnOf "__init__" "TooMany.__init__" (defArgs s_TooMany_init) (defBody s_TooMany_init) (defScope s_TooMany_init) .none kV1 dc1 pm1 an1 cd1 ct1), sl1⟩)
    (c1 : PySem.W.codeIn K cd1 "TooMany.__init__" = true)
    (k1 : PySem.W.keepIn K (.ref f1) = true)
    (a2 : PySem.W.findIn K (.ref C_RepeatedHour) "__init__" = some (some (.ref f2)))
    (l2 : K.lookup f2 = some ⟨oc2, od2, .func (PySem.W.fnOf "__init__" "RepeatedHour.__init__" (defArgs s_RepeatedHour_init) (defBody s_RepeatedHour_init) (defScope s_RepeatedHour_init) .none kV2 dc2 pm2 an2 cd2 ct2), sl2⟩)
    (c2 : PySem.W.codeIn K cd2 "RepeatedHour.__init__" = true)
    (k2 : PySem.W.keepIn K (.ref f2) = true)
    (a3 : PySem.W.findIn K (.ref C_WrongLength) "__init__" = some (some (.ref f3)))
    (l3 : K.lookup f3 = some ⟨oc3, od3, .func (PySem.W.fnOf "__init__" "WrongLength.__init__" (defArgs s_WrongLength_init) (defBody s_WrongLength_init) (defScope s_WrongLength_init) .none kV3 dc3 pm3 an3 cd3 ct3), sl3⟩)
    (c3 : PySem.W.codeIn K cd3 "WrongLength.__init__" = true)
    (k3 : PySem.W.keepIn K (.ref f3) = true)
    (a4 : PySem.W.findIn K (.ref C_BadName) "__init__" = some (some (.ref f4)))
    (l4 : K.lookup f4 = some ⟨oc4, od4, .func (PySem.W.fnOf "__init__" "BadName.__init__" (defArgs s_BadName_init) (defBody s_BadName_init) (defScope s_BadName_init) .none kV4 dc4 pm4 an4 cd4 ct4), sl4⟩)
    (c4 : PySem.W.codeIn K cd4 "BadName.__init__" = true)
    (k4 : PySem.W.keepIn K (.ref f4) = true)
    (a5 : PySem.W.findIn K (.ref C_RepeatedName) "__init__" = some (some (.ref f5)))
    (l5 : K.lookup f5 = some ⟨oc5, od5, .func (PySem.W.fnOf "__init__" "RepeatedName.__init__" (defArgs s_RepeatedName_init) (defBody s_RepeatedName_init) (defScope s_RepeatedName_init) .none kV5 dc5 pm5 an5 cd5 ct5), sl5⟩)
    (c5 : PySem.W.codeIn K cd5 "RepeatedName.__init__" = true)
    (k5 : PySem.W.keepIn K (.ref f5) = true)
    (a6 : PySem.W.findIn K (.ref C_Lot) "__init__" = some (some (.ref f6)))
    (l6 : K.lookup f6 = some ⟨oc6, od6, .func (PySem.W.fnOf "__init__" "Lot.__init__" (defArgs s_Lot_init) (defBody s_Lot_init) (defScope s_Lot_init) .none kV6 dc6 pm6 an6 cd6 ct6), sl6⟩)
    (c6 : PySem.W.codeIn K cd6 "Lot.__init__" = true)
    (k6 : PySem.W.keepIn K (.ref f6) = true)
    (pa_7 : PySem.W.findIn K (.ref C_Lot) "members" = some (some (.ref p7)))
    (a7 : PySem.W.recIn K p7 "property" = some (.ref f7 :: rest7))
    (l7 : K.lookup f7 = some ⟨oc7, od7, .func (PySem.W.fnOf "members" "Lot.members" (defArgs s_Lot_members) (defBody s_Lot_members) (defScope s_Lot_members) .none kV7 dc7 pm7 an7 cd7 ct7), sl7⟩)
    (c7 : PySem.W.codeIn K cd7 "Lot.members" = true)
    (k7 : PySem.W.keepIn K (.ref f7) = true)
    (a8 : PySem.W.findIn K (.ref C_Lot) "__len__" = some (some (.ref f8)))
    (l8 : K.lookup f8 = some ⟨oc8, od8, .func (PySem.W.fnOf "__len__" "Lot.__len__" (defArgs s_Lot_len) (defBody s_Lot_len) (defScope s_Lot_len) .none kV8 dc8 pm8 an8 cd8 ct8), sl8⟩)
    (c8 : PySem.W.codeIn K cd8 "Lot.__len__" = true)
    (k8 : PySem.W.keepIn K (.ref f8) = true)
    (a9 : PySem.W.findIn K (.ref C_Lot) "__iter__" = some (some (.ref f9)))
    (l9 : K.lookup f9 = some ⟨oc9, od9, .func (PySem.W.fnOf "__iter__" "Lot.__iter__" (defArgs s_Lot_iter) (defBody s_Lot_iter) (defScope s_Lot_iter) .none kV9 dc9 pm9 an9 cd9 ct9), sl9⟩)
    (c9 : PySem.W.codeIn K cd9 "Lot.__iter__" = true)
    (k9 : PySem.W.keepIn K (.ref f9) = true)
    (a10 : PySem.W.findIn K (.ref C_Lot) "__contains__" = some (some (.ref f10)))
    (l10 : K.lookup f10 = some ⟨oc10, od10, .func (PySem.W.fnOf "__contains__" "Lot.__contains__" (defArgs s_Lot_contains) (defBody s_Lot_contains) (defScope s_Lot_contains) .none kV10 dc10 pm10 an10 cd10 ct10), sl10⟩)
    (c10 : PySem.W.codeIn K cd10 "Lot.__contains__" = true)
    (k10 : PySem.W.keepIn K (.ref f10) = true)
    (a11 : PySem.W.findIn K (.ref C_Lot) "__eq__" = some (some (.ref f11)))
    (l11 : K.lookup f11 = some ⟨oc11, od11, .func (PySem.W.fnOf "__eq__" "Lot.__eq__" (defArgs s_Lot_eq) (defBody s_Lot_eq) (defScope s_Lot_eq) .none kV11 dc11 pm11 an11 cd11 ct11), sl11⟩)
    (c11 : PySem.W.codeIn K cd11 "Lot.__eq__" = true)
    (k11 : PySem.W.keepIn K (.ref f11) = true)
    (a12 : PySem.W.findIn K (.ref C_Lot) "__lshift__" = some (some (.ref f12)))
    (l12 : K.lookup f12 = some ⟨oc12, od12, .func (PySem.W.fnOf "__lshift__" "Lot.__lshift__" (defArgs s_Lot_lshift) (defBody s_Lot_lshift) (defScope s_Lot_lshift) .none kV12 dc12 pm12 an12 cd12 ct12), sl12⟩)
    (c12 : PySem.W.codeIn K cd12 "Lot.__lshift__" = true)
    (k12 : PySem.W.keepIn K (.ref f12) = true)
    (a13 : PySem.W.findIn K (.ref C_Lot) "__neg__" = some (some (.ref f13)))
    (l13 : K.lookup f13 = some ⟨oc13, od13, .func (PySem.W.fnOf "__neg__" "Lot.__neg__" (defArgs s_Lot_neg) (defBody s_Lot_neg) (defScope s_Lot_neg) .none kV13 dc13 pm13 an13 cd13 ct13), sl13⟩)
    (c13 : PySem.W.codeIn K cd13 "Lot.__neg__" = true)
    (k13 : PySem.W.keepIn K (.ref f13) = true)
    (a14 : PySem.W.findIn K (.ref C_Lot) "__invert__" = some (some (.ref f14)))
    (l14 : K.lookup f14 = some ⟨oc14, od14, .func (PySem.W.fnOf "__invert__" "Lot.__invert__" (defArgs s_Lot_invert) (defBody s_Lot_invert) (defScope s_Lot_invert) .none kV14 dc14 pm14 an14 cd14 ct14), sl14⟩)
    (c14 : PySem.W.codeIn K cd14 "Lot.__invert__" = true)
    (k14 : PySem.W.keepIn K (.ref f14) = true)
    (a15 : PySem.W.nsIn K mainGlobals "check_name" = some (some (.ref f15)))
    (l15 : K.lookup f15 = some ⟨oc15, od15, .func (PySem.W.fnOf "check_name" "check_name" (defArgs s_check_name) (defBody s_check_name) (defScope s_check_name) .none kV15 dc15 pm15 an15 cd15 ct15), sl15⟩)
    (c15 : PySem.W.codeIn K cd15 "check_name" = true)
    (k15 : PySem.W.keepIn K (.ref f15) = true)
    (a16 : PySem.W.nsIn K mainGlobals "check_new_name" = some (some (.ref f16)))
    (l16 : K.lookup f16 = some ⟨oc16, od16, .func (PySem.W.fnOf "check_new_name" "check_new_name" (defArgs s_check_new_name) (defBody s_check_new_name) (defScope s_check_new_name) .none kV16 dc16 pm16 an16 cd16 ct16), sl16⟩)
    (c16 : PySem.W.codeIn K cd16 "check_new_name" = true)
    (k16 : PySem.W.keepIn K (.ref f16) = true)
    (a17 : PySem.W.findIn K (.ref C_House) "__init__" = some (some (.ref f17)))
    (l17 : K.lookup f17 = some ⟨oc17, od17, .func (PySem.W.fnOf "__init__" "House.__init__" (defArgs s_House_init) (defBody s_House_init) (defScope s_House_init) .none kV17 dc17 pm17 an17 cd17 ct17), sl17⟩)
    (c17 : PySem.W.codeIn K cd17 "House.__init__" = true)
    (k17 : PySem.W.keepIn K (.ref f17) = true)
    (a18 : PySem.W.findIn K (.ref C_House) "__len__" = some (some (.ref f18)))
    (l18 : K.lookup f18 = some ⟨oc18, od18, .func (PySem.W.fnOf "__len__" "House.__len__" (defArgs s_House_len) (defBody s_House_len) (defScope s_House_len) .none kV18 dc18 pm18 an18 cd18 ct18), sl18⟩)
    (c18 : PySem.W.codeIn K cd18 "House.__len__" = true)
    (k18 : PySem.W.keepIn K (.ref f18) = true)
    (a19 : PySem.W.findIn K (.ref C_House) "__eq__" = some (some (.ref f19)))
    (l19 : K.lookup f19 = some ⟨oc19, od19, .func (PySem.W.fnOf "__eq__" "House.__eq__" (defArgs s_House_eq) (defBody s_House_eq) (defScope s_House_eq) .none kV19 dc19 pm19 an19 cd19 ct19), sl19⟩)
    (c19 : PySem.W.codeIn K cd19 "House.__eq__" = true)
    (k19 : PySem.W.keepIn K (.ref f19) = true)
    (a20 : PySem.W.nsIn K mainGlobals "is_gate" = some (some (.ref f20)))
    (l20 : K.lookup f20 = some ⟨oc20, od20, .func (PySem.W.fnOf "is_gate" "is_gate" (defArgs s_is_gate) (defBody s_is_gate) (defScope s_is_gate) .none kV20 dc20 pm20 an20 cd20 ct20), sl20⟩)
    (c20 : PySem.W.codeIn K cd20 "is_gate" = true)
    (k20 : PySem.W.keepIn K (.ref f20) = true)
    (a21 : PySem.W.findIn K (.ref C_Beat) "__init__" = some (some (.ref f21)))
    (l21 : K.lookup f21 = some ⟨oc21, od21, .func (PySem.W.fnOf "__init__" "Beat.__init__" (defArgs s_Beat_init) (defBody s_Beat_init) (defScope s_Beat_init) .none kV21 dc21 pm21 an21 cd21 ct21), sl21⟩)
    (c21 : PySem.W.codeIn K cd21 "Beat.__init__" = true)
    (k21 : PySem.W.keepIn K (.ref f21) = true)
    (a22 : PySem.W.findIn K (.ref C_Beat) "lot" = some (some (.ref f22)))
    (l22 : K.lookup f22 = some ⟨oc22, od22, .func (PySem.W.fnOf "lot" "Beat.lot" (defArgs s_Beat_lot) (defBody s_Beat_lot) (defScope s_Beat_lot) .none kV22 dc22 pm22 an22 cd22 ct22), sl22⟩)
    (c22 : PySem.W.codeIn K cd22 "Beat.lot" = true)
    (k22 : PySem.W.keepIn K (.ref f22) = true)
    (a23 : PySem.W.findIn K (.ref C_Beat) "__getitem__" = some (some (.ref f23)))
    (l23 : K.lookup f23 = some ⟨oc23, od23, .func (PySem.W.fnOf "__getitem__" "Beat.__getitem__" (defArgs s_Beat_getitem) (defBody s_Beat_getitem) (defScope s_Beat_getitem) .none kV23 dc23 pm23 an23 cd23 ct23), sl23⟩)
    (c23 : PySem.W.codeIn K cd23 "Beat.__getitem__" = true)
    (k23 : PySem.W.keepIn K (.ref f23) = true)
    (a24 : PySem.W.findIn K (.ref C_Beat) "__eq__" = some (some (.ref f24)))
    (l24 : K.lookup f24 = some ⟨oc24, od24, .func (PySem.W.fnOf "__eq__" "Beat.__eq__" (defArgs s_Beat_eq) (defBody s_Beat_eq) (defScope s_Beat_eq) .none kV24 dc24 pm24 an24 cd24 ct24), sl24⟩)
    (c24 : PySem.W.codeIn K cd24 "Beat.__eq__" = true)
    (k24 : PySem.W.keepIn K (.ref f24) = true)
    (a25 : PySem.W.findIn K (.ref C_Beat) "__lshift__" = some (some (.ref f25)))
    (l25 : K.lookup f25 = some ⟨oc25, od25, .func (PySem.W.fnOf "__lshift__" "Beat.__lshift__" (defArgs s_Beat_lshift) (defBody s_Beat_lshift) (defScope s_Beat_lshift) .none kV25 dc25 pm25 an25 cd25 ct25), sl25⟩)
    (c25 : PySem.W.codeIn K cd25 "Beat.__lshift__" = true)
    (k25 : PySem.W.keepIn K (.ref f25) = true)
    (a26 : PySem.W.nsIn K mainGlobals "meetings" = some (some (.ref f26)))
    (l26 : K.lookup f26 = some ⟨oc26, od26, .func (PySem.W.fnOf "meetings" "meetings" (defArgs s_meetings) (defBody s_meetings) (defScope s_meetings) .none kV26 dc26 pm26 an26 cd26 ct26), sl26⟩)
    (c26 : PySem.W.codeIn K cd26 "meetings" = true)
    (k26 : PySem.W.keepIn K (.ref f26) = true)
    (a27 : PySem.W.findIn K (.ref C_Crew) "__init__" = some (some (.ref f27)))
    (l27 : K.lookup f27 = some ⟨oc27, od27, .func (PySem.W.fnOf "__init__" "Crew.__init__" (defArgs s_Crew_init) (defBody s_Crew_init) (defScope s_Crew_init) .none kV27 dc27 pm27 an27 cd27 ct27), sl27⟩)
    (c27 : PySem.W.codeIn K cd27 "Crew.__init__" = true)
    (k27 : PySem.W.keepIn K (.ref f27) = true)
    (a28 : PySem.W.findIn K (.ref C_Crew) "row" = some (some (.ref f28)))
    (l28 : K.lookup f28 = some ⟨oc28, od28, .func (PySem.W.fnOf "row" "Crew.row" (defArgs s_Crew_row) (defBody s_Crew_row) (defScope s_Crew_row) .none kV28 dc28 pm28 an28 cd28 ct28), sl28⟩)
    (c28 : PySem.W.codeIn K cd28 "Crew.row" = true)
    (k28 : PySem.W.keepIn K (.ref f28) = true)
    (a29 : PySem.W.findIn K (.ref C_Crew) "working" = some (some (.ref f29)))
    (l29 : K.lookup f29 = some ⟨oc29, od29, .func (PySem.W.fnOf "working" "Crew.working" (defArgs s_Crew_working) (defBody s_Crew_working) (defScope s_Crew_working) .none kV29 dc29 pm29 an29 cd29 ct29), sl29⟩)
    (c29 : PySem.W.codeIn K cd29 "Crew.working" = true)
    (k29 : PySem.W.keepIn K (.ref f29) = true)
    (a30 : PySem.W.findIn K (.ref C_Crew) "__len__" = some (some (.ref f30)))
    (l30 : K.lookup f30 = some ⟨oc30, od30, .func (PySem.W.fnOf "__len__" "Crew.__len__" (defArgs s_Crew_len) (defBody s_Crew_len) (defScope s_Crew_len) .none kV30 dc30 pm30 an30 cd30 ct30), sl30⟩)
    (c30 : PySem.W.codeIn K cd30 "Crew.__len__" = true)
    (k30 : PySem.W.keepIn K (.ref f30) = true)
    (a31 : PySem.W.findIn K (.ref C_Crew) "__eq__" = some (some (.ref f31)))
    (l31 : K.lookup f31 = some ⟨oc31, od31, .func (PySem.W.fnOf "__eq__" "Crew.__eq__" (defArgs s_Crew_eq) (defBody s_Crew_eq) (defScope s_Crew_eq) .none kV31 dc31 pm31 an31 cd31 ct31), sl31⟩)
    (c31 : PySem.W.codeIn K cd31 "Crew.__eq__" = true)
    (k31 : PySem.W.keepIn K (.ref f31) = true)
    (a32 : PySem.W.findIn K (.ref C_Crew) "__lshift__" = some (some (.ref f32)))
    (l32 : K.lookup f32 = some ⟨oc32, od32, .func (PySem.W.fnOf "__lshift__" "Crew.__lshift__" (defArgs s_Crew_lshift) (defBody s_Crew_lshift) (defScope s_Crew_lshift) .none kV32 dc32 pm32 an32 cd32 ct32), sl32⟩)
    (c32 : PySem.W.codeIn K cd32 "Crew.__lshift__" = true)
    (k32 : PySem.W.keepIn K (.ref f32) = true)
    (a33 : PySem.W.nsIn K mainGlobals "_law_cell" = some (some (.ref f33)))
    (l33 : K.lookup f33 = some ⟨oc33, od33, .func (PySem.W.fnOf "_law_cell" "_law_cell" (defArgs s_u_law_cell) (defBody s_u_law_cell) (defScope s_u_law_cell) .none kV33 dc33 pm33 an33 cd33 ct33), sl33⟩)
    (c33 : PySem.W.codeIn K cd33 "_law_cell" = true)
    (k33 : PySem.W.keepIn K (.ref f33) = true)
    (a34 : PySem.W.nsIn K mainGlobals "_law_draws" = some (some (.ref f34)))
    (l34 : K.lookup f34 = some ⟨oc34, od34, .func (PySem.W.fnOf "_law_draws" "_law_draws" (defArgs s_u_law_draws) (defBody s_u_law_draws) (defScope s_u_law_draws) .none kV34 dc34 pm34 an34 cd34 ct34), sl34⟩)
    (c34 : PySem.W.codeIn K cd34 "_law_draws" = true)
    (k34 : PySem.W.keepIn K (.ref f34) = true)
    (a35 : PySem.W.nsIn K mainGlobals "_law_two" = some (some (.ref f35)))
    (l35 : K.lookup f35 = some ⟨oc35, od35, .func (PySem.W.fnOf "_law_two" "_law_two" (defArgs s_u_law_two) (defBody s_u_law_two) (defScope s_u_law_two) .none kV35 dc35 pm35 an35 cd35 ct35), sl35⟩)
    (c35 : PySem.W.codeIn K cd35 "_law_two" = true)
    (k35 : PySem.W.keepIn K (.ref f35) = true)
    (a36 : PySem.W.nsIn K mainGlobals "_law_bits" = some (some (.ref f36)))
    (l36 : K.lookup f36 = some ⟨oc36, od36, .func (PySem.W.fnOf "_law_bits" "_law_bits" (defArgs s_u_law_bits) (defBody s_u_law_bits) (defScope s_u_law_bits) .none kV36 dc36 pm36 an36 cd36 ct36), sl36⟩)
    (c36 : PySem.W.codeIn K cd36 "_law_bits" = true)
    (k36 : PySem.W.keepIn K (.ref f36) = true)
    (a37 : PySem.W.nsIn K mainGlobals "_law_is_int" = some (some (.ref f37)))
    (l37 : K.lookup f37 = some ⟨oc37, od37, .func (PySem.W.fnOf "_law_is_int" "_law_is_int" (defArgs s_u_law_is_int) (defBody s_u_law_is_int) (defScope s_u_law_is_int) .none kV37 dc37 pm37 an37 cd37 ct37), sl37⟩)
    (c37 : PySem.W.codeIn K cd37 "_law_is_int" = true)
    (k37 : PySem.W.keepIn K (.ref f37) = true)
    (a38 : PySem.W.nsIn K mainGlobals "_law_same" = some (some (.ref f38)))
    (l38 : K.lookup f38 = some ⟨oc38, od38, .func (PySem.W.fnOf "_law_same" "_law_same" (defArgs s_u_law_same) (defBody s_u_law_same) (defScope s_u_law_same) .none kV38 dc38 pm38 an38 cd38 ct38), sl38⟩)
    (c38 : PySem.W.codeIn K cd38 "_law_same" = true)
    (k38 : PySem.W.keepIn K (.ref f38) = true)
    (a39 : PySem.W.nsIn K mainGlobals "_law_name" = some (some (.ref f39)))
    (l39 : K.lookup f39 = some ⟨oc39, od39, .func (PySem.W.fnOf "_law_name" "_law_name" (defArgs s_u_law_name) (defBody s_u_law_name) (defScope s_u_law_name) .none kV39 dc39 pm39 an39 cd39 ct39), sl39⟩)
    (c39 : PySem.W.codeIn K cd39 "_law_name" = true)
    (k39 : PySem.W.keepIn K (.ref f39) = true)
    (a40 : PySem.W.nsIn K mainGlobals "_law_names" = some (some (.ref f40)))
    (l40 : K.lookup f40 = some ⟨oc40, od40, .func (PySem.W.fnOf "_law_names" "_law_names" (defArgs s_u_law_names) (defBody s_u_law_names) (defScope s_u_law_names) .none kV40 dc40 pm40 an40 cd40 ct40), sl40⟩)
    (c40 : PySem.W.codeIn K cd40 "_law_names" = true)
    (k40 : PySem.W.keepIn K (.ref f40) = true)
    (a41 : PySem.W.nsIn K mainGlobals "_law_gates" = some (some (.ref f41)))
    (l41 : K.lookup f41 = some ⟨oc41, od41, .func (PySem.W.fnOf "_law_gates" "_law_gates" (defArgs s_u_law_gates) (defBody s_u_law_gates) (defScope s_u_law_gates) .none kV41 dc41 pm41 an41 cd41 ct41), sl41⟩)
    (c41 : PySem.W.codeIn K cd41 "_law_gates" = true)
    (k41 : PySem.W.keepIn K (.ref f41) = true)
    (a42 : PySem.W.nsIn K mainGlobals "_law_number" = some (some (.ref f42)))
    (l42 : K.lookup f42 = some ⟨oc42, od42, .func (PySem.W.fnOf "_law_number" "_law_number" (defArgs s_u_law_number) (defBody s_u_law_number) (defScope s_u_law_number) .none kV42 dc42 pm42 an42 cd42 ct42), sl42⟩)
    (c42 : PySem.W.codeIn K cd42 "_law_number" = true)
    (k42 : PySem.W.keepIn K (.ref f42) = true)
    (a43 : PySem.W.nsIn K mainGlobals "_law_walked" = some (some (.ref f43)))
    (l43 : K.lookup f43 = some ⟨oc43, od43, .func (PySem.W.fnOf "_law_walked" "_law_walked" (defArgs s_u_law_walked) (defBody s_u_law_walked) (defScope s_u_law_walked) .none kV43 dc43 pm43 an43 cd43 ct43), sl43⟩)
    (c43 : PySem.W.codeIn K cd43 "_law_walked" = true)
    (k43 : PySem.W.keepIn K (.ref f43) = true)
    (a44 : PySem.W.nsIn K mainGlobals "_law_no_row" = some (some (.ref f44)))
    (l44 : K.lookup f44 = some ⟨oc44, od44, .func (PySem.W.fnOf "_law_no_row" "_law_no_row" (defArgs s_u_law_no_row) (defBody s_u_law_no_row) (defScope s_u_law_no_row) .none kV44 dc44 pm44 an44 cd44 ct44), sl44⟩)
    (c44 : PySem.W.codeIn K cd44 "_law_no_row" = true)
    (k44 : PySem.W.keepIn K (.ref f44) = true)
    (a45 : PySem.W.nsIn K mainGlobals "_law_works" = some (some (.ref f45)))
    (l45 : K.lookup f45 = some ⟨oc45, od45, .func (PySem.W.fnOf "_law_works" "_law_works" (defArgs s_u_law_works) (defBody s_u_law_works) (defScope s_u_law_works) .none kV45 dc45 pm45 an45 cd45 ct45), sl45⟩)
    (c45 : PySem.W.codeIn K cd45 "_law_works" = true)
    (k45 : PySem.W.keepIn K (.ref f45) = true)
    (a46 : PySem.W.nsIn K mainGlobals "_law_shows" = some (some (.ref f46)))
    (l46 : K.lookup f46 = some ⟨oc46, od46, .func (PySem.W.fnOf "_law_shows" "_law_shows" (defArgs s_u_law_shows) (defBody s_u_law_shows) (defScope s_u_law_shows) .none kV46 dc46 pm46 an46 cd46 ct46), sl46⟩)
    (c46 : PySem.W.codeIn K cd46 "_law_shows" = true)
    (k46 : PySem.W.keepIn K (.ref f46) = true)
    (a47 : PySem.W.nsIn K mainGlobals "_law_other_ring" = some (some (.ref f47)))
    (l47 : K.lookup f47 = some ⟨oc47, od47, .func (PySem.W.fnOf "_law_other_ring" "_law_other_ring" (defArgs s_u_law_other_ring) (defBody s_u_law_other_ring) (defScope s_u_law_other_ring) .none kV47 dc47 pm47 an47 cd47 ct47), sl47⟩)
    (c47 : PySem.W.codeIn K cd47 "_law_other_ring" = true)
    (k47 : PySem.W.keepIn K (.ref f47) = true)
    (a48 : PySem.W.nsIn K mainGlobals "_law_great" = some (some (.ref f48)))
    (l48 : K.lookup f48 = some ⟨oc48, od48, .func (PySem.W.fnOf "_law_great" "_law_great" (defArgs s_u_law_great) (defBody s_u_law_great) (defScope s_u_law_great) .none kV48 dc48 pm48 an48 cd48 ct48), sl48⟩)
    (c48 : PySem.W.codeIn K cd48 "_law_great" = true)
    (k48 : PySem.W.keepIn K (.ref f48) = true)
    (a49 : PySem.W.nsIn K mainGlobals "_law_unlike" = some (some (.ref f49)))
    (l49 : K.lookup f49 = some ⟨oc49, od49, .func (PySem.W.fnOf "_law_unlike" "_law_unlike" (defArgs s_u_law_unlike) (defBody s_u_law_unlike) (defScope s_u_law_unlike) .none kV49 dc49 pm49 an49 cd49 ct49), sl49⟩)
    (c49 : PySem.W.codeIn K cd49 "_law_unlike" = true)
    (k49 : PySem.W.keepIn K (.ref f49) = true)
    (a50 : PySem.W.nsIn K mainGlobals "_law_grown" = some (some (.ref f50)))
    (l50 : K.lookup f50 = some ⟨oc50, od50, .func (PySem.W.fnOf "_law_grown" "_law_grown" (defArgs s_u_law_grown) (defBody s_u_law_grown) (defScope s_u_law_grown) .none kV50 dc50 pm50 an50 cd50 ct50), sl50⟩)
    (c50 : PySem.W.codeIn K cd50 "_law_grown" = true)
    (k50 : PySem.W.keepIn K (.ref f50) = true)
    (a51 : PySem.W.nsIn K mainGlobals "law" = some (some (.ref f51)))
    (l51 : K.lookup f51 = some ⟨oc51, od51, .func (PySem.W.fnOf "law" "law" (defArgs s_law) (defBody s_law) (defScope s_law) .none kV51 dc51 pm51 an51 cd51 ct51), sl51⟩)
    (c51 : PySem.W.codeIn K cd51 "law" = true)
    (k51 : PySem.W.keepIn K (.ref f51) = true)
    (kc_LONGEST_NAME : PySem.W.nsIn K mainGlobals "_LONGEST_NAME" = some (some (.int 8 t_LONGEST_NAME)))
    (kc_MOST : PySem.W.nsIn K mainGlobals "_MOST" = some (some (.int 360 t_MOST)))
    (kc_REST : PySem.W.nsIn K mainGlobals "REST" = some (some (.int (-1) t_REST)))
    (kc_LETTERS : PySem.W.nsIn K mainGlobals "_LETTERS" = some (some (.str "abcdefghijklmnopqrstuvwxyz" t_LETTERS)))
    (z_abs : PySem.W.nsIn K mainGlobals "abs" = some none)
    (z_len : PySem.W.nsIn K mainGlobals "len" = some none)
    (z_int : PySem.W.nsIn K mainGlobals "int" = some none)
    (z_bool : PySem.W.nsIn K mainGlobals "bool" = some none)
    (z_str : PySem.W.nsIn K mainGlobals "str" = some none)
    (z_list : PySem.W.nsIn K mainGlobals "list" = some none)
    (z_tuple : PySem.W.nsIn K mainGlobals "tuple" = some none)
    (z_isinstance : PySem.W.nsIn K mainGlobals "isinstance" = some none)
    (z_range : PySem.W.nsIn K mainGlobals "range" = some none)
    (z_ValueError : PySem.W.nsIn K mainGlobals "ValueError" = some none)
    (z_min : PySem.W.nsIn K mainGlobals "min" = some none)
    (z_max : PySem.W.nsIn K mainGlobals "max" = some none)
    (z_enumerate : PySem.W.nsIn K mainGlobals "enumerate" = some none)
    (z_zip : PySem.W.nsIn K mainGlobals "zip" = some none)
    (z_iter : PySem.W.nsIn K mainGlobals "iter" = some none)
    (hdB : PySem.W.hasDictIn K C_Beat = true)
    (tyB : PySem.W.typeIn K (.ref C_Beat) = some (.type "type"))
    (meC_Beat : PySem.W.subIn K (.ref C_Beat) (.ref C_Beat) = some true)
    (si_tuple : PySem.W.subIn K (.type "tuple") (.ref C_Beat) = some false)
    (hdW : PySem.W.hasDictIn K C_Crew = true)
    (tyW : PySem.W.typeIn K (.ref C_Crew) = some (.type "type"))
    (meC_Crew : PySem.W.subIn K (.ref C_Crew) (.ref C_Crew) = some true)
    (siBW : PySem.W.subIn K (.ref C_Beat) (.ref C_Crew) = some false)
    (exC_BadNumber : PySem.W.subIn K (.ref C_BadNumber) (.type "BaseException") = some true)
    (hdC_BadNumber : PySem.W.hasDictIn K C_BadNumber = true)
    (tyC_BadNumber : PySem.W.typeIn K (.ref C_BadNumber) = some (.type "type"))
    (meC_BadNumber : PySem.W.subIn K (.ref C_BadNumber) (.ref C_BadNumber) = some true)
    (xL_BadNumber : K.lookup C_BadNumber = some (excClassObj nm_BadNumber q_BadNumber C_BadNumber N_BadNumber bs_BadNumber [.ref C_WatchError, .type "ValueError", .type "Exception", .type "BaseException", .type "object"] true sn_BadNumber sub_BadNumber ab_BadNumber col_BadNumber dd_BadNumber m0_BadNumber m1_BadNumber m2_BadNumber m3_BadNumber m5_BadNumber "ValueError.__new__"))
    (sa_BadNumber : PySem.W.findIn K (.ref C_BadNumber) "__setattr__" = some (some (.builtin "object.__setattr__")))
    (kC_BadNumber : PySem.W.keepIn K (.ref C_BadNumber) = true)
    (ti_BadNumber : PySem.W.typeIn K (.ref f0) = some (.type "function"))
    (ga_BadNumber : PySem.W.findIn K (.ref C_BadNumber) "__getattribute__" = some (some (.builtin "BaseException.__getattribute__")))
    (gg_BadNumber : PySem.W.findIn K (.ref C_BadNumber) "__getattr__" = some none)
    (ha_BadNumber : PySem.W.findIn K (.ref C_BadNumber) "__class__" = some (some (.builtin "object.__class__")))
    (hn_ : PySem.W.specialIn K (.builtin "object.__class__") "__get__" = some (some (.builtin "getset_descriptor.__get__")))
    (ht_ : PySem.W.takesIn K (.builtin "object.__class__") = some true)
    (hm_BadNumber : PySem.W.mroIn K C_BadNumber (.type "object") = some true)
    (nf_BadNumber_name : PySem.W.findIn K (.ref C_BadNumber) "name" = some none)
    (nf_BadNumber_value : PySem.W.findIn K (.ref C_BadNumber) "value" = some none)
    (exC_TooMany : PySem.W.subIn K (.ref C_TooMany) (.type "BaseException") = some true)
    (hdC_TooMany : PySem.W.hasDictIn K C_TooMany = true)
    (tyC_TooMany : PySem.W.typeIn K (.ref C_TooMany) = some (.type "type"))
    (meC_TooMany : PySem.W.subIn K (.ref C_TooMany) (.ref C_TooMany) = some true)
    (xL_TooMany : K.lookup C_TooMany = some (excClassObj nm_TooMany q_TooMany C_TooMany N_TooMany bs_TooMany [.ref C_WatchError, .type "ValueError", .type "Exception", .type "BaseException", .type "object"] true sn_TooMany sub_TooMany ab_TooMany col_TooMany dd_TooMany m0_TooMany m1_TooMany m2_TooMany m3_TooMany m5_TooMany "ValueError.__new__"))
    (sa_TooMany : PySem.W.findIn K (.ref C_TooMany) "__setattr__" = some (some (.builtin "object.__setattr__")))
    (kC_TooMany : PySem.W.keepIn K (.ref C_TooMany) = true)
    (ti_TooMany : PySem.W.typeIn K (.ref f1) = some (.type "function"))
    (ga_TooMany : PySem.W.findIn K (.ref C_TooMany) "__getattribute__" = some (some (.builtin "BaseException.__getattribute__")))
    (gg_TooMany : PySem.W.findIn K (.ref C_TooMany) "__getattr__" = some none)
    (ha_TooMany : PySem.W.findIn K (.ref C_TooMany) "__class__" = some (some (.builtin "object.__class__")))
    (hm_TooMany : PySem.W.mroIn K C_TooMany (.type "object") = some true)
    (nf_TooMany_name : PySem.W.findIn K (.ref C_TooMany) "name" = some none)
    (nf_TooMany_most : PySem.W.findIn K (.ref C_TooMany) "most" = some none)
    (exC_BadName : PySem.W.subIn K (.ref C_BadName) (.type "BaseException") = some true)
    (hdC_BadName : PySem.W.hasDictIn K C_BadName = true)
    (tyC_BadName : PySem.W.typeIn K (.ref C_BadName) = some (.type "type"))
    (meC_BadName : PySem.W.subIn K (.ref C_BadName) (.ref C_BadName) = some true)
    (xL_BadName : K.lookup C_BadName = some (excClassObj nm_BadName q_BadName C_BadName N_BadName bs_BadName [.ref C_WatchError, .type "ValueError", .type "Exception", .type "BaseException", .type "object"] true sn_BadName sub_BadName ab_BadName col_BadName dd_BadName m0_BadName m1_BadName m2_BadName m3_BadName m5_BadName "ValueError.__new__"))
    (sa_BadName : PySem.W.findIn K (.ref C_BadName) "__setattr__" = some (some (.builtin "object.__setattr__")))
    (kC_BadName : PySem.W.keepIn K (.ref C_BadName) = true)
    (ti_BadName : PySem.W.typeIn K (.ref f4) = some (.type "function"))
    (ga_BadName : PySem.W.findIn K (.ref C_BadName) "__getattribute__" = some (some (.builtin "BaseException.__getattribute__")))
    (gg_BadName : PySem.W.findIn K (.ref C_BadName) "__getattr__" = some none)
    (ha_BadName : PySem.W.findIn K (.ref C_BadName) "__class__" = some (some (.builtin "object.__class__")))
    (hm_BadName : PySem.W.mroIn K C_BadName (.type "object") = some true)
    (nf_BadName_name : PySem.W.findIn K (.ref C_BadName) "name" = some none)
    (exC_RepeatedName : PySem.W.subIn K (.ref C_RepeatedName) (.type "BaseException") = some true)
    (hdC_RepeatedName : PySem.W.hasDictIn K C_RepeatedName = true)
    (tyC_RepeatedName : PySem.W.typeIn K (.ref C_RepeatedName) = some (.type "type"))
    (meC_RepeatedName : PySem.W.subIn K (.ref C_RepeatedName) (.ref C_RepeatedName) = some true)
    (xL_RepeatedName : K.lookup C_RepeatedName = some (excClassObj nm_RepeatedName q_RepeatedName C_RepeatedName N_RepeatedName bs_RepeatedName [.ref C_WatchError, .type "ValueError", .type "Exception", .type "BaseException", .type "object"] true sn_RepeatedName sub_RepeatedName ab_RepeatedName col_RepeatedName dd_RepeatedName m0_RepeatedName m1_RepeatedName m2_RepeatedName m3_RepeatedName m5_RepeatedName "ValueError.__new__"))
    (sa_RepeatedName : PySem.W.findIn K (.ref C_RepeatedName) "__setattr__" = some (some (.builtin "object.__setattr__")))
    (kC_RepeatedName : PySem.W.keepIn K (.ref C_RepeatedName) = true)
    (ti_RepeatedName : PySem.W.typeIn K (.ref f5) = some (.type "function"))
    (ga_RepeatedName : PySem.W.findIn K (.ref C_RepeatedName) "__getattribute__" = some (some (.builtin "BaseException.__getattribute__")))
    (gg_RepeatedName : PySem.W.findIn K (.ref C_RepeatedName) "__getattr__" = some none)
    (ha_RepeatedName : PySem.W.findIn K (.ref C_RepeatedName) "__class__" = some (some (.builtin "object.__class__")))
    (hm_RepeatedName : PySem.W.mroIn K C_RepeatedName (.type "object") = some true)
    (nf_RepeatedName_name : PySem.W.findIn K (.ref C_RepeatedName) "name" = some none)
    (exC_WrongLength : PySem.W.subIn K (.ref C_WrongLength) (.type "BaseException") = some true)
    (hdC_WrongLength : PySem.W.hasDictIn K C_WrongLength = true)
    (tyC_WrongLength : PySem.W.typeIn K (.ref C_WrongLength) = some (.type "type"))
    (meC_WrongLength : PySem.W.subIn K (.ref C_WrongLength) (.ref C_WrongLength) = some true)
    (xL_WrongLength : K.lookup C_WrongLength = some (excClassObj nm_WrongLength q_WrongLength C_WrongLength N_WrongLength bs_WrongLength [.ref C_WatchError, .type "ValueError", .type "Exception", .type "BaseException", .type "object"] true sn_WrongLength sub_WrongLength ab_WrongLength col_WrongLength dd_WrongLength m0_WrongLength m1_WrongLength m2_WrongLength m3_WrongLength m5_WrongLength "ValueError.__new__"))
    (sa_WrongLength : PySem.W.findIn K (.ref C_WrongLength) "__setattr__" = some (some (.builtin "object.__setattr__")))
    (kC_WrongLength : PySem.W.keepIn K (.ref C_WrongLength) = true)
    (ti_WrongLength : PySem.W.typeIn K (.ref f3) = some (.type "function"))
    (ga_WrongLength : PySem.W.findIn K (.ref C_WrongLength) "__getattribute__" = some (some (.builtin "BaseException.__getattribute__")))
    (gg_WrongLength : PySem.W.findIn K (.ref C_WrongLength) "__getattr__" = some none)
    (ha_WrongLength : PySem.W.findIn K (.ref C_WrongLength) "__class__" = some (some (.builtin "object.__class__")))
    (hm_WrongLength : PySem.W.mroIn K C_WrongLength (.type "object") = some true)
    (nf_WrongLength_length : PySem.W.findIn K (.ref C_WrongLength) "length" = some none)
    (exC_RepeatedHour : PySem.W.subIn K (.ref C_RepeatedHour) (.type "BaseException") = some true)
    (hdC_RepeatedHour : PySem.W.hasDictIn K C_RepeatedHour = true)
    (tyC_RepeatedHour : PySem.W.typeIn K (.ref C_RepeatedHour) = some (.type "type"))
    (meC_RepeatedHour : PySem.W.subIn K (.ref C_RepeatedHour) (.ref C_RepeatedHour) = some true)
    (xL_RepeatedHour : K.lookup C_RepeatedHour = some (excClassObj nm_RepeatedHour q_RepeatedHour C_RepeatedHour N_RepeatedHour bs_RepeatedHour [.ref C_WatchError, .type "ValueError", .type "Exception", .type "BaseException", .type "object"] true sn_RepeatedHour sub_RepeatedHour ab_RepeatedHour col_RepeatedHour dd_RepeatedHour m0_RepeatedHour m1_RepeatedHour m2_RepeatedHour m3_RepeatedHour m5_RepeatedHour "ValueError.__new__"))
    (sa_RepeatedHour : PySem.W.findIn K (.ref C_RepeatedHour) "__setattr__" = some (some (.builtin "object.__setattr__")))
    (kC_RepeatedHour : PySem.W.keepIn K (.ref C_RepeatedHour) = true)
    (ti_RepeatedHour : PySem.W.typeIn K (.ref f2) = some (.type "function"))
    (ga_RepeatedHour : PySem.W.findIn K (.ref C_RepeatedHour) "__getattribute__" = some (some (.builtin "BaseException.__getattribute__")))
    (gg_RepeatedHour : PySem.W.findIn K (.ref C_RepeatedHour) "__getattr__" = some none)
    (ha_RepeatedHour : PySem.W.findIn K (.ref C_RepeatedHour) "__class__" = some (some (.builtin "object.__class__")))
    (hm_RepeatedHour : PySem.W.mroIn K C_RepeatedHour (.type "object") = some true)
    (nf_RepeatedHour_hour : PySem.W.findIn K (.ref C_RepeatedHour) "hour" = some none)
    (exC_NoPlace : PySem.W.subIn K (.ref C_NoPlace) (.type "BaseException") = some true)
    (hdC_NoPlace : PySem.W.hasDictIn K C_NoPlace = true)
    (tyC_NoPlace : PySem.W.typeIn K (.ref C_NoPlace) = some (.type "type"))
    (meC_NoPlace : PySem.W.subIn K (.ref C_NoPlace) (.ref C_NoPlace) = some true)
    (xP_NoPlace : PySem.W.excIn K C_NoPlace [.type "ValueError", .type "Exception", .type "BaseException", .type "object"] "ValueError.__new__" = true)
    (kP_NoPlace : PySem.W.keepIn K (.ref C_NoPlace) = true)
    (ga_NoPlace : PySem.W.findIn K (.ref C_NoPlace) "__getattribute__" = some (some (.builtin "BaseException.__getattribute__")))
    (gg_NoPlace : PySem.W.findIn K (.ref C_NoPlace) "__getattr__" = some none)
    (ha_NoPlace : PySem.W.findIn K (.ref C_NoPlace) "__class__" = some (some (.builtin "object.__class__")))
    (hm_NoPlace : PySem.W.mroIn K C_NoPlace (.type "object") = some true)
    (exC_OtherHours : PySem.W.subIn K (.ref C_OtherHours) (.type "BaseException") = some true)
    (hdC_OtherHours : PySem.W.hasDictIn K C_OtherHours = true)
    (tyC_OtherHours : PySem.W.typeIn K (.ref C_OtherHours) = some (.type "type"))
    (meC_OtherHours : PySem.W.subIn K (.ref C_OtherHours) (.ref C_OtherHours) = some true)
    (xP_OtherHours : PySem.W.excIn K C_OtherHours [.type "ValueError", .type "Exception", .type "BaseException", .type "object"] "ValueError.__new__" = true)
    (kP_OtherHours : PySem.W.keepIn K (.ref C_OtherHours) = true)
    (ga_OtherHours : PySem.W.findIn K (.ref C_OtherHours) "__getattribute__" = some (some (.builtin "BaseException.__getattribute__")))
    (gg_OtherHours : PySem.W.findIn K (.ref C_OtherHours) "__getattr__" = some none)
    (ha_OtherHours : PySem.W.findIn K (.ref C_OtherHours) "__class__" = some (some (.builtin "object.__class__")))
    (hm_OtherHours : PySem.W.mroIn K C_OtherHours (.type "object") = some true)
    (exC_OtherHouse : PySem.W.subIn K (.ref C_OtherHouse) (.type "BaseException") = some true)
    (hdC_OtherHouse : PySem.W.hasDictIn K C_OtherHouse = true)
    (tyC_OtherHouse : PySem.W.typeIn K (.ref C_OtherHouse) = some (.type "type"))
    (meC_OtherHouse : PySem.W.subIn K (.ref C_OtherHouse) (.ref C_OtherHouse) = some true)
    (xP_OtherHouse : PySem.W.excIn K C_OtherHouse [.type "ValueError", .type "Exception", .type "BaseException", .type "object"] "ValueError.__new__" = true)
    (kP_OtherHouse : PySem.W.keepIn K (.ref C_OtherHouse) = true)
    (ga_OtherHouse : PySem.W.findIn K (.ref C_OtherHouse) "__getattribute__" = some (some (.builtin "BaseException.__getattribute__")))
    (gg_OtherHouse : PySem.W.findIn K (.ref C_OtherHouse) "__getattr__" = some none)
    (ha_OtherHouse : PySem.W.findIn K (.ref C_OtherHouse) "__class__" = some (some (.builtin "object.__class__")))
    (hm_OtherHouse : PySem.W.mroIn K C_OtherHouse (.type "object") = some true)
    (exC_WatchError : PySem.W.subIn K (.ref C_WatchError) (.type "BaseException") = some true)
    (hdC_WatchError : PySem.W.hasDictIn K C_WatchError = true)
    (tyC_WatchError : PySem.W.typeIn K (.ref C_WatchError) = some (.type "type"))
    (meC_WatchError : PySem.W.subIn K (.ref C_WatchError) (.ref C_WatchError) = some true)
    (sub_NoPlace_WatchError : PySem.W.subIn K (.ref C_NoPlace) (.ref C_WatchError) = some true)
    (sub_NoPlace_ValueError : PySem.W.subIn K (.ref C_NoPlace) (.type "ValueError") = some true)
    (sub_NoPlace_OtherHours : PySem.W.subIn K (.ref C_NoPlace) (.ref C_OtherHours) = some false)
    (sub_NoPlace_BadNumber : PySem.W.subIn K (.ref C_NoPlace) (.ref C_BadNumber) = some false)
    (sub_OtherHours_WatchError : PySem.W.subIn K (.ref C_OtherHours) (.ref C_WatchError) = some true)
    (sub_OtherHours_ValueError : PySem.W.subIn K (.ref C_OtherHours) (.type "ValueError") = some true)
    (sub_OtherHours_OtherHouse : PySem.W.subIn K (.ref C_OtherHours) (.ref C_OtherHouse) = some false)
    (sub_OtherHours_NoPlace : PySem.W.subIn K (.ref C_OtherHours) (.ref C_NoPlace) = some false)
    (pg_House : PySem.W.plainGet K C_House Str.empty = true)
    (hd_House : PySem.W.hasDictIn K C_House = true)
    (po_House : PySem.W.plainOver K C_House = true)
    (sa_House : PySem.W.findIn K (.ref C_House) "__setattr__" = some (some (.builtin "object.__setattr__")))
    (mk_House : PySem.W.makesIn K C_House = true)
    (kc_House : PySem.W.keepIn K (.ref C_House) = true)
    (if_17 : PySem.W.isFn K (.ref f17) = true)
    (na_House_hours : PySem.W.findIn K (.ref C_House) "hours" = some none)
    (na_House_names : PySem.W.findIn K (.ref C_House) "names" = some none)
    (na_House_stakes : PySem.W.findIn K (.ref C_House) "stakes" = some none)
    (ha_House : PySem.W.findIn K (.ref C_House) "__class__" = some (some (.builtin "object.__class__")))
    (hm_House : PySem.W.mroIn K C_House (.type "object") = some true)
    (rd_House : PySem.W.readsIn K C_House (.type "type") = true)
    (gt_House : PySem.W.specialIn K (.ref C_House) "__getattribute__" = some (some (.builtin "type.__getattribute__")))
    (cv_House_MOST_HOURS : PySem.W.findCls K (.ref C_House) (.type "type") "MOST_HOURS" = some (.val (.int 24 tk_House_MOST_HOURS)))
    (cv_House_MOST_GATES : PySem.W.findCls K (.ref C_House) (.type "type") "MOST_GATES" = some (.val (.int 4 tk_House_MOST_GATES)))
    (cv_House_MOST_CELLS : PySem.W.findCls K (.ref C_House) (.type "type") "MOST_CELLS" = some (.val (.int 48 tk_House_MOST_CELLS)))
    (cv_House_MOST_STAKE : PySem.W.findCls K (.ref C_House) (.type "type") "MOST_STAKE" = some (.val (.int 60 tk_House_MOST_STAKE)))
    (pg_Beat : PySem.W.plainGet K C_Beat Str.empty = true)
    (hd_Beat : PySem.W.hasDictIn K C_Beat = true)
    (po_Beat : PySem.W.plainOver K C_Beat = true)
    (sa_Beat : PySem.W.findIn K (.ref C_Beat) "__setattr__" = some (some (.builtin "object.__setattr__")))
    (mk_Beat : PySem.W.makesIn K C_Beat = true)
    (kc_Beat : PySem.W.keepIn K (.ref C_Beat) = true)
    (if_21 : PySem.W.isFn K (.ref f21) = true)
    (na_Beat_house : PySem.W.findIn K (.ref C_Beat) "house" = some none)
    (na_Beat_steps : PySem.W.findIn K (.ref C_Beat) "steps" = some none)
    (sf_Beat : PySem.W.selfFirst K C_Beat = true)
    (si_Beat : PySem.W.subIn K (.type "int") (.ref C_Beat) = some false)
    (dn_Beat_lshift : PySem.W.findIn K (.ref C_Beat) (PySem.dunder "lshift") = some (some (.ref f25)))
    (rc_Beat_lshift : PySem.W.findIn K (.ref C_Beat) (dunderR "lshift") = some none)
    (lo_Beat_lshift : PySem.W.findIn K (.type "int") (PySem.dunder "lshift") = some fo_Beat_lshift)
    (ro_Beat_lshift : PySem.W.findIn K (.type "int") (dunderR "lshift") = some ro_Beat_lshift)
    (ci_Beat : PySem.W.clsIn K C_Beat = some cd_Beat)
    (meC_mro_Beat : cd_Beat.mro = [.ref C_Beat, .type "object"])
    (ic_Beat_lshift : PySem.W.findIn K (.ref C_Beat) (dunderI "lshift") = some none)
    (io_lshift : PySem.W.findIn K (.type "object") (dunderI "lshift") = some none)
    (nn_Beat : PySem.W.findIn K (.ref C_Beat) "__ne__" = some (some (.builtin "object.__ne__")))
    (hm_Beat : PySem.W.mroIn K C_Beat (.type "object") = some true)
    (ha_Beat : PySem.W.findIn K (.ref C_Beat) "__class__" = some (some (.builtin "object.__class__")))
    (pg_Lot : PySem.W.plainGet K C_Lot Str.empty = true)
    (hd_Lot : PySem.W.hasDictIn K C_Lot = true)
    (po_Lot : PySem.W.plainOver K C_Lot = true)
    (sa_Lot : PySem.W.findIn K (.ref C_Lot) "__setattr__" = some (some (.builtin "object.__setattr__")))
    (mk_Lot : PySem.W.makesIn K C_Lot = true)
    (kc_Lot : PySem.W.keepIn K (.ref C_Lot) = true)
    (if_6 : PySem.W.isFn K (.ref f6) = true)
    (na_Lot_hours : PySem.W.findIn K (.ref C_Lot) "hours" = some none)
    (na_Lot_members : PySem.W.findIn K (.ref C_Lot) "_members" = some none)
    (sf_Lot : PySem.W.selfFirst K C_Lot = true)
    (si_Lot : PySem.W.subIn K (.type "int") (.ref C_Lot) = some false)
    (dn_Lot_lshift : PySem.W.findIn K (.ref C_Lot) (PySem.dunder "lshift") = some (some (.ref f12)))
    (rc_Lot_lshift : PySem.W.findIn K (.ref C_Lot) (dunderR "lshift") = some none)
    (lo_Lot_lshift : PySem.W.findIn K (.type "int") (PySem.dunder "lshift") = some fo_Lot_lshift)
    (ro_Lot_lshift : PySem.W.findIn K (.type "int") (dunderR "lshift") = some ro_Lot_lshift)
    (ha_Lot : PySem.W.findIn K (.ref C_Lot) "__class__" = some (some (.builtin "object.__class__")))
    (hm_Lot : PySem.W.mroIn K C_Lot (.type "object") = some true)
    (rd_Lot : PySem.W.readsIn K C_Lot (.type "type") = true)
    (gt_Lot : PySem.W.specialIn K (.ref C_Lot) "__getattribute__" = some (some (.builtin "type.__getattribute__")))
    (cv_Lot_MOST : PySem.W.findCls K (.ref C_Lot) (.type "type") "MOST" = some (.val (.int 360 tk_Lot_MOST)))
    (pg_Crew : PySem.W.plainGet K C_Crew Str.empty = true)
    (hd_Crew : PySem.W.hasDictIn K C_Crew = true)
    (po_Crew : PySem.W.plainOver K C_Crew = true)
    (sa_Crew : PySem.W.findIn K (.ref C_Crew) "__setattr__" = some (some (.builtin "object.__setattr__")))
    (mk_Crew : PySem.W.makesIn K C_Crew = true)
    (kc_Crew : PySem.W.keepIn K (.ref C_Crew) = true)
    (if_27 : PySem.W.isFn K (.ref f27) = true)
    (na_Crew_beat : PySem.W.findIn K (.ref C_Crew) "beat" = some none)
    (na_Crew_starts : PySem.W.findIn K (.ref C_Crew) "starts" = some none)
    (sf_Crew : PySem.W.selfFirst K C_Crew = true)
    (si_Crew : PySem.W.subIn K (.type "int") (.ref C_Crew) = some false)
    (dn_Crew_lshift : PySem.W.findIn K (.ref C_Crew) (PySem.dunder "lshift") = some (some (.ref f32)))
    (rc_Crew_lshift : PySem.W.findIn K (.ref C_Crew) (dunderR "lshift") = some none)
    (lo_Crew_lshift : PySem.W.findIn K (.type "int") (PySem.dunder "lshift") = some fo_Crew_lshift)
    (ro_Crew_lshift : PySem.W.findIn K (.type "int") (dunderR "lshift") = some ro_Crew_lshift)
    (ci_Crew : PySem.W.clsIn K C_Crew = some cd_Crew)
    (meC_mro_Crew : cd_Crew.mro = [.ref C_Crew, .type "object"])
    (ic_Crew_lshift : PySem.W.findIn K (.ref C_Crew) (dunderI "lshift") = some none)
    (nn_Crew : PySem.W.findIn K (.ref C_Crew) "__ne__" = some (some (.builtin "object.__ne__")))
    (hm_Crew : PySem.W.mroIn K C_Crew (.type "object") = some true)
    (ha_Crew : PySem.W.findIn K (.ref C_Crew) "__class__" = some (some (.builtin "object.__class__")))
    (pg_7 : PySem.W.specialIn K (.ref p7) "__get__" = some (some (.builtin "property.__get__")))
    (pt_7 : PySem.W.takesIn K (.ref p7) = some true)
    (if_8 : PySem.W.isFn K (.ref f8) = true)
    (if_9 : PySem.W.isFn K (.ref f9) = true)
    (if_10 : PySem.W.isFn K (.ref f10) = true)
    (if_11 : PySem.W.isFn K (.ref f11) = true)
    (if_12 : PySem.W.isFn K (.ref f12) = true)
    (if_13 : PySem.W.isFn K (.ref f13) = true)
    (if_14 : PySem.W.isFn K (.ref f14) = true)
    (if_18 : PySem.W.isFn K (.ref f18) = true)
    (if_19 : PySem.W.isFn K (.ref f19) = true)
    (if_22 : PySem.W.isFn K (.ref f22) = true)
    (if_23 : PySem.W.isFn K (.ref f23) = true)
    (fi_23 : PySem.W.fnIn K f23 = true)
    (if_24 : PySem.W.isFn K (.ref f24) = true)
    (if_25 : PySem.W.isFn K (.ref f25) = true)
    (if_28 : PySem.W.isFn K (.ref f28) = true)
    (if_29 : PySem.W.isFn K (.ref f29) = true)
    (if_30 : PySem.W.isFn K (.ref f30) = true)
    (if_31 : PySem.W.isFn K (.ref f31) = true)
    (if_32 : PySem.W.isFn K (.ref f32) = true)
    : ∃ fd : FuncData, (∀ (s : Shared) (v : Value), BindsTo s fd ⟨[v], []⟩ [("script", v)]) ∧ ∀ base : Heap, K.In base → base.Ns mainGlobals mg → FnOk l.prog w K mg base CX0 20 fa fd ["script"] ((spLaw K)) := by
  have e := hfa.symm.trans (PySem.W.mg_of X G a51)
  cases e
  let A : Ads := {
    f_BadNumber_init := f0,
    d_BadNumber_init := PySem.W.fnOf "__init__" "BadNumber.__init__" (defArgs s_BadNumber_init) (defBody s_BadNumber_init) (defScope s_BadNumber_init) .none kV0 dc0 pm0 an0 cd0 ct0,
    f_TooMany_init := f1,
    d_TooMany_init := PySem.W.fnOf "__init__" "TooMany.__init__" (defArgs s_TooMany_init) (defBody s_TooMany_init) (defScope s_TooMany_init) .none kV1 dc1 pm1 an1 cd1 ct1,
    f_RepeatedHour_init := f2,
    d_RepeatedHour_init := PySem.W.fnOf "__init__" "RepeatedHour.__init__" (defArgs s_RepeatedHour_init) (defBody s_RepeatedHour_init) (defScope s_RepeatedHour_init) .none kV2 dc2 pm2 an2 cd2 ct2,
    f_WrongLength_init := f3,
    d_WrongLength_init := PySem.W.fnOf "__init__" "WrongLength.__init__" (defArgs s_WrongLength_init) (defBody s_WrongLength_init) (defScope s_WrongLength_init) .none kV3 dc3 pm3 an3 cd3 ct3,
    f_BadName_init := f4,
    d_BadName_init := PySem.W.fnOf "__init__" "BadName.__init__" (defArgs s_BadName_init) (defBody s_BadName_init) (defScope s_BadName_init) .none kV4 dc4 pm4 an4 cd4 ct4,
    f_RepeatedName_init := f5,
    d_RepeatedName_init := PySem.W.fnOf "__init__" "RepeatedName.__init__" (defArgs s_RepeatedName_init) (defBody s_RepeatedName_init) (defScope s_RepeatedName_init) .none kV5 dc5 pm5 an5 cd5 ct5,
    f_Lot_init := f6,
    d_Lot_init := PySem.W.fnOf "__init__" "Lot.__init__" (defArgs s_Lot_init) (defBody s_Lot_init) (defScope s_Lot_init) .none kV6 dc6 pm6 an6 cd6 ct6,
    f_Lot_members := f7,
    d_Lot_members := PySem.W.fnOf "members" "Lot.members" (defArgs s_Lot_members) (defBody s_Lot_members) (defScope s_Lot_members) .none kV7 dc7 pm7 an7 cd7 ct7,
    f_Lot_len := f8,
    d_Lot_len := PySem.W.fnOf "__len__" "Lot.__len__" (defArgs s_Lot_len) (defBody s_Lot_len) (defScope s_Lot_len) .none kV8 dc8 pm8 an8 cd8 ct8,
    f_Lot_iter := f9,
    d_Lot_iter := PySem.W.fnOf "__iter__" "Lot.__iter__" (defArgs s_Lot_iter) (defBody s_Lot_iter) (defScope s_Lot_iter) .none kV9 dc9 pm9 an9 cd9 ct9,
    f_Lot_contains := f10,
    d_Lot_contains := PySem.W.fnOf "__contains__" "Lot.__contains__" (defArgs s_Lot_contains) (defBody s_Lot_contains) (defScope s_Lot_contains) .none kV10 dc10 pm10 an10 cd10 ct10,
    f_Lot_eq := f11,
    d_Lot_eq := PySem.W.fnOf "__eq__" "Lot.__eq__" (defArgs s_Lot_eq) (defBody s_Lot_eq) (defScope s_Lot_eq) .none kV11 dc11 pm11 an11 cd11 ct11,
    f_Lot_lshift := f12,
    d_Lot_lshift := PySem.W.fnOf "__lshift__" "Lot.__lshift__" (defArgs s_Lot_lshift) (defBody s_Lot_lshift) (defScope s_Lot_lshift) .none kV12 dc12 pm12 an12 cd12 ct12,
    f_Lot_neg := f13,
    d_Lot_neg := PySem.W.fnOf "__neg__" "Lot.__neg__" (defArgs s_Lot_neg) (defBody s_Lot_neg) (defScope s_Lot_neg) .none kV13 dc13 pm13 an13 cd13 ct13,
    f_Lot_invert := f14,
    d_Lot_invert := PySem.W.fnOf "__invert__" "Lot.__invert__" (defArgs s_Lot_invert) (defBody s_Lot_invert) (defScope s_Lot_invert) .none kV14 dc14 pm14 an14 cd14 ct14,
    f_check_name := f15,
    d_check_name := PySem.W.fnOf "check_name" "check_name" (defArgs s_check_name) (defBody s_check_name) (defScope s_check_name) .none kV15 dc15 pm15 an15 cd15 ct15,
    f_check_new_name := f16,
    d_check_new_name := PySem.W.fnOf "check_new_name" "check_new_name" (defArgs s_check_new_name) (defBody s_check_new_name) (defScope s_check_new_name) .none kV16 dc16 pm16 an16 cd16 ct16,
    f_House_init := f17,
    d_House_init := PySem.W.fnOf "__init__" "House.__init__" (defArgs s_House_init) (defBody s_House_init) (defScope s_House_init) .none kV17 dc17 pm17 an17 cd17 ct17,
    f_House_len := f18,
    d_House_len := PySem.W.fnOf "__len__" "House.__len__" (defArgs s_House_len) (defBody s_House_len) (defScope s_House_len) .none kV18 dc18 pm18 an18 cd18 ct18,
    f_House_eq := f19,
    d_House_eq := PySem.W.fnOf "__eq__" "House.__eq__" (defArgs s_House_eq) (defBody s_House_eq) (defScope s_House_eq) .none kV19 dc19 pm19 an19 cd19 ct19,
    f_is_gate := f20,
    d_is_gate := PySem.W.fnOf "is_gate" "is_gate" (defArgs s_is_gate) (defBody s_is_gate) (defScope s_is_gate) .none kV20 dc20 pm20 an20 cd20 ct20,
    f_Beat_init := f21,
    d_Beat_init := PySem.W.fnOf "__init__" "Beat.__init__" (defArgs s_Beat_init) (defBody s_Beat_init) (defScope s_Beat_init) .none kV21 dc21 pm21 an21 cd21 ct21,
    f_Beat_lot := f22,
    d_Beat_lot := PySem.W.fnOf "lot" "Beat.lot" (defArgs s_Beat_lot) (defBody s_Beat_lot) (defScope s_Beat_lot) .none kV22 dc22 pm22 an22 cd22 ct22,
    f_Beat_getitem := f23,
    d_Beat_getitem := PySem.W.fnOf "__getitem__" "Beat.__getitem__" (defArgs s_Beat_getitem) (defBody s_Beat_getitem) (defScope s_Beat_getitem) .none kV23 dc23 pm23 an23 cd23 ct23,
    f_Beat_eq := f24,
    d_Beat_eq := PySem.W.fnOf "__eq__" "Beat.__eq__" (defArgs s_Beat_eq) (defBody s_Beat_eq) (defScope s_Beat_eq) .none kV24 dc24 pm24 an24 cd24 ct24,
    f_Beat_lshift := f25,
    d_Beat_lshift := PySem.W.fnOf "__lshift__" "Beat.__lshift__" (defArgs s_Beat_lshift) (defBody s_Beat_lshift) (defScope s_Beat_lshift) .none kV25 dc25 pm25 an25 cd25 ct25,
    f_meetings := f26,
    d_meetings := PySem.W.fnOf "meetings" "meetings" (defArgs s_meetings) (defBody s_meetings) (defScope s_meetings) .none kV26 dc26 pm26 an26 cd26 ct26,
    f_Crew_init := f27,
    d_Crew_init := PySem.W.fnOf "__init__" "Crew.__init__" (defArgs s_Crew_init) (defBody s_Crew_init) (defScope s_Crew_init) .none kV27 dc27 pm27 an27 cd27 ct27,
    f_Crew_row := f28,
    d_Crew_row := PySem.W.fnOf "row" "Crew.row" (defArgs s_Crew_row) (defBody s_Crew_row) (defScope s_Crew_row) .none kV28 dc28 pm28 an28 cd28 ct28,
    f_Crew_working := f29,
    d_Crew_working := PySem.W.fnOf "working" "Crew.working" (defArgs s_Crew_working) (defBody s_Crew_working) (defScope s_Crew_working) .none kV29 dc29 pm29 an29 cd29 ct29,
    f_Crew_len := f30,
    d_Crew_len := PySem.W.fnOf "__len__" "Crew.__len__" (defArgs s_Crew_len) (defBody s_Crew_len) (defScope s_Crew_len) .none kV30 dc30 pm30 an30 cd30 ct30,
    f_Crew_eq := f31,
    d_Crew_eq := PySem.W.fnOf "__eq__" "Crew.__eq__" (defArgs s_Crew_eq) (defBody s_Crew_eq) (defScope s_Crew_eq) .none kV31 dc31 pm31 an31 cd31 ct31,
    f_Crew_lshift := f32,
    d_Crew_lshift := PySem.W.fnOf "__lshift__" "Crew.__lshift__" (defArgs s_Crew_lshift) (defBody s_Crew_lshift) (defScope s_Crew_lshift) .none kV32 dc32 pm32 an32 cd32 ct32,
    f_u_law_cell := f33,
    d_u_law_cell := PySem.W.fnOf "_law_cell" "_law_cell" (defArgs s_u_law_cell) (defBody s_u_law_cell) (defScope s_u_law_cell) .none kV33 dc33 pm33 an33 cd33 ct33,
    f_u_law_draws := f34,
    d_u_law_draws := PySem.W.fnOf "_law_draws" "_law_draws" (defArgs s_u_law_draws) (defBody s_u_law_draws) (defScope s_u_law_draws) .none kV34 dc34 pm34 an34 cd34 ct34,
    f_u_law_two := f35,
    d_u_law_two := PySem.W.fnOf "_law_two" "_law_two" (defArgs s_u_law_two) (defBody s_u_law_two) (defScope s_u_law_two) .none kV35 dc35 pm35 an35 cd35 ct35,
    f_u_law_bits := f36,
    d_u_law_bits := PySem.W.fnOf "_law_bits" "_law_bits" (defArgs s_u_law_bits) (defBody s_u_law_bits) (defScope s_u_law_bits) .none kV36 dc36 pm36 an36 cd36 ct36,
    f_u_law_is_int := f37,
    d_u_law_is_int := PySem.W.fnOf "_law_is_int" "_law_is_int" (defArgs s_u_law_is_int) (defBody s_u_law_is_int) (defScope s_u_law_is_int) .none kV37 dc37 pm37 an37 cd37 ct37,
    f_u_law_same := f38,
    d_u_law_same := PySem.W.fnOf "_law_same" "_law_same" (defArgs s_u_law_same) (defBody s_u_law_same) (defScope s_u_law_same) .none kV38 dc38 pm38 an38 cd38 ct38,
    f_u_law_name := f39,
    d_u_law_name := PySem.W.fnOf "_law_name" "_law_name" (defArgs s_u_law_name) (defBody s_u_law_name) (defScope s_u_law_name) .none kV39 dc39 pm39 an39 cd39 ct39,
    f_u_law_names := f40,
    d_u_law_names := PySem.W.fnOf "_law_names" "_law_names" (defArgs s_u_law_names) (defBody s_u_law_names) (defScope s_u_law_names) .none kV40 dc40 pm40 an40 cd40 ct40,
    f_u_law_gates := f41,
    d_u_law_gates := PySem.W.fnOf "_law_gates" "_law_gates" (defArgs s_u_law_gates) (defBody s_u_law_gates) (defScope s_u_law_gates) .none kV41 dc41 pm41 an41 cd41 ct41,
    f_u_law_number := f42,
    d_u_law_number := PySem.W.fnOf "_law_number" "_law_number" (defArgs s_u_law_number) (defBody s_u_law_number) (defScope s_u_law_number) .none kV42 dc42 pm42 an42 cd42 ct42,
    f_u_law_walked := f43,
    d_u_law_walked := PySem.W.fnOf "_law_walked" "_law_walked" (defArgs s_u_law_walked) (defBody s_u_law_walked) (defScope s_u_law_walked) .none kV43 dc43 pm43 an43 cd43 ct43,
    f_u_law_no_row := f44,
    d_u_law_no_row := PySem.W.fnOf "_law_no_row" "_law_no_row" (defArgs s_u_law_no_row) (defBody s_u_law_no_row) (defScope s_u_law_no_row) .none kV44 dc44 pm44 an44 cd44 ct44,
    f_u_law_works := f45,
    d_u_law_works := PySem.W.fnOf "_law_works" "_law_works" (defArgs s_u_law_works) (defBody s_u_law_works) (defScope s_u_law_works) .none kV45 dc45 pm45 an45 cd45 ct45,
    f_u_law_shows := f46,
    d_u_law_shows := PySem.W.fnOf "_law_shows" "_law_shows" (defArgs s_u_law_shows) (defBody s_u_law_shows) (defScope s_u_law_shows) .none kV46 dc46 pm46 an46 cd46 ct46,
    f_u_law_other_ring := f47,
    d_u_law_other_ring := PySem.W.fnOf "_law_other_ring" "_law_other_ring" (defArgs s_u_law_other_ring) (defBody s_u_law_other_ring) (defScope s_u_law_other_ring) .none kV47 dc47 pm47 an47 cd47 ct47,
    f_u_law_great := f48,
    d_u_law_great := PySem.W.fnOf "_law_great" "_law_great" (defArgs s_u_law_great) (defBody s_u_law_great) (defScope s_u_law_great) .none kV48 dc48 pm48 an48 cd48 ct48,
    f_u_law_unlike := f49,
    d_u_law_unlike := PySem.W.fnOf "_law_unlike" "_law_unlike" (defArgs s_u_law_unlike) (defBody s_u_law_unlike) (defScope s_u_law_unlike) .none kV49 dc49 pm49 an49 cd49 ct49,
    f_u_law_grown := f50,
    d_u_law_grown := PySem.W.fnOf "_law_grown" "_law_grown" (defArgs s_u_law_grown) (defBody s_u_law_grown) (defScope s_u_law_grown) .none kV50 dc50 pm50 an50 cd50 ct50,
    f_law := fa,
    d_law := PySem.W.fnOf "law" "law" (defArgs s_law) (defBody s_law) (defScope s_law) .none kV51 dc51 pm51 an51 cd51 ct51,
    C_BadNumber := C_BadNumber,
    C_TooMany := C_TooMany,
    C_RepeatedHour := C_RepeatedHour,
    C_OtherHours := C_OtherHours,
    C_OtherHouse := C_OtherHouse,
    C_WrongLength := C_WrongLength,
    C_NoPlace := C_NoPlace,
    C_BadName := C_BadName,
    C_RepeatedName := C_RepeatedName,
    C_WatchError := C_WatchError,
    C_Lot := C_Lot,
    C_House := C_House,
    C_Beat := C_Beat,
    C_Crew := C_Crew,
    p_Lot_members := p7 }
  have T : Txt K mg A := {
    F_BadNumber_init := fun_mk (st := s_BadNumber_init) l0 c0 k0,
    F_TooMany_init := fun_mk (st := s_TooMany_init) l1 c1 k1,
    F_RepeatedHour_init := fun_mk (st := s_RepeatedHour_init) l2 c2 k2,
    F_WrongLength_init := fun_mk (st := s_WrongLength_init) l3 c3 k3,
    F_BadName_init := fun_mk (st := s_BadName_init) l4 c4 k4,
    F_RepeatedName_init := fun_mk (st := s_RepeatedName_init) l5 c5 k5,
    F_Lot_init := fun_mk (st := s_Lot_init) l6 c6 k6,
    F_Lot_members := fun_mk (st := s_Lot_members) l7 c7 k7,
    F_Lot_len := fun_mk (st := s_Lot_len) l8 c8 k8,
    F_Lot_iter := fun_mk (st := s_Lot_iter) l9 c9 k9,
    F_Lot_contains := fun_mk (st := s_Lot_contains) l10 c10 k10,
    F_Lot_eq := fun_mk (st := s_Lot_eq) l11 c11 k11,
    F_Lot_lshift := fun_mk (st := s_Lot_lshift) l12 c12 k12,
    F_Lot_neg := fun_mk (st := s_Lot_neg) l13 c13 k13,
    F_Lot_invert := fun_mk (st := s_Lot_invert) l14 c14 k14,
    F_check_name := fun_mk (st := s_check_name) l15 c15 k15,
    g_check_name := PySem.W.mg_of X G a15,
    k_check_name := k15,
    F_check_new_name := fun_mk (st := s_check_new_name) l16 c16 k16,
    g_check_new_name := PySem.W.mg_of X G a16,
    k_check_new_name := k16,
    F_House_init := fun_mk (st := s_House_init) l17 c17 k17,
    F_House_len := fun_mk (st := s_House_len) l18 c18 k18,
    F_House_eq := fun_mk (st := s_House_eq) l19 c19 k19,
    F_is_gate := fun_mk (st := s_is_gate) l20 c20 k20,
    g_is_gate := PySem.W.mg_of X G a20,
    k_is_gate := k20,
    F_Beat_init := fun_mk (st := s_Beat_init) l21 c21 k21,
    F_Beat_lot := fun_mk (st := s_Beat_lot) l22 c22 k22,
    F_Beat_getitem := fun_mk (st := s_Beat_getitem) l23 c23 k23,
    F_Beat_eq := fun_mk (st := s_Beat_eq) l24 c24 k24,
    F_Beat_lshift := fun_mk (st := s_Beat_lshift) l25 c25 k25,
    F_meetings := fun_mk (st := s_meetings) l26 c26 k26,
    g_meetings := PySem.W.mg_of X G a26,
    k_meetings := k26,
    F_Crew_init := fun_mk (st := s_Crew_init) l27 c27 k27,
    F_Crew_row := fun_mk (st := s_Crew_row) l28 c28 k28,
    F_Crew_working := fun_mk (st := s_Crew_working) l29 c29 k29,
    F_Crew_len := fun_mk (st := s_Crew_len) l30 c30 k30,
    F_Crew_eq := fun_mk (st := s_Crew_eq) l31 c31 k31,
    F_Crew_lshift := fun_mk (st := s_Crew_lshift) l32 c32 k32,
    F_u_law_cell := fun_mk (st := s_u_law_cell) l33 c33 k33,
    g_u_law_cell := PySem.W.mg_of X G a33,
    k_u_law_cell := k33,
    F_u_law_draws := fun_mk (st := s_u_law_draws) l34 c34 k34,
    g_u_law_draws := PySem.W.mg_of X G a34,
    k_u_law_draws := k34,
    F_u_law_two := fun_mk (st := s_u_law_two) l35 c35 k35,
    g_u_law_two := PySem.W.mg_of X G a35,
    k_u_law_two := k35,
    F_u_law_bits := fun_mk (st := s_u_law_bits) l36 c36 k36,
    g_u_law_bits := PySem.W.mg_of X G a36,
    k_u_law_bits := k36,
    F_u_law_is_int := fun_mk (st := s_u_law_is_int) l37 c37 k37,
    g_u_law_is_int := PySem.W.mg_of X G a37,
    k_u_law_is_int := k37,
    F_u_law_same := fun_mk (st := s_u_law_same) l38 c38 k38,
    g_u_law_same := PySem.W.mg_of X G a38,
    k_u_law_same := k38,
    F_u_law_name := fun_mk (st := s_u_law_name) l39 c39 k39,
    g_u_law_name := PySem.W.mg_of X G a39,
    k_u_law_name := k39,
    F_u_law_names := fun_mk (st := s_u_law_names) l40 c40 k40,
    g_u_law_names := PySem.W.mg_of X G a40,
    k_u_law_names := k40,
    F_u_law_gates := fun_mk (st := s_u_law_gates) l41 c41 k41,
    g_u_law_gates := PySem.W.mg_of X G a41,
    k_u_law_gates := k41,
    F_u_law_number := fun_mk (st := s_u_law_number) l42 c42 k42,
    g_u_law_number := PySem.W.mg_of X G a42,
    k_u_law_number := k42,
    F_u_law_walked := fun_mk (st := s_u_law_walked) l43 c43 k43,
    g_u_law_walked := PySem.W.mg_of X G a43,
    k_u_law_walked := k43,
    F_u_law_no_row := fun_mk (st := s_u_law_no_row) l44 c44 k44,
    g_u_law_no_row := PySem.W.mg_of X G a44,
    k_u_law_no_row := k44,
    F_u_law_works := fun_mk (st := s_u_law_works) l45 c45 k45,
    g_u_law_works := PySem.W.mg_of X G a45,
    k_u_law_works := k45,
    F_u_law_shows := fun_mk (st := s_u_law_shows) l46 c46 k46,
    g_u_law_shows := PySem.W.mg_of X G a46,
    k_u_law_shows := k46,
    F_u_law_other_ring := fun_mk (st := s_u_law_other_ring) l47 c47 k47,
    g_u_law_other_ring := PySem.W.mg_of X G a47,
    k_u_law_other_ring := k47,
    F_u_law_great := fun_mk (st := s_u_law_great) l48 c48 k48,
    g_u_law_great := PySem.W.mg_of X G a48,
    k_u_law_great := k48,
    F_u_law_unlike := fun_mk (st := s_u_law_unlike) l49 c49 k49,
    g_u_law_unlike := PySem.W.mg_of X G a49,
    k_u_law_unlike := k49,
    F_u_law_grown := fun_mk (st := s_u_law_grown) l50 c50 k50,
    g_u_law_grown := PySem.W.mg_of X G a50,
    k_u_law_grown := k50,
    F_law := fun_mk (st := s_law) l51 c51 k51,
    g_law := hfa,
    k_law := k51,
    c_LONGEST_NAME := ⟨_, PySem.W.mg_of X G kc_LONGEST_NAME⟩,
    c_MOST := ⟨_, PySem.W.mg_of X G kc_MOST⟩,
    c_REST := ⟨_, PySem.W.mg_of X G kc_REST⟩,
    c_LETTERS := ⟨_, PySem.W.mg_of X G kc_LETTERS⟩,
    z_abs := PySem.W.mg_none_of X G z_abs,
    z_len := PySem.W.mg_none_of X G z_len,
    z_int := PySem.W.mg_none_of X G z_int,
    z_bool := PySem.W.mg_none_of X G z_bool,
    z_str := PySem.W.mg_none_of X G z_str,
    z_list := PySem.W.mg_none_of X G z_list,
    z_tuple := PySem.W.mg_none_of X G z_tuple,
    z_isinstance := PySem.W.mg_none_of X G z_isinstance,
    z_range := PySem.W.mg_none_of X G z_range,
    z_ValueError := PySem.W.mg_none_of X G z_ValueError,
    z_min := PySem.W.mg_none_of X G z_min,
    z_max := PySem.W.mg_none_of X G z_max,
    z_enumerate := PySem.W.mg_none_of X G z_enumerate,
    z_zip := PySem.W.mg_none_of X G z_zip,
    z_iter := PySem.W.mg_none_of X G z_iter,
    g_BadNumber := PySem.W.mg_of X G g_BadNumber,
    g_TooMany := PySem.W.mg_of X G g_TooMany,
    g_RepeatedHour := PySem.W.mg_of X G g_RepeatedHour,
    g_OtherHours := PySem.W.mg_of X G g_OtherHours,
    g_OtherHouse := PySem.W.mg_of X G g_OtherHouse,
    g_WrongLength := PySem.W.mg_of X G g_WrongLength,
    g_NoPlace := PySem.W.mg_of X G g_NoPlace,
    g_BadName := PySem.W.mg_of X G g_BadName,
    g_RepeatedName := PySem.W.mg_of X G g_RepeatedName,
    g_WatchError := PySem.W.mg_of X G g_WatchError,
    g_Lot := PySem.W.mg_of X G g_Lot,
    g_House := PySem.W.mg_of X G g_House,
    g_Beat := PySem.W.mg_of X G g_Beat,
    g_Crew := PySem.W.mg_of X G g_Crew,
    si_tuple := si_tuple,
    kit_tuple_Beat := kit_no hdB tyB meC_Beat si_tuple,
    si_Beat_Crew := siBW,
    kit_Beat_Crew := kit_no hdW tyW meC_Crew siBW,
    ox_BadNumber := ⟨⟨nm_BadNumber, q_BadNumber, N_BadNumber, bs_BadNumber, _, sn_BadNumber, sub_BadNumber, ab_BadNumber, col_BadNumber, dd_BadNumber, m0_BadNumber, m1_BadNumber, m2_BadNumber, m3_BadNumber, m5_BadNumber, xL_BadNumber, rfl⟩, sa_BadNumber, exC_BadNumber, tyC_BadNumber, kC_BadNumber⟩,
    ni_BadNumber := a0,
    ti_BadNumber := ti_BadNumber,
    nf_BadNumber_name := nf_BadNumber_name,
    nf_BadNumber_value := nf_BadNumber_value,
    xf_BadNumber := ⟨ga_BadNumber, gg_BadNumber, exC_BadNumber, hdC_BadNumber⟩,
    ex_BadNumber := ⟨ga_BadNumber, gg_BadNumber, exC_BadNumber, hdC_BadNumber, ha_BadNumber, hn_, ht_, hm_BadNumber⟩,
    ox_TooMany := ⟨⟨nm_TooMany, q_TooMany, N_TooMany, bs_TooMany, _, sn_TooMany, sub_TooMany, ab_TooMany, col_TooMany, dd_TooMany, m0_TooMany, m1_TooMany, m2_TooMany, m3_TooMany, m5_TooMany, xL_TooMany, rfl⟩, sa_TooMany, exC_TooMany, tyC_TooMany, kC_TooMany⟩,
    ni_TooMany := a1,
    ti_TooMany := ti_TooMany,
    nf_TooMany_name := nf_TooMany_name,
    nf_TooMany_most := nf_TooMany_most,
    xf_TooMany := ⟨ga_TooMany, gg_TooMany, exC_TooMany, hdC_TooMany⟩,
    ex_TooMany := ⟨ga_TooMany, gg_TooMany, exC_TooMany, hdC_TooMany, ha_TooMany, hn_, ht_, hm_TooMany⟩,
    ox_BadName := ⟨⟨nm_BadName, q_BadName, N_BadName, bs_BadName, _, sn_BadName, sub_BadName, ab_BadName, col_BadName, dd_BadName, m0_BadName, m1_BadName, m2_BadName, m3_BadName, m5_BadName, xL_BadName, rfl⟩, sa_BadName, exC_BadName, tyC_BadName, kC_BadName⟩,
    ni_BadName := a4,
    ti_BadName := ti_BadName,
    nf_BadName_name := nf_BadName_name,
    xf_BadName := ⟨ga_BadName, gg_BadName, exC_BadName, hdC_BadName⟩,
    ex_BadName := ⟨ga_BadName, gg_BadName, exC_BadName, hdC_BadName, ha_BadName, hn_, ht_, hm_BadName⟩,
    ox_RepeatedName := ⟨⟨nm_RepeatedName, q_RepeatedName, N_RepeatedName, bs_RepeatedName, _, sn_RepeatedName, sub_RepeatedName, ab_RepeatedName, col_RepeatedName, dd_RepeatedName, m0_RepeatedName, m1_RepeatedName, m2_RepeatedName, m3_RepeatedName, m5_RepeatedName, xL_RepeatedName, rfl⟩, sa_RepeatedName, exC_RepeatedName, tyC_RepeatedName, kC_RepeatedName⟩,
    ni_RepeatedName := a5,
    ti_RepeatedName := ti_RepeatedName,
    nf_RepeatedName_name := nf_RepeatedName_name,
    xf_RepeatedName := ⟨ga_RepeatedName, gg_RepeatedName, exC_RepeatedName, hdC_RepeatedName⟩,
    ex_RepeatedName := ⟨ga_RepeatedName, gg_RepeatedName, exC_RepeatedName, hdC_RepeatedName, ha_RepeatedName, hn_, ht_, hm_RepeatedName⟩,
    ox_WrongLength := ⟨⟨nm_WrongLength, q_WrongLength, N_WrongLength, bs_WrongLength, _, sn_WrongLength, sub_WrongLength, ab_WrongLength, col_WrongLength, dd_WrongLength, m0_WrongLength, m1_WrongLength, m2_WrongLength, m3_WrongLength, m5_WrongLength, xL_WrongLength, rfl⟩, sa_WrongLength, exC_WrongLength, tyC_WrongLength, kC_WrongLength⟩,
    ni_WrongLength := a3,
    ti_WrongLength := ti_WrongLength,
    nf_WrongLength_length := nf_WrongLength_length,
    xf_WrongLength := ⟨ga_WrongLength, gg_WrongLength, exC_WrongLength, hdC_WrongLength⟩,
    ex_WrongLength := ⟨ga_WrongLength, gg_WrongLength, exC_WrongLength, hdC_WrongLength, ha_WrongLength, hn_, ht_, hm_WrongLength⟩,
    ox_RepeatedHour := ⟨⟨nm_RepeatedHour, q_RepeatedHour, N_RepeatedHour, bs_RepeatedHour, _, sn_RepeatedHour, sub_RepeatedHour, ab_RepeatedHour, col_RepeatedHour, dd_RepeatedHour, m0_RepeatedHour, m1_RepeatedHour, m2_RepeatedHour, m3_RepeatedHour, m5_RepeatedHour, xL_RepeatedHour, rfl⟩, sa_RepeatedHour, exC_RepeatedHour, tyC_RepeatedHour, kC_RepeatedHour⟩,
    ni_RepeatedHour := a2,
    ti_RepeatedHour := ti_RepeatedHour,
    nf_RepeatedHour_hour := nf_RepeatedHour_hour,
    xf_RepeatedHour := ⟨ga_RepeatedHour, gg_RepeatedHour, exC_RepeatedHour, hdC_RepeatedHour⟩,
    ex_RepeatedHour := ⟨ga_RepeatedHour, gg_RepeatedHour, exC_RepeatedHour, hdC_RepeatedHour, ha_RepeatedHour, hn_, ht_, hm_RepeatedHour⟩,
    xP_NoPlace := xP_NoPlace,
    kP_NoPlace := kP_NoPlace,
    bP_NoPlace := exC_NoPlace,
    tP_NoPlace := tyC_NoPlace,
    ex_NoPlace := ⟨ga_NoPlace, gg_NoPlace, exC_NoPlace, hdC_NoPlace, ha_NoPlace, hn_, ht_, hm_NoPlace⟩,
    xP_OtherHours := xP_OtherHours,
    kP_OtherHours := kP_OtherHours,
    bP_OtherHours := exC_OtherHours,
    tP_OtherHours := tyC_OtherHours,
    ex_OtherHours := ⟨ga_OtherHours, gg_OtherHours, exC_OtherHours, hdC_OtherHours, ha_OtherHours, hn_, ht_, hm_OtherHours⟩,
    xP_OtherHouse := xP_OtherHouse,
    kP_OtherHouse := kP_OtherHouse,
    bP_OtherHouse := exC_OtherHouse,
    tP_OtherHouse := tyC_OtherHouse,
    ex_OtherHouse := ⟨ga_OtherHouse, gg_OtherHouse, exC_OtherHouse, hdC_OtherHouse, ha_OtherHouse, hn_, ht_, hm_OtherHouse⟩,
    xm_NoPlace_NoPlace := PySem.W.exm_ref exC_NoPlace hdC_NoPlace tyC_NoPlace meC_NoPlace,
    xm_OtherHours_OtherHours := PySem.W.exm_ref exC_OtherHours hdC_OtherHours tyC_OtherHours meC_OtherHours,
    kit_NoPlace_WatchError := kit_yes hdC_WatchError tyC_WatchError sub_NoPlace_WatchError,
    kit_NoPlace_ValueError := kit_bi (by decide +kernel) sub_NoPlace_ValueError,
    kit_NoPlace_OtherHours := kit_no hdC_OtherHours tyC_OtherHours meC_OtherHours sub_NoPlace_OtherHours,
    kit_NoPlace_BadNumber := kit_no hdC_BadNumber tyC_BadNumber meC_BadNumber sub_NoPlace_BadNumber,
    kit_OtherHours_WatchError := kit_yes hdC_WatchError tyC_WatchError sub_OtherHours_WatchError,
    kit_OtherHours_ValueError := kit_bi (by decide +kernel) sub_OtherHours_ValueError,
    kit_OtherHours_OtherHouse := kit_no hdC_OtherHouse tyC_OtherHouse meC_OtherHouse sub_OtherHours_OtherHouse,
    kit_OtherHours_NoPlace := kit_no hdC_NoPlace tyC_NoPlace meC_NoPlace sub_OtherHours_NoPlace,
    cl_House := ⟨pg_House, hd_House, po_House, sa_House⟩,
    mk_House := ⟨mk_House, a17, if_17, kc_House⟩,
    na_House_hours := na_House_hours,
    na_House_names := na_House_names,
    na_House_stakes := na_House_stakes,
    ty_House := fun H a dx fs e => .base (.ins e ⟨pg_House, hd_House, po_House, sa_House⟩ ha_House hn_ ht_ hm_House),
    rd_House := ⟨.type "type", ⟨rd_House, gt_House⟩, ⟨_, cv_House_MOST_HOURS, ⟨_, rfl⟩⟩, ⟨_, cv_House_MOST_GATES, ⟨_, rfl⟩⟩, ⟨_, cv_House_MOST_CELLS, ⟨_, rfl⟩⟩, ⟨_, cv_House_MOST_STAKE, ⟨_, rfl⟩⟩⟩,
    cl_Beat := ⟨pg_Beat, hd_Beat, po_Beat, sa_Beat⟩,
    mk_Beat := ⟨mk_Beat, a21, if_21, kc_Beat⟩,
    na_Beat_house := na_Beat_house,
    na_Beat_steps := na_Beat_steps,
    op_Beat := ⟨sf_Beat, si_Beat⟩,
    D_Beat_lshift := ⟨dn_Beat_lshift, if_25, k25⟩,
    I_Beat_lshift := ⟨⟨_, rc_Beat_lshift, .inl rfl⟩, ⟨_, lo_Beat_lshift⟩, ⟨_, ro_Beat_lshift⟩⟩,
    no_Beat := ⟨_, ci_Beat, meC_mro_Beat⟩,
    ip_Beat_lshift := ⟨ic_Beat_lshift, io_lshift⟩,
    ne_Beat := ⟨hm_Beat, nn_Beat⟩,
    ty_Beat := fun H a dx fs e => .base (.ins e ⟨pg_Beat, hd_Beat, po_Beat, sa_Beat⟩ ha_Beat hn_ ht_ hm_Beat),
    cl_Lot := ⟨pg_Lot, hd_Lot, po_Lot, sa_Lot⟩,
    mk_Lot := ⟨mk_Lot, a6, if_6, kc_Lot⟩,
    na_Lot_hours := na_Lot_hours,
    na_Lot_members := na_Lot_members,
    op_Lot := ⟨sf_Lot, si_Lot⟩,
    D_Lot_lshift := ⟨dn_Lot_lshift, if_12, k12⟩,
    I_Lot_lshift := ⟨⟨_, rc_Lot_lshift, .inl rfl⟩, ⟨_, lo_Lot_lshift⟩, ⟨_, ro_Lot_lshift⟩⟩,
    ty_Lot := fun H a dx fs e => .base (.ins e ⟨pg_Lot, hd_Lot, po_Lot, sa_Lot⟩ ha_Lot hn_ ht_ hm_Lot),
    rd_Lot := ⟨.type "type", ⟨rd_Lot, gt_Lot⟩, ⟨_, cv_Lot_MOST, ⟨_, rfl⟩⟩⟩,
    cl_Crew := ⟨pg_Crew, hd_Crew, po_Crew, sa_Crew⟩,
    mk_Crew := ⟨mk_Crew, a27, if_27, kc_Crew⟩,
    na_Crew_beat := na_Crew_beat,
    na_Crew_starts := na_Crew_starts,
    op_Crew := ⟨sf_Crew, si_Crew⟩,
    D_Crew_lshift := ⟨dn_Crew_lshift, if_32, k32⟩,
    I_Crew_lshift := ⟨⟨_, rc_Crew_lshift, .inl rfl⟩, ⟨_, lo_Crew_lshift⟩, ⟨_, ro_Crew_lshift⟩⟩,
    no_Crew := ⟨_, ci_Crew, meC_mro_Crew⟩,
    ip_Crew_lshift := ⟨ic_Crew_lshift, io_lshift⟩,
    ne_Crew := ⟨hm_Crew, nn_Crew⟩,
    ty_Crew := fun H a dx fs e => .base (.ins e ⟨pg_Crew, hd_Crew, po_Crew, sa_Crew⟩ ha_Crew hn_ ht_ hm_Crew),
    P_Lot_members := ⟨pa_7, pg_7, pt_7, ⟨_, a7⟩⟩,
    M_Lot_len := ⟨a8, if_8, k8⟩,
    M_Lot_iter := ⟨a9, if_9, k9⟩,
    M_Lot_contains := ⟨a10, if_10, k10⟩,
    M_Lot_eq := ⟨a11, if_11, k11⟩,
    M_Lot_lshift := ⟨a12, if_12, k12⟩,
    M_Lot_neg := ⟨a13, if_13, k13⟩,
    M_Lot_invert := ⟨a14, if_14, k14⟩,
    M_House_len := ⟨a18, if_18, k18⟩,
    M_House_eq := ⟨a19, if_19, k19⟩,
    M_Beat_lot := ⟨a22, if_22, k22⟩,
    M_Beat_getitem := ⟨a23, if_23, k23⟩,
    FI_Beat_getitem := fi_23,
    M_Beat_eq := ⟨a24, if_24, k24⟩,
    M_Beat_lshift := ⟨a25, if_25, k25⟩,
    M_Crew_row := ⟨a28, if_28, k28⟩,
    M_Crew_working := ⟨a29, if_29, k29⟩,
    M_Crew_len := ⟨a30, if_30, k30⟩,
    M_Crew_eq := ⟨a31, if_31, k31⟩,
    M_Crew_lshift := ⟨a32, if_32, k32⟩ }
  exact ⟨A.d_law, fun s v => .of_eq rfl, fun base _ _ => ok_law T⟩
end
theorem walk {l : PySem.W.OpenLaw} {q : Program} {loose : List Str} {XP : (Str → Option Value) → Heap → Prop} {YP : World → Heap → Prop} {d : DefRec} {K : Params → PySem.W.Frag} (hn : l.most = some 63) (hdf : d.params.defaults = [])
    (hY : ∀ (w : World) (h : Heap), YP w h → (K w.params).In h)
    (F : ∀ (w : World) (mg : Str → Option Value) (fa : Addr) (h : Heap), (K w.params).In h → h.Ns mainGlobals mg → mg d.name = some (.ref fa) →
      ∃ fd : FuncData, (∀ (s : Shared) (u : Value), BindsTo s fd ⟨[u], []⟩ [("script", u)]) ∧ ∀ base : Heap, (K w.params).In base → base.Ns mainGlobals mg → FnOk l.prog w (K w.params) mg base CX0 20 fa fd ["script"] ((spLaw) (K w.params))) :
    PySem.W.WalkO q loose XP YP l.row.toRowW d [] (fun f vs => PySem.call f vs) :=
  L2.walk_of (n := 63) (k := 20) (x := "script") (CX := fun _ => CX0) (sp := fun w => (spLaw) (K w.params)) hn (by decide) hdf ⟨rfl, by decide, by decide⟩ hY F (fun _ _ a ns hl _ hS => ⟨a, ns, rfl, hS, hl, fun _ => rfl⟩) fun _ _ _ _ _ z => z
end Pf
open PySem PySem.W PyProof.Rows
set_option maxRecDepth 100000 in
set_option maxHeartbeats 0 in
theorem PySem.Challenge.cw_watchbeats_k26_crew_counted_holds : PySem.Challenge.rw_watchbeats_k26_crew_counted.Holds := by
  w_on; o_law; k_head; (case hw => w_witness2)
  k_fill
  refine Pf.walk (l := PySem.Challenge.rw_watchbeats_k26_crew_counted) rfl rfl (fun w h Y => PySem.W.kIn_of Y) ?F
  case F =>
    intro w mg fa h KX G hmg
    refine' Pf.all_mk KX G hmg ?g_BadNumber ?g_TooMany ?g_RepeatedHour ?g_OtherHours ?g_OtherHouse ?g_WrongLength ?g_NoPlace ?g_BadName ?g_RepeatedName ?g_WatchError ?g_Lot ?g_House ?g_Beat ?g_Crew ?a0 ?l0 ?c0 ?k0 ?a1 ?l1 ?c1 ?k1 ?a2 ?l2 ?c2 ?k2 ?a3 ?l3 ?c3 ?k3 ?a4 ?l4 ?c4 ?k4 ?a5 ?l5 ?c5 ?k5 ?a6 ?l6 ?c6 ?k6 ?pa_7 ?a7 ?l7 ?c7 ?k7 ?a8 ?l8 ?c8 ?k8 ?a9 ?l9 ?c9 ?k9 ?a10 ?l10 ?c10 ?k10 ?a11 ?l11 ?c11 ?k11 ?a12 ?l12 ?c12 ?k12 ?a13 ?l13 ?c13 ?k13 ?a14 ?l14 ?c14 ?k14 ?a15 ?l15 ?c15 ?k15 ?a16 ?l16 ?c16 ?k16 ?a17 ?l17 ?c17 ?k17 ?a18 ?l18 ?c18 ?k18 ?a19 ?l19 ?c19 ?k19 ?a20 ?l20 ?c20 ?k20 ?a21 ?l21 ?c21 ?k21 ?a22 ?l22 ?c22 ?k22 ?a23 ?l23 ?c23 ?k23 ?a24 ?l24 ?c24 ?k24 ?a25 ?l25 ?c25 ?k25 ?a26 ?l26 ?c26 ?k26 ?a27 ?l27 ?c27 ?k27 ?a28 ?l28 ?c28 ?k28 ?a29 ?l29 ?c29 ?k29 ?a30 ?l30 ?c30 ?k30 ?a31 ?l31 ?c31 ?k31 ?a32 ?l32 ?c32 ?k32 ?a33 ?l33 ?c33 ?k33 ?a34 ?l34 ?c34 ?k34 ?a35 ?l35 ?c35 ?k35 ?a36 ?l36 ?c36 ?k36 ?a37 ?l37 ?c37 ?k37 ?a38 ?l38 ?c38 ?k38 ?a39 ?l39 ?c39 ?k39 ?a40 ?l40 ?c40 ?k40 ?a41 ?l41 ?c41 ?k41 ?a42 ?l42 ?c42 ?k42 ?a43 ?l43 ?c43 ?k43 ?a44 ?l44 ?c44 ?k44 ?a45 ?l45 ?c45 ?k45 ?a46 ?l46 ?c46 ?k46 ?a47 ?l47 ?c47 ?k47 ?a48 ?l48 ?c48 ?k48 ?a49 ?l49 ?c49 ?k49 ?a50 ?l50 ?c50 ?k50 ?a51 ?l51 ?c51 ?k51 ?kc_LONGEST_NAME ?kc_MOST ?kc_REST ?kc_LETTERS ?z_abs ?z_len ?z_int ?z_bool ?z_str ?z_list ?z_tuple ?z_isinstance ?z_range ?z_ValueError ?z_min ?z_max ?z_enumerate ?z_zip ?z_iter ?hdB ?tyB ?meC_Beat ?si_tuple ?hdW ?tyW ?meC_Crew ?siBW ?exC_BadNumber ?hdC_BadNumber ?tyC_BadNumber ?meC_BadNumber ?xL_BadNumber ?sa_BadNumber ?kC_BadNumber ?ti_BadNumber ?ga_BadNumber ?gg_BadNumber ?ha_BadNumber ?hn_ ?ht_ ?hm_BadNumber ?nf_BadNumber_name ?nf_BadNumber_value ?exC_TooMany ?hdC_TooMany ?tyC_TooMany ?meC_TooMany ?xL_TooMany ?sa_TooMany ?kC_TooMany ?ti_TooMany ?ga_TooMany ?gg_TooMany ?ha_TooMany ?hm_TooMany ?nf_TooMany_name ?nf_TooMany_most ?exC_BadName ?hdC_BadName ?tyC_BadName ?meC_BadName ?xL_BadName ?sa_BadName ?kC_BadName ?ti_BadName ?ga_BadName ?gg_BadName ?ha_BadName ?hm_BadName ?nf_BadName_name ?exC_RepeatedName ?hdC_RepeatedName ?tyC_RepeatedName ?meC_RepeatedName ?xL_RepeatedName ?sa_RepeatedName ?kC_RepeatedName ?ti_RepeatedName ?ga_RepeatedName ?gg_RepeatedName ?ha_RepeatedName ?hm_RepeatedName ?nf_RepeatedName_name ?exC_WrongLength ?hdC_WrongLength ?tyC_WrongLength ?meC_WrongLength ?xL_WrongLength ?sa_WrongLength ?kC_WrongLength ?ti_WrongLength ?ga_WrongLength ?gg_WrongLength ?ha_WrongLength ?hm_WrongLength ?nf_WrongLength_length ?exC_RepeatedHour ?hdC_RepeatedHour ?tyC_RepeatedHour ?meC_RepeatedHour ?xL_RepeatedHour ?sa_RepeatedHour ?kC_RepeatedHour ?ti_RepeatedHour ?ga_RepeatedHour ?gg_RepeatedHour ?ha_RepeatedHour ?hm_RepeatedHour ?nf_RepeatedHour_hour ?exC_NoPlace ?hdC_NoPlace ?tyC_NoPlace ?meC_NoPlace ?xP_NoPlace ?kP_NoPlace ?ga_NoPlace ?gg_NoPlace ?ha_NoPlace ?hm_NoPlace ?exC_OtherHours ?hdC_OtherHours ?tyC_OtherHours ?meC_OtherHours ?xP_OtherHours ?kP_OtherHours ?ga_OtherHours ?gg_OtherHours ?ha_OtherHours ?hm_OtherHours ?exC_OtherHouse ?hdC_OtherHouse ?tyC_OtherHouse ?meC_OtherHouse ?xP_OtherHouse ?kP_OtherHouse ?ga_OtherHouse ?gg_OtherHouse ?ha_OtherHouse ?hm_OtherHouse ?exC_WatchError ?hdC_WatchError ?tyC_WatchError ?meC_WatchError ?sub_NoPlace_WatchError ?sub_NoPlace_ValueError ?sub_NoPlace_OtherHours ?sub_NoPlace_BadNumber ?sub_OtherHours_WatchError ?sub_OtherHours_ValueError ?sub_OtherHours_OtherHouse ?sub_OtherHours_NoPlace ?pg_House ?hd_House ?po_House ?sa_House ?mk_House ?kc_House ?if_17 ?na_House_hours ?na_House_names ?na_House_stakes ?ha_House ?hm_House ?rd_House ?gt_House ?cv_House_MOST_HOURS ?cv_House_MOST_GATES ?cv_House_MOST_CELLS ?cv_House_MOST_STAKE ?pg_Beat ?hd_Beat ?po_Beat ?sa_Beat ?mk_Beat ?kc_Beat ?if_21 ?na_Beat_house ?na_Beat_steps ?sf_Beat ?si_Beat ?dn_Beat_lshift ?rc_Beat_lshift ?lo_Beat_lshift ?ro_Beat_lshift ?ci_Beat ?meC_mro_Beat ?ic_Beat_lshift ?io_lshift ?nn_Beat ?hm_Beat ?ha_Beat ?pg_Lot ?hd_Lot ?po_Lot ?sa_Lot ?mk_Lot ?kc_Lot ?if_6 ?na_Lot_hours ?na_Lot_members ?sf_Lot ?si_Lot ?dn_Lot_lshift ?rc_Lot_lshift ?lo_Lot_lshift ?ro_Lot_lshift ?ha_Lot ?hm_Lot ?rd_Lot ?gt_Lot ?cv_Lot_MOST ?pg_Crew ?hd_Crew ?po_Crew ?sa_Crew ?mk_Crew ?kc_Crew ?if_27 ?na_Crew_beat ?na_Crew_starts ?sf_Crew ?si_Crew ?dn_Crew_lshift ?rc_Crew_lshift ?lo_Crew_lshift ?ro_Crew_lshift ?ci_Crew ?meC_mro_Crew ?ic_Crew_lshift ?nn_Crew ?hm_Crew ?ha_Crew ?pg_7 ?pt_7 ?if_8 ?if_9 ?if_10 ?if_11 ?if_12 ?if_13 ?if_14 ?if_18 ?if_19 ?if_22 ?if_23 ?fi_23 ?if_24 ?if_25 ?if_28 ?if_29 ?if_30 ?if_31 ?if_32
    (case g_BadNumber => k_is)
    (case g_TooMany => k_is)
    (case g_RepeatedHour => k_is)
    (case g_OtherHours => k_is)
    (case g_OtherHouse => k_is)
    (case g_WrongLength => k_is)
    (case g_NoPlace => k_is)
    (case g_BadName => k_is)
    (case g_RepeatedName => k_is)
    (case g_WatchError => k_is)
    (case g_Lot => k_is)
    (case g_House => k_is)
    (case g_Beat => k_is)
    (case g_Crew => k_is)
    (case a0 => k_is)
    (case l0 => k_is)
    (case c0 => k_is)
    (case k0 => k_is)
    (case a1 => k_is)
    (case l1 => k_is)
    (case c1 => k_is)
    (case k1 => k_is)
    (case a2 => k_is)
    (case l2 => k_is)
    (case c2 => k_is)
    (case k2 => k_is)
    (case a3 => k_is)
    (case l3 => k_is)
    (case c3 => k_is)
    (case k3 => k_is)
    (case a4 => k_is)
    (case l4 => k_is)
    (case c4 => k_is)
    (case k4 => k_is)
    (case a5 => k_is)
    (case l5 => k_is)
    (case c5 => k_is)
    (case k5 => k_is)
    (case a6 => k_is)
    (case l6 => k_is)
    (case c6 => k_is)
    (case k6 => k_is)
    (case pa_7 => k_is)
    (case a7 => k_is)
    (case l7 => k_is)
    (case c7 => k_is)
    (case k7 => k_is)
    (case a8 => k_is)
    (case l8 => k_is)
    (case c8 => k_is)
    (case k8 => k_is)
    (case a9 => k_is)
    (case l9 => k_is)
    (case c9 => k_is)
    (case k9 => k_is)
    (case a10 => k_is)
    (case l10 => k_is)
    (case c10 => k_is)
    (case k10 => k_is)
    (case a11 => k_is)
    (case l11 => k_is)
    (case c11 => k_is)
    (case k11 => k_is)
    (case a12 => k_is)
    (case l12 => k_is)
    (case c12 => k_is)
    (case k12 => k_is)
    (case a13 => k_is)
    (case l13 => k_is)
    (case c13 => k_is)
    (case k13 => k_is)
    (case a14 => k_is)
    (case l14 => k_is)
    (case c14 => k_is)
    (case k14 => k_is)
    (case a15 => k_is)
    (case l15 => k_is)
    (case c15 => k_is)
    (case k15 => k_is)
    (case a16 => k_is)
    (case l16 => k_is)
    (case c16 => k_is)
    (case k16 => k_is)
    (case a17 => k_is)
    (case l17 => k_is)
    (case c17 => k_is)
    (case k17 => k_is)
    (case a18 => k_is)
    (case l18 => k_is)
    (case c18 => k_is)
    (case k18 => k_is)
    (case a19 => k_is)
    (case l19 => k_is)
    (case c19 => k_is)
    (case k19 => k_is)
    (case a20 => k_is)
    (case l20 => k_is)
    (case c20 => k_is)
    (case k20 => k_is)
    (case a21 => k_is)
    (case l21 => k_is)
    (case c21 => k_is)
    (case k21 => k_is)
    (case a22 => k_is)
    (case l22 => k_is)
    (case c22 => k_is)
    (case k22 => k_is)
    (case a23 => k_is)
    (case l23 => k_is)
    (case c23 => k_is)
    (case k23 => k_is)
    (case a24 => k_is)
    (case l24 => k_is)
    (case c24 => k_is)
    (case k24 => k_is)
    (case a25 => k_is)
    (case l25 => k_is)
    (case c25 => k_is)
    (case k25 => k_is)
    (case a26 => k_is)
    (case l26 => k_is)
    (case c26 => k_is)
    (case k26 => k_is)
    (case a27 => k_is)
    (case l27 => k_is)
    (case c27 => k_is)
    (case k27 => k_is)
    (case a28 => k_is)
    (case l28 => k_is)
    (case c28 => k_is)
    (case k28 => k_is)
    (case a29 => k_is)
    (case l29 => k_is)
    (case c29 => k_is)
    (case k29 => k_is)
    (case a30 => k_is)
    (case l30 => k_is)
    (case c30 => k_is)
    (case k30 => k_is)
    (case a31 => k_is)
    (case l31 => k_is)
    (case c31 => k_is)
    (case k31 => k_is)
    (case a32 => k_is)
    (case l32 => k_is)
    (case c32 => k_is)
    (case k32 => k_is)
    (case a33 => k_is)
    (case l33 => k_is)
    (case c33 => k_is)
    (case k33 => k_is)
    (case a34 => k_is)
    (case l34 => k_is)
    (case c34 => k_is)
    (case k34 => k_is)
    (case a35 => k_is)
    (case l35 => k_is)
    (case c35 => k_is)
    (case k35 => k_is)
    (case a36 => k_is)
    (case l36 => k_is)
    (case c36 => k_is)
    (case k36 => k_is)
    (case a37 => k_is)
    (case l37 => k_is)
    (case c37 => k_is)
    (case k37 => k_is)
    (case a38 => k_is)
    (case l38 => k_is)
    (case c38 => k_is)
    (case k38 => k_is)
    (case a39 => k_is)
    (case l39 => k_is)
    (case c39 => k_is)
    (case k39 => k_is)
    (case a40 => k_is)
    (case l40 => k_is)
    (case c40 => k_is)
    (case k40 => k_is)
    (case a41 => k_is)
    (case l41 => k_is)
    (case c41 => k_is)
    (case k41 => k_is)
    (case a42 => k_is)
    (case l42 => k_is)
    (case c42 => k_is)
    (case k42 => k_is)
    (case a43 => k_is)
    (case l43 => k_is)
    (case c43 => k_is)
    (case k43 => k_is)
    (case a44 => k_is)
    (case l44 => k_is)
    (case c44 => k_is)
    (case k44 => k_is)
    (case a45 => k_is)
    (case l45 => k_is)
    (case c45 => k_is)
    (case k45 => k_is)
    (case a46 => k_is)
    (case l46 => k_is)
    (case c46 => k_is)
    (case k46 => k_is)
    (case a47 => k_is)
    (case l47 => k_is)
    (case c47 => k_is)
    (case k47 => k_is)
    (case a48 => k_is)
    (case l48 => k_is)
    (case c48 => k_is)
    (case k48 => k_is)
    (case a49 => k_is)
    (case l49 => k_is)
    (case c49 => k_is)
    (case k49 => k_is)
    (case a50 => k_is)
    (case l50 => k_is)
    (case c50 => k_is)
    (case k50 => k_is)
    (case a51 => k_is)
    (case l51 => k_is)
    (case c51 => k_is)
    (case k51 => k_is)
    (case kc_LONGEST_NAME => k_is)
    (case kc_MOST => k_is)
    (case kc_REST => k_is)
    (case kc_LETTERS => k_is)
    (case z_abs => k_is)
    (case z_len => k_is)
    (case z_int => k_is)
    (case z_bool => k_is)
    (case z_str => k_is)
    (case z_list => k_is)
    (case z_tuple => k_is)
    (case z_isinstance => k_is)
    (case z_range => k_is)
    (case z_ValueError => k_is)
    (case z_min => k_is)
    (case z_max => k_is)
    (case z_enumerate => k_is)
    (case z_zip => k_is)
    (case z_iter => k_is)
    (case hdB => k_is)
    (case tyB => k_is)
    (case meC_Beat => first | rfl | k_is)
    (case si_tuple => k_is)
    (case hdW => k_is)
    (case tyW => k_is)
    (case meC_Crew => first | rfl | k_is)
    (case siBW => k_is)
    (case exC_BadNumber => k_is)
    (case hdC_BadNumber => k_is)
    (case tyC_BadNumber => k_is)
    (case meC_BadNumber => first | rfl | k_is)
    (case xL_BadNumber => k_is)
    (case sa_BadNumber => k_is)
    (case kC_BadNumber => k_is)
    (case ti_BadNumber => k_is)
    (case ga_BadNumber => k_is)
    (case gg_BadNumber => k_is)
    (case ha_BadNumber => k_is)
    (case hn_ => k_is)
    (case ht_ => k_is)
    (case hm_BadNumber => k_is)
    (case nf_BadNumber_name => k_is)
    (case nf_BadNumber_value => k_is)
    (case exC_TooMany => k_is)
    (case hdC_TooMany => k_is)
    (case tyC_TooMany => k_is)
    (case meC_TooMany => first | rfl | k_is)
    (case xL_TooMany => k_is)
    (case sa_TooMany => k_is)
    (case kC_TooMany => k_is)
    (case ti_TooMany => k_is)
    (case ga_TooMany => k_is)
    (case gg_TooMany => k_is)
    (case ha_TooMany => k_is)
    (case hm_TooMany => k_is)
    (case nf_TooMany_name => k_is)
    (case nf_TooMany_most => k_is)
    (case exC_BadName => k_is)
    (case hdC_BadName => k_is)
    (case tyC_BadName => k_is)
    (case meC_BadName => first | rfl | k_is)
    (case xL_BadName => k_is)
    (case sa_BadName => k_is)
    (case kC_BadName => k_is)
    (case ti_BadName => k_is)
    (case ga_BadName => k_is)
    (case gg_BadName => k_is)
    (case ha_BadName => k_is)
    (case hm_BadName => k_is)
    (case nf_BadName_name => k_is)
    (case exC_RepeatedName => k_is)
    (case hdC_RepeatedName => k_is)
    (case tyC_RepeatedName => k_is)
    (case meC_RepeatedName => first | rfl | k_is)
    (case xL_RepeatedName => k_is)
    (case sa_RepeatedName => k_is)
    (case kC_RepeatedName => k_is)
    (case ti_RepeatedName => k_is)
    (case ga_RepeatedName => k_is)
    (case gg_RepeatedName => k_is)
    (case ha_RepeatedName => k_is)
    (case hm_RepeatedName => k_is)
    (case nf_RepeatedName_name => k_is)
    (case exC_WrongLength => k_is)
    (case hdC_WrongLength => k_is)
    (case tyC_WrongLength => k_is)
    (case meC_WrongLength => first | rfl | k_is)
    (case xL_WrongLength => k_is)
    (case sa_WrongLength => k_is)
    (case kC_WrongLength => k_is)
    (case ti_WrongLength => k_is)
    (case ga_WrongLength => k_is)
    (case gg_WrongLength => k_is)
    (case ha_WrongLength => k_is)
    (case hm_WrongLength => k_is)
    (case nf_WrongLength_length => k_is)
    (case exC_RepeatedHour => k_is)
    (case hdC_RepeatedHour => k_is)
    (case tyC_RepeatedHour => k_is)
    (case meC_RepeatedHour => first | rfl | k_is)
    (case xL_RepeatedHour => k_is)
    (case sa_RepeatedHour => k_is)
    (case kC_RepeatedHour => k_is)
    (case ti_RepeatedHour => k_is)
    (case ga_RepeatedHour => k_is)
    (case gg_RepeatedHour => k_is)
    (case ha_RepeatedHour => k_is)
    (case hm_RepeatedHour => k_is)
    (case nf_RepeatedHour_hour => k_is)
    (case exC_NoPlace => k_is)
    (case hdC_NoPlace => k_is)
    (case tyC_NoPlace => k_is)
    (case meC_NoPlace => first | rfl | k_is)
    (case xP_NoPlace => k_exc)
    (case kP_NoPlace => k_is)
    (case ga_NoPlace => k_is)
    (case gg_NoPlace => k_is)
    (case ha_NoPlace => k_is)
    (case hm_NoPlace => k_is)
    (case exC_OtherHours => k_is)
    (case hdC_OtherHours => k_is)
    (case tyC_OtherHours => k_is)
    (case meC_OtherHours => first | rfl | k_is)
    (case xP_OtherHours => k_exc)
    (case kP_OtherHours => k_is)
    (case ga_OtherHours => k_is)
    (case gg_OtherHours => k_is)
    (case ha_OtherHours => k_is)
    (case hm_OtherHours => k_is)
    (case exC_OtherHouse => k_is)
    (case hdC_OtherHouse => k_is)
    (case tyC_OtherHouse => k_is)
    (case meC_OtherHouse => first | rfl | k_is)
    (case xP_OtherHouse => k_exc)
    (case kP_OtherHouse => k_is)
    (case ga_OtherHouse => k_is)
    (case gg_OtherHouse => k_is)
    (case ha_OtherHouse => k_is)
    (case hm_OtherHouse => k_is)
    (case exC_WatchError => k_is)
    (case hdC_WatchError => k_is)
    (case tyC_WatchError => k_is)
    (case meC_WatchError => first | rfl | k_is)
    (case sub_NoPlace_WatchError => k_is)
    (case sub_NoPlace_ValueError => k_is)
    (case sub_NoPlace_OtherHours => k_is)
    (case sub_NoPlace_BadNumber => k_is)
    (case sub_OtherHours_WatchError => k_is)
    (case sub_OtherHours_ValueError => k_is)
    (case sub_OtherHours_OtherHouse => k_is)
    (case sub_OtherHours_NoPlace => k_is)
    (case pg_House => k_is)
    (case hd_House => k_is)
    (case po_House => k_is)
    (case sa_House => k_is)
    (case mk_House => k_is)
    (case kc_House => k_is)
    (case if_17 => k_is)
    (case na_House_hours => k_is)
    (case na_House_names => k_is)
    (case na_House_stakes => k_is)
    (case ha_House => k_is)
    (case hm_House => k_is)
    (case rd_House => k_is)
    (case gt_House => k_is)
    (case cv_House_MOST_HOURS => k_is)
    (case cv_House_MOST_GATES => k_is)
    (case cv_House_MOST_CELLS => k_is)
    (case cv_House_MOST_STAKE => k_is)
    (case pg_Beat => k_is)
    (case hd_Beat => k_is)
    (case po_Beat => k_is)
    (case sa_Beat => k_is)
    (case mk_Beat => k_is)
    (case kc_Beat => k_is)
    (case if_21 => k_is)
    (case na_Beat_house => k_is)
    (case na_Beat_steps => k_is)
    (case sf_Beat => k_is)
    (case si_Beat => k_is)
    (case dn_Beat_lshift => k_is)
    (case rc_Beat_lshift => k_is)
    (case lo_Beat_lshift => k_is)
    (case ro_Beat_lshift => k_is)
    (case ci_Beat => k_is)
    (case meC_mro_Beat => first | rfl | k_is)
    (case ic_Beat_lshift => k_is)
    (case io_lshift => k_is)
    (case nn_Beat => k_is)
    (case hm_Beat => k_is)
    (case ha_Beat => k_is)
    (case pg_Lot => k_is)
    (case hd_Lot => k_is)
    (case po_Lot => k_is)
    (case sa_Lot => k_is)
    (case mk_Lot => k_is)
    (case kc_Lot => k_is)
    (case if_6 => k_is)
    (case na_Lot_hours => k_is)
    (case na_Lot_members => k_is)
    (case sf_Lot => k_is)
    (case si_Lot => k_is)
    (case dn_Lot_lshift => k_is)
    (case rc_Lot_lshift => k_is)
    (case lo_Lot_lshift => k_is)
    (case ro_Lot_lshift => k_is)
    (case ha_Lot => k_is)
    (case hm_Lot => k_is)
    (case rd_Lot => k_is)
    (case gt_Lot => k_is)
    (case cv_Lot_MOST => k_is)
    (case pg_Crew => k_is)
    (case hd_Crew => k_is)
    (case po_Crew => k_is)
    (case sa_Crew => k_is)
    (case mk_Crew => k_is)
    (case kc_Crew => k_is)
    (case if_27 => k_is)
    (case na_Crew_beat => k_is)
    (case na_Crew_starts => k_is)
    (case sf_Crew => k_is)
    (case si_Crew => k_is)
    (case dn_Crew_lshift => k_is)
    (case rc_Crew_lshift => k_is)
    (case lo_Crew_lshift => k_is)
    (case ro_Crew_lshift => k_is)
    (case ci_Crew => k_is)
    (case meC_mro_Crew => first | rfl | k_is)
    (case ic_Crew_lshift => k_is)
    (case nn_Crew => k_is)
    (case hm_Crew => k_is)
    (case ha_Crew => k_is)
    (case pg_7 => k_is)
    (case pt_7 => k_is)
    (case if_8 => k_is)
    (case if_9 => k_is)
    (case if_10 => k_is)
    (case if_11 => k_is)
    (case if_12 => k_is)
    (case if_13 => k_is)
    (case if_14 => k_is)
    (case if_18 => k_is)
    (case if_19 => k_is)
    (case if_22 => k_is)
    (case if_23 => k_is)
    (case fi_23 => k_is)
    (case if_24 => k_is)
    (case if_25 => k_is)
    (case if_28 => k_is)
    (case if_29 => k_is)
    (case if_30 => k_is)
    (case if_31 => k_is)
    (case if_32 => k_is)
#print axioms PySem.Challenge.cw_watchbeats_k26_crew_counted_holds
