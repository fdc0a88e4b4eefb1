import PyProof.Rows.All
import Wide.All
import OpenK.AllK
import Wide.FinOn
import HandS.ForMost
import HandS.Exc
import HandS.ExcInit
import HandS.ExcField
import HandS.ExcIs
import KE.KExcIs
import HandS.IsInst
import HandS.CallSlots
import HandS.WordsExc
import HandS.Wide
import HandS.Gcd
import HandS.Style
import HandS.Evl
import HandS.Property
import HandS.ClsMeth
import HandS.Deep
import HandS.IterVal
import HandS.OwnIter
import HandS.Conv
import KE.KOwnIter
import HandS.SortInts
import KE.KOpsOwn
import HandS.OwnEq
import HandS.SlotsOwn
import KE.DataCmp
import KE.SortData
import HandS.Walk
import HandS.WideBits
import PyProof.Rows.BitMore
import HandS.Zip
import HandS.Iter
import KE.GoesEnum
import KE.GoesZip
import KE.GoesMore
import KE.OsArith
import HandS.List
import KE.KStateDown
import HandS.Head0
import HandS.Head1
import HandS.Head2
import HandS.Head3
import HandS.HeadEnd
import HandS.HeadHook1
import HandS.HeadHook2
import HandS.HeadNt
import PySem.Challenge.RW_watchbeats_k20_whole_fewest_tree
set_option Elab.async false
set_option linter.all false
set_option maxRecDepth 100000
set_option maxHeartbeats 4000000
/-! the tree of cases, def by def -/
namespace Pf
open PySem L2 Evl

def topS (i : Nat) : Stmt := PySem.Challenge.pw_watchbeats_k20_whole_fewest_tree.main.body.getD i (.Pass ⟨0, 0, 0, 0⟩)
abbrev s_BadNumber_init : Stmt := inClass (topS 7) 0
abbrev N_BadNumber_init : List Str := ["self", "name", "value"]
abbrev s_TooMany_init : Stmt := inClass (topS 8) 0
abbrev N_TooMany_init : List Str := ["self", "name", "most"]
abbrev s_RepeatedHour_init : Stmt := inClass (topS 9) 0
abbrev N_RepeatedHour_init : List Str := ["self", "hour"]
abbrev s_WrongLength_init : Stmt := inClass (topS 13) 0
abbrev N_WrongLength_init : List Str := ["self", "length"]
abbrev s_NotEnough_init : Stmt := inClass (topS 14) 0
abbrev N_NotEnough_init : List Str := ["self", "index"]
abbrev s_Lot_init : Stmt := inClass (topS 16) 1
abbrev N_Lot_init : List Str := ["self", "hours", "members", "taken", "member", "hour"]
abbrev s_Lot_members : Stmt := inClass (topS 16) 3
abbrev N_Lot_members : List Str := ["self"]
abbrev s_Lot_iter : Stmt := inClass (topS 16) 7
abbrev N_Lot_iter : List Str := ["self"]
abbrev s_Lot_len : Stmt := inClass (topS 16) 6
abbrev N_Lot_len : List Str := ["self"]
abbrev s_u_check : Stmt := topS 26
abbrev N_u_check : List Str := ["lots", "needs", "hours", "lot", "need"]
abbrev s_bits_of : Stmt := topS 2
abbrev N_bits_of : List Str := ["numbers", "bits", "number"]
abbrev s_listed : Stmt := topS 3
abbrev N_listed : List Str := ["bits", "at"]
abbrev s_bit_counts : Stmt := topS 4
abbrev N_bit_counts : List Str := ["width", "counts", "bits"]
abbrev s_Fewest_init : Stmt := inClass (topS 23) 0
abbrev N_Fewest_init : List Str := ["self", "starts", "tree"]
abbrev s_u_starts_meeting : Stmt := topS 27
abbrev N_u_starts_meeting : List Str := ["lot", "hour", "member"]
abbrev s_Demand_init : Stmt := inClass (topS 24) 0
abbrev N_Demand_init : List Str := ["self", "lots", "needs", "lot", "hour"]
abbrev s_Demand_lacks : Stmt := inClass (topS 24) 1
abbrev N_Demand_lacks : List Str := ["self", "taken", "gate", "counts", "need", "starts"]
abbrev s_Demand_is_met : Stmt := inClass (topS 24) 2
abbrev N_Demand_is_met : List Str := ["self", "taken", "gate"]
abbrev s_u_least_met : Stmt := topS 28
abbrev N_u_least_met : List Str := ["demand", "counts", "least", "taken"]
abbrev s_u_split : Stmt := topS 30
abbrev N_u_split : List Str := ["demand", "taken", "barred", "room", "place", "gate", "hour", "branches", "below", "start"]
abbrev s_u_tree : Stmt := topS 29
abbrev N_u_tree : List Str := ["demand", "taken", "barred", "room", "lacks", "gate", "size", "spare", "place", "row", "hour", "lack", "free", "left"]
abbrev s_fewest_starts : Stmt := topS 25
abbrev N_fewest_starts : List Str := ["lots", "needs", "gate", "need", "demand", "starts"]
abbrev s_u_law_cell : Stmt := topS 32
abbrev N_u_law_cell : List Str := ["script", "k"]
abbrev s_u_law_draws : Stmt := topS 33
abbrev N_u_law_draws : List Str := ["cell", "salt", "menu", "found", "rest", "mixed", "k"]
abbrev s_u_law_two : Stmt := topS 34
abbrev N_u_law_two : List Str := ["n", "power", "k"]
abbrev s_u_law_bits : Stmt := topS 35
abbrev N_u_law_bits : List Str := ["n", "number", "found", "h"]
abbrev s_u_law_is_int : Stmt := topS 36
abbrev N_u_law_is_int : List Str := ["x"]
abbrev s_u_law_same : Stmt := topS 37
abbrev N_u_law_same : List Str := ["got", "due", "k"]
abbrev s_u_law_gate : Stmt := topS 38
abbrev N_u_law_gate : List Str := ["n", "draws", "size", "barred", "h", "side", "other"]
abbrev s_u_law_lack : Stmt := topS 39
abbrev N_u_law_lack : List Str := ["n", "side", "need", "taken", "h", "met", "s"]
abbrev s_u_law_free : Stmt := topS 40
abbrev N_u_law_free : List Str := ["n", "side", "taken", "barred", "h", "starts", "s"]
abbrev s_u_law_below : Stmt := topS 41
abbrev N_u_law_below : List Str := ["n", "sides", "needs", "case", "node", "g", "lacks", "h", "lack", "free", "k"]
abbrev s_u_law_shows : Stmt := topS 42
abbrev N_u_law_shows : List Str := ["n", "sides", "needs", "tree", "room", "cases", "k", "below"]
abbrev s_u_law_meets_all : Stmt := topS 43
abbrev N_u_law_meets_all : List Str := ["n", "sides", "needs", "starts", "g", "h"]
abbrev s_law : Stmt := topS 44
abbrev N_law : List Str := ["script", "first", "n", "many", "menu", "size", "sides", "g", "h", "needs", "side", "need", "lots", "wanted", "found", "starts", "s", "lot"]

theorem some_int {ns : List Int} {i : Nat} {y : V} (h : (ns.map V.int)[i]? = some y) : ∃ u, y = V.int u ∧ ns[i]? = some u := by
  rw [List.getElem?_map] at h
  cases e : ns[i]? with
  | none => rw [e] at h; cases h
  | some u => rw [e] at h; exact ⟨u, (Option.some.inj h).symm, rfl⟩
theorem wayT {c A B : Prop} [Decidable c] (h : c) (a : A) : if decide c = true then A else B := by rw [decide_eq_true h]; exact iteT a
theorem wayF {c A B : Prop} [Decidable c] (h : ¬ c) (b : B) : if decide c = true then A else B := by rw [decide_eq_false h]; exact iteF b
theorem way {c A B : Prop} [Decidable c] (a : c → A) (b : ¬ c → B) : if decide c = true then A else B := by
  by_cases h : c
  · exact wayT h (a h)
  · exact wayF h (b h)
theorem wayNT {c A B : Prop} [Decidable c] (h : c) (b : B) : if (!decide c) = true then A else B := by rw [decide_eq_true h]; exact iteF b
theorem wayNF {c A B : Prop} [Decidable c] (h : ¬ c) (a : A) : if (!decide c) = true then A else B := by rw [decide_eq_false h]; exact iteT a
theorem dec_ii {a b : Int} : decide (V.int a = V.int b) = decide (a = b) := by simp
theorem dec_bb {a b : Bool} : decide (V.bl a = V.bl b) = decide (a = b) := by simp
/-- the names of a comprehension's block within another scope -/
def relS (scope outer : Scope) : Scope := { scope with names := scope.names.map fun (n, k) => if (k == .free && outer.kind == .function && outer.names.lookup n == some .cell) then (n, .cell) else (n, k) }
/-- the ints that a comprehension over a range gives -/
def pick (n : Nat) (f : Nat → Bool) (g : Nat → Int) : List Int := ((List.range n).filter f).map g
theorem given_pick (n : Nat) (f : Nat → Bool) (g : Nat → Int) : given n f (fun i => V.int (g i)) = (pick n f g).map V.int := by
  unfold given pick
  rw [List.map_map]
  rfl
theorem pick_len (n : Nat) (f : Nat → Bool) (g : Nat → Int) : (pick n f g).length ≤ n := by
  unfold pick
  rw [List.length_map]
  have := List.length_filter_le f (List.range n)
  rwa [List.length_range] at this
theorem pick_congr {n : Nat} {f f' : Nat → Bool} {g : Nat → Int} (h : ∀ i, i < n → f i = f' i) : pick n f g = pick n f' g := by
  unfold pick
  rw [List.filter_congr fun i hi => h i (List.mem_range.mp hi)]
theorem el_rng2 {σ : L2.St} {H : Hp} {te : TE} {tt : TT} {ta : TA} {j : Nat} {vs : List Nat} {lo hi : Int} (f : Nat → Bool) (v : Nat → V) (h : EvA ta σ H [.int lo, .int hi]) (hn : 0 ≤ lo ∧ lo ≤ 40000 ∧ -40000 ≤ hi ∧ hi ≤ 40000)
    (hw : ∀ x, wipe ((wipe σ vs).set j (some x)) vs = wipe σ vs)
    (ht : ∀ (i : Nat) H1, Ex H H1 → lo + (i : Int) < hi → EvT tt ((wipe σ vs).set j (some (.int (lo + (i : Int))))) H1 (f i))
    (he : ∀ (i : Nat) H1, Ex H H1 → lo + (i : Int) < hi → f i = true → Ev te ((wipe σ vs).set j (some (.int (lo + (i : Int))))) H1 (v i)) :
    EvL (tLc (iRng2 ta) (gName j) tt te vs) σ H (given (hi - lo).toNat f v) := by
  intro H0 e Q q
  refine h H0 e _ fun H1 e1 => ⟨lo, hi, rfl, ⟨by omega, by omega, by omega, by omega⟩, fun D hD => ?_⟩
  exact lc_range (lo := lo) (n := (hi - lo).toNat) (Cw H1 f v D) ⟨hD, Ex.new hD, upd_same⟩
    (fun i H' hi' p => ⟨hw _, cw_turn p (by omega) (ht i H1 (e.trans e1) (by omega)) (fun hf => he i H1 (e.trans e1) (by omega) hf)⟩)
    (fun H' p => q D H' (fresh_back e1 p.1) (e1.trans p.2.1) p.2.2)
theorem given_list (xs : List Int) (p : Int → Bool) : given (xs.map V.int).length (fun i => p (xs.getD i 0)) (fun i => V.int (xs.getD i 0)) = (xs.filter p).map V.int := by
  rw [List.length_map]
  induction xs with
  | nil => rfl
  | cons x xs ih =>
    unfold given at ih ⊢
    rw [List.length_cons, List.range_succ_eq_map, List.filter_cons, List.filter_map]
    have e : ∀ (z : List Nat), (z.filter ((fun i => p ((x :: xs).getD i 0)) ∘ Nat.succ)) = z.filter fun i => p (xs.getD i 0) := fun z => List.filter_congr fun i _ => by simp
    rw [e]
    by_cases hp : p x = true
    · rw [if_pos (by simpa using hp), List.filter_cons, if_pos hp, List.map_cons, List.map_cons, ← ih, List.map_map]
      simp
    · rw [if_neg (by simpa using hp), List.filter_cons, if_neg hp, ← ih, List.map_map]
      simp
theorem el_lst1 {K : PySem.W.Frag} {σ : L2.St} {H : Hp} {te tl : TE} {tt : TT} {j : Nat} {vs : List Nat} {a : Addr} (xs : List Int) (p : Int → Bool) (h : Ev tl σ H (.ref a)) (hx : SqL K H a (xs.map V.int)) (hz : xs.length ≤ 40000)
    (hw : ∀ x, wipe ((wipe σ vs).set j (some x)) vs = wipe σ vs)
    (ht : ∀ (x : Int) H1, Ex H H1 → x ∈ xs → EvT tt ((wipe σ vs).set j (some (.int x))) H1 (p x))
    (he : ∀ (x : Int) H1, Ex H H1 → x ∈ xs → Ev te ((wipe σ vs).set j (some (.int x))) H1 (.int x)) :
    EvL (tLc (iList K tl) (gName j) tt te vs) σ H ((xs.filter p).map V.int) := by
  rw [← given_list]
  have get : ∀ (i : Nat) (x : V), (xs.map V.int)[i]? = some x → x = .int (xs.getD i 0) ∧ xs.getD i 0 ∈ xs := fun i x hi => by
    obtain ⟨u, e, hu⟩ := some_int hi
    rw [List.getD_eq_getElem?_getD, hu]
    exact ⟨e, List.mem_of_getElem? hu⟩
  refine el_lcL _ _ h hx (by rw [List.length_map]; exact hz) hw (fun i x H1 e1 hi => ?_) (fun i x H1 e1 hi _ => ?_)
  · obtain ⟨rfl, hm⟩ := get i x hi
    exact ht _ H1 e1 hm
  · obtain ⟨rfl, hm⟩ := get i x hi
    exact he _ H1 e1 hm
theorem given_gen {α : Type} (d : α) (ps : List α) (p : α → Bool) (v : α → V) : given ps.length (fun i => p (ps.getD i d)) (fun i => v (ps.getD i d)) = (ps.filter p).map v := by
  induction ps with
  | nil => rfl
  | cons x xs ih =>
    unfold given at ih ⊢
    rw [List.length_cons, List.range_succ_eq_map, List.filter_cons, List.filter_map]
    have e : ∀ (z : List Nat), (z.filter ((fun i => p ((x :: xs).getD i d)) ∘ Nat.succ)) = z.filter fun i => p (xs.getD i d) := fun z => List.filter_congr fun i _ => by simp
    rw [e]
    by_cases hp : p x = true
    · rw [if_pos (by simpa using hp), List.filter_cons, if_pos hp, List.map_cons, List.map_cons, ← ih, List.map_map]
      simp
    · rw [if_neg (by simpa using hp), List.filter_cons, if_neg hp, ← ih, List.map_map]
      simp
/-- a comprehension over a list whose items stand for the things of ps, the target of any form -/
theorem el_lstG {α : Type} (d : α) {K : PySem.W.Frag} {σ : L2.St} {H : Hp} {te tl : TE} {tt : TT} {g : TG} {vs : List Nat} {a : Addr} (xs : List V) (ps : List α) (p : α → Bool) (v : α → V) (τ : α → L2.St)
    (h : Ev tl σ H (.ref a)) (hx : SqL K H a xs) (hl : xs.length = ps.length) (hz : ps.length ≤ 40000)
    (hg : ∀ (i : Nat) x y H1 (k : L2.St → Hp → Prop), Ex H H1 → xs[i]? = some x → ps[i]? = some y → k (τ y) H1 → g x (wipe σ vs) H1 k)
    (hw : ∀ y, wipe (τ y) vs = wipe σ vs) (ht : ∀ y H1, Ex H H1 → y ∈ ps → EvT tt (τ y) H1 (p y)) (he : ∀ y H1, Ex H H1 → y ∈ ps → p y = true → Ev te (τ y) H1 (v y)) :
    EvL (tLc (iList K tl) g tt te vs) σ H ((ps.filter p).map v) := by
  rw [← given_gen d ps p v]
  intro H0 e0 Q q
  refine h H0 e0 _ fun H1 e1 => ⟨a, rfl, ⟨xs, ex_l (e0.trans e1) hx⟩, fun D hD => ?_⟩
  refine lc_list (xs := xs) (Cw H1 (fun i => p (ps.getD i d)) (fun i => v (ps.getD i d)) D) ⟨hD, Ex.new hD, upd_same⟩ (fun i H' _ c => ex_l ((e0.trans e1).trans c.2.1) hx) (fun i x H' hi c => ?_)
    (fun H' c => by rw [hl] at c; exact q D H' (fresh_back e1 c.1) (e1.trans c.2.1) c.2.2)
  have hil : i < ps.length := by
    have := (List.getElem?_eq_some_iff.mp hi).1
    omega
  have hy : ps[i]? = some (ps.getD i d) := by rw [List.getD_eq_getElem?_getD, List.getElem?_eq_getElem hil]; rfl
  refine hg i x _ H' _ ((e0.trans e1).trans c.2.1) hi hy ⟨hw _, ?_⟩
  exact cw_turn c (by omega) (ht _ H1 (e0.trans e1) (List.mem_of_getElem? hy)) (fun hf => he _ H1 (e0.trans e1) (List.mem_of_getElem? hy) hf)
/-- an if without else, then what follows where M holds -/
theorem q_alt {b : Bool} {t : TT} {tu tz : TS} {D : Ends} {σ : L2.St} {H : Hp} (M : L2.St → Hp → Prop) (h : EvT t σ H b) (h1 : b = true → ∀ H1, Ex H H1 → ∀ W : L2.St → Hp → Prop, (∀ σ' H', M σ' H' → W σ' H') → tu { D with nx := W } σ H1)
    (h2 : b = false → ∀ H1, Ex H H1 → M σ H1) (k : ∀ σ' H', M σ' H' → tz D σ' H') : tSeq (tIfS t tu tNext) tz D σ H :=
  q_when h (fun hb H1 e1 => h1 hb H1 e1 _ k) (fun hb H1 e1 => k _ _ (h2 hb H1 e1))
theorem q_two {b : Bool} {t : TT} {tu tw tz : TS} {D : Ends} {σ : L2.St} {H : Hp} (M : L2.St → Hp → Prop) (h : EvT t σ H b) (h1 : b = true → ∀ H1, Ex H H1 → ∀ W : L2.St → Hp → Prop, (∀ σ' H', M σ' H' → W σ' H') → tu { D with nx := W } σ H1)
    (h2 : b = false → ∀ H1, Ex H H1 → ∀ W : L2.St → Hp → Prop, (∀ σ' H', M σ' H' → W σ' H') → tw { D with nx := W } σ H1) (k : ∀ σ' H', M σ' H' → tz D σ' H') : tSeq (tIfS t tu tw) tz D σ H :=
  q_if h (fun hb H1 e1 => h1 hb H1 e1 _ k) (fun hb H1 e1 => h2 hb H1 e1 _ k)
/-- .. over a list that was just made -/
theorem el_lstN {α : Type} (d : α) {K : PySem.W.Frag} {σ : L2.St} {H : Hp} {te tl : TE} {tt : TT} {g : TG} {vs : List Nat} (xs : List V) (ps : List α) (p : α → Bool) (v : α → V) (τ : α → L2.St)
    (h : EvL tl σ H xs) (hl : xs.length = ps.length) (hz : ps.length ≤ 40000) (hg : ∀ (i : Nat) x y H1 (k : L2.St → Hp → Prop), Ex H H1 → xs[i]? = some x → ps[i]? = some y → k (τ y) H1 → g x (wipe σ vs) H1 k)
    (hw : ∀ y, wipe (τ y) vs = wipe σ vs) (ht : ∀ y H1, Ex H H1 → y ∈ ps → EvT tt (τ y) H1 (p y)) (he : ∀ y H1, Ex H H1 → y ∈ ps → p y = true → Ev te (τ y) H1 (v y)) :
    EvL (tLc (iList K tl) g tt te vs) σ H ((ps.filter p).map v) := by
  intro H0 e0 Q q
  refine h H0 e0 _ fun a H1 ha e1 h1 => ?_
  refine el_lstG (K := K) (te := te) (tl := tC (.ref a)) (tt := tt) (g := g) (vs := vs) (σ := σ) (H := H1) d xs ps p v τ ev_c (sq_of h1) hl hz (fun i x y H2 k e2 => hg i x y H2 k ((e0.trans e1).trans e2)) hw (fun y H2 e2 => ht y H2 ((e0.trans e1).trans e2)) (fun y H2 e2 => he y H2 ((e0.trans e1).trans e2)) H1 (Ex.refl _) Q fun b H2 hb e2 h2 => q b H2 (fresh_back e1 hb) (e1.trans e2) h2
theorem pick_succ {n : Nat} {f : Nat → Bool} {g : Nat → Int} : pick (n + 1) f g = pick n f g ++ (if f n = true then [g n] else []) := by
  unfold pick
  rw [List.range_succ, List.filter_append, List.map_append, List.filter_cons]
  by_cases h : f n = true
  · rw [if_pos h, if_pos h]; rfl
  · rw [if_neg h, if_neg h]; rfl
theorem ev_gcd {σ : L2.St} {H : Hp} {ta : TA} {a b : Int} (h : EvA ta σ H [.int a, .int b]) : Ev (tCB rGcd ta) σ H (.int ((Nat.gcd a.natAbs b.natAbs : Nat) : Int)) :=
  ev_cb h fun H1 _ _ q => ⟨a, b, rfl, q H1 (Ex.refl H1)⟩
/-! ### rules whose reading says K by its own letter (within a comprehension's block too) -/
theorem ix_lK {X : Cx} {K : PySem.W.Frag} (h : X.K = K := by rfl) : IxR X (rIxL K) := by subst h; exact ix_list
theorem ix_tK {X : Cx} {K : PySem.W.Frag} (h : X.K = K := by rfl) : IxR X (rIxT K) := by subst h; exact ix_tup
theorem ix_sK {X : Cx} {K : PySem.W.Frag} (h : X.K = K := by rfl) : IxR X (rIx K) := by subst h; exact ix_seq
def rLenK (K : PySem.W.Frag) : List V → Hp → VK → Prop := fun xs H Q => ∃ x n, xs = [x] ∧ LenV K x H n ∧ Q (.int (n : Nat)) H
theorem len_K {X : Cx} {K : PySem.W.Frag} (h : X.K = K := by rfl) : CallR X (.builtin "len") (rLenK K) := by subst h; exact call_len
def rListK (K : PySem.W.Frag) : List V → Hp → VK → Prop := fun zs H Q => ∃ p ys, zs = [.ref p] ∧ (SqL K H p ys ∨ SqT K H p ys) ∧
  ∀ l, H l = none → Q (.ref l) (upd H l (.lst ys))
theorem list_K {X : Cx} {K : PySem.W.Frag} (h : X.K = K := by rfl) : CallR X (.type "list") (rListK K) := by subst h; exact call_list_of
theorem in_K {X : Cx} {K : PySem.W.Frag} (h : X.K = K := by rfl) : OpR X (compareOp .In) (rIn K false) := by subst h; exact op_in_seq
theorem notin_K {X : Cx} {K : PySem.W.Frag} (h : X.K = K := by rfl) : OpR X (compareOp .NotIn) (rIn K true) := by subst h; exact op_notIn_seq
theorem pg_tupK {X : Cx} {K : PySem.W.Frag} {pos : Pos} {es : List Expr} {k : Nat} {t : TGs} {n : Nat} (hk : X.K = K) (hc : X.calm = true) (h : PGs X es t)
    (hn : (assignEach es X.env).length = n := by rfl) (hst : (assignEach es X.env).findIdx? (·.1) = none := by rfl) : PG X (.Tuple es k pos) (gTup K n t) := by subst hk; exact pg_tup hc h hn hst
theorem pe_fldK {X : Cx} {K : PySem.W.Frag} {e : Expr} {f : Str} {pos : Pos} {ta : TE} (he : PE X e ta) (hb : attributeBase e f X.env (eval e X.env) = eval e X.env) (hk : X.K = K := by rfl) : PE X (.Attribute e f pos) (tFld K ta f) := by subst hk; exact pe_fld he hb
theorem eqD_K {X : Cx} {K : PySem.W.Frag} (hu : X.A.units + 64 < cLine) (hk : X.K = K := by rfl) : OpR X (compareOp .Eq) (rEqD K) := by subst hk; exact op_eqD hu
theorem neD_K {X : Cx} {K : PySem.W.Frag} (hu : X.A.units + 64 < cLine) (hk : X.K = K := by rfl) : OpR X (compareOp .NotEq) (rNeD K) := by subst hk; exact op_neD hu
theorem isi_K {X : Cx} {K : PySem.W.Frag} (h : X.K = K := by rfl) : CallR X (.builtin "isinstance") (rIsi K) := by subst h; exact call_isi
/-! ### data -/
/-- data of a depth below n, of lists and tuples that are not too long -/
def Flat : Nat → PyData → Prop
  | 0, _ => False
  | n + 1, .list ds => ds.length ≤ 40000 ∧ ∀ d ∈ ds, Flat n d
  | n + 1, .tuple ds => ds.length ≤ 40000 ∧ ∀ d ∈ ds, Flat n d
  | _ + 1, .dict _ => False
  | _ + 1, _ => True
theorem dp_get {K : PySem.W.Frag} {H : Hp} : ∀ {xs : List V} {ds : List PyData}, DpAll K H xs ds → xs.length = ds.length ∧ ∀ (i : Nat) (d : PyData), ds[i]? = some d → ∃ x, xs[i]? = some x ∧ Dp K H x d
  | _, _, .nil => ⟨rfl, fun i d h => by simp at h⟩
  | _, _, .cons a r => by
    obtain ⟨l, g⟩ := dp_get r
    refine ⟨by simp [l], fun i d h => ?_⟩
    cases i with
    | zero => exact ⟨_, rfl, by simp at h; subst h; exact a⟩
    | succ i => simpa using g i d (by simpa using h)
theorem flatI {ns : List Int} (h : ns.length ≤ 360) : Flat 4 (.list (ns.map .int)) :=
  ⟨by rw [List.length_map]; omega, fun d hd => by
    obtain ⟨i, _, rfl⟩ := List.mem_map.mp hd
    exact True.intro⟩
theorem dp_ints {K : PySem.W.Frag} {H : Hp} : ∀ ns : List Int, DpAll K H (ns.map V.int) (ns.map PyData.int)
  | [] => .nil
  | n :: ns => .cons (.int n) (dp_ints ns)
mutual
theorem dp_ex {K : PySem.W.Frag} {H H' : Hp} (e : Ex H H') : ∀ {v : V} {d : PyData}, Dp K H v d → Dp K H' v d
  | _, _, .non => .non
  | _, _, .bl b => .bl b
  | _, _, .int i => .int i
  | _, _, .str x => .str x
  | _, _, .lst s a => .lst (ex_l e s) (dpa_ex e a)
  | _, _, .tup s a => .tup (ex_t e s) (dpa_ex e a)
theorem dpa_ex {K : PySem.W.Frag} {H H' : Hp} (e : Ex H H') : ∀ {vs : List V} {ds : List PyData}, DpAll K H vs ds → DpAll K H' vs ds
  | _, _, .nil => .nil
  | _, _, .cons a r => .cons (dp_ex e a) (dpa_ex e r)
end
theorem tyx_l {K : PySem.W.Frag} {H : Hp} {a : Addr} {xs : List V} (h : SqL K H a xs) : TyX K H (.ref a) (.type "list") := by
  rcases h with (h | ⟨o, h⟩) | ⟨o, its, n, h, c, _⟩
  · exact .base (.lst h)
  · exact .base (.frz h)
  · exact .kList h c
theorem tyx_t {K : PySem.W.Frag} {H : Hp} {a : Addr} {xs : List V} (h : SqT K H a xs) : TyX K H (.ref a) (.type "tuple") := by
  rcases h with (h | ⟨o, h⟩) | ⟨o, its, n, h, c, _⟩
  · exact .base (.tup h)
  · exact .fTuple h
  · exact .kTuple h c
/-- x is True, x is False, whatever x is -/
def rIsK : R2 := fun x y H Q => ∃ b : Bool, y = .bl b ∧ Q (.bl (decide (x = .bl b))) H
theorem op_isK {X : Cx} : OpR X (compareOp .Is) rIsK := by
  intro pins s σ H x y v u Q I rx ry h
  obtain ⟨b, hy, q⟩ := h
  subst hy
  cases (show u = Value.bool b from ry)
  have fin : ∀ k : Bool, k = decide (x = V.bl b) → EP X pins σ Q (.bool k) s := fun k e => ⟨.bl k, H, I, rfl, by rw [e]; exact q⟩
  cases x with
  | non => cases (show v = Value.none from rx); exact wpAny_is_other rfl (fun z => by cases z) (fin _ (by simp))
  | bl a =>
    cases (show v = Value.bool a from rx)
    by_cases e : a = b
    · subst e; exact wpAny_is_self rfl (fin _ (by simp))
    · exact wpAny_is_other rfl (fun z => e (Value.bool.inj z)) (fin _ (by simp [e]))
  | int i => obtain ⟨t, ev⟩ := rx; subst ev; exact wpAny_is_other rfl (fun z => by cases z) (fin _ (by simp))
  | str i => obtain ⟨t, ev⟩ := rx; subst ev; exact wpAny_is_other rfl (fun z => by cases z) (fin _ (by simp))
  | byt i => obtain ⟨t, ev⟩ := rx; subst ev; exact wpAny_is_other rfl (fun z => by cases z) (fin _ (by simp))
  | flt i => obtain ⟨t, ev⟩ := rx; subst ev; exact wpAny_is_other rfl (fun z => by cases z) (fin _ (by simp))
  | ref a => cases (show v = Value.ref a from rx); exact wpAny_is_other rfl (fun z => by cases z) (fin _ (by simp))
  | ty n => cases (show v = Value.type n from rx); exact wpAny_is_other rfl (fun z => by cases z) (fin _ (by simp))
theorem atI_ints {ns : List Int} {i : Int} (h0 : 0 ≤ i) (h1 : i < (ns.length : Int)) : atI (ns.map V.int) i = some (.int (ns.getD i.toNat 0)) := by
  obtain ⟨j, rfl⟩ : ∃ j : Nat, i = (j : Int) := ⟨i.toNat, by omega⟩
  refine atI_nat ?_
  have hj : j < ns.length := by omega
  rw [List.getElem?_map, Int.toNat_natCast, List.getD_eq_getElem?_getD, List.getElem?_eq_getElem hj]
  rfl
/-! ### a caught error with fields -/
def rIsX (K : PySem.W.Frag) (D a : Addr) (cls : Value) (d : Option Addr) : List V → Hp → VK → Prop := fun xs H Q => cls = .ref D ∧ ∃ (dd : Addr) (fs : List (Str × V)) (c : V) (cv : Value) (b : Bool),
  d = some dd ∧ H dd = some (.xd fs) ∧ xs = [.ref a, c] ∧ (∀ u, RelV c u → u = cv) ∧ PySem.W.kitOne K (.ref D) cv = some b ∧ Q (.bl b) H
theorem call_isX {X : Cx} {a D : Addr} {oe : Obj} {cls : Value} {d : Option Addr} {pn : List (Addr × Obj)} (C : ExcC X.K D) (hz : Zc cls d oe) (hf : ∃ vs, oe.data = .fields vs) : CallR (X.suite a ((a, oe) :: pn)) (.builtin "isinstance") (rIsX X.K D a cls d) := by
  intro pins sh σ H zs us Q I rr hq
  obtain ⟨ec, dd, fs, c, cv, b, ed, hx, ez, hcv, hk, q⟩ := hq
  subst ez
  obtain ⟨u1, u2, eu, r1, r2⟩ := vals2 rr
  subst eu
  cases (show u1 = Value.ref a from r1)
  have e2 := hcv _ r2
  subst e2
  obtain ⟨hget, _⟩ := I.pin (a, oe) (List.mem_append.mpr (.inl List.mem_cons_self))
  obtain ⟨vs, hv⟩ := hf
  have ho : ObjOk X.prog X.w H sh.heap dd (.xd fs) := I.hok dd _ hx
  obtain ⟨mA, hns, _⟩ := ho
  obtain ⟨od, hod, _⟩ := lookIn_ns hns
  obtain ⟨cd, hcd, _⟩ := PySem.W.any_some C.hd
  have hcl : (PySem.W.clsIn X.K D).isSome = true := by rw [hcd]; rfl
  have J : PySem.W.InstAt sh.heap a oe D (some od) := ⟨hget, hz.1.trans ec, by unfold PySem.W.notCls; rw [hv], by rw [hz.2, ed]; exact hod⟩
  exact PySem.W.kia_one (PySem.W.kitx_exc hcl C.hg C.hk C.hs C.ha C.hn C.ht C.hm) I.kIn J hk (fun z => nomatch z) fun tk => ⟨.bl b, H, I.tok tk, rfl, q⟩
def rIsN (K : PySem.W.Frag) (D a : Addr) (cls : Value) (d : Option Addr) : List V → Hp → VK → Prop := fun xs H Q => cls = .ref D ∧ d = none ∧ rIsE K D a xs H Q
theorem call_isN {X : Cx} {a D : Addr} {oe : Obj} {cls : Value} {d : Option Addr} {pn : List (Addr × Obj)} (C : ExcC X.K D) (hz : Zc cls d oe) (hf : ∃ vs, oe.data = .fields vs) : CallR (X.suite a ((a, oe) :: pn)) (.builtin "isinstance") (rIsN X.K D a cls d) := by
  intro pins s σ H xs us Q I r h
  obtain ⟨e1, e2, h⟩ := h
  subst e1 e2
  exact call_isE C hz hf pins s σ H xs us Q I r h
/-- X(), X an error class without __init__ -/
theorem pmk_none {X : Cx} {C : Addr} {bmB : List Value} {B newId initId : String} {x : Str} {p pos : Pos} (F : PySem.ExcBaseFacts B newId initId bmB) (q : PySem.W.excIn X.K C bmB newId = true) (gC : X.mg x = some (.ref C)) (kC : PySem.W.keepIn X.K (.ref C) = true)
    (r : Raises X (.ref C)) (hg : Gl X x) (hdb : (x == ("__debug__" : Str)) = false := by decide) : PMk X (.Call (.Name x p) [] [] pos) (fun _ H Q => Q (.ref C) none H) := by
  intro pins s σ H Q I h
  refine wpAny_Call_Name_kw (ld_glob I hg gC ?_ hdb)
  refine PySem.W.callWith_K0 I.kIn kC ?_
  obtain ⟨bm, N, nm, qn, bs, hdct, sn, sub, ab, col, dd, k0, k1, k2, k3, k5, mN, hC, hN, hni, T⟩ := exc_obj I.kIn q
  refine wpAny_call_exc_subT F T hC hN hni (fun h' e hm => ?_) (Nat.zero_le _)
  exact mk_of I hm r h (I.hok.gone hm.new)
/-- a list drawn by a menu -/
def Drawn (ms ds : List Int) : Prop := ds.length = ms.length ∧ ∀ (i : Nat) (m : Int), ms[i]? = some m → ∃ d : Int, ds[i]? = some d ∧ 0 ≤ d ∧ d < m
theorem kitCls_own {K : PySem.W.Frag} {t : Value} {C : Addr} (hd : PySem.W.hasDictIn K C = true) (ty : PySem.W.typeIn K (.ref C) = some (.type "type")) : PySem.W.kitCls K t (.ref C) = PySem.W.subIn K t (.ref C) := by
  obtain ⟨cd, hc, _⟩ := PySem.W.any_some hd
  unfold PySem.W.kitCls
  simp [hc, ty]
theorem kit_self {K : PySem.W.Frag} {t : Value} : PySem.W.kitOne K t t = some true := by
  unfold PySem.W.kitOne
  rw [if_pos (beq_self_eq_true t)]
theorem kit_yes {K : PySem.W.Frag} {t : Value} {C : Addr} (hd : PySem.W.hasDictIn K C = true) (ty : PySem.W.typeIn K (.ref C) = some (.type "type")) (s : PySem.W.subIn K t (.ref C) = some true) : PySem.W.kitOne K t (.ref C) = some true := by
  unfold PySem.W.kitOne
  split
  · rfl
  · rw [kitCls_own hd ty]; exact s
theorem kit_no {K : PySem.W.Frag} {t : Value} {C : Addr} (hd : PySem.W.hasDictIn K C = true) (ty : PySem.W.typeIn K (.ref C) = some (.type "type")) (me : PySem.W.subIn K (.ref C) (.ref C) = some true) (s : PySem.W.subIn K t (.ref C) = some false) : PySem.W.kitOne K t (.ref C) = some false := by
  unfold PySem.W.kitOne
  split
  · rename_i e
    rw [beq_iff_eq] at e
    rw [e, me] at s
    cases s
  · rw [kitCls_own hd ty]; exact s
theorem kit_bi {K : PySem.W.Frag} {C : Addr} {n : String} {b : Bool} (hm : PySem.W.kitMeta n = true) (s : PySem.W.subIn K (.ref C) (.type n) = some b) : PySem.W.kitOne K (.ref C) (.type n) = some b := by
  unfold PySem.W.kitOne PySem.W.kitCls
  rw [if_neg (by simp)]
  show (if PySem.W.kitMeta n = true then PySem.W.subIn K (.ref C) (.type n) else none) = some b
  rw [if_pos hm]
  exact s
theorem drawn4 {a b c d : Int} {ds : List Int} (h : Drawn [a, b, c, d] ds) : ∃ w x y z, ds = [w, x, y, z] ∧ (0 ≤ w ∧ w < a) ∧ (0 ≤ x ∧ x < b) ∧ (0 ≤ y ∧ y < c) ∧ (0 ≤ z ∧ z < d) := by
  obtain ⟨hl, g⟩ := h
  match ds, hl with
  | [w, x, y, z], _ =>
    obtain ⟨w', e0, h0⟩ := g 0 a rfl
    obtain ⟨x', e1, h1⟩ := g 1 b rfl
    obtain ⟨y', e2, h2⟩ := g 2 c rfl
    obtain ⟨z', e3, h3⟩ := g 3 d rfl
    cases e0; cases e1; cases e2; cases e3
    exact ⟨_, _, _, _, rfl, h0, h1, h2, h3⟩
/-! ### own errors with one field and with two -/
def spErr1 (K : PySem.W.Frag) (C : Addr) (f : Str) : Sp := fun vs H Q _ => ∃ (a : Addr) (x : V), vs = [.ref a, x] ∧ OexC K C ∧ H a = some (exo a C none) ∧ ∀ d, H d = none → d ≠ a → Q .non (upd (upd H d (exd d [(f, x)])) a (exo a C (some d)))
def spErr2 (K : PySem.W.Frag) (C : Addr) (f g : Str) : Sp := fun vs H Q _ => ∃ (a : Addr) (x y : V), vs = [.ref a, x, y] ∧ OexC K C ∧ H a = some (exo a C none) ∧
  ∀ d, H d = none → d ≠ a → Q .non (upd (upd (upd H d (exd d [(f, x)])) a (exo a C (some d))) d (exd d [(g, y), (f, x)]))
theorem raise1 {K : PySem.W.Frag} {C : Addr} {f : Str} {H : Hp} {E : XK} {σ : L2.St} {ta : TA} {x : V} (hC : OexC K C) (hta : ∀ Q : List V → Hp → Prop, Q [x] H → ta σ H Q)
    (k : ∀ d H', Ex H H' → H' d = some (.xd [(f, x)]) → E (.ref C) (some d) H') : tMkO C (spErr1 K C f) [] ta σ H E := by
  refine hta _ ⟨by show (1 : Nat) ≤ 1000; decide, fun a ha => ⟨a, x, rfl, hC, upd_same, fun d hd hne => ?_⟩⟩
  have hd' : H d = none := by rw [upd_ne hne] at hd; exact hd
  have han : a ≠ d := fun e => hne e.symm
  refine ⟨rfl, d, _, upd_same, ?_, hd', k d _ (fun b o hb => ?_) upd_same⟩
  · rw [upd_ne hne, upd_same]
  · have h1 : b ≠ a := ne_of_none hb ha
    have h2 : b ≠ d := ne_of_none hb hd'
    rw [upd_ne h2, del_ne h1, upd_ne h1, upd_ne h2, upd_ne h1]
    exact hb
theorem raise2 {K : PySem.W.Frag} {C : Addr} {f g : Str} {H : Hp} {E : XK} {σ : L2.St} {ta : TA} {x y : V} (hC : OexC K C) (hta : ∀ Q : List V → Hp → Prop, Q [x, y] H → ta σ H Q)
    (k : ∀ d H', Ex H H' → H' d = some (.xd [(g, y), (f, x)]) → E (.ref C) (some d) H') : tMkO C (spErr2 K C f g) [] ta σ H E := by
  refine hta _ ⟨by show (2 : Nat) ≤ 1000; decide, fun a ha => ⟨a, x, y, rfl, hC, upd_same, fun d hd hne => ?_⟩⟩
  have hd' : H d = none := by rw [upd_ne hne] at hd; exact hd
  have han : a ≠ d := fun e => hne e.symm
  refine ⟨rfl, d, _, ?_, upd_same, hd', k d _ (fun b o hb => ?_) upd_same⟩
  · rw [upd_ne han, upd_same]
  · have h1 : b ≠ a := ne_of_none hb ha
    have h2 : b ≠ d := ne_of_none hb hd'
    rw [upd_ne h2, del_ne h1, upd_ne h2, upd_ne h1, upd_ne h2, upd_ne h1]
    exact hb
/-- what a cell of the script is worth -/
def cellA (ns : List Int) (k : Nat) : Int := if k < ns.length then (if ns.getD k 0 < 0 then - ns.getD k 0 else ns.getD k 0) else 0
theorem cellA_nn (ns : List Int) (k : Nat) : 0 ≤ cellA ns k := by
  unfold cellA
  split
  · split <;> omega
  · omega
/-! ### evaluation with a property; loops over what a call gives -/
def EvR (te : TE) (σ : L2.St) (H : Hp) (P : V → Hp → Prop) : Prop := ∀ H1, Ex H H1 → ∀ Q : VK, (∀ v H2, Ex H1 H2 → P v H2 → Q v H2) → te σ H1 Q
theorem er_ev {te : TE} {σ : L2.St} {H : Hp} {v : V} {P : V → Hp → Prop} (h : Ev te σ H v) (hp : ∀ H1, Ex H H1 → P v H1) : EvR te σ H P := fun H1 e Q q => h H1 e Q fun H2 e2 => q v H2 e2 (hp H2 (e.trans e2))
theorem EvR.mono {te : TE} {σ : L2.St} {H H' : Hp} {P : V → Hp → Prop} (e : Ex H H') (h : EvR te σ H P) : EvR te σ H' P := fun H1 a Q q => h H1 (e.trans a) Q q
theorem EvR.imp {te : TE} {σ : L2.St} {H : Hp} {P P' : V → Hp → Prop} (h : EvR te σ H P) (i : ∀ v H1, P v H1 → P' v H1) : EvR te σ H P' := fun H1 a Q q => h H1 a Q fun v H2 e p => q v H2 e (i v H2 p)
theorem er_L {te : TE} {σ : L2.St} {H : Hp} {xs : List V} (h : EvL te σ H xs) : EvR te σ H fun v H1 => ∃ p, v = .ref p ∧ H1 p = some (.lst xs) := fun H1 e Q q => h H1 e Q fun p H2 _ e2 hp => q _ H2 e2 ⟨p, rfl, hp⟩
theorem s_asgR {te : TE} {D : Ends} {σ : L2.St} {H : Hp} {i : Nat} {P : V → Hp → Prop} (h : EvR te σ H P) (k : ∀ v H1, Ex H H1 → P v H1 → D.nx (σ.set i (some v)) H1) : tAsg te (gName i) D σ H := h H (Ex.refl H) _ fun v H1 e p => k v H1 e p
theorem q_asgR {te : TE} {tz : TS} {D : Ends} {σ : L2.St} {H : Hp} {i : Nat} {P : V → Hp → Prop} (h : EvR te σ H P) (k : ∀ v H1, Ex H H1 → P v H1 → tz D (σ.set i (some v)) H1) : tSeq (tAsg te (gName i)) tz D σ H := s_asgR (D := { D with nx := tz D }) h k
theorem s_retR {te : TE} {D : Ends} {σ : L2.St} {H : Hp} {P : V → Hp → Prop} (h : EvR te σ H P) (k : ∀ v H1, Ex H H1 → P v H1 → D.rt v H1) : tRet te D σ H := h H (Ex.refl H) _ fun v H1 e p => k v H1 e p
theorem for_via {K : PySem.W.Frag} {tl : TE} {g : TG} {tu : TS} {D : Ends} {σ : L2.St} {H : Hp} {P : V → Hp → Prop} (h : EvR tl σ H P) (k : ∀ v H1, Ex H H1 → P v H1 → tFor (iList K (tC v)) g tu D σ H1) : tFor (iList K tl) g tu D σ H :=
  h H (Ex.refl H) _ fun v H1 e p => k v H1 e p
theorem q_forVia {K : PySem.W.Frag} {tl : TE} {g : TG} {tu tz : TS} {D : Ends} {σ : L2.St} {H : Hp} {P : V → Hp → Prop} (h : EvR tl σ H P) (k : ∀ v H1, Ex H H1 → P v H1 → tSeq (tFor (iList K (tC v)) g tu) tz D σ H1) : tSeq (tFor (iList K tl) g tu) tz D σ H :=
  h H (Ex.refl H) _ fun v H1 e p => k v H1 e p
theorem ev_int {σ : L2.St} {H : Hp} {te : TE} {z : Int} (h : Ev te σ H (.int z)) : Ev (tCB (fun xs H Q => (∃ i, xs = [V.int i] ∧ Q (V.int i) H) ∨ ∃ k, xs = [V.bl k] ∧ Q (V.int (if k = true then 1 else 0)) H) (tCons te tNil)) σ H (.int z) :=
  ev_cb (ea_cons h ea_nil) fun H1 _ _ q => .inl ⟨_, rfl, q H1 (Ex.refl H1)⟩
theorem el_rep {σ : L2.St} {H : Hp} {te tn : TE} {z k : Int} (h : Ev te σ H (.int z)) (hn : Ev tn σ H (.int k)) (hk : 0 ≤ k ∧ k ≤ 100000) : EvL (tOp rRep (tLst (tCons te tNil)) tn) σ H ((List.replicate k.toNat z).map V.int) := fun H1 e Q q =>
  el_lst (ea_cons h ea_nil) (by show 1 ≤ 100000; decide) H1 e _ fun p H2 hp e2 h2 => hn H2 (e.trans e2) _ fun H3 e3 => ⟨p, k, [.int z], rfl, rfl, e3 _ _ h2, by omega, by omega, by
    show 1 * k.toNat ≤ sizeLine
    exact Nat.le_trans (show 1 * k.toNat ≤ 100000 by omega) (by decide), fun l hl => q l _ (fresh_back (e2.trans e3) hl) ((e2.trans e3).trans (Ex.new hl)) (by
    rw [upd_same]
    have rp : ∀ m : Nat, (List.replicate m [V.int z]).flatten = (List.replicate m z).map V.int := fun m => by
      induction m with
      | zero => rfl
      | succ m ih => rw [List.replicate_succ, List.flatten_cons, ih, List.replicate_succ, List.map_cons]; rfl
    rw [rp])⟩
theorem er_call {sp : Sp} {dvs vs : List V} {E : XK} {ta : TA} {σ : L2.St} {H : Hp} {P : V → Hp → Prop} (h : EvA ta σ H vs) (hs : ∀ H1, Ex H H1 → ∀ Q : VK, (∀ v H2, Ex H1 H2 → P v H2 → Q v H2) → sp (vs ++ dvs) H1 Q E) : EvR (tCall sp dvs E ta) σ H P :=
  fun H1 e Q q => h H1 e _ fun H2 e2 => hs H2 (e.trans e2) Q fun v H3 e3 p => q v H3 (e2.trans e3) p
theorem el_cat {σ : L2.St} {H : Hp} {ta tb : TE} {xs ys : List V} (h1 : EvL ta σ H xs) (h2 : EvL tb σ H ys) (hz : xs.length + ys.length ≤ 100000) : EvL (tOp rCat ta tb) σ H (xs ++ ys) := fun H1 e Q q =>
  h1 H1 e _ fun a H2 ha e2 g2 => h2 H2 (e.trans e2) _ fun b H3 hb e3 g3 => ⟨a, b, xs, ys, rfl, rfl, e3 _ _ g2, g3, sz_of hz, fun p hp => q p _ (fresh_back (e2.trans e3) hp) ((e2.trans e3).trans (Ex.new hp)) upd_same⟩
theorem atI_last {α : Type} {xs : List α} {z : α} (h : xs.getLast? = some z) : atI xs (-1) = some z := by
  cases xs with
  | nil => cases h
  | cons x r =>
    rw [List.getLast?_eq_getElem?] at h
    unfold atI ixN
    rw [if_neg (by omega), if_pos (by rw [List.length_cons]; omega)]
    show (x :: r)[((-1 : Int) + ((x :: r).length : Int)).toNat]? = some z
    rw [← h]
    congr 1
    rw [List.length_cons]
    omega
/-- an if whose test fails -/
theorem q_skip {t : TT} {tu tz : TS} {D : Ends} {σ : L2.St} {H : Hp} (h : EvT t σ H false) (k : ∀ H1, Ex H H1 → tz D σ H1) : tSeq (tIfS t tu tNext) tz D σ H := q_when h (fun z => Bool.noConfusion z) fun _ H1 e => k H1 e
/-- .. whose test holds and that returns -/
theorem q_take {t : TT} {tu tz : TS} {D : Ends} {σ : L2.St} {H : Hp} (h : EvT t σ H true) (k : ∀ H1, Ex H H1 → tu { D with nx := tz D } σ H1) : tSeq (tIfS t tu tNext) tz D σ H := q_when h (fun _ H1 e => k H1 e) fun z => Bool.noConfusion z
theorem et_notT {t : TT} {σ : L2.St} {H : Hp} (h : EvT t σ H true) : EvT (tNot t) σ H false := et_not h
theorem et_orF {t u : TT} {σ : L2.St} {H : Hp} (h : EvT t σ H false) (h2 : EvT u σ H false) : EvT (tOr t u) σ H false := et_or h fun _ => h2
theorem et_andF {t u : TT} {σ : L2.St} {H : Hp} (h : EvT t σ H false) : EvT (tAnd t u) σ H false := et_and (b := true) h fun z => Bool.noConfusion z
theorem et_andT {t u : TT} {σ : L2.St} {H : Hp} {b : Bool} (h : EvT t σ H true) (h2 : EvT u σ H b) : EvT (tAnd t u) σ H b := et_and h fun _ => h2
theorem ev_ix {K : PySem.W.Frag} {σ : L2.St} {H : Hp} {ta tb : TE} {p : Addr} {xs : List V} {i : Int} {v : V} (ha : Ev ta σ H (.ref p)) (hb : Ev tb σ H (.int i)) (h : SqL K H p xs) (hv : atI xs i = some v) : Ev (tOp (rIxL K) ta tb) σ H v := ev_op ha hb (rv_ixL h hv)
theorem rv_isK {x : V} {H : Hp} {b : Bool} : RV rIsK x (.bl b) H (.bl (decide (x = .bl b))) := fun H1 _ _ q => ⟨b, rfl, q H1 (Ex.refl H1)⟩
def rIsNotK : R2 := fun x y H Q => ∃ b : Bool, y = .bl b ∧ Q (.bl (!decide (x = .bl b))) H
theorem op_isNotK {X : Cx} : OpR X (compareOp .IsNot) rIsNotK := by
  intro pins s σ H x y v u Q I rx ry h
  obtain ⟨b, hy, q⟩ := h
  subst hy
  cases (show u = Value.bool b from ry)
  have fin : ∀ k : Bool, k = (!decide (x = V.bl b)) → EP X pins σ Q (.bool k) s := fun k e => ⟨.bl k, H, I, rfl, by rw [e]; exact q⟩
  cases x with
  | non => cases (show v = Value.none from rx); exact wpAny_isNot_other rfl (fun z => by cases z) (fin _ (by simp))
  | bl a =>
    cases (show v = Value.bool a from rx)
    by_cases e : a = b
    · subst e; exact wpAny_isNot_self rfl (fin _ (by simp))
    · exact wpAny_isNot_other rfl (fun z => e (Value.bool.inj z)) (fin _ (by simp [e]))
  | int i => obtain ⟨t, ev⟩ := rx; subst ev; exact wpAny_isNot_other rfl (fun z => by cases z) (fin _ (by simp))
  | str i => obtain ⟨t, ev⟩ := rx; subst ev; exact wpAny_isNot_other rfl (fun z => by cases z) (fin _ (by simp))
  | byt i => obtain ⟨t, ev⟩ := rx; subst ev; exact wpAny_isNot_other rfl (fun z => by cases z) (fin _ (by simp))
  | flt i => obtain ⟨t, ev⟩ := rx; subst ev; exact wpAny_isNot_other rfl (fun z => by cases z) (fin _ (by simp))
  | ref a => cases (show v = Value.ref a from rx); exact wpAny_isNot_other rfl (fun z => by cases z) (fin _ (by simp))
  | ty n => cases (show v = Value.type n from rx); exact wpAny_isNot_other rfl (fun z => by cases z) (fin _ (by simp))
theorem rv_isNotK {x : V} {H : Hp} {b : Bool} : RV rIsNotK x (.bl b) H (.bl (!decide (x = .bl b))) := fun H1 _ _ q => ⟨b, rfl, q H1 (Ex.refl H1)⟩
theorem drawn_cons {m : Int} {ms ds : List Int} (h : Drawn (m :: ms) ds) : ∃ d r, ds = d :: r ∧ (0 ≤ d ∧ d < m) ∧ Drawn ms r := by
  obtain ⟨hl, g⟩ := h
  cases ds with
  | nil => cases hl
  | cons d r =>
    obtain ⟨d', e, h0, h1⟩ := g 0 m rfl
    cases e
    exact ⟨d, r, rfl, ⟨h0, h1⟩, by simpa using hl, fun i x hx => g (i + 1) x hx⟩
theorem drawn_nil {ds : List Int} (h : Drawn [] ds) : ds = [] := List.length_eq_zero_iff.mp h.1
/-! ### new things: what holds of them in each heap that has what is new -/
def NewP (P : Hp → Prop) (H H' : Hp) : Prop := ∀ G : Hp, (∀ b o, H b = none → H' b = some o → G b = some o) → P G
def EvNew (te : TE) (σ : L2.St) (H : Hp) (P : V → Hp → Prop) : Prop := ∀ H1, Ex H H1 → ∀ Q : VK, (∀ v H2, Ex H1 H2 → NewP (P v) H1 H2 → Q v H2) → te σ H1 Q
theorem NewP.self {P : Hp → Prop} {H H' : Hp} (h : NewP P H H') : P H' := h H' fun _ _ _ e => e
theorem NewP.out {P : Hp → Prop} {H H1 H2 H3 : Hp} (h : NewP P H1 H2) (e : Ex H H1) (e' : Ex H2 H3) : NewP P H H3 := fun G g => h G fun b o h1 h2 => g b o (fresh_back e h1) (e' _ _ h2)
theorem EvNew.er {te : TE} {σ : L2.St} {H : Hp} {P : V → Hp → Prop} (h : EvNew te σ H P) : EvR te σ H P := fun H1 e Q q => h H1 e Q fun v H2 e2 n => q v H2 e2 n.self
theorem EvNew.imp {te : TE} {σ : L2.St} {H : Hp} {P P' : V → Hp → Prop} (h : EvNew te σ H P) (i : ∀ v G, P v G → P' v G) : EvNew te σ H P' := fun H1 e Q q => h H1 e Q fun v H2 e2 n => q v H2 e2 fun G g => i v G (n G g)
theorem en_L {te : TE} {σ : L2.St} {H : Hp} {xs : List V} (h : EvL te σ H xs) : EvNew te σ H fun v G => ∃ p, v = .ref p ∧ G p = some (.lst xs) := fun H1 e Q q => h H1 e Q fun p H2 hp e2 h2 => q _ H2 e2 fun G g => ⟨p, rfl, g p _ hp h2⟩
theorem en_ev {te : TE} {σ : L2.St} {H : Hp} {v : V} {P : V → Prop} (h : Ev te σ H v) (p : P v) : EvNew te σ H fun v _ => P v := fun H1 e Q q => h H1 e Q fun H2 e2 => q v H2 e2 fun _ _ => p
/-- what a comprehension keeps: its list at D, each item with its property whatever D holds -/
def Kept (P : Nat → V → Hp → Prop) (H1 : Hp) (D : Addr) (i : Nat) (H : Hp) : Prop := H1 D = none ∧ Ex H1 H ∧ ∃ vs : List V, H D = some (.lst vs) ∧ vs.length = i ∧ ∀ (k : Nat) x, vs[k]? = some x → ∀ G : Hp, (∀ b o, b ≠ D → H1 b = none → H b = some o → G b = some o) → P k x G
theorem kept_turn {P : Nat → V → Hp → Prop} {H1 H : Hp} {D : Addr} {i : Nat} {te : TE} {σ2 : L2.St} (p : Kept P H1 D i H) (hi : i < 50000) (he : EvNew te σ2 H1 (P i)) :
    tYes σ2 H fun b H3 => if b = true then te σ2 H3 fun y H4 => ∃ acc, H4 D = some (.lst acc) ∧ acc.length < sizeLine ∧ Kept P H1 D (i + 1) (upd H4 D (.lst (acc ++ [y]))) else Kept P H1 D (i + 1) H3 := by
  obtain ⟨p1, p2, vs, p3, p4, p5⟩ := p
  show te σ2 H fun y H4 => ∃ acc, H4 D = some (.lst acc) ∧ acc.length < sizeLine ∧ Kept P H1 D (i + 1) (upd H4 D (.lst (acc ++ [y])))
  refine he H p2 _ fun y H4 e4 hy => ⟨vs, e4 _ _ p3, sz_lt (by omega), p1, Ex.mut (p2.trans e4) p1, vs ++ [y], upd_same, by simp [p4], fun k x hk G g => ?_⟩
  by_cases hki : k < vs.length
  · rw [List.getElem?_append_left hki] at hk
    exact p5 k x hk G fun b o hb h1 h2 => g b o hb h1 (by rw [upd_ne hb]; exact e4 _ _ h2)
  · have hlt := (List.getElem?_eq_some_iff.mp hk).1
    rw [List.length_append] at hlt
    have hlt' : k < vs.length + 1 := hlt
    have e : k = i := by omega
    subst e
    rw [List.getElem?_append_right (by omega), ← p4, Nat.sub_self] at hk
    cases hk
    refine hy G fun b o h1 h2 => ?_
    have hb : b ≠ D := fun e => by rw [e, p3] at h1; cases h1
    exact g b o hb (fresh_back p2 h1) (by rw [upd_ne hb]; exact h2)
theorem kept_end {P : Nat → V → Hp → Prop} {H1 H : Hp} {D : Addr} {n : Nat} (p : Kept P H1 D n H) : NewP (fun G => ∃ vs : List V, G D = some (.lst vs) ∧ vs.length = n ∧ ∀ (k : Nat) x, vs[k]? = some x → P k x G) H1 H := fun G g => by
  obtain ⟨p1, p2, vs, p3, p4, p5⟩ := p
  exact ⟨vs, g D _ p1 p3, p4, fun k x hk => p5 k x hk G fun b o _ h1 h2 => g b o h1 h2⟩
/-- a list whose items have a property -/
def ListP (n : Nat) (P : Nat → V → Hp → Prop) (v : V) (G : Hp) : Prop := ∃ (p : Addr) (vs : List V), v = .ref p ∧ G p = some (.lst vs) ∧ vs.length = n ∧ ∀ (k : Nat) x, vs[k]? = some x → P k x G
theorem en_lcR1 {σ : L2.St} {H : Hp} {te : TE} {ta : TA} {j : Nat} {vs : List Nat} {n : Int} (P : Nat → V → Hp → Prop) (h : EvA ta σ H [.int n]) (hn : 0 ≤ n ∧ n ≤ 40000) (hw : ∀ x, wipe ((wipe σ vs).set j (some x)) vs = wipe σ vs)
    (he : ∀ (i : Nat) H1, Ex H H1 → (i : Int) < n → EvNew te ((wipe σ vs).set j (some (.int (i : Int)))) H1 (P i)) : EvNew (tLc (iRng1 ta) (gName j) tYes te vs) σ H (ListP n.toNat P) := fun H0 e Q q => h H0 e _ fun H1 e1 => ⟨n, rfl, by omega, by omega, fun Dl hD =>
  lc_range (lo := 0) (n := n.toNat) (Kept P H1 Dl) ⟨hD, Ex.new hD, [], upd_same, rfl, fun k x hk => by cases hk⟩ (fun i H' hi p => by
    have e0 : (0 : Int) + (i : Int) = (i : Int) := Int.zero_add _
    show wipe ((wipe σ vs).set j (some (.int ((0 : Int) + (i : Int))))) vs = wipe σ vs ∧ tYes ((wipe σ vs).set j (some (.int ((0 : Int) + (i : Int))))) H' fun b H3 => if b = true then te ((wipe σ vs).set j (some (.int ((0 : Int) + (i : Int))))) H3 fun y H4 => ∃ acc, H4 Dl = some (.lst acc) ∧ acc.length < sizeLine ∧ Kept P H1 Dl (i + 1) (upd H4 Dl (.lst (acc ++ [y]))) else Kept P H1 Dl (i + 1) H3
    rw [e0]
    exact ⟨hw _, kept_turn p (by omega) (he i H1 (e.trans e1) (by omega))⟩)
    (fun H' p => q _ H' (e1.trans p.2.1) fun G g => by
      obtain ⟨ws, h1, h2, h3⟩ := (kept_end p).out e1 (Ex.refl _) G g
      exact ⟨Dl, ws, rfl, h1, h2, h3⟩)⟩
theorem en_lcL {K : PySem.W.Frag} {σ : L2.St} {H : Hp} {te tl : TE} {j : Nat} {vs : List Nat} {xs : List V} (P : Nat → V → Hp → Prop) (h : EvR tl σ H fun v H1 => ∃ a, v = .ref a ∧ SqL K H1 a xs) (hz : xs.length ≤ 40000) (hw : ∀ x, wipe ((wipe σ vs).set j (some x)) vs = wipe σ vs)
    (he : ∀ (i : Nat) (x : V) H1, Ex H H1 → xs[i]? = some x → EvNew te ((wipe σ vs).set j (some x)) H1 (P i)) : EvNew (tLc (iList K tl) (gName j) tYes te vs) σ H (ListP xs.length P) := fun H0 e Q q => h H0 e _ fun v H1 e1 hv => by
  obtain ⟨a, rfl, hx⟩ := hv
  exact ⟨a, rfl, ⟨xs, hx⟩, fun Dl hD =>
    lc_list (xs := xs) (Kept P H1 Dl) ⟨hD, Ex.new hD, [], upd_same, rfl, fun k x hk => by cases hk⟩ (fun i H' _ p => ex_l p.2.1 hx) (fun i x H' hi p => ⟨hw x, kept_turn p (by have := (List.getElem?_eq_some_iff.mp hi).1; omega) (he i x H1 (e.trans e1) hi)⟩)
    (fun H' p => q _ H' (e1.trans p.2.1) fun G g => by
      obtain ⟨ws, h1, h2, h3⟩ := (kept_end p).out e1 (Ex.refl _) G g
      exact ⟨Dl, ws, rfl, h1, h2, h3⟩)⟩

/-! ### order of data -/
def rLtD (K : PySem.W.Frag) : R2 := fun x y H Q => ∃ d e, Dp K H x d ∧ Dp K H y e ∧ PySem.W.alike d e = true ∧ d ≠ .none ∧ d.depth ≤ 64 ∧ Q (.bl (PySem.W.dataLt d e)) H
def rLeD (K : PySem.W.Frag) : R2 := fun x y H Q => ∃ d e, Dp K H x d ∧ Dp K H y e ∧ PySem.W.alike d e = true ∧ d ≠ .none ∧ d.depth ≤ 64 ∧ Q (.bl (!PySem.W.dataLt e d)) H
theorem op_ltD {X : Cx} {K : PySem.W.Frag} (hu : X.A.units + 64 < cLine) (hk : X.K = K := by rfl) : OpR X (compareOp .Lt) (rLtD K) := by
  subst hk
  intro pins s σ H x y v u Q I rx ry h
  obtain ⟨d, e, hd, he, al, dn, dp, q⟩ := h
  obtain ⟨as, r1⟩ := Dp.reads I d x v hd rx
  obtain ⟨bs, r2⟩ := Dp.reads I e y u he ry
  exact PySem.W.rcLt_alike d e X.A s v u as bs r1 r2 al dn (by have := Nat.min_le_left d.depth e.depth; omega) X.prog X.w X.xe (EP X pins σ Q) ⟨.bl _, H, I, rfl, q⟩
theorem op_leD {X : Cx} {K : PySem.W.Frag} (hu : X.A.units + 64 < cLine) (hk : X.K = K := by rfl) : OpR X (compareOp .LtE) (rLeD K) := by
  subst hk
  intro pins s σ H x y v u Q I rx ry h
  obtain ⟨d, e, hd, he, al, dn, dp, q⟩ := h
  obtain ⟨as, r1⟩ := Dp.reads I d x v hd rx
  obtain ⟨bs, r2⟩ := Dp.reads I e y u he ry
  exact PySem.W.rcLe_alike d e X.A s v u as bs r1 r2 al dn (by have := Nat.min_le_left d.depth e.depth; omega) X.prog X.w X.xe (EP X pins σ Q) ⟨.bl _, H, I, rfl, q⟩
theorem alike_ints : ∀ xs ys : List Int, PySem.W.alikeAll (xs.map PyData.int) (ys.map PyData.int) = true
  | [], [] => by simp [PySem.W.alikeAll]
  | [], y :: ys => by simp [PySem.W.alikeAll]
  | x :: xs, [] => by simp [PySem.W.alikeAll]
  | x :: xs, y :: ys => by simp [PySem.W.alikeAll, PySem.W.alike, alike_ints xs ys]

/-! ### what holds of a value in each heap that has what stood before and what is new -/
def Since (H H' G : Hp) : Prop := ∀ b o, H b = none → H' b = some o → G b = some o
def EvB (te : TE) (σ : L2.St) (H : Hp) (P : V → Hp → Prop) : Prop := ∀ H1, Ex H H1 → ∀ Q : VK, (∀ v H2, Ex H1 H2 → (∀ G, Ex H G → Since H1 H2 G → P v G) → Q v H2) → te σ H1 Q
theorem EvNew.eb {te : TE} {σ : L2.St} {H : Hp} {P : V → Hp → Prop} (h : EvNew te σ H P) : EvB te σ H P := fun H1 e Q q => h H1 e Q fun v H2 e2 n => q v H2 e2 fun G _ g => n G g
theorem EvB.er {te : TE} {σ : L2.St} {H : Hp} {P : V → Hp → Prop} (h : EvB te σ H P) : EvR te σ H P := fun H1 e Q q => h H1 e Q fun v H2 e2 n => q v H2 e2 (n H2 (e.trans e2) fun _ _ _ z => z)
theorem EvB.imp {te : TE} {σ : L2.St} {H : Hp} {P P' : V → Hp → Prop} (h : EvB te σ H P) (i : ∀ v G, Ex H G → P v G → P' v G) : EvB te σ H P' := fun H1 e Q q => h H1 e Q fun v H2 e2 n => q v H2 e2 fun G a g => i v G a (n G a g)
theorem eb_ev {te : TE} {σ : L2.St} {H : Hp} {v : V} {P : V → Hp → Prop} (h : Ev te σ H v) (p : ∀ G, Ex H G → P v G) : EvB te σ H P := fun H1 e Q q => h H1 e Q fun H2 e2 => q v H2 e2 fun G a _ => p G a
theorem eb_L {K : PySem.W.Frag} {te : TE} {σ : L2.St} {H : Hp} {xs : List V} (h : EvL te σ H xs) : EvB te σ H fun v G => ∃ p, v = .ref p ∧ SqL K G p xs := ((en_L h).imp fun v G ⟨p, a, b⟩ => ⟨p, a, sq_of b⟩).eb
theorem eb_held {K : PySem.W.Frag} {σ : L2.St} {H : Hp} {i : Nat} {p : Addr} {xs : List V} (h : σ[i]? = some (some (.ref p))) (hp : SqL K H p xs) : EvB (tVar i) σ H fun v G => ∃ p, v = .ref p ∧ SqL K G p xs := eb_ev (ev_var h) fun G e => ⟨p, rfl, ex_l e hp⟩
/-! ### what is walked, whatever it is -/
def EvI (wi : TI) (σ : L2.St) (H : Hp) (n : Nat) (Y : Nat → Hp → V → Hp → Prop) : Prop := ∀ H1, Ex H H1 → ∀ R : It → Hp → Prop, (∀ J H2, Ex H1 H2 → Walk J n (fun G => Ex H G ∧ Since H1 H2 G) Y → R J H2) → wi σ H1 R
theorem ei_list {K : PySem.W.Frag} {σ : L2.St} {H : Hp} {tl : TE} {xs : List V} (h : EvB tl σ H fun v G => ∃ p, v = .ref p ∧ SqL K G p xs) : EvI (iList K tl) σ H xs.length (YAt xs) := fun H1 e R r => h H1 e _ fun v H2 e2 hv => by
  obtain ⟨a, rfl, hx⟩ := hv H2 (e.trans e2) fun _ _ _ z => z
  exact ⟨a, rfl, ⟨xs, hx⟩, r _ _ e2 (walk_list.mono (fun G g => by
    obtain ⟨b, eb, hb⟩ := hv G g.1 g.2
    cases eb
    exact hb) fun _ _ _ _ _ _ y => y)⟩
theorem ei_tup {K : PySem.W.Frag} {σ : L2.St} {H : Hp} {tl : TE} {xs : List V} (h : EvB tl σ H fun v G => ∃ p, v = .ref p ∧ SqT K G p xs) : EvI (iTup K tl) σ H xs.length (YAt xs) := fun H1 e R r => h H1 e _ fun v H2 e2 hv => by
  obtain ⟨a, rfl, hx⟩ := hv H2 (e.trans e2) fun _ _ _ z => z
  exact ⟨a, rfl, ⟨xs, hx⟩, r _ _ e2 (walk_tup.mono (fun G g => by
    obtain ⟨b, eb, hb⟩ := hv G g.1 g.2
    cases eb
    exact hb) fun _ _ _ _ _ _ y => y)⟩
theorem ei_rng1 {σ : L2.St} {H : Hp} {ta : TA} {n : Int} (h : EvA ta σ H [.int n]) (hn : -100000 ≤ n ∧ n ≤ 100000) : EvI (iRng1 ta) σ H n.toNat (YFn fun i => .int (i : Int)) := fun H1 e R r => h H1 e _ fun H2 e2 =>
  ⟨n, rfl, by omega, by omega, r _ _ e2 (walk_range.mono (fun _ _ => True.intro) fun i G x G' _ _ y => ⟨y.1, by rw [y.2]; simp⟩)⟩
theorem ei_rng2 {σ : L2.St} {H : Hp} {ta : TA} {lo hi : Int} (h : EvA ta σ H [.int lo, .int hi]) (hn : (-100000 ≤ lo ∧ lo ≤ 100000) ∧ -100000 ≤ hi ∧ hi ≤ 100000) : EvI (iRng2 ta) σ H (hi - lo).toNat (YFn fun i => .int (lo + (i : Int))) := fun H1 e R r => h H1 e _ fun H2 e2 =>
  ⟨lo, hi, rfl, by omega, r _ _ e2 (walk_range.mono (fun _ _ => True.intro) fun i G x G' _ _ y => y)⟩
theorem ei_zip {K : PySem.W.Frag} {σ : L2.St} {H : Hp} {ta tb : TE} {xs ys : List V} {n : Nat} (h1 : EvB ta σ H fun v G => ∃ p, v = .ref p ∧ SqL K G p xs) (h2 : EvB tb σ H fun v G => ∃ p, v = .ref p ∧ SqL K G p ys) (hn : n = min xs.length ys.length) :
    EvI (iZip K (tCons ta (tCons tb tNil))) σ H n (YPair (fun i => xs[i]?) fun i => ys[i]?) := fun H1 e R r => h1 H1 e _ fun v H2 e2 hv => h2 H2 (e.trans e2) _ fun w H3 e3 hw => by
  have p1 : ∀ G, Ex H G → Since H1 H3 G → ∃ p, v = .ref p ∧ SqL K G p xs := fun G a g => hv G a fun b o z1 z2 => g b o z1 (e3 _ _ z2)
  have p2 : ∀ G, Ex H G → Since H1 H3 G → ∃ p, w = .ref p ∧ SqL K G p ys := fun G a g => hw G a fun b o z1 z2 => g b o (fresh_back e2 z1) z2
  have e3' := (e.trans e2).trans e3
  obtain ⟨a, rfl, hx⟩ := p1 H3 e3' fun _ _ _ z => z
  obtain ⟨b, rfl, hy⟩ := p2 H3 e3' fun _ _ _ z => z
  exact ⟨a, b, xs, ys, rfl, hx, hy, r _ _ (e2.trans e3) ((walk_zip hn).mono (fun G g => by
    obtain ⟨a', ea, ha⟩ := p1 G g.1 g.2
    obtain ⟨b', eb, hb⟩ := p2 G g.1 g.2
    cases ea
    cases eb
    exact ⟨ha, hb⟩) fun _ _ _ _ _ _ y => y)⟩
theorem ei_enum {K : PySem.W.Frag} {σ : L2.St} {H : Hp} {ta : TE} {xs : List V} (h : EvB ta σ H fun v G => ∃ p, v = .ref p ∧ SqL K G p xs) : EvI (iEnum K (tCons ta tNil)) σ H xs.length (YPair (fun i => some (.int (i : Int))) fun i => xs[i]?) := fun H1 e R r => h H1 e _ fun v H2 e2 hv => by
  obtain ⟨a, rfl, hx⟩ := hv H2 (e.trans e2) fun _ _ _ z => z
  exact ⟨a, xs, rfl, hx, r _ _ e2 (walk_enum.mono (fun G g => by
    obtain ⟨b, eb, hb⟩ := hv G g.1 g.2
    cases eb
    exact hb) fun _ _ _ _ _ _ y => y)⟩
theorem walk_ex {J : It} {n : Nat} {H H1 H2 : Hp} {Y : Nat → Hp → V → Hp → Prop} (e : Ex H H1) (e2 : Ex H1 H2) (w : Walk J n (fun G => Ex H G ∧ Since H1 H2 G) Y) : Walk J n (Ex H2) Y := w.mono (fun G g => ⟨(e.trans e2).trans g, fun b o _ z => g _ _ z⟩) fun _ _ _ _ _ _ y => y
/-- what a target binds at each turn -/
def BdG (g : TG) (σ : L2.St) (n : Nat) (Y : Nat → Hp → V → Hp → Prop) (τ : Nat → L2.St) : Prop := ∀ i H x H' (k : L2.St → Hp → Prop), i < n → Y i H x H' → (Ex H H' → k (τ i) H') → g x σ H' k
theorem bd_at {σ : L2.St} {n j : Nat} {xs : List V} : BdG (gName j) σ n (YAt xs) fun i => σ.set j (xs[i]?) := fun i H x H' k _ y c => by
  obtain ⟨rfl, hx⟩ := y
  show k (σ.set j (some x)) H'
  rw [← hx]
  exact c (Ex.refl _)
theorem bd_fn {σ : L2.St} {n j : Nat} {f : Nat → V} : BdG (gName j) σ n (YFn f) fun i => σ.set j (some (f i)) := fun i H x H' k _ y c => by
  obtain ⟨rfl, rfl⟩ := y
  exact c (Ex.refl _)
theorem bd_pair {K : PySem.W.Frag} {σ : L2.St} {n a b : Nat} {xs ys : Nat → Option V} : BdG (gTup K 2 (gCons (gName a) (gCons (gName b) gNil))) σ n (YPair xs ys) fun i => (σ.set a (xs i)).set b (ys i) := fun i H x H' k _ y c => by
  obtain ⟨T, u, v, rfl, hT, rfl, hu, hv⟩ := y
  refine ⟨T, [u, v], rfl, st_of upd_same, rfl, u, [v], rfl, v, [], rfl, rfl, ?_⟩
  rw [← hu, ← hv]
  exact c (Ex.new hT)
section
variable {wi : TI} {g : TG} {tt : TT} {te : TE} {tu tz : TS} {σ : L2.St} {H : Hp} {D : Ends} {n : Nat} {Y : Nat → Hp → V → Hp → Prop} {vs : List Nat} {τ : Nat → L2.St}
theorem s_forI (h : EvI wi σ H n Y) (k : ∀ H2, Ex H H2 → ∃ Pv : Nat → L2.St → Hp → Prop, Pv 0 σ H2 ∧ (∀ i σ' H', i ≤ n → Pv i σ' H' → Ex H2 H') ∧
    (∀ i x σ' H' H'', i < n → Pv i σ' H' → Y i H' x H'' → g x σ' H'' fun σ2 H3 => tu { D with nx := Pv (i + 1), ct := Pv (i + 1), bk := D.nx } σ2 H3) ∧ ∀ σ' H', Pv n σ' H' → D.nx σ' H') : tFor wi g tu D σ H :=
  h H (Ex.refl H) _ fun J H2 e2 w => by
    obtain ⟨Pv, h0, hG, hs, hd⟩ := k H2 e2
    exact for_it (walk_ex (Ex.refl H) e2 w) Pv h0 hG (fun i x σ' H' H'' hi p y => hs i x σ' H' H'' hi p y) hd
theorem q_forI (h : EvI wi σ H n Y) (k : ∀ H2, Ex H H2 → ∃ Pv : Nat → L2.St → Hp → Prop, Pv 0 σ H2 ∧ (∀ i σ' H', i ≤ n → Pv i σ' H' → Ex H2 H') ∧
    (∀ i x σ' H' H'', i < n → Pv i σ' H' → Y i H' x H'' → g x σ' H'' fun σ2 H3 => tu { D with nx := Pv (i + 1), ct := Pv (i + 1), bk := tz D } σ2 H3) ∧ ∀ σ' H', Pv n σ' H' → tz D σ' H') : tSeq (tFor wi g tu) tz D σ H := s_forI (D := { D with nx := tz D }) h k
/-- a comprehension that tests and tells plain values -/
theorem el_lc (f : Nat → Bool) (v : Nat → V) (h : EvI wi σ H n Y) (hn : n ≤ 40000) (hb : BdG g (wipe σ vs) n Y τ) (hw : ∀ i, i < n → wipe (τ i) vs = wipe σ vs)
    (ht : ∀ i H1, i < n → Ex H H1 → EvT tt (τ i) H1 (f i)) (he : ∀ i H1, i < n → Ex H H1 → f i = true → Ev te (τ i) H1 (v i)) : EvL (tLc wi g tt te vs) σ H (given n f v) := fun H0 e0 Q q =>
  h H0 e0 _ fun J H2 e2 w Dl hD => lc_it (walk_ex e0 e2 w) (Cw H2 f v Dl) ⟨hD, Ex.new hD, upd_same⟩ (fun i H' _ c => c.2.1)
    (fun i x H' H'' hi c y => hb i H' x H'' _ hi y fun e => ⟨hw i hi, by
      have c' : Cw H2 f v Dl i H'' := ⟨c.1, c.2.1.trans e, e _ _ c.2.2⟩
      exact cw_turn c' (by omega) (ht i H2 hi (e0.trans e2)) (fun hf => he i H2 hi (e0.trans e2) hf)⟩)
    (fun H' c => q Dl H' (fresh_back e2 c.1) (e2.trans c.2.1) c.2.2)
/-- .. that tells new things -/
theorem en_lc (P : Nat → V → Hp → Prop) (h : EvI wi σ H n Y) (hn : n ≤ 40000) (hb : BdG g (wipe σ vs) n Y τ) (hw : ∀ i, i < n → wipe (τ i) vs = wipe σ vs)
    (he : ∀ i H1, i < n → Ex H H1 → EvNew te (τ i) H1 (P i)) : EvNew (tLc wi g tYes te vs) σ H (ListP n P) := fun H0 e0 Q q =>
  h H0 e0 _ fun J H2 e2 w Dl hD => lc_it (walk_ex e0 e2 w) (Kept P H2 Dl) ⟨hD, Ex.new hD, [], upd_same, rfl, fun k x hk => by cases hk⟩ (fun i H' _ c => c.2.1)
    (fun i x H' H'' hi c y => hb i H' x H'' _ hi y fun e => ⟨hw i hi, by
      obtain ⟨c1, c2, us, c3, c4, c5⟩ := c
      have c' : Kept P H2 Dl i H'' := ⟨c1, c2.trans e, us, e _ _ c3, c4, fun k z hk G gg => c5 k z hk G fun b o hb h1 h2 => gg b o hb h1 (e _ _ h2)⟩
      exact kept_turn c' (by omega) (he i H2 hi (e0.trans e2))⟩)
    (fun H' c => q _ H' (e2.trans c.2.1) fun G gg => by
      obtain ⟨ws, h1, h2, h3⟩ := (kept_end c).out e2 (Ex.refl _) G gg
      exact ⟨Dl, ws, rfl, h1, h2, h3⟩)
theorem given_all {n : Nat} {v : Nat → V} : given n (fun _ => true) v = (List.range n).map v := by
  unfold given
  rw [List.filter_eq_self.mpr fun _ _ => rfl]
theorem yes_T : EvT tYes σ H true := fun H1 _ Q q => q H1 (Ex.refl H1)
/-- two sources, one within the other: all values in their order -/
theorem el_lc2 {wi1 : TI} {g1 : TG} {vs1 : List Nat} {n1 : Nat → Nat} {Y1 : Nat → Nat → Hp → V → Hp → Prop} {τ1 : Nat → Nat → L2.St} (v : Nat → Nat → V) (N : Nat) (h : EvI wi σ H n Y) (hN : N ≤ 1000000) (hz : ∀ i, i ≤ n → ((List.range i).flatMap fun i => (List.range (n1 i)).map (v i)).length ≤ N) (hb : BdG g (wipe σ vs) n Y τ) (hw : ∀ i, i < n → wipe (τ i) vs = wipe σ vs)
    (h1 : ∀ i H1, i < n → Ex H H1 → EvI wi1 (τ i) H1 (n1 i) (Y1 i)) (hb1 : ∀ i, i < n → BdG g1 (wipe (τ i) vs1) (n1 i) (Y1 i) (τ1 i)) (hw1 : ∀ i j, i < n → j < n1 i → wipe (τ1 i j) vs1 = wipe (τ i) vs1)
    (he : ∀ i j H1, i < n → j < n1 i → Ex H H1 → Ev te (τ1 i j) H1 (v i j)) : EvL (tLc2 wi g tYes wi1 g1 tYes te vs vs1) σ H ((List.range n).flatMap fun i => (List.range (n1 i)).map (v i)) := fun H0 e0 Q q =>
  h H0 e0 _ fun J H2 e2 w Dl hD => by
    let All : Nat → List V := fun i => (List.range i).flatMap fun i => (List.range (n1 i)).map (v i)
    have all_succ : ∀ i, All (i + 1) = All i ++ (List.range (n1 i)).map (v i) := fun i => by
      show List.flatMap _ (List.range (i + 1)) = _
      rw [List.range_succ, List.flatMap_append]
      simp [All]
    let Pv : Nat → Hp → Prop := fun i H' => H2 Dl = none ∧ Ex H2 H' ∧ H' Dl = some (.lst (All i))
    refine ⟨fun i m H' => m = n - i ∧ i ≤ n ∧ Pv i H', ⟨n, by simp, Nat.zero_le _, hD, Ex.new hD, upd_same⟩, ?_⟩
    have w' := walk_ex e0 e2 w
    rintro i m H' ⟨rfl, hi, p⟩
    by_cases hlt : i < n
    · refine .inr ⟨w'.goes i H' hlt p.2.1, Pv (i + 1), fun H'' p' => ⟨n - (i + 1), by omega, rfl, hlt, p'⟩, fun x H'' y => hb i H' x H'' _ hlt (w'.yields i H' x H'' hlt p.2.1 y) fun e => ⟨hw i hlt, ?_⟩⟩
      show wi1 (τ i) H'' _
      refine h1 i H2 hlt (e0.trans e2) H'' (p.2.1.trans e) _ fun J1 H3 e3 w1 => ?_
      let Pw : Nat → Hp → Prop := fun j G => (∀ b o, b ≠ Dl → H3 b = some o → G b = some o) ∧ Ex H2 G ∧ G Dl = some (.lst (All i ++ (List.range j).map (v i)))
      have q3 : Ex H2 H3 := (p.2.1.trans e).trans e3
      have inner : ∀ j G, Pw j G → Ex H2 G ∧ Since H'' H3 G := fun j G pw => ⟨pw.2.1, fun b o z1 z2 => pw.1 b o (fun z => by rw [z, e _ _ p.2.2] at z1; cases z1) z2⟩
      refine ⟨fun j m G => m = n1 i - j ∧ j ≤ n1 i ∧ Pw j G, ⟨n1 i, by simp, Nat.zero_le _, fun b o _ z => z, q3, by rw [(e.trans e3) _ _ p.2.2]; simp⟩, ?_⟩
      rintro j m G ⟨rfl, hj, pw⟩
      by_cases hjl : j < n1 i
      · refine .inr ⟨w1.goes j G hjl (inner j G pw), Pw (j + 1), fun G' pw' => ⟨n1 i - (j + 1), by omega, rfl, hjl, pw'⟩, fun x1 G' y1 => ?_⟩
        refine hb1 i hlt j G x1 G' _ hjl (w1.yields j G x1 G' hjl (inner j G pw) y1) fun eG => ⟨hw1 i j hlt hjl, ?_⟩
        show te (τ1 i j) G' _
        refine he i j H2 hlt hjl (e0.trans e2) G' (pw.2.1.trans eG) _ fun G4 e4 => ⟨_, (eG.trans e4) _ _ pw.2.2, ?_, ?_⟩
        · have s1 := hz (i + 1) (by omega)
          have s2 : (All (i + 1)).length ≤ N := s1
          rw [all_succ] at s2
          simp only [List.length_append, List.length_map, List.length_range] at s2 ⊢
          exact Nat.lt_of_le_of_lt (show _ ≤ 1000000 by omega) (by decide)
        · refine ⟨fun b o hb' z => by rw [upd_ne hb']; exact (eG.trans e4) _ _ (pw.1 b o hb' z), Ex.mut (pw.2.1.trans (eG.trans e4)) hD, ?_⟩
          rw [upd_same, List.range_succ, List.map_append, ← List.append_assoc]
          rfl
      · have ej : j = n1 i := by omega
        subst ej
        refine .inl ⟨w1.stops G (inner _ G pw), p.1, pw.2.1, ?_⟩
        rw [pw.2.2, all_succ]
    · have e : i = n := by omega
      subst e
      exact .inl ⟨w'.stops H' p.2.1, q Dl H' (fresh_back e2 p.1) (e2.trans p.2.1) p.2.2⟩
end

theorem pi_listK {X : Cx} {K : PySem.W.Frag} {tg l : Expr} {tl : TE} (hl : PE X l tl) (hk : X.K = K := by rfl) : PI X tg l (iList K tl) := by subst hk; exact pi_list hl
theorem cr_allK {X : Cx} {K : PySem.W.Frag} (hc : X.calm = true) (hk : X.K = K := by rfl) : CallR X (.builtin "all") (rAll K) := by subst hk; exact cr_all hc
theorem cr_sumK {X : Cx} {K : PySem.W.Frag} (hc : X.calm = true) (hk : X.K = K := by rfl) : CallR X (.builtin "sum") (rSum K) := by subst hk; exact cr_sum hc
theorem ev_sumN {K : PySem.W.Frag} {σ : L2.St} {H : Hp} {te : TE} {ns : List Int} (h : EvL te σ H (ns.map V.int)) : Ev (tCB (rSum K) (tCons te tNil)) σ H (.int ns.sum) := fun H1 e Q q => h H1 e _ fun p H2 _ e2 hp => ⟨p, ns, rfl, sq_of hp, q H2 e2⟩
/-- either of two rules of a call -/
def rOr (r1 r2 : List V → Hp → VK → Prop) : List V → Hp → VK → Prop := fun xs H Q => r1 xs H Q ∨ r2 xs H Q
theorem call_or {X : Cx} {f : Value} {r1 r2 : List V → Hp → VK → Prop} (h1 : CallR X f r1) (h2 : CallR X f r2) : CallR X f (rOr r1 r2) := fun pins s σ H xs us Q I r h => h.elim (h1 pins s σ H xs us Q I r) (h2 pins s σ H xs us Q I r)

/-! ### lots -/
def lotF (n : Int) (l : Addr) : List (Str × V) := [("hours", .int n), ("_members", .ref l)]
/-- v is a lot of n hours with the members ms -/
def LotAt (C : Addr) (H : Hp) (v : V) (n : Int) (ms : List Int) : Prop := ∃ a dx l, v = .ref a ∧ H a = some (.ins C dx (lotF n l)) ∧ H l = some (.lst (ms.map V.int))
theorem LotAt.ex {C : Addr} {H H' : Hp} {v : V} {n : Int} {ms : List Int} (e : Ex H H') (h : LotAt C H v n ms) : LotAt C H' v n ms := by
  obtain ⟨a, dx, l, rfl, h1, h2⟩ := h
  exact ⟨a, dx, l, rfl, e _ _ h1, e _ _ h2⟩
/-- the first residue that was seen before -/
def scanR (n : Int) : List Int → List Int → Option Int
  | _, [] => none
  | seen, m :: r => if m % n ∈ seen then some (m % n) else scanR n (seen ++ [m % n]) r
def resid (n : Int) (S : List Int) : List Int := pick n.toNat (fun h => decide ((h : Int) ∈ S)) fun h => (h : Int)
def flags (N : Nat) (S : List Int) : List V := (List.range N).map fun h : Nat => V.bl (decide ((h : Int) ∈ S))
theorem flags_nil (N : Nat) : (List.replicate N [V.bl false]).flatten = flags N [] := by
  unfold flags
  induction N with
  | zero => rfl
  | succ N ih =>
    rw [List.range_succ, List.map_append, ← ih, List.replicate_succ', List.flatten_append]
    simp
theorem flags_get {N : Nat} {S : List Int} {j : Nat} (h : j < N) : (flags N S)[j]? = some (.bl (decide ((j : Int) ∈ S))) := by
  unfold flags
  rw [List.getElem?_map, List.getElem?_range h]
  rfl
theorem flags_len {N : Nat} {S : List Int} : (flags N S).length = N := by
  unfold flags
  rw [List.length_map, List.length_range]
theorem flags_set {N : Nat} {S : List Int} {j : Nat} (h : j < N) : (flags N S).set j (.bl true) = flags N (S ++ [(j : Int)]) := by
  refine List.ext_getElem? fun i => ?_
  by_cases hi : i < N
  · rw [flags_get hi]
    by_cases e : i = j
    · subst e
      rw [List.getElem?_set_self (by rw [flags_len]; exact hi)]
      simp
    · rw [List.getElem?_set_ne (by omega), flags_get hi]
      have : ¬ (i : Int) = (j : Int) := by omega
      simp [this]
  · rw [List.getElem?_eq_none (by rw [List.length_set, flags_len]; omega), List.getElem?_eq_none (by rw [flags_len]; omega)]
theorem el_rng1 {σ : L2.St} {H : Hp} {te : TE} {tt : TT} {ta : TA} {j : Nat} {vs : List Nat} {n : Int} (f : Nat → Bool) (v : Nat → V) (h : EvA ta σ H [.int n]) (hn : 0 ≤ n ∧ n ≤ 40000)
    (hw : ∀ x, wipe ((wipe σ vs).set j (some x)) vs = wipe σ vs)
    (ht : ∀ (i : Nat) H1, Ex H H1 → (i : Int) < n → EvT tt ((wipe σ vs).set j (some (.int (i : Int)))) H1 (f i))
    (he : ∀ (i : Nat) H1, Ex H H1 → (i : Int) < n → f i = true → Ev te ((wipe σ vs).set j (some (.int (i : Int)))) H1 (v i)) :
    EvL (tLc (iRng1 ta) (gName j) tt te vs) σ H (given n.toNat f v) := el_lcR1 f v h hn hw ht he
theorem putF2 {y z : V} : putF "_members" z (putF "hours" y []) = [(("hours" : Str), y), (("_members" : Str), z)] := by
  have h : ¬ ("hours" : Str) = "_members" := by decide +kernel
  show (if ("hours" : Str) = "_members" then _ else (("hours" : Str), y) :: putF "_members" z []) = _
  rw [if_neg h]
  rfl

/-! ### for x in o, o of a class whose __iter__ tells the iterator of a list that o holds -/
/-- a def whose promise may speak of the number of objects that stand when it is called -/
structure FnS (P : Program) (w : World) (K : PySem.W.Frag) (mg : Str → Option Value) (base : Heap) (k : Nat) (f : Addr) (fd : FuncData) (ps : List Str) (sp : Nat → Sp) : Prop where
  go : ∀ (A : Around) (outer : List Env) (s : Shared) (H : Hp) (args : Args) (us : List Value) (vs : List V) (Q : VK) (E : XK),
    Room k A → Env0 P w K mg base A outer s H → BindsTo s fd args (ps.zip us) → Vals vs us → sp s.heap.objs.size vs H Q E →
    codeAny (model P w) A (.call (.ref f) args) (CR CX0 outer P w H s Q E) s
theorem fnS_mk {P : Program} {w : World} {K : PySem.W.Frag} {mg : Str → Option Value} {base : Heap} {x qual : Str} {st : Stmt} {f : Addr} {fd : FuncData} {N ps : List Str} {k : Nat} {sp : Nat → Sp}
    (F : Fun K x qual st f fd) (S : FnScope N ps (defScope st)) (len : ∀ n vs H Q E, sp n vs H Q E → vs.length = ps.length)
    (bd : ∀ (cdv : Value) (A : Around) (outer : List Env) (s : Shared) (H : Hp) (vs : List V) (Q : VK) (E : XK),
      Room k (A.deeper (PyProof.Rows.envOfC qual (defScope st) s.heap.objs.size f cdv)) → sp s.heap.objs.size vs H Q E →
      ∃ t, PSs (cxOf CX0 P w K mg base N qual (defScope st) f cdv A outer s H E) (defBody st) t ∧ t { nx := fun _ H' => Q .non H', rt := Q } (L2.start N vs) H) : FnS P w K mg base (k + 1) f fd ps sp := by
  obtain ⟨oc, od, kV, doc, pm, an, cdv, ct, osl, rfl, lk, hcd⟩ := F.ex
  constructor
  intro A outer s H args us vs Q E hr e0 hb rv hsp
  have many := len _ _ _ _ _ hsp
  have held : K.In s.heap := e0.mod.kin.keeps fun b o e => (e0.bs b o e).1
  have wide : s.heap.NoLimit := e0.mod.nolimit.keeps fun b o e => (e0.bs b o e).1
  have kinds : ∀ y ∈ ps.zip us, (defScope st).names.lookup y.1 = some .local ∨ ((defScope st).names.lookup y.1 = some .cell ∧ ((cellsFrom (s.heap.objs.size + 1) (defScope st).names []).lookup y.1).isSome = true) := by
    rintro ⟨n, v⟩ hy
    cases S.par n (List.of_mem_zip hy).1 with
    | inl q => exact .inl q
    | inr q => exact .inr ⟨q, PySem.W.cellsFrom_some _ _ _ (.inl q)⟩
  refine codeAny_call_function hr.depth (held _ _ lk) rfl S.co S.gen rfl (PySem.W.codeRec_of held hcd)
    (hb _ _ _ _ ?_)
  refine wpAny_newFunctionEnv_cells S.kind kinds fun env he s1 x1 => ?_
  cases he
  refine ⟨wide.keeps x1.toInCall.keep, codeAny_func ?_⟩
  obtain ⟨t, ht, hq⟩ := bd cdv A outer s H vs Q E (hr.deeper _) hsp
  have I := inv_start (E := E) (CX := CX0) S hr.hd e0 many rv x1
  refine wpAny_mono (ht.run [] s1 (L2.start N vs) H _ I hq) (fun fl s' hs => ?_) (fun e s' hs => hs)
  cases fl with
  | ret u =>
    obtain ⟨v, σ', H', J, r, q⟩ := hs
    exact ⟨v, H', J.os, J.bare, J.base, J.hok, r, q⟩
  | next =>
    obtain ⟨σ', H', J, q⟩ := hs
    exact ⟨V.non, H', J.os, J.bare, J.base, J.hok, rfl, q⟩
  | brk => obtain ⟨_, _, _, q⟩ := hs; exact q.elim
  | cont => obtain ⟨_, _, _, q⟩ := hs; exact q.elim
def spIt (K : PySem.W.Frag) (C : Addr) (fld : Str) (n : Nat) : Sp := fun vs H Q _ => ∃ (a dx l : Addr) (fs : List (Str × V)) (xs : List V), vs = [.ref a] ∧ H a = some (.ins C dx fs) ∧ fs.lookup fld = some (.ref l) ∧ SqL K H l xs ∧
  ∀ it, H it = none → n ≤ it → Q (.ref it) (upd H it (ItO l it 0))
/-- the list that o holds -/
def tOwn (C : Addr) (fld : Str) (te : TE) : TE := fun σ H Q => te σ H fun x H1 => ∃ (a dx l : Addr) (fs : List (Str × V)), x = .ref a ∧ H1 a = some (.ins C dx fs) ∧ fs.lookup fld = some (.ref l) ∧ Q (.ref l) H1
theorem ev_own {σ : L2.St} {H : Hp} {te : TE} {C a dx l : Addr} {fld : Str} {fs : List (Str × V)} (h : Ev te σ H (.ref a)) (hi : H a = some (.ins C dx fs)) (hl : fs.lookup fld = some (.ref l)) : Ev (tOwn C fld te) σ H (.ref l) := fun H1 e Q q =>
  h H1 e _ fun H2 e2 => ⟨a, dx, l, fs, rfl, e2 _ _ (e _ _ hi), hl, q H2 e2⟩
theorem pi_own {X : Cx} {K : PySem.W.Frag} {tg e : Expr} {te : TE} {C f : Addr} {fd : FuncData} {fld : Str} {n : Nat} (hk : X.K = K) (he : PE X e te) (hm : Meth K C "__iter__" f)
    (F : FnS X.prog X.w X.K X.mg X.base n f fd ["self"] (spIt K C fld)) (hr : Room n X.A) (hb : Binds X.K fd ["self"] []) : PI X tg e (iList K (tOwn C fld te)) := by
  subst hk
  refine ⟨fun pins s σ H R I h => ?_⟩
  refine thn (he.run pins s σ H _ I h) fun u s1 ⟨x, H1, I1, rx, a, dx, l, fs, ex, ea, el, l', e2, ⟨xs, hq⟩, q⟩ => ?_
  subst ex
  cases e2
  obtain rfl : u = Value.ref a := rx
  obtain ⟨mA, J0, _⟩ := ins_get I1.hok ea
  obtain ⟨od, J, _⟩ := J0.look
  obtain ⟨m, hF⟩ := I1.fr
  refine PySem.W.owit_iter hF I1.ok.mod.kin J hm.at_ hm.fn ?_
  have h2 := hb s1 [.ref a] I1.kIn rfl
  refine wpAny_call (codeAny_mono (F.go X.A X.stack s1 H1 ⟨[.ref a], []⟩ [.ref a] [.ref a] (fun v H' => ∃ it, v = .ref it ∧ H1 it = none ∧ s1.heap.objs.size ≤ it ∧ H' = upd H1 it (ItO l it 0)) E0 hr I1.env0 (by simpa using h2) (.cons rfl .nil)
    ⟨a, dx, l, fs, xs, rfl, ea, el, hq, fun it hit hn => ⟨it, rfl, hit, hn, rfl⟩⟩) fun r s' hce => ?_)
  cases r with
  | error e => exact False.elim hce
  | ok fl =>
    cases fl with
    | next => exact False.elim hce
    | brk => exact False.elim hce
    | cont => exact False.elim hce
    | ret u =>
      obtain ⟨v, H2, I2, rv, it, ev, hit, hsz, eH⟩ := I1.after hce
      subst ev eH
      cases rv
      have hi : (upd H1 it (ItO l it 0)) it = some (ItO l it 0) := upd_same
      have eo := itO_get I2 hi
      have hT : s'.TypeIs (.ref it) "list_iterator" := ⟨_, eo, rfl⟩
      show PySem.W.OwitIt _ _ _ _ (Value.ref it) s'
      unfold PySem.W.OwitIt
      refine wpAny_specialOf (name := Str.ofString "__next__") hT slot_listiter_next.lookup ?_
      have I3 := ItX.inv_drop I2 hi
      refine ⟨it, [it], _, _, _, rfl, I3, turn_list l it, ⟨_, eo, rfl, rfl⟩, fun b hb => ?_, ?_⟩
      · have e : b = it := by simpa using hb
        rw [e]
        exact ItX.inv_fp I2 hi (Nat.le_trans I1.sz hsz)
      · rw [ItX.dropH_upd hit]
        exact q

/-! ### ascending hours -/
def Asc (lo hi : Int) (xs : List Int) : Prop := xs.Pairwise (· < ·) ∧ ∀ x ∈ xs, lo ≤ x ∧ x < hi
theorem Asc.nil {lo hi : Int} : Asc lo hi [] := ⟨.nil, fun x h => by cases h⟩
theorem Asc.append {lo mid mid' hi : Int} {xs ys : List Int} (h : Asc lo mid xs) (g : Asc mid' hi ys) (h1 : lo ≤ mid') (h2 : mid ≤ mid') (h3 : mid ≤ hi) : Asc lo hi (xs ++ ys) := by
  refine ⟨List.pairwise_append.mpr ⟨h.1, g.1, fun x hx y hy => ?_⟩, fun x hx => ?_⟩
  · have := h.2 x hx
    have := g.2 y hy
    omega
  · rcases List.mem_append.mp hx with hx | hx
    · have := h.2 x hx
      omega
    · have := g.2 x hx
      omega
theorem Asc.mono {lo hi lo' hi' : Int} {xs : List Int} (h : Asc lo hi xs) (h1 : lo' ≤ lo) (h2 : hi ≤ hi') : Asc lo' hi' xs := ⟨h.1, fun x hx => by have := h.2 x hx; omega⟩
theorem Asc.filter {lo hi : Int} {xs : List Int} (p : Int → Bool) (h : Asc lo hi xs) : Asc lo hi (xs.filter p) := ⟨h.1.filter p, fun x hx => h.2 x (List.mem_filter.mp hx).1⟩
theorem asc_range {f : Nat → Bool} : ∀ n : Nat, Asc 0 (n : Int) (pick n f fun i => (i : Int))
  | 0 => by unfold pick; exact .nil
  | n + 1 => by
    rw [pick_succ]
    refine (asc_range n).append (mid' := (n : Int)) ?_ (by omega) (by omega) (by omega)
    by_cases h : f n = true
    · rw [if_pos h]
      exact ⟨List.pairwise_singleton _ _, fun x hx => by cases List.mem_singleton.mp hx; omega⟩
    · rw [if_neg h]
      exact .nil
theorem Asc.len {xs : List Int} : ∀ {lo hi : Int}, Asc lo hi xs → (xs.length : Int) ≤ max 0 (hi - lo) := by
  induction xs with
  | nil => intro lo hi _; simp; omega
  | cons x xs ih =>
    intro lo hi h
    have hx := h.2 x List.mem_cons_self
    have h' : Asc (x + 1) hi xs := ⟨(List.pairwise_cons.mp h.1).2, fun y hy => by
      have a := (List.pairwise_cons.mp h.1).1 y hy
      have b := h.2 y (List.mem_cons_of_mem _ hy)
      omega⟩
    have := ih h'
    simp only [List.length_cons]
    omega
theorem asc_shift {c : Int} {bs : List Int} (p : Int → Bool) (h : Asc 0 25 bs) : Asc c (c + 25) ((bs.filter p).map fun b => c + b) := by
  have hf := h.filter p
  refine ⟨List.pairwise_map.mpr (hf.1.imp fun {a b} hab => by show c + a < c + b; omega), fun x hx => ?_⟩
  obtain ⟨b, hb, rfl⟩ := List.mem_map.mp hx
  have := hf.2 b hb
  omega
theorem rg_pick (n : Int) : rgV 0 n = (pick n.toNat (fun _ => true) fun i => (i : Int)).map V.int := by
  unfold rgV pick
  rw [List.filter_eq_self.mpr fun _ _ => rfl, List.map_map, Int.sub_zero]
  exact List.map_congr_left fun i _ => congrArg V.int (Int.zero_add _)
theorem ev_lenN' {K : PySem.W.Frag} {σ : L2.St} {H : Hp} {ta : TE} {xs : List V} (ha : EvL ta σ H xs) : Ev (tCB (rLenK K) (tCons ta tNil)) σ H (.int (xs.length : Int)) := fun H1 e Q q =>
  ha H1 e _ fun p H2 _ e2 hp => ⟨.ref p, xs.length, rfl, .inl ⟨_, sq_of hp, rfl⟩, q H2 e2⟩
theorem rep_ints (m : Nat) (c : Int) : (List.replicate m [V.int c]).flatten = (List.replicate m c).map V.int := by
  induction m with
  | zero => rfl
  | succ m ih => rw [List.replicate_succ, List.flatten_cons, ih, List.replicate_succ, List.map_cons]; rfl
/-! ### counts of pairs -/
def cntP (n : Int) (P : List (Int × Int)) : List Int := (List.range n.toNat).map fun d : Nat => ((P.filter fun p => decide ((p.1 - p.2) % n = (d : Int))).length : Int)
theorem cntP_nil (n : Int) : (List.replicate n.toNat [V.int 0]).flatten = (cntP n []).map V.int := by
  unfold cntP
  generalize n.toNat = N
  induction N with
  | zero => rfl
  | succ N ih =>
    rw [List.range_succ, List.map_append, List.map_append, List.replicate_succ', List.flatten_append, ih]
    simp
theorem cntP_len {n : Int} {P : List (Int × Int)} : (cntP n P).length = n.toNat := by
  unfold cntP
  rw [List.length_map, List.length_range]
theorem cntP_get {n : Int} {P : List (Int × Int)} {d : Nat} (h : d < n.toNat) : (cntP n P)[d]? = some ((P.filter fun p => decide ((p.1 - p.2) % n = (d : Int))).length : Int) := by
  unfold cntP
  rw [List.getElem?_map, List.getElem?_range h]
  rfl
theorem cntP_set {n x y : Int} {P : List (Int × Int)} {d : Nat} (h : d < n.toNat) (hd : (x - y) % n = (d : Int)) :
    (cntP n P).set d (((P.filter fun p => decide ((p.1 - p.2) % n = (d : Int))).length : Int) + 1) = cntP n (P ++ [(x, y)]) := by
  refine List.ext_getElem? fun i => ?_
  by_cases hi : i < n.toNat
  · rw [cntP_get hi]
    by_cases e : i = d
    · subst e
      rw [List.getElem?_set_self (by rw [cntP_len]; exact hi), List.filter_append]
      simp [hd]
    · rw [List.getElem?_set_ne (by omega), cntP_get hi, List.filter_append]
      have : ¬ (d : Int) = (i : Int) := by omega
      simp [hd, this]
  · rw [List.getElem?_eq_none (by rw [List.length_set, cntP_len]; omega), List.getElem?_eq_none (by rw [cntP_len]; omega)]
def prod (xs ys : List Int) : List (Int × Int) := xs.flatMap fun x => ys.map fun y => (x, y)
theorem prod_take {xs ys : List Int} {i : Nat} {x : Int} (h : xs[i]? = some x) : prod (xs.take (i + 1)) ys = prod (xs.take i) ys ++ ys.map fun y => (x, y) := by
  unfold prod
  rw [List.take_succ, h, List.flatMap_append]
  simp

/-! ### ascending lists of hours as members of a lot -/
theorem asc_unique : ∀ {xs ys : List Int}, xs.Pairwise (· < ·) → ys.Pairwise (· < ·) → (∀ z, z ∈ xs ↔ z ∈ ys) → xs = ys
  | [], [], _, _, _ => rfl
  | [], y :: ys, _, _, h => by have := (h y).mpr List.mem_cons_self; cases this
  | x :: xs, [], _, _, h => by have := (h x).mp List.mem_cons_self; cases this
  | x :: xs, y :: ys, hx, hy, h => by
    have hx' := List.pairwise_cons.mp hx
    have hy' := List.pairwise_cons.mp hy
    have e : x = y := by
      have a : y ≤ x := by
        rcases List.mem_cons.mp ((h x).mp List.mem_cons_self) with z | z
        · omega
        · have := hy'.1 x z; omega
      have b : x ≤ y := by
        rcases List.mem_cons.mp ((h y).mpr List.mem_cons_self) with z | z
        · omega
        · have := hx'.1 y z; omega
      omega
    subst e
    rw [asc_unique hx'.2 hy'.2 fun z => ?_]
    constructor
    · intro hz
      rcases List.mem_cons.mp ((h z).mp (List.mem_cons_of_mem _ hz)) with q | q
      · have := hx'.1 z hz; omega
      · exact q
    · intro hz
      rcases List.mem_cons.mp ((h z).mpr (List.mem_cons_of_mem _ hz)) with q | q
      · have := hy'.1 z hz; omega
      · exact q
theorem asc_mod {n : Int} {xs : List Int} (h : Asc 0 n xs) : (xs.map fun x => x % n) = xs := by
  have e : ∀ x ∈ xs, (fun x => x % n) x = id x := fun x hx => Int.emod_eq_of_lt (h.2 x hx).1 (h.2 x hx).2
  rw [List.map_congr_left e, List.map_id]
theorem asc_resid {n : Int} {xs : List Int} (hn : 0 ≤ n) (h : Asc 0 n xs) : resid n (xs.map fun x => x % n) = xs := by
  rw [asc_mod h]
  unfold resid
  refine asc_unique (asc_range n.toNat).1 h.1 fun z => ?_
  unfold pick
  constructor
  · intro hz
    obtain ⟨i, hi, rfl⟩ := List.mem_map.mp hz
    exact of_decide_eq_true (List.mem_filter.mp hi).2
  · intro hz
    have b := h.2 z hz
    refine List.mem_map.mpr ⟨z.toNat, List.mem_filter.mpr ⟨List.mem_range.mpr (by omega), decide_eq_true ?_⟩, by omega⟩
    rw [show ((z.toNat : Nat) : Int) = z by omega]
    exact hz
theorem asc_scan {n : Int} : ∀ {xs : List Int} (seen : List Int), Asc 0 n xs → (∀ x ∈ xs, x ∉ seen) → scanR n seen xs = none
  | [], _, _, _ => rfl
  | x :: xs, seen, h, hs => by
    have b := h.2 x List.mem_cons_self
    have e : x % n = x := Int.emod_eq_of_lt b.1 b.2
    have hp := List.pairwise_cons.mp h.1
    unfold scanR
    rw [e, if_neg (hs x List.mem_cons_self)]
    refine asc_scan _ ⟨hp.2, fun y hy => h.2 y (List.mem_cons_of_mem _ hy)⟩ fun y hy hm => ?_
    rcases List.mem_append.mp hm with q | q
    · exact hs y (List.mem_cons_of_mem _ hy) q
    · have := hp.1 y hy
      have := List.mem_singleton.mp q
      omega
/-! ### counts two ways -/
def cnt (n : Int) (xs ys : List Int) : List Int := (List.range n.toNat).map fun d : Nat => ((ys.filter fun y => decide ((y + (d : Int)) % n ∈ xs)).length : Int)
theorem mod_turn {n x y d : Int} (hn : 0 < n) (hx : 0 ≤ x ∧ x < n) (hd : 0 ≤ d ∧ d < n) : (x - y) % n = d ↔ (y + d) % n = x := by
  constructor
  · intro h
    have e := Int.emod_add_mul_ediv (x - y) n
    have e2 : y + d = x + n * (-((x - y) / n)) := by rw [Int.mul_neg]; omega
    rw [e2, Int.add_mul_emod_self_left]
    exact Int.emod_eq_of_lt hx.1 hx.2
  · intro h
    have e := Int.emod_add_mul_ediv (y + d) n
    have e2 : x - y = d + n * (-((y + d) / n)) := by rw [Int.mul_neg]; omega
    rw [e2, Int.add_mul_emod_self_left]
    exact Int.emod_eq_of_lt hd.1 hd.2
theorem prod_cons {x : Int} {xs ys : List Int} : prod (x :: xs) ys = (ys.map fun y => (x, y)) ++ prod xs ys := by
  unfold prod
  rw [List.flatMap_cons]
theorem filt_or {ys : List Int} {p q : Int → Bool} (h : ∀ y ∈ ys, ¬ (p y = true ∧ q y = true)) : (ys.filter fun y => p y || q y).length = (ys.filter p).length + (ys.filter q).length := by
  induction ys with
  | nil => rfl
  | cons y ys ih =>
    have := ih fun z hz => h z (List.mem_cons_of_mem _ hz)
    have hy := h y List.mem_cons_self
    simp only [List.filter_cons]
    cases hp : p y <;> cases hq : q y <;> simp [hp, hq] at hy ⊢ <;> omega
theorem pairs_cnt {n : Int} {ys : List Int} (hn : 0 < n) {d : Int} (hd : 0 ≤ d ∧ d < n) : ∀ {xs : List Int}, Asc 0 n xs →
    ((prod xs ys).filter fun p => decide ((p.1 - p.2) % n = d)).length = (ys.filter fun y => decide ((y + d) % n ∈ xs)).length
  | [], _ => by
    have e : (ys.filter fun y => decide ((y + d) % n ∈ ([] : List Int))) = [] := List.filter_eq_nil_iff.mpr fun y _ => by simp
    rw [e]
    rfl
  | x :: xs, h => by
    have hp := List.pairwise_cons.mp h.1
    have hx := h.2 x List.mem_cons_self
    have ih := pairs_cnt (ys := ys) hn hd (xs := xs) ⟨hp.2, fun y hy => h.2 y (List.mem_cons_of_mem _ hy)⟩
    rw [prod_cons, List.filter_append, List.length_append, ih, List.filter_map, List.length_map]
    have e1 : (ys.filter ((fun p : Int × Int => decide ((p.1 - p.2) % n = d)) ∘ fun y => (x, y))) = ys.filter fun y => decide ((y + d) % n = x) :=
      List.filter_congr fun y _ => decide_eq_decide.mpr (mod_turn hn hx hd)
    have e2 : (ys.filter fun y => decide ((y + d) % n ∈ x :: xs)) = ys.filter fun y => decide ((y + d) % n = x) || decide ((y + d) % n ∈ xs) :=
      List.filter_congr fun y _ => by rw [← Bool.decide_or]; exact decide_eq_decide.mpr List.mem_cons
    rw [e1, e2, filt_or]
    rintro y _ ⟨h1, h2⟩
    have h1 := of_decide_eq_true h1
    have h2 := of_decide_eq_true h2
    rw [h1] at h2
    have := hp.1 x h2
    omega
theorem cnt_eq {n : Int} {xs ys : List Int} (hn : 0 < n) (h : Asc 0 n xs) : cntP n (prod xs ys) = cnt n xs ys := by
  unfold cntP cnt
  refine List.map_congr_left fun d hd => ?_
  have := List.mem_range.mp hd
  rw [pairs_cnt hn (by omega) h]
theorem swap_cons {x : Int} {xs : List Int} {r : Int × Int → Bool} : ∀ ys : List Int, ((prod ys (x :: xs)).filter r).length = (ys.filter fun y => r (y, x)).length + ((prod ys xs).filter r).length
  | [] => rfl
  | y :: ys => by
    rw [prod_cons, prod_cons, List.filter_append, List.filter_append, List.length_append, List.length_append, swap_cons ys, List.map_cons, List.filter_cons, List.filter_cons]
    cases r (y, x) <;> simp <;> omega
theorem swap_cnt {ys : List Int} {p : Int × Int → Bool} : ∀ xs : List Int, ((prod xs ys).filter p).length = ((prod ys xs).filter fun q => p (q.2, q.1)).length
  | [] => by
    have e : prod ys [] = [] := by
      unfold prod
      simp
    rw [e]
    rfl
  | x :: xs => by
    rw [prod_cons, List.filter_append, List.length_append, swap_cnt xs, swap_cons, List.filter_map, List.length_map]
    rfl
theorem cnt_back {n : Int} {xs ys : List Int} (hn : 0 < n) (h : Asc 0 n xs) : ((List.range n.toNat).map fun d : Nat => (cnt n xs ys).getD ((0 - (d : Int)) % n).toNat 0) = cntP n (prod ys xs) := by
  rw [← cnt_eq hn h]
  unfold cntP
  refine List.map_congr_left fun d hd => ?_
  have hd' := List.mem_range.mp hd
  have m0 : 0 ≤ (0 - (d : Int)) % n := Int.emod_nonneg _ (by omega)
  have m1 : (0 - (d : Int)) % n < n := Int.emod_lt_of_pos _ hn
  rw [List.getD_eq_getElem?_getD, List.getElem?_map, List.getElem?_range (by omega), Option.map_some, Option.getD_some, swap_cnt]
  have e : (fun q : Int × Int => decide (((q.2, q.1).1 - (q.2, q.1).2) % n = ((((0 - (d : Int)) % n).toNat : Nat) : Int))) = fun q : Int × Int => decide ((q.1 - q.2) % n = (d : Int)) := by
    funext q
    refine decide_eq_decide.mpr ?_
    rw [show ((((0 - (d : Int)) % n).toNat : Nat) : Int) = (0 - (d : Int)) % n by omega]
    show (q.2 - q.1) % n = (0 - (d : Int)) % n ↔ (q.1 - q.2) % n = (d : Int)
    have hd2 : (d : Int) % n = (d : Int) := Int.emod_eq_of_lt (by omega) (by omega)
    constructor
    · intro z
      have := Int.emod_emod_of_dvd (0 - (q.2 - q.1)) (Int.dvd_refl n)
      have z2 : (0 - (q.2 - q.1)) % n = (0 - (0 - (d : Int))) % n := by rw [Int.sub_emod, z, ← Int.sub_emod]
      rw [show q.1 - q.2 = 0 - (q.2 - q.1) by omega, z2, show (0 : Int) - (0 - (d : Int)) = (d : Int) by omega, hd2]
    · intro z
      have z2 : (0 - (q.1 - q.2)) % n = (0 - (d : Int)) % n := by rw [Int.sub_emod, z, ← hd2, ← Int.sub_emod, hd2]
      rw [show q.2 - q.1 = 0 - (q.1 - q.2) by omega, z2]
  rw [e]
theorem inV_ints {i : Int} {xs : List Int} : inV (V.int i) (xs.map V.int) = decide (i ∈ xs) := by
  unfold inV
  induction xs with
  | nil => rfl
  | cons x xs ih =>
    rw [List.map_cons, List.any_cons, ih]
    by_cases h : x = i
    · subst h
      simp [eqV]
    · have h' : ¬ i = x := fun z => h z.symm
      simp [eqV, h, h']

/-! ### operators of own classes -/
section
variable {X : Cx} {CX : CXT} {pins : List (Addr × Obj)} {σ : L2.St} {H : Hp} {s : Shared} {f C : Addr} {fd : FuncData} {ps : List Str} {n : Nat} {sp : Sp}
theorem run_own {E : XK} {Q : VK} {us : List Value} {vs : List V} (F : FnOk X.prog X.w X.K X.mg X.base CX n f fd ps sp) (hr : Room n X.A) (hb : Binds X.K fd ps []) (hx : PassesAt CX X σ E)
    (I : Inv X pins σ H s) (r : Vals vs us) (h : sp vs H Q E) : wpAny (model X.prog X.w) X.A (call (.ref f) us) (PySem.W.CmpBack (EP X pins σ Q)) X.xe s := by
  have hl : us.length = ps.length := by rw [← r.length]; exact F.len _ _ _ _ h
  have b := hb s us I.kIn (by rw [List.append_nil]; exact hl)
  rw [List.append_nil] at b
  refine wpAny_call (codeAny_mono (F.run X.A X.stack s H ⟨us, []⟩ us vs Q E hr I.env0 b r h) fun r s' hq => ?_)
  cases r with
  | error e => exact hx pins H s e s' I hq
  | ok fl =>
    cases fl with
    | ret u =>
      obtain ⟨v, H', I', rv, q⟩ := I.after hq
      exact SlX.cmpback rv ⟨v, H', I', rv, q⟩
    | next => exact False.elim hq
    | brk => exact False.elim hq
    | cont => exact False.elim hq
end
/-- what an own operator asks: x an object of the class at C -/
def rOwn1 (C : Addr) (sp : Sp) (E : L2.St → XK) (σ : L2.St) : V → Hp → VK → Prop := fun x H Q => ∃ a dx fs, x = .ref a ∧ H a = some (.ins C dx fs) ∧ sp [x] H Q (E σ)
/-- .. y an object of the same class -/
def rOwn2 (C : Addr) (sp : Sp) (E : L2.St → XK) (σ : L2.St) : R2 := fun x y H Q => ∃ a dx fs b dy gs, x = .ref a ∧ H a = some (.ins C dx fs) ∧ y = .ref b ∧ H b = some (.ins C dy gs) ∧ sp [x, y] H Q (E σ)
/-- .. y an int -/
def rOwnI (C : Addr) (sp : Sp) (E : L2.St → XK) (σ : L2.St) : R2 := fun x y H Q => ∃ a dx fs i, x = .ref a ∧ H a = some (.ins C dx fs) ∧ y = .int i ∧ sp [x, y] H Q (E σ)
def OpS (X : Cx) (f : Value → Value → Sem Value) (r : L2.St → R2) : Prop :=
  ∀ (pins : List (Addr × Obj)) (s : Shared) (σ : L2.St) (H : Hp) (x y : V) (v u : Value) (Q : VK), Inv X pins σ H s → RelV x v → RelV y u → r σ x y H Q → wpAny (model X.prog X.w) X.A (f v u) (EP X pins σ Q) X.xe s
def UnS (X : Cx) (f : Value → Sem Value) (r : L2.St → V → Hp → VK → Prop) : Prop :=
  ∀ (pins : List (Addr × Obj)) (s : Shared) (σ : L2.St) (H : Hp) (x : V) (v : Value) (Q : VK), Inv X pins σ H s → RelV x v → r σ x H Q → wpAny (model X.prog X.w) X.A (f v) (EP X pins σ Q) X.xe s
def tOpS (r : L2.St → R2) (ta tb : TE) : TE := fun σ H Q => ta σ H fun x H1 => tb σ H1 fun y H2 => r σ x y H2 Q
def tUnS (r : L2.St → V → Hp → VK → Prop) (ta : TE) : TE := fun σ H Q => ta σ H fun x H1 => r σ x H1 Q
section
variable {X : Cx} {CX : CXT} {f C : Addr} {fd : FuncData} {ps : List Str} {n : Nat} {sp : Sp} {E : L2.St → XK} {op : Operator} {a b : Expr} {ta tb : TE} {pos : Pos}
theorem pe_opS {r : L2.St → R2} (ho : OpS X (binaryOp op) r) (ha : PE X a ta) (hb : PE X b tb) : PE X (.BinOp a op b pos) (tOpS r ta tb) := by
  refine ⟨fun pins s σ H Q I h => ?_⟩
  exact wpAny_BinOp (binT ha hb I h fun v u s2 x y H2 I2 rx ry q => ho pins s2 σ H2 x y v u Q I2 rx ry q)
theorem pe_unS {op : UnaryOp} {r : L2.St → V → Hp → VK → Prop} (ho : UnS X (unaryOp op) r) (ha : PE X a ta) : PE X (.UnaryOp op a pos) (tUnS r ta) := by
  refine ⟨fun pins s σ H Q I h => ?_⟩
  exact PyProof.Rows.UnaryOp_ (thn (ha.run pins s σ H _ I h) fun v s1 ⟨x, H1, I1, r1, q1⟩ => ho pins s1 σ H1 x v Q I1 r1 q1)
/-- the facts of a class with operators -/
structure Ops (K : PySem.W.Frag) (C : Addr) : Prop where
  first : PySem.W.selfFirst K C = true
  sub : PySem.W.subIn K (.type "int") (.ref C) = some false
theorem un_negO (m : Meth X.K C "__neg__" f) (F : FnOk X.prog X.w X.K X.mg X.base CX n f fd ps sp) (hr : Room n X.A) (hb : Binds X.K fd ps []) (hx : ∀ σ, PassesAt CX X σ (E σ)) : UnS X (unaryOp .USub) (rOwn1 C sp E) := by
  intro pins s σ H x v Q I rx h
  obtain ⟨a, dx, fs, rfl, ha, h⟩ := h
  cases rx
  obtain ⟨mA, J, _⟩ := ins_get I.hok ha
  obtain ⟨od, J, _⟩ := J.look
  obtain ⟨m', hF⟩ := I.fr
  refine PySem.W.ksp_neg hF I.ok.mod.kin J m.at_ m.fn (wpAny_mono (run_own (vs := [V.ref a]) F hr hb (hx σ) I (.cons rfl .nil) h) (fun v s' hv => ?_) fun _ _ e => e)
  cases v <;> first | exact hv.elim | exact hv
theorem un_invO (m : Meth X.K C "__invert__" f) (F : FnOk X.prog X.w X.K X.mg X.base CX n f fd ps sp) (hr : Room n X.A) (hb : Binds X.K fd ps []) (hx : ∀ σ, PassesAt CX X σ (E σ)) : UnS X (unaryOp .Invert) (rOwn1 C sp E) := by
  intro pins s σ H x v Q I rx h
  obtain ⟨a, dx, fs, rfl, ha, h⟩ := h
  cases rx
  obtain ⟨mA, J, _⟩ := ins_get I.hok ha
  obtain ⟨od, J, _⟩ := J.look
  obtain ⟨m', hF⟩ := I.fr
  refine PySem.W.ksp_inv hF I.ok.mod.kin J m.at_ m.fn (wpAny_mono (run_own (vs := [V.ref a]) F hr hb (hx σ) I (.cons rfl .nil) h) (fun v s' hv => ?_) fun _ _ e => e)
  cases v <;> first | exact hv.elim | exact hv
theorem op_own2 (o : Ops X.K C) (m : Meth X.K C (PySem.dunder op.info.2) f) (F : FnOk X.prog X.w X.K X.mg X.base CX n f fd ps sp) (hr : Room n X.A) (hb : Binds X.K fd ps []) (hx : ∀ σ, PassesAt CX X σ (E σ)) : OpS X (binaryOp op) (rOwn2 C sp E) := by
  intro pins s σ H x y v u Q I rx ry h
  obtain ⟨a, dx, fs, b, dy, gs, rfl, ha, rfl, hb', h⟩ := h
  cases rx
  cases ry
  obtain ⟨mA, J, _⟩ := ins_get I.hok ha
  obtain ⟨od, J, _⟩ := J.look
  obtain ⟨mB, J', _⟩ := ins_get I.hok hb'
  obtain ⟨od', J', _⟩ := J'.look
  obtain ⟨m', hF⟩ := I.fr
  exact PySem.W.binop_K hF I.ok.mod.kin J J'.type o.first m.at_ m.fn (run_own (vs := [V.ref a, V.ref b]) F hr hb (hx σ) I (.cons rfl (.cons rfl .nil)) h)
theorem op_ownI {rc : Option Value} {fo ro : Option Value} (o : Ops X.K C) (m : Meth X.K C (PySem.dunder op.info.2) f) (hrc : PySem.W.findIn X.K (.ref C) (dunderR op.info.2) = some rc) (hp : rc = none ∨ ∃ g : Addr, rc = some (.ref g))
    (h1 : PySem.W.findIn X.K (.type "int") (PySem.dunder op.info.2) = some fo) (h2 : PySem.W.findIn X.K (.type "int") (dunderR op.info.2) = some ro)
    (F : FnOk X.prog X.w X.K X.mg X.base CX n f fd ps sp) (hr : Room n X.A) (hb : Binds X.K fd ps []) (hx : ∀ σ, PassesAt CX X σ (E σ)) : OpS X (binaryOp op) (rOwnI C sp E) := by
  intro pins s σ H x y v u Q I rx ry h
  obtain ⟨a, dx, fs, i, rfl, ha, rfl, h⟩ := h
  cases rx
  obtain ⟨t, rfl⟩ := (show ∃ t, u = Value.int i t from ry)
  obtain ⟨mA, J, _⟩ := ins_get I.hok ha
  obtain ⟨od, J, _⟩ := J.look
  obtain ⟨m', hF⟩ := I.fr
  exact PySem.W.ksp_binT hF I.ok.mod.kin J rfl o.first m.at_ m.fn hrc hp h1 h2 o.sub (run_own (vs := [V.ref a, V.int i]) F hr hb (hx σ) I (.cons rfl (.cons ⟨t, rfl⟩ .nil)) h)
end
section
variable {X : Cx} {CX : CXT} {pins : List (Addr × Obj)} {σ : L2.St} {H : Hp} {s : Shared} {f C : Addr} {fd : FuncData} {ps : List Str} {n : Nat} {sp : Sp}
/-- .. called from a place A below the running body -/
theorem run_ownA {A : Around} {E : XK} {Q : VK} {us : List Value} {vs : List V} (F : FnOk X.prog X.w X.K X.mg X.base CX n f fd ps sp) (hr : Room n A) (hf : A.frames = X.A.frames) (hb : Binds X.K fd ps []) (hx : PassesAt CX X σ E)
    (I : Inv X pins σ H s) (r : Vals vs us) (h : sp vs H Q E) : wpAny (model X.prog X.w) A (call (.ref f) us) (EP X pins σ Q) X.xe s := by
  have hl : us.length = ps.length := by rw [← r.length]; exact F.len _ _ _ _ h
  have b := hb s us I.kIn (by rw [List.append_nil]; exact hl)
  rw [List.append_nil] at b
  have e0 : Env0 X.prog X.w X.K X.mg X.base A X.stack s H := by
    have e := I.env0
    exact ⟨by rw [hf]; exact e.frames, e.mod, e.bs, e.bsz, e.funs, e.frf, e.hok, e.bare⟩
  refine wpAny_call (codeAny_mono (F.run A X.stack s H ⟨us, []⟩ us vs Q E hr e0 b r h) fun r s' hq => ?_)
  cases r with
  | error e => exact hx pins H s e s' I hq
  | ok fl =>
    cases fl with
    | ret u => exact I.after hq
    | next => exact False.elim hq
    | brk => exact False.elim hq
    | cont => exact False.elim hq
theorem ty_looks {x : V} {u t : Value} (I : Inv X pins σ H s) (rx : RelV x u) (ty : TyX X.K H x t) : PySem.W.Looks (model X.prog X.w) s.heap (typeOf u) t := by
  obtain ⟨P, kx, hp, _⟩ := kit_of I rx ty
  exact kx.ty _ _ I.kIn hp
end
/-- x an object of the class at C, y of any known type -/
def rOwnC (K : PySem.W.Frag) (C : Addr) (sp : Sp) (E : L2.St → XK) (σ : L2.St) : R2 := fun x y H Q => ∃ a dx fs tb, x = .ref a ∧ H a = some (.ins C dx fs) ∧ TyX K H y tb ∧ PySem.W.notFirst K C tb = true ∧ sp [x, y] H Q (E σ)
/-- not ==: the other answer -/
def rOwnN (K : PySem.W.Frag) (C : Addr) (sp : Sp) (E : L2.St → XK) (σ : L2.St) : R2 := fun x y H Q => ∃ a dx fs tb, x = .ref a ∧ H a = some (.ins C dx fs) ∧ TyX K H y tb ∧ PySem.W.notFirst K C tb = true ∧ sp [x, y] H (fun v H' => ∃ b, v = .bl b ∧ Q (.bl (!b)) H') (E σ)
/-- y in x, x an object of the class at C -/
def rOwnIn (C : Addr) (sp : Sp) (E : L2.St → XK) (σ : L2.St) : R2 := fun y x H Q => ∃ a dx fs, x = .ref a ∧ H a = some (.ins C dx fs) ∧ sp [x, y] H (fun v H' => ∃ b, v = .bl b ∧ Q (.bl b) H') (E σ)
section
variable {X : Cx} {CX : CXT} {f C : Addr} {fd : FuncData} {ps : List Str} {n : Nat} {sp : Sp} {E : L2.St → XK} {a b : Expr} {ta tb : TE} {pos : Pos}
theorem pe_cmpS {op : CmpOp} {r : L2.St → R2} (ho : OpS X (compareOp op) r) (ha : PE X a ta) (hb : PE X b tb) (hm : behindInMarks op b = false) : PE X (.Compare a [op] [b] pos) (tOpS r ta tb) := by
  refine ⟨fun pins s σ H Q I h => ?_⟩
  exact wpAny_Compare1 (binT ha hb I h fun v u s2 x y H2 I2 rx ry q => ho pins s2 σ H2 x y v u Q I2 rx ry q) hm
theorem pt_cmpS {op : CmpOp} {r : L2.St → R2} (ho : OpS X (compareOp op) r) (ha : PE X a ta) (hb : PE X b tb) (hm : behindInMarks op b = false) : PT X (.Compare a [op] [b] pos) (tTest (tOpS r ta tb)) := by
  refine ⟨fun pins s σ H Q I h => ?_⟩
  refine wpAny_isTrue_Compare1 (thn (ha.run pins s σ H _ I h) fun v s1 ⟨x, H1, I1, r1, q1⟩ => thn (hb.run pins s1 σ H1 _ I1 q1) fun u s2 ⟨y, H2, I2, r2, q2⟩ =>
    thn (ho pins s2 σ H2 x y v u _ I2 r1 r2 q2) fun c s3 ⟨z, H3, I3, r3, k, e, q3⟩ => ?_) hm
  subst e
  cases r3
  exact wpAny_truthy_bool ⟨H3, I3, q3⟩
theorem op_ownC {K : PySem.W.Frag} {op : CmpOp} (hop : ∀ v u, compareOp op v u = richCompare op v u) (m : Meth X.K C (cmpInfo op).2.1 f) (F : FnOk X.prog X.w X.K X.mg X.base CX n f fd ps sp) (hr : Room n X.A) (hb : Binds X.K fd ps []) (hx : ∀ σ, PassesAt CX X σ (E σ))
    (hk : X.K = K := by rfl) : OpS X (compareOp op) (rOwnC K C sp E) := by
  subst hk
  intro pins s σ H x y v u Q I rx ry h
  obtain ⟨a, dx, fs, tb, rfl, ha, ty, nf, h⟩ := h
  cases rx
  obtain ⟨mA, J, _⟩ := ins_get I.hok ha
  obtain ⟨od, J, _⟩ := J.look
  obtain ⟨m', hF⟩ := I.fr
  rw [hop]
  exact PySem.W.cmp_K hr.units0 hF I.ok.mod.kin J (ty_looks I ry ty) nf m.at_ m.fn (run_own (vs := [V.ref a, y]) F hr hb (hx σ) I (.cons rfl (.cons ry .nil)) h)
/-- len of an object with an own __len__ -/
def rOwnLen (C : Addr) (sp : Sp) (E : XK) : List V → Hp → VK → Prop := fun xs H Q => ∃ a dx fs, xs = [.ref a] ∧ H a = some (.ins C dx fs) ∧ sp [.ref a] H (fun v H' => ∃ i : Int, v = .int i ∧ (0 ≤ i ∧ i < 2 ^ 63) ∧ Q (.int i) H') E
theorem call_lenO {E : XK} (m : Meth X.K C "__len__" f) (F : FnOk X.prog X.w X.K X.mg X.base CX n f fd ps sp) (hr : Room (n + 1) X.A) (hb : Binds X.K fd ps []) (hx : ∀ σ, PassesAt CX X σ E) : CallR X (.builtin "len") (rOwnLen C sp E) := by
  intro pins s σ H xs us Q I r h
  obtain ⟨a, dx, fs, rfl, ha, h⟩ := h
  obtain ⟨u, rfl, rx⟩ := vals1 r
  cases rx
  obtain ⟨mA, J, _⟩ := ins_get I.hok ha
  obtain ⟨od, J, _⟩ := J.look
  obtain ⟨m', hF⟩ := I.fr
  refine PySem.W.len_K hF I.ok.mod.kin J m.at_ m.fn (wpAny_mono (run_ownA (vs := [V.ref a]) F hr.in1 rfl hb (hx σ) I (.cons rfl .nil) h) (fun v s' hv => ?_) fun _ _ e => e)
  obtain ⟨z, H', I', rv, i, rfl, hi, q⟩ := hv
  obtain ⟨t, rfl⟩ := (show ∃ t, v = Value.int i t from rv)
  exact ⟨hi, ⟨.int i, H', I'.tok _, ⟨_, rfl⟩, q⟩⟩
theorem op_ownIn (m : Meth X.K C "__contains__" f) (F : FnOk X.prog X.w X.K X.mg X.base CX n f fd ps sp) (hr : Room n X.A) (hb : Binds X.K fd ps []) (hx : ∀ σ, PassesAt CX X σ (E σ)) : OpS X (compareOp .In) (rOwnIn C sp E) := by
  intro pins s σ H y x u v Q I ry rx h
  obtain ⟨a, dx, fs, rfl, ha, h⟩ := h
  cases rx
  obtain ⟨mA, J, _⟩ := ins_get I.hok ha
  obtain ⟨od, J, _⟩ := J.look
  have hX := I.kIn
  have one := run_own (vs := [V.ref a, y]) F hr hb (hx σ) I (.cons rfl (.cons ry .nil)) h
  show wpAny _ _ (do return Value.bool (← contains (.ref a) u)) _ X.xe s
  refine wpAny_bind ?_
  unfold contains
  refine wpAny_holding ?_
  refine wpAny_bind (wpAny_bind (J.type.here ((PySem.W.looks_findIn hX m.at_).here ?_)))
  show wpAny _ _ (if (some (Value.ref f) == some Value.none) = true then _ else _) _ X.xe s
  rw [if_neg (by simp)]
  unfold callSpecialUnlessNone?
  refine wpAny_bind (wpAny_bind (wpAny_bind (J.type.here ((PySem.W.looks_findIn hX m.at_).here ?_))))
  refine wpAny_holding (wpAny_bind ((PySem.W.bind_fn hX _ (beq_iff_eq.mp m.fn)).here ?_))
  show wpAny _ _ (if (Value.ref f == Value.none) = true then _ else _) _ X.xe s
  rw [if_neg (by simp)]
  refine wpAny_bind (wpAny_mono one (fun z s' hz => ?_) fun _ _ e => e)
  have hz' : (EP X pins σ fun v H' => ∃ b, v = .bl b ∧ Q (.bl b) H') z s' := by
    cases z <;> first | exact hz.elim | exact hz
  obtain ⟨v, H', I', rv, b, rfl, q⟩ := hz'
  cases (show z = Value.bool b from rv)
  refine wpAny_pure ?_
  exact wpAny_truthy_bool (wpAny_pure ⟨.bl b, H', I', rfl, q⟩)
end
/-! ### x op= y for classes without the in-place method -/
section
variable {prog : Program} {w : World} {A : Around} {R : Value → Shared → Prop} {s : Shared} {K : PySem.W.Frag} {x C f : Addr} {ox : Obj} {od : Option Obj} {y : Value} {nm : String}
/-- the first class of a class at C is the class itself -/
theorem mro_first (hc : PySem.W.selfFirst K C = true) : ∃ (d : ClassData) (r : List Value), PySem.W.clsIn K C = some d ∧ d.mro = .ref C :: r := by
  obtain ⟨d, hd, e⟩ := PySem.W.any_some hc
  cases q : d.mro with
  | nil => rw [q] at e; cases e
  | cons u r =>
    rw [q] at e
    cases (beq_iff_eq.mp e)
    exact ⟨d, r, hd, q⟩
theorem bin1_own {Q : Option Value → Shared → Prop} (X : K.In s.heap) (I : PySem.W.InstAt s.heap x ox C od) (hy : PySem.W.Looks (model prog w) s.heap (typeOf y) (.ref C)) (hc : PySem.W.selfFirst K C = true)
    (hs : PySem.W.findIn K (.ref C) (PySem.dunder nm) = some (some (.ref f))) (hf : PySem.W.isFn K (.ref f) = true) (h : wpAny (model prog w) A (call (.ref f) [.ref x, y]) (PySem.W.CmpBack fun v => Q (some v)) R s) :
    wpAny (model prog w) A (binaryOp1 nm (.ref x) y) Q R s := by
  obtain ⟨d, r, hd, hm⟩ := mro_first hc
  have fl := PySem.W.fills_K (M := model prog w) X hd hm hs
  unfold binaryOp1
  refine wpAny_bind (I.type.here ?_)
  refine wpAny_bind (hy.here ?_)
  refine wpAny_bind (fl.here ?_)
  simp only [beq_self_eq_true, if_true]
  refine wpAny_bind (wpAny_pure ?_)
  simp only [Bool.and_false, Bool.false_and, Bool.false_eq_true, if_false]
  refine wpAny_bind (wpAny_pure ?_)
  simp only [Bool.false_eq_true, if_false]
  refine wpAny_bind (m := tryMethod (.ref x) _ y) ?_
  unfold tryMethod
  refine wpAny_bind ?_
  refine PySem.W.special_fn X I hs (beq_iff_eq.mp hf) (wpAny_mono h (fun v t hv => ?_) fun _ _ z => z)
  cases v <;> first | exact hv.elim | exact wpAny_pure (wpAny_pure hv)
theorem no_inplace {M : Model} {h : Heap} {add : Bool} (X : K.In h) {d : ClassData} (hd : PySem.W.clsIn K C = some d) (hm : d.mro = [.ref C, .type "object"]) (hc : PySem.W.findIn K (.ref C) (dunderI nm) = some none)
    (ho : PySem.W.findIn K (.type "object") (dunderI nm) = some none) : PySem.W.Looks M h (fillsInplaceSlot (.ref C) nm add) false := by
  intro A Q E s k q
  have Lm : PySem.W.Looks M h (mroOf (.ref C)) d.mro := (PySem.W.looks_clsIn X hd).andThen (f := fun d => pure d.mro) .now
  have X' : K.In s.heap := X.keeps k
  have L1 : PySem.W.Looks M s.heap (typeLookup (.ref C) (dunderI nm)) none := PySem.W.looks_findIn X' hc
  have L2 : PySem.W.Looks M s.heap (typeLookup (.type "object") (dunderI nm)) none := PySem.W.looks_findIn X' ho
  unfold fillsInplaceSlot
  refine wpAny_bind ((Lm.keeps k).here ?_)
  rw [hm, List.anyM_cons]
  refine wpAny_bind (wpAny_bind (L1.here (wpAny_pure ?_)))
  simp only [Bool.false_eq_true, if_false]
  rw [List.anyM_cons]
  refine wpAny_bind (wpAny_bind (L2.here (wpAny_pure ?_)))
  simp only [Bool.false_eq_true, if_false]
  exact wpAny_pure q
theorem inplace_by {op : Operator} {Q : Value → Shared → Prop} (I : PySem.W.InstAt s.heap x ox C od) (L : PySem.W.Looks (model prog w) s.heap (fillsInplaceSlot (.ref C) op.info.2 (op == .Add)) false)
    (h : wpAny (model prog w) A (binaryOp1 op.info.2 (.ref x) y) (fun r t => ∃ v, r = some v ∧ Q v t) R s) : wpAny (model prog w) A (inplaceOp op (.ref x) y) Q R s := by
  unfold inplaceOp
  refine wpAny_holding ?_
  refine wpAny_bind (I.type.here ?_)
  refine wpAny_bind (L.here ?_)
  simp only [Bool.false_eq_true, if_false]
  refine wpAny_bind (wpAny_mono h (fun r t hr => ?_) fun _ _ z => z)
  obtain ⟨v, rfl, q⟩ := hr
  exact wpAny_pure q
theorem bin1_int {i : Int} {t : Tok} {Q : Option Value → Shared → Prop} {rc fo ro : Option Value} (X : K.In s.heap) (I : PySem.W.InstAt s.heap x ox C od) (hc : PySem.W.selfFirst K C = true)
    (hs : PySem.W.findIn K (.ref C) (PySem.dunder nm) = some (some (.ref f))) (hf : PySem.W.isFn K (.ref f) = true) (hr : PySem.W.findIn K (.ref C) (dunderR nm) = some rc) (hp : rc = none ∨ ∃ g : Addr, rc = some (.ref g))
    (h1 : PySem.W.findIn K (.type "int") (PySem.dunder nm) = some fo) (h2 : PySem.W.findIn K (.type "int") (dunderR nm) = some ro) (hsub : PySem.W.subIn K (.type "int") (.ref C) = some false)
    (h : wpAny (model prog w) A (call (.ref f) [.ref x, .int i t]) (PySem.W.CmpBack fun v => Q (some v)) R s) : wpAny (model prog w) A (binaryOp1 nm (.ref x) (.int i t)) Q R s := by
  obtain ⟨d, r, hd, hm⟩ := mro_first hc
  have la : PySem.W.Looks (model prog w) s.heap (fillsNumberSlot (.ref C) nm) true := PySem.W.fills_K X hd hm hs
  have lb : PySem.W.Looks (model prog w) s.heap (fillsNumberSlot (.type "int") nm) ((fo.isSome && !isSeqSlot fo) || (ro.isSome && !isSeqSlot ro)) := PySem.W.ksp_fillsT X h1 h2
  have ls : PySem.W.Looks (model prog w) s.heap (isSubtype (.type "int") (.ref C)) false := PySem.W.looks_subIn X hsub
  have lp : PySem.W.Looks (model prog w) s.heap (numberSlotInPython (.ref C) nm) true := PySem.W.ksp_inPy X hs hr hp
  have lq : PySem.W.Looks (model prog w) s.heap (numberSlotInPython (.type "int") nm) false := PySem.W.Looks.of_pure rfl
  have lt : PySem.W.Looks (model prog w) s.heap (typeLookup (.type "int") (dunderR nm)) ro := PySem.W.looks_findIn X h2
  have ly : PySem.W.Looks (model prog w) s.heap (typeOf (.int i t)) (.type "int") := PySem.W.Looks.of_pure rfl
  generalize ((fo.isSome && !isSeqSlot fo) || (ro.isSome && !isSeqSlot ro)) = right at lb
  have ne : (Value.ref C == Value.type "int") = false := by simp
  have one : wpAny (model prog w) A (tryMethod (.ref x) (PySem.dunder nm) (.int i t)) (fun r s' => ∃ v, r = some v ∧ Q (some v) s') R s := by
    unfold tryMethod
    refine wpAny_bind (PySem.W.special_fn X I hs (beq_iff_eq.mp hf) (wpAny_mono h (fun v s' hv => ?_) fun _ _ z => z))
    cases v <;> first | exact hv.elim | exact wpAny_pure ⟨_, rfl, hv⟩
  unfold binaryOp1
  refine wpAny_bind (I.type.here ?_)
  refine wpAny_bind (ly.here ?_)
  refine wpAny_bind (la.here ?_)
  simp only [ne, Bool.false_eq_true, if_false]
  refine wpAny_bind (lb.here ?_)
  cases right with
  | false =>
    simp only [Bool.and_false, Bool.false_and, Bool.false_eq_true, if_false, if_true]
    refine wpAny_bind (wpAny_pure ?_)
    simp only [Bool.false_eq_true, if_false]
    refine wpAny_bind (wpAny_mono one (fun r s' hr' => ?_) fun _ _ z => z)
    obtain ⟨v, rfl, q⟩ := hr'
    exact wpAny_pure q
  | true =>
    simp only [Bool.and_true, Bool.not_false, if_true]
    refine wpAny_bind (ls.here ?_)
    simp only [Bool.false_eq_true, if_false]
    refine wpAny_bind (lp.here ?_)
    simp only [if_true]
    refine wpAny_bind (lq.here ?_)
    simp only [Bool.not_false, if_true]
    refine wpAny_bind (lt.here ?_)
    refine wpAny_bind (wpAny_mono one (fun r s' hr' => ?_) fun _ _ z => z)
    obtain ⟨v, rfl, q⟩ := hr'
    exact wpAny_pure q
end
/-- what a class without in-place methods has -/
structure NoIn (K : PySem.W.Frag) (C : Addr) (d : ClassData) : Prop where
  at_ : PySem.W.clsIn K C = some d
  mro : d.mro = [.ref C, .type "object"]
section
variable {X : Cx} {CX : CXT} {f C : Addr} {fd : FuncData} {ps : List Str} {n : Nat} {sp : Sp} {E : XK} {op : Operator} {d : ClassData}
theorem ip_own2 (o : Ops X.K C) (ni : NoIn X.K C d) (m : Meth X.K C (PySem.dunder op.info.2) f) (h1 : PySem.W.findIn X.K (.ref C) (dunderI op.info.2) = some none) (h2 : PySem.W.findIn X.K (.type "object") (dunderI op.info.2) = some none)
    (F : FnOk X.prog X.w X.K X.mg X.base CX n f fd ps sp) (hr : Room n X.A) (hb : Binds X.K fd ps []) (hx : ∀ σ, PassesAt CX X σ E) : OpR X (inplaceOp op) (rOwn2 C sp (fun _ => E) []) := by
  intro pins s σ H x y v u Q I rx ry h
  obtain ⟨a, dx, fs, b, dy, gs, rfl, ha, rfl, hb', h⟩ := h
  cases rx
  cases ry
  obtain ⟨mA, J, _⟩ := ins_get I.hok ha
  obtain ⟨od, J, _⟩ := J.look
  obtain ⟨mB, J', _⟩ := ins_get I.hok hb'
  obtain ⟨od', J', _⟩ := J'.look
  refine inplace_by J (no_inplace I.kIn ni.at_ ni.mro h1 h2) (bin1_own I.kIn J J'.type o.first m.at_ m.fn (wpAny_mono (run_own (vs := [V.ref a, V.ref b]) F hr hb (hx σ) I (.cons rfl (.cons rfl .nil)) h) (fun v s' hv => ?_) fun _ _ e => e))
  cases v <;> first | exact hv.elim | exact ⟨_, rfl, hv⟩
theorem ip_ownI {rc fo ro : Option Value} (o : Ops X.K C) (ni : NoIn X.K C d) (m : Meth X.K C (PySem.dunder op.info.2) f) (hi1 : PySem.W.findIn X.K (.ref C) (dunderI op.info.2) = some none) (hi2 : PySem.W.findIn X.K (.type "object") (dunderI op.info.2) = some none)
    (hrc : PySem.W.findIn X.K (.ref C) (dunderR op.info.2) = some rc) (hp : rc = none ∨ ∃ g : Addr, rc = some (.ref g)) (h1 : PySem.W.findIn X.K (.type "int") (PySem.dunder op.info.2) = some fo) (h2 : PySem.W.findIn X.K (.type "int") (dunderR op.info.2) = some ro)
    (F : FnOk X.prog X.w X.K X.mg X.base CX n f fd ps sp) (hr : Room n X.A) (hb : Binds X.K fd ps []) (hx : ∀ σ, PassesAt CX X σ E) : OpR X (inplaceOp op) (rOwnI C sp (fun _ => E) []) := by
  intro pins s σ H x y v u Q I rx ry h
  obtain ⟨a, dx, fs, i, rfl, ha, rfl, h⟩ := h
  cases rx
  obtain ⟨t, rfl⟩ := (show ∃ t, u = Value.int i t from ry)
  obtain ⟨mA, J, _⟩ := ins_get I.hok ha
  obtain ⟨od, J, _⟩ := J.look
  refine inplace_by J (no_inplace I.kIn ni.at_ ni.mro hi1 hi2) (bin1_int I.kIn J o.first m.at_ m.fn hrc hp h1 h2 o.sub (wpAny_mono (run_own (vs := [V.ref a, V.int i]) F hr hb (hx σ) I (.cons rfl (.cons ⟨t, rfl⟩ .nil)) h) (fun v s' hv => ?_) fun _ _ e => e))
  cases v <;> first | exact hv.elim | exact ⟨_, rfl, hv⟩
end
theorem pAt {X : Cx} {CX : CXT} {E : XK} (h : Passes CX X E) : ∀ σ : L2.St, PassesAt CX X σ E := fun σ pins H s e s' I c => h pins σ H s e s' I c
/-- what a binary operator with an int on the right asks of the class at C -/
structure IntOp (K : PySem.W.Frag) (C : Addr) (nm : String) : Prop where
  rc : ∃ rc, PySem.W.findIn K (.ref C) (dunderR nm) = some rc ∧ (rc = none ∨ ∃ g : Addr, rc = some (.ref g))
  lo : ∃ fo, PySem.W.findIn K (.type "int") (PySem.dunder nm) = some fo
  ro : ∃ ro, PySem.W.findIn K (.type "int") (dunderR nm) = some ro
section
variable {X : Cx} {CX : CXT} {f C : Addr} {fd : FuncData} {ps : List Str} {n : Nat} {sp : Sp} {op : Operator}
theorem op_ownJ {E : L2.St → XK} (o : Ops X.K C) (m : Meth X.K C (PySem.dunder op.info.2) f) (j : IntOp X.K C op.info.2) (F : FnOk X.prog X.w X.K X.mg X.base CX n f fd ps sp) (hr : Room n X.A) (hb : Binds X.K fd ps []) (hx : ∀ σ, PassesAt CX X σ (E σ)) :
    OpS X (binaryOp op) (rOwnI C sp E) := by
  obtain ⟨⟨rc, h1, h2⟩, ⟨fo, h3⟩, ⟨ro, h4⟩⟩ := j
  exact op_ownI o m h1 h2 h3 h4 F hr hb hx
theorem ip_ownK {E : XK} (o : Ops X.K C) (ni : ∃ d, NoIn X.K C d) (m : Meth X.K C (PySem.dunder op.info.2) f) (h : PySem.W.findIn X.K (.ref C) (dunderI op.info.2) = some none ∧ PySem.W.findIn X.K (.type "object") (dunderI op.info.2) = some none)
    (F : FnOk X.prog X.w X.K X.mg X.base CX n f fd ps sp) (hr : Room n X.A) (hb : Binds X.K fd ps []) (hx : ∀ σ, PassesAt CX X σ E) : OpR X (inplaceOp op) (rOwn2 C sp (fun _ => E) []) := by
  obtain ⟨d, ni⟩ := ni
  exact ip_own2 o ni m h.1 h.2 F hr hb hx
theorem ip_ownJ {E : XK} (o : Ops X.K C) (ni : ∃ d, NoIn X.K C d) (m : Meth X.K C (PySem.dunder op.info.2) f) (j : IntOp X.K C op.info.2) (h : PySem.W.findIn X.K (.ref C) (dunderI op.info.2) = some none ∧ PySem.W.findIn X.K (.type "object") (dunderI op.info.2) = some none)
    (F : FnOk X.prog X.w X.K X.mg X.base CX n f fd ps sp) (hr : Room n X.A) (hb : Binds X.K fd ps []) (hx : ∀ σ, PassesAt CX X σ E) : OpR X (inplaceOp op) (rOwnI C sp (fun _ => E) []) := by
  obtain ⟨d, ni⟩ := ni
  obtain ⟨⟨rc, h1, h2⟩, ⟨fo, h3⟩, ⟨ro, h4⟩⟩ := j
  exact ip_ownI o ni m h.1 h.2 h1 h2 h3 h4 F hr hb hx
end

/-! ### try with several except clauses, each with a name or without -/
def endsA (D : Ends) : Option Nat → Ends
  | none => D
  | some i => { nx := fun σ H => D.nx (σ.set i none) H, rt := D.rt, bk := fun σ H => D.bk (σ.set i none) H, ct := fun σ H => D.ct (σ.set i none) H }
def putA (σ : L2.St) (a : Addr) : Option Nat → L2.St
  | none => σ
  | some i => σ.set i (some (.ref a))
abbrev Clause := Value × Option Nat × (Addr → Value → Option Addr → TS)
/-- what the clauses wish of what the body raises, one behind another -/
def wMas (K : PySem.W.Frag) (Wo : WX) (D : Ends) : List Clause → WX
  | [] => Wo
  | q :: r => fun cls d σ H => ∃ b, PySem.W.exmOne K cls q.1 = some b ∧ (b = true → ∀ a, H a = none → q.2.2 a cls d (endsA D q.2.1) (putA σ a q.2.1) H) ∧ (b = false → wMas K Wo D r cls d σ H)
inductive Clauses (X : Cx) : List ExceptHandler → List Clause → Prop
  | nil : Clauses X [] []
  | bare {x : Str} {c : Value} {ts : Addr → Value → Option Addr → TS} {s0 : Stmt} {sr : List Stmt} {p p' : Pos} {hs : List ExceptHandler} {l : List Clause} (hc : Names X x c)
      (hb : ∀ (a : Addr) (oe : Obj) (cls : Value) (d : Option Addr) (pn : List (Addr × Obj)), Zc cls d oe → (∃ vs, oe.data = .fields vs) → PSs (X.suite a ((a, oe) :: pn)) (s0 :: sr) (ts a cls d)) (r : Clauses X hs l) :
      Clauses X (.ExceptHandler (some (.Name x p)) none (s0 :: sr) p' :: hs) ((c, none, ts) :: l)
  | named {x n : Str} {i : Nat} {c : Value} {ts : Addr → Value → Option Addr → TS} {s0 : Stmt} {sr : List Stmt} {p p' : Pos} {hs : List ExceptHandler} {l : List Clause} (hi : X.N[i]? = some n) (hl : X.env.kindOf n = some .local) (hc : Names X x c)
      (hb : ∀ (a : Addr) (oe : Obj) (cls : Value) (d : Option Addr) (pn : List (Addr × Obj)), Zc cls d oe → (∃ vs, oe.data = .fields vs) → PSs (X.suite a ((a, oe) :: pn)) (s0 :: sr) (ts a cls d)) (r : Clauses X hs l) :
      Clauses X (.ExceptHandler (some (.Name x p)) (some n) (s0 :: sr) p' :: hs) ((c, some i, ts) :: l)
section
open PySem.Spec PyProof.Rows
variable {X : Cx} {body : List Stmt} {h0 : ExceptHandler} {hs : List ExceptHandler} {l : List Clause} {pos : Pos} {tb : WX → TS} {Wo : WX}
theorem ps_try_mas (hst : X.stack = X.env :: X.outer) (hfm : X.env.frame = some X.env.locals) (hND : X.N.Nodup) (tk : Takes X Wo)
    (hbody : ∀ (W : WX) (pn : List (Addr × Obj)) (xe : Value → Shared → Prop), Takes (X.tr pn xe) W → PassesOwn (model X.prog X.w) X.A X.env xe → PSs (X.tr pn xe) body (tb W))
    (hcl : Clauses X (h0 :: hs) l) : PS X (.Try body (h0 :: hs) [] [] pos) (fun D σ H => tb (wMas X.K Wo D l) D σ H) := by
  refine ⟨fun pins s σ H D I hq => ?_⟩
  have okX := I.ok
  have frX : X.A.frames = some (X.env :: X.outer) := by rw [okX.frames, hst]
  let fly : Value → Shared → Prop := fun e s1 => wpAny (model X.prog X.w) X.A (noteFrame e X.env) (fun _ s2 => wpAny (model X.prog X.w) X.A (setFlight e none) (fun _ s3 => wpAny (model X.prog X.w) X.A (handleBy e X.env (h0 :: hs)) (SP X pins D) X.xe s3) X.xe s2) X.xe s1
  refine wpAny_Try_except (wpAny_mono ((hbody (wMas X.K Wo D l) (X.pn ++ pins) fly (fun u t flown => ?_) PassesOwn.looking).run [] s σ H D (I.toTry _) hq) (fun f t done => ?_) fun e t z => z)
  · obtain ⟨a, B, sI, pins', σ1, G, cls, d, rfl, J0, nb, up, sky, na, os, ag, wish⟩ := flown
    have J : Inv X pins σ1 G sI := J0.ofTry okX
    show wpAny (model X.prog X.w) X.A (noteFrame (.ref a) X.env) _ _ _
    refine Sky.land Zc.steady frX hfm (show Sky B (X.env :: X.outer) a (Zc cls d) X.env.locals t.heap by rw [← hst]; exact sky) fun g fl upg => ?_
    have Jg : Inv X pins σ1 G { t with heap := g } := J.landed nb fl.1 (up.trans upg) os ag
    obtain ⟨ob, vb, at_b, zc_b, da_b⟩ := fl.there
    have apart : ∀ {g' : Heap} {o : Obj} {us : Array Value}, g'.FunFrames B (X.env :: X.outer) → g'.get? a = some o → o.data = .fields us → a ∉ frs (X.env :: X.outer) := fun {g' o us} ff ea da hm => by
      obtain ⟨_, o2, e2, nf⟩ := ff.mem hm
      rw [ea] at e2
      cases e2
      exact nf _ da
    have out1 := apart fl.2.2.1 at_b da_b
    have out2 : a ≠ X.env.locals := fun z => out1 (List.mem_filterMap.mpr ⟨X.env, List.mem_cons_self, by rw [hfm, z]⟩)
    have out3 : a ∉ X.fs := fun hm => by
      obtain ⟨e, he, q⟩ := List.mem_filterMap.mp hm
      exact out1 (List.mem_filterMap.mpr ⟨e, List.mem_cons_of_mem _ he, q⟩)
    have Sb := Jg.suite at_b da_b na out2 out3
    have look : ∀ {x : Str} {c : Value} {p : Pos} {R : Value → Shared → Prop} {R' : Value → Shared → Prop}, Names X x c → R c { t with heap := g } → wpAny (model X.prog X.w) (X.A.mark (some (.ref a))) (eval (.Name x p) X.env) R R' { t with heap := g } := fun {x c p R R'} hc q => by
      obtain ⟨hg, hdb, hm | ⟨hm, hv, hn⟩⟩ := hc
      · exact ld_glob (X := X.suite a ((a, ob) :: (X.pn ++ pins))) Sb hg hm q hdb
      · exact ld_blt (X := X.suite a ((a, ob) :: (X.pn ++ pins))) Sb hg hm hv q hn hdb
    have kind : PySem.W.Looks (model X.prog X.w) g (typeOf (.ref a)) cls := fun A Q E s k q => wpAny_typeOf_ref (k _ _ at_b) (by rw [zc_b.1]; exact q)
    have each : ∀ {hs' : List ExceptHandler} {l' : List Clause}, Clauses X hs' l' → wMas X.K Wo D l' cls d σ1 G → wpAny (model X.prog X.w) X.A (handleBy (.ref a) X.env hs') (SP X pins D) X.xe { t with heap := g } := by
      intro hs' l' hk
      induction hk with
      | nil =>
        intro wi
        refine wpAny_handleBy_nil ?_
        obtain ⟨_, _, _, oe, ue, TB, oT, te, g1, g2, g3, g4, g5⟩ := id fl
        unfold PySem.passOn
        refine wpAny_bind (wpAny_field g1 g3 g4 ?_)
        rw [if_neg (show ¬ ((Value.ref TB == Value.none) = true) from by simp)]
        have away : wpAny (model X.prog X.w) X.A (setFlight (.ref a) X.env.frame) (fun _ s4 => wpAny (model X.prog X.w) X.A (throw (.ref a) : Sem Flow) (SP X pins D) X.xe s4) X.xe { t with heap := g } := by
          rw [hfm]
          refine HandSPX.setFlight_upZ fl fun k hk up4 => wpAny_throw (tk _ _ ?_)
          exact ⟨a, B, sI, pins, σ1, G, cls, d, rfl, J, nb, (up.trans upg).trans up4, .inr (.inr (by rw [hst]; exact hk)), na, os, ag, wi⟩
        first
          | exact wpAny_bind (wpAny_pure (wpAny_bind away))
          | exact wpAny_bind away
      | @bare x c ts s0 sr p p' hs2 l2 hc hb r ih =>
        intro wi
        obtain ⟨b, hb1, yes, no⟩ := wi
        refine wpAny_handleBy_cons (codeAny_handlers_test ?_) (by intro q; cases q)
        refine look hc ((PySem.W.exm_one (M := model X.prog X.w) Jg.kIn kind hb1).here ?_)
        cases b with
        | false => exact ih (no rfl)
        | true =>
          refine codeAny_handlers_suite (HandSPX.lands_againZ fl fun k fl4 up4 => ?_)
          have J4 : Inv X pins σ1 G { t with heap := k } := J.landed nb fl4.1 ((up.trans upg).trans up4) os ag
          obtain ⟨o4, v4, e4, z4, d4⟩ := fl4.there
          refine wpAny_mono ((hb a o4 cls d (X.pn ++ pins) z4 ⟨_, d4⟩).run [] _ _ G _ (J4.suite e4 d4 na out2 out3) (yes rfl a na)) (fun f s6 r6 => ?_) (fun _ _ z => False.elim z)
          cases f with
          | ret u => obtain ⟨v6, σ6, H6, S6, rv, q6⟩ := r6; exact ⟨_, _, _, S6.unsuite okX, rv, q6⟩
          | next => obtain ⟨σ6, H6, S6, q6⟩ := r6; exact ⟨_, _, S6.unsuite okX, q6⟩
          | brk => obtain ⟨σ6, H6, S6, q6⟩ := r6; exact ⟨_, _, S6.unsuite okX, q6⟩
          | cont => obtain ⟨σ6, H6, S6, q6⟩ := r6; exact ⟨_, _, S6.unsuite okX, q6⟩
      | @named x n i c ts s0 sr p p' hs2 l2 hi hl hc hb r ih =>
        intro wi
        obtain ⟨b, hb1, yes, no⟩ := wi
        refine wpAny_handleBy_cons (codeAny_handlers_test ?_) (by intro q; cases q)
        refine look hc ((PySem.W.exm_one (M := model X.prog X.w) Jg.kIn kind hb1).here ?_)
        cases b with
        | false => exact ih (no rfl)
        | true =>
          refine codeAny_handlers_suite_as (HandSPX.lands_againZ fl fun k fl4 up4 => ?_)
          have J4 : Inv X pins σ1 G { t with heap := k } := J.landed nb fl4.1 ((up.trans upg).trans up4) os ag
          obtain ⟨o4, v4, e4, z4, d4⟩ := fl4.there
          refine store_ok (X := X.suite a ((a, o4) :: (X.pn ++ pins))) (v := .ref a) (J4.suite e4 d4 na out2 out3) hND hi (.inl hl) rfl (fun s5 S5 => ?_) (.inr hl)
          refine wpAny_mono ((hb a o4 cls d (X.pn ++ pins) z4 ⟨_, d4⟩).run [] s5 _ G _ S5 (yes rfl a na)) (fun f s6 r6 => ?_) (fun _ _ z => False.elim z)
          have leave : ∀ {σ6 : L2.St} {H6 : Hp} {R : Shared → Prop}, Inv (X.suite a ((a, o4) :: (X.pn ++ pins))) [] σ6 H6 s6 → (∀ s7, Inv X pins (σ6.set i none) H6 s7 → R s7) → wpAny (model X.prog X.w) X.A (do bindName X.env n .none; unbindBehindTheSuite X.env n p') (fun _ s7 => R s7) X.xe s6 :=
            fun {σ6 H6 R} S6 hr => gone_ok (S6.unsuite okX) hND hi hl hr
          cases f with
          | ret u => obtain ⟨v6, σ6, H6, S6, rv, q6⟩ := r6; exact leave S6 fun s7 J7 => ⟨_, _, _, J7, rv, q6⟩
          | next => obtain ⟨σ6, H6, S6, q6⟩ := r6; exact leave S6 fun s7 J7 => ⟨_, _, J7, q6⟩
          | brk => obtain ⟨σ6, H6, S6, q6⟩ := r6; exact leave S6 fun s7 J7 => ⟨_, _, J7, q6⟩
          | cont => obtain ⟨σ6, H6, S6, q6⟩ := r6; exact leave S6 fun s7 J7 => ⟨_, _, J7, q6⟩
    exact each hcl wish
  · cases f with
    | ret u => obtain ⟨v, σ', G', J', rv, q⟩ := done; exact ⟨v, σ', G', J'.ofTry okX, rv, q⟩
    | next => obtain ⟨σ', G', J', q⟩ := done; exact wpAny_execs_nil ⟨σ', G', J'.ofTry okX, q⟩
    | brk => obtain ⟨σ', G', J', q⟩ := done; exact ⟨σ', G', J'.ofTry okX, q⟩
    | cont => obtain ⟨σ', G', J', q⟩ := done; exact ⟨σ', G', J'.ofTry okX, q⟩
end

/-! ### hours with a property -/
def hrs (n : Int) (p : Int → Bool) : List Int := pick n.toNat (fun h => p (h : Int)) fun h => (h : Int)
theorem mem_hrs {n z : Int} {p : Int → Bool} : z ∈ hrs n p ↔ (0 ≤ z ∧ z < n) ∧ p z = true := by
  unfold hrs pick
  constructor
  · intro h
    obtain ⟨i, hi, rfl⟩ := List.mem_map.mp h
    have a := List.mem_filter.mp hi
    have b := List.mem_range.mp a.1
    exact ⟨⟨by omega, by omega⟩, a.2⟩
  · rintro ⟨⟨h0, h1⟩, h2⟩
    have e : ((z.toNat : Nat) : Int) = z := by omega
    exact List.mem_map.mpr ⟨z.toNat, List.mem_filter.mpr ⟨List.mem_range.mpr (by omega), by rw [e]; exact h2⟩, e⟩
theorem asc_hrs {n : Int} {p : Int → Bool} (hn : 0 ≤ n) : Asc 0 n (hrs n p) := by
  have h := asc_range (f := fun h => p (h : Int)) n.toNat
  rw [show ((n.toNat : Nat) : Int) = n by omega] at h
  exact h
theorem hrs_eq {n : Int} {p : Int → Bool} {xs : List Int} (hn : 0 ≤ n) (h : Asc 0 n xs) (hp : ∀ z, 0 ≤ z → z < n → (z ∈ xs ↔ p z = true)) : hrs n p = xs := by
  refine asc_unique (asc_hrs hn).1 h.1 fun z => ?_
  rw [mem_hrs]
  constructor
  · rintro ⟨⟨h0, h1⟩, h2⟩
    exact (hp z h0 h1).mpr h2
  · intro hz
    have b := h.2 z hz
    exact ⟨b, (hp z b.1 b.2).mp hz⟩
theorem hrs_congr {n : Int} {p q : Int → Bool} (h : ∀ z, 0 ≤ z → z < n → p z = q z) : hrs n p = hrs n q := by
  unfold hrs
  exact pick_congr fun i hi => h (i : Int) (by omega) (by omega)
theorem resid_hrs {n : Int} {S : List Int} {p : Int → Bool} (hp : ∀ z, 0 ≤ z → z < n → (z ∈ S ↔ p z = true)) : resid n S = hrs n p := by
  unfold resid hrs
  refine pick_congr fun i hi => ?_
  have := hp (i : Int) (by omega) (by omega)
  rw [Bool.eq_iff_iff, decide_eq_true_iff]
  exact this
theorem scan_nodup {n : Int} : ∀ {ms seen : List Int}, (ms.map (· % n)).Nodup → (∀ x ∈ ms, x % n ∉ seen) → scanR n seen ms = none
  | [], _, _, _ => rfl
  | x :: xs, seen, hd, hs => by
    have h := List.nodup_cons.mp hd
    unfold scanR
    rw [if_neg (hs x List.mem_cons_self)]
    refine scan_nodup h.2 fun y hy hm => ?_
    rcases List.mem_append.mp hm with q | q
    · exact hs y (List.mem_cons_of_mem _ hy) q
    · exact h.1 (List.mem_map.mpr ⟨y, hy, List.mem_singleton.mp q⟩)
theorem nodup_map {xs : List Int} {g : Int → Int} (hd : xs.Nodup) (hi : ∀ x ∈ xs, ∀ y ∈ xs, g x = g y → x = y) : (xs.map g).Nodup := by
  induction xs with
  | nil => exact .nil
  | cons x xs ih =>
    have h := List.nodup_cons.mp hd
    refine List.nodup_cons.mpr ⟨fun hm => ?_, ih h.2 fun a ha b hb => hi a (List.mem_cons_of_mem _ ha) b (List.mem_cons_of_mem _ hb)⟩
    obtain ⟨y, hy, e⟩ := List.mem_map.mp hm
    have := hi y (List.mem_cons_of_mem _ hy) x List.mem_cons_self e
    rw [this] at hy
    exact h.1 hy
theorem Asc.nodup {lo hi : Int} {xs : List Int} (h : Asc lo hi xs) : xs.Nodup := h.1.imp fun {a b} hab => by omega
theorem small_eq {n a b : Int} (hn : 0 < n) (h1 : a - b < n) (h2 : b - a < n) (h : a % n = b % n) : a = b := by
  have ea := Int.mul_ediv_add_emod a n
  have eb := Int.mul_ediv_add_emod b n
  have e : a - b = n * (a / n - b / n) := by rw [Int.mul_sub]; omega
  generalize a / n - b / n = q at e
  rcases Int.lt_trichotomy q 0 with hq | hq | hq
  · have := Int.mul_le_mul_of_nonneg_left (show q ≤ -1 by omega) (show 0 ≤ n by omega)
    omega
  · rw [hq] at e
    omega
  · have := Int.mul_le_mul_of_nonneg_left (show 1 ≤ q by omega) (show 0 ≤ n by omega)
    omega
/-- residues of moved hours -/
theorem mem_plus {n k z : Int} {xs : List Int} (hn : 0 < n) (h : Asc 0 n xs) (h0 : 0 ≤ z) (h1 : z < n) : z ∈ (xs.map fun x => x + k).map (· % n) ↔ (z - k) % n ∈ xs := by
  constructor
  · intro hz
    obtain ⟨y, hy, rfl⟩ := List.mem_map.mp hz
    obtain ⟨x, hx, rfl⟩ := List.mem_map.mp hy
    have b := h.2 x hx
    rw [Int.sub_emod, Int.emod_emod, ← Int.sub_emod, show x + k - k = x by omega, Int.emod_eq_of_lt b.1 b.2]
    exact hx
  · intro hz
    refine List.mem_map.mpr ⟨_, List.mem_map.mpr ⟨_, hz, rfl⟩, ?_⟩
    show ((z - k) % n + k) % n = z
    rw [Int.add_emod, Int.emod_emod, ← Int.add_emod, show z - k + k = z by omega, Int.emod_eq_of_lt h0 h1]
theorem nodup_plus {n k : Int} {xs : List Int} (hn : 0 < n) (h : Asc 0 n xs) : ((xs.map fun x => x + k).map (· % n)).Nodup := by
  rw [List.map_map]
  refine nodup_map h.nodup fun x hx y hy e => ?_
  have a := h.2 x hx
  have b := h.2 y hy
  have := small_eq hn (a := x + k) (b := y + k) (by omega) (by omega) e
  omega
theorem mem_minus {n z : Int} {xs : List Int} (hn : 0 < n) (h : Asc 0 n xs) (h0 : 0 ≤ z) (h1 : z < n) : z ∈ (xs.map fun x => -x).map (· % n) ↔ (0 - z) % n ∈ xs := by
  constructor
  · intro hz
    obtain ⟨y, hy, rfl⟩ := List.mem_map.mp hz
    obtain ⟨x, hx, rfl⟩ := List.mem_map.mp hy
    have b := h.2 x hx
    rw [Int.sub_emod, Int.emod_emod, ← Int.sub_emod, show 0 - -x = x by omega, Int.emod_eq_of_lt b.1 b.2]
    exact hx
  · intro hz
    refine List.mem_map.mpr ⟨_, List.mem_map.mpr ⟨_, hz, rfl⟩, ?_⟩
    show (-((0 - z) % n)) % n = z
    rw [show -((0 - z) % n) = 0 - (0 - z) % n by omega, Int.sub_emod, Int.emod_emod, ← Int.sub_emod, show 0 - (0 - z) = z by omega, Int.emod_eq_of_lt h0 h1]
theorem nodup_minus {n : Int} {xs : List Int} (hn : 0 < n) (h : Asc 0 n xs) : ((xs.map fun x => -x).map (· % n)).Nodup := by
  rw [List.map_map]
  refine nodup_map h.nodup fun x hx y hy e => ?_
  have a := h.2 x hx
  have b := h.2 y hy
  have := small_eq hn (a := -x) (b := -y) (by omega) (by omega) e
  omega
theorem mem_self {n z : Int} {xs : List Int} (h : Asc 0 n xs) : z ∈ xs.map (· % n) ↔ z ∈ xs := by
  have := asc_mod h
  rw [this]
/-- ints told apart -/
theorem eqv_ints : ∀ xs ys : List Int, PyData.eqvAll (xs.map PyData.int) (ys.map PyData.int) = decide (xs = ys)
  | [], [] => by simp [PyData.eqvAll]
  | [], y :: ys => by simp [PyData.eqvAll]
  | x :: xs, [] => by simp [PyData.eqvAll]
  | x :: xs, y :: ys => by
    rw [List.map_cons, List.map_cons, PyData.eqvAll, eqv_ints xs ys, PyData.eqv]
    by_cases e : x = y
    · subst e; simp
    · simp [e]
theorem eqv_intsL {xs ys : List Int} : PyData.eqv (.list (xs.map PyData.int)) (.list (ys.map PyData.int)) = decide (xs = ys) := by
  rw [PyData.eqv, eqv_ints]
theorem lay_ints : ∀ xs : List Int, PyData.canLayAll0 (xs.map PyData.int) = true
  | [] => by simp [PyData.canLayAll0]
  | x :: xs => by
    have := lay_ints xs
    simp [PyData.canLayAll0, PyData.canLay0, this]
theorem depth_ints : ∀ xs : List Int, PyData.depthAll (xs.map PyData.int) ≤ 1
  | [] => by simp [PyData.depthAll]
  | x :: xs => by
    have := depth_ints xs
    simp [PyData.depthAll, PyData.depth]
    omega
theorem shaped_ints (xs : List Int) : SeqAt.shaped (.list (xs.map PyData.int)) = true := by
  have h1 := lay_ints xs
  have h2 := depth_ints xs
  unfold SeqAt.shaped
  simp [PyData.canLay0, PyData.depth, h1]
  omega
/-- v is a lot: its hours and members -/
structure LotIs (C : Addr) (v : V) (H : Hp) (n : Int) (xs : List Int) : Prop where
  at_ : LotAt C H v n xs
  hn : 1 ≤ n ∧ n ≤ 360
  asc : Asc 0 n xs
theorem LotIs.ex {C : Addr} {v : V} {H H' : Hp} {n : Int} {xs : List Int} (e : Ex H H') (h : LotIs C v H n xs) : LotIs C v H' n xs := ⟨h.at_.ex e, h.hn, h.asc⟩
theorem LotIs.len {C : Addr} {v : V} {H : Hp} {n : Int} {xs : List Int} (h : LotIs C v H n xs) : xs.length ≤ 360 := by
  have := h.asc.len
  have := h.hn
  omega

/-! ### turns: their step, the least one -/
def turnL (n k : Int) (xs : List Int) : List Int := hrs n fun z => decide ((z - k) % n ∈ xs)
theorem mem_turnL {n k z : Int} {xs : List Int} : z ∈ turnL n k xs ↔ (0 ≤ z ∧ z < n) ∧ (z - k) % n ∈ xs := by
  unfold turnL
  rw [mem_hrs, decide_eq_true_iff]
theorem turnL_cong {n k j : Int} {xs : List Int} (h : k % n = j % n) : turnL n k xs = turnL n j xs := by
  unfold turnL
  refine hrs_congr fun z _ _ => ?_
  rw [Int.sub_emod z k, h, ← Int.sub_emod]
theorem turnL_turnL {n k j : Int} {xs : List Int} (hn : 0 < n) : turnL n k (turnL n j xs) = turnL n (j + k) xs := by
  unfold turnL
  refine hrs_congr fun z _ _ => ?_
  have m0 := Int.emod_nonneg (z - k) (show n ≠ 0 by omega)
  have m1 := Int.emod_lt_of_pos (z - k) hn
  have e : ((z - k) % n - j) % n = (z - (j + k)) % n := by rw [Int.sub_emod, Int.emod_emod, ← Int.sub_emod, show z - k - j = z - (j + k) by omega]
  rw [decide_eq_decide, mem_hrs, decide_eq_true_iff, e]
  exact ⟨fun q => q.2, fun q => ⟨⟨m0, m1⟩, q⟩⟩
theorem turnL_zero {n : Int} {xs : List Int} (hn : 0 < n) (h : Asc 0 n xs) : turnL n 0 xs = xs := by
  unfold turnL
  refine hrs_eq (by omega) h fun z h0 h1 => ?_
  rw [decide_eq_true_iff, show z - 0 = z by omega, Int.emod_eq_of_lt h0 h1]
theorem asc_turnL {n k : Int} {xs : List Int} (hn : 0 < n) : Asc 0 n (turnL n k xs) := asc_hrs (by omega)
/-- k is a number by which the hours can be turned without a change -/
def Per (n : Int) (xs : List Int) (k : Int) : Prop := turnL n k xs = xs
theorem per_n {n : Int} {xs : List Int} (hn : 0 < n) (h : Asc 0 n xs) : Per n xs n := by
  unfold Per
  rw [turnL_cong (j := 0) (by simp), turnL_zero hn h]
theorem per_sub {n j k : Int} {xs : List Int} (hn : 0 < n) (h : Asc 0 n xs) (h1 : Per n xs j) (h2 : Per n xs k) : Per n xs (j - k) := by
  unfold Per at *
  have e : turnL n (k + (j - k)) xs = turnL n (j - k) (turnL n k xs) := (turnL_turnL hn).symm
  rw [h2, show k + (j - k) = j by omega, h1] at e
  exact e.symm
theorem per_mul {n k : Int} {xs : List Int} (hn : 0 < n) (h : Asc 0 n xs) (h2 : Per n xs k) : ∀ m : Nat, Per n xs (n - k * (m : Int))
  | 0 => by simpa using per_n hn h
  | m + 1 => by
    have := per_sub hn h (per_mul hn h h2 m) h2
    have e : n - k * ((m + 1 : Nat) : Int) = n - k * (m : Int) - k := by
      rw [show ((m + 1 : Nat) : Int) = (m : Int) + 1 by omega, Int.mul_add]
      omega
    rw [e]
    exact this
/-- p is the least such number from 1 on -/
structure IsStep (n : Int) (xs : List Int) (p : Int) : Prop where
  lo : 1 ≤ p
  hi : p ≤ n
  per : Per n xs p
  least : ∀ k, 1 ≤ k → k < p → ¬ Per n xs k
theorem IsStep.uniq {n p q : Int} {xs : List Int} (a : IsStep n xs p) (b : IsStep n xs q) : p = q := by
  rcases Int.lt_trichotomy p q with h | h | h
  · exact absurd a.per (b.least p a.lo h)
  · exact h
  · exact absurd b.per (a.least q b.lo h)
theorem IsStep.dvd {n p : Int} {xs : List Int} (hn : 0 < n) (h : Asc 0 n xs) (s : IsStep n xs p) : n % p = 0 := by
  have r0 := Int.emod_nonneg n (show p ≠ 0 by have := s.lo; omega)
  have r1 := Int.emod_lt_of_pos n (show 0 < p by have := s.lo; omega)
  by_cases e : n % p = 0
  · exact e
  · refine absurd ?_ (s.least (n % p) (by omega) r1)
    have m := per_mul hn h s.per (n / p).toNat
    have q0 : 0 ≤ n / p := Int.ediv_nonneg (by omega) (by have := s.lo; omega)
    rw [show ((n / p).toNat : Int) = n / p by omega] at m
    have d := Int.mul_ediv_add_emod n p
    rwa [show n - p * (n / p) = n % p by omega] at m
theorem step_ex {n : Int} {xs : List Int} (hn : 0 < n) (h : Asc 0 n xs) : ∃ p, IsStep n xs p := by
  have key : ∀ m : Nat, (∃ p, IsStep n xs p) ∨ ∀ k : Int, 1 ≤ k → k ≤ (m : Int) → k ≤ n → ¬ Per n xs k := fun m => by
    induction m with
    | zero => exact .inr fun k h1 h2 => by omega
    | succ m ih =>
      rcases ih with ih | ih
      · exact .inl ih
      · by_cases hm : ((m : Int) + 1 ≤ n) ∧ Per n xs ((m : Int) + 1)
        · exact .inl ⟨(m : Int) + 1, by omega, hm.1, hm.2, fun k h1 h2 => ih k h1 (by omega) (by omega)⟩
        · refine .inr fun k h1 h2 h3 => ?_
          by_cases e : k = (m : Int) + 1
          · subst e
            exact fun z => hm ⟨h3, z⟩
          · exact ih k h1 (by omega) h3
  rcases key n.toNat with k | k
  · exact k
  · exact absurd (per_n hn h) (k n (by omega) (by omega) (by omega))
/-- L is the least of the turned lists -/
structure IsLeast (n : Int) (xs L : List Int) : Prop where
  some_ : ∃ k, L = turnL n k xs
  none_ : ∀ k, ¬ turnL n k xs < L
theorem IsLeast.uniq {n : Int} {xs L M : List Int} (a : IsLeast n xs L) (b : IsLeast n xs M) : L = M := by
  obtain ⟨k, hk⟩ := a.some_
  obtain ⟨j, hj⟩ := b.some_
  exact List.le_antisymm (by have := a.none_ j; rw [← hj] at this; exact this) (by have := b.none_ k; rw [← hk] at this; exact this)
theorem IsLeast.turn {n j : Int} {xs L : List Int} (hn : 0 < n) (a : IsLeast n xs L) : IsLeast n (turnL n j xs) L := by
  obtain ⟨k, hk⟩ := a.some_
  refine ⟨⟨k - j, by rw [turnL_turnL hn, show j + (k - j) = k by omega]; exact hk⟩, fun m => ?_⟩
  rw [turnL_turnL hn]
  exact a.none_ _
theorem IsLeast.self {n : Int} {xs L : List Int} (hn : 0 < n) (a : IsLeast n xs L) : IsLeast n L L := by
  obtain ⟨k, hk⟩ := a.some_
  have := a.turn (j := k) hn
  rwa [← hk] at this
/-- equal least turns: turned into each other -/
theorem least_iff {n : Int} {xs ys L M : List Int} (hn : 0 < n) (hx : Asc 0 n xs) (hy : Asc 0 n ys) (a : IsLeast n xs L) (b : IsLeast n ys M) : L = M ↔ ∃ k : Int, (0 ≤ k ∧ k < n) ∧ turnL n k xs = ys := by
  constructor
  · intro e
    obtain ⟨k, hk⟩ := a.some_
    obtain ⟨j, hj⟩ := b.some_
    have m0 := Int.emod_nonneg (k - j) (show n ≠ 0 by omega)
    have m1 := Int.emod_lt_of_pos (k - j) hn
    refine ⟨(k - j) % n, ⟨m0, m1⟩, ?_⟩
    rw [turnL_cong (j := k - j) (by simp)]
    have e2 : turnL n (k + -j) xs = turnL n (-j) (turnL n k xs) := (turnL_turnL hn).symm
    rw [← hk, e, hj, turnL_turnL hn, show j + -j = 0 by omega, turnL_zero hn hy, show k + -j = k - j by omega] at e2
    exact e2
  · rintro ⟨k, _, rfl⟩
    exact (a.turn hn).uniq b
theorem lt_le_trans {a b c : List Int} (h : a < b) (h2 : ¬ c < b) : a < c := by
  by_cases e : c = b
  · rw [e]; exact h
  · have : b < c := by
      by_cases z : b < c
      · exact z
      · exact absurd (List.le_antisymm (show b ≤ c from h2) (show c ≤ b from z)).symm e
    exact List.lt_trans h this
/-- only a turn that puts a member at 0 can be the least one -/
theorem least_of_members {n : Int} {xs L : List Int} (hn : 0 < n) (hA : Asc 0 n xs) (h1 : ∃ k, L = turnL n k xs) (h2 : ¬ xs < L) (h3 : ∀ m ∈ xs, ¬ turnL n (-m) xs < L) : IsLeast n xs L := by
  refine ⟨h1, fun k hk => ?_⟩
  cases hx : xs with
  | nil =>
    have e : turnL n k xs = xs := by
      rw [hx]
      unfold turnL
      exact hrs_eq (by omega) .nil fun z _ _ => by simp
    rw [e] at hk
    exact h2 hk
  | cons m r =>
    have hm : m ∈ xs := by rw [hx]; exact List.mem_cons_self
    have bm := hA.2 m hm
    by_cases h0 : (0 - k) % n ∈ xs
    · refine h3 _ h0 ?_
      rw [turnL_cong (j := k)]
      · exact hk
      · rw [show -((0 - k) % n) = 0 - (0 - k) % n by omega, Int.sub_emod, Int.emod_emod, ← Int.sub_emod, show 0 - (0 - k) = k by omega]
    · have z0 : (0 : Int) ∈ turnL n (-m) xs := mem_turnL.mpr ⟨⟨by omega, hn⟩, by rw [show 0 - -m = m by omega, Int.emod_eq_of_lt bm.1 bm.2]; exact hm⟩
      have mk : (m + k) % n ∈ turnL n k xs := mem_turnL.mpr ⟨⟨Int.emod_nonneg _ (by omega), Int.emod_lt_of_pos _ hn⟩, by rw [Int.sub_emod, Int.emod_emod, ← Int.sub_emod, show m + k - k = m by omega, Int.emod_eq_of_lt bm.1 bm.2]; exact hm⟩
      have aT := asc_turnL (n := n) (k := -m) (xs := xs) hn
      have aK := asc_turnL (n := n) (k := k) (xs := xs) hn
      cases hT : turnL n (-m) xs with
      | nil => rw [hT] at z0; cases z0
      | cons t ts =>
        cases hK : turnL n k xs with
        | nil => rw [hK] at mk; cases mk
        | cons u us =>
          rw [hT] at z0 aT
          have t0 : t = 0 := by
            have b := aT.2 t List.mem_cons_self
            rcases List.mem_cons.mp z0 with e | e
            · exact e.symm
            · have := (List.pairwise_cons.mp aT.1).1 0 e
              omega
          have u0 : 0 < u := by
            have hu : u ∈ turnL n k xs := by rw [hK]; exact List.mem_cons_self
            have b := mem_turnL.mp hu
            by_cases e : u = 0
            · rw [e] at b; exact absurd b.2 h0
            · omega
          refine h3 m hm ?_
          rw [hT]
          rw [hK] at hk
          exact List.lt_trans (show t :: ts < u :: us from List.cons_lt_cons_iff.mpr (.inl (by omega))) hk
theorem ltI_data {xs ys : List Int} : PySem.W.dataLt (.list (xs.map PyData.int)) (.list (ys.map PyData.int)) = decide (xs < ys) := by
  rw [PySem.W.dataLt_list]
  exact PySem.W.dataLt_ints xs ys
/-- xs < ys, xs == ys of lists of ints -/
theorem rv_ltI {K : PySem.W.Frag} {H : Hp} {a b : Addr} {xs ys : List Int} (h1 : SqL K H a (xs.map V.int)) (h2 : SqL K H b (ys.map V.int)) : RV (rLtD K) (.ref a) (.ref b) H (.bl (decide (xs < ys))) := fun H1 e Q q =>
  ⟨.list (xs.map .int), .list (ys.map .int), .lst (ex_l e h1) (dp_ints _), .lst (ex_l e h2) (dp_ints _), by simp [PySem.W.alike, alike_ints], (fun z => by cases z), (by have := depth_ints xs; simp [PyData.depth]; omega), by rw [ltI_data]; exact q H1 (Ex.refl H1)⟩
theorem rv_eqI {K : PySem.W.Frag} {H : Hp} {a b : Addr} {xs ys : List Int} (h1 : SqL K H a (xs.map V.int)) (h2 : SqL K H b (ys.map V.int)) : RV (rEqD K) (.ref a) (.ref b) H (.bl (decide (xs = ys))) := fun H1 e Q q =>
  ⟨.list (xs.map .int), .list (ys.map .int), .lst (ex_l e h1) (dp_ints _), .lst (ex_l e h2) (dp_ints _), shaped_ints _, shaped_ints _, by rw [eqv_intsL]; exact q H1 (Ex.refl H1)⟩

/-! ### what a spread of starts meets, hour by hour -/
def fit (n : Int) (xs ss : List Int) (d : Int) : Int := ((ss.filter fun s => decide ((d - s) % n ∈ xs)).length : Int)
def fitL (n : Int) (xs ss : List Int) : List Int := (List.range n.toNat).map fun d : Nat => fit n xs ss (d : Int)
def negL (n : Int) (xs : List Int) : List Int := hrs n fun z => decide ((0 - z) % n ∈ xs)
def okB (n : Int) (xss : List (List Int)) (nd ss : List Int) (g : Nat) : Bool := (fitL n (xss.getD g []) ss).all fun x => decide (nd.getD g 0 ≤ x)
def enB (n : Int) (xss : List (List Int)) (nd ss : List Int) : Bool := (List.range xss.length).all (okB n xss nd ss)
theorem filt_perm {n : Int} {as bs : List Int} {p : Int → Bool} (h : (as.map (· % n)).Perm (bs.map (· % n))) (hp : ∀ z, p (z % n) = p z) : (as.filter p).length = (bs.filter p).length := by
  have e : ∀ cs : List Int, (cs.filter p).length = ((cs.map (· % n)).filter p).length := fun cs => by
    rw [List.filter_map, List.length_map]
    congr 1
    exact List.filter_congr fun x _ => (hp x).symm
  rw [e as, e bs]
  exact (h.filter p).length_eq
theorem perm_mem {as bs : List Int} (ha : as.Nodup) (hb : bs.Nodup) (h : ∀ z, z ∈ as ↔ z ∈ bs) : as.Perm bs := (List.perm_ext_iff_of_nodup ha hb).mpr h
theorem mod_res {n : Int} {xs : List Int} (hn : 0 < n) (zs : List Int) (h : Asc 0 n xs) (hd : (zs.map (· % n)).Nodup) (hm : ∀ z, 0 ≤ z → z < n → (z ∈ zs.map (· % n) ↔ z ∈ xs)) : (zs.map (· % n)).Perm (xs.map (· % n)) := by
  rw [asc_mod h]
  refine perm_mem hd h.nodup fun z => ?_
  constructor
  · intro hz
    obtain ⟨u, _, rfl⟩ := List.mem_map.mp hz
    exact (hm _ (Int.emod_nonneg _ (by omega)) (Int.emod_lt_of_pos _ hn)).mp hz
  · intro hz
    have := h.2 z hz
    exact (hm z this.1 this.2).mpr hz
theorem neg_perm {n : Int} {ss : List Int} (hn : 0 < n) (h : Asc 0 n ss) : ((ss.map fun s => -s).map (· % n)).Perm ((negL n ss).map (· % n)) :=
  mod_res hn _ (asc_hrs (by omega)) (nodup_minus hn h) fun z h0 h1 => by
    rw [mem_minus hn h h0 h1]
    show _ ↔ z ∈ hrs n _
    rw [mem_hrs]
    simp [h0, h1]
theorem turn_perm {n k : Int} {ss : List Int} (hn : 0 < n) (h : Asc 0 n ss) : ((ss.map fun s => s + k).map (· % n)).Perm ((turnL n k ss).map (· % n)) :=
  mod_res hn _ (asc_hrs (by omega)) (nodup_plus hn h) fun z h0 h1 => by
    rw [mem_plus hn h h0 h1]
    show _ ↔ z ∈ hrs n _
    rw [mem_hrs]
    simp [h0, h1]
theorem fit_mod {n d : Int} {xs ss : List Int} : fit n xs ss (d % n) = fit n xs ss d := by
  refine congrArg (fun l : List Int => (l.length : Int)) (List.filter_congr fun s _ => ?_)
  rw [Int.sub_emod, Int.emod_emod, ← Int.sub_emod]
theorem fit_turn {n k j d : Int} {xs ss : List Int} (hn : 0 < n) (hs : Asc 0 n ss) : fit n (turnL n k xs) (turnL n j ss) d = fit n xs ss (d - j - k) := by
  unfold fit
  rw [← filt_perm (turn_perm (k := j) hn hs) (p := fun s => decide ((d - s) % n ∈ turnL n k xs)) (fun z => by rw [Int.sub_emod, Int.emod_emod, ← Int.sub_emod]), List.filter_map, List.length_map]
  refine congrArg (fun l : List Int => (l.length : Int)) (List.filter_congr fun s _ => ?_)
  show decide ((d - (s + j)) % n ∈ turnL n k xs) = _
  rw [decide_eq_decide, mem_turnL]
  have a := Int.emod_nonneg (d - (s + j)) (show n ≠ 0 by omega)
  have b := Int.emod_lt_of_pos (d - (s + j)) hn
  rw [show ((d - (s + j)) % n - k) % n = (d - j - k - s) % n by rw [Int.sub_emod, Int.emod_emod, ← Int.sub_emod]; congr 1; omega]
  exact ⟨fun z => z.2, fun z => ⟨⟨a, b⟩, z⟩⟩
/-- the law's own count -/
theorem cnt_law {n : Int} {xs ss : List Int} (hn : 0 < n) (h : Asc 0 n xs) : cntP n (prod xs (ss.map fun s => -s)) = fitL n xs ss := by
  rw [cnt_eq hn h]
  refine List.map_congr_left fun d _ => ?_
  unfold fit
  rw [List.filter_map, List.length_map]
  congr 3
  funext s
  show decide ((-s + (d : Int)) % n ∈ xs) = decide (((d : Int) - s) % n ∈ xs)
  rw [show -s + (d : Int) = (d : Int) - s by omega]
/-- .. and that of the program -/
theorem cnt_prog {n : Int} {xs ss : List Int} (hn : 0 < n) (h : Asc 0 n xs) (hs : Asc 0 n ss) : cntP n (prod xs (negL n ss)) = fitL n xs ss := by
  rw [← cnt_law hn h, cnt_eq hn h, cnt_eq hn h]
  refine List.map_congr_left fun d _ => ?_
  rw [filt_perm (neg_perm hn hs) (fun z => by rw [Int.add_emod, Int.emod_emod, ← Int.add_emod])]
theorem fitL_len {n : Int} {xs ss : List Int} : (fitL n xs ss).length = n.toNat := by
  unfold fitL
  rw [List.length_map, List.length_range]
theorem fitL_all {n : Int} {xs ss : List Int} {p : Int → Bool} (hn : 0 < n) : (fitL n xs ss).all p = true ↔ ∀ d : Int, p (fit n xs ss d) = true := by
  rw [List.all_eq_true]
  constructor
  · intro h d
    have a := Int.emod_nonneg d (show n ≠ 0 by omega)
    have b := Int.emod_lt_of_pos d hn
    rw [← fit_mod]
    refine h _ (List.mem_map.mpr ⟨(d % n).toNat, List.mem_range.mpr (by omega), ?_⟩)
    rw [show (((d % n).toNat : Nat) : Int) = d % n by omega]
  · intro h x hx
    obtain ⟨d, _, rfl⟩ := List.mem_map.mp hx
    exact h _
theorem okB_turn {n j : Int} {xss yss : List (List Int)} {nd ss : List Int} {g : Nat} (hn : 0 < n) (hs : Asc 0 n ss) (k : Int) (e : yss.getD g [] = turnL n k (xss.getD g [])) : okB n yss nd (turnL n j ss) g = okB n xss nd ss g := by
  unfold okB
  rw [Bool.eq_iff_iff, fitL_all hn, fitL_all hn, e]
  constructor
  · intro h d
    have := h (d + j + k)
    rw [fit_turn hn hs, show d + j + k - j - k = d by omega] at this
    exact this
  · intro h d
    rw [fit_turn hn hs]
    exact h _
theorem enB_turn {n j : Int} {xss yss : List (List Int)} {nd ss : List Int} (hn : 0 < n) (hs : Asc 0 n ss) (hl : yss.length = xss.length) (e : ∀ g, g < xss.length → ∃ k, yss.getD g [] = turnL n k (xss.getD g [])) : enB n yss nd (turnL n j ss) = enB n xss nd ss := by
  unfold enB
  rw [hl, Bool.eq_iff_iff, List.all_eq_true, List.all_eq_true]
  constructor
  · intro h g hg
    obtain ⟨k, hk⟩ := e g (List.mem_range.mp hg)
    rw [← okB_turn hn hs k hk (j := j)]
    exact h g hg
  · intro h g hg
    obtain ⟨k, hk⟩ := e g (List.mem_range.mp hg)
    rw [okB_turn hn hs k hk]
    exact h g hg

theorem el_isW {te : TE} {σ : L2.St} {H : Hp} {xs ys : List V} (h : EvL te σ H xs) (e : xs = ys) : EvL te σ H ys := by subst e; exact h
theorem el_rngY {σ : L2.St} {H : Hp} {te : TE} {ta : TA} {j n : Nat} {vs : List Nat} (v : Nat → V) (h : EvA ta σ H [.int (n : Int)]) (hn : n ≤ 40000) (hw : ∀ x, wipe ((wipe σ vs).set j (some x)) vs = wipe σ vs)
    (he : ∀ (i : Nat) H1, i < n → Ex H H1 → Ev te ((wipe σ vs).set j (some (.int (i : Int)))) H1 (v i)) : EvL (tLc (iRng1 ta) (gName j) tYes te vs) σ H ((List.range n).map v) := by
  have r := ei_rng1 h (by omega)
  rw [Int.toNat_natCast] at r
  rw [← given_all]
  exact el_lc (fun _ => true) v r hn bd_fn (fun i _ => hw _) (fun _ _ _ _ => yes_T) fun i H1 hi e _ => he i H1 hi e

theorem in_getD {α : Type} {xs : List α} {i : Nat} {d : α} (h : i < xs.length) : xs.getD i d ∈ xs := by
  rw [List.getD_eq_getElem?_getD, List.getElem?_eq_getElem h]
  exact List.getElem_mem _

/-! ### sets of hours as bits -/
def lstB (B : Nat) : List Int := hrs 12 fun z => B.testBit z.toNat
def pc (B : Nat) : Nat := ((List.range 12).filter fun i => B.testBit i).length
def maskOf (l : List Nat) : Nat := l.foldl (fun b i => b ||| 1 <<< i) 0
theorem mask_from (l : List Nat) (b i : Nat) : (l.foldl (fun b i => b ||| 1 <<< i) b).testBit i = (b.testBit i || decide (i ∈ l)) := by
  induction l generalizing b with
  | nil => simp
  | cons x l ih =>
    rw [List.foldl_cons, ih, Nat.testBit_or, Nat.one_shiftLeft, Nat.testBit_two_pow]
    by_cases c : x = i
    · subst c; simp
    · have c' : ¬ i = x := fun z => c z.symm
      simp [c, c']
theorem mask_bit (l : List Nat) (i : Nat) : (maskOf l).testBit i = decide (i ∈ l) := by
  unfold maskOf
  rw [mask_from]
  simp
def meetB (n : Nat) (xs : List Int) (h : Nat) : Nat := maskOf ((List.range n).filter fun s => decide (((h : Int) - (s : Int)) % (n : Int) ∈ xs))
theorem meet_bit {n h s : Nat} {xs : List Int} : (meetB n xs h).testBit s = decide (s < n ∧ ((h : Int) - (s : Int)) % (n : Int) ∈ xs) := by
  unfold meetB
  rw [mask_bit, decide_eq_decide, List.mem_filter, List.mem_range, decide_eq_true_iff]
theorem lt_pow_bits {n B : Nat} (h : ∀ i, n ≤ i → B.testBit i = false) : B < 2 ^ n := Nat.lt_pow_two_of_testBit B fun i hi => h i hi
theorem meet_lt {n h : Nat} {xs : List Int} : meetB n xs h < 2 ^ n := lt_pow_bits fun i hi => by
  rw [meet_bit]
  exact decide_eq_false fun z => by omega
def lackO (x : Int) : Int := if 0 < x then x else 0
def lackL (n : Nat) (xss : List (List Int)) (nd : List Int) (t g : Nat) : List Int := (List.range n).map fun h => lackO (nd.getD g 0 - ((pc (t &&& meetB n (xss.getD g []) h) : Nat) : Int))
def metB (n : Nat) (xss : List (List Int)) (nd : List Int) (t : Nat) : Bool := (List.range xss.length).all fun g => decide ((lackL n xss nd t g).sum = 0)
theorem and_ii (a b : Nat) : Builtin.bitAnd (a : Int) (b : Int) = ((a &&& b : Nat) : Int) := PyProof.Rows.bitAnd_pp (by omega) (by omega)
theorem or_ii (a b : Nat) : Builtin.bitOr (a : Int) (b : Int) = ((a ||| b : Nat) : Int) := by
  unfold Builtin.bitOr
  have h1 : ¬ 0 ≤ Builtin.bitNot (a : Int) := by unfold Builtin.bitNot; omega
  have h2 : ¬ 0 ≤ Builtin.bitNot (b : Int) := by unfold Builtin.bitNot; omega
  have e : ∀ c : Int, Builtin.bitNot (Builtin.bitNot c) = c := fun c => by unfold Builtin.bitNot; omega
  rw [PyProof.Rows.bitAnd_nn h1 h2, e, e, e]
  simp

theorem pick_more {a b : Nat} {f : Nat → Bool} {g : Nat → Int} (h : ∀ i, a ≤ i → f i = false) (hab : a ≤ b) : pick a f g = pick b f g := by
  induction b with
  | zero => rw [show a = 0 by omega]
  | succ b ih =>
    by_cases c : a = b + 1
    · rw [c]
    · rw [pick_succ, h b (by omega), ih (by omega)]
      simp
def tTru (K : PySem.W.Frag) (ta : TE) : TT := fun σ H Q => ta σ H fun x H' => ∃ k, TruV K x H' k ∧ Q k H'
theorem pt_truthK {X : Cx} {K : PySem.W.Frag} {a : Expr} {ta : TE} (h : PE X a ta) (he : ∀ whole, isTrue a X.env whole = (do let v ← whole; standAt a.pos; holding [v] (truthy v))) (hk : X.K = K := by rfl) : PT X a (tTru K ta) := by subst hk; exact pt_truth h he
theorem et_tru {K : PySem.W.Frag} {ta : TE} {σ : L2.St} {H : Hp} {i : Int} (h : Ev ta σ H (.int i)) : EvT (tTru K ta) σ H (i != 0) := fun H1 e Q q => h H1 e _ fun H2 e2 => ⟨_, rfl, q H2 e2⟩
theorem shr_ii (B i : Nat) : (B : Int) / (2 : Int) ^ (i : Int).toNat = ((B / 2 ^ i : Nat) : Int) := by
  rw [Int.toNat_natCast, Int.natCast_ediv, Int.natCast_pow]
  rfl
theorem shl_ii (i : Nat) : (1 : Int) * (2 : Int) ^ (i : Int).toNat = ((1 <<< i : Nat) : Int) := by
  rw [Nat.one_shiftLeft, Int.one_mul, Int.toNat_natCast, Int.natCast_pow]
  rfl
theorem bit_tru (B i : Nat) : (((B / 2 ^ i &&& 1 : Nat) : Int) != 0) = B.testBit i := by
  rw [Nat.testBit_eq_decide_div_mod_eq, Nat.and_one_is_mod]
  generalize B / 2 ^ i = z
  have := Nat.mod_lt z (show 0 < 2 by decide)
  rw [Bool.eq_iff_iff]
  simp
  omega
theorem pc_half {b : Nat} (h : b < 4096) : pc b = pc (b / 2) + b % 2 := by
  have hi : (b / 2).testBit 11 = false := Nat.testBit_lt_two_pow (by omega)
  unfold pc
  rw [show List.range 12 = 0 :: (List.range 11).map Nat.succ from List.range_succ_eq_map, List.filter_cons, List.filter_map]
  rw [show (List.filter (fun i => (b / 2).testBit i) (0 :: (List.range 11).map Nat.succ)) = List.filter (fun i => (b / 2).testBit i) (List.range 12) by rw [show List.range 12 = 0 :: (List.range 11).map Nat.succ from List.range_succ_eq_map]]
  rw [show List.range 12 = List.range 11 ++ [11] from List.range_succ, List.filter_append]
  have e : ((fun i => b.testBit i) ∘ Nat.succ) = fun i => (b / 2).testBit i := funext fun i => Nat.testBit_succ b i
  rw [e]
  have z : List.filter (fun i => (b / 2).testBit i) [11] = [] := by simp [hi]
  rw [z, List.append_nil]
  have h0 : b.testBit 0 = decide (b % 2 = 1) := Nat.testBit_zero b
  by_cases c : b % 2 = 1
  · rw [if_pos (by rw [h0]; exact decide_eq_true c), List.length_cons, List.length_map, c]
  · rw [if_neg (by rw [h0]; simp; omega), List.length_map]
    omega
theorem el_mapN {K : PySem.W.Frag} {σ : L2.St} {H : Hp} {te tl : TE} {j m : Nat} {vs : List Nat} {xs : List V} {f : Nat → V} (hl : EvB tl σ H fun v G => ∃ p, v = .ref p ∧ SqL K G p xs) (hm : xs.length = m) (hz : m ≤ 40000) (hw : ∀ x, wipe ((wipe σ vs).set j x) vs = wipe σ vs)
    (he : ∀ i H1, i < m → Ex H H1 → Ev te ((wipe σ vs).set j (xs[i]?)) H1 (f i)) : EvL (tLc (iList K tl) (gName j) tYes te vs) σ H ((List.range m).map f) := by
  rw [← given_all]
  subst hm
  exact el_lc (fun _ => true) f (ei_list (K := K) hl) hz bd_at (fun i _ => hw _) (fun _ _ _ _ => yes_T) fun i H1 hi e _ => he i H1 hi e
theorem ev_fldQ {K : PySem.W.Frag} {C a dx : Addr} {te : TE} {σ : L2.St} {H : Hp} {fs : List (Str × V)} {f : Str} {v : V} (h : Ev te σ H (.ref a)) (hi : H a = some (.ins C dx fs)) (c : Cls K C) (na : NoAttr K C f) (hl : fs.lookup f = some v) : Ev (tFld K te f) σ H v := fun H1 e Q q => h H1 e _ fun H2 e2 => ⟨a, _, dx, _, _, rfl, e2 _ _ (e _ _ hi), c, na, hl, q H2 e2⟩
theorem s_fldR {K : PySem.W.Frag} {C x dx : Addr} {te : TE} {f : Str} {D : Ends} {σ : L2.St} {H : Hp} {i : Nat} {fs : List (Str × V)} {P : V → Hp → Prop} (h : EvR te σ H P) (hs : σ[i]? = some (some (.ref x))) (hi : H x = some (.ins C dx fs)) (c : Cls K C) (na : NoAttr K C f) (hl : fs.length < 1000) (k : ∀ v H1, Ex H H1 → P v H1 → D.nx σ (upd H1 x (.ins C dx (putF f v fs)))) : sFld K (tVar i) te f D σ H :=
  h H (Ex.refl H) _ fun v H1 e p => ⟨.ref x, hs, x, C, dx, fs, rfl, e _ _ hi, c, na, hl, k v H1 e p⟩
theorem q_fldR {K : PySem.W.Frag} {C x dx : Addr} {te : TE} {f : Str} {D : Ends} {tz : TS} {σ : L2.St} {H : Hp} {i : Nat} {fs : List (Str × V)} {P : V → Hp → Prop} (h : EvR te σ H P) (hs : σ[i]? = some (some (.ref x))) (hi : H x = some (.ins C dx fs)) (c : Cls K C) (na : NoAttr K C f) (hl : fs.length < 1000) (k : ∀ v H1, Ex H H1 → P v H1 → tz D σ (upd H1 x (.ins C dx (putF f v fs)))) : tSeq (sFld K (tVar i) te f) tz D σ H := s_fldR (D := { D with nx := tz D }) h hs hi c na hl k
theorem and_nn (a b : Nat) : Builtin.bitAnd (a : Int) (Builtin.bitNot (b : Int)) = ((a - (a &&& b) : Nat) : Int) := by
  rw [PyProof.Rows.bitAnd_not, and_ii]
  have : a &&& b ≤ a := Nat.and_le_left
  omega
theorem sub_bit (a b i : Nat) : (a - (a &&& b)).testBit i = (a.testBit i && !b.testBit i) := by
  have h1 : (a ^^^ (a &&& b)) ||| (a &&& b) = a := Nat.eq_of_testBit_eq fun j => by
    rw [Nat.testBit_or, Nat.testBit_xor, Nat.testBit_and]
    cases a.testBit j <;> cases b.testBit j <;> rfl
  have h2 : (a ^^^ (a &&& b)) &&& (a &&& b) = 0 := Nat.eq_of_testBit_eq fun j => by
    rw [Nat.testBit_and, Nat.testBit_xor, Nat.testBit_and, Nat.zero_testBit]
    cases a.testBit j <;> cases b.testBit j <;> rfl
  have h3 := PyProof.Rows.bitOr_and ((a ^^^ (a &&& b) : Nat) : Int) ((a &&& b : Nat) : Int)
  rw [or_ii, and_ii, h1, h2] at h3
  have h4 : a - (a &&& b) = a ^^^ (a &&& b) := by omega
  rw [h4, Nat.testBit_xor, Nat.testBit_and]
  cases a.testBit i <;> cases b.testBit i <;> rfl
theorem pc_add {t s : Nat} (hs : s < 12) (h : t.testBit s = false) : pc (t ||| 1 <<< s) = pc t + 1 := by
  have hp : ((List.range 12).filter fun i => (t ||| 1 <<< s).testBit i).Perm (s :: (List.range 12).filter fun i => t.testBit i) := (List.perm_ext_iff_of_nodup (List.nodup_range.filter _) (List.nodup_cons.mpr ⟨fun z => by rw [List.mem_filter, h] at z; exact Bool.noConfusion z.2, List.nodup_range.filter _⟩)).mpr fun i => by
    rw [List.mem_filter, List.mem_cons, List.mem_filter, List.mem_range, Nat.testBit_or, Nat.one_shiftLeft, Nat.testBit_two_pow, Bool.or_eq_true, decide_eq_true_iff]
    constructor
    · rintro ⟨h1, h2 | h2⟩
      · exact .inr ⟨h1, h2⟩
      · exact .inl h2.symm
    · rintro (h1 | h1)
      · subst h1; exact ⟨hs, .inr rfl⟩
      · exact ⟨h1.1, .inl h1.2⟩
  unfold pc
  rw [hp.length_eq, List.length_cons]
theorem mem_lstB {B : Nat} {z : Int} : z ∈ lstB B ↔ (0 ≤ z ∧ z < 12) ∧ B.testBit z.toNat = true := mem_hrs
theorem lstB_len {B : Nat} : (lstB B).length = pc B := by
  unfold lstB hrs pc pick
  rw [List.length_map]
  rfl
theorem lackO_nn (x : Int) : 0 ≤ lackO x := by unfold lackO; split <;> omega
theorem sum_nn : ∀ {l : List Int}, (∀ x ∈ l, 0 ≤ x) → 0 ≤ l.sum
  | [], _ => Int.le_refl _
  | x :: l, h => by
    rw [List.sum_cons]
    have := h x List.mem_cons_self
    have := sum_nn fun y hy => h y (List.mem_cons_of_mem _ hy)
    omega
theorem lack_nn {n t g : Nat} {xss : List (List Int)} {nd : List Int} : 0 ≤ (lackL n xss nd t g).sum := sum_nn fun x hx => by
  obtain ⟨h, _, rfl⟩ := List.mem_map.mp hx
  exact lackO_nn _
theorem not_met {n t : Nat} {xss : List (List Int)} {nd : List Int} (h : metB n xss nd t = false) : ∃ g, g < xss.length ∧ 0 < (lackL n xss nd t g).sum := by
  unfold metB at h
  rw [List.all_eq_false] at h
  obtain ⟨g, hg, hs⟩ := h
  have := lack_nn (n := n) (t := t) (g := g) (xss := xss) (nd := nd)
  refine ⟨g, List.mem_range.mp hg, ?_⟩
  have : ¬ (lackL n xss nd t g).sum = 0 := fun z => hs (decide_eq_true z)
  omega
theorem len_sub {as bs : List Int} (ha : as.Nodup) (h : ∀ z ∈ as, z ∈ bs) : as.length ≤ bs.length := by
  induction as generalizing bs with
  | nil => exact Nat.zero_le _
  | cons a as ih =>
    have nd := List.nodup_cons.mp ha
    have hm := h a List.mem_cons_self
    have := ih (bs := bs.erase a) nd.2 fun z hz => (List.mem_erase_of_ne (fun e : z = a => nd.1 (by rw [← e]; exact hz))).mpr (h z (List.mem_cons_of_mem _ hz))
    have hl := List.length_erase_of_mem hm
    have : 0 < bs.length := List.length_pos_of_mem hm
    rw [List.length_cons]
    omega
theorem back_mod {n z : Int} {h : Int} (z0 : 0 ≤ z) (z1 : z < n) : (h - (h - z) % n) % n = z := by
  rw [Int.sub_emod, Int.emod_emod, ← Int.sub_emod, show h - (h - z) = z by omega, Int.emod_eq_of_lt z0 z1]
theorem pc_meet {n h : Nat} {xs : List Int} (hn : 1 ≤ n ∧ n ≤ 12) (hA : Asc 0 (n : Int) xs) : xs.length ≤ pc (meetB n xs h) := by
  rw [← lstB_len, ← List.length_map (f := fun a => ((h : Int) - a) % (n : Int)) (as := xs)]
  refine len_sub ?_ fun z hz => ?_
  · refine List.pairwise_map.mpr ?_
    have nd : xs.Nodup := hA.1.imp fun {a b} hab => by omega
    refine nd.imp_of_mem fun {a b} ha hb hab z => hab ?_
    have xa := hA.2 a ha
    have xb := hA.2 b hb
    rw [← back_mod (h := (h : Int)) xa.1 xa.2, z, back_mod xb.1 xb.2]
  · obtain ⟨a, ha, rfl⟩ := List.mem_map.mp hz
    have xa := hA.2 a ha
    have m0 := Int.emod_nonneg ((h : Int) - a) (b := (n : Int)) (by omega)
    have m1 := Int.emod_lt_of_pos ((h : Int) - a) (show (0 : Int) < (n : Int) by omega)
    rw [mem_lstB, meet_bit]
    refine ⟨by omega, decide_eq_true ⟨by omega, ?_⟩⟩
    rw [Int.toNat_of_nonneg m0, back_mod xa.1 xa.2]
    exact ha
theorem full_and {n M : Nat} (h : M < 2 ^ n) : (2 ^ n - 1) &&& M = M := by
  rw [Nat.and_comm, Nat.and_two_pow_sub_one_eq_mod, Nat.mod_eq_of_lt h]
theorem met_full {n : Nat} {xss : List (List Int)} {nd : List Int} (hn : 1 ≤ n ∧ n ≤ 12) (hA : ∀ xs ∈ xss, Asc 0 (n : Int) xs) (h : ∀ g, g < xss.length → nd.getD g 0 ≤ (((xss.getD g []).length : Nat) : Int)) : metB n xss nd (2 ^ n - 1) = true := by
  unfold metB
  rw [List.all_eq_true]
  intro g hg
  have hg := List.mem_range.mp hg
  rw [decide_eq_true_iff]
  have z : ∀ l : List Int, (∀ x ∈ l, x = 0) → l.sum = 0 := fun l hl => by
    induction l with
    | nil => rfl
    | cons x l ih => rw [List.sum_cons, hl x List.mem_cons_self, ih fun y hy => hl y (List.mem_cons_of_mem _ hy)]; rfl
  refine z _ fun x hx => ?_
  obtain ⟨k, _, rfl⟩ := List.mem_map.mp hx
  rw [full_and meet_lt]
  have h1 := pc_meet (h := k) hn (hA _ (show xss.getD g [] ∈ xss by rw [List.getD_eq_getElem?_getD, List.getElem?_eq_getElem hg]; exact List.getElem_mem hg))
  have h2 := h g hg
  unfold lackO
  rw [if_neg (by omega)]
theorem asc_lstB {n L : Nat} (h : L < 2 ^ n) : Asc 0 (n : Int) (lstB L) := ⟨(asc_hrs (by decide)).1, fun z hz => by
  have hm := mem_lstB.mp hz
  refine ⟨hm.1.1, Decidable.by_contra fun c => ?_⟩
  have := Nat.testBit_lt_two_pow (Nat.lt_of_lt_of_le h (Nat.pow_le_pow_right (show 0 < 2 by decide) (show n ≤ z.toNat by omega)))
  rw [this] at hm
  exact Bool.noConfusion hm.2⟩
/-! ### the law's count, starts first -/
def prodS (ss xs : List Int) : List (Int × Int) := ss.flatMap fun s => xs.map fun a => (a, -s)
theorem perm_cons_flat {α β : Type} (f : α → β) (g : α → List β) : ∀ xs : List α, (xs.flatMap fun a => f a :: g a).Perm (xs.map f ++ xs.flatMap g)
  | [] => .refl _
  | x :: xs => by
    rw [List.flatMap_cons, List.map_cons, List.flatMap_cons, List.cons_append, List.cons_append]
    refine .cons _ ?_
    exact ((perm_cons_flat f g xs).append_left (g x)).trans (by rw [← List.append_assoc, ← List.append_assoc]; exact (List.perm_append_comm).append_right _)
theorem perm_prodS (xs : List Int) : ∀ ss : List Int, (prodS ss xs).Perm (prod xs (ss.map fun s => -s))
  | [] => by
    have : prod xs [] = [] := by unfold prod; simp
    show ([] : List (Int × Int)).Perm (prod xs [])
    rw [this]
  | s :: ss => by
    have h := perm_cons_flat (fun a : Int => (a, -s)) (fun a => (ss.map fun s => -s).map fun y => (a, y)) xs
    show (xs.map (fun a => (a, -s)) ++ prodS ss xs).Perm (xs.flatMap fun x => ((s :: ss).map fun s => -s).map fun y => (x, y))
    exact ((perm_prodS xs ss).append_left _).trans h.symm
theorem cntP_perm {n : Int} {P Q : List (Int × Int)} (h : P.Perm Q) : cntP n P = cntP n Q := List.map_congr_left fun d _ => by rw [(h.filter _).length_eq]

theorem sl_listK {X : Cx} {K : PySem.W.Frag} (h : X.K = K := by rfl) : SlR X (rSlL K) := by subst h; exact sl_list
theorem cr_minK {X : Cx} {K : PySem.W.Frag} (hc : X.calm = true := by rfl) (h : X.K = K := by rfl) : CallR X (.builtin "min") (rMin K) := by subst h; exact cr_min hc
set_option genInjectivity false in
set_option genSizeOf false in
structure Ads where
  f_BadNumber_init : Addr
  d_BadNumber_init : FuncData
  f_TooMany_init : Addr
  d_TooMany_init : FuncData
  f_RepeatedHour_init : Addr
  d_RepeatedHour_init : FuncData
  f_WrongLength_init : Addr
  d_WrongLength_init : FuncData
  f_NotEnough_init : Addr
  d_NotEnough_init : FuncData
  f_Lot_init : Addr
  d_Lot_init : FuncData
  f_Lot_members : Addr
  d_Lot_members : FuncData
  f_Lot_iter : Addr
  d_Lot_iter : FuncData
  f_Lot_len : Addr
  d_Lot_len : FuncData
  f_u_check : Addr
  d_u_check : FuncData
  f_bits_of : Addr
  d_bits_of : FuncData
  f_listed : Addr
  d_listed : FuncData
  f_bit_counts : Addr
  d_bit_counts : FuncData
  f_Fewest_init : Addr
  d_Fewest_init : FuncData
  f_u_starts_meeting : Addr
  d_u_starts_meeting : FuncData
  f_Demand_init : Addr
  d_Demand_init : FuncData
  f_Demand_lacks : Addr
  d_Demand_lacks : FuncData
  f_Demand_is_met : Addr
  d_Demand_is_met : FuncData
  f_u_least_met : Addr
  d_u_least_met : FuncData
  f_u_split : Addr
  d_u_split : FuncData
  f_u_tree : Addr
  d_u_tree : FuncData
  f_fewest_starts : Addr
  d_fewest_starts : FuncData
  f_u_law_cell : Addr
  d_u_law_cell : FuncData
  f_u_law_draws : Addr
  d_u_law_draws : FuncData
  f_u_law_two : Addr
  d_u_law_two : FuncData
  f_u_law_bits : Addr
  d_u_law_bits : FuncData
  f_u_law_is_int : Addr
  d_u_law_is_int : FuncData
  f_u_law_same : Addr
  d_u_law_same : FuncData
  f_u_law_gate : Addr
  d_u_law_gate : FuncData
  f_u_law_lack : Addr
  d_u_law_lack : FuncData
  f_u_law_free : Addr
  d_u_law_free : FuncData
  f_u_law_below : Addr
  d_u_law_below : FuncData
  f_u_law_shows : Addr
  d_u_law_shows : FuncData
  f_u_law_meets_all : Addr
  d_u_law_meets_all : FuncData
  f_law : Addr
  d_law : FuncData
  C_BadNumber : Addr
  C_TooMany : Addr
  C_RepeatedHour : Addr
  C_WatchError : Addr
  C_OtherHours : Addr
  C_WrongLength : Addr
  C_NotEnough : Addr
  C_Lot : Addr
  C_Fewest : Addr
  C_Demand : Addr
  p_Lot_members : Addr
structure Txt (K : PySem.W.Frag) (mg : Str → Option Value) (A : Ads) : Prop where
  F_BadNumber_init : Fun K "__init__" "BadNumber.__init__" s_BadNumber_init A.f_BadNumber_init A.d_BadNumber_init
  F_TooMany_init : Fun K "__init__" "TooMany.__init__" s_TooMany_init A.f_TooMany_init A.d_TooMany_init
  F_RepeatedHour_init : Fun K "__init__" "RepeatedHour.__init__" s_RepeatedHour_init A.f_RepeatedHour_init A.d_RepeatedHour_init
  F_WrongLength_init : Fun K "__init__" "WrongLength.__init__" s_WrongLength_init A.f_WrongLength_init A.d_WrongLength_init
  F_NotEnough_init : Fun K "__init__" "NotEnough.__init__" s_NotEnough_init A.f_NotEnough_init A.d_NotEnough_init
  F_Lot_init : Fun K "__init__" "Lot.__init__" s_Lot_init A.f_Lot_init A.d_Lot_init
  F_Lot_members : Fun K "members" "Lot.members" s_Lot_members A.f_Lot_members A.d_Lot_members
  F_Lot_iter : Fun K "__iter__" "Lot.__iter__" s_Lot_iter A.f_Lot_iter A.d_Lot_iter
  F_Lot_len : Fun K "__len__" "Lot.__len__" s_Lot_len A.f_Lot_len A.d_Lot_len
  F_u_check : Fun K "_check" "_check" s_u_check A.f_u_check A.d_u_check
  g_u_check : mg "_check" = some (.ref A.f_u_check)
  k_u_check : PySem.W.keepIn K (.ref A.f_u_check) = true
  F_bits_of : Fun K "bits_of" "bits_of" s_bits_of A.f_bits_of A.d_bits_of
  g_bits_of : mg "bits_of" = some (.ref A.f_bits_of)
  k_bits_of : PySem.W.keepIn K (.ref A.f_bits_of) = true
  F_listed : Fun K "listed" "listed" s_listed A.f_listed A.d_listed
  g_listed : mg "listed" = some (.ref A.f_listed)
  k_listed : PySem.W.keepIn K (.ref A.f_listed) = true
  F_bit_counts : Fun K "bit_counts" "bit_counts" s_bit_counts A.f_bit_counts A.d_bit_counts
  g_bit_counts : mg "bit_counts" = some (.ref A.f_bit_counts)
  k_bit_counts : PySem.W.keepIn K (.ref A.f_bit_counts) = true
  F_Fewest_init : Fun K "__init__" "Fewest.__init__" s_Fewest_init A.f_Fewest_init A.d_Fewest_init
  F_u_starts_meeting : Fun K "_starts_meeting" "_starts_meeting" s_u_starts_meeting A.f_u_starts_meeting A.d_u_starts_meeting
  g_u_starts_meeting : mg "_starts_meeting" = some (.ref A.f_u_starts_meeting)
  k_u_starts_meeting : PySem.W.keepIn K (.ref A.f_u_starts_meeting) = true
  F_Demand_init : Fun K "__init__" "Demand.__init__" s_Demand_init A.f_Demand_init A.d_Demand_init
  F_Demand_lacks : Fun K "lacks" "Demand.lacks" s_Demand_lacks A.f_Demand_lacks A.d_Demand_lacks
  F_Demand_is_met : Fun K "is_met" "Demand.is_met" s_Demand_is_met A.f_Demand_is_met A.d_Demand_is_met
  F_u_least_met : Fun K "_least_met" "_least_met" s_u_least_met A.f_u_least_met A.d_u_least_met
  g_u_least_met : mg "_least_met" = some (.ref A.f_u_least_met)
  k_u_least_met : PySem.W.keepIn K (.ref A.f_u_least_met) = true
  F_u_split : Fun K "_split" "_split" s_u_split A.f_u_split A.d_u_split
  g_u_split : mg "_split" = some (.ref A.f_u_split)
  k_u_split : PySem.W.keepIn K (.ref A.f_u_split) = true
  F_u_tree : Fun K "_tree" "_tree" s_u_tree A.f_u_tree A.d_u_tree
  g_u_tree : mg "_tree" = some (.ref A.f_u_tree)
  k_u_tree : PySem.W.keepIn K (.ref A.f_u_tree) = true
  F_fewest_starts : Fun K "fewest_starts" "fewest_starts" s_fewest_starts A.f_fewest_starts A.d_fewest_starts
  g_fewest_starts : mg "fewest_starts" = some (.ref A.f_fewest_starts)
  k_fewest_starts : PySem.W.keepIn K (.ref A.f_fewest_starts) = true
  F_u_law_cell : Fun K "_law_cell" "_law_cell" s_u_law_cell A.f_u_law_cell A.d_u_law_cell
  g_u_law_cell : mg "_law_cell" = some (.ref A.f_u_law_cell)
  k_u_law_cell : PySem.W.keepIn K (.ref A.f_u_law_cell) = true
  F_u_law_draws : Fun K "_law_draws" "_law_draws" s_u_law_draws A.f_u_law_draws A.d_u_law_draws
  g_u_law_draws : mg "_law_draws" = some (.ref A.f_u_law_draws)
  k_u_law_draws : PySem.W.keepIn K (.ref A.f_u_law_draws) = true
  F_u_law_two : Fun K "_law_two" "_law_two" s_u_law_two A.f_u_law_two A.d_u_law_two
  g_u_law_two : mg "_law_two" = some (.ref A.f_u_law_two)
  k_u_law_two : PySem.W.keepIn K (.ref A.f_u_law_two) = true
  F_u_law_bits : Fun K "_law_bits" "_law_bits" s_u_law_bits A.f_u_law_bits A.d_u_law_bits
  g_u_law_bits : mg "_law_bits" = some (.ref A.f_u_law_bits)
  k_u_law_bits : PySem.W.keepIn K (.ref A.f_u_law_bits) = true
  F_u_law_is_int : Fun K "_law_is_int" "_law_is_int" s_u_law_is_int A.f_u_law_is_int A.d_u_law_is_int
  g_u_law_is_int : mg "_law_is_int" = some (.ref A.f_u_law_is_int)
  k_u_law_is_int : PySem.W.keepIn K (.ref A.f_u_law_is_int) = true
  F_u_law_same : Fun K "_law_same" "_law_same" s_u_law_same A.f_u_law_same A.d_u_law_same
  g_u_law_same : mg "_law_same" = some (.ref A.f_u_law_same)
  k_u_law_same : PySem.W.keepIn K (.ref A.f_u_law_same) = true
  F_u_law_gate : Fun K "_law_gate" "_law_gate" s_u_law_gate A.f_u_law_gate A.d_u_law_gate
  g_u_law_gate : mg "_law_gate" = some (.ref A.f_u_law_gate)
  k_u_law_gate : PySem.W.keepIn K (.ref A.f_u_law_gate) = true
  F_u_law_lack : Fun K "_law_lack" "_law_lack" s_u_law_lack A.f_u_law_lack A.d_u_law_lack
  g_u_law_lack : mg "_law_lack" = some (.ref A.f_u_law_lack)
  k_u_law_lack : PySem.W.keepIn K (.ref A.f_u_law_lack) = true
  F_u_law_free : Fun K "_law_free" "_law_free" s_u_law_free A.f_u_law_free A.d_u_law_free
  g_u_law_free : mg "_law_free" = some (.ref A.f_u_law_free)
  k_u_law_free : PySem.W.keepIn K (.ref A.f_u_law_free) = true
  F_u_law_below : Fun K "_law_below" "_law_below" s_u_law_below A.f_u_law_below A.d_u_law_below
  g_u_law_below : mg "_law_below" = some (.ref A.f_u_law_below)
  k_u_law_below : PySem.W.keepIn K (.ref A.f_u_law_below) = true
  F_u_law_shows : Fun K "_law_shows" "_law_shows" s_u_law_shows A.f_u_law_shows A.d_u_law_shows
  g_u_law_shows : mg "_law_shows" = some (.ref A.f_u_law_shows)
  k_u_law_shows : PySem.W.keepIn K (.ref A.f_u_law_shows) = true
  F_u_law_meets_all : Fun K "_law_meets_all" "_law_meets_all" s_u_law_meets_all A.f_u_law_meets_all A.d_u_law_meets_all
  g_u_law_meets_all : mg "_law_meets_all" = some (.ref A.f_u_law_meets_all)
  k_u_law_meets_all : PySem.W.keepIn K (.ref A.f_u_law_meets_all) = true
  F_law : Fun K "law" "law" s_law A.f_law A.d_law
  g_law : mg "law" = some (.ref A.f_law)
  k_law : PySem.W.keepIn K (.ref A.f_law) = true
  c_MOST_LOTS : ∃ t, mg "_MOST_LOTS" = some (.int 4 t)
  c_MOST_HOURS : ∃ t, mg "_MOST_HOURS" = some (.int 12 t)
  c_MOST_NEED : ∃ t, mg "_MOST_NEED" = some (.int 3 t)
  z_abs : mg "abs" = none
  z_len : mg "len" = none
  z_int : mg "int" = none
  z_bool : mg "bool" = none
  z_str : mg "str" = none
  z_list : mg "list" = none
  z_tuple : mg "tuple" = none
  z_isinstance : mg "isinstance" = none
  z_range : mg "range" = none
  z_ValueError : mg "ValueError" = none
  z_iter : mg "iter" = none
  z_min : mg "min" = none
  z_max : mg "max" = none
  z_all : mg "all" = none
  z_sum : mg "sum" = none
  z_enumerate : mg "enumerate" = none
  g_BadNumber : mg "BadNumber" = some (.ref A.C_BadNumber)
  g_TooMany : mg "TooMany" = some (.ref A.C_TooMany)
  g_RepeatedHour : mg "RepeatedHour" = some (.ref A.C_RepeatedHour)
  g_WatchError : mg "WatchError" = some (.ref A.C_WatchError)
  g_OtherHours : mg "OtherHours" = some (.ref A.C_OtherHours)
  g_WrongLength : mg "WrongLength" = some (.ref A.C_WrongLength)
  g_NotEnough : mg "NotEnough" = some (.ref A.C_NotEnough)
  g_Lot : mg "Lot" = some (.ref A.C_Lot)
  g_Fewest : mg "Fewest" = some (.ref A.C_Fewest)
  g_Demand : mg "Demand" = some (.ref A.C_Demand)
  ox_BadNumber : OexC K A.C_BadNumber
  ni_BadNumber : PySem.W.findIn K (.ref A.C_BadNumber) "__init__" = some (some (.ref A.f_BadNumber_init))
  ti_BadNumber : PySem.W.typeIn K (.ref A.f_BadNumber_init) = some (.type "function")
  nf_BadNumber_name : PySem.W.findIn K (.ref A.C_BadNumber) "name" = some none
  nf_BadNumber_value : PySem.W.findIn K (.ref A.C_BadNumber) "value" = some none
  xf_BadNumber : XfC K A.C_BadNumber
  ex_BadNumber : ExcC K A.C_BadNumber
  ox_TooMany : OexC K A.C_TooMany
  ni_TooMany : PySem.W.findIn K (.ref A.C_TooMany) "__init__" = some (some (.ref A.f_TooMany_init))
  ti_TooMany : PySem.W.typeIn K (.ref A.f_TooMany_init) = some (.type "function")
  nf_TooMany_name : PySem.W.findIn K (.ref A.C_TooMany) "name" = some none
  nf_TooMany_most : PySem.W.findIn K (.ref A.C_TooMany) "most" = some none
  xf_TooMany : XfC K A.C_TooMany
  ex_TooMany : ExcC K A.C_TooMany
  ox_RepeatedHour : OexC K A.C_RepeatedHour
  ni_RepeatedHour : PySem.W.findIn K (.ref A.C_RepeatedHour) "__init__" = some (some (.ref A.f_RepeatedHour_init))
  ti_RepeatedHour : PySem.W.typeIn K (.ref A.f_RepeatedHour_init) = some (.type "function")
  nf_RepeatedHour_hour : PySem.W.findIn K (.ref A.C_RepeatedHour) "hour" = some none
  xf_RepeatedHour : XfC K A.C_RepeatedHour
  ex_RepeatedHour : ExcC K A.C_RepeatedHour
  ox_WrongLength : OexC K A.C_WrongLength
  ni_WrongLength : PySem.W.findIn K (.ref A.C_WrongLength) "__init__" = some (some (.ref A.f_WrongLength_init))
  ti_WrongLength : PySem.W.typeIn K (.ref A.f_WrongLength_init) = some (.type "function")
  nf_WrongLength_length : PySem.W.findIn K (.ref A.C_WrongLength) "length" = some none
  xf_WrongLength : XfC K A.C_WrongLength
  ex_WrongLength : ExcC K A.C_WrongLength
  ox_NotEnough : OexC K A.C_NotEnough
  ni_NotEnough : PySem.W.findIn K (.ref A.C_NotEnough) "__init__" = some (some (.ref A.f_NotEnough_init))
  ti_NotEnough : PySem.W.typeIn K (.ref A.f_NotEnough_init) = some (.type "function")
  nf_NotEnough_index : PySem.W.findIn K (.ref A.C_NotEnough) "index" = some none
  xf_NotEnough : XfC K A.C_NotEnough
  ex_NotEnough : ExcC K A.C_NotEnough
  xP_OtherHours : PySem.W.excIn K A.C_OtherHours [.type "ValueError", .type "Exception", .type "BaseException", .type "object"] "ValueError.__new__" = true
  kP_OtherHours : PySem.W.keepIn K (.ref A.C_OtherHours) = true
  bP_OtherHours : PySem.W.subIn K (.ref A.C_OtherHours) (.type "BaseException") = some true
  tP_OtherHours : PySem.W.typeIn K (.ref A.C_OtherHours) = some (.type "type")
  ex_OtherHours : ExcC K A.C_OtherHours
  cl_Lot : Cls K A.C_Lot
  mk_Lot : Mk K A.C_Lot A.f_Lot_init
  na_Lot_hours : NoAttr K A.C_Lot "hours"
  na_Lot_members : NoAttr K A.C_Lot "_members"
  ty_Lot : ∀ (H : Hp) (a dx : Addr) (fs : List (Str × V)), H a = some (.ins A.C_Lot dx fs) → TyX K H (.ref a) (.ref A.C_Lot)
  rd_Lot : ∃ mc, ClX.CRead K A.C_Lot mc ∧ (∃ t, ClX.CVal K A.C_Lot mc "MOST" (.int 360) (.int 360 t))
  cl_Fewest : Cls K A.C_Fewest
  mk_Fewest : Mk K A.C_Fewest A.f_Fewest_init
  na_Fewest_starts : NoAttr K A.C_Fewest "starts"
  na_Fewest_tree : NoAttr K A.C_Fewest "tree"
  ty_Fewest : ∀ (H : Hp) (a dx : Addr) (fs : List (Str × V)), H a = some (.ins A.C_Fewest dx fs) → TyX K H (.ref a) (.ref A.C_Fewest)
  cl_Demand : Cls K A.C_Demand
  mk_Demand : Mk K A.C_Demand A.f_Demand_init
  na_Demand_hours : NoAttr K A.C_Demand "hours"
  na_Demand_needs : NoAttr K A.C_Demand "needs"
  na_Demand_sizes : NoAttr K A.C_Demand "sizes"
  na_Demand_meeting : NoAttr K A.C_Demand "meeting"
  na_Demand_counted : NoAttr K A.C_Demand "counted"
  P_Lot_members : PropOf K A.C_Lot "members" A.p_Lot_members A.f_Lot_members
  M_Lot_iter : Meth K A.C_Lot "__iter__" A.f_Lot_iter
  M_Lot_len : Meth K A.C_Lot "__len__" A.f_Lot_len
  M_Demand_lacks : Meth K A.C_Demand "lacks" A.f_Demand_lacks
  M_Demand_is_met : Meth K A.C_Demand "is_met" A.f_Demand_is_met
section
variable {P : Program} {w : World} {K : PySem.W.Frag} {mg : Str → Option Value} {base : Heap} {A : Ads}
theorem sc_BadNumber_init : FnScope N_BadNumber_init (["self", "name", "value"] : List Str) (defScope s_BadNumber_init) := ⟨rfl, rfl, rfl, by decide +kernel, rfl, by decide +kernel, by decide +kernel⟩
theorem ln0 {us : List Value} (h : us.length = 0) : us = [] := List.length_eq_zero_iff.mp h
theorem ln1 {us : List Value} (h : us.length = 1) : ∃ a0, us = [a0] := by
  cases us with
  | nil => cases h
  | cons a us =>
    obtain rfl := ln0 (us := us) (Nat.succ.inj h)
    exact ⟨a, rfl⟩
theorem ln2 {us : List Value} (h : us.length = 2) : ∃ a0 a1, us = [a0, a1] := by
  cases us with
  | nil => cases h
  | cons a us =>
    obtain ⟨a1, rfl⟩ := ln1 (us := us) (Nat.succ.inj h)
    exact ⟨a, a1, rfl⟩
theorem ln3 {us : List Value} (h : us.length = 3) : ∃ a0 a1 a2, us = [a0, a1, a2] := by
  cases us with
  | nil => cases h
  | cons a us =>
    obtain ⟨a1, a2, rfl⟩ := ln2 (us := us) (Nat.succ.inj h)
    exact ⟨a, a1, a2, rfl⟩
theorem b_BadNumber_init (T : Txt K mg A) : Binds K A.d_BadNumber_init (["self", "name", "value"] : List Str) [] := T.F_BadNumber_init.binds (ps := (["self", "name", "value"] : List Str)) fun _ _ _ _ _ _ us hl => by
  obtain ⟨_, _, _, rfl⟩ := ln3 (us := us) hl
  rfl
theorem sc_TooMany_init : FnScope N_TooMany_init (["self", "name", "most"] : List Str) (defScope s_TooMany_init) := ⟨rfl, rfl, rfl, by decide +kernel, rfl, by decide +kernel, by decide +kernel⟩
theorem b_TooMany_init (T : Txt K mg A) : Binds K A.d_TooMany_init (["self", "name", "most"] : List Str) [] := T.F_TooMany_init.binds (ps := (["self", "name", "most"] : List Str)) fun _ _ _ _ _ _ us hl => by
  obtain ⟨_, _, _, rfl⟩ := ln3 (us := us) hl
  rfl
theorem sc_RepeatedHour_init : FnScope N_RepeatedHour_init (["self", "hour"] : List Str) (defScope s_RepeatedHour_init) := ⟨rfl, rfl, rfl, by decide +kernel, rfl, by decide +kernel, by decide +kernel⟩
theorem b_RepeatedHour_init (T : Txt K mg A) : Binds K A.d_RepeatedHour_init (["self", "hour"] : List Str) [] := T.F_RepeatedHour_init.binds (ps := (["self", "hour"] : List Str)) fun _ _ _ _ _ _ us hl => by
  obtain ⟨_, _, rfl⟩ := ln2 (us := us) hl
  rfl
theorem sc_WrongLength_init : FnScope N_WrongLength_init (["self", "length"] : List Str) (defScope s_WrongLength_init) := ⟨rfl, rfl, rfl, by decide +kernel, rfl, by decide +kernel, by decide +kernel⟩
theorem b_WrongLength_init (T : Txt K mg A) : Binds K A.d_WrongLength_init (["self", "length"] : List Str) [] := T.F_WrongLength_init.binds (ps := (["self", "length"] : List Str)) fun _ _ _ _ _ _ us hl => by
  obtain ⟨_, _, rfl⟩ := ln2 (us := us) hl
  rfl
theorem sc_NotEnough_init : FnScope N_NotEnough_init (["self", "index"] : List Str) (defScope s_NotEnough_init) := ⟨rfl, rfl, rfl, by decide +kernel, rfl, by decide +kernel, by decide +kernel⟩
theorem b_NotEnough_init (T : Txt K mg A) : Binds K A.d_NotEnough_init (["self", "index"] : List Str) [] := T.F_NotEnough_init.binds (ps := (["self", "index"] : List Str)) fun _ _ _ _ _ _ us hl => by
  obtain ⟨_, _, rfl⟩ := ln2 (us := us) hl
  rfl
theorem sc_Lot_init : FnScope N_Lot_init (["self", "hours", "members"] : List Str) (defScope s_Lot_init) := ⟨rfl, rfl, rfl, by decide +kernel, rfl, by decide +kernel, by decide +kernel⟩
theorem b_Lot_init (T : Txt K mg A) : Binds K A.d_Lot_init (["self", "hours", "members"] : List Str) [] := T.F_Lot_init.binds (ps := (["self", "hours", "members"] : List Str)) fun _ _ _ _ _ _ us hl => by
  obtain ⟨_, _, _, rfl⟩ := ln3 (us := us) hl
  rfl
theorem sc_Lot_members : FnScope N_Lot_members (["self"] : List Str) (defScope s_Lot_members) := ⟨rfl, rfl, rfl, by decide +kernel, rfl, by decide +kernel, by decide +kernel⟩
theorem b_Lot_members (T : Txt K mg A) : Binds K A.d_Lot_members (["self"] : List Str) [] := T.F_Lot_members.binds (ps := (["self"] : List Str)) fun _ _ _ _ _ _ us hl => by
  obtain ⟨_, rfl⟩ := ln1 (us := us) hl
  rfl
theorem sc_Lot_iter : FnScope N_Lot_iter (["self"] : List Str) (defScope s_Lot_iter) := ⟨rfl, rfl, rfl, by decide +kernel, rfl, by decide +kernel, by decide +kernel⟩
theorem b_Lot_iter (T : Txt K mg A) : Binds K A.d_Lot_iter (["self"] : List Str) [] := T.F_Lot_iter.binds (ps := (["self"] : List Str)) fun _ _ _ _ _ _ us hl => by
  obtain ⟨_, rfl⟩ := ln1 (us := us) hl
  rfl
theorem sc_Lot_len : FnScope N_Lot_len (["self"] : List Str) (defScope s_Lot_len) := ⟨rfl, rfl, rfl, by decide +kernel, rfl, by decide +kernel, by decide +kernel⟩
theorem b_Lot_len (T : Txt K mg A) : Binds K A.d_Lot_len (["self"] : List Str) [] := T.F_Lot_len.binds (ps := (["self"] : List Str)) fun _ _ _ _ _ _ us hl => by
  obtain ⟨_, rfl⟩ := ln1 (us := us) hl
  rfl
theorem sc_u_check : FnScope N_u_check (["lots", "needs"] : List Str) (defScope s_u_check) := ⟨rfl, rfl, rfl, by decide +kernel, rfl, by decide +kernel, by decide +kernel⟩
theorem b_u_check (T : Txt K mg A) : Binds K A.d_u_check (["lots", "needs"] : List Str) [] := T.F_u_check.binds (ps := (["lots", "needs"] : List Str)) fun _ _ _ _ _ _ us hl => by
  obtain ⟨_, _, rfl⟩ := ln2 (us := us) hl
  rfl
theorem sc_bits_of : FnScope N_bits_of (["numbers"] : List Str) (defScope s_bits_of) := ⟨rfl, rfl, rfl, by decide +kernel, rfl, by decide +kernel, by decide +kernel⟩
theorem b_bits_of (T : Txt K mg A) : Binds K A.d_bits_of (["numbers"] : List Str) [] := T.F_bits_of.binds (ps := (["numbers"] : List Str)) fun _ _ _ _ _ _ us hl => by
  obtain ⟨_, rfl⟩ := ln1 (us := us) hl
  rfl
theorem sc_listed : FnScope N_listed (["bits"] : List Str) (defScope s_listed) := ⟨rfl, rfl, rfl, by decide +kernel, rfl, by decide +kernel, by decide +kernel⟩
theorem b_listed (T : Txt K mg A) : Binds K A.d_listed (["bits"] : List Str) [] := T.F_listed.binds (ps := (["bits"] : List Str)) fun _ _ _ _ _ _ us hl => by
  obtain ⟨_, rfl⟩ := ln1 (us := us) hl
  rfl
theorem sc_bit_counts : FnScope N_bit_counts (["width"] : List Str) (defScope s_bit_counts) := ⟨rfl, rfl, rfl, by decide +kernel, rfl, by decide +kernel, by decide +kernel⟩
theorem b_bit_counts (T : Txt K mg A) : Binds K A.d_bit_counts (["width"] : List Str) [] := T.F_bit_counts.binds (ps := (["width"] : List Str)) fun _ _ _ _ _ _ us hl => by
  obtain ⟨_, rfl⟩ := ln1 (us := us) hl
  rfl
theorem sc_Fewest_init : FnScope N_Fewest_init (["self", "starts", "tree"] : List Str) (defScope s_Fewest_init) := ⟨rfl, rfl, rfl, by decide +kernel, rfl, by decide +kernel, by decide +kernel⟩
theorem b_Fewest_init (T : Txt K mg A) : Binds K A.d_Fewest_init (["self", "starts", "tree"] : List Str) [] := T.F_Fewest_init.binds (ps := (["self", "starts", "tree"] : List Str)) fun _ _ _ _ _ _ us hl => by
  obtain ⟨_, _, _, rfl⟩ := ln3 (us := us) hl
  rfl
theorem sc_u_starts_meeting : FnScope N_u_starts_meeting (["lot", "hour"] : List Str) (defScope s_u_starts_meeting) := ⟨rfl, rfl, rfl, by decide +kernel, rfl, by decide +kernel, by decide +kernel⟩
theorem b_u_starts_meeting (T : Txt K mg A) : Binds K A.d_u_starts_meeting (["lot", "hour"] : List Str) [] := T.F_u_starts_meeting.binds (ps := (["lot", "hour"] : List Str)) fun _ _ _ _ _ _ us hl => by
  obtain ⟨_, _, rfl⟩ := ln2 (us := us) hl
  rfl
theorem sc_Demand_init : FnScope N_Demand_init (["self", "lots", "needs"] : List Str) (defScope s_Demand_init) := ⟨rfl, rfl, rfl, by decide +kernel, rfl, by decide +kernel, by decide +kernel⟩
theorem b_Demand_init (T : Txt K mg A) : Binds K A.d_Demand_init (["self", "lots", "needs"] : List Str) [] := T.F_Demand_init.binds (ps := (["self", "lots", "needs"] : List Str)) fun _ _ _ _ _ _ us hl => by
  obtain ⟨_, _, _, rfl⟩ := ln3 (us := us) hl
  rfl
theorem sc_Demand_lacks : FnScope N_Demand_lacks (["self", "taken", "gate"] : List Str) (defScope s_Demand_lacks) := ⟨rfl, rfl, rfl, by decide +kernel, rfl, by decide +kernel, by decide +kernel⟩
theorem b_Demand_lacks (T : Txt K mg A) : Binds K A.d_Demand_lacks (["self", "taken", "gate"] : List Str) [] := T.F_Demand_lacks.binds (ps := (["self", "taken", "gate"] : List Str)) fun _ _ _ _ _ _ us hl => by
  obtain ⟨_, _, _, rfl⟩ := ln3 (us := us) hl
  rfl
theorem sc_Demand_is_met : FnScope N_Demand_is_met (["self", "taken"] : List Str) (defScope s_Demand_is_met) := ⟨rfl, rfl, rfl, by decide +kernel, rfl, by decide +kernel, by decide +kernel⟩
theorem b_Demand_is_met (T : Txt K mg A) : Binds K A.d_Demand_is_met (["self", "taken"] : List Str) [] := T.F_Demand_is_met.binds (ps := (["self", "taken"] : List Str)) fun _ _ _ _ _ _ us hl => by
  obtain ⟨_, _, rfl⟩ := ln2 (us := us) hl
  rfl
theorem sc_u_least_met : FnScope N_u_least_met (["demand"] : List Str) (defScope s_u_least_met) := ⟨rfl, rfl, rfl, by decide +kernel, rfl, by decide +kernel, by decide +kernel⟩
theorem b_u_least_met (T : Txt K mg A) : Binds K A.d_u_least_met (["demand"] : List Str) [] := T.F_u_least_met.binds (ps := (["demand"] : List Str)) fun _ _ _ _ _ _ us hl => by
  obtain ⟨_, rfl⟩ := ln1 (us := us) hl
  rfl
theorem sc_u_split : FnScope N_u_split (["demand", "taken", "barred", "room", "place"] : List Str) (defScope s_u_split) := ⟨rfl, rfl, rfl, by decide +kernel, rfl, by decide +kernel, by decide +kernel⟩
theorem ln4 {us : List Value} (h : us.length = 4) : ∃ a0 a1 a2 a3, us = [a0, a1, a2, a3] := by
  cases us with
  | nil => cases h
  | cons a us =>
    obtain ⟨a1, a2, a3, rfl⟩ := ln3 (us := us) (Nat.succ.inj h)
    exact ⟨a, a1, a2, a3, rfl⟩
theorem ln5 {us : List Value} (h : us.length = 5) : ∃ a0 a1 a2 a3 a4, us = [a0, a1, a2, a3, a4] := by
  cases us with
  | nil => cases h
  | cons a us =>
    obtain ⟨a1, a2, a3, a4, rfl⟩ := ln4 (us := us) (Nat.succ.inj h)
    exact ⟨a, a1, a2, a3, a4, rfl⟩
theorem b_u_split (T : Txt K mg A) : Binds K A.d_u_split (["demand", "taken", "barred", "room", "place"] : List Str) [] := T.F_u_split.binds (ps := (["demand", "taken", "barred", "room", "place"] : List Str)) fun _ _ _ _ _ _ us hl => by
  obtain ⟨_, _, _, _, _, rfl⟩ := ln5 (us := us) hl
  rfl
theorem sc_u_tree : FnScope N_u_tree (["demand", "taken", "barred", "room"] : List Str) (defScope s_u_tree) := ⟨rfl, rfl, rfl, by decide +kernel, rfl, by decide +kernel, by decide +kernel⟩
theorem b_u_tree (T : Txt K mg A) : Binds K A.d_u_tree (["demand", "taken", "barred", "room"] : List Str) [] := T.F_u_tree.binds (ps := (["demand", "taken", "barred", "room"] : List Str)) fun _ _ _ _ _ _ us hl => by
  obtain ⟨_, _, _, _, rfl⟩ := ln4 (us := us) hl
  rfl
theorem sc_fewest_starts : FnScope N_fewest_starts (["lots", "needs"] : List Str) (defScope s_fewest_starts) := ⟨rfl, rfl, rfl, by decide +kernel, rfl, by decide +kernel, by decide +kernel⟩
theorem b_fewest_starts (T : Txt K mg A) : Binds K A.d_fewest_starts (["lots", "needs"] : List Str) [] := T.F_fewest_starts.binds (ps := (["lots", "needs"] : List Str)) fun _ _ _ _ _ _ us hl => by
  obtain ⟨_, _, rfl⟩ := ln2 (us := us) hl
  rfl
theorem sc_u_law_cell : FnScope N_u_law_cell (["script", "k"] : List Str) (defScope s_u_law_cell) := ⟨rfl, rfl, rfl, by decide +kernel, rfl, by decide +kernel, by decide +kernel⟩
theorem b_u_law_cell (T : Txt K mg A) : Binds K A.d_u_law_cell (["script", "k"] : List Str) [] := T.F_u_law_cell.binds (ps := (["script", "k"] : List Str)) fun _ _ _ _ _ _ us hl => by
  obtain ⟨_, _, rfl⟩ := ln2 (us := us) hl
  rfl
theorem sc_u_law_draws : FnScope N_u_law_draws (["cell", "salt", "menu"] : List Str) (defScope s_u_law_draws) := ⟨rfl, rfl, rfl, by decide +kernel, rfl, by decide +kernel, by decide +kernel⟩
theorem b_u_law_draws (T : Txt K mg A) : Binds K A.d_u_law_draws (["cell", "salt", "menu"] : List Str) [] := T.F_u_law_draws.binds (ps := (["cell", "salt", "menu"] : List Str)) fun _ _ _ _ _ _ us hl => by
  obtain ⟨_, _, _, rfl⟩ := ln3 (us := us) hl
  rfl
theorem sc_u_law_two : FnScope N_u_law_two (["n"] : List Str) (defScope s_u_law_two) := ⟨rfl, rfl, rfl, by decide +kernel, rfl, by decide +kernel, by decide +kernel⟩
theorem b_u_law_two (T : Txt K mg A) : Binds K A.d_u_law_two (["n"] : List Str) [] := T.F_u_law_two.binds (ps := (["n"] : List Str)) fun _ _ _ _ _ _ us hl => by
  obtain ⟨_, rfl⟩ := ln1 (us := us) hl
  rfl
theorem sc_u_law_bits : FnScope N_u_law_bits (["n", "number"] : List Str) (defScope s_u_law_bits) := ⟨rfl, rfl, rfl, by decide +kernel, rfl, by decide +kernel, by decide +kernel⟩
theorem b_u_law_bits (T : Txt K mg A) : Binds K A.d_u_law_bits (["n", "number"] : List Str) [] := T.F_u_law_bits.binds (ps := (["n", "number"] : List Str)) fun _ _ _ _ _ _ us hl => by
  obtain ⟨_, _, rfl⟩ := ln2 (us := us) hl
  rfl
theorem sc_u_law_is_int : FnScope N_u_law_is_int (["x"] : List Str) (defScope s_u_law_is_int) := ⟨rfl, rfl, rfl, by decide +kernel, rfl, by decide +kernel, by decide +kernel⟩
theorem b_u_law_is_int (T : Txt K mg A) : Binds K A.d_u_law_is_int (["x"] : List Str) [] := T.F_u_law_is_int.binds (ps := (["x"] : List Str)) fun _ _ _ _ _ _ us hl => by
  obtain ⟨_, rfl⟩ := ln1 (us := us) hl
  rfl
theorem sc_u_law_same : FnScope N_u_law_same (["got", "due"] : List Str) (defScope s_u_law_same) := ⟨rfl, rfl, rfl, by decide +kernel, rfl, by decide +kernel, by decide +kernel⟩
theorem b_u_law_same (T : Txt K mg A) : Binds K A.d_u_law_same (["got", "due"] : List Str) [] := T.F_u_law_same.binds (ps := (["got", "due"] : List Str)) fun _ _ _ _ _ _ us hl => by
  obtain ⟨_, _, rfl⟩ := ln2 (us := us) hl
  rfl
theorem sc_u_law_gate : FnScope N_u_law_gate (["n", "draws", "size"] : List Str) (defScope s_u_law_gate) := ⟨rfl, rfl, rfl, by decide +kernel, rfl, by decide +kernel, by decide +kernel⟩
theorem b_u_law_gate (T : Txt K mg A) : Binds K A.d_u_law_gate (["n", "draws", "size"] : List Str) [] := T.F_u_law_gate.binds (ps := (["n", "draws", "size"] : List Str)) fun _ _ _ _ _ _ us hl => by
  obtain ⟨_, _, _, rfl⟩ := ln3 (us := us) hl
  rfl
theorem sc_u_law_lack : FnScope N_u_law_lack (["n", "side", "need", "taken", "h"] : List Str) (defScope s_u_law_lack) := ⟨rfl, rfl, rfl, by decide +kernel, rfl, by decide +kernel, by decide +kernel⟩
theorem b_u_law_lack (T : Txt K mg A) : Binds K A.d_u_law_lack (["n", "side", "need", "taken", "h"] : List Str) [] := T.F_u_law_lack.binds (ps := (["n", "side", "need", "taken", "h"] : List Str)) fun _ _ _ _ _ _ us hl => by
  obtain ⟨_, _, _, _, _, rfl⟩ := ln5 (us := us) hl
  rfl
theorem sc_u_law_free : FnScope N_u_law_free (["n", "side", "taken", "barred", "h"] : List Str) (defScope s_u_law_free) := ⟨rfl, rfl, rfl, by decide +kernel, rfl, by decide +kernel, by decide +kernel⟩
theorem b_u_law_free (T : Txt K mg A) : Binds K A.d_u_law_free (["n", "side", "taken", "barred", "h"] : List Str) [] := T.F_u_law_free.binds (ps := (["n", "side", "taken", "barred", "h"] : List Str)) fun _ _ _ _ _ _ us hl => by
  obtain ⟨_, _, _, _, _, rfl⟩ := ln5 (us := us) hl
  rfl
theorem sc_u_law_below : FnScope N_u_law_below (["n", "sides", "needs", "case"] : List Str) (defScope s_u_law_below) := ⟨rfl, rfl, rfl, by decide +kernel, rfl, by decide +kernel, by decide +kernel⟩
theorem b_u_law_below (T : Txt K mg A) : Binds K A.d_u_law_below (["n", "sides", "needs", "case"] : List Str) [] := T.F_u_law_below.binds (ps := (["n", "sides", "needs", "case"] : List Str)) fun _ _ _ _ _ _ us hl => by
  obtain ⟨_, _, _, _, rfl⟩ := ln4 (us := us) hl
  rfl
theorem sc_u_law_shows : FnScope N_u_law_shows (["n", "sides", "needs", "tree", "room"] : List Str) (defScope s_u_law_shows) := ⟨rfl, rfl, rfl, by decide +kernel, rfl, by decide +kernel, by decide +kernel⟩
theorem b_u_law_shows (T : Txt K mg A) : Binds K A.d_u_law_shows (["n", "sides", "needs", "tree", "room"] : List Str) [] := T.F_u_law_shows.binds (ps := (["n", "sides", "needs", "tree", "room"] : List Str)) fun _ _ _ _ _ _ us hl => by
  obtain ⟨_, _, _, _, _, rfl⟩ := ln5 (us := us) hl
  rfl
theorem sc_u_law_meets_all : FnScope N_u_law_meets_all (["n", "sides", "needs", "starts"] : List Str) (defScope s_u_law_meets_all) := ⟨rfl, rfl, rfl, by decide +kernel, rfl, by decide +kernel, by decide +kernel⟩
theorem b_u_law_meets_all (T : Txt K mg A) : Binds K A.d_u_law_meets_all (["n", "sides", "needs", "starts"] : List Str) [] := T.F_u_law_meets_all.binds (ps := (["n", "sides", "needs", "starts"] : List Str)) fun _ _ _ _ _ _ us hl => by
  obtain ⟨_, _, _, _, rfl⟩ := ln4 (us := us) hl
  rfl
theorem sc_law : FnScope N_law (["script"] : List Str) (defScope s_law) := ⟨rfl, rfl, rfl, by decide +kernel, rfl, by decide +kernel, by decide +kernel⟩
theorem b_law (T : Txt K mg A) : Binds K A.d_law (["script"] : List Str) [] := T.F_law.binds (ps := (["script"] : List Str)) fun _ _ _ _ _ _ us hl => by
  obtain ⟨_, rfl⟩ := ln1 (us := us) hl
  rfl
theorem ok_BadNumber_init (T : Txt K mg A) : FnOk P w K mg base CX0 1 A.f_BadNumber_init A.d_BadNumber_init (["self", "name", "value"] : List Str) (spErr2 K A.C_BadNumber "name" "value") := by
  refine T.F_BadNumber_init.ok sc_BadNumber_init (fun vs H Q E h => ?_) (fun cdv Ar outer s H vs Q E hr h => ?_)
  · obtain ⟨a, x, y, rfl, _⟩ := h
    rfl
  · obtain ⟨a, x, y, rfl, hC, ha, k⟩ := h
    refine ⟨_, (pss_cons (ps_ost (pv 0) (pv 1))
        (pss_one (ps_ost (pv 0) (pv 2)))), ?_⟩
    refine ⟨_, rfl, _, rfl, a, _, rfl, hC, T.nf_BadNumber_name, .inl ⟨ha, fun d hd hne => ?_⟩⟩
    refine ⟨_, rfl, _, rfl, a, _, rfl, hC, T.nf_BadNumber_value, .inr ⟨d, _, upd_same, ?_, by show (1 : Nat) ≤ 900; decide, k d hd hne⟩⟩
    rw [upd_ne hne, upd_same]
theorem ok_TooMany_init (T : Txt K mg A) : FnOk P w K mg base CX0 1 A.f_TooMany_init A.d_TooMany_init (["self", "name", "most"] : List Str) (spErr2 K A.C_TooMany "name" "most") := by
  refine T.F_TooMany_init.ok sc_TooMany_init (fun vs H Q E h => ?_) (fun cdv Ar outer s H vs Q E hr h => ?_)
  · obtain ⟨a, x, y, rfl, _⟩ := h
    rfl
  · obtain ⟨a, x, y, rfl, hC, ha, k⟩ := h
    refine ⟨_, (pss_cons (ps_ost (pv 0) (pv 1))
        (pss_one (ps_ost (pv 0) (pv 2)))), ?_⟩
    refine ⟨_, rfl, _, rfl, a, _, rfl, hC, T.nf_TooMany_name, .inl ⟨ha, fun d hd hne => ?_⟩⟩
    refine ⟨_, rfl, _, rfl, a, _, rfl, hC, T.nf_TooMany_most, .inr ⟨d, _, upd_same, ?_, by show (1 : Nat) ≤ 900; decide, k d hd hne⟩⟩
    rw [upd_ne hne, upd_same]
theorem ok_RepeatedHour_init (T : Txt K mg A) : FnOk P w K mg base CX0 1 A.f_RepeatedHour_init A.d_RepeatedHour_init (["self", "hour"] : List Str) (spErr1 K A.C_RepeatedHour "hour") := by
  refine T.F_RepeatedHour_init.ok sc_RepeatedHour_init (fun vs H Q E h => ?_) (fun cdv Ar outer s H vs Q E hr h => ?_)
  · obtain ⟨a, x, rfl, _⟩ := h
    rfl
  · obtain ⟨a, x, rfl, hC, ha, k⟩ := h
    refine ⟨_, (pss_one (ps_ost (pv 0) (pv 1))), ?_⟩
    exact ⟨_, rfl, _, rfl, a, _, rfl, hC, T.nf_RepeatedHour_hour, .inl ⟨ha, fun d hd hne => k d hd hne⟩⟩
theorem ok_WrongLength_init (T : Txt K mg A) : FnOk P w K mg base CX0 1 A.f_WrongLength_init A.d_WrongLength_init (["self", "length"] : List Str) (spErr1 K A.C_WrongLength "length") := by
  refine T.F_WrongLength_init.ok sc_WrongLength_init (fun vs H Q E h => ?_) (fun cdv Ar outer s H vs Q E hr h => ?_)
  · obtain ⟨a, x, rfl, _⟩ := h
    rfl
  · obtain ⟨a, x, rfl, hC, ha, k⟩ := h
    refine ⟨_, (pss_one (ps_ost (pv 0) (pv 1))), ?_⟩
    exact ⟨_, rfl, _, rfl, a, _, rfl, hC, T.nf_WrongLength_length, .inl ⟨ha, fun d hd hne => k d hd hne⟩⟩
theorem ok_NotEnough_init (T : Txt K mg A) : FnOk P w K mg base CX0 1 A.f_NotEnough_init A.d_NotEnough_init (["self", "index"] : List Str) (spErr1 K A.C_NotEnough "index") := by
  refine T.F_NotEnough_init.ok sc_NotEnough_init (fun vs H Q E h => ?_) (fun cdv Ar outer s H vs Q E hr h => ?_)
  · obtain ⟨a, x, rfl, _⟩ := h
    rfl
  · obtain ⟨a, x, rfl, hC, ha, k⟩ := h
    refine ⟨_, (pss_one (ps_ost (pv 0) (pv 1))), ?_⟩
    exact ⟨_, rfl, _, rfl, a, _, rfl, hC, T.nf_NotEnough_index, .inl ⟨ha, fun d hd hne => k d hd hne⟩⟩

def spLotInit (K : PySem.W.Frag) (A : Ads) : Sp := fun vs H Q E => ∃ (x dx a : Addr) (n : Int) (ms : List Int), vs = [.ref x, .int n, .ref a] ∧ H x = some (.ins A.C_Lot dx []) ∧ SqL K H a (ms.map V.int) ∧
  (¬ (1 ≤ n ∧ n ≤ 360) → ∀ d H', Ex H H' → H' d = some (.xd [("value", .int n), ("name", .str "hours")]) → E (.ref A.C_BadNumber) (some d) H') ∧
  (1 ≤ n ∧ n ≤ 360 → ∀ r, scanR n [] ms = some r → ∀ d H', Ex H H' → H' d = some (.xd [("hour", .int r)]) → E (.ref A.C_RepeatedHour) (some d) H') ∧
  (1 ≤ n ∧ n ≤ 360 → scanR n [] ms = none → ∀ l H', (∀ b o, b ≠ x → H b = some o → H' b = some o) → H l = none → H' x = some (.ins A.C_Lot dx (lotF n l)) → H' l = some (.lst ((resid n (ms.map (· % n))).map V.int)) → Q .non H')
theorem ok_Lot_init (T : Txt K mg A) : FnOk P w K mg base (L2.CX P w) 4 A.f_Lot_init A.d_Lot_init (["self", "hours", "members"] : List Str) (spLotInit K A) := by
  refine T.F_Lot_init.okX sc_Lot_init (fun vs H Q E h => ?_) (fun cdv Ar outer s H vs Q E hr h => ?_)
  · obtain ⟨x, dx, a, n, ms, rfl, _⟩ := h
    rfl
  · obtain ⟨x, dx, a, n, ms, rfl, hx, hS, k1, k2, k3⟩ := h
    refine ⟨_, (pss_cons (ps_if (PW.pt (pw_or (pt_cmpR op_lt (pv 1) pe_int (nomark _)) (pw_or1 (pt_cmpR op_gt (pv 1) (ClX.pe_cval (pe_glob (v := .ref A.C_Lot) rfl T.g_Lot rfl)) (nomark _))))) (pss_one (ps_raise rfl (takes_of rfl rfl rfl rfl) (pmk_oex T.ox_BadNumber T.ni_BadNumber T.ti_BadNumber (ok_BadNumber_init T) (hr.mono (by omega)) (b_BadNumber_init T) .nil pass0 rfl T.g_BadNumber (pa_cons pe_str (pa_cons (pv 1) pa_nil))))) pss_nil)
        (pss_cons (ps_set (i := 3) sc_Lot_init.nd rfl (Or.inr rfl) (pe_op op_rep (pe_lst (pa_cons pe_bl pa_nil)) (pv 1)))
        (pss_cons (ps_for (passes_of rfl) rfl (pi_listK (pv 2)) (pg_name (i := 4) sc_Lot_init.nd rfl (Or.inl rfl)) (pss_cons (ps_if (pt_val (pe_ix ix_lK (pv 3) (pe_op op_mod (pv 4) (pv 1)) (fun _ _ => rfl))) (pss_one (ps_raise rfl (takes_of rfl rfl rfl rfl) (pmk_oex T.ox_RepeatedHour T.ni_RepeatedHour T.ti_RepeatedHour (ok_RepeatedHour_init T) (hr.mono (by omega)) (b_RepeatedHour_init T) .nil pass0 rfl T.g_RepeatedHour (pa_cons (pe_op op_mod (pv 4) (pv 1)) pa_nil)))) pss_nil)
        (pss_one (ps_asg pe_bl (pg_sub (pv 3) (pe_op op_mod (pv 4) (pv 1)) set_list)))))
        (pss_cons (ps_fld (pv 0) (pv 1) rfl)
        (pss_one (ps_fld (pv 0) (pe_lc (own := [("hour", 5)]) (g := gName 5) rfl sc_Lot_init.nd (pi_range1 rfl T.z_range (pa_cons (pv 1) pa_nil)) (blkOk_by (own := [("hour", 5)]) (N := N_Lot_init) (sc := defScope s_Lot_init) (by decide +kernel)) (fun _ _ _ _ _ => (pg_name (i := 5) sc_Lot_init.nd rfl (Or.inl rfl))) (fun _ _ _ _ _ => (pts_one (pt_val (pe_ix ix_lK (pv 3) (pv 5) (fun _ _ => rfl))))) (fun _ _ _ _ _ => (pv 5))) rfl)))))), ?_⟩
    obtain ⟨mc, rdL, tL, cvL⟩ := T.rd_Lot
    refine ⟨_, rfl, n, 1, rfl, rfl, _, rfl, ?_⟩
    by_cases hn : 1 ≤ n ∧ n ≤ 360
    case neg =>
      have fin := raise2 (C := A.C_BadNumber) (f := "name") (g := "value") (σ := L2.start N_Lot_init [V.ref x, V.int n, V.ref a]) (ta := tCons (tC (.str "hours")) (tCons (tVar 1) tNil)) (x := .str "hours") (y := .int n) T.ox_BadNumber (fun Q q => ⟨_, rfl, q⟩) (k1 hn)
      by_cases c1 : n < 1
      · exact wayT c1 (iteT fin)
      · exact wayF c1 ⟨_, rfl, A.C_Lot, mc, _, _, rfl, rdL, cvL, n, 360, rfl, rfl, _, rfl, wayT (show 360 < n by omega) fin⟩
    refine wayF (by omega) ⟨_, rfl, A.C_Lot, mc, _, _, rfl, rdL, cvL, n, 360, rfl, rfl, _, rfl, wayF (by omega) ?_⟩
    refine ⟨by show 1 ≤ sizeLine; decide, fun q hq => ⟨_, rfl, q, n, _, rfl, rfl, upd_same, by omega, by omega, ?_, fun tk htk => ?_⟩⟩
    · show 1 * n.toNat ≤ sizeLine
      exact Nat.le_trans (show 1 * n.toNat ≤ 360 by omega) (by decide)
    have htk0 : H tk = none := fresh_back (Ex.new hq) htk
    have ex0 : ∀ o, Ex H (upd (upd H q (.lst [.bl false])) tk o) := fun o => (Ex.new hq).trans (Ex.new htk)
    rw [flags_nil]
    dsimp only
    refine q_forLn (K := K) (a := a) (xs := ms.map V.int) (ev_var rfl) (ex_l (ex0 _) hS)
      (fun i σ' H' => ∃ mv : Option V, σ' = [some (.ref x), some (.int n), some (.ref a), some (.ref tk), mv, none] ∧ Ex H H' ∧ H' tk = some (.lst (flags n.toNat ((ms.take i).map (· % n)))) ∧
        scanR n [] ms = scanR n ((ms.take i).map (· % n)) (ms.drop i))
      (fun H2 e2 => ⟨none, rfl, (ex0 _).trans e2, e2 _ _ upd_same, rfl⟩) (fun i σ' H' _ ⟨_, _, e, _⟩ => ex_l e hS) ?_ ?_
    · rintro i y σ' H' hi ⟨mv, rfl, ex, ht, hsc⟩
      obtain ⟨m, rfl, hm⟩ := some_int hi
      have m0 : 0 ≤ m % n := Int.emod_nonneg _ (by omega)
      have m1 : m % n < n := Int.emod_lt_of_pos _ (by omega)
      obtain ⟨j, hj⟩ : ∃ j : Nat, m % n = (j : Int) := ⟨(m % n).toNat, by omega⟩
      have hjn : j < n.toNat := by omega
      have hil : i < ms.length := (List.getElem?_eq_some_iff.mp hm).1
      have hd : ms.drop i = m :: ms.drop (i + 1) := by
        rw [List.drop_eq_getElem_cons hil]
        rw [List.getElem?_eq_getElem hil] at hm
        rw [Option.some.inj hm]
      have htake : (ms.take (i + 1)).map (· % n) = (ms.take i).map (· % n) ++ [(j : Int)] := by
        rw [List.take_succ, hm, List.map_append]
        show _ ++ [m % n] = _
        rw [hj]
      have hat : ∀ S : List Int, atI (flags n.toNat S) (m % n) = some (.bl (decide ((j : Int) ∈ S))) := fun S => by
        rw [hj]
        exact atI_nat (flags_get hjn)
      refine ⟨_, rfl, _, rfl, _, rfl, _, _, rfl, rfl, (by show (0 : Int) < n; omega), tk, _, _, _, rfl, rfl, SqL.of ht, hat _, _, rfl, ?_⟩
      rw [hd] at hsc
      refine way (fun hc => ?_) (fun hc => ?_)
      · refine raise1 (C := A.C_RepeatedHour) (f := "hour") (x := .int (m % n)) T.ox_RepeatedHour (fun Q q => ⟨_, rfl, _, rfl, _, _, rfl, rfl, (by show (0 : Int) < n; omega), q⟩) (fun d H2 e2 h2 => k2 hn (m % n) ?_ d H2 (ex.trans e2) h2)
        rw [hsc]
        unfold scanR
        rw [if_pos (by rw [hj]; exact hc)]
      · refine ⟨_, rfl, _, rfl, _, rfl, _, _, rfl, rfl, (by show (0 : Int) < n; omega), tk, _, _, j, rfl, rfl, ht, ?_, ?_⟩
        · show ixN (flags n.toNat _).length (m % n) = some j
          rw [hj]
          exact ixN_nat (by rw [flags_len]; exact hjn)
        · refine ⟨_, rfl, Ex.mut ex htk0, ?_, ?_⟩
          · rw [upd_same, flags_set hjn, htake]
          · rw [hsc, htake]
            conv => lhs; unfold scanR
            rw [if_neg (by rw [hj]; exact hc), hj]
    · rintro σ' H' ⟨mv, rfl, ex, ht, hsc⟩
      rw [List.length_map, List.take_length] at ht hsc
      rw [List.drop_length] at hsc
      have hx' := ex _ _ hx
      refine ⟨_, rfl, _, rfl, x, _, dx, [], rfl, hx', T.cl_Lot, T.na_Lot_hours, by decide, ?_⟩
      have xtk : tk ≠ x := fun e => by rw [e, hx] at htk0; cases htk0
      have ev : EvL _ [some (V.ref x), some (V.int n), some (V.ref a), some (V.ref tk), mv, none] (upd H' x (.ins A.C_Lot dx (putF "hours" (.int n) []))) (given n.toNat (fun h => decide ((h : Int) ∈ ms.map (· % n))) fun h => .int (h : Int)) :=
        el_rng1 (tt := tB (tOp (rIxL K) (tVar 3) (tVar 5))) (te := tVar 5) (ta := tCons (tVar 1) tNil) (j := 5) (vs := [5]) _ _ (ea_cons (ev_var rfl) ea_nil) (by omega) (fun x => rfl)
          (fun i H1 e1 hi => et_B (ev_op (ev_var rfl) (ev_var rfl) (rv_ixL (sq_of (e1 _ _ (by rw [upd_ne xtk]; exact ht))) (atI_nat (flags_get (by omega))))))
          (fun i H1 _ hi _ => ev_var rfl)
      dsimp only [sFld]
      refine ev _ (Ex.refl _) _ fun l H4 hl e4 h4 => ?_
      have hl0 : H' l = none := by
        by_cases e : l = x
        · rw [e, upd_same] at hl; cases hl
        · rw [upd_ne e] at hl; exact hl
      refine ⟨_, rfl, x, _, dx, _, rfl, e4 _ _ upd_same, T.cl_Lot, T.na_Lot_members, (by show 1 < 1000; decide), ?_⟩
      have lx : l ≠ x := fun e => by rw [e, upd_same] at hl; cases hl
      refine k3 hn (by rw [hsc]; rfl) l _ (fun b o hb ho => ?_) (fresh_back ex hl0) ?_ ?_
      · rw [upd_ne hb]
        exact e4 _ _ (by rw [upd_ne hb]; exact ex _ _ ho)
      · rw [upd_same, putF2]
        rfl
      · rw [upd_ne lx, h4, given_pick]
        rfl
/-- a lot is made: what spLotInit asks is answered by what is wished of the lot and of the errors -/
theorem mk_lot {K : PySem.W.Frag} {A : Ads} {H : Hp} {Q : VK} {E : XK} {l : Addr} {n : Int} {ms : List Int} (hS : SqL K H l (ms.map V.int))
    (k1 : ¬ (1 ≤ n ∧ n ≤ 360) → ∀ d H', Ex H H' → H' d = some (.xd [("value", .int n), ("name", .str "hours")]) → E (.ref A.C_BadNumber) (some d) H')
    (k2 : 1 ≤ n ∧ n ≤ 360 → ∀ r, scanR n [] ms = some r → ∀ d H', Ex H H' → H' d = some (.xd [("hour", .int r)]) → E (.ref A.C_RepeatedHour) (some d) H')
    (k3 : 1 ≤ n ∧ n ≤ 360 → scanR n [] ms = none → ∀ a dx m H', H a = none → H m = none → Ex H H' → H' a = some (.ins A.C_Lot dx (lotF n m)) → H' m = some (.lst ((resid n (ms.map (· % n))).map V.int)) → Q (.ref a) H') :
    ∀ x dx, H x = none → H dx = none → dx ≠ x → spLotInit K A (.ref x :: ([.int n, .ref l] ++ [])) (upd (upd H dx (.own x)) x (.ins A.C_Lot dx [])) (fun v H2 => v = .non ∧ Q (.ref x) H2) E := by
  intro x dx hx hdx hne
  have e0 : Ex H (upd (upd H dx (.own x)) x (.ins A.C_Lot dx [])) := fun b o hb => by rw [upd_ne (ne_of_none hb hx), upd_ne (ne_of_none hb hdx)]; exact hb
  refine ⟨x, dx, l, n, ms, rfl, upd_same, ex_l e0 hS, fun hn d H' e hd => k1 hn d H' (e0.trans e) hd, fun hn r hr d H' e hd => k2 hn r hr d H' (e0.trans e) hd, fun hn hs m H' hk hm h1 h2 => ⟨rfl, k3 hn hs x dx m H' hx (fresh_back e0 hm) (fun b o hb => ?_) h1 h2⟩⟩
  exact hk b o (ne_of_none hb hx) (e0 b o hb)
/-- .. what is wished told of the address -/
theorem mk_lotP {K : PySem.W.Frag} {A : Ads} {H : Hp} {P : Addr → Hp → Prop} {E : XK} {l : Addr} {n : Int} {ms : List Int} (hS : SqL K H l (ms.map V.int)) (hn : 1 ≤ n ∧ n ≤ 360) (hs : scanR n [] ms = none)
    (k : ∀ a dx m H', H a = none → H m = none → Ex H H' → H' a = some (.ins A.C_Lot dx (lotF n m)) → H' m = some (.lst ((resid n (ms.map (· % n))).map V.int)) → P a H') :
    ∀ x dx, H x = none → H dx = none → dx ≠ x → spLotInit K A (.ref x :: ([.int n, .ref l] ++ [])) (upd (upd H dx (.own x)) x (.ins A.C_Lot dx [])) (fun v H2 => v = .non ∧ P x H2) E := by
  intro x dx hx hdx hne
  have h := mk_lot (K := K) (A := A) (H := H) (Q := fun v H2 => ∃ y, v = .ref y ∧ P y H2) (E := E) (l := l) (n := n) (ms := ms) hS (fun z => absurd hn z) (fun _ r hr => by rw [hs] at hr; cases hr) (fun _ _ a dx m H' ha hm e g1 g2 => ⟨a, rfl, k a dx m H' ha hm e g1 g2⟩) x dx hx hdx hne
  obtain ⟨x1, dx1, a1, n1, ms1, e1, h1, h2, h3, h4, h5⟩ := h
  refine ⟨x1, dx1, a1, n1, ms1, e1, h1, h2, h3, h4, fun z1 z2 l H' a b c d => ?_⟩
  obtain ⟨r1, y, r2, r3⟩ := h5 z1 z2 l H' a b c d
  cases r2
  exact ⟨r1, r3⟩
def spLotMembers (A : Ads) : Sp := fun vs H Q _ => ∃ (a dx l : Addr) (n : Int) (ms : List Int), vs = [.ref a] ∧ H a = some (.ins A.C_Lot dx (lotF n l)) ∧ H l = some (.lst (ms.map V.int)) ∧
  ∀ p H', H p = none → Ex H H' → H' p = some (.lst (ms.map V.int)) → Q (.ref p) H' 
theorem ok_Lot_members (T : Txt K mg A) : FnOk P w K mg base CX0 1 A.f_Lot_members A.d_Lot_members (["self"] : List Str) (spLotMembers A) := by
  refine T.F_Lot_members.ok sc_Lot_members (fun vs H Q E h => ?_) (fun cdv Ar outer s H vs Q E hr h => ?_)
  · obtain ⟨a, dx, l, n, ms, rfl, _⟩ := h
    rfl
  · obtain ⟨a, dx, l, n, ms, rfl, h1, h2, k⟩ := h
    refine ⟨_, (pss_one (ps_ret (pe_callTy list_K (by rfl) T.z_list (by decide +kernel) (pa_cons (pe_fldK (pv 0) rfl) pa_nil)))), ?_⟩
    exact ⟨_, rfl, a, _, dx, _, _, rfl, h1, T.cl_Lot, T.na_Lot_members, rfl, l, _, rfl, .inl (SqL.of h2), fun p hp => k p _ hp (Ex.new hp) upd_same⟩
theorem ok_Lot_iter (T : Txt K mg A) : FnS P w K mg base 1 A.f_Lot_iter A.d_Lot_iter (["self"] : List Str) (spIt K A.C_Lot "_members") := by
  refine fnS_mk T.F_Lot_iter sc_Lot_iter (fun n vs H Q E h => ?_) (fun cdv Ar outer s H vs Q E hr h => ?_)
  · obtain ⟨a, dx, l, fs, xs, rfl, _⟩ := h
    rfl
  · obtain ⟨a, dx, l, fs, xs, rfl, ea, el, hq, k⟩ := h
    refine ⟨_, (pss_one (ps_ret (pe_callB ItX.call_iterN (by rfl) T.z_iter (by decide +kernel) (pa_cons (pe_fld (pv 0) rfl) pa_nil)))), ?_⟩
    exact ⟨_, rfl, a, _, dx, fs, _, rfl, ea, T.cl_Lot, T.na_Lot_members, el, l, xs, rfl, hq, k⟩

/-- a lot is made of numbers with different residues -/
theorem mk_lotS {K : PySem.W.Frag} {A : Ads} {H : Hp} {Q : VK} {E : XK} {l : Addr} {n : Int} {ms : List Int} {p : Int → Bool} (hS : SqL K H l (ms.map V.int)) (hn : 1 ≤ n ∧ n ≤ 360) (hd : (ms.map (· % n)).Nodup)
    (hp : ∀ z, 0 ≤ z → z < n → (z ∈ ms.map (· % n) ↔ p z = true)) (k : ∀ v H', Ex H H' → NewP (fun G => LotIs A.C_Lot v G n (hrs n p)) H H' → Q v H') :
    ∀ x dx, H x = none → H dx = none → dx ≠ x → spLotInit K A (.ref x :: ([.int n, .ref l] ++ [])) (upd (upd H dx (.own x)) x (.ins A.C_Lot dx [])) (fun v H2 => v = .non ∧ Q (.ref x) H2) E := by
  have h := mk_lotP (A := A) (H := H) (P := fun a H2 => Q (.ref a) H2) (E := E) hS hn (scan_nodup hd fun x _ z => by cases z) fun a dx m H' ha hm e g1 g2 => k (.ref a) H' e fun G g => ⟨⟨a, dx, m, rfl, g _ _ ha g1, by rw [g _ _ hm g2, resid_hrs hp]⟩, hn, asc_hrs (by omega)⟩
  exact h
theorem en_mkLot {K : PySem.W.Frag} {A : Ads} {E : XK} {σ : L2.St} {H : Hp} {tn tl : TE} {n : Int} {ms : List Int} {p : Int → Bool} (hs : Ev tn σ H (.int n)) (hl : EvR tl σ H fun v H1 => ∃ p, v = .ref p ∧ SqL K H1 p (ms.map V.int)) (hn : 1 ≤ n ∧ n ≤ 360) (hd : (ms.map (· % n)).Nodup)
    (hp : ∀ z, 0 ≤ z → z < n → (z ∈ ms.map (· % n) ↔ p z = true)) : EvNew (tMake A.C_Lot (spLotInit K A) [] E (tCons tn (tCons tl tNil))) σ H fun v H1 => LotIs A.C_Lot v H1 n (hrs n p) := fun H1 e Q q =>
  hs H1 e _ fun H2 e2 => hl H2 (e.trans e2) _ fun v H3 e3 hv => by
    obtain ⟨l, rfl, hS⟩ := hv
    exact mk_lotS hS hn hd hp fun w H' e' hw => q w H' ((e2.trans e3).trans e') (hw.out (e2.trans e3) (Ex.refl _))
/-- .. of ascending hours -/
theorem en_mkAsc {K : PySem.W.Frag} {A : Ads} {E : XK} {σ : L2.St} {H : Hp} {tn tl : TE} {n : Int} {xs : List Int} (hs : Ev tn σ H (.int n)) (hl : EvR tl σ H fun v H1 => ∃ p, v = .ref p ∧ SqL K H1 p (xs.map V.int)) (hn : 1 ≤ n ∧ n ≤ 360) (hA : Asc 0 n xs) :
    EvNew (tMake A.C_Lot (spLotInit K A) [] E (tCons tn (tCons tl tNil))) σ H fun v H1 => LotIs A.C_Lot v H1 n xs := by
  have h := en_mkLot (K := K) (A := A) (E := E) (p := fun z => decide (z ∈ xs)) hs hl hn (by rw [asc_mod hA]; exact hA.nodup) (fun z z0 z1 => by rw [mem_self hA]; simp)
  rw [hrs_eq (by omega) hA fun z _ _ => by simp] at h
  exact h
theorem er_mkAsc {K : PySem.W.Frag} {A : Ads} {E : XK} {σ : L2.St} {H : Hp} {tn tl : TE} {n : Int} {xs : List Int} (hs : Ev tn σ H (.int n)) (hl : EvR tl σ H fun v H1 => ∃ p, v = .ref p ∧ SqL K H1 p (xs.map V.int)) (hn : 1 ≤ n ∧ n ≤ 360) (hA : Asc 0 n xs) :
    EvR (tMake A.C_Lot (spLotInit K A) [] E (tCons tn (tCons tl tNil))) σ H fun v H1 => LotIs A.C_Lot v H1 n xs := (en_mkAsc hs hl hn hA).er
theorem er_listK {K : PySem.W.Frag} {σ : L2.St} {H : Hp} {te : TE} {xs : List V} (h : EvR te σ H fun v H1 => ∃ p, v = .ref p ∧ SqL K H1 p xs) : EvR (tCB (rListK K) (tCons te tNil)) σ H fun v H1 => ∃ p, v = .ref p ∧ SqL K H1 p xs := fun H1 e Q q =>
  h H1 e _ fun v H2 e2 hv => by
    obtain ⟨p, rfl, hp⟩ := hv
    exact ⟨p, xs, rfl, .inl hp, fun l hl => q _ _ (e2.trans (Ex.new hl)) ⟨l, rfl, SqL.of upd_same⟩⟩
theorem er_list {K : PySem.W.Frag} {σ : L2.St} {H : Hp} {te : TE} {xs : List V} (h : EvL te σ H xs) : EvR te σ H fun v H1 => ∃ p, v = .ref p ∧ SqL K H1 p xs := fun H1 e Q q => h H1 e Q fun p H2 _ e2 h2 => q _ H2 e2 ⟨p, rfl, sq_of h2⟩
theorem er_held {K : PySem.W.Frag} {σ : L2.St} {H : Hp} {i : Nat} {p : Addr} {xs : List V} (h : σ[i]? = some (some (.ref p))) (hp : SqL K H p xs) : EvR (tVar i) σ H fun v H1 => ∃ p, v = .ref p ∧ SqL K H1 p xs := er_ev (ev_var h) fun H1 e => ⟨p, rfl, ex_l e hp⟩
/-- what an operator of a lot promises -/
def spLot1 (A : Ads) (g : Int → List Int → List Int) : Sp := fun vs H Q _ => ∃ (v : V) (n : Int) (xs : List Int), vs = [v] ∧ LotIs A.C_Lot v H n xs ∧ ∀ w H', Ex H H' → NewP (fun G => LotIs A.C_Lot w G n (g n xs)) H H' → Q w H'
def spLotI (A : Ads) (g : Int → Int → List Int → List Int) : Sp := fun vs H Q _ => ∃ (v : V) (n k : Int) (xs : List Int), vs = [v, .int k] ∧ LotIs A.C_Lot v H n xs ∧ ∀ w H', Ex H H' → NewP (fun G => LotIs A.C_Lot w G n (g n k xs)) H H' → Q w H'
def spLot2 (A : Ads) (g : Int → List Int → List Int → List Int) : Sp := fun vs H Q E => ∃ (v w : V) (n m : Int) (xs ys : List Int), vs = [v, w] ∧ LotIs A.C_Lot v H n xs ∧ LotIs A.C_Lot w H m ys ∧
  (n ≠ m → ∀ H', Ex H H' → E (.ref A.C_OtherHours) none H') ∧ (n = m → ∀ z H', Ex H H' → NewP (fun G => LotIs A.C_Lot z G n (g n xs ys)) H H' → Q z H')
def spLotLen (A : Ads) : Sp := fun vs H Q _ => ∃ (v : V) (n : Int) (xs : List Int), vs = [v] ∧ LotIs A.C_Lot v H n xs ∧ ∀ H', Ex H H' → Q (.int (xs.length : Int)) H'
def spLotEq (A : Ads) : Sp := fun vs H Q _ => ∃ (v w : V) (n m : Int) (xs ys : List Int), vs = [v, w] ∧ LotIs A.C_Lot v H n xs ∧ LotIs A.C_Lot w H m ys ∧ ∀ H', Ex H H' → Q (.bl (decide (n = m ∧ xs = ys))) H'
def spMems (A : Ads) : Sp := fun vs H Q _ => ∃ (v : V) (n : Int) (xs : List Int), vs = [v] ∧ LotIs A.C_Lot v H n xs ∧ ∀ p H', H p = none → Ex H H' → H' p = some (.lst (xs.map V.int)) → Q (.ref p) H'
theorem mems_of {A : Ads} {vs : List V} {H : Hp} {Q : VK} {E : XK} (h : spMems A vs H Q E) : spLotMembers A vs H Q E := by
  obtain ⟨v, n, xs, rfl, ⟨⟨a, dx, l, rfl, h1, h2⟩, _, _⟩, k⟩ := h
  exact ⟨a, dx, l, n, xs, rfl, h1, h2, k⟩
/-- the members that a lot holds -/
theorem ev_mems {K : PySem.W.Frag} {A : Ads} {te : TE} {σ : L2.St} {H : Hp} {a dx l : Addr} {n : Int} (h : Ev te σ H (.ref a)) (hi : H a = some (.ins A.C_Lot dx (lotF n l))) (c : Cls K A.C_Lot) (na : NoAttr K A.C_Lot "_members") : Ev (tFld K te "_members") σ H (.ref l) := fun H1 e Q q =>
  h H1 e _ fun H2 e2 => ⟨a, _, dx, _, _, rfl, e2 _ _ (e _ _ hi), c, na, rfl, q H2 e2⟩
theorem ev_hours {K : PySem.W.Frag} {A : Ads} {te : TE} {σ : L2.St} {H : Hp} {a dx l : Addr} {n : Int} (h : Ev te σ H (.ref a)) (hi : H a = some (.ins A.C_Lot dx (lotF n l))) (c : Cls K A.C_Lot) (na : NoAttr K A.C_Lot "hours") : Ev (tFld K te "hours") σ H (.int n) := fun H1 e Q q =>
  h H1 e _ fun H2 e2 => ⟨a, _, dx, _, _, rfl, e2 _ _ (e _ _ hi), c, na, rfl, q H2 e2⟩
/-- a comprehension over a list of ints, each put through g -/
theorem el_map {K : PySem.W.Frag} {σ : L2.St} {H : Hp} {te tl : TE} {tt : TT} {j : Nat} {vs : List Nat} {a : Addr} (xs : List Int) (p : Int → Bool) (g : Int → Int) (h : Ev tl σ H (.ref a)) (hx : SqL K H a (xs.map V.int)) (hz : xs.length ≤ 40000)
    (hw : ∀ x, wipe ((wipe σ vs).set j (some x)) vs = wipe σ vs) (ht : ∀ (x : Int) H1, Ex H H1 → x ∈ xs → EvT tt ((wipe σ vs).set j (some (.int x))) H1 (p x))
    (he : ∀ (x : Int) H1, Ex H H1 → x ∈ xs → p x = true → Ev te ((wipe σ vs).set j (some (.int x))) H1 (.int (g x))) : EvL (tLc (iList K tl) (gName j) tt te vs) σ H (((xs.filter p).map g).map V.int) := by
  have e := el_lstG (K := K) (te := te) (tl := tl) (tt := tt) (g := gName j) (vs := vs) (σ := σ) (H := H) 0 (xs.map V.int) xs p (fun x => V.int (g x)) (fun x => (wipe σ vs).set j (some (.int x))) h hx (List.length_map _) hz
    (fun i x y H1 kk _ h1 h2 hk => by
      obtain ⟨u, rfl, hu⟩ := some_int h1
      rw [hu] at h2
      cases h2
      exact hk) (fun y => hw _) ht he
  rw [List.map_map]
  exact e
theorem el_mapA {K : PySem.W.Frag} {σ : L2.St} {H : Hp} {te tl : TE} {j : Nat} {vs : List Nat} {a : Addr} (xs : List Int) (g : Int → Int) (h : Ev tl σ H (.ref a)) (hx : SqL K H a (xs.map V.int)) (hz : xs.length ≤ 40000)
    (hw : ∀ x, wipe ((wipe σ vs).set j (some x)) vs = wipe σ vs)
    (he : ∀ (x : Int) H1, Ex H H1 → x ∈ xs → Ev te ((wipe σ vs).set j (some (.int x))) H1 (.int (g x))) : EvL (tLc (iList K tl) (gName j) tYes te vs) σ H ((xs.map g).map V.int) := by
  have e := el_map (K := K) (te := te) (tl := tl) (tt := tYes) (j := j) (vs := vs) (σ := σ) (H := H) xs (fun _ => true) g h hx hz hw (fun x H1 _ _ => fun H2 _ Q q => q H2 (Ex.refl H2)) (fun x H1 e1 hx _ => he x H1 e1 hx)
  rw [List.filter_eq_self.mpr fun _ _ => rfl] at e
  exact e
/-- the hours that a list of marks tells -/
theorem el_marks {K : PySem.W.Frag} {σ : L2.St} {H : Hp} {te : TE} {tt : TT} {ta : TA} {j : Nat} {vs : List Nat} {n : Int} (p : Int → Bool) (h : EvA ta σ H [.int n]) (hn : 1 ≤ n ∧ n ≤ 360) (hw : ∀ x, wipe ((wipe σ vs).set j (some x)) vs = wipe σ vs)
    (ht : ∀ (z : Int) H1, Ex H H1 → 0 ≤ z → z < n → EvT tt ((wipe σ vs).set j (some (.int z))) H1 (p z)) (he : ∀ (z : Int) H1, Ev te ((wipe σ vs).set j (some (.int z))) H1 (.int z)) : EvL (tLc (iRng1 ta) (gName j) tt te vs) σ H ((hrs n p).map V.int) := by
  have e := el_rng1 (te := te) (tt := tt) (ta := ta) (j := j) (vs := vs) (fun i => p (i : Int)) (fun i => V.int (i : Int)) h (by omega) hw (fun i H1 e hi => ht _ H1 e (by omega) hi) (fun i H1 e hi _ => he _ H1)
  rw [given_pick] at e
  exact e
theorem int_flat (xs : List Int) : (xs.map V.int).all flatV = true := by
  rw [List.all_map, List.all_eq_true]
  exact fun _ _ => rfl
theorem rv_inI {K : PySem.W.Frag} {H : Hp} {a : Addr} {x : Int} {xs : List Int} (h : SqL K H a (xs.map V.int)) : RV (rIn K false) (.int x) (.ref a) H (.bl (decide (x ∈ xs))) := by
  have := rv_inL (neg := false) (x := .int x) h rfl (int_flat xs)
  rw [inV_ints] at this
  exact this
theorem rv_niI {K : PySem.W.Frag} {H : Hp} {a : Addr} {x : Int} {xs : List Int} (h : SqL K H a (xs.map V.int)) : RV (rIn K true) (.int x) (.ref a) H (.bl (!decide (x ∈ xs))) := by
  have := rv_inL (neg := true) (x := .int x) h rfl (int_flat xs)
  rw [inV_ints] at this
  exact this
/-- sorted(..) of different ints -/
theorem sorted_hrs {n : Int} {zs ys : List Int} {p : Int → Bool} (hn : 0 ≤ n) (hp : ys.Perm zs) (ho : ys.Pairwise (· ≤ ·)) (hd : zs.Nodup) (hm : ∀ z, z ∈ zs ↔ z ∈ hrs n p) : ys = hrs n p := by
  have nd : ys.Nodup := hp.nodup_iff.mpr hd
  refine asc_unique ?_ (asc_hrs hn).1 fun z => by rw [hp.mem_iff]; exact hm z
  exact (ho.and nd).imp fun {a b} h => by
    have h1 : a ≤ b := h.1
    have h2 : a ≠ b := h.2
    omega
theorem asc_of_sorted {n : Int} {zs ys : List Int} (hp : ys.Perm zs) (ho : ys.Pairwise (· ≤ ·)) (hd : zs.Nodup) (hm : ∀ z ∈ zs, 0 ≤ z ∧ z < n) : Asc 0 n ys := by
  have nd : ys.Nodup := hp.nodup_iff.mpr hd
  refine ⟨(ho.and nd).imp fun {a b} h => ?_, fun z hz => hm z (hp.mem_iff.mp hz)⟩
  have h1 : a ≤ b := h.1
  have h2 : a ≠ b := h.2
  omega
theorem cr_sortedK {X : Cx} {K : PySem.W.Frag} (h : X.K = K := by rfl) : CallR X (.builtin "sorted") (rSortedI K) := by subst h; exact cr_sortedI
theorem er_sorted {K : PySem.W.Frag} {σ : L2.St} {H : Hp} {tl : TE} {zs : List Int} (h : EvL tl σ H (zs.map V.int)) : EvR (tCB (rSortedI K) (tCons tl tNil)) σ H fun v H1 => ∃ (p : Addr) (ys : List Int), v = .ref p ∧ H1 p = some (.lst (ys.map V.int)) ∧ H p = none ∧ ys.Perm zs ∧ ys.Pairwise (· ≤ ·) := fun H1 e Q q =>
  h H1 e _ fun a H2 _ e2 h2 => ⟨a, zs, rfl, sq_of h2, fun ys p hp ho hq => q _ _ (e2.trans (Ex.new hq)) ⟨p, ys, rfl, upd_same, fresh_back (e.trans e2) hq, hp, ho⟩⟩
theorem er_var {C : Addr} {σ : L2.St} {H : Hp} {i : Nat} {v : V} {n : Int} {xs : List Int} (h : σ[i]? = some (some v)) (hv : LotIs C v H n xs) : EvR (tVar i) σ H fun v H1 => LotIs C v H1 n xs := er_ev (ev_var h) fun H1 e => hv.ex e
theorem en_lotI {A : Ads} {g : Int → Int → List Int → List Int} {E : L2.St → XK} {ta tb : TE} {σ : L2.St} {H : Hp} {n k : Int} {xs : List Int} (ha : EvR ta σ H fun v H1 => LotIs A.C_Lot v H1 n xs) (hb : Ev tb σ H (.int k)) :
    EvNew (tOpS (rOwnI A.C_Lot (spLotI A g) E) ta tb) σ H fun v H1 => LotIs A.C_Lot v H1 n (g n k xs) := fun H1 e Q q =>
  ha H1 e _ fun v H2 e2 hv => hb H2 (e.trans e2) _ fun H3 e3 => by
    have h3 := hv.ex e3
    obtain ⟨a, dx, l, rfl, h1, _⟩ := id h3.at_
    exact ⟨a, dx, _, k, rfl, h1, rfl, .ref a, n, k, xs, rfl, h3, fun w H' e' hw => q w H' ((e2.trans e3).trans e') (hw.out (e2.trans e3) (Ex.refl _))⟩
theorem en_lot1 {A : Ads} {g : Int → List Int → List Int} {E : L2.St → XK} {ta : TE} {σ : L2.St} {H : Hp} {n : Int} {xs : List Int} (ha : EvR ta σ H fun v H1 => LotIs A.C_Lot v H1 n xs) :
    EvNew (tUnS (rOwn1 A.C_Lot (spLot1 A g) E) ta) σ H fun v H1 => LotIs A.C_Lot v H1 n (g n xs) := fun H1 e Q q =>
  ha H1 e _ fun v H2 e2 hv => by
    obtain ⟨a, dx, l, rfl, h1, _⟩ := id hv.at_
    exact ⟨a, dx, _, rfl, h1, .ref a, n, xs, rfl, hv, fun w H' e' hw => q w H' (e2.trans e') (hw.out e2 (Ex.refl _))⟩
theorem en_lot2 {A : Ads} {g : Int → List Int → List Int → List Int} {E : L2.St → XK} {ta tb : TE} {σ : L2.St} {H : Hp} {n : Int} {xs ys : List Int} (ha : EvR ta σ H fun v H1 => LotIs A.C_Lot v H1 n xs) (hb : EvR tb σ H fun v H1 => LotIs A.C_Lot v H1 n ys) :
    EvNew (tOpS (rOwn2 A.C_Lot (spLot2 A g) E) ta tb) σ H fun v H1 => LotIs A.C_Lot v H1 n (g n xs ys) := fun H1 e Q q =>
  ha H1 e _ fun v H2 e2 hv => hb H2 (e.trans e2) _ fun w H3 e3 hw => by
    have h3 := hv.ex e3
    obtain ⟨a, dx, l, rfl, h1, _⟩ := id h3.at_
    obtain ⟨b, dy, m, rfl, g1, _⟩ := id hw.at_
    exact ⟨a, dx, _, b, dy, _, rfl, h1, rfl, g1, .ref a, .ref b, n, n, xs, ys, rfl, h3, hw, fun z => absurd rfl z, fun _ z H' e' hz => q z H' ((e2.trans e3).trans e') (hz.out (e2.trans e3) (Ex.refl _))⟩
theorem er_lotI {A : Ads} {g : Int → Int → List Int → List Int} {E : L2.St → XK} {ta tb : TE} {σ : L2.St} {H : Hp} {n k : Int} {xs : List Int} (ha : EvR ta σ H fun v H1 => LotIs A.C_Lot v H1 n xs) (hb : Ev tb σ H (.int k)) :
    EvR (tOpS (rOwnI A.C_Lot (spLotI A g) E) ta tb) σ H fun v H1 => LotIs A.C_Lot v H1 n (g n k xs) := (en_lotI ha hb).er
theorem er_lot1 {A : Ads} {g : Int → List Int → List Int} {E : L2.St → XK} {ta : TE} {σ : L2.St} {H : Hp} {n : Int} {xs : List Int} (ha : EvR ta σ H fun v H1 => LotIs A.C_Lot v H1 n xs) :
    EvR (tUnS (rOwn1 A.C_Lot (spLot1 A g) E) ta) σ H fun v H1 => LotIs A.C_Lot v H1 n (g n xs) := (en_lot1 ha).er
theorem er_lot2 {A : Ads} {g : Int → List Int → List Int → List Int} {E : L2.St → XK} {ta tb : TE} {σ : L2.St} {H : Hp} {n : Int} {xs ys : List Int} (ha : EvR ta σ H fun v H1 => LotIs A.C_Lot v H1 n xs) (hb : EvR tb σ H fun v H1 => LotIs A.C_Lot v H1 n ys) :
    EvR (tOpS (rOwn2 A.C_Lot (spLot2 A g) E) ta tb) σ H fun v H1 => LotIs A.C_Lot v H1 n (g n xs ys) := (en_lot2 ha hb).er
theorem q_augI {A : Ads} {g : Int → Int → List Int → List Int} {E : XK} {te : TE} {tz : TS} {D : Ends} {σ : L2.St} {H : Hp} {i : Nat} {v : V} {n k : Int} {xs : List Int} (hi : σ[i]? = some (some v)) (hv : LotIs A.C_Lot v H n xs) (he : Ev te σ H (.int k))
    (c : ∀ w H1, Ex H H1 → LotIs A.C_Lot w H1 n (g n k xs) → tz D (σ.set i (some w)) H1) : tSeq (tAug i te (rOwnI A.C_Lot (spLotI A g) (fun _ => E) [])) tz D σ H :=
  ⟨v, hi, he H (Ex.refl H) _ fun H2 e2 => by
    have h2 := hv.ex e2
    obtain ⟨a, dx, l, rfl, h1, _⟩ := id h2.at_
    exact ⟨a, dx, _, k, rfl, h1, rfl, .ref a, n, k, xs, rfl, h2, fun w H' e' hw => c w H' (e2.trans e') hw.self⟩⟩
theorem q_aug2 {A : Ads} {g : Int → List Int → List Int → List Int} {E : XK} {te : TE} {tz : TS} {D : Ends} {σ : L2.St} {H : Hp} {i : Nat} {v : V} {n : Int} {xs ys : List Int} (hi : σ[i]? = some (some v)) (hv : LotIs A.C_Lot v H n xs) (he : EvR te σ H fun v H1 => LotIs A.C_Lot v H1 n ys)
    (c : ∀ w H1, Ex H H1 → LotIs A.C_Lot w H1 n (g n xs ys) → tz D (σ.set i (some w)) H1) : tSeq (tAug i te (rOwn2 A.C_Lot (spLot2 A g) (fun _ => E) [])) tz D σ H :=
  ⟨v, hi, he H (Ex.refl H) _ fun w H2 e2 hw => by
    have h2 := hv.ex e2
    obtain ⟨a, dx, l, rfl, h1, _⟩ := id h2.at_
    obtain ⟨b, dy, m, rfl, g1, _⟩ := id hw.at_
    exact ⟨a, dx, _, b, dy, _, rfl, h1, rfl, g1, .ref a, .ref b, n, n, xs, ys, rfl, h2, hw, fun z => absurd rfl z, fun _ z H' e' hz => c z H' (e2.trans e') hz.self⟩⟩
theorem ev_lotEq {K : PySem.W.Frag} {A : Ads} {E : L2.St → XK} {ta tb : TE} {σ : L2.St} {H : Hp} {n m : Int} {xs ys : List Int} (ha : EvR ta σ H fun v H1 => LotIs A.C_Lot v H1 n xs) (hb : EvR tb σ H fun v H1 => LotIs A.C_Lot v H1 m ys)
    (ty : ∀ (H : Hp) (a dx : Addr) (fs : List (Str × V)), H a = some (.ins A.C_Lot dx fs) → TyX K H (.ref a) (.ref A.C_Lot)) : Ev (tOpS (rOwnC K A.C_Lot (spLotEq A) E) ta tb) σ H (.bl (decide (n = m ∧ xs = ys))) := fun H1 e Q q =>
  ha H1 e _ fun v H2 e2 hv => hb H2 (e.trans e2) _ fun w H3 e3 hw => by
    have h3 := hv.ex e3
    obtain ⟨a, dx, l, rfl, h1, _⟩ := id h3.at_
    obtain ⟨b, dy, m', rfl, g1, _⟩ := id hw.at_
    refine ⟨a, dx, _, .ref A.C_Lot, rfl, h1, ty _ _ _ _ g1, ?_, .ref a, .ref b, n, m, xs, ys, rfl, h3, hw, fun H' e' => q H' ((e2.trans e3).trans e')⟩
    simp [PySem.W.notFirst]
theorem ev_lotLen {A : Ads} {E : XK} {ta : TE} {σ : L2.St} {H : Hp} {n : Int} {xs : List Int} (ha : EvR ta σ H fun v H1 => LotIs A.C_Lot v H1 n xs) : Ev (tCB (rOwnLen A.C_Lot (spLotLen A) E) (tCons ta tNil)) σ H (.int (xs.length : Int)) := fun H1 e Q q =>
  ha H1 e _ fun v H2 e2 hv => by
    have hl := hv.len
    obtain ⟨a, dx, l, rfl, h1, _⟩ := id hv.at_
    exact ⟨a, dx, _, rfl, h1, .ref a, n, xs, rfl, hv, fun H' e' => ⟨_, rfl, ⟨by omega, by omega⟩, q H' (e2.trans e')⟩⟩
theorem el_mems {A : Ads} {E : XK} {ta : TE} {σ : L2.St} {H : Hp} {n : Int} {xs : List Int} (ha : EvR ta σ H fun v H1 => LotIs A.C_Lot v H1 n xs)  : EvL (tProp A.C_Lot (spLotMembers A) [] E ta) σ H (xs.map V.int) := fun H1 e Q q => by
  refine ha H1 e _ fun v H2 e2 hv => ?_
  obtain ⟨a, dx, l, rfl, h1, h2⟩ := id hv.at_
  exact ⟨a, dx, _, rfl, h1, a, dx, l, n, xs, rfl, h1, h2, fun p H' hp e' h' => q p H' (fresh_back e2 hp) (e2.trans e') h'⟩
theorem ok_Lot_len (T : Txt K mg A) : FnOk P w K mg base CX0 1 A.f_Lot_len A.d_Lot_len (["self"] : List Str) (spLotLen A) := by
  refine T.F_Lot_len.ok sc_Lot_len (fun vs H Q E h => ?_) (fun cdv Ar outer s H vs Q E hr h => ?_)
  · obtain ⟨v, n, xs, rfl, _⟩ := h
    rfl
  · obtain ⟨v, n, xs, rfl, ⟨⟨a, dx, l, rfl, h1, h2⟩, _, _⟩, k⟩ := h
    refine ⟨_, (pss_one (ps_ret (pe_callB len_K (by rfl) T.z_len (by decide +kernel) (pa_cons (pe_fldK (pv 0) rfl) pa_nil)))), ?_⟩
    refine ⟨_, rfl, a, _, dx, _, _, rfl, h1, T.cl_Lot, T.na_Lot_members, rfl, .ref l, xs.length, rfl, .inl ⟨_, SqL.of h2, (List.length_map _).symm⟩, k _ (Ex.refl _)⟩

def badN : List Int → Option Int
  | [] => none
  | z :: r => if 0 ≤ z ∧ z ≤ 3 then badN r else some z
/-- lots of one ring, one behind another -/
structure Lots (K : PySem.W.Frag) (C : Addr) (H : Hp) (a : Addr) (n : Int) (xss : List (List Int)) : Prop where
  all : ∃ vs : List V, SqL K H a vs ∧ vs.length = xss.length ∧ ∀ (i : Nat) v, vs[i]? = some v → LotIs C v H n (xss.getD i [])
theorem Lots.ex {K : PySem.W.Frag} {C : Addr} {H H' : Hp} {a : Addr} {n : Int} {xss : List (List Int)} (e : Ex H H') (h : Lots K C H a n xss) : Lots K C H' a n xss := by
  obtain ⟨vs, h1, h2, h3⟩ := h.all
  exact ⟨vs, ex_l e h1, h2, fun i v hv => (h3 i v hv).ex e⟩
def WrongN (A : Ads) (k : Nat) (H : Hp) (E : XK) : Prop := ∀ d H', Ex H H' → H' d = some (.xd [("length", .int (k : Int))]) → E (.ref A.C_WrongLength) (some d) H'
def BadNeed (A : Ads) (z : Int) (H : Hp) (E : XK) : Prop := ∀ d H', Ex H H' → H' d = some (.xd [("value", .int z), ("name", .str "need")]) → E (.ref A.C_BadNumber) (some d) H'
def spChk (K : PySem.W.Frag) (A : Ads) : Sp := fun vs H Q E => ∃ (a b : Addr) (n : Int) (xss : List (List Int)) (nd : List Int), vs = [.ref a, .ref b] ∧ Lots K A.C_Lot H a n xss ∧ SqL K H b (nd.map V.int) ∧ (1 ≤ xss.length ∧ xss.length ≤ 4) ∧ (1 ≤ n ∧ n ≤ 12) ∧ nd.length ≤ 10 ∧
  (nd.length ≠ xss.length → WrongN A nd.length H E) ∧ (nd.length = xss.length → ∀ z, badN nd = some z → BadNeed A z H E) ∧ (nd.length = xss.length → badN nd = none → ∀ H', Ex H H' → Q .non H')
theorem ok_u_check (T : Txt K mg A) : FnOk P w K mg base (L2.CX P w) 3 A.f_u_check A.d_u_check (["lots", "needs"] : List Str) (spChk K A) := by
  refine T.F_u_check.okX sc_u_check (fun vs H Q E h => ?_) (fun cdv Ar outer s H vs Q E hr h => ?_)
  · obtain ⟨a, b, n, xss, nd, rfl, _⟩ := h
    rfl
  · obtain ⟨a, b, n, xss, nd, rfl, hL, hb, hm, hn, hd, k1, k2, k3⟩ := h
    obtain ⟨tc_MOST_LOTS, gc_MOST_LOTS⟩ := T.c_MOST_LOTS
    obtain ⟨tc_MOST_HOURS, gc_MOST_HOURS⟩ := T.c_MOST_HOURS
    obtain ⟨tc_MOST_NEED, gc_MOST_NEED⟩ := T.c_MOST_NEED
    refine ⟨_, (pss_cons (ps_if (pt_cmpR op_eq (pe_callB len_K (by rfl) T.z_len (by decide +kernel) (pa_cons (pv 0) pa_nil)) pe_int (nomark _)) (pss_one (ps_raise rfl (takes_of rfl rfl rfl rfl) (pmk_oex T.ox_BadNumber T.ni_BadNumber T.ti_BadNumber (ok_BadNumber_init T) (hr.mono (by omega)) (b_BadNumber_init T) .nil pass0 rfl T.g_BadNumber (pa_cons pe_str (pa_cons pe_int pa_nil))))) pss_nil)
        (pss_cons (ps_if (pt_cmpR op_gt (pe_callB len_K (by rfl) T.z_len (by decide +kernel) (pa_cons (pv 0) pa_nil)) (pe_glob (v := .int 4) rfl gc_MOST_LOTS ⟨_, rfl⟩) (nomark _)) (pss_one (ps_raise rfl (takes_of rfl rfl rfl rfl) (pmk_oex T.ox_TooMany T.ni_TooMany T.ti_TooMany (ok_TooMany_init T) (hr.mono (by omega)) (b_TooMany_init T) .nil pass0 rfl T.g_TooMany (pa_cons pe_str (pa_cons (pe_glob (v := .int 4) rfl gc_MOST_LOTS ⟨_, rfl⟩) pa_nil))))) pss_nil)
        (pss_cons (ps_set (i := 2) sc_u_check.nd rfl (Or.inl rfl) (pe_fldK (pe_ix ix_lK (pv 0) pe_int (fun _ _ => rfl)) rfl))
        (pss_cons (ps_if (pt_cmpR op_gt (pv 2) (pe_glob (v := .int 12) rfl gc_MOST_HOURS ⟨_, rfl⟩) (nomark _)) (pss_one (ps_raise rfl (takes_of rfl rfl rfl rfl) (pmk_oex T.ox_BadNumber T.ni_BadNumber T.ti_BadNumber (ok_BadNumber_init T) (hr.mono (by omega)) (b_BadNumber_init T) .nil pass0 rfl T.g_BadNumber (pa_cons pe_str (pa_cons (pv 2) pa_nil))))) pss_nil)
        (pss_cons (ps_for (passes_of rfl) rfl (pi_listK (pv 0)) (pg_name (i := 3) sc_u_check.nd rfl (Or.inl rfl)) (pss_one (ps_if (pt_cmpR op_ne (pe_fldK (pv 3) rfl) (pv 2) (nomark _)) (pss_one (ps_raise rfl (takes_of rfl rfl rfl rfl) (pmk_none PySem.F.excBase_ValueError T.xP_OtherHours T.g_OtherHours T.kP_OtherHours (raises_own T.bP_OtherHours T.tP_OtherHours) rfl))) pss_nil)))
        (pss_cons (ps_if (pt_cmpR op_ne (pe_callB len_K (by rfl) T.z_len (by decide +kernel) (pa_cons (pv 1) pa_nil)) (pe_callB len_K (by rfl) T.z_len (by decide +kernel) (pa_cons (pv 0) pa_nil)) (nomark _)) (pss_one (ps_raise rfl (takes_of rfl rfl rfl rfl) (pmk_oex T.ox_WrongLength T.ni_WrongLength T.ti_WrongLength (ok_WrongLength_init T) (hr.mono (by omega)) (b_WrongLength_init T) .nil pass0 rfl T.g_WrongLength (pa_cons (pe_callB len_K (by rfl) T.z_len (by decide +kernel) (pa_cons (pv 1) pa_nil)) pa_nil)))) pss_nil)
        (pss_one (ps_for (passes_of rfl) rfl (pi_listK (pv 1)) (pg_name (i := 4) sc_u_check.nd rfl (Or.inl rfl)) (pss_one (ps_if (PW.pt (pw_or (pt_cmpR op_lt (pv 4) pe_int (nomark _)) (pw_or1 (pt_cmpR op_gt (pv 4) (pe_glob (v := .int 3) rfl gc_MOST_NEED ⟨_, rfl⟩) (nomark _))))) (pss_one (ps_raise rfl (takes_of rfl rfl rfl rfl) (pmk_oex T.ox_BadNumber T.ni_BadNumber T.ti_BadNumber (ok_BadNumber_init T) (hr.mono (by omega)) (b_BadNumber_init T) .nil pass0 rfl T.g_BadNumber (pa_cons pe_str (pa_cons (pv 4) pa_nil))))) pss_nil)))))))))), ?_⟩
    obtain ⟨vs, hvs, hlen, hall⟩ := hL.all
    have hlenV : ∀ (i : Nat) (p : Addr) (xs : List V) H1, Ex H H1 → ∀ σ : L2.St, σ[i]? = some (some (.ref p)) → SqL K H p xs → Ev (tCB (rLenK K) (tCons (tVar i) tNil)) σ H1 (.int (xs.length : Int)) := fun i p xs H1 e1 σ h0 hp => ev_cb (ea_cons (ev_var h0) ea_nil) fun H2 e2 Q q => ⟨.ref p, xs.length, rfl, .inl ⟨_, ex_l (e1.trans e2) hp, rfl⟩, q H2 (Ex.refl H2)⟩
    have hh : ∀ (i : Nat) v, vs[i]? = some v → ∃ p, v = .ref p ∧ ∀ H1, Ex H H1 → ∀ (te : TE) (σ : L2.St), Ev te σ H1 (.ref p) → Ev (tFld K te "hours") σ H1 (.int n) := fun i v hv => by
      obtain ⟨p, dx, l, rfl, h1, _⟩ := (hall i v hv).at_
      exact ⟨p, rfl, fun H1 e1 te σ he => ev_hours he (e1 _ _ h1) T.cl_Lot T.na_Lot_hours⟩
    obtain ⟨v0, hv0⟩ : ∃ v0, vs[0]? = some v0 := ⟨_, List.getElem?_eq_getElem (by omega)⟩
    obtain ⟨p0, rfl, hh0⟩ := hh 0 v0 hv0
    try dsimp only
    refine q_skip (et_is (et_test (ev_op (hlenV 0 a vs _ (Ex.refl _) _ rfl hvs) ev_c (rv_eq rfl))) (by rw [dec_ii, hlen]; exact decide_eq_false (by omega))) fun H1 e1 => ?_
    try dsimp only
    refine q_skip (et_is (et_test (ev_op (hlenV 0 a vs _ e1 _ rfl hvs) ev_c rv_I0)) (by rw [hlen]; exact decide_eq_false (by omega))) fun H2 e2 => ?_
    replace e2 := e1.trans e2
    try dsimp only
    refine q_asg (v := .int n) (hh0 _ e2 _ _ (ev_op (ev_var (i := 0) rfl) ev_c (rv_ixL (ex_l e2 hvs) (atI_nat (j := 0) hv0)))) fun H3 e3 => ?_
    replace e3 := e2.trans e3
    try dsimp only
    refine q_skip (et_is (et_test (ev_op (ev_var (i := 2) rfl) ev_c rv_I0)) (decide_eq_false (by omega))) fun H4 e4 => ?_
    replace e4 := e3.trans e4
    try dsimp only
    refine q_forLn (K := K) (a := a) (xs := vs) (ev_var rfl) (ex_l e4 hvs) (fun i σ' H' => ∃ lv : Option V, σ' = [some (.ref a), some (.ref b), some (.int n), lv, none] ∧ Ex H H')
      (fun H5 e5 => ⟨none, rfl, e4.trans e5⟩) (fun i σ' H' _ ⟨_, _, e⟩ => ex_l e hvs) ?_ ?_
    · rintro i v σ' H' hv ⟨lv, rfl, e⟩
      obtain ⟨p, rfl, hhp⟩ := hh i v hv
      try dsimp only
      exact s_when (b := false) (et_is (et_test (ev_op (hhp _ e _ _ (ev_var (i := 3) rfl)) (ev_var (i := 2) rfl) (rv_ne rfl))) (by simp)) (fun z => Bool.noConfusion z) fun _ H5 e5 => ⟨_, rfl, e.trans e5⟩
    rintro σ' H' ⟨lv, rfl, e⟩
    have tl : ((nd.map V.int).length ≠ vs.length) ↔ nd.length ≠ xss.length := by rw [List.length_map, hlen]
    try dsimp only
    refine q_when (b := decide (nd.length ≠ xss.length)) (et_is (et_test (ev_op (hlenV 1 b _ _ e _ rfl hb) (hlenV 0 a vs _ e _ rfl hvs) (rv_ne rfl))) (by rw [dec_ii, List.length_map, hlen, ← decide_not, decide_eq_decide]; omega)) (fun h H5 e5 => ?_) (fun h H5 e5 => ?_)
    · have h := of_decide_eq_true h
      exact raise1 (C := A.C_WrongLength) (f := "length") (x := .int (nd.length : Int)) T.ox_WrongLength (fun Q q => ⟨_, rfl, .ref b, nd.length, rfl, .inl ⟨_, ex_l (e.trans e5) hb, (List.length_map _).symm⟩, q⟩) (fun d H' e' => k1 h d H' ((e.trans e5).trans e'))
    replace h : nd.length = xss.length := Decidable.of_not_not (of_decide_eq_false h)
    replace e5 := e.trans e5
    try dsimp only
    refine s_forLn (K := K) (a := b) (xs := nd.map V.int) (ev_var rfl) (ex_l e5 hb) (fun i σ' H' => ∃ nv : Option V, σ' = [some (.ref a), some (.ref b), some (.int n), lv, nv] ∧ Ex H H' ∧ badN nd = badN (nd.drop i))
      (fun H6 e6 => ⟨none, rfl, e5.trans e6, rfl⟩) (fun i σ' H' _ ⟨_, _, e, _⟩ => ex_l e hb) ?_ ?_
    · rintro i v σ' H' hv ⟨nv, rfl, e6, hbad⟩
      obtain ⟨z, rfl, hz⟩ := some_int hv
      have hil : i < nd.length := (List.getElem?_eq_some_iff.mp hz).1
      have hdr : nd.drop i = z :: nd.drop (i + 1) := by
        rw [List.drop_eq_getElem_cons hil]
        rw [List.getElem?_eq_getElem hil] at hz
        rw [Option.some.inj hz]
      rw [hdr] at hbad
      try dsimp only
      refine s_when (b := decide (z < 0) || decide (3 < z)) (et_or (et_test (ev_op (ev_var (i := 4) rfl) ev_c rv_I0)) fun _ => et_test (ev_op (ev_var (i := 4) rfl) ev_c rv_I0)) (fun hc H7 e7 => ?_) (fun hc H7 e7 => ?_)
      · have hc : z < 0 ∨ 3 < z := by simpa using hc
        refine raise2 (C := A.C_BadNumber) (f := "name") (g := "value") (x := .str "need") (y := .int z) T.ox_BadNumber (fun Q q => ⟨_, rfl, q⟩) (fun d H' e' => k2 h z ?_ d H' ((e6.trans e7).trans e'))
        rw [hbad]
        exact if_neg (by omega)
      · have hc : ¬ (z < 0 ∨ 3 < z) := by simpa using hc
        refine ⟨_, rfl, e6.trans e7, ?_⟩
        rw [hbad]
        exact if_pos (by omega)
    rintro σ' H' ⟨nv, rfl, e6, hbad⟩
    rw [List.length_map, List.drop_length] at hbad
    exact k3 h hbad H' e6

def spBitsOf (K : PySem.W.Frag) : Sp := fun vs H Q _ => ∃ (a : Addr) (ns : List Int), vs = [.ref a] ∧ SqL K H a (ns.map V.int) ∧ ns.length ≤ 100 ∧ (∀ x ∈ ns, 0 ≤ x ∧ x < 100) ∧ ∀ (B : Nat), (∀ i : Nat, B.testBit i = decide ((i : Int) ∈ ns)) → ∀ H', Ex H H' → Q (.int (B : Int)) H' 
theorem ok_bits_of (T : Txt K mg A) : FnOk P w K mg base CX0 1 A.f_bits_of A.d_bits_of (["numbers"] : List Str) (spBitsOf K) := by
  refine T.F_bits_of.ok sc_bits_of (fun vs H Q E h => ?_) (fun cdv Ar outer s H vs Q E hr h => ?_)
  · obtain ⟨a, ns, rfl, _⟩ := h
    rfl
  · obtain ⟨a, ns, rfl, hS, hl, hb, k⟩ := h
    refine ⟨_, (pss_cons (ps_set (i := 1) sc_bits_of.nd rfl (Or.inl rfl) pe_int)
        (pss_cons (ps_for PassesOwn.never rfl (pi_listK (pv 0)) (pg_name (i := 2) sc_bits_of.nd rfl (Or.inl rfl)) (pss_one (ps_set (i := 1) sc_bits_of.nd rfl (Or.inl rfl) (pe_op op_or (pv 1) (pe_op op_shl pe_int (pv 2))))))
        (pss_one (ps_ret (pv 1))))), ?_⟩
    try dsimp only
    refine q_asg (v := .int ((0 : Nat) : Int)) ev_c fun H1 e1 => ?_
    try dsimp only
    refine q_forLn (K := K) (a := a) (xs := ns.map V.int) (j := 2) (ev_var (i := 0) rfl) (ex_l e1 hS) (fun i σ' G => ∃ (B : Nat) (v2 : Option V), σ' = [some (.ref a), some (.int (B : Int)), v2] ∧ Ex H G ∧ ∀ j : Nat, B.testBit j = decide ((j : Int) ∈ ns.take i)) (fun H2 e2 => ⟨0, none, rfl, e1.trans e2, fun j => by simp⟩) (fun i σ' G _ ⟨_, _, _, e, _⟩ => ex_l e hS) ?_ ?_
    · rintro i y σ' G hy ⟨B, v2, rfl, eG, hB⟩
      obtain ⟨x, rfl, hx⟩ := some_int hy
      have hi : i < ns.length := (List.getElem?_eq_some_iff.mp hx).1
      have xb := hb x (List.mem_of_getElem? hx)
      obtain ⟨k0, rfl⟩ := Int.eq_ofNat_of_zero_le xb.1
      have htk : ns.take (i + 1) = ns.take i ++ [(k0 : Int)] := by
        rw [List.take_succ_eq_append_getElem hi]
        rw [List.getElem?_eq_getElem hi] at hx
        rw [Option.some.inj hx]
      try dsimp only
      refine s_asg (v := .int ((B ||| 1 <<< k0 : Nat) : Int)) (ev_is (ev_op (ev_var (i := 1) rfl) (ev_is (ev_op ev_c (ev_var (i := 2) rfl) (rv_I (show CPow 1 (k0 : Int) from ⟨by omega, by omega, by decide⟩))) (congrArg V.int (shl_ii k0))) rv_I0) (congrArg V.int (or_ii _ _))) fun G1 g1 => ⟨_, _, rfl, eG.trans g1, fun j => ?_⟩
      rw [Nat.testBit_or, hB, Nat.one_shiftLeft, Nat.testBit_two_pow, htk, Bool.eq_iff_iff, Bool.or_eq_true, decide_eq_true_iff, decide_eq_true_iff, decide_eq_true_iff, List.mem_append, List.mem_singleton]
      exact ⟨fun h => h.imp id fun z => by omega, fun h => h.imp id fun z => by omega⟩
    rintro σ' G ⟨B, v2, rfl, eG, hB⟩
    rw [List.length_map, List.take_length] at hB
    exact s_ret (ev_var (i := 1) rfl) fun G1 g1 => k B hB G1 (eG.trans g1)

def spListed : Sp := fun vs H Q _ => ∃ (B : Nat), vs = [.int (B : Int)] ∧ B < 4096 ∧ ∀ p H', H p = none → Ex H H' → H' p = some (.lst ((lstB B).map V.int)) → Q (.ref p) H' 
theorem ok_listed (T : Txt K mg A) : FnOk P w K mg base CX0 1 A.f_listed A.d_listed (["bits"] : List Str) spListed := by
  refine T.F_listed.ok sc_listed (fun vs H Q E h => ?_) (fun cdv Ar outer s H vs Q E hr h => ?_)
  · obtain ⟨B, rfl, _⟩ := h
    rfl
  · obtain ⟨B, rfl, hB, k⟩ := h
    refine ⟨_, (pss_one (ps_ret (pe_lc (own := [("at", 1)]) (g := gName 1) rfl sc_listed.nd (pi_range1 rfl T.z_range (pa_cons (pe_bits (pv 0)) pa_nil)) (blkOk_by (own := [("at", 1)]) (N := N_listed) (sc := defScope s_listed) (by decide +kernel)) (fun _ _ _ _ _ => (pg_name (i := 1) sc_listed.nd rfl (Or.inl rfl))) (fun _ _ _ _ _ => (pts_one (pt_truthK (pe_op op_and (pe_op op_shr (pv 0) (pv 1)) pe_int) (by intro _; rfl)))) (fun _ _ _ _ _ => (pv 1))))), ?_⟩
    have wb : Builtin.Int.intBits (B : Int) ≤ 12 := PyProof.Rows.intBits_le (show (B : Int).natAbs < 2 ^ 12 by rw [Int.natAbs_natCast]; exact hB)
    have wl : B < 2 ^ Builtin.Int.intBits (B : Int) := by have := PyProof.Rows.natAbs_lt_pow_bits (B : Int); rwa [Int.natAbs_natCast] at this
    try dsimp only
    refine s_retL (xs := (lstB B).map V.int) ?_ fun p H1 hp e1 h1 => k p H1 hp e1 h1
    refine el_isW (el_rng1 (n := (Builtin.Int.intBits (B : Int) : Nat)) (fun i => B.testBit i) (fun i => V.int (i : Int)) (ea_cons (fun H1 e Q q => ⟨.int (B : Int), rfl, (B : Int), rfl, q H1 (Ex.refl H1)⟩) ea_nil) (by omega) (fun x => rfl) (fun i H1 e hi => ?_) (fun i H1 e hi _ => ev_var (i := 1) rfl)) ?_
    · have := et_tru (K := K) (ev_is (ev_op (ev_is (ev_op (x := .int (B : Int)) (y := .int (i : Int)) (ev_var (σ := [some (V.int (B : Int)), some (V.int (i : Int))]) (H := H1) (i := 0) rfl) (ev_var (i := 1) rfl) (rv_I (g := fun i j => V.int (i / 2 ^ j.toNat)) (C := fun _ j => 0 ≤ j) (show (0 : Int) ≤ (i : Int) by omega))) (congrArg V.int (shr_ii B i))) (ev_c (v := .int ((1 : Nat) : Int))) (rv_I0 (g := fun i j => V.int (Builtin.bitAnd i j)))) (congrArg V.int (and_ii (B / 2 ^ i) 1)))
      rw [bit_tru] at this
      exact this
    · rw [Int.toNat_natCast, given_pick]
      congr 1
      unfold lstB hrs
      refine (pick_more (fun i hi => Nat.testBit_lt_two_pow (Nat.lt_of_lt_of_le wl (Nat.pow_le_pow_right (by decide) hi))) wb).trans ?_
      rfl

def spCounts : Sp := fun vs H Q _ => ∃ (n : Nat), vs = [.int (n : Int)] ∧ n ≤ 12 ∧ ∀ p H', H p = none → Ex H H' → H' p = some (.lst ((List.range (2 ^ n)).map fun b => V.int (pc b : Nat))) → Q (.ref p) H' 
theorem ok_bit_counts (T : Txt K mg A) : FnOk P w K mg base CX0 1 A.f_bit_counts A.d_bit_counts (["width"] : List Str) spCounts := by
  refine T.F_bit_counts.ok sc_bit_counts (fun vs H Q E h => ?_) (fun cdv Ar outer s H vs Q E hr h => ?_)
  · obtain ⟨n, rfl, _⟩ := h
    rfl
  · obtain ⟨n, rfl, hn, k⟩ := h
    refine ⟨_, (pss_cons (ps_set (i := 1) sc_bit_counts.nd rfl (Or.inl rfl) (pe_lst (pa_cons pe_int pa_nil)))
        (pss_cons (ps_for PassesOwn.never rfl (pi_range2 rfl T.z_range (pa_cons pe_int (pa_cons (pe_op op_shl pe_int (pv 0)) pa_nil))) (pg_name (i := 2) sc_bit_counts.nd rfl (Or.inl rfl)) (pss_one (ps_expr (pe_bm PySem.F.plainAttrs_list PySem.F.slot_list_append PySem.F.type_list_append mt_append (pv 1) (pa_cons (pe_op op_add (pe_ix ix_lK (pv 1) (pe_op op_shr (pv 2) pe_int) (fun _ _ => rfl)) (pe_op op_and (pv 2) pe_int)) pa_nil)))))
        (pss_one (ps_ret (pv 1))))), ?_⟩
    have p1 : 1 ≤ 2 ^ n := Nat.one_le_two_pow
    have p2 : 2 ^ n ≤ 4096 := Nat.pow_le_pow_right (show 0 < 2 by decide) (show n ≤ 12 by omega)
    generalize hW : 2 ^ n = W at *
    have hWi : (1 : Int) * 2 ^ (n : Int).toNat = (W : Int) := by rw [shl_ii, Nat.one_shiftLeft, hW]
    try dsimp only
    refine q_asgL (xs := [.int 0]) (el_lst (ea_cons ev_c ea_nil) (by show 1 ≤ 100000; decide)) fun cp H1 hcp e1 h1 => ?_
    try dsimp only
    refine q_forR2 (j := 2) (lo := 1) (n := (W : Int)) (ea_cons ev_c (ea_cons (ev_is (ev_op ev_c (ev_var (i := 0) rfl) (rv_I (show CPow 1 (n : Int) from ⟨by omega, by omega, by decide⟩))) (congrArg V.int hWi)) ea_nil)) (by omega) (fun i σ' G => ∃ v2 : Option V, σ' = [some (.int (n : Int)), some (.ref cp), v2] ∧ Ex H G ∧ G cp = some (.lst ((List.range (i + 1)).map fun b => V.int (pc b : Nat)))) (fun G e => ⟨_, rfl, e1.trans e, e _ _ h1⟩) ?_ ?_
    · rintro i σ' G hi ⟨v2, rfl, eG, hG⟩
      have hiW : i + 1 < W := by omega
      have hlen : ((List.range (i + 1)).map fun b => V.int ((pc b : Nat) : Int)).length = i + 1 := by rw [List.length_map, List.length_range]
      have at_ : atI ((List.range (i + 1)).map fun b => V.int ((pc b : Nat) : Int)) (((i + 1) / 2 : Nat) : Int) = some (.int ((pc ((i + 1) / 2) : Nat) : Int)) := atI_nat (by rw [List.getElem?_map, List.getElem?_range (by omega)]; rfl)
      have ih := pc_half (b := i + 1) (by omega)
      have c1 : (1 : Int) + (i : Int) = ((i + 1 : Nat) : Int) := by omega
      try dsimp only
      refine s_app (v := .int ((pc (i + 1) : Nat) : Int)) hG (ev_var (i := 1) rfl) (ev_is (ev_op (ev_op (ev_var (i := 1) rfl) (ev_is (ev_op (ev_is (ev_var (i := 2) rfl) (congrArg V.int c1)) (ev_c (v := .int ((1 : Nat) : Int))) (rv_I (show (0 : Int) ≤ ((1 : Nat) : Int) by decide))) (congrArg V.int (by rw [shr_ii, Nat.pow_one]))) (rv_ixL (K := K) (sq_of hG) at_)) (ev_is (ev_op (ev_is (ev_var (i := 2) rfl) (congrArg V.int c1)) (ev_c (v := .int ((1 : Nat) : Int))) rv_I0) (congrArg V.int (and_ii _ _))) rv_I0) (congrArg V.int (by rw [ih, Nat.and_one_is_mod]; rfl))) (by rw [hlen]; omega) fun G1 g1 => ⟨_, rfl, Ex.mut (eG.trans g1) hcp, ?_⟩
      rw [upd_same, List.range_succ (n := i + 1), List.map_append]
      rfl
    rintro σ' G ⟨v2, rfl, eG, hG⟩
    rw [show ((W : Int) - 1).toNat + 1 = W by omega] at hG
    exact s_ret (ev_var (i := 1) rfl) fun G1 g1 => k cp G1 hcp (eG.trans g1) (g1 _ _ hG)

def spFewInit (A : Ads) : Sp := fun vs H Q _ => ∃ (x dx : Addr) (sv tv : V), vs = [.ref x, sv, tv] ∧ H x = some (.ins A.C_Fewest dx []) ∧ ∀ H', (∀ b o, b ≠ x → H b = some o → H' b = some o) → H' x = some (.ins A.C_Fewest dx [("starts", sv), ("tree", tv)]) → Q .non H' 
theorem ok_Fewest_init (T : Txt K mg A) : FnOk P w K mg base (L2.CX P w) 4 A.f_Fewest_init A.d_Fewest_init (["self", "starts", "tree"] : List Str) (spFewInit A) := by
  refine T.F_Fewest_init.okX sc_Fewest_init (fun vs H Q E h => ?_) (fun cdv Ar outer s H vs Q E hr h => ?_)
  · obtain ⟨x, dx, sv, tv, rfl, _⟩ := h
    rfl
  · obtain ⟨x, dx, sv, tv, rfl, hx, k⟩ := h
    refine ⟨_, (pss_cons (ps_fld (pv 0) (pv 1) rfl)
        (pss_one (ps_fld (pv 0) (pv 2) rfl))), ?_⟩
    try dsimp only
    refine q_fldR (er_ev (P := fun v _ => v = sv) (ev_var (i := 1) rfl) fun _ _ => rfl) rfl hx T.cl_Fewest T.na_Fewest_starts (by decide) fun v H1 e1 hv => ?_
    subst hv
    try dsimp only
    refine s_fldR (er_ev (P := fun v _ => v = tv) (ev_var (i := 2) rfl) fun _ _ => rfl) rfl upd_same T.cl_Fewest T.na_Fewest_tree (by show 1 < 1000; decide) fun w H2 e2 hw => ?_
    subst hw
    refine k _ (fun b o hb ho => ?_) ?_
    · rw [upd_ne hb]
      exact e2 _ _ (by rw [upd_ne hb]; exact e1 _ _ ho)
    · rw [upd_same]
      have h : ¬ ("starts" : Str) = "tree" := by decide +kernel
      show some (HO.ins A.C_Fewest dx (if ("starts" : Str) = "tree" then _ else (("starts" : Str), v) :: putF "tree" w [])) = _
      rw [if_neg h]
      rfl

theorem ev_bitsOf {K : PySem.W.Frag} {E : XK} {tl : TE} {σ : L2.St} {H : Hp} {ns : List Int} {B : Nat} (h : EvL tl σ H (ns.map V.int)) (hl : ns.length ≤ 100) (hb : ∀ x ∈ ns, 0 ≤ x ∧ x < 100) (hB : ∀ i : Nat, B.testBit i = decide ((i : Int) ∈ ns)) : Ev (tCall (spBitsOf K) [] E (tCons tl tNil)) σ H (.int (B : Int)) := fun H1 e Q q => h H1 e _ fun p H2 hp e2 hp2 => ⟨p, ns, rfl, sq_of hp2, hl, hb, fun B' hB' H' e' => by
  have e0 : B' = B := Nat.eq_of_testBit_eq fun i => by rw [hB', hB]
  rw [e0]
  exact q H' (e2.trans e')⟩
def spStMeet (K : PySem.W.Frag) (A : Ads) : Sp := fun vs H Q _ => ∃ (v : V) (n h : Nat) (xs : List Int), vs = [v, .int (h : Int)] ∧ LotIs A.C_Lot v H (n : Int) xs ∧ (1 ≤ n ∧ n ≤ 12) ∧ ∀ H', Ex H H' → Q (.int (meetB n xs h : Nat)) H' 
theorem ok_u_starts_meeting (T : Txt K mg A) : FnOk P w K mg base CX0 3 A.f_u_starts_meeting A.d_u_starts_meeting (["lot", "hour"] : List Str) (spStMeet K A) := by
  refine T.F_u_starts_meeting.ok sc_u_starts_meeting (fun vs H Q E h => ?_) (fun cdv Ar outer s H vs Q E hr h => ?_)
  · obtain ⟨v, n, h, xs, rfl, _⟩ := h
    rfl
  · obtain ⟨v, n, h, xs, rfl, hv, hn, k⟩ := h
    refine ⟨_, (pss_one (ps_ret (pe_call (ok_bits_of T) (hr.mono (by omega)) rfl T.g_bits_of T.k_bits_of (b_bits_of T) .nil pass0 (pa_cons (pe_lc (own := [("member", 2)]) (g := gName 2) (tt := tYes) rfl sc_u_starts_meeting.nd (pi_own rfl (pv 0) T.M_Lot_iter (ok_Lot_iter T) (hr.mono (by omega)) (b_Lot_iter T)) (blkOk_by (own := [("member", 2)]) (N := N_u_starts_meeting) (sc := defScope s_u_starts_meeting) (by decide +kernel)) (fun _ _ _ _ _ => (pg_name (i := 2) sc_u_starts_meeting.nd rfl (Or.inl rfl))) (fun _ _ _ _ _ => pts_nil) (fun _ _ _ _ _ => (pe_op op_mod (pe_op op_sub (pv 1) (pv 2)) (pe_fldK (pv 0) rfl)))) pa_nil)))), ?_⟩
    obtain ⟨a, dx, l, rfl, h1, h2⟩ := id hv.at_
    have npos : (0 : Int) < (n : Int) := by omega
    have xl := hv.asc.len
    try dsimp only
    have back : ∀ z : Int, 0 ≤ z → z < (n : Int) → ((h : Int) - ((h : Int) - z) % (n : Int)) % (n : Int) = z := fun z z0 z1 => by
      rw [Int.sub_emod, Int.emod_emod, ← Int.sub_emod, show (h : Int) - ((h : Int) - z) = z by omega, Int.emod_eq_of_lt z0 z1]
    refine s_ret (v := .int ((meetB n xs h : Nat) : Int)) (ev_bitsOf (K := K) (ns := (xs.filter fun _ => true).map fun x => ((h : Int) - x) % (n : Int)) ?_ ?_ (fun x hx => ?_) fun i => ?_) fun G1 g1 => k G1 g1
    · exact el_map (K := K) xs (fun _ => true) (fun x => ((h : Int) - x) % (n : Int)) (ev_own (ev_var (i := 0) rfl) h1 rfl) (sq_of h2) (by omega) (fun x => rfl) (fun x G1 g1 hx => yes_T) (fun x G1 g1 hx _ => ev_op (ev_op (ev_var (i := 1) rfl) (ev_var (i := 2) rfl) rv_I0) (ev_hours (K := K) (ev_var (i := 0) rfl) (g1 _ _ h1) T.cl_Lot T.na_Lot_hours) (rv_I npos))
    · rw [List.length_map]
      exact Nat.le_trans (List.length_filter_le _ _) (by omega)
    · obtain ⟨y, _, rfl⟩ := List.mem_map.mp hx
      have := Int.emod_nonneg ((h : Int) - y) (b := (n : Int)) (by omega)
      have := Int.emod_lt_of_pos ((h : Int) - y) npos
      omega
    · rw [meet_bit, decide_eq_decide, List.filter_eq_self.mpr fun _ _ => rfl, List.mem_map]
      constructor
      · rintro ⟨hi, hm⟩
        exact ⟨_, hm, back (i : Int) (by omega) (by omega)⟩
      · rintro ⟨y, hy, hyi⟩
        have yb := hv.asc.2 y hy
        have m1 := Int.emod_lt_of_pos ((h : Int) - y) npos
        have m0 := Int.emod_nonneg ((h : Int) - y) (b := (n : Int)) (by omega)
        have : (((h : Int) - y) % (n : Int)) = (i : Int) := hyi
        refine ⟨by omega, ?_⟩
        rw [← this, back y yb.1 yb.2]
        exact hy

def demF (n : Int) (q1 q2 q3 q4 : Addr) : List (Str × V) := [("hours", .int n), ("needs", .ref q1), ("sizes", .ref q2), ("meeting", .ref q3), ("counted", .ref q4)]
def MeetL (H : Hp) (q : Addr) (n : Nat) (xss : List (List Int)) : Prop := ∃ ts : List V, H q = some (.lst ts) ∧ ts.length = xss.length ∧ ∀ (g : Nat) v, ts[g]? = some v → ∃ t, v = .ref t ∧ H t = some (.lst ((List.range n).map fun h => V.int (meetB n (xss.getD g []) h : Nat)))
def DemandIs (A : Ads) (v : V) (H : Hp) (n : Nat) (nd : List Int) (xss : List (List Int)) : Prop := ∃ a dx q1 q2 q3 q4, v = .ref a ∧ H a = some (.ins A.C_Demand dx (demF (n : Int) q1 q2 q3 q4)) ∧ H q1 = some (.lst (nd.map V.int)) ∧ H q2 = some (.lst (xss.map fun xs => V.int (xs.length : Nat))) ∧ MeetL H q3 n xss ∧ H q4 = some (.lst ((List.range (2 ^ n)).map fun b => V.int (pc b : Nat)))
theorem MeetL.ex {H H' : Hp} {q : Addr} {n : Nat} {xss : List (List Int)} (h : MeetL H q n xss) (e : Ex H H') : MeetL H' q n xss := by
  obtain ⟨ts, h1, h2, h3⟩ := h
  exact ⟨ts, e _ _ h1, h2, fun g v hv => by obtain ⟨t, z1, z2⟩ := h3 g v hv; exact ⟨t, z1, e _ _ z2⟩⟩
theorem DemandIs.ex {A : Ads} {v : V} {H H' : Hp} {n : Nat} {nd : List Int} {xss : List (List Int)} (h : DemandIs A v H n nd xss) (e : Ex H H') : DemandIs A v H' n nd xss := by
  obtain ⟨a, dx, q1, q2, q3, q4, rfl, h1, h2, h3, h4, h5⟩ := h
  exact ⟨a, dx, q1, q2, q3, q4, rfl, e _ _ h1, e _ _ h2, e _ _ h3, h4.ex e, e _ _ h5⟩
structure Shp (n : Nat) (nd : List Int) (xss : List (List Int)) : Prop where
  n1 : 1 ≤ n
  n2 : n ≤ 12
  m1 : 1 ≤ xss.length
  m2 : xss.length ≤ 4
  nl : nd.length = xss.length
  nb : ∀ z ∈ nd, 0 ≤ z ∧ z ≤ 3
  asc : ∀ xs ∈ xss, Asc 0 (n : Int) xs

structure LotW (A : Ads) (H : Hp) (a : Addr) (n : Int) (xss : List (List Int)) : Prop where
  at_ : ∃ ws : List V, H a = some (.lst ws) ∧ ws.length = xss.length ∧ ∀ (i : Nat) v, ws[i]? = some v → LotIs A.C_Lot v H n (xss.getD i [])
theorem LotW.ex {A : Ads} {H H' : Hp} {a : Addr} {n : Int} {xss : List (List Int)} (h : LotW A H a n xss) (e : Ex H H') : LotW A H' a n xss := by
  obtain ⟨ws, h1, h2, h3⟩ := h.at_
  exact ⟨ws, e _ _ h1, h2, fun i v hv => (h3 i v hv).ex e⟩
theorem LotW.lots {K : PySem.W.Frag} {A : Ads} {H : Hp} {a : Addr} {n : Int} {xss : List (List Int)} (h : LotW A H a n xss) : Lots K A.C_Lot H a n xss := by
  obtain ⟨ws, h1, h2, h3⟩ := h.at_
  exact ⟨ws, sq_of h1, h2, h3⟩
def KX (x : Addr) (H G : Hp) : Prop := ∀ b o, b ≠ x → H b = some o → G b = some o
theorem KX.ex {x : Addr} {H G G' : Hp} (k : KX x H G) (e : Ex G G') : KX x H G' := fun b o hb ho => e _ _ (k b o hb ho)
theorem KX.put {x : Addr} {H G : Hp} {o : HO} (k : KX x H G) : KX x H (upd G x o) := fun b p hb ho => by rw [upd_ne hb]; exact k b p hb ho
theorem ne_ins {G : Hp} {x q C dx : Addr} {fs : List (Str × V)} {us : List V} (hq : G q = some (.lst us)) (hx : G x = some (.ins C dx fs)) : q ≠ x := fun z => by rw [z, hx] at hq; cases hq
theorem keepL {G : Hp} {x q C dx : Addr} {fs : List (Str × V)} {us : List V} {o : HO} (hq : G q = some (.lst us)) (hx : G x = some (.ins C dx fs)) : upd G x o q = some (.lst us) := by rw [upd_ne (ne_ins hq hx)]; exact hq
theorem LotW.kx {A : Ads} {H G : Hp} {a x C dx : Addr} {n : Int} {xss : List (List Int)} (h : LotW A H a n xss) (hx : H x = some (.ins C dx [])) (k : KX x H G) : LotW A G a n xss := by
  obtain ⟨ws, h1, h2, h3⟩ := h.at_
  refine ⟨ws, k _ _ (ne_ins h1 hx) h1, h2, fun i v hv => ?_⟩
  obtain ⟨⟨p, dx', l, e, g1, g2⟩, hn, ha⟩ := h3 i v hv
  refine ⟨⟨p, dx', l, e, k _ _ (fun z => ?_) g1, k _ _ (ne_ins g2 hx) g2⟩, hn, ha⟩
  rw [z, hx] at g1
  have g := congrArg (fun o => match o with | some (HO.ins _ _ fs) => fs.length | _ => 9) g1
  exact absurd (show (0 : Nat) = 2 from g) (by decide)
theorem MeetL.put {G : Hp} {x q C dx : Addr} {fs : List (Str × V)} {o : HO} {n : Nat} {xss : List (List Int)} (h : MeetL G q n xss) (hx : G x = some (.ins C dx fs)) : MeetL (upd G x o) q n xss := by
  obtain ⟨ts, h1, h2, h3⟩ := h
  exact ⟨ts, keepL h1 hx, h2, fun g v hv => by obtain ⟨t, z1, z2⟩ := h3 g v hv; exact ⟨t, z1, keepL z2 hx⟩⟩
theorem putF_new {f : Str} {v : V} : ∀ {fs : List (Str × V)}, (∀ p ∈ fs, ¬ p.1 = f) → putF f v fs = fs ++ [(f, v)]
  | [], _ => rfl
  | p :: r, h => by
    show (if p.1 = f then _ else p :: putF f v r) = _
    rw [if_neg (h p List.mem_cons_self), putF_new fun q hq => h q (List.mem_cons_of_mem _ hq)]
    rfl
theorem q_fldN {K : PySem.W.Frag} {C x dx : Addr} {te : TE} {f : Str} {D : Ends} {tz : TS} {σ : L2.St} {H : Hp} {i : Nat} {fs : List (Str × V)} {P : V → Hp → Prop} (ks : List Str) (h : EvR te σ H P) (hs : σ[i]? = some (some (.ref x))) (hi : H x = some (.ins C dx fs)) (c : Cls K C) (na : NoAttr K C f) (hk : fs.map (·.1) = ks) (hf : f ∉ ks) (hl : ks.length < 1000) (k : ∀ v H1, Ex H H1 → P v H1 → tz D σ (upd H1 x (.ins C dx (fs ++ [(f, v)])))) : tSeq (sFld K (tVar i) te f) tz D σ H := q_fldR h hs hi c na (by rw [← List.length_map (f := (·.1)), hk]; exact hl) fun v H1 e p => by
  rw [putF_new fun q hq z => hf (by rw [← hk, ← z]; exact List.mem_map_of_mem hq)]
  exact k v H1 e p
theorem s_fldN {K : PySem.W.Frag} {C x dx : Addr} {te : TE} {f : Str} {D : Ends} {σ : L2.St} {H : Hp} {i : Nat} {fs : List (Str × V)} {P : V → Hp → Prop} (ks : List Str) (h : EvR te σ H P) (hs : σ[i]? = some (some (.ref x))) (hi : H x = some (.ins C dx fs)) (c : Cls K C) (na : NoAttr K C f) (hk : fs.map (·.1) = ks) (hf : f ∉ ks) (hl : ks.length < 1000) (k : ∀ v H1, Ex H H1 → P v H1 → D.nx σ (upd H1 x (.ins C dx (fs ++ [(f, v)])))) : sFld K (tVar i) te f D σ H := s_fldR h hs hi c na (by rw [← List.length_map (f := (·.1)), hk]; exact hl) fun v H1 e p => by
  rw [putF_new fun q hq z => hf (by rw [← hk, ← z]; exact List.mem_map_of_mem hq)]
  exact k v H1 e p
theorem er_counts {E : XK} {te : TE} {σ : L2.St} {H : Hp} {n : Nat} (h : Ev te σ H (.int (n : Int))) (hn : n ≤ 12) : EvR (tCall spCounts [] E (tCons te tNil)) σ H fun v G => ∃ p, v = .ref p ∧ G p = some (.lst ((List.range (2 ^ n)).map fun b => V.int (pc b : Nat))) := fun H1 e Q q => h H1 e _ fun H2 e2 => ⟨n, rfl, hn, fun p H' hp e' h' => q _ H' (e2.trans e') ⟨p, rfl, h'⟩⟩

theorem el_copyB {K : PySem.W.Frag} {te : TE} {σ : L2.St} {H : Hp} {p : Addr} {xs : List V} (h : Ev te σ H (.ref p)) (hp : SqL K H p xs) : EvL (tCB (rListK K) (tCons te tNil)) σ H xs := fun H1 e Q q =>
  h H1 e _ fun H2 e2 => ⟨p, xs, rfl, .inl (ex_l (e.trans e2) hp), fun l hl => q l _ (fresh_back e2 hl) (e2.trans (Ex.new hl)) upd_same⟩

def spDemInit (K : PySem.W.Frag) (A : Ads) : Sp := fun vs H Q _ => ∃ (x dx a b : Addr) (n : Nat) (xss : List (List Int)) (nd : List Int), vs = [.ref x, .ref a, .ref b] ∧ H x = some (.ins A.C_Demand dx []) ∧ LotW A H a (n : Int) xss ∧ H b = some (.lst (nd.map V.int)) ∧ Shp n nd xss ∧
  ∀ H', KX x H H' → DemandIs A (.ref x) H' n nd xss → Q .non H' 
theorem ok_Demand_init (T : Txt K mg A) : FnOk P w K mg base (L2.CX P w) 5 A.f_Demand_init A.d_Demand_init (["self", "lots", "needs"] : List Str) (spDemInit K A) := by
  refine T.F_Demand_init.okX sc_Demand_init (fun vs H Q E h => ?_) (fun cdv Ar outer s H vs Q E hr h => ?_)
  · obtain ⟨x, dx, a, b, n, xss, nd, rfl, _⟩ := h
    rfl
  · obtain ⟨x, dx, a, b, n, xss, nd, rfl, hx, hL, hb, sh, k⟩ := h
    refine ⟨_, (pss_cons (ps_fld (pv 0) (pe_fldK (pe_ix ix_lK (pv 1) pe_int (fun _ _ => rfl)) rfl) rfl)
        (pss_cons (ps_fld (pv 0) (pe_callTy list_K (by rfl) T.z_list (by decide +kernel) (pa_cons (pv 2) pa_nil)) rfl)
        (pss_cons (ps_fld (pv 0) (pe_lc (own := [("lot", 3)]) (g := gName 3) (tt := tYes) rfl sc_Demand_init.nd (pi_listK (pv 1)) (blkOk_by (own := [("lot", 3)]) (N := N_Demand_init) (sc := defScope s_Demand_init) (by decide +kernel)) (fun _ _ _ _ _ => (pg_name (i := 3) sc_Demand_init.nd rfl (Or.inl rfl))) (fun _ _ _ _ _ => pts_nil) (fun _ _ _ _ _ => (pe_callB (call_lenO (E := E0) T.M_Lot_len (ok_Lot_len T) (hr.mono (by omega)) (b_Lot_len T) (pAt pass0)) (by rfl) T.z_len (by decide +kernel) (pa_cons (pv 3) pa_nil)))) rfl)
        (pss_cons (ps_fld (pv 0) (pe_lc (own := [("lot", 3)]) (g := gName 3) (tt := tYes) rfl sc_Demand_init.nd (pi_listK (pv 1)) (blkOk_by (own := [("lot", 3)]) (N := N_Demand_init) (sc := defScope s_Demand_init) (by decide +kernel)) (fun _ _ _ _ _ => (pg_name (i := 3) sc_Demand_init.nd rfl (Or.inr rfl))) (fun _ _ _ _ _ => pts_nil) (fun _ _ _ _ _ => (pe_lc (own := [("hour", 4)]) (g := gName 4) (tt := tYes) rfl sc_Demand_init.nd (pi_range1 rfl T.z_range (pa_cons (pe_fldK (pv 3) rfl) pa_nil)) (by dsimp only [cxOf, Cx.nox, Cx.blk, compEnvC]; show BlkOk _ (relS _ (defScope s_Demand_init)) _ _; exact blkOk_by (own := [("hour", 4)]) (N := N_Demand_init) (by decide +kernel)) (fun _ _ _ _ _ => (pg_name (i := 4) sc_Demand_init.nd rfl (Or.inl rfl))) (fun _ _ _ _ _ => pts_nil) (fun _ _ _ _ _ => (pe_call (ok_u_starts_meeting T) (hr.mono (by omega)) rfl T.g_u_starts_meeting T.k_u_starts_meeting (b_u_starts_meeting T) .nil pass0 (pa_cons (pv 3) (pa_cons (pv 4) pa_nil))))))) rfl)
        (pss_one (ps_fld (pv 0) (pe_call (ok_bit_counts T) (hr.mono (by omega)) rfl T.g_bit_counts T.k_bit_counts (b_bit_counts T) .nil pass0 (pa_cons (pe_fldK (pv 0) rfl) pa_nil)) rfl)))))), ?_⟩
    have n1 := sh.n1
    have n2 := sh.n2
    have m1 := sh.m1
    have m2 := sh.m2
    have nl := sh.nl
    obtain ⟨ws, ha, wl, wa⟩ := id hL.at_
    have wi : ∀ {i : Nat}, i < xss.length → ws[i]? = some (ws.getD i .non) := fun h => by rw [List.getD_eq_getElem?_getD, List.getElem?_eq_getElem (by omega)]; rfl
    have lot : ∀ {G : Hp} {i : Nat}, KX x H G → i < xss.length → LotIs A.C_Lot (ws.getD i .non) G (n : Int) (xss.getD i []) := fun {G i} kx hi => by
      obtain ⟨us, u1, u2, u3⟩ := (hL.kx hx kx).at_
      have e : us = ws := by
        have := kx _ _ (ne_ins ha hx) ha
        rw [this] at u1
        cases u1
        rfl
      subst e
      exact u3 i _ (wi hi)
    have ka : ∀ {G : Hp}, KX x H G → G a = some (.lst ws) := fun kx => kx _ _ (ne_ins ha hx) ha
    have k0 : KX x H H := fun b o _ h => h
    obtain ⟨p0, dx0, l0, hp0, g1, g2⟩ := (lot k0 (show 0 < xss.length by omega)).at_
    try dsimp only
    refine q_fldN [] (P := fun v _ => v = .int (n : Int)) (er_ev (ev_hours (K := K) (ev_is (ev_op (ev_var (i := 1) rfl) ev_c (rv_ixL (K := K) (sq_of ha) (atI_nat (j := 0) (wi (by omega))))) hp0) g1 T.cl_Lot T.na_Lot_hours) fun _ _ => rfl) rfl hx T.cl_Demand T.na_Demand_hours rfl (by decide +kernel) (by decide) fun v H1 e1 hv => ?_
    subst hv
    have k1 := (k0.ex e1).put (o := .ins A.C_Demand dx ([] ++ [(("hours" : Str), V.int (n : Int))]))
    have hx1 : upd H1 x (.ins A.C_Demand dx ([] ++ [(("hours" : Str), V.int (n : Int))])) x = some (.ins A.C_Demand dx ([] ++ [(("hours" : Str), V.int (n : Int))])) := upd_same
    generalize upd H1 x (.ins A.C_Demand dx ([] ++ [(("hours" : Str), V.int (n : Int))])) = G1 at *
    try dsimp only
    refine q_fldN ["hours"] (er_L (el_copyB (K := K) (ev_var (i := 2) rfl) (sq_of (k1 _ _ (ne_ins hb hx) hb)))) rfl hx1 T.cl_Demand T.na_Demand_needs rfl (by decide +kernel) (by decide) fun v H2 e2 hv => ?_
    obtain ⟨q1, rfl, hq1⟩ := hv
    have k2 := (k1.ex e2).put (o := .ins A.C_Demand dx (([] ++ [(("hours" : Str), V.int (n : Int))]) ++ [(("needs" : Str), V.ref q1)]))
    have hq1 := keepL (o := .ins A.C_Demand dx (([] ++ [(("hours" : Str), V.int (n : Int))]) ++ [(("needs" : Str), V.ref q1)])) hq1 (e2 _ _ hx1)
    have hx2 : upd H2 x (.ins A.C_Demand dx (([] ++ [(("hours" : Str), V.int (n : Int))]) ++ [(("needs" : Str), V.ref q1)])) x = some (.ins A.C_Demand dx (([] ++ [(("hours" : Str), V.int (n : Int))]) ++ [(("needs" : Str), V.ref q1)])) := upd_same
    generalize upd H2 x (.ins A.C_Demand dx (([] ++ [(("hours" : Str), V.int (n : Int))]) ++ [(("needs" : Str), V.ref q1)])) = G2 at *
    try dsimp only
    refine q_fldN ["hours", "needs"] (er_L (el_mapN (K := K) (m := xss.length) (f := fun i => V.int ((xss.getD i []).length : Nat)) (xs := ws) (eb_ev (ev_var (i := 1) rfl) fun G e => ⟨a, rfl, sq_of (e _ _ (ka k2))⟩) wl (by omega) (fun x => rfl) fun i G hi e => by
      rw [wi hi]
      exact ev_lotLen (A := A) (n := (n : Int)) (er_ev (ev_var (i := 3) rfl) fun G' e' => lot (k2.ex (e.trans e')) hi))) rfl hx2 T.cl_Demand T.na_Demand_sizes rfl (by decide +kernel) (by decide) fun v H3 e3 hv => ?_
    obtain ⟨q2, rfl, hq2⟩ := hv
    have k3 := (k2.ex e3).put (o := .ins A.C_Demand dx ((([] ++ [(("hours" : Str), V.int (n : Int))]) ++ [(("needs" : Str), V.ref q1)]) ++ [(("sizes" : Str), V.ref q2)]))
    have hq1 := keepL (o := .ins A.C_Demand dx ((([] ++ [(("hours" : Str), V.int (n : Int))]) ++ [(("needs" : Str), V.ref q1)]) ++ [(("sizes" : Str), V.ref q2)])) (e3 _ _ hq1) (e3 _ _ hx2)
    have hq2 := keepL (o := .ins A.C_Demand dx ((([] ++ [(("hours" : Str), V.int (n : Int))]) ++ [(("needs" : Str), V.ref q1)]) ++ [(("sizes" : Str), V.ref q2)])) hq2 (e3 _ _ hx2)
    have hx3 : upd H3 x (.ins A.C_Demand dx ((([] ++ [(("hours" : Str), V.int (n : Int))]) ++ [(("needs" : Str), V.ref q1)]) ++ [(("sizes" : Str), V.ref q2)])) x = some (.ins A.C_Demand dx ((([] ++ [(("hours" : Str), V.int (n : Int))]) ++ [(("needs" : Str), V.ref q1)]) ++ [(("sizes" : Str), V.ref q2)])) := upd_same
    generalize upd H3 x (.ins A.C_Demand dx ((([] ++ [(("hours" : Str), V.int (n : Int))]) ++ [(("needs" : Str), V.ref q1)]) ++ [(("sizes" : Str), V.ref q2)])) = G3 at *
    try dsimp only
    refine q_fldN ["hours", "needs", "sizes"] (P := fun v G => ∃ q, v = .ref q ∧ MeetL G q n xss) (EvR.imp (en_lc (fun i w G => ∃ t, w = .ref t ∧ G t = some (.lst ((List.range n).map fun h => V.int (meetB n (xss.getD i []) h : Nat)))) (ei_list (K := K) (eb_ev (ev_var (i := 1) rfl) fun G e => ⟨a, rfl, sq_of (e _ _ (ka k3))⟩)) (by omega) bd_at (fun i _ => rfl) (fun i G hi e => ?_)).er fun v G hv => ?_) rfl hx3 T.cl_Demand T.na_Demand_meeting rfl (by decide +kernel) (by decide) fun v H4 e4 hv => ?_
    · have hi : i < xss.length := by omega
      rw [wi hi]
      obtain ⟨pi, dxi, li, hpi, gi, _⟩ := (lot (k3.ex e) hi).at_
      have lt := lot (k3.ex e) hi
      generalize ws.getD i .non = wv at *
      subst hpi
      exact en_L (el_rngY (n := n) (fun h => V.int (meetB n (xss.getD i []) h : Nat)) (ea_cons (ev_hours (K := K) (ev_var (i := 3) rfl) gi T.cl_Lot T.na_Lot_hours) ea_nil) (by omega) (fun x => rfl) fun h G' hh e' => ev_call (z := .int (meetB n (xss.getD i []) h : Nat)) (ea_cons (ev_var (i := 3) rfl) (ea_cons (ev_var (i := 4) rfl) ea_nil)) fun G2 e2 Q q _ => ⟨_, n, h, xss.getD i [], rfl, lt.ex (e'.trans e2), ⟨n1, n2⟩, fun H' e'' => q H' e''⟩)
    · obtain ⟨q, us, rfl, u1, u2, u3⟩ := hv
      exact ⟨q, rfl, us, u1, by omega, u3⟩
    obtain ⟨q3, rfl, hq3⟩ := hv
    have k4 := (k3.ex e4).put (o := .ins A.C_Demand dx (((([] ++ [(("hours" : Str), V.int (n : Int))]) ++ [(("needs" : Str), V.ref q1)]) ++ [(("sizes" : Str), V.ref q2)]) ++ [(("meeting" : Str), V.ref q3)]))
    have hq1 := keepL (o := .ins A.C_Demand dx (((([] ++ [(("hours" : Str), V.int (n : Int))]) ++ [(("needs" : Str), V.ref q1)]) ++ [(("sizes" : Str), V.ref q2)]) ++ [(("meeting" : Str), V.ref q3)])) (e4 _ _ hq1) (e4 _ _ hx3)
    have hq2 := keepL (o := .ins A.C_Demand dx (((([] ++ [(("hours" : Str), V.int (n : Int))]) ++ [(("needs" : Str), V.ref q1)]) ++ [(("sizes" : Str), V.ref q2)]) ++ [(("meeting" : Str), V.ref q3)])) (e4 _ _ hq2) (e4 _ _ hx3)
    have hq3 := hq3.put (o := .ins A.C_Demand dx (((([] ++ [(("hours" : Str), V.int (n : Int))]) ++ [(("needs" : Str), V.ref q1)]) ++ [(("sizes" : Str), V.ref q2)]) ++ [(("meeting" : Str), V.ref q3)])) (e4 _ _ hx3)
    have hx4 : upd H4 x (.ins A.C_Demand dx (((([] ++ [(("hours" : Str), V.int (n : Int))]) ++ [(("needs" : Str), V.ref q1)]) ++ [(("sizes" : Str), V.ref q2)]) ++ [(("meeting" : Str), V.ref q3)])) x = some (.ins A.C_Demand dx (((([] ++ [(("hours" : Str), V.int (n : Int))]) ++ [(("needs" : Str), V.ref q1)]) ++ [(("sizes" : Str), V.ref q2)]) ++ [(("meeting" : Str), V.ref q3)])) := upd_same
    generalize upd H4 x (.ins A.C_Demand dx (((([] ++ [(("hours" : Str), V.int (n : Int))]) ++ [(("needs" : Str), V.ref q1)]) ++ [(("sizes" : Str), V.ref q2)]) ++ [(("meeting" : Str), V.ref q3)])) = G4 at *
    try dsimp only
    refine s_fldN ["hours", "needs", "sizes", "meeting"] (er_counts (n := n) (ev_fldQ (ev_var (i := 0) rfl) hx4 T.cl_Demand T.na_Demand_hours rfl) n2) rfl hx4 T.cl_Demand T.na_Demand_counted rfl (by decide +kernel) (by decide) fun v H5 e5 hv => ?_
    obtain ⟨q4, rfl, hq4⟩ := hv
    have hx5 := e5 _ _ hx4
    exact k _ (k4.ex e5).put ⟨x, dx, q1, q2, q3, q4, rfl, upd_same, keepL (e5 _ _ hq1) hx5, by
      have := keepL (o := .ins A.C_Demand dx ((((([] ++ [(("hours" : Str), V.int (n : Int))]) ++ [(("needs" : Str), V.ref q1)]) ++ [(("sizes" : Str), V.ref q2)]) ++ [(("meeting" : Str), V.ref q3)]) ++ [(("counted" : Str), V.ref q4)])) (e5 _ _ hq2) hx5
      rw [this]
      congr 2
      refine List.ext_getElem (by simp) fun i h1 h2 => ?_
      simp at h1
      simp [List.getD_eq_getElem?_getD, List.getElem?_eq_getElem h1], (hq3.ex e5).put hx5, keepL hq4 hx5⟩

def spLacks (A : Ads) : Sp := fun vs H Q _ => ∃ (dv : V) (n t g : Nat) (nd : List Int) (xss : List (List Int)), vs = [dv, .int (t : Int), .int (g : Int)] ∧ DemandIs A dv H n nd xss ∧ Shp n nd xss ∧ t < 2 ^ n ∧ g < xss.length ∧ ∀ p H', H p = none → Ex H H' → H' p = some (.lst ((lackL n xss nd t g).map V.int)) → Q (.ref p) H' 
theorem ok_Demand_lacks (T : Txt K mg A) : FnOk P w K mg base CX0 1 A.f_Demand_lacks A.d_Demand_lacks (["self", "taken", "gate"] : List Str) (spLacks A) := by
  refine T.F_Demand_lacks.ok sc_Demand_lacks (fun vs H Q E h => ?_) (fun cdv Ar outer s H vs Q E hr h => ?_)
  · obtain ⟨dv, n, t, g, nd, xss, rfl, _⟩ := h
    rfl
  · obtain ⟨dv, n, t, g, nd, xss, rfl, hD, sh, ht, hg, k⟩ := h
    refine ⟨_, (pss_cons (ps_set (i := 3) sc_Demand_lacks.nd rfl (Or.inr rfl) (pe_fldK (pv 0) rfl))
        (pss_cons (ps_set (i := 4) sc_Demand_lacks.nd rfl (Or.inr rfl) (pe_ix ix_lK (pe_fldK (pv 0) rfl) (pv 2) (fun _ _ => rfl)))
        (pss_one (ps_ret (pe_lc (own := [("starts", 5)]) (g := gName 5) (tt := tYes) rfl sc_Demand_lacks.nd (pi_listK (pe_ix ix_lK (pe_fldK (pv 0) rfl) (pv 2) (fun _ _ => rfl))) (blkOk_by (own := [("starts", 5)]) (N := N_Demand_lacks) (sc := defScope s_Demand_lacks) (by decide +kernel)) (fun _ _ _ _ _ => (pg_name (i := 5) sc_Demand_lacks.nd rfl (Or.inl rfl))) (fun _ _ _ _ _ => pts_nil) (fun _ _ _ _ _ => (pe_callB (call_max2 rfl) (by rfl) T.z_max (by decide +kernel) (pa_cons pe_int (pa_cons (pe_op op_sub (pv 4) (pe_ix ix_lK (pv 3) (pe_op op_and (pv 1) (pv 5)) (fun _ _ => rfl))) pa_nil))))))))), ?_⟩
    obtain ⟨a, dx, q1, q2, q3, q4, rfl, h1, h2, h3, h4, h5⟩ := id hD
    obtain ⟨ts, t1, t2, t3⟩ := h4
    have n2 := sh.n2
    have nl := sh.nl
    have vg : ts[g]? = some ts[g] := List.getElem?_eq_getElem (by omega)
    obtain ⟨tg, htg, hT⟩ := t3 g _ vg
    rw [htg] at vg
    have p2 : 2 ^ n ≤ 4096 := Nat.pow_le_pow_right (show 0 < 2 by decide) n2
    try dsimp only
    refine q_asg (v := .ref q4) (ev_fldQ (ev_var (i := 0) rfl) h1 T.cl_Demand T.na_Demand_counted rfl) fun H1 e1 => ?_
    try dsimp only
    refine q_asg (v := .int (nd.getD g 0)) (ev_op (ev_fldQ (ev_var (i := 0) rfl) (e1 _ _ h1) T.cl_Demand T.na_Demand_needs rfl) (ev_var (i := 2) rfl) (rv_ixL (K := K) (sq_of (e1 _ _ h2)) (atI_nat (by rw [List.getElem?_map, List.getD_eq_getElem?_getD, List.getElem?_eq_getElem (by omega)]; rfl)))) fun H2 e2 => ?_
    have e02 := e1.trans e2
    try dsimp only
    refine (el_isW (el_mapN (K := K) (m := n) (f := fun h => V.int (lackO (nd.getD g 0 - ((pc (t &&& meetB n (xss.getD g []) h) : Nat) : Int)))) (eb_ev (ev_op (ev_fldQ (ev_var (i := 0) rfl) (e02 _ _ h1) T.cl_Demand T.na_Demand_meeting rfl) (ev_var (i := 2) rfl) (rv_ixL (K := K) (sq_of (e02 _ _ t1)) (atI_nat vg))) fun G e => ⟨tg, rfl, sq_of ((e02.trans e) _ _ hT)⟩) (by rw [List.length_map, List.length_range]) (by omega) (fun x => rfl) fun i H3 hi e3 => ?_) (by unfold lackL; rw [List.map_map]; rfl)) H2 (Ex.refl H2) _ fun p H3 hp e3 h3' => k p H3 (fresh_back e02 hp) (e02.trans e3) h3'
    rw [List.getElem?_map, List.getElem?_range hi]
    have lt : t &&& meetB n (xss.getD g []) i < 2 ^ n := Nat.lt_of_le_of_lt Nat.and_le_left ht
    exact ev_cb (ea_cons ev_c (ea_cons (ev_op (ev_var (i := 4) rfl) (ev_op (ev_var (i := 3) rfl) (ev_is (ev_op (ev_var (i := 1) rfl) (ev_var (i := 5) rfl) rv_I0) (congrArg V.int (and_ii _ _))) (rv_ixL (K := K) (sq_of ((e02.trans e3) _ _ h5)) (atI_nat (by rw [List.getElem?_map, List.getElem?_range lt]; rfl)))) rv_I0) ea_nil)) fun G e Q q => ⟨0, _, rfl, q G (Ex.refl G)⟩

theorem ev_allN {K : PySem.W.Frag} {σ : L2.St} {H : Hp} {te : TE} {bs : List Bool} (h : EvL te σ H (bs.map V.bl)) : Ev (tCB (rAll K) (tCons te tNil)) σ H (.bl (bs.all id)) := fun H1 e Q q => h H1 e _ fun p H2 _ e2 hp => ⟨p, bs, rfl, sq_of hp, q H2 e2⟩

theorem el_lacks {A : Ads} {E : XK} {ta tb tc : TE} {σ : L2.St} {H : Hp} {dv : V} {n t g : Nat} {nd : List Int} {xss : List (List Int)} (h1 : Ev ta σ H dv) (h2 : Ev tb σ H (.int (t : Int))) (h3 : Ev tc σ H (.int (g : Int))) (hD : DemandIs A dv H n nd xss) (sh : Shp n nd xss) (ht : t < 2 ^ n) (hg : g < xss.length) : EvL (tMeth A.C_Demand "lacks" (spLacks A) [] E ta (tCons tb (tCons tc tNil))) σ H ((lackL n xss nd t g).map V.int) := fun H1 e Q q => h1 H1 e _ fun H2 e2 => by
  obtain ⟨a, dx, q1, q2, q3, q4, rfl, z1, _⟩ := id (hD.ex (e.trans e2))
  exact ⟨a, dx, _, rfl, z1, by rfl, h2 H2 (e.trans e2) _ fun H3 e3 => h3 H3 ((e.trans e2).trans e3) _ fun H4 e4 => ⟨.ref a, n, t, g, nd, xss, rfl, hD.ex (((e.trans e2).trans e3).trans e4), sh, ht, hg, fun p H' hp e' h' => q p H' (fresh_back ((e2.trans e3).trans e4) hp) (((e2.trans e3).trans e4).trans e') h'⟩⟩
def spIsMet (A : Ads) : Sp := fun vs H Q _ => ∃ (dv : V) (n t : Nat) (nd : List Int) (xss : List (List Int)), vs = [dv, .int (t : Int)] ∧ DemandIs A dv H n nd xss ∧ Shp n nd xss ∧ t < 2 ^ n ∧ ∀ H', Ex H H' → Q (.bl (metB n xss nd t)) H' 
theorem ok_Demand_is_met (T : Txt K mg A) : FnOk P w K mg base CX0 3 A.f_Demand_is_met A.d_Demand_is_met (["self", "taken"] : List Str) (spIsMet A) := by
  refine T.F_Demand_is_met.ok sc_Demand_is_met (fun vs H Q E h => ?_) (fun cdv Ar outer s H vs Q E hr h => ?_)
  · obtain ⟨dv, n, t, nd, xss, rfl, _⟩ := h
    rfl
  · obtain ⟨dv, n, t, nd, xss, rfl, hD, sh, ht, k⟩ := h
    refine ⟨_, (pss_one (ps_ret (pe_callB (cr_allK rfl) (by rfl) T.z_all (by decide +kernel) (pa_cons (pe_lc (own := [("gate", 2)]) (g := gName 2) (tt := tYes) rfl sc_Demand_is_met.nd (pi_range1 rfl T.z_range (pa_cons (pe_callB len_K (by rfl) T.z_len (by decide +kernel) (pa_cons (pe_fldK (pv 0) rfl) pa_nil)) pa_nil)) (blkOk_by (own := [("gate", 2)]) (N := N_Demand_is_met) (sc := defScope s_Demand_is_met) (by decide +kernel)) (fun _ _ _ _ _ => (pg_name (i := 2) sc_Demand_is_met.nd rfl (Or.inl rfl))) (fun _ _ _ _ _ => pts_nil) (fun _ _ _ _ _ => (pe_cmpR op_eq (pe_callB (cr_sumK rfl) (by rfl) T.z_sum (by decide +kernel) (pa_cons (pe_meth (pv 0) T.cl_Demand T.M_Demand_lacks (ok_Demand_lacks T) (hr.mono (by omega)) (b_Demand_lacks T) .nil pass0 (pa_cons (pv 1) (pa_cons (pv 2) pa_nil))) pa_nil)) pe_int (nomark _)))) pa_nil)))), ?_⟩
    obtain ⟨a, dx, q1, q2, q3, q4, rfl, h1, h2, _⟩ := id hD
    have m2 := sh.m2
    have nl := sh.nl
    try dsimp only
    refine s_ret (v := .bl (metB n xss nd t)) (ev_is (ev_allN (K := K) (bs := (List.range xss.length).map fun g => decide ((lackL n xss nd t g).sum = 0)) (el_isW (el_rngY (n := xss.length) (fun g => V.bl (decide ((lackL n xss nd t g).sum = 0))) (ea_cons (ev_cb (r := rLenK K) (ea_cons (ev_fldQ (ev_var (i := 0) rfl) h1 T.cl_Demand T.na_Demand_needs rfl) ea_nil) fun G e Q q => ⟨.ref q1, xss.length, rfl, .inl ⟨_, sq_of (e _ _ h2), by rw [List.length_map]; omega⟩, q G (Ex.refl G)⟩) ea_nil) (by omega) (fun x => rfl) fun g G hg e => ev_is (ev_op (ev_sumN (K := K) (ns := lackL n xss nd t g) (el_lacks (A := A) (n := n) (nd := nd) (xss := xss) (t := t) (g := g) (ev_var (i := 0) rfl) (ev_var (i := 1) rfl) (ev_var (i := 2) rfl) (hD.ex e) sh ht hg)) ev_c (rv_eq rfl)) (by rw [dec_ii])) (by rw [List.map_map]; rfl))) (by unfold metB; rw [List.all_map]; rfl)) fun G e => k G e

theorem ev_isMet {A : Ads} {E : XK} {ta tb : TE} {σ : L2.St} {H : Hp} {dv : V} {n t : Nat} {nd : List Int} {xss : List (List Int)} (h1 : Ev ta σ H dv) (h2 : Ev tb σ H (.int (t : Int))) (hD : DemandIs A dv H n nd xss) (sh : Shp n nd xss) (ht : t < 2 ^ n) : Ev (tMeth A.C_Demand "is_met" (spIsMet A) [] E ta (tCons tb tNil)) σ H (.bl (metB n xss nd t)) := fun H1 e Q q => h1 H1 e _ fun H2 e2 => by
  obtain ⟨a, dx, q1, q2, q3, q4, rfl, z1, _⟩ := id (hD.ex (e.trans e2))
  exact ⟨a, dx, _, rfl, z1, by rfl, h2 H2 (e.trans e2) _ fun H3 e3 => ⟨.ref a, n, t, nd, xss, rfl, hD.ex ((e.trans e2).trans e3), sh, ht, fun H' e' => q H' ((e2.trans e3).trans e')⟩⟩
def spLeastMet (A : Ads) : Sp := fun vs H Q _ => ∃ (dv : V) (n : Nat) (nd : List Int) (xss : List (List Int)), vs = [dv] ∧ DemandIs A dv H n nd xss ∧ Shp n nd xss ∧ ∀ (L : Nat) H', L < 2 ^ n → (L = 2 ^ n - 1 ∨ metB n xss nd L = true) → (∀ t, t < 2 ^ n → metB n xss nd t = true → pc L ≤ pc t) → Ex H H' → Q (.int (L : Int)) H' 
theorem ok_u_least_met (T : Txt K mg A) : FnOk P w K mg base CX0 5 A.f_u_least_met A.d_u_least_met (["demand"] : List Str) (spLeastMet A) := by
  refine T.F_u_least_met.ok sc_u_least_met (fun vs H Q E h => ?_) (fun cdv Ar outer s H vs Q E hr h => ?_)
  · obtain ⟨dv, n, nd, xss, rfl, _⟩ := h
    rfl
  · obtain ⟨dv, n, nd, xss, rfl, hD, sh, k⟩ := h
    refine ⟨_, (pss_cons (ps_set (i := 1) sc_u_least_met.nd rfl (Or.inl rfl) (pe_fldK (pv 0) rfl))
        (pss_cons (ps_set (i := 2) sc_u_least_met.nd rfl (Or.inl rfl) (pe_op op_sub (pe_callB len_K (by rfl) T.z_len (by decide +kernel) (pa_cons (pv 1) pa_nil)) pe_int))
        (pss_cons (ps_for PassesOwn.never rfl (pi_range1 rfl T.z_range (pa_cons (pe_callB len_K (by rfl) T.z_len (by decide +kernel) (pa_cons (pv 1) pa_nil)) pa_nil)) (pg_name (i := 3) sc_u_least_met.nd rfl (Or.inl rfl)) (pss_one (ps_if (PW.pt (pw_and (pt_cmpR op_lt (pe_ix ix_lK (pv 1) (pv 3) (fun _ _ => rfl)) (pe_ix ix_lK (pv 1) (pv 2) (fun _ _ => rfl)) (nomark _)) (pw_and1 (pt_val (pe_meth (pv 0) T.cl_Demand T.M_Demand_is_met (ok_Demand_is_met T) (hr.mono (by omega)) (b_Demand_is_met T) .nil pass0 (pa_cons (pv 3) pa_nil)))))) (pss_one (ps_set (i := 2) sc_u_least_met.nd rfl (Or.inl rfl) (pv 3))) pss_nil)))
        (pss_one (ps_ret (pv 2)))))), ?_⟩
    obtain ⟨a, dx, q1, q2, q3, q4, rfl, h1, h2, h3, h4, h5⟩ := id hD
    have n2 := sh.n2
    have p1 : 1 ≤ 2 ^ n := Nat.one_le_two_pow
    have p2 : 2 ^ n ≤ 4096 := Nat.pow_le_pow_right (show 0 < 2 by decide) n2
    have cl : ((List.range (2 ^ n)).map fun b => V.int ((pc b : Nat) : Int)).length = 2 ^ n := by rw [List.length_map, List.length_range]
    have cat : ∀ {b : Nat}, b < 2 ^ n → atI ((List.range (2 ^ n)).map fun b => V.int ((pc b : Nat) : Int)) (b : Int) = some (.int ((pc b : Nat) : Int)) := fun h => atI_nat (by rw [List.getElem?_map, List.getElem?_range h]; rfl)
    generalize hW : 2 ^ n = W at *
    have lenE : ∀ {σ : L2.St} {G : Hp}, σ[1]? = some (some (.ref q4)) → Ex H G → Ev (tCB (rLenK K) (tCons (tVar 1) tNil)) σ G (.int (W : Int)) := fun h e => ev_cb (r := rLenK K) (ea_cons (ev_var h) ea_nil) fun H2 e2 Q q => ⟨.ref q4, W, rfl, .inl ⟨_, sq_of ((e.trans e2) _ _ h5), cl.symm⟩, q H2 (Ex.refl H2)⟩
    try dsimp only
    refine q_asg (v := .ref q4) (ev_fldQ (ev_var (i := 0) rfl) h1 T.cl_Demand T.na_Demand_counted rfl) fun H1 e1 => ?_
    try dsimp only
    refine q_asg (v := .int ((W - 1 : Nat) : Int)) (ev_is (ev_op (lenE rfl e1) ev_c rv_I0) (congrArg V.int (by omega))) fun H2 e2 => ?_
    have e02 := e1.trans e2
    try dsimp only
    refine q_forR1 (j := 3) (n := (W : Int)) (ea_cons (lenE rfl e02) ea_nil) (by omega) (fun i σ' G => ∃ (L : Nat) (v3 : Option V), σ' = [some (.ref a), some (.ref q4), some (.int (L : Int)), v3] ∧ Ex H G ∧ L < W ∧ (L = W - 1 ∨ metB n xss nd L = true) ∧ ∀ t, t < i → metB n xss nd t = true → pc L ≤ pc t) (fun G e => ⟨W - 1, _, rfl, e02.trans e, by omega, .inl rfl, fun t h => absurd h (by omega)⟩) ?_ ?_
    · rintro i σ' G hi ⟨L, v3, rfl, eG, hL, hor, hall⟩
      have hi : i < W := by omega
      try dsimp only
      refine s_when (b := decide (((pc i : Nat) : Int) < ((pc L : Nat) : Int)) && metB n xss nd i) (et_and (et_test (ev_op (ev_op (ev_var (i := 1) rfl) (ev_var (i := 3) rfl) (rv_ixL (K := K) (sq_of (eG _ _ h5)) (cat hi))) (ev_op (ev_var (i := 1) rfl) (ev_var (i := 2) rfl) (rv_ixL (K := K) (sq_of (eG _ _ h5)) (cat hL))) rv_I0)) fun _ => et_B (ev_isMet (A := A) (n := n) (nd := nd) (xss := xss) (ev_var (i := 0) rfl) (ev_var (i := 3) rfl) (hD.ex eG) sh (by rw [hW]; exact hi))) (fun hb G1 g1 => ?_) (fun hb G1 g1 => ?_)
      · rw [Bool.and_eq_true] at hb
        have h1 : pc i < pc L := by have := of_decide_eq_true hb.1; omega
        exact s_asg (v := .int (i : Int)) (ev_var (i := 3) rfl) fun G2 g2 => ⟨i, _, rfl, (eG.trans g1).trans g2, hi, .inr hb.2, fun t ht hm => by
          by_cases c : t = i
          · subst c; exact Nat.le_refl _
          · exact Nat.le_trans (Nat.le_of_lt h1) (hall t (by omega) hm)⟩
      · refine ⟨L, _, rfl, eG.trans g1, hL, hor, fun t ht hm => ?_⟩
        by_cases c : t = i
        · subst c
          rw [hm, Bool.and_true] at hb
          have := of_decide_eq_false hb
          omega
        · exact hall t (by omega) hm
    rintro σ' G ⟨L, v3, rfl, eG, hL, hor, hall⟩
    rw [Int.toNat_natCast] at hall
    exact s_ret (ev_var (i := 2) rfl) fun G1 g1 => k L G1 hL hor hall (eG.trans g1)
def TreeHyp (n : Nat) (xss : List (List Int)) (nd : List Int) (t room : Nat) : Prop := ∀ u, u < 2 ^ n → pc u ≤ pc t + room → metB n xss nd u = false
def freeB (M t b : Nat) : Nat := (M - (M &&& t)) - ((M - (M &&& t)) &&& b)
def barAt (b : Nat) (l : List Int) : Nat := l.foldl (fun B s => B ||| 1 <<< s.toNat) b
def lackG (n : Nat) (xss : List (List Int)) (nd : List Int) (t g h : Nat) : Int := lackO (nd.getD g 0 - ((pc (t &&& meetB n (xss.getD g []) h) : Nat) : Int))
def frL (n : Nat) (xss : List (List Int)) (t b g h : Nat) : List Int := lstB (freeB (meetB n (xss.getD g []) h) t b)
def KT (K : PySem.W.Frag) (H H' : Hp) : Prop := ∀ q xs, SqT K H q xs → SqT K H' q xs
theorem KT.ex {K : PySem.W.Frag} {H H' : Hp} (e : Ex H H') : KT K H H' := fun _ _ h => ex_t e h
theorem KT.trans {K : PySem.W.Frag} {H H' H'' : Hp} (k : KT K H H') (k' : KT K H' H'') : KT K H H'' := fun q xs h => k' q xs (k q xs h)
theorem KT.upd {K : PySem.W.Frag} {H : Hp} {l : Addr} {us : List V} {o : HO} (hl : H l = some (.lst us)) : KT K H (upd H l o) := fun q xs h => by
  rcases h with h | h
  · rcases h with h | h
    · exact st_of (by rw [upd_ne (fun z => by rw [z, hl] at h; cases h)]; exact h)
    · obtain ⟨o2, h⟩ := h
      exact .inl (.inr ⟨o2, by rw [upd_ne (fun z => by rw [z, hl] at h; cases h)]; exact h⟩)
  · exact .inr h
def LeafAt (K : PySem.W.Frag) (H : Hp) (n : Nat) (xss : List (List Int)) (nd : List Int) (room : Nat) (v : V) (t b : Nat) : Prop :=
  (∃ (q : Addr) (g : Nat), v = .ref q ∧ SqT K H q [.str "count", .int (g : Int)] ∧ g < xss.length ∧ (room : Int) * (((xss.getD g []).length : Nat) : Int) < (lackL n xss nd t g).sum) ∨
  (∃ (q : Addr) (g h : Nat), v = .ref q ∧ SqT K H q [.str "few", .int (g : Int), .int (h : Int)] ∧ g < xss.length ∧ h < n ∧ (((frL n xss t b g h).length : Nat) : Int) < lackG n xss nd t g h)
def BranchP (K : PySem.W.Frag) (H : Hp) (n : Nat) (xss : List (List Int)) (t b g h : Nat) (v : V) (P : V → Nat → Nat → Prop) : Prop := ∃ (q q2 : Addr) (ws : List V), v = .ref q ∧ SqT K H q [.str "split", .int (g : Int), .int (h : Int), .ref q2] ∧ SqT K H q2 ws ∧ ws.length = (frL n xss t b g h).length ∧ ∀ (i : Nat) w (s : Nat), ws[i]? = some w → (frL n xss t b g h)[i]? = some (s : Int) → P w (t ||| 1 <<< s) (barAt b ((frL n xss t b g h).take i))
def TreeAt (K : PySem.W.Frag) (H : Hp) (n : Nat) (xss : List (List Int)) (nd : List Int) : Nat → V → Nat → Nat → Prop
  | 0, v, t, b => LeafAt K H n xss nd 0 v t b
  | r + 1, v, t, b => LeafAt K H n xss nd (r + 1) v t b ∨ ∃ g h, g < xss.length ∧ h < n ∧ 0 < lackG n xss nd t g h ∧ lackG n xss nd t g h ≤ (((frL n xss t b g h).length : Nat) : Int) ∧ BranchP K H n xss t b g h v (TreeAt K H n xss nd r)
theorem LeafAt.keep {K : PySem.W.Frag} {H H' : Hp} {n : Nat} {xss : List (List Int)} {nd : List Int} {room : Nat} {v : V} {t b : Nat} (k : KT K H H') (h : LeafAt K H n xss nd room v t b) : LeafAt K H' n xss nd room v t b := by
  rcases h with ⟨q, g, h1, h2, h3⟩ | ⟨q, g, h', h1, h2, h3⟩
  · exact .inl ⟨q, g, h1, k _ _ h2, h3⟩
  · exact .inr ⟨q, g, h', h1, k _ _ h2, h3⟩
theorem BranchP.keep {K : PySem.W.Frag} {H H' : Hp} {n : Nat} {xss : List (List Int)} {t b g h : Nat} {v : V} {P P' : V → Nat → Nat → Prop} (k : KT K H H') (i : ∀ w t b, P w t b → P' w t b) (x : BranchP K H n xss t b g h v P) : BranchP K H' n xss t b g h v P' := by
  obtain ⟨q, q2, ws, h1, h2, h3, h4, h5⟩ := x
  exact ⟨q, q2, ws, h1, k _ _ h2, k _ _ h3, h4, fun j w s hw hs => i _ _ _ (h5 j w s hw hs)⟩
theorem TreeAt.keep {K : PySem.W.Frag} {H H' : Hp} {n : Nat} {xss : List (List Int)} {nd : List Int} (k : KT K H H') : ∀ {r : Nat} {v : V} {t b : Nat}, TreeAt K H n xss nd r v t b → TreeAt K H' n xss nd r v t b
  | 0, _, _, _, h => LeafAt.keep k h
  | r + 1, _, _, _, h => by
    rcases h with h | ⟨g, h', h1, h2, h3, h4, h5⟩
    · exact .inl (h.keep k)
    · exact .inr ⟨g, h', h1, h2, h3, h4, h5.keep k fun w t b z => TreeAt.keep k z⟩
theorem TreeAt.leaf {K : PySem.W.Frag} {H : Hp} {n : Nat} {xss : List (List Int)} {nd : List Int} : ∀ {r : Nat} {v : V} {t b : Nat}, LeafAt K H n xss nd r v t b → TreeAt K H n xss nd r v t b
  | 0, _, _, _, h => h
  | _ + 1, _, _, _, h => .inl h
theorem lackL_at {n t g h : Nat} {xss : List (List Int)} {nd : List Int} (hh : h < n) : (lackL n xss nd t g).getD h 0 = lackG n xss nd t g h := by
  unfold lackL lackG
  rw [List.getD_eq_getElem?_getD, List.getElem?_map, List.getElem?_range hh]
  rfl
theorem sum_zero : ∀ {l : List Int}, (∀ x ∈ l, x = 0) → l.sum = 0
  | [], _ => rfl
  | y :: l, h => by rw [List.sum_cons, h y List.mem_cons_self, sum_zero fun z hz => h z (List.mem_cons_of_mem y hz)]; rfl
theorem lack_zero {n t g : Nat} {xss : List (List Int)} {nd : List Int} (h : ∀ j, j < n → lackG n xss nd t g j = 0) : (lackL n xss nd t g).sum = 0 := by
  refine sum_zero fun x hx => ?_
  obtain ⟨j, hj, rfl⟩ := List.mem_map.mp hx
  exact h j (List.mem_range.mp hj)
def spTree (K : PySem.W.Frag) (A : Ads) (r : Nat) : Sp := fun vs H Q _ => ∃ (dv : V) (n t b room : Nat) (nd : List Int) (xss : List (List Int)), vs = [dv, .int (t : Int), .int (b : Int), .int (room : Int)] ∧ DemandIs A dv H n nd xss ∧ Shp n nd xss ∧ t < 2 ^ n ∧ b < 2 ^ n ∧ room ≤ r ∧ TreeHyp n xss nd t room ∧ ∀ v H', Ex H H' → TreeAt K H' n xss nd room v t b → Q v H'
def spSplit (K : PySem.W.Frag) (A : Ads) (r : Nat) : Sp := fun vs H Q _ => ∃ (dv : V) (n t b room g h : Nat) (pq : Addr) (nd : List Int) (xss : List (List Int)), vs = [dv, .int (t : Int), .int (b : Int), .int (room : Int), .ref pq] ∧ DemandIs A dv H n nd xss ∧ Shp n nd xss ∧ t < 2 ^ n ∧ b < 2 ^ n ∧ (1 ≤ room ∧ room ≤ r) ∧ TreeHyp n xss nd t room ∧ SqT K H pq [.int (g : Int), .int (h : Int)] ∧ g < xss.length ∧ h < n ∧ ∀ v H', Ex H H' → BranchP K H' n xss t b g h v (TreeAt K H' n xss nd (room - 1)) → Q v H'

theorem s_appR {K : PySem.W.Frag} {ta te : TE} {D : Ends} {σ : L2.St} {H : Hp} {l : Addr} {xs : List V} {P : V → Hp → Prop} (hl : H l = some (.lst xs)) (ha : Ev ta σ H (.ref l)) (h : EvR te σ H P) (hz : xs.length < 100000) (k : ∀ v H1, Ex H H1 → P v H1 → D.nx σ (upd H1 l (.lst (xs ++ [v])))) :
    tDrop (tBM K "list" rAppend ta (tCons te tNil)) D σ H := ha H (Ex.refl H) _ fun H1 e1 => ⟨Or.inl ⟨rfl, xs, sq_of (e1 l _ hl)⟩, h H1 e1 _ fun v H2 e2 hv => ⟨l, xs, v, rfl, rfl, e2 l _ (e1 l _ hl), sz_lt hz, k v H2 (e1.trans e2) hv⟩⟩

def rTupOf (K : PySem.W.Frag) : List V → Hp → VK → Prop := fun xs H Q => ∃ p ys, xs = [V.ref p] ∧ ((SqL K H p ys ∧ ∀ (l : Addr), H l = none → Q (V.ref l) (upd H l (HO.tup ys))) ∨ SqT K H p ys ∧ Q (V.ref p) H)
theorem eu_tupOf {K : PySem.W.Frag} {te : TE} {σ : L2.St} {H : Hp} {p : Addr} {xs : List V} (h : Ev te σ H (.ref p)) (hp : SqL K H p xs) : EvU (tCB (rTupOf K) (tCons te tNil)) σ H xs := fun H1 e Q q =>
  h H1 e _ fun H2 e2 => ⟨p, xs, rfl, .inl ⟨ex_l (e.trans e2) hp, fun l hl => q l _ (fresh_back e2 hl) (e2.trans (Ex.new hl)) upd_same⟩⟩
theorem er_tupU {te : TE} {σ : L2.St} {H : Hp} {xs : List V} {P : V → Hp → Prop} (h : EvU te σ H xs) (hp : ∀ p H1, H1 p = some (.tup xs) → P (.ref p) H1) : EvR te σ H P := fun H1 e Q q => h H1 e _ fun p H2 _ e2 h2 => q _ H2 e2 (hp p H2 h2)

theorem ru_invI {H : Hp} {i : Int} : RU (rU fun i => V.int (Builtin.bitNot i)) (.int i) H (.int (Builtin.bitNot i)) := fun H1 _ _ q => ⟨i, rfl, q H1 (Ex.refl H1)⟩
theorem rv_isNone {x : V} {H : Hp} : RV (fun x y H Q => y = V.non ∧ Q (V.bl (decide (x = V.non))) H) x .non H (.bl (decide (x = V.non))) := fun H1 _ _ q => ⟨rfl, q H1 (Ex.refl H1)⟩
theorem q_unpT2 {K : PySem.W.Frag} {te : TE} {tz : TS} {D : Ends} {σ : L2.St} {H : Hp} {i j n : Nat} {t : Addr} {x y : V} (h : Ev te σ H (.ref t)) (ht : SqT K H t [x, y]) (k : ∀ H1, Ex H H1 → tz D ((σ.set i (some x)).set j (some y)) H1) (hn : n = 2 := by rfl) :
    tSeq (tAsg te (gTup K n (gCons (gName i) (gCons (gName j) gNil)))) tz D σ H := by
  subst hn
  exact h H (Ex.refl H) _ fun H1 e => ⟨t, _, rfl, ex_t e ht, rfl, x, _, rfl, y, _, rfl, rfl, k H1 e⟩
theorem er_tupS {K : PySem.W.Frag} {t1 t2 t3 t4 : TE} {σ : L2.St} {H : Hp} {a b c : V} {us : List V} (h1 : Ev t1 σ H a) (h2 : Ev t2 σ H b) (h3 : Ev t3 σ H c) (h4 : EvR t4 σ H fun v G => ∃ p, v = .ref p ∧ SqT K G p us) : EvR (tTup (tCons t1 (tCons t2 (tCons t3 (tCons t4 tNil))))) σ H fun v G => ∃ q q2, v = .ref q ∧ SqT K G q [a, b, c, .ref q2] ∧ SqT K G q2 us := fun H1 e Q q => h1 H1 e _ fun H2 e2 => h2 H2 (e.trans e2) _ fun H3 e3 => h3 H3 ((e.trans e2).trans e3) _ fun H4 e4 => h4 H4 (((e.trans e2).trans e3).trans e4) _ fun w H5 e5 hw => ⟨by show 4 ≤ sizeLine; decide, fun p hp => by
  obtain ⟨p2, rfl, hp2⟩ := hw
  exact q _ _ ((((e2.trans e3).trans e4).trans e5).trans (Ex.new hp)) ⟨p, p2, rfl, st_of upd_same, ex_t (Ex.new hp) hp2⟩⟩
theorem er_tup4 {K : PySem.W.Frag} {t1 t2 t3 t4 : TE} {σ : L2.St} {H : Hp} {a b c : V} (h1 : Ev t1 σ H a) (h2 : Ev t2 σ H b) (h3 : Ev t3 σ H c) (h4 : EvR t4 σ H fun _ _ => True) : EvR (tTup (tCons t1 (tCons t2 (tCons t3 (tCons t4 tNil))))) σ H fun v G => ∃ q xs, v = .ref q ∧ SqT K G q xs := fun H1 e Q q => h1 H1 e _ fun H2 e2 => h2 H2 (e.trans e2) _ fun H3 e3 => h3 H3 ((e.trans e2).trans e3) _ fun H4 e4 => h4 H4 (((e.trans e2).trans e3).trans e4) _ fun w H5 e5 _ => ⟨by show 4 ≤ sizeLine; decide, fun p hp => q _ _ ((((e2.trans e3).trans e4).trans e5).trans (Ex.new hp)) ⟨p, _, rfl, st_of upd_same⟩⟩
theorem er_tree {K : PySem.W.Frag} {A : Ads} {r : Nat} {E : XK} {t0 t1 t2 t3 : TE} {σ : L2.St} {H : Hp} {dv : V} {n t b room : Nat} {nd : List Int} {xss : List (List Int)} (h0 : Ev t0 σ H dv) (h1 : Ev t1 σ H (.int (t : Int))) (h2 : Ev t2 σ H (.int (b : Int))) (h3 : Ev t3 σ H (.int (room : Int))) (hD : DemandIs A dv H n nd xss) (sh : Shp n nd xss) (ht : t < 2 ^ n) (hb : b < 2 ^ n) (hr : room ≤ r) (hT : TreeHyp n xss nd t room) : EvR (tCall (spTree K A r) [] E (tCons t0 (tCons t1 (tCons t2 (tCons t3 tNil))))) σ H fun v G => TreeAt K G n xss nd room v t b :=
  er_call (ea_cons h0 (ea_cons h1 (ea_cons h2 (ea_cons h3 ea_nil)))) fun G e Q q => ⟨dv, n, t, b, room, nd, xss, rfl, hD.ex e, sh, ht, hb, hr, hT, fun v H' e' hv => q v H' e' hv⟩
theorem split_of (T : Txt K mg A) (r : Nat) (iht : FnOk P w K mg base CX0 (2 * r + 6) A.f_u_tree A.d_u_tree (["demand", "taken", "barred", "room"] : List Str) (spTree K A r)) : FnOk P w K mg base CX0 (2 * r + 7) A.f_u_split A.d_u_split (["demand", "taken", "barred", "room", "place"] : List Str) (spSplit K A (r + 1)) := by
  refine T.F_u_split.ok sc_u_split (fun vs H Q E h => ?_) (fun cdv Ar outer s H vs Q E hr h => ?_)
  · obtain ⟨dv, n, t, b, room, g, h, pq, nd, xss, rfl, _⟩ := h
    rfl
  · obtain ⟨dv, n, t, b, room, g, h, pq, nd, xss, rfl, hD, sh, ht, hb, hr1, hT, hp, hg, hh, k⟩ := h
    refine ⟨_, (pss_cons (ps_asg (pv 4) (pg_tup rfl (pgs_cons (pg_name (i := 5) sc_u_split.nd rfl (Or.inl rfl)) (pgs_cons (pg_name (i := 6) sc_u_split.nd rfl (Or.inl rfl)) pgs_nil))))
        (pss_cons (ps_set (i := 7) sc_u_split.nd rfl (Or.inl rfl) (pe_lst pa_nil))
        (pss_cons (ps_set (i := 8) sc_u_split.nd rfl (Or.inl rfl) (pv 2))
        (pss_cons (ps_for PassesOwn.never rfl (pi_listK (pe_call (ok_listed T) (hr.mono (by omega)) rfl T.g_listed T.k_listed (b_listed T) .nil pass0 (pa_cons (pe_op op_and (pe_op op_and (pe_ix ix_lK (pe_ix ix_lK (pe_fldK (pv 0) rfl) (pv 5) (fun _ _ => rfl)) (pv 6) (fun _ _ => rfl)) (pe_un un_inv (pv 1))) (pe_un un_inv (pv 2))) pa_nil))) (pg_name (i := 9) sc_u_split.nd rfl (Or.inl rfl)) (pss_cons (ps_expr (pe_bm PySem.F.plainAttrs_list PySem.F.slot_list_append PySem.F.type_list_append mt_append (pv 7) (pa_cons (pe_call iht (hr.mono (by omega)) rfl T.g_u_tree T.k_u_tree (b_u_tree T) .nil pass0 (pa_cons (pv 0) (pa_cons (pe_op op_or (pv 1) (pe_op op_shl pe_int (pv 9))) (pa_cons (pv 8) (pa_cons (pe_op op_sub (pv 3) pe_int) pa_nil))))) pa_nil)))
        (pss_one (ps_set (i := 8) sc_u_split.nd rfl (Or.inl rfl) (pe_op op_or (pv 8) (pe_op op_shl pe_int (pv 9)))))))
        (pss_one (ps_ret (pe_tup (pa_cons pe_str (pa_cons (pv 5) (pa_cons (pv 6) (pa_cons (pe_callTy call_tuple_of (by rfl) T.z_tuple (by decide +kernel) (pa_cons (pv 7) pa_nil)) pa_nil))))))))))), ?_⟩
    obtain ⟨a, dx, q1, q2, q3, q4, rfl, h1, h2, h3, ⟨ts, t1, t2, t3⟩, h5⟩ := id hD
    have n2 := sh.n2
    have p2 : 2 ^ n ≤ 4096 := Nat.pow_le_pow_right (show 0 < 2 by decide) n2
    have vg : ts[g]? = some ts[g] := List.getElem?_eq_getElem (by omega)
    obtain ⟨tg, htg, hTg⟩ := t3 g _ vg
    rw [htg] at vg
    have ml := meet_lt (n := n) (h := h) (xs := xss.getD g [])
    obtain ⟨M, hM⟩ : ∃ M, meetB n (xss.getD g []) h = M := ⟨_, rfl⟩
    have vm : ((List.range n).map fun h => V.int ((meetB n (xss.getD g []) h : Nat) : Int))[h]? = some (.int (M : Int)) := by rw [List.getElem?_map, List.getElem?_range hh, ← hM]; rfl
    rw [hM] at ml
    obtain ⟨F, hF⟩ : ∃ F, (M - (M &&& t)) - ((M - (M &&& t)) &&& b) = F := ⟨_, rfl⟩
    have hFr : frL n xss t b g h = lstB F := by unfold frL freeB; rw [hM, hF]
    have Fb : ∀ s, F.testBit s = true → t.testBit s = false ∧ s < n := fun s hs => by
      rw [← hF, sub_bit, sub_bit] at hs
      rw [Bool.and_eq_true, Bool.and_eq_true] at hs
      refine ⟨by simpa using hs.1.2, ?_⟩
      refine Decidable.by_contra fun c => ?_
      have := Nat.testBit_lt_two_pow (Nat.lt_of_lt_of_le ml (Nat.pow_le_pow_right (show 0 < 2 by decide) (show n ≤ s by omega)))
      rw [this] at hs
      exact Bool.noConfusion hs.1.1
    have F4 : F < 4096 := by omega
    try dsimp only
    refine q_unpT2 (K := K) (ev_var (i := 4) rfl) hp fun H1 e1 => ?_
    try dsimp only
    refine q_asgL (xs := []) (el_lst ea_nil (by decide)) fun bp H2 hbp e2 hb2 => ?_
    have hbp0 : H bp = none := fresh_back e1 hbp
    try dsimp only
    refine q_asg (v := .int (b : Int)) (ev_var (i := 2) rfl) fun H3 e3 => ?_
    have e03 := (e1.trans e2).trans e3
    have hb3 := e3 _ _ hb2
    try dsimp only
    refine q_forVia (P := fun v G => ∃ p, v = .ref p ∧ p ≠ bp ∧ G p = some (.lst ((lstB F).map V.int))) (er_call (vs := [.int (F : Int)]) (ea_cons (ev_is (ev_op (ev_is (ev_op (ev_op (ev_op (ev_fldQ (ev_var (i := 0) rfl) (e03 _ _ h1) T.cl_Demand T.na_Demand_meeting rfl) (ev_var (i := 5) rfl) (rv_ixL (K := K) (sq_of (e03 _ _ t1)) (atI_nat vg))) (ev_var (i := 6) rfl) (rv_ixL (K := K) (sq_of (e03 _ _ hTg)) (atI_nat vm))) (ev_un (ev_var (i := 1) rfl) ru_invI) rv_I0) (congrArg V.int (and_nn M t))) (ev_un (ev_var (i := 2) rfl) ru_invI) rv_I0) (congrArg V.int (by rw [and_nn, hF]))) ea_nil) fun G e Q q => ⟨F, rfl, F4, fun p H' hp e' h' => q _ H' e' ⟨p, rfl, (fun z => by rw [z, e _ _ hb3] at hp; cases hp), h'⟩⟩) fun v H4 e4 hv => ?_
    obtain ⟨lp, rfl, lpb, hlp⟩ := hv
    try dsimp only
    refine q_forLn (K := K) (a := lp) (xs := (lstB F).map V.int) (j := 9) ev_c (sq_of hlp) (fun i σ' G => ∃ (B : Nat) (us : List V) (v9 : Option V), σ' = [some (.ref a), some (.int (t : Int)), some (.int (b : Int)), some (.int (room : Int)), some (.ref pq), some (.int (g : Int)), some (.int (h : Int)), some (.ref bp), some (.int (B : Int)), v9] ∧ Ex H G ∧ G bp = some (.lst us) ∧ us.length = i ∧ B < 2 ^ n ∧ (B = barAt b ((lstB F).take i) ∧ ∀ (k : Nat) w (s : Nat), us[k]? = some w → (lstB F)[k]? = some (s : Int) → TreeAt K G n xss nd (room - 1) w (t ||| 1 <<< s) (barAt b ((lstB F).take k))) ∧ G lp = some (.lst ((lstB F).map V.int))) (fun G e => ⟨b, [], none, rfl, (e03.trans e4).trans e, (e4.trans e) _ _ hb3, rfl, hb, ⟨rfl, fun k w s hw => by cases hw⟩, e _ _ hlp⟩) (fun i σ' G _ ⟨_, _, _, _, _, _, _, _, _, z⟩ => sq_of z) ?_ ?_
    · rintro i y σ' G hy ⟨B, us, v9, rfl, eG, hu, ul, hB, ⟨hBe, hall⟩, hl⟩
      obtain ⟨x, rfl, hx⟩ := some_int hy
      have hxm := mem_lstB.mp (List.mem_of_getElem? hx)
      obtain ⟨s, rfl⟩ := Int.eq_ofNat_of_zero_le hxm.1.1
      rw [Int.toNat_natCast] at hxm
      have hs := Fb s hxm.2
      have il : i < (lstB F).length := (List.getElem?_eq_some_iff.mp hx).1
      have l12 : (lstB F).length ≤ 12 := by
        rw [lstB_len]
        have := List.length_filter_le (fun i => F.testBit i) (List.range 12)
        rwa [List.length_range] at this
      have sl : 1 <<< s < 2 ^ n := by rw [Nat.one_shiftLeft]; exact Nat.pow_lt_pow_right (by decide) hs.2
      have shE : ∀ {σ : L2.St} {G : Hp}, σ[9]? = some (some (.int (s : Int))) → Ev (tOp (rI CPow fun i j => V.int (i * 2 ^ j.toNat)) (tC (.int 1)) (tVar 9)) σ G (.int ((1 <<< s : Nat) : Int)) := fun h => ev_is (ev_op ev_c (ev_var h) (rv_I (show CPow 1 (s : Int) from ⟨by omega, by omega, by decide⟩))) (congrArg V.int (shl_ii s))
      have pcs := pc_add (t := t) (by omega) hs.1
      try dsimp only
      refine s_appR (D := { nx := _, ct := _, bk := _, rt := Q }) hu (ev_var (i := 7) rfl) (er_tree (K := K) (A := A) (n := n) (nd := nd) (xss := xss) (t := t ||| 1 <<< s) (b := B) (room := room - 1) (ev_var (i := 0) rfl) (ev_is (ev_op (ev_var (i := 1) rfl) (shE rfl) rv_I0) (congrArg V.int (or_ii _ _))) (ev_var (i := 8) rfl) (ev_is (ev_op (ev_var (i := 3) rfl) ev_c rv_I0) (congrArg V.int (by omega))) (hD.ex eG) sh (Nat.or_lt_two_pow ht sl) hB (by omega) (fun u hu hpu => hT u hu (by omega))) (by omega) fun w' X1 x1 hw' => ?_
      try dsimp only
      refine s_asg (v := .int ((B ||| 1 <<< s : Nat) : Int)) (ev_is (ev_op (ev_var (i := 8) rfl) (shE rfl) rv_I0) (congrArg V.int (or_ii _ _))) fun X2 x2 => ⟨_, us ++ [w'], _, rfl, (Ex.mut (eG.trans x1) hbp0).trans x2, x2 _ _ upd_same, by rw [List.length_append, ul]; rfl, Nat.or_lt_two_pow hB sl, ⟨by
        rw [List.take_succ, hx]
        show B ||| 1 <<< s = barAt b ((lstB F).take i ++ [(s : Int)])
        unfold barAt at hBe ⊢
        rw [List.foldl_append, ← hBe]
        rfl, fun k w' s' hw hs' => ?_⟩, x2 _ _ (by rw [upd_ne lpb]; exact x1 _ _ hl)⟩
      have kt : KT K G X2 := ((KT.ex x1).trans (KT.upd (x1 _ _ hu))).trans (KT.ex x2)
      by_cases ck : k < us.length
      · rw [List.getElem?_append_left ck] at hw
        exact (hall k w' s' hw hs').keep kt
      · have hk := (List.getElem?_eq_some_iff.mp hw).1
        rw [List.length_append] at hk
        have hk : k < us.length + 1 := hk
        have e : k = i := by omega
        subst e
        rw [List.getElem?_append_right (by omega), ← ul, Nat.sub_self] at hw
        cases hw
        rw [hx] at hs'
        have e : s' = s := by have := Option.some.inj hs'; omega
        subst e
        rw [← hBe]
        exact hw'.keep ((KT.upd (x1 _ _ hu)).trans (KT.ex x2))
    rintro σ' G ⟨B, us, v9, rfl, eG, hu, ul, hB, ⟨hBe, hall⟩, hl⟩
    try dsimp only
    refine s_retR (er_tupS (K := K) (us := us) ev_c (ev_var (i := 5) rfl) (ev_var (i := 6) rfl) fun G1 g1 Q1 q1 => (eu_tupOf (K := K) (ev_var (i := 7) rfl) (sq_of hu)) G1 g1 _ fun p G2 _ g2 z2 => q1 _ G2 g2 ⟨p, rfl, st_of z2⟩) fun v G1 g1 hv => ?_
    obtain ⟨q, q2, rfl, hq, hq2⟩ := hv
    refine k _ G1 (eG.trans g1) ⟨q, q2, us, rfl, hq, hq2, ?_, ?_⟩
    · rw [hFr, ul, List.length_map]
    · intro j w s hw hs
      rw [hFr] at hs ⊢
      exact (hall j w s hw hs).keep (KT.ex g1)
theorem split_zero (T : Txt K mg A) : FnOk P w K mg base CX0 (2 * 0 + 5) A.f_u_split A.d_u_split (["demand", "taken", "barred", "room", "place"] : List Str) (spSplit K A 0) :=
  ⟨fun vs H Q E h => by obtain ⟨dv, n, t, b, room, g, h, pq, nd, xss, rfl, _⟩ := h; rfl, fun Ar outer s H args us vs Q E _ _ _ _ h => by obtain ⟨dv, n, t, b, room, g, h, pq, nd, xss, _, _, _, _, _, hr, _⟩ := h; omega⟩
def SvOk (n : Nat) (xss : List (List Int)) (nd : List Int) (t b : Nat) (sv : V) (g h : Nat) (D : Nat → Nat → Prop) : Prop := (sv = .non ∧ ∀ g' h', D g' h' → lackG n xss nd t g' h' = 0) ∨ (∃ z : Int, sv = .int z ∧ 0 < lackG n xss nd t g h ∧ lackG n xss nd t g h ≤ (((frL n xss t b g h).length : Nat) : Int))
theorem SvOk.mono {n : Nat} {xss : List (List Int)} {nd : List Int} {t b : Nat} {sv : V} {g h : Nat} {D D' : Nat → Nat → Prop} (x : SvOk n xss nd t b sv g h D) (i : ∀ g' h', D' g' h' → D g' h') : SvOk n xss nd t b sv g h D' := x.imp (fun z => ⟨z.1, fun g' h' c => z.2 g' h' (i g' h' c)⟩) id
theorem SvOk.step {n : Nat} {xss : List (List Int)} {nd : List Int} {t b : Nat} {sv : V} {g h i j : Nat} (x : SvOk n xss nd t b sv g h fun g' h' => (g' < i ∧ h' < n) ∨ (g' = i ∧ h' < j)) (z : sv = .non → lackG n xss nd t i j = 0) : SvOk n xss nd t b sv g h fun g' h' => (g' < i ∧ h' < n) ∨ (g' = i ∧ h' < j + 1) := x.imp (fun y => ⟨y.1, fun g' h' c => by
  by_cases e : g' = i ∧ h' = j
  · rw [e.1, e.2]; exact z y.1
  · exact y.2 g' h' (by omega)⟩) id
theorem tree_of (T : Txt K mg A) (r : Nat) (ihs : FnOk P w K mg base CX0 (2 * r + 5) A.f_u_split A.d_u_split (["demand", "taken", "barred", "room", "place"] : List Str) (spSplit K A r)) : FnOk P w K mg base CX0 (2 * r + 6) A.f_u_tree A.d_u_tree (["demand", "taken", "barred", "room"] : List Str) (spTree K A r) := by
  refine T.F_u_tree.ok sc_u_tree (fun vs H Q E h => ?_) (fun cdv Ar outer s H vs Q E hr h => ?_)
  · obtain ⟨dv, n, t, b, room, nd, xss, rfl, _⟩ := h
    rfl
  · obtain ⟨dv, n, t, b, room, nd, xss, rfl, hD, sh, ht, hb, hr1, hT, k⟩ := h
    refine ⟨_, (pss_cons (ps_setLc (i := 4) (own := [("gate", 5)]) (g := gName 5) (tt := tYes) rfl sc_u_tree.nd rfl rfl (sw_true rfl rfl rfl (by decide +kernel)) (pi_range1 rfl T.z_range (pa_cons (pe_callB len_K (by rfl) T.z_len (by decide +kernel) (pa_cons (pe_fldK (pv 0) rfl) pa_nil)) pa_nil)) (blkOk_by (own := [("gate", 5)]) (N := N_u_tree) (sc := defScope s_u_tree) (by decide +kernel)) (fun _ _ _ _ _ => (pg_name (i := 5) sc_u_tree.nd rfl (Or.inl rfl))) (fun _ _ _ _ _ => pts_nil) (fun _ _ _ _ _ => (pe_meth (pv 0) T.cl_Demand T.M_Demand_lacks (ok_Demand_lacks T) (hr.mono (by omega)) (b_Demand_lacks T) .nil pass0 (pa_cons (pv 1) (pa_cons (pv 5) pa_nil)))))
        (pss_cons (ps_for PassesOwn.never rfl (pi_enum (by rfl) T.z_enumerate (pa_cons (pe_fldK (pv 0) rfl) pa_nil)) (pg_tup rfl (pgs_cons (pg_name (i := 5) sc_u_tree.nd rfl (Or.inl rfl)) (pgs_cons (pg_name (i := 6) sc_u_tree.nd rfl (Or.inl rfl)) pgs_nil))) (pss_one (ps_if (pt_cmpR op_gt (pe_callB (cr_sumK rfl) (by rfl) T.z_sum (by decide +kernel) (pa_cons (pe_ix ix_lK (pv 4) (pv 5) (fun _ _ => rfl)) pa_nil)) (pe_op op_mul (pv 3) (pv 6)) (nomark _)) (pss_one (ps_ret (pe_tup (pa_cons pe_str (pa_cons (pv 5) pa_nil))))) pss_nil)))
        (pss_cons (ps_set (i := 7) sc_u_tree.nd rfl (Or.inl rfl) pe_non)
        (pss_cons (ps_set (i := 8) sc_u_tree.nd rfl (Or.inl rfl) (pe_tup (pa_cons pe_int (pa_cons pe_int pa_nil))))
        (pss_cons (ps_for PassesOwn.never rfl (pi_enum (by rfl) T.z_enumerate (pa_cons (pv 4) pa_nil)) (pg_tup rfl (pgs_cons (pg_name (i := 5) sc_u_tree.nd rfl (Or.inl rfl)) (pgs_cons (pg_name (i := 9) sc_u_tree.nd rfl (Or.inl rfl)) pgs_nil))) (pss_one (ps_for PassesOwn.never rfl (pi_enum (by rfl) T.z_enumerate (pa_cons (pv 9) pa_nil)) (pg_tup rfl (pgs_cons (pg_name (i := 10) sc_u_tree.nd rfl (Or.inl rfl)) (pgs_cons (pg_name (i := 11) sc_u_tree.nd rfl (Or.inl rfl)) pgs_nil))) (pss_cons (ps_set (i := 12) sc_u_tree.nd rfl (Or.inl rfl) (pe_op op_and (pe_op op_and (pe_ix ix_lK (pe_ix ix_lK (pe_fldK (pv 0) rfl) (pv 5) (fun _ _ => rfl)) (pv 10) (fun _ _ => rfl)) (pe_un un_inv (pv 1))) (pe_un un_inv (pv 2))))
        (pss_cons (ps_set (i := 13) sc_u_tree.nd rfl (Or.inl rfl) (pe_op op_sub (pe_ix ix_lK (pe_fldK (pv 0) rfl) (pv 12) (fun _ _ => rfl)) (pv 11)))
        (pss_cons (ps_if (pt_cmpR op_lt (pv 13) pe_int (nomark _)) (pss_one (ps_ret (pe_tup (pa_cons pe_str (pa_cons (pv 5) (pa_cons (pv 10) pa_nil)))))) pss_nil)
        (pss_one (ps_if (PW.pt (pw_and (pt_cmpR op_gt (pv 11) pe_int (nomark _)) (pw_and1 (PW.pt (pw_or (pt_cmpR op_isN (pv 7) pe_non (nomark _)) (pw_or1 (pt_cmpR op_lt (pv 13) (pv 7) (nomark _)))))))) (pss_cons (ps_set (i := 7) sc_u_tree.nd rfl (Or.inl rfl) (pv 13))
        (pss_one (ps_set (i := 8) sc_u_tree.nd rfl (Or.inl rfl) (pe_tup (pa_cons (pv 5) (pa_cons (pv 10) pa_nil)))))) pss_nil))))))))
        (pss_one (ps_ret (pe_call ihs (hr.mono (by omega)) rfl T.g_u_split T.k_u_split (b_u_split T) .nil pass0 (pa_cons (pv 0) (pa_cons (pv 1) (pa_cons (pv 2) (pa_cons (pv 3) (pa_cons (pv 8) pa_nil))))))))))))), ?_⟩
    obtain ⟨a, dx, q1, q2, q3, q4, rfl, h1, h2, h3, ⟨ts, t1, t2, t3⟩, h5⟩ := id hD
    have n1 := sh.n1
    have n2 := sh.n2
    have m2 := sh.m2
    have nl := sh.nl
    have p2 : 2 ^ n ≤ 4096 := Nat.pow_le_pow_right (show 0 < 2 by decide) n2
    have room12 : room ≤ r := hr1
    try dsimp only
    refine q_asgR (en_lcR1 (n := ((xss.length : Nat) : Int)) (fun i w G => ∃ t', w = .ref t' ∧ G t' = some (.lst ((lackL n xss nd t i).map V.int))) (ea_cons (ev_cb (r := rLenK K) (ea_cons (ev_fldQ (ev_var (i := 0) rfl) h1 T.cl_Demand T.na_Demand_needs rfl) ea_nil) fun G e Q q => ⟨.ref q1, xss.length, rfl, .inl ⟨_, sq_of (e _ _ h2), by rw [List.length_map]; omega⟩, q G (Ex.refl G)⟩) ea_nil) (by omega) (fun x => rfl) fun i G e hi => en_L (el_lacks (A := A) (n := n) (nd := nd) (xss := xss) (t := t) (g := i) (ev_var (i := 0) rfl) (ev_var (i := 1) rfl) (ev_var (i := 5) rfl) (hD.ex e) sh ht (by omega))).er fun v H1 e1 hv => ?_
    rw [Int.toNat_natCast] at hv
    obtain ⟨lq, ls, rfl, l1, l2, l3⟩ := hv
    have row : ∀ {g : Nat}, g < xss.length → ∃ tg, ls[g]? = some (.ref tg) ∧ H1 tg = some (.lst ((lackL n xss nd t g).map V.int)) := fun {g} hg => by
      have vi : ls[g]? = some ls[g] := List.getElem?_eq_getElem (by omega)
      obtain ⟨tg, ht', hT'⟩ := l3 g _ vi
      exact ⟨tg, by rw [vi, ht'], hT'⟩
    have lackl : ∀ {g : Nat}, (lackL n xss nd t g).length = n := by intro g; unfold lackL; rw [List.length_map, List.length_range]
    try dsimp only
    refine q_forI (ei_enum (K := K) (eb_ev (ev_fldQ (ev_var (i := 0) rfl) (e1 _ _ h1) T.cl_Demand T.na_Demand_sizes rfl) fun G e => ⟨q2, rfl, sq_of ((e1.trans e) _ _ h3)⟩)) fun H2 e2 => ⟨fun i σ' G => ∃ v5 v6 : Option V, σ' = [some (.ref a), some (.int (t : Int)), some (.int (b : Int)), some (.int (room : Int)), some (.ref lq), v5, v6, none, none, none, none, none, none, none] ∧ Ex H2 G ∧ ∀ g, g < i → (lackL n xss nd t g).sum ≤ (room : Int) * (((xss.getD g []).length : Nat) : Int), ⟨none, none, rfl, Ex.refl _, fun g hg => absurd hg (by omega)⟩, fun i σ' G _ ⟨_, _, _, e, _⟩ => e, ?_, ?_⟩
    · rintro i x σ' G G' hi ⟨v5, v6, rfl, eG, hall⟩ y
      rw [List.length_map] at hi
      refine bd_pair (K := K) i G x G' _ hi y fun eG' => ?_
      dsimp only
      obtain ⟨tg, vg, hTg⟩ := row hi
      have si : (xss.map fun xs => V.int ((xs.length : Nat) : Int))[i]? = some (.int (((xss.getD i []).length : Nat) : Int)) := by
        rw [List.getElem?_map, List.getD_eq_getElem?_getD, List.getElem?_eq_getElem hi]
        rfl
      rw [si]
      have e12 := e2.trans (eG.trans eG')
      have xl := (sh.asc _ (in_getD (d := []) hi)).len
      try dsimp only
      refine s_when (b := decide ((room : Int) * (((xss.getD i []).length : Nat) : Int) < (lackL n xss nd t i).sum)) (et_test (ev_op (ev_cb (r := rSum K) (ea_cons (ev_op (ev_var (i := 4) rfl) (ev_var (i := 5) rfl) (rv_ixL (K := K) (sq_of (e12 _ _ l1)) (atI_nat vg))) ea_nil) fun G e Q q => ⟨tg, _, rfl, sq_of ((e12.trans e) _ _ hTg), q G (Ex.refl G)⟩) (ev_op (ev_var (i := 3) rfl) (ev_var (i := 6) rfl) (rv_I (show CMul (room : Int) (((xss.getD i []).length : Nat) : Int) from .inr ⟨by omega, by omega⟩))) rv_I0)) (fun hc G1 g1 => ?_) (fun hc G1 g1 => ⟨_, _, rfl, (eG.trans eG').trans g1, fun g hg => ?_⟩)
      · exact s_retR (er_tupU (eu_tup (vs := [.str "count", .int (i : Int)]) (ea_cons ev_c (ea_cons (ev_var (i := 5) rfl) ea_nil)) (by show 2 ≤ 100000; decide)) (P := fun v G => TreeAt K G n xss nd room v t b) fun p G2 h => TreeAt.leaf (.inl ⟨p, i, rfl, st_of h, hi, of_decide_eq_true hc⟩)) fun v G2 g2 hv => k v G2 ((e1.trans e12).trans (g1.trans g2)) hv
      · by_cases c : g = i
        · subst c
          have := of_decide_eq_false hc
          omega
        · exact hall g (by omega)
    rintro σ' G ⟨v5, v6, rfl, eG, hall⟩
    rw [List.length_map] at hall
    have room1 : 1 ≤ room := by
      obtain ⟨g, hg, hs⟩ := not_met (hT t ht (by omega))
      have h0 := hall g hg
      refine Decidable.by_contra fun c => ?_
      rw [show room = 0 by omega] at h0
      simp at h0
      omega
    clear hall
    have e1G := e2.trans eG
    try dsimp only
    refine q_asg (v := .non) ev_c fun H3 e3 => ?_
    try dsimp only
    refine q_asgR (er_tupU (eu_tup (vs := [.int ((0 : Nat) : Int), .int ((0 : Nat) : Int)]) (ea_cons ev_c (ea_cons ev_c ea_nil)) (by show 2 ≤ 100000; decide)) (P := fun v G => ∃ q, v = .ref q ∧ SqT K G q [.int ((0 : Nat) : Int), .int ((0 : Nat) : Int)]) fun p G2 h => ⟨p, rfl, st_of h⟩) fun v H4 e4 hv => ?_
    obtain ⟨pq0, rfl, hpq0⟩ := hv
    have e14 := e1G.trans (e3.trans e4)
    let I : Nat → L2.St → Hp → Prop := fun i σ' G => ∃ (sv : V) (pq : Addr) (g h : Nat) (v5 v6 v9 v10 v11 v12 v13 : Option V), σ' = [some (.ref a), some (.int (t : Int)), some (.int (b : Int)), some (.int (room : Int)), some (.ref lq), v5, v6, some sv, some (.ref pq), v9, v10, v11, v12, v13] ∧ Ex H1 G ∧ SvOk n xss nd t b sv g h (fun g' h' => g' < i ∧ h' < n) ∧ SqT K G pq [.int (g : Int), .int (h : Int)] ∧ g < xss.length ∧ h < n
    try dsimp only
    refine q_forI (ei_enum (K := K) (eb_ev (ev_var (i := 4) rfl) fun G e => ⟨lq, rfl, sq_of ((e14.trans e) _ _ l1)⟩)) fun H5 e5 => ⟨fun i σ' G => I i σ' G ∧ Ex H5 G, ⟨⟨.non, pq0, 0, 0, _, _, _, _, _, _, _, rfl, e14.trans e5, .inl ⟨rfl, fun g' h' c => absurd c.1 (by omega)⟩, ex_t e5 hpq0, by have := sh.m1; omega, by omega⟩, Ex.refl _⟩, fun i σ' G _ ⟨_, e⟩ => e, ?_, ?_⟩
    · rintro i x σ' G G' hi ⟨⟨sv, pq, g, h, v5, v6, v9, v10, v11, v12, v13, rfl, eG, hsv, hpq, hg, hh⟩, e5G⟩ y
      have hi : i < xss.length := by omega
      refine bd_pair (K := K) i G x G' _ (by omega) y fun eG' => ?_
      dsimp only
      obtain ⟨tg, vg, hTg⟩ := row hi
      rw [vg]
      have e1' := eG.trans eG'
      try dsimp only
      refine s_forI (ei_enum (K := K) (eb_ev (ev_var (i := 9) rfl) fun G e => ⟨tg, rfl, sq_of ((e1'.trans e) _ _ hTg)⟩)) fun F2 f2 => ⟨fun j σ' F => ∃ (sv : V) (pq : Addr) (g h : Nat) (v10 v11 v12 v13 : Option V), σ' = [some (.ref a), some (.int (t : Int)), some (.int (b : Int)), some (.int (room : Int)), some (.ref lq), some (.int (i : Int)), v6, some sv, some (.ref pq), some (.ref tg), v10, v11, v12, v13] ∧ Ex F2 F ∧ SvOk n xss nd t b sv g h (fun g' h' => (g' < i ∧ h' < n) ∨ (g' = i ∧ h' < j)) ∧ SqT K F pq [.int (g : Int), .int (h : Int)] ∧ g < xss.length ∧ h < n, ⟨sv, pq, g, h, _, _, _, _, rfl, Ex.refl _, hsv.mono fun g' h' c => by omega, ex_t (eG'.trans f2) hpq, hg, hh⟩, fun j σ' F _ ⟨_, _, _, _, _, _, _, _, _, e, _⟩ => e, ?_, ?_⟩
      · rintro j x2 σ' F F' hj ⟨sv, pq, g, h, v10, v11, v12, v13, rfl, eF, hsv, hpq, hg, hh⟩ y2
        rw [List.length_map, lackl] at hj
        refine bd_pair (K := K) j F x2 F' _ hj y2 fun eF' => ?_
        dsimp only
        have ljv : ((lackL n xss nd t i).map V.int)[j]? = some (.int ((lackL n xss nd t i).getD j 0)) := by
          rw [List.getElem?_map, List.getD_eq_getElem?_getD, List.getElem?_eq_getElem (by rw [lackl]; exact hj)]
          rfl
        rw [ljv]
        rw [lackL_at hj]
        obtain ⟨lk, hlk⟩ : ∃ lk, lackG n xss nd t i j = lk := ⟨_, rfl⟩
        rw [hlk]
        have eA := e1'.trans (f2.trans (eF.trans eF'))
        have eB := e1.trans eA
        have vgm : ts[i]? = some ts[i] := List.getElem?_eq_getElem (by omega)
        obtain ⟨tm, htm, hTm⟩ := t3 i _ vgm
        rw [htm] at vgm
        have ml := meet_lt (n := n) (h := j) (xs := xss.getD i [])
        obtain ⟨M, hM⟩ : ∃ M, meetB n (xss.getD i []) j = M := ⟨_, rfl⟩
        have vm : ((List.range n).map fun h => V.int ((meetB n (xss.getD i []) h : Nat) : Int))[j]? = some (.int (M : Int)) := by rw [List.getElem?_map, List.getElem?_range hj, ← hM]; rfl
        rw [hM] at ml
        obtain ⟨Fm, hF⟩ : ∃ F, (M - (M &&& t)) - ((M - (M &&& t)) &&& b) = F := ⟨_, rfl⟩
        have Fl : Fm < 2 ^ n := by omega
        have hFr : ((frL n xss t b i j).length : Nat) = pc Fm := by unfold frL freeB; rw [hM, hF, lstB_len]
        have lk0 : 0 ≤ lk := by rw [← hlk]; exact lackO_nn _
        try dsimp only
        refine q_asg (v := .int (Fm : Int)) (ev_is (ev_op (ev_is (ev_op (ev_op (ev_op (ev_fldQ (ev_var (i := 0) rfl) (eB _ _ h1) T.cl_Demand T.na_Demand_meeting rfl) (ev_var (i := 5) rfl) (rv_ixL (K := K) (sq_of (eB _ _ t1)) (atI_nat vgm))) (ev_var (i := 10) rfl) (rv_ixL (K := K) (sq_of (eB _ _ hTm)) (atI_nat vm))) (ev_un (ev_var (i := 1) rfl) ru_invI) rv_I0) (congrArg V.int (and_nn M t))) (ev_un (ev_var (i := 2) rfl) ru_invI) rv_I0) (congrArg V.int (by rw [and_nn, hF]))) fun F3 f3 => ?_
        try dsimp only
        refine q_asg (v := .int (((pc Fm : Nat) : Int) - lk)) (ev_op (ev_op (ev_fldQ (ev_var (i := 0) rfl) ((eB.trans f3) _ _ h1) T.cl_Demand T.na_Demand_counted rfl) (ev_var (i := 12) rfl) (rv_ixL (K := K) (sq_of ((eB.trans f3) _ _ h5)) (atI_nat (by rw [List.getElem?_map, List.getElem?_range Fl]; rfl)))) (ev_var (i := 11) rfl) rv_I0) fun F4 f4 => ?_
        obtain ⟨lf, hlf⟩ : ∃ lf, ((pc Fm : Nat) : Int) - lk = lf := ⟨_, rfl⟩
        rw [hlf]
        have f34 := f3.trans f4
        try dsimp only
        refine q_when (b := decide (lf < 0)) (et_test (ev_op (ev_var (i := 13) rfl) ev_c rv_I0)) (fun hc F5 f5 => ?_) (fun hc F5 f5 => ?_)
        · exact s_retR (er_tupU (eu_tup (vs := [.str "few", .int (i : Int), .int (j : Int)]) (ea_cons ev_c (ea_cons (ev_var (i := 5) rfl) (ea_cons (ev_var (i := 10) rfl) ea_nil))) (by show 3 ≤ 100000; decide)) (P := fun v G => TreeAt K G n xss nd room v t b) fun p G2 h => TreeAt.leaf (.inr ⟨p, i, j, rfl, st_of h, hi, hj, by rw [hFr, hlk]; have := of_decide_eq_true hc; omega⟩)) fun v G2 g2 hv => k v G2 ((eB.trans f34).trans (f5.trans g2)) hv
        · have hq5 := ex_t (eF'.trans (f34.trans f5)) hpq
          have tb : ∃ c : Bool, (sv = .non → c = true) ∧ EvT (tOr (tTest (tOp (fun x y H Q => y = V.non ∧ Q (V.bl (decide (x = V.non))) H) (tVar 7) (tC V.non))) (tTest (tOp (rI0 fun i j => V.bl (decide (i < j))) (tVar 13) (tVar 7)))) [some (.ref a), some (.int (t : Int)), some (.int (b : Int)), some (.int (room : Int)), some (.ref lq), some (.int (i : Int)), v6, some sv, some (.ref pq), some (.ref tg), some (.int (j : Int)), some (.int lk), some (.int (Fm : Int)), some (.int lf)] F5 c := by
            rcases hsv with ⟨rfl, _⟩ | ⟨z, rfl, _⟩
            · exact ⟨_, fun _ => by simp, et_or (b := true) (et_test (ev_op (ev_var (i := 7) rfl) ev_c rv_isNone)) fun z => by rw [decide_eq_true rfl] at z; cases z⟩
            · exact ⟨_, fun z => (by cases z), et_or (a := decide (V.int z = V.non)) (b := decide (lf < z)) (et_test (ev_op (ev_var (i := 7) rfl) ev_c rv_isNone)) fun _ => et_test (ev_op (ev_var (i := 13) rfl) (ev_var (i := 7) rfl) rv_I0)⟩
          obtain ⟨c, hcn, tb⟩ := tb
          try dsimp only
          refine s_when (b := decide (0 < lk) && c) (et_and (et_test (ev_op (ev_var (i := 11) rfl) ev_c rv_I0)) fun _ => tb) (fun hc2 F6 f6 => ?_) (fun hc2 F6 f6 => ⟨sv, pq, g, h, _, _, _, _, rfl, (eF.trans eF').trans ((f34.trans f5).trans f6), hsv.step fun z => by rw [hcn z, Bool.and_true] at hc2; have := of_decide_eq_false hc2; omega, ex_t f6 hq5, hg, hh⟩)
          try dsimp only
          refine q_asg (v := .int lf) (ev_var (i := 13) rfl) fun F7 f7 => ?_
          try dsimp only
          exact s_asgR (er_tupU (eu_tup (vs := [.int (i : Int), .int (j : Int)]) (ea_cons (ev_var (i := 5) rfl) (ea_cons (ev_var (i := 10) rfl) ea_nil)) (by show 2 ≤ 100000; decide)) (P := fun v G => ∃ q, v = .ref q ∧ SqT K G q [.int (i : Int), .int (j : Int)]) fun p G2 h => ⟨p, rfl, st_of h⟩) fun v F8 f8 hv => by
            obtain ⟨q, rfl, hq⟩ := hv
            exact ⟨.int lf, q, i, j, _, _, _, _, rfl, (eF.trans eF').trans ((f34.trans f5).trans (f6.trans (f7.trans f8))), .inr ⟨lf, rfl, by rw [Bool.and_eq_true] at hc2; rw [hlk]; exact of_decide_eq_true hc2.1, by rw [hlk, hFr]; have := of_decide_eq_false hc; omega⟩, hq, hi, hj⟩
      · rintro σ' F ⟨sv, pq, g, h, v10, v11, v12, v13, rfl, eF, hsv, hpq, hg, hh⟩
        exact ⟨⟨sv, pq, g, h, _, _, _, _, _, _, _, rfl, e1'.trans (f2.trans eF), hsv.mono fun g' h' c => by rw [List.length_map, lackl]; omega, hpq, hg, hh⟩, e5G.trans (eG'.trans (f2.trans eF))⟩
    rintro σ' G ⟨⟨sv, pq, g, h, v5, v6, v9, v10, v11, v12, v13, rfl, eG, hsv, hpq, hg, hh⟩, _⟩
    have hplace : 0 < lackG n xss nd t g h ∧ lackG n xss nd t g h ≤ (((frL n xss t b g h).length : Nat) : Int) := by
      rcases hsv with ⟨_, hz⟩ | ⟨_, _, h1, h2⟩
      · obtain ⟨g', hg', hs'⟩ := not_met (hT t ht (by omega))
        rw [lack_zero fun j hj => hz g' j ⟨by omega, hj⟩] at hs'
        omega
      · exact ⟨h1, h2⟩
    try dsimp only
    exact s_retR (er_call (P := fun v G => TreeAt K G n xss nd room v t b) (ea_cons (ev_var (i := 0) rfl) (ea_cons (ev_var (i := 1) rfl) (ea_cons (ev_var (i := 2) rfl) (ea_cons (ev_var (i := 3) rfl) (ea_cons (ev_var (i := 8) rfl) ea_nil))))) fun G1 g1 Q1 q => ⟨.ref a, n, t, b, room, g, h, pq, nd, xss, rfl, hD.ex ((e1.trans eG).trans g1), sh, ht, hb, ⟨room1, hr1⟩, hT, ex_t g1 hpq, hg, hh, fun v H' e' hv => q v H' e' (by obtain ⟨r', rfl⟩ : ∃ r', room = r' + 1 := ⟨room - 1, by omega⟩; exact .inr ⟨g, h, hg, hh, hplace.1, hplace.2, hv⟩)⟩) fun v G1 g1 hv => k v G1 ((e1.trans eG).trans g1) hv
theorem ok_tree_n (T : Txt K mg A) : ∀ r, FnOk P w K mg base CX0 (2 * r + 6) A.f_u_tree A.d_u_tree (["demand", "taken", "barred", "room"] : List Str) (spTree K A r) := by
  intro r
  induction r with
  | zero => exact tree_of T 0 (split_zero T)
  | succ r ih => exact tree_of T (r + 1) (split_of T r ih)
theorem ok_u_tree (T : Txt K mg A) : FnOk P w K mg base CX0 30 A.f_u_tree A.d_u_tree (["demand", "taken", "barred", "room"] : List Str) (spTree K A 12) := ok_tree_n T 12

theorem bad_none : ∀ {nd : List Int}, (∀ z ∈ nd, 0 ≤ z ∧ z ≤ 3) → badN nd = none
  | [], _ => rfl
  | z :: r, h => (if_pos (h z List.mem_cons_self)).trans (bad_none fun y hy => h y (List.mem_cons_of_mem _ hy))
abbrev lackAt (xss : List (List Int)) (nd : List Int) (g : Nat) : Prop := (((xss.getD g []).length : Nat) : Int) < nd.getD g 0
structure LeastM (n : Nat) (xss : List (List Int)) (nd : List Int) (L : Nat) : Prop where
  lt : L < 2 ^ n
  met : metB n xss nd L = true
  le : ∀ t, t < 2 ^ n → metB n xss nd t = true → pc L ≤ pc t
def FewIs (K : PySem.W.Frag) (A : Ads) (v : V) (H : Hp) (n : Nat) (xss : List (List Int)) (nd : List Int) (L : Nat) : Prop := ∃ x dx sv tv, v = .ref x ∧ H x = some (.ins A.C_Fewest dx [("starts", sv), ("tree", tv)]) ∧ LotIs A.C_Lot sv H (n : Int) (lstB L) ∧ ((pc L = 0 ∧ tv = .non) ∨ (0 < pc L ∧ TreeAt K H n xss nd (pc L - 1) tv 0 0))
theorem er_demand {K : PySem.W.Frag} {A : Ads} {E : XK} {t1 t2 : TE} {σ : L2.St} {H : Hp} {a b : Addr} {n : Nat} {xss : List (List Int)} {nd : List Int} (h1 : Ev t1 σ H (.ref a)) (h2 : Ev t2 σ H (.ref b)) (hL : LotW A H a (n : Int) xss) (hb : H b = some (.lst (nd.map V.int))) (sh : Shp n nd xss) : EvR (tMake A.C_Demand (spDemInit K A) [] E (tCons t1 (tCons t2 tNil))) σ H fun v G => DemandIs A v G n nd xss := fun H1 e Q q => h1 H1 e _ fun H2 e2 => h2 H2 (e.trans e2) _ fun H3 e3 => by
  intro x dx hx hdx hne
  have eN : Ex H3 (upd (upd H3 dx (.own x)) x (.ins A.C_Demand dx [])) := (Ex.new hdx).trans (Ex.new (by rw [upd_ne (Ne.symm hne)]; exact hx))
  have e0 := ((e.trans e2).trans e3).trans eN
  exact ⟨x, dx, a, b, n, xss, nd, rfl, upd_same, hL.ex e0, e0 _ _ hb, sh, fun H' kx hD => ⟨rfl, q _ H' ((e2.trans e3).trans fun c o hc => kx c o (fun z => by rw [z, hx] at hc; cases hc) (eN c o hc)) hD⟩⟩
theorem er_few {A : Ads} {E : XK} {t1 t2 : TE} {σ : L2.St} {H : Hp} {sv : V} {P : V → Hp → Prop} (h1 : Ev t1 σ H sv) (h2 : EvR t2 σ H P) (hP : ∀ v G G', Ex G G' → P v G → P v G') : EvR (tMake A.C_Fewest (spFewInit A) [] E (tCons t1 (tCons t2 tNil))) σ H fun v G => ∃ x dx tv, v = .ref x ∧ G x = some (.ins A.C_Fewest dx [("starts", sv), ("tree", tv)]) ∧ P tv G := fun H1 e Q q => h1 H1 e _ fun H2 e2 => h2 H2 (e.trans e2) _ fun w H3 e3 hw => by
  intro x dx hx hdx hne
  have eN : Ex H3 (upd (upd H3 dx (.own x)) x (.ins A.C_Fewest dx [])) := (Ex.new hdx).trans (Ex.new (by rw [upd_ne (Ne.symm hne)]; exact hx))
  refine ⟨x, dx, sv, w, rfl, upd_same, fun H' kx hx' => ⟨rfl, ?_⟩⟩
  have e' : Ex H3 H' := fun c o hc => kx c o (fun z => by rw [z, hx] at hc; cases hc) (eN c o hc)
  exact q _ H' ((e2.trans e3).trans e') ⟨x, dx, w, rfl, hx', hP _ _ _ e' hw⟩
theorem er_mkL {K : PySem.W.Frag} {A : Ads} {E : XK} {σ : L2.St} {H : Hp} {tn tl : TE} {n : Int} {Pr : Nat → Prop} (hs : Ev tn σ H (.int n)) (hl : EvR tl σ H fun v G => ∃ p L, v = .ref p ∧ G p = some (.lst ((lstB L).map V.int)) ∧ Pr L) (hn : 1 ≤ n ∧ n ≤ 360) (hA : ∀ L, Pr L → Asc 0 n (lstB L)) : EvR (tMake A.C_Lot (spLotInit K A) [] E (tCons tn (tCons tl tNil))) σ H fun v G => ∃ L, Pr L ∧ LotIs A.C_Lot v G n (lstB L) := fun H1 e Q q => hs H1 e _ fun H2 e2 => hl H2 (e.trans e2) _ fun v H3 e3 hv => by
  obtain ⟨p, L, rfl, hp, hP⟩ := hv
  exact (er_mkAsc (K := K) (A := A) (E := E) (σ := σ) (H := H3) (n := n) (xs := lstB L) (tn := tC (.int n)) (tl := tC (.ref p)) ev_c (er_ev ev_c fun G e => ⟨p, rfl, sq_of (e _ _ hp)⟩) hn (hA L hP)) H3 (Ex.refl _) Q fun v H4 e4 hv => q v H4 ((e2.trans e3).trans e4) ⟨L, hP, hv⟩
theorem er_least {A : Ads} {E E' : XK} {te : TE} {σ : L2.St} {H : Hp} {dv : V} {n : Nat} {nd : List Int} {xss : List (List Int)} (h : Ev te σ H dv) (hD : DemandIs A dv H n nd xss) (sh : Shp n nd xss) (hf : metB n xss nd (2 ^ n - 1) = true) : EvR (tCall spListed [] E (tCons (tCall (spLeastMet A) [] E' (tCons te tNil)) tNil)) σ H fun v G => ∃ p L, v = .ref p ∧ G p = some (.lst ((lstB L).map V.int)) ∧ LeastM n xss nd L := fun H1 e Q q => h H1 e _ fun H2 e2 => ⟨dv, n, nd, xss, rfl, hD.ex (e.trans e2), sh, fun L H3 l1 l2 l3 e3 => ⟨L, rfl, Nat.lt_of_lt_of_le l1 (Nat.pow_le_pow_right (show 0 < 2 by decide) sh.n2), fun p H' hp e' h' => q _ H' ((e2.trans e3).trans e') ⟨p, L, rfl, h', l1, by rcases l2 with rfl | l2; exact hf; exact l2, l3⟩⟩⟩
def spFewest (K : PySem.W.Frag) (A : Ads) : Sp := fun vs H Q E => ∃ (a b : Addr) (n : Nat) (xss : List (List Int)) (nd : List Int), vs = [.ref a, .ref b] ∧ LotW A H a (n : Int) xss ∧ H b = some (.lst (nd.map V.int)) ∧ Shp n nd xss ∧
  (∀ g, g < xss.length → lackAt xss nd g → (∀ f, f < g → ¬ lackAt xss nd f) → ∀ d H', Ex H H' → H' d = some (.xd [("index", .int (g : Int))]) → E (.ref A.C_NotEnough) (some d) H') ∧
  ((∀ g, g < xss.length → ¬ lackAt xss nd g) → ∀ v L H', Ex H H' → LeastM n xss nd L → FewIs K A v H' n xss nd L → Q v H')
theorem ok_fewest_starts (T : Txt K mg A) : FnOk P w K mg base (L2.CX P w) 32 A.f_fewest_starts A.d_fewest_starts (["lots", "needs"] : List Str) (spFewest K A) := by
  refine T.F_fewest_starts.okX sc_fewest_starts (fun vs H Q E h => ?_) (fun cdv Ar outer s H vs Q E hr h => ?_)
  · obtain ⟨a, b, n, xss, nd, rfl, _⟩ := h
    rfl
  · obtain ⟨a, b, n, xss, nd, rfl, hL, hb, sh, k1, k2⟩ := h
    refine ⟨_, (pss_cons (ps_expr (pe_call (ok_u_check T) (hr.mono (by omega)) rfl T.g_u_check T.k_u_check (b_u_check T) .nil (passes_call (takes_of rfl rfl rfl rfl) (fun _ _ _ _ h => h)) (pa_cons (pv 0) (pa_cons (pv 1) pa_nil))))
        (pss_cons (ps_for (passes_of rfl) rfl (pi_enum (by rfl) T.z_enumerate (pa_cons (pv 1) pa_nil)) (pg_tup rfl (pgs_cons (pg_name (i := 2) sc_fewest_starts.nd rfl (Or.inl rfl)) (pgs_cons (pg_name (i := 3) sc_fewest_starts.nd rfl (Or.inl rfl)) pgs_nil))) (pss_one (ps_if (pt_cmpR op_gt (pv 3) (pe_callB (call_lenO (E := E0) T.M_Lot_len (ok_Lot_len T) (hr.mono (by omega)) (b_Lot_len T) (pAt pass0)) (by rfl) T.z_len (by decide +kernel) (pa_cons (pe_ix ix_lK (pv 0) (pv 2) (fun _ _ => rfl)) pa_nil)) (nomark _)) (pss_one (ps_raise rfl (takes_of rfl rfl rfl rfl) (pmk_oex T.ox_NotEnough T.ni_NotEnough T.ti_NotEnough (ok_NotEnough_init T) (hr.mono (by omega)) (b_NotEnough_init T) .nil pass0 rfl T.g_NotEnough (pa_cons (pv 2) pa_nil)))) pss_nil)))
        (pss_cons (ps_set (i := 4) sc_fewest_starts.nd rfl (Or.inl rfl) (pe_make T.mk_Demand (ok_Demand_init T) (hr.mono (by omega)) rfl T.g_Demand (b_Demand_init T) .nil (passes_call (takes_of rfl rfl rfl rfl) (fun _ _ _ _ h => h)) (pa_cons (pv 0) (pa_cons (pv 1) pa_nil))))
        (pss_cons (ps_set (i := 5) sc_fewest_starts.nd rfl (Or.inl rfl) (pe_make T.mk_Lot (ok_Lot_init T) (hr.mono (by omega)) rfl T.g_Lot (b_Lot_init T) .nil (passes_call (takes_of rfl rfl rfl rfl) (fun _ _ _ _ h => h)) (pa_cons (pe_fldK (pv 4) rfl) (pa_cons (pe_call (ok_listed T) (hr.mono (by omega)) rfl T.g_listed T.k_listed (b_listed T) .nil pass0 (pa_cons (pe_call (ok_u_least_met T) (hr.mono (by omega)) rfl T.g_u_least_met T.k_u_least_met (b_u_least_met T) .nil pass0 (pa_cons (pv 4) pa_nil)) pa_nil)) pa_nil))))
        (pss_cons (ps_if (pt_cmpR op_eq (pe_callB (call_lenO (E := E0) T.M_Lot_len (ok_Lot_len T) (hr.mono (by omega)) (b_Lot_len T) (pAt pass0)) (by rfl) T.z_len (by decide +kernel) (pa_cons (pv 5) pa_nil)) pe_int (nomark _)) (pss_one (ps_ret (pe_make T.mk_Fewest (ok_Fewest_init T) (hr.mono (by omega)) rfl T.g_Fewest (b_Fewest_init T) .nil (passes_call (takes_of rfl rfl rfl rfl) (fun _ _ _ _ h => h)) (pa_cons (pv 5) (pa_cons pe_non pa_nil))))) pss_nil)
        (pss_one (ps_ret (pe_make T.mk_Fewest (ok_Fewest_init T) (hr.mono (by omega)) rfl T.g_Fewest (b_Fewest_init T) .nil (passes_call (takes_of rfl rfl rfl rfl) (fun _ _ _ _ h => h)) (pa_cons (pv 5) (pa_cons (pe_call (ok_u_tree T) (hr.mono (by omega)) rfl T.g_u_tree T.k_u_tree (b_u_tree T) .nil pass0 (pa_cons (pv 4) (pa_cons pe_int (pa_cons pe_int (pa_cons (pe_op op_sub (pe_callB (call_lenO (E := E0) T.M_Lot_len (ok_Lot_len T) (hr.mono (by omega)) (b_Lot_len T) (pAt pass0)) (by rfl) T.z_len (by decide +kernel) (pa_cons (pv 5) pa_nil)) pe_int) pa_nil))))) pa_nil)))))))))), ?_⟩
    have n1 := sh.n1
    have n2 := sh.n2
    have m1 := sh.m1
    have m2 := sh.m2
    have nl := sh.nl
    obtain ⟨ws, hws, wl, wa⟩ := id hL.at_
    refine ⟨_, rfl, _, rfl, a, b, (n : Int), xss, nd, rfl, hL.lots, sq_of hb, ⟨m1, m2⟩, by omega, by omega, fun hc => absurd nl hc, (fun _ z hz => by rw [bad_none sh.nb] at hz; cases hz), fun _ _ H1 e1 => ?_⟩
    try dsimp only
    refine q_forI (ei_enum (K := K) (eb_ev (ev_var (i := 1) rfl) fun G e => ⟨b, rfl, sq_of ((e1.trans e) _ _ hb)⟩)) fun H2 e2 => ⟨fun i σ' G => ∃ v2 v3 : Option V, σ' = [some (.ref a), some (.ref b), v2, v3, none, none] ∧ Ex H2 G ∧ ∀ f, f < i → ¬ lackAt xss nd f, ⟨none, none, rfl, Ex.refl _, fun f hf => absurd hf (by omega)⟩, fun i σ' G _ ⟨_, _, _, e, _⟩ => e, ?_, ?_⟩
    · rintro i x σ' G G' hi ⟨v2, v3, rfl, eG, hall⟩ y
      rw [List.length_map] at hi
      refine bd_pair (K := K) i G x G' _ hi y fun eG' => ?_
      dsimp only
      have hi' : i < xss.length := by omega
      have ni : (nd.map V.int)[i]? = some (.int (nd.getD i 0)) := by
        rw [List.getElem?_map, List.getD_eq_getElem?_getD, List.getElem?_eq_getElem hi]
        rfl
      rw [ni]
      have wi : ws[i]? = some ws[i] := List.getElem?_eq_getElem (by omega)
      have e0 := e1.trans (e2.trans (eG.trans eG'))
      try dsimp only
      refine s_when (b := decide ((((xss.getD i []).length : Nat) : Int) < nd.getD i 0)) (et_test (ev_op (ev_var (i := 3) rfl) (ev_lotLen (A := A) (n := (n : Int)) (xs := xss.getD i []) (er_ev (ev_op (ev_var (i := 0) rfl) (ev_var (i := 2) rfl) (rv_ixL (K := K) (sq_of (e0 _ _ hws)) (atI_nat wi))) fun G1 g1 => (wa i _ wi).ex (e0.trans g1))) rv_I0)) (fun hc G1 g1 => ?_) (fun hc G1 g1 => ⟨_, _, rfl, (eG.trans eG').trans g1, fun f hf => ?_⟩)
      · exact raise1 (C := A.C_NotEnough) (f := "index") (x := .int (i : Int)) T.ox_NotEnough (fun Q q => ⟨_, rfl, q⟩) fun d H' e' hd => k1 i hi' (of_decide_eq_true hc) hall d H' ((e0.trans g1).trans e') hd
      · by_cases c : f = i
        · subst c; exact of_decide_eq_false hc
        · exact hall f (by omega)
    rintro σ' G ⟨v2, v3, rfl, eG, hall⟩
    rw [List.length_map, nl] at hall
    have k2 := k2 hall
    have hfull := met_full (nd := nd) ⟨n1, n2⟩ sh.asc fun g hg => Int.not_lt.mp (hall g hg)
    clear hall k1
    have e0 := e1.trans (e2.trans eG)
    try dsimp only
    refine q_asgR (er_demand (K := K) (A := A) (ev_var (i := 0) rfl) (ev_var (i := 1) rfl) (hL.ex e0) (e0 _ _ hb) sh) fun dv H3 e3 hD => ?_
    have e03 := e0.trans e3
    obtain ⟨da, ddx, q1, q2, q3, q4, rfl, z1, _⟩ := id hD
    try dsimp only
    refine q_asgR (er_mkL (K := K) (A := A) (n := (n : Int)) (Pr := LeastM n xss nd) (ev_fldQ (ev_var (i := 4) rfl) z1 T.cl_Demand T.na_Demand_hours rfl) (er_least (A := A) (ev_var (i := 4) rfl) hD sh hfull) (by omega) fun L hL => asc_lstB hL.lt) fun sv H4 e4 hv => ?_
    obtain ⟨L, hLM, hsv⟩ := hv
    have e04 := e03.trans e4
    have lenE : ∀ {σ : L2.St} {G : Hp}, σ[5]? = some (some sv) → Ex H4 G → Ev (tCB (rOwnLen A.C_Lot (spLotLen A) E0) (tCons (tVar 5) tNil)) σ G (.int ((pc L : Nat) : Int)) := fun h e => by
      have := ev_lotLen (A := A) (E := E0) (n := (n : Int)) (xs := lstB L) (er_ev (ev_var h) fun G' e' => hsv.ex (e.trans e'))
      rw [lstB_len] at this
      exact this
    try dsimp only
    refine q_when (b := decide (((pc L : Nat) : Int) = 0)) (et_test (ev_is (ev_op (lenE rfl (Ex.refl _)) ev_c (rv_eq rfl)) (by rw [dec_ii]))) (fun hc G5 g5 => ?_) (fun hc G5 g5 => ?_)
    · have hc := of_decide_eq_true hc
      exact s_retR (er_few (A := A) (ev_var (i := 5) rfl) (er_ev (P := fun v _ => v = .non) ev_c fun _ _ => rfl) fun _ _ _ _ h => h) fun v H6 e6 hv => by
        obtain ⟨x, dx, tv, rfl, hx, rfl⟩ := hv
        exact k2 _ L H6 ((e04.trans g5).trans e6) hLM ⟨x, dx, sv, .non, rfl, hx, hsv.ex (g5.trans e6), .inl ⟨by omega, rfl⟩⟩
    · have hc := of_decide_eq_false hc
      have pl : pc L ≤ 12 := by
        have := List.length_filter_le (fun i => L.testBit i) (List.range 12)
        rwa [List.length_range] at this
      have p1 : 0 < 2 ^ n := Nat.two_pow_pos n
      exact s_retR (er_few (A := A) (ev_var (i := 5) rfl) (er_tree (K := K) (A := A) (n := n) (nd := nd) (xss := xss) (t := 0) (b := 0) (room := pc L - 1) (ev_var (i := 4) rfl) ev_c ev_c (ev_is (ev_op (lenE rfl g5) ev_c rv_I0) (congrArg V.int (by omega))) (hD.ex (e4.trans g5)) sh p1 p1 (by omega) fun u hu hpu => by
        have z0 : pc 0 = 0 := by decide
        cases hm : metB n xss nd u with
        | false => rfl
        | true => have := hLM.le u hu hm; omega) fun _ _ _ e h => h.keep (KT.ex e)) fun v H6 e6 hv => by
        obtain ⟨x, dx, tv, rfl, hx, htv⟩ := hv
        exact k2 _ L H6 ((e04.trans g5).trans e6) hLM ⟨x, dx, sv, tv, rfl, hx, hsv.ex (g5.trans e6), .inr ⟨by omega, htv⟩⟩

def sp_cell (K : PySem.W.Frag) : Sp := fun vs H Q _ => ∃ (a : Addr) (ns : List Int) (k : Nat), vs = [.ref a, .int (k : Int)] ∧ SqL K H a (ns.map V.int) ∧ Q (.int (cellA ns k)) H
theorem ev_cell {K : PySem.W.Frag} {E : XK} {σ : L2.St} {H : Hp} {ta tk : TE} {a : Addr} {ns : List Int} {k : Nat} {z : Int} (ha : Ev ta σ H (.ref a)) (hk : Ev tk σ H (.int z)) (hS : SqL K H a (ns.map V.int)) (hz : z = (k : Int) := by rfl) : Ev (tCall (sp_cell K) [] E (tCons ta (tCons tk tNil))) σ H (.int (cellA ns k)) := fun H1 e Q q =>
  ha H1 e _ fun H2 e2 => hk H2 (e.trans e2) _ fun H3 e3 => by subst hz; exact ⟨a, ns, k, rfl, ex_l ((e.trans e2).trans e3) hS, q H3 (e2.trans e3)⟩
theorem ok_u_law_cell (T : Txt K mg A) : FnOk P w K mg base CX0 1 A.f_u_law_cell A.d_u_law_cell (["script", "k"] : List Str) (sp_cell K) := by
  refine T.F_u_law_cell.ok sc_u_law_cell (fun vs H Q E h => ?_) (fun cdv Ar outer s H vs Q E hr h => ?_)
  · obtain ⟨a, ns, k, rfl, _⟩ := h
    rfl
  · obtain ⟨a, ns, k, rfl, hS, q⟩ := h
    refine ⟨_, (pss_cons (ps_if (pt_cmpR op_lt (pv 1) (pe_callB len_K (by rfl) T.z_len (by decide +kernel) (pa_cons (pv 0) pa_nil)) (nomark _)) (pss_one (ps_ret (pe_callB call_abs (by rfl) T.z_abs (by decide +kernel) (pa_cons (pe_ix ix_lK (pv 0) (pv 1) (fun _ _ => rfl)) pa_nil)))) pss_nil)
        (pss_one (ps_ret pe_int))), ?_⟩
    refine ⟨_, rfl, _, rfl, .ref a, _, rfl, .inl ⟨_, hS, rfl⟩, _, _, rfl, rfl, _, rfl, ?_⟩
    unfold cellA at q
    rw [List.length_map]
    by_cases hk : k < ns.length
    · refine wayT (show (k : Int) < (ns.length : Int) by omega) ?_
      rw [if_pos hk] at q
      refine ⟨_, rfl, _, rfl, a, _, _, .int (ns.getD k 0), rfl, rfl, hS, atI_nat ?_, _, rfl, q⟩
      rw [List.getElem?_map, List.getD_eq_getElem?_getD, List.getElem?_eq_getElem hk]
      rfl
    · refine wayF (show ¬ (k : Int) < (ns.length : Int) by omega) ?_
      rw [if_neg hk] at q
      exact q

def sp_draws (K : PySem.W.Frag) : Sp := fun vs H Q _ => ∃ (c s : Int) (m : Addr) (ms : List Int), vs = [.int c, .int s, .ref m] ∧ SqL K H m (ms.map V.int) ∧ 0 ≤ c ∧ (-1000000 ≤ s ∧ s ≤ 1000000) ∧ ms.length ≤ 64 ∧
  (∀ x ∈ ms, 1 ≤ x ∧ x.natAbs < 2 ^ 1000) ∧ ∀ p H' ds, H p = none → Ex H H' → H' p = some (.lst (ds.map V.int)) → Drawn ms ds → Q (.ref p) H'
theorem er_draws {K : PySem.W.Frag} {E : XK} {σ : L2.St} {H : Hp} {tc ts tm : TE} {c z : Int} {ms : List Int} (hc : Ev tc σ H (.int c)) (hs : Ev ts σ H (.int z)) (hm : EvL tm σ H (ms.map V.int)) (h0 : 0 ≤ c) (hz : -1000000 ≤ z ∧ z ≤ 1000000) (hl : ms.length ≤ 64)
    (hb : ∀ x ∈ ms, 1 ≤ x ∧ x.natAbs < 2 ^ 1000) : EvR (tCall (sp_draws K) [] E (tCons tc (tCons ts (tCons tm tNil)))) σ H fun v H1 => ∃ p ds, v = .ref p ∧ H1 p = some (.lst (ds.map V.int)) ∧ Drawn ms ds := fun H1 e Q q =>
  hc H1 e _ fun H2 e2 => hs H2 (e.trans e2) _ fun H3 e3 => hm H3 ((e.trans e2).trans e3) _ fun m H4 _ e4 h4 =>
    ⟨c, z, m, ms, rfl, sq_of h4, h0, hz, hl, hb, fun p H' ds hp e' h' hD => q _ H' ((e2.trans e3).trans (e4.trans e')) ⟨p, ds, rfl, h', hD⟩⟩
theorem drawn_more {ms ds : List Int} {i : Nat} {m d : Int} (h : Drawn (ms.take i) ds) (hm : ms[i]? = some m) (h0 : 0 ≤ d) (h1 : d < m) : Drawn (ms.take (i + 1)) (ds ++ [d]) := by
  have hi : i < ms.length := (List.getElem?_eq_some_iff.mp hm).1
  obtain ⟨hl, hd⟩ := h
  have hl' : ds.length = i := by rw [hl, List.length_take]; omega
  refine ⟨by rw [List.length_append, hl', List.length_take]; simp; omega, fun j x hj => ?_⟩
  by_cases hji : j < i
  · have hx : (ms.take i)[j]? = some x := by
      rw [List.getElem?_take_of_lt hji]
      rw [List.getElem?_take_of_lt (by omega)] at hj
      exact hj
    obtain ⟨d', e, z⟩ := hd j x hx
    exact ⟨d', by rw [List.getElem?_append_left (by omega)]; exact e, z⟩
  · have hlt : j < i + 1 := by
      have := (List.getElem?_eq_some_iff.mp hj).1
      rw [List.length_take] at this
      omega
    have ej : j = i := by omega
    subst ej
    rw [List.getElem?_take_of_lt hlt, hm] at hj
    cases hj
    exact ⟨d, by rw [List.getElem?_append_right (by omega), hl', Nat.sub_self]; rfl, h0, h1⟩
theorem ok_u_law_draws (T : Txt K mg A) : FnOk P w K mg base CX0 1 A.f_u_law_draws A.d_u_law_draws (["cell", "salt", "menu"] : List Str) (sp_draws K) := by
  refine T.F_u_law_draws.ok sc_u_law_draws (fun vs H Q E h => ?_) (fun cdv Ar outer s H vs Q E hr h => ?_)
  · obtain ⟨c, s, m, ms, rfl, _⟩ := h
    rfl
  · obtain ⟨c, sa, m, ms, rfl, hS, hc, hs, hl, hm, k⟩ := h
    refine ⟨_, (pss_cons (ps_set (i := 3) sc_u_law_draws.nd rfl (Or.inl rfl) (pe_lst pa_nil))
        (pss_cons (ps_set (i := 4) sc_u_law_draws.nd rfl (Or.inl rfl) (pe_op op_sub (pv 0) (pe_op op_pow pe_int pe_int)))
        (pss_cons (ps_set (i := 5) sc_u_law_draws.nd rfl (Or.inl rfl) (pe_op op_add (pv 0) (pe_op op_mul pe_int (pv 1))))
        (pss_cons (ps_for PassesOwn.never rfl (pi_range1 rfl T.z_range (pa_cons (pe_callB len_K (by rfl) T.z_len (by decide +kernel) (pa_cons (pv 2) pa_nil)) pa_nil)) (pg_name (i := 6) sc_u_law_draws.nd rfl (Or.inl rfl)) (pss_one (ps_if (pt_cmpR op_ge (pv 4) pe_int (nomark _)) (pss_cons (ps_expr (pe_bm PySem.F.plainAttrs_list PySem.F.slot_list_append PySem.F.type_list_append mt_append (pv 3) (pa_cons (pe_op op_mod (pe_callTy call_int1 (by rfl) T.z_int (by decide +kernel) (pa_cons (pv 4) pa_nil)) (pe_ix ix_lK (pv 2) (pv 6) (fun _ _ => rfl))) pa_nil)))
        (pss_one (ps_set (i := 4) sc_u_law_draws.nd rfl (Or.inl rfl) (pe_op op_fdivW (pv 4) (pe_ix ix_lK (pv 2) (pv 6) (fun _ _ => rfl)))))) (pss_cons (ps_set (i := 5) sc_u_law_draws.nd rfl (Or.inl rfl) (pe_op op_mod (pe_callTy call_int1 (by rfl) T.z_int (by decide +kernel) (pa_cons (pe_op op_add (pe_op op_add (pe_op op_mul (pv 5) (pv 5)) (pe_op op_mul pe_int (pe_op op_add (pv 6) pe_int))) pe_int) pa_nil)) pe_int))
        (pss_cons (ps_set (i := 5) sc_u_law_draws.nd rfl (Or.inl rfl) (pe_op op_mod (pe_callTy call_int1 (by rfl) T.z_int (by decide +kernel) (pa_cons (pe_op op_add (pe_op op_mul (pv 5) (pv 5)) (pe_op op_fdiv (pv 5) pe_int)) pa_nil)) pe_int))
        (pss_one (ps_expr (pe_bm PySem.F.plainAttrs_list PySem.F.slot_list_append PySem.F.type_list_append mt_append (pv 3) (pa_cons (pe_op op_mod (pe_callTy call_int1 (by rfl) T.z_int (by decide +kernel) (pa_cons (pe_op op_fdiv (pv 5) pe_int) pa_nil)) (pe_ix ix_lK (pv 2) (pv 6) (fun _ _ => rfl))) pa_nil)))))))))
        (pss_one (ps_ret (pv 3))))))), ?_⟩
    refine ⟨Nat.zero_le _, fun p hp => ?_⟩
    refine ⟨_, rfl, _, _, rfl, rfl, ⟨by decide, by decide, by decide⟩, _, _, rfl, rfl, ?_⟩
    refine ⟨_, rfl, _, rfl, _, _, rfl, rfl, .inl ⟨by decide, by decide⟩, _, _, rfl, rfl, ?_⟩
    have e10 : ((10 : Int) ^ (18 : Int).toNat) = 1000000000000000000 := by decide
    have hS1 : SqL K (upd H p (.lst [])) m (ms.map V.int) := ex_l (Ex.new hp) hS
    refine ⟨_, rfl, .ref m, _, rfl, .inl ⟨_, hS1, rfl⟩, _, rfl, by omega, by rw [List.length_map]; omega, ?_⟩
    refine for_range (lo := 0) (n := ((ms.map V.int).length : Int).toNat) (fun i σ H' => ∃ (ds : List Int) (rest mixed : Int) (kv : Option V), σ = [some (.int c), some (.int sa), some (.ref m), some (.ref p), some (.int rest), some (.int mixed), kv] ∧ Ex H H' ∧
        H' p = some (.lst (ds.map V.int)) ∧ Drawn (ms.take i) ds ∧ (0 ≤ rest ∨ (-18446744073709551616 < mixed ∧ mixed < 18446744073709551616))) ?_ ?_ ?_
    · refine ⟨[], _, _, none, rfl, Ex.new hp, upd_same, ⟨by simp, fun i x h => by simp at h⟩, ?_⟩
      rw [e10]
      omega
    · rintro i σ H' hi ⟨ds, rest, mixed, kv, rfl, ex, hH, hD, hr0⟩
      have hi' : i < ms.length := by simpa using hi
      obtain ⟨mi, hmi⟩ : ∃ mi, ms[i]? = some mi := ⟨ms[i], List.getElem?_eq_getElem hi'⟩
      have hmm := hm mi (List.mem_of_getElem? hmi)
      have hSi : SqL K H' m (ms.map V.int) := ex_l ex hS
      have hat : atI (ms.map V.int) (0 + (i : Int)) = some (.int mi) := by
        rw [Int.zero_add]
        refine atI_nat ?_
        rw [List.getElem?_map, hmi]
        rfl
      have hdl : ds.length ≤ 64 := by
        have := hD.1
        rw [List.length_take] at this
        omega
      have hsz : (ds.map V.int).length < sizeLine := by
        rw [List.length_map]
        exact Nat.lt_of_le_of_lt hdl (by decide)
      have e0 : (0 : Int) + (i : Int) = (i : Int) := Int.zero_add _
      refine ⟨_, rfl, _, _, rfl, rfl, _, rfl, way (fun hr => ?_) (fun hr => ?_)⟩
      · refine ⟨_, rfl, .inl ⟨rfl, _, SqL.of hH⟩, _, rfl, .inl ⟨rest, rfl, _, rfl, _, rfl, m, _, _, .int mi, rfl, rfl, hSi, hat, _, _, rfl, rfl, (by show (0 : Int) < mi; omega), p, _, _, rfl, rfl, hH, hsz, ?_⟩⟩
        have ex2 : Ex H (upd H' p (.lst (ds.map V.int ++ [.int (rest % mi)]))) := Ex.mut ex hp
        refine ⟨_, rfl, _, rfl, _, rfl, m, _, _, .int mi, rfl, rfl, ex_l ex2 hS, hat, _, _, rfl, rfl, wide_div (by omega) hmm.2 (by decide) (by decide), ?_⟩
        refine ⟨ds ++ [rest % mi], rest / mi, mixed, _, rfl, ex2, ?_, drawn_more hD hmi (Int.emod_nonneg _ (by omega)) (Int.emod_lt_of_pos _ (by omega)), .inl (Int.ediv_nonneg hr (by omega))⟩
        rw [upd_same, List.map_append]
        rfl
      · have hx : -18446744073709551616 < mixed ∧ mixed < 18446744073709551616 := by omega
        refine ⟨_, rfl, _, rfl, _, _, rfl, rfl, .inl ⟨hx.1, hx.2⟩, _, rfl, _, _, rfl, rfl, _, _, rfl, rfl, .inl ⟨by decide, by decide⟩, _, _, rfl, rfl, _, _, rfl, rfl, .inl ⟨_, rfl, _, _, rfl, rfl, (by show (0 : Int) < 2147483399; decide), ?_⟩⟩
        have b1 : ∀ z : Int, 0 ≤ z % 2147483399 ∧ z % 2147483399 < 2147483399 := fun z => ⟨Int.emod_nonneg _ (by decide), Int.emod_lt_of_pos _ (by decide)⟩
        have b2 : ∀ z : Int, 0 ≤ z % 2147483629 ∧ z % 2147483629 < 2147483629 := fun z => ⟨Int.emod_nonneg _ (by decide), Int.emod_lt_of_pos _ (by decide)⟩
        refine ⟨_, rfl, _, rfl, _, _, rfl, rfl, .inl ⟨Int.lt_of_lt_of_le (by decide) (b1 _).1, Int.lt_trans (b1 _).2 (by decide)⟩, _, rfl, _, _, rfl, rfl, ⟨by decide, by decide⟩, _, _, rfl, rfl, .inl ⟨_, rfl, _, _, rfl, rfl, (by show (0 : Int) < 2147483629; decide), ?_⟩⟩
        refine ⟨_, rfl, .inl ⟨rfl, _, SqL.of hH⟩, _, rfl, _, _, rfl, rfl, ⟨by decide, by decide⟩, .inl ⟨_, rfl, _, rfl, _, rfl, m, _, _, .int mi, rfl, rfl, hSi, hat, _, _, rfl, rfl, (by show (0 : Int) < mi; omega), p, _, _, rfl, rfl, hH, hsz, ?_⟩⟩
        refine ⟨ds ++ [((((mixed * mixed + 3571 * (0 + (i : Int) + 1) + 40692) % 2147483399) * ((mixed * mixed + 3571 * (0 + (i : Int) + 1) + 40692) % 2147483399) + ((mixed * mixed + 3571 * (0 + (i : Int) + 1) + 40692) % 2147483399) / 97) % 2147483629) / 8 % mi], rest, _, _, rfl, Ex.mut ex hp, ?_, drawn_more hD hmi (Int.emod_nonneg _ (by omega)) (Int.emod_lt_of_pos _ (by omega)), .inr ⟨Int.lt_of_lt_of_le (by decide) (b2 _).1, Int.lt_trans (b2 _).2 (by decide)⟩⟩
        rw [upd_same, List.map_append]
        rfl
    · rintro σ H' ⟨ds, rest, mixed, kv, rfl, ex, hH, hD, _⟩
      refine ⟨_, rfl, k p H' ds hp ex hH ?_⟩
      have e : ((ms.map V.int).length : Int).toNat = ms.length := by simp
      rw [e, List.take_length] at hD
      exact hD

def spTwoX : Sp := fun vs H Q _ => ∃ n : Nat, vs = [.int (n : Int)] ∧ n ≤ 25 ∧ ∀ H', Ex H H' → Q (.int ((2 ^ n : Nat) : Int)) H' 
theorem ok_u_law_two (T : Txt K mg A) : FnOk P w K mg base CX0 1 A.f_u_law_two A.d_u_law_two (["n"] : List Str) spTwoX := by
  refine T.F_u_law_two.ok sc_u_law_two (fun vs H Q E h => ?_) (fun cdv Ar outer s H vs Q E hr h => ?_)
  · obtain ⟨n, rfl, _⟩ := h
    rfl
  · obtain ⟨n, rfl, hn, k⟩ := h
    refine ⟨_, (pss_cons (ps_set (i := 1) sc_u_law_two.nd rfl (Or.inl rfl) pe_int)
        (pss_cons (ps_for PassesOwn.never rfl (pi_range1 rfl T.z_range (pa_cons (pv 0) pa_nil)) (pg_name (i := 2) sc_u_law_two.nd rfl (Or.inl rfl)) (pss_one (ps_set (i := 1) sc_u_law_two.nd rfl (Or.inl rfl) (pe_op op_mul (pv 1) pe_int))))
        (pss_one (ps_ret (pv 1))))), ?_⟩
    try dsimp only
    refine q_asg (v := .int ((2 ^ 0 : Nat) : Int)) ev_c fun H1 e1 => ?_
    try dsimp only
    refine q_forR1 (j := 2) (n := (n : Int)) (ea_cons (ev_var (i := 0) rfl) ea_nil) (by omega) (fun i σ' G => ∃ v2 : Option V, σ' = [some (.int (n : Int)), some (.int ((2 ^ i : Nat) : Int)), v2] ∧ Ex H G) (fun G e => ⟨_, rfl, e1.trans e⟩) ?_ ?_
    · rintro i σ' G hi ⟨v2, rfl, eG⟩
      try dsimp only
      exact s_asg (v := .int ((2 ^ (i + 1) : Nat) : Int)) (ev_is (ev_op (ev_var (i := 1) rfl) ev_c (rv_I (show CMul ((2 ^ i : Nat) : Int) 2 from .inr ⟨by decide, by decide⟩))) (congrArg V.int (by rw [Nat.pow_succ]; rfl))) fun G1 g1 => ⟨_, rfl, eG.trans g1⟩
    rintro σ' G ⟨v2, rfl, eG⟩
    rw [Int.toNat_natCast]
    exact s_ret (ev_var (i := 1) rfl) fun G1 g1 => k G1 (eG.trans g1)

def spBits : Sp := fun vs H Q _ => ∃ n z : Int, vs = [.int n, .int z] ∧ (0 ≤ n ∧ n ≤ 25) ∧ ∀ p H' xs, H p = none → Ex H H' → H' p = some (.lst (xs.map V.int)) → Asc 0 n xs → Q (.ref p) H' 
theorem ok_u_law_bits (T : Txt K mg A) : FnOk P w K mg base CX0 1 A.f_u_law_bits A.d_u_law_bits (["n", "number"] : List Str) spBits := by
  refine T.F_u_law_bits.ok sc_u_law_bits (fun vs H Q E h => ?_) (fun cdv Ar outer s H vs Q E hr h => ?_)
  · obtain ⟨n, z, rfl, _⟩ := h
    rfl
  · obtain ⟨n, z, rfl, hn, k⟩ := h
    refine ⟨_, (pss_cons (ps_set (i := 2) sc_u_law_bits.nd rfl (Or.inl rfl) (pe_lst pa_nil))
        (pss_cons (ps_for PassesOwn.never rfl (pi_range1 rfl T.z_range (pa_cons (pv 0) pa_nil)) (pg_name (i := 3) sc_u_law_bits.nd rfl (Or.inl rfl)) (pss_cons (ps_if (pt_cmpR op_eq (pe_op op_mod (pe_callTy call_int1 (by rfl) T.z_int (by decide +kernel) (pa_cons (pv 1) pa_nil)) pe_int) pe_int (nomark _)) (pss_one (ps_expr (pe_bm PySem.F.plainAttrs_list PySem.F.slot_list_append PySem.F.type_list_append mt_append (pv 2) (pa_cons (pv 3) pa_nil)))) pss_nil)
        (pss_one (ps_set (i := 1) sc_u_law_bits.nd rfl (Or.inl rfl) (pe_op op_fdiv (pv 1) pe_int)))))
        (pss_one (ps_ret (pv 2))))), ?_⟩
    try dsimp only
    refine q_asgL (xs := []) (el_lst ea_nil (by decide)) fun fp H1 hfp e1 h1 => ?_
    refine q_forR1 (j := 3) (n := n) (ea_cons (ev_var rfl) ea_nil) (by omega)
      (fun i σ' H' => ∃ (z : Int) (hv : Option V) (xs : List Int), σ' = [some (.int n), some (.int z), some (.ref fp), hv] ∧ Ex H H' ∧ H' fp = some (.lst (xs.map V.int)) ∧ Asc 0 (i : Int) xs)
      (fun H2 e2 => ⟨z, none, [], rfl, e1.trans e2, e2 _ _ h1, .nil⟩) ?_ ?_
    · rintro i σ' H' hi ⟨z, hv, xs, rfl, ex, hf, hA⟩
      have hl := hA.len
      have hsz : (xs.map V.int).length < 100000 := by rw [List.length_map]; omega
      try dsimp only
      have tail : ∀ (H2 : Hp) (ys : List Int) (D : Ends), Ex H H2 → H2 fp = some (.lst (ys.map V.int)) → Asc 0 ((i : Int) + 1) ys →
          (∀ σ' H', (∃ (z : Int) (hv : Option V) (xs : List Int), σ' = [some (.int n), some (.int z), some (.ref fp), hv] ∧ Ex H H' ∧ H' fp = some (.lst (xs.map V.int)) ∧ Asc 0 ((i + 1 : Nat) : Int) xs) → D.nx σ' H') →
          tAsg (tOp (rI CDiv fun i j => V.int (i / j)) (tVar 1) (tC (V.int 2))) (gName 1) D [some (.int n), some (.int z), some (.ref fp), some (.int (i : Int))] H2 := fun H2 ys D e2 h2 hA2 hD =>
        s_asg (v := .int (z / 2)) (ev_op (ev_var (i := 1) rfl) ev_c (rv_I (show CDiv z 2 from ⟨by decide, by decide⟩))) fun H3 e3 => hD _ _ ⟨z / 2, _, ys, rfl, e2.trans e3, e3 _ _ h2, by simpa using hA2⟩
      refine q_when (b := decide (z % 2 = 1)) (et_test (ev_is (ev_op (ev_op (ev_cb (ea_cons (ev_var (i := 1) rfl) ea_nil) (fun H1 _ _ q => .inl ⟨_, rfl, q H1 (Ex.refl H1)⟩)) ev_c (rv_I (show (0 : Int) < 2 by decide))) ev_c (rv_eq rfl)) (by rw [dec_ii]))) (fun _ H2 e2 => ?_) (fun _ H2 e2 => ?_)
      · refine s_app (e2 _ _ hf) (ev_var (i := 2) rfl) (ev_var (i := 3) rfl) hsz fun H3 e3 => ?_
        refine tail _ (xs ++ [(i : Int)]) _ (Ex.mut ((ex.trans e2).trans e3) hfp) (by rw [upd_same, List.map_append]; rfl) ?_ (fun _ _ h => h)
        exact hA.append (mid' := (i : Int)) ⟨List.pairwise_singleton _ _, fun x hx => by cases List.mem_singleton.mp hx; omega⟩ (by omega) (by omega) (by omega)
      · exact tail _ xs _ (ex.trans e2) (e2 _ _ hf) (hA.mono (by omega) (by omega)) (fun _ _ h => h)
    rintro σ' H' ⟨z, hv, xs, rfl, ex, hf, hA⟩
    exact ⟨_, rfl, k fp H' xs hfp ex hf (hA.mono (by omega) (by omega))⟩

theorem isi {K : PySem.W.Frag} {H : Hp} {x : V} {t n : String} {b : Bool} {Q : VK} (ty : TyX K H x (.type t)) (h : kitB t n = some b) (q : Q (.bl b) H) : rIsi K [x, .ty n] H Q := ⟨x, .ty n, _, _, b, rfl, .ty n, ty, kit_ty h, q⟩
def sp_is_int (K : PySem.W.Frag) : Sp := fun vs H Q _ => ∃ i : Int, vs = [.int i] ∧ Q (.bl true) H
theorem ok_u_law_is_int (T : Txt K mg A) : FnOk P w K mg base CX0 1 A.f_u_law_is_int A.d_u_law_is_int (["x"] : List Str) (sp_is_int K) := by
  refine T.F_u_law_is_int.ok sc_u_law_is_int (fun vs H Q E h => ?_) (fun cdv Ar outer s H vs Q E hr h => ?_)
  · obtain ⟨i, rfl, _⟩ := h
    rfl
  · obtain ⟨i, rfl, q⟩ := h
    refine ⟨_, (pss_one (ps_ret (pe_and (pe_callB isi_K (by rfl) T.z_isinstance (by decide +kernel) (pa_cons (pv 0) (pa_cons (pe_bltn (v := .ty "int") (by rfl) T.z_int (by decide +kernel) rfl) pa_nil))) (pe_one (pe_not (pe_callB isi_K (by rfl) T.z_isinstance (by decide +kernel) (pa_cons (pv 0) (pa_cons (pe_bltn (v := .ty "bool") (by rfl) T.z_bool (by decide +kernel) rfl) pa_nil)))))))), ?_⟩
    refine ⟨_, rfl, _, _, _, _, true, rfl, .ty _, .base (.int i), kit_ty (by decide +kernel), ⟨_, rfl, iteT ?_⟩⟩
    exact ⟨_, rfl, _, _, _, _, false, rfl, .ty _, .base (.int i), kit_ty (by decide +kernel), ⟨_, rfl, q⟩⟩
/-- like data are told alike -/
def sp_same (K : PySem.W.Frag) (n : Nat) : Sp := fun vs H Q _ => ∃ (x y : V) (d : PyData), vs = [x, y] ∧ Dp K H x d ∧ Dp K H y d ∧ Flat n d ∧ Q (.bl true) H
theorem same_loop {K : PySem.W.Frag} {H : Hp} {n k : Nat} {xs ys : List V} {ds : List PyData} {x y : V} {kv : Option V} {Q : VK} {N : L2.St → Hp → Prop} {tb : TS} (hk : k = ds.length) (hx : DpAll K H xs ds) (hy : DpAll K H ys ds) (hf : ∀ d ∈ ds, Flat n d) (hl : ds.length ≤ 40000)
    (hb : ∀ (i : Nat) (u v : V) (d : PyData) (kv : Option V) (D : Ends), i < ds.length → xs[i]? = some u → ys[i]? = some v → Dp K H u d → Dp K H v d → Flat n d → D.nx [some x, some y, some (.int (i : Int))] H → tb D ([some x, some y, kv].set 2 (some (.int (i : Int)))) H)
    (hq : ∀ kv, N [some x, some y, kv] H) :
    ∃ W : Nat → Nat → L2.St → Hp → Prop, (∃ m, W 0 m [some x, some y, kv] H) ∧ ∀ i m σ H, W i m σ H →
      ((Itr 0 k).stop i H ∧ N σ H) ∨ ((Itr 0 k).go i H ∧ ∃ N' : L2.St → Hp → Prop, (∀ σ' H', N' σ' H' → ∃ m', m' < m ∧ W (i + 1) m' σ' H') ∧ ∀ z H', (Itr 0 k).yld i H z H' → gName 2 z σ H' fun σ2 H2 => tb { nx := N', ct := N', bk := N, rt := Q } σ2 H2) := by
  subst hk
  refine for_range (D := { nx := N, rt := Q }) (fun i σ H' => H' = H ∧ ∃ kv, σ = [some x, some y, kv]) ⟨rfl, _, rfl⟩ ?_ ?_
  · rintro i σ H' hi ⟨rfl, kv, rfl⟩
    obtain ⟨_, gx⟩ := dp_get hx
    obtain ⟨_, gy⟩ := dp_get hy
    have ed := List.getElem?_eq_getElem hi
    obtain ⟨u, eu, du⟩ := gx i _ ed
    obtain ⟨v, ev, dv⟩ := gy i _ ed
    show tb _ ([some x, some y, kv].set 2 (some (.int (0 + (i : Int))))) H'
    rw [Int.zero_add]
    exact hb i u v _ kv _ hi eu ev du dv (hf _ (List.getElem_mem hi)) ⟨rfl, _, rfl⟩
  · rintro σ H' ⟨rfl, kv, rfl⟩
    exact hq kv
theorem ok_u_law_same_n (T : Txt K mg A) : ∀ n, FnOk P w K mg base CX0 (n + 2) A.f_u_law_same A.d_u_law_same (["got", "due"] : List Str) (sp_same K n) := by
  intro n
  induction n with
  | zero => exact ⟨fun vs H Q E h => by obtain ⟨x, y, d, rfl, _⟩ := h; rfl, fun Ar outer s H args us vs Q E _ _ _ _ h => by obtain ⟨x, y, d, _, _, _, hf, _⟩ := h; exact hf.elim⟩
  | succ n ih =>
    refine T.F_u_law_same.ok sc_u_law_same (fun vs H Q E h => ?_) (fun cdv Ar outer s H vs Q E hr h => ?_)
    · obtain ⟨x, y, d, rfl, _⟩ := h
      rfl
    · obtain ⟨x, y, d, rfl, hx, hy, hf, q⟩ := h
      have ihx := ih
      refine ⟨_, (pss_cons (ps_if (pt_cmpR op_isN (pv 1) pe_non (nomark _)) (pss_one (ps_ret (pe_cmpR op_isN (pv 0) pe_non (nomark _)))) pss_nil)
        (pss_cons (ps_if (pt_cmpR op_isK (pv 1) pe_bl (nomark _)) (pss_one (ps_ret (pe_cmpR op_isK (pv 0) pe_bl (nomark _)))) pss_nil)
        (pss_cons (ps_if (pt_cmpR op_isK (pv 1) pe_bl (nomark _)) (pss_one (ps_ret (pe_cmpR op_isK (pv 0) pe_bl (nomark _)))) pss_nil)
        (pss_cons (ps_if (pt_val (pe_callB isi_K (by rfl) T.z_isinstance (by decide +kernel) (pa_cons (pv 1) (pa_cons (pe_bltn (v := .ty "int") (by rfl) T.z_int (by decide +kernel) rfl) pa_nil)))) (pss_one (ps_ret (pe_and (pe_call (ok_u_law_is_int T) (hr.mono (by omega)) rfl T.g_u_law_is_int T.k_u_law_is_int (b_u_law_is_int T) .nil pass0 (pa_cons (pv 0) pa_nil)) (pe_one (pe_cmpR op_eq (pv 0) (pv 1) (nomark _)))))) pss_nil)
        (pss_cons (ps_if (pt_val (pe_callB isi_K (by rfl) T.z_isinstance (by decide +kernel) (pa_cons (pv 1) (pa_cons (pe_bltn (v := .ty "str") (by rfl) T.z_str (by decide +kernel) rfl) pa_nil)))) (pss_one (ps_ret (pe_and (pe_callB isi_K (by rfl) T.z_isinstance (by decide +kernel) (pa_cons (pv 0) (pa_cons (pe_bltn (v := .ty "str") (by rfl) T.z_str (by decide +kernel) rfl) pa_nil))) (pe_one (pe_cmpR op_eq (pv 0) (pv 1) (nomark _)))))) pss_nil)
        (pss_cons (ps_if (pt_val (pe_callB isi_K (by rfl) T.z_isinstance (by decide +kernel) (pa_cons (pv 1) (pa_cons (pe_bltn (v := .ty "tuple") (by rfl) T.z_tuple (by decide +kernel) rfl) pa_nil)))) (pss_one (ps_if (PW.pt (pw_or (pt_not (pt_val (pe_callB isi_K (by rfl) T.z_isinstance (by decide +kernel) (pa_cons (pv 0) (pa_cons (pe_bltn (v := .ty "tuple") (by rfl) T.z_tuple (by decide +kernel) rfl) pa_nil))))) (pw_or1 (pt_cmpR op_ne (pe_callB len_K (by rfl) T.z_len (by decide +kernel) (pa_cons (pv 0) pa_nil)) (pe_callB len_K (by rfl) T.z_len (by decide +kernel) (pa_cons (pv 1) pa_nil)) (nomark _))))) (pss_one (ps_ret pe_bl)) pss_nil)) (pss_one (ps_if (PW.pt (pw_or (pt_not (pt_val (pe_callB isi_K (by rfl) T.z_isinstance (by decide +kernel) (pa_cons (pv 0) (pa_cons (pe_bltn (v := .ty "list") (by rfl) T.z_list (by decide +kernel) rfl) pa_nil))))) (pw_or1 (pt_cmpR op_ne (pe_callB len_K (by rfl) T.z_len (by decide +kernel) (pa_cons (pv 0) pa_nil)) (pe_callB len_K (by rfl) T.z_len (by decide +kernel) (pa_cons (pv 1) pa_nil)) (nomark _))))) (pss_one (ps_ret pe_bl)) pss_nil)))
        (pss_cons (ps_for PassesOwn.never rfl (pi_range1 rfl T.z_range (pa_cons (pe_callB len_K (by rfl) T.z_len (by decide +kernel) (pa_cons (pv 1) pa_nil)) pa_nil)) (pg_name (i := 2) sc_u_law_same.nd rfl (Or.inl rfl)) (pss_one (ps_if (pt_not (pt_val (pe_call ih (hr.mono (by omega)) rfl T.g_u_law_same T.k_u_law_same (b_u_law_same T) .nil pass0 (pa_cons (pe_ix ix_sK (pv 0) (pv 2) (fun _ _ => rfl)) (pa_cons (pe_ix ix_sK (pv 1) (pv 2) (fun _ _ => rfl)) pa_nil))))) (pss_one (ps_ret pe_bl)) pss_nil)))
        (pss_one (ps_ret pe_bl))))))))), ?_⟩
      cases hx with
      | non => cases hy; exact ⟨_, rfl, rfl, _, rfl, wayT rfl ⟨_, rfl, rfl, q⟩⟩
      | bl b =>
        cases hy
        refine ⟨_, rfl, rfl, _, rfl, wayF (fun z => by cases z) ?_⟩
        cases b with
        | true => exact ⟨_, rfl, _, rfl, _, rfl, wayT rfl ⟨_, rfl, _, rfl, q⟩⟩
        | false => exact ⟨_, rfl, _, rfl, _, rfl, wayF (fun z => by cases z) ⟨_, rfl, _, rfl, _, rfl, wayT rfl ⟨_, rfl, _, rfl, q⟩⟩⟩
      | int i =>
        cases hy
        refine ⟨_, rfl, rfl, _, rfl, wayF (fun z => by cases z) ⟨_, rfl, _, rfl, _, rfl, wayF (fun z => by cases z) ⟨_, rfl, _, rfl, _, rfl, wayF (fun z => by cases z) ?_⟩⟩⟩
        refine ⟨_, rfl, _, _, _, _, true, rfl, .ty _, .base (.int i), kit_ty (by decide +kernel), ⟨_, rfl, iteT ?_⟩⟩
        refine ⟨_, rfl, i, rfl, _, rfl, iteT ?_⟩
        refine ⟨_, rfl, _, rfl, rfl, ?_⟩
        rw [decide_eq_true rfl]
        exact q
      | str z =>
        cases hy
        refine ⟨_, rfl, rfl, _, rfl, wayF (fun z => by cases z) ⟨_, rfl, _, rfl, _, rfl, wayF (fun z => by cases z) ⟨_, rfl, _, rfl, _, rfl, wayF (fun z => by cases z) ?_⟩⟩⟩
        refine ⟨_, rfl, _, _, _, _, false, rfl, .ty _, .base (.str z), kit_ty (by decide +kernel), ⟨_, rfl, iteF ?_⟩⟩
        refine ⟨_, rfl, _, _, _, _, true, rfl, .ty _, .base (.str z), kit_ty (by decide +kernel), ⟨_, rfl, iteT ?_⟩⟩
        refine ⟨_, rfl, _, _, _, _, true, rfl, .ty _, .base (.str z), kit_ty (by decide +kernel), ⟨_, rfl, iteT ?_⟩⟩
        refine ⟨_, rfl, _, rfl, rfl, ?_⟩
        rw [decide_eq_true rfl]
        exact q
      | lst sx ax =>
        cases hy with
        | lst sy ay =>
          refine ⟨_, rfl, rfl, _, rfl, wayF (fun z => by cases z) ⟨_, rfl, _, rfl, _, rfl, wayF (fun z => by cases z) ⟨_, rfl, _, rfl, _, rfl, wayF (fun z => by cases z) ?_⟩⟩⟩
          refine ⟨_, rfl, _, _, _, _, false, rfl, .ty _, tyx_l sy, kit_ty (by decide +kernel), ⟨_, rfl, iteF ?_⟩⟩
          refine ⟨_, rfl, _, _, _, _, false, rfl, .ty _, tyx_l sy, kit_ty (by decide +kernel), ⟨_, rfl, iteF ?_⟩⟩
          refine ⟨_, rfl, _, _, _, _, false, rfl, .ty _, tyx_l sy, kit_ty (by decide +kernel), ⟨_, rfl, iteF ?_⟩⟩
          refine ⟨_, rfl, _, _, _, _, true, rfl, .ty _, tyx_l sx, kit_ty (by decide +kernel), ⟨_, rfl, iteF ?_⟩⟩
          have lx := (dp_get ax).1
          have ly := (dp_get ay).1
          refine ⟨_, rfl, _, _, rfl, .inl ⟨_, sx, rfl⟩, _, rfl, _, _, rfl, .inl ⟨_, sy, rfl⟩, rfl, _, rfl, wayNT (by rw [lx, ly]) ?_⟩
          have h40 := hf.1
          refine ⟨_, rfl, _, _, rfl, .inl ⟨_, sy, rfl⟩, _, rfl, by omega, by omega, same_loop (by omega) ax ay hf.2 hf.1 (fun i u v d kv D hi eu ev du dv fd hn => ?_) (fun kv => q)⟩
          refine ⟨_, rfl, _, rfl, .inl ⟨_, _, _, u, rfl, rfl, sx, atI_nat eu, ?_⟩⟩
          refine ⟨_, rfl, _, rfl, .inl ⟨_, _, _, v, rfl, rfl, sy, atI_nat ev, ?_⟩⟩
          exact ⟨u, v, d, rfl, du, dv, fd, _, rfl, iteF hn⟩
      | tup sx ax =>
        cases hy with
        | tup sy ay =>
          refine ⟨_, rfl, rfl, _, rfl, wayF (fun z => by cases z) ⟨_, rfl, _, rfl, _, rfl, wayF (fun z => by cases z) ⟨_, rfl, _, rfl, _, rfl, wayF (fun z => by cases z) ?_⟩⟩⟩
          refine ⟨_, rfl, _, _, _, _, false, rfl, .ty _, tyx_t sy, kit_ty (by decide +kernel), ⟨_, rfl, iteF ?_⟩⟩
          refine ⟨_, rfl, _, _, _, _, false, rfl, .ty _, tyx_t sy, kit_ty (by decide +kernel), ⟨_, rfl, iteF ?_⟩⟩
          refine ⟨_, rfl, _, _, _, _, true, rfl, .ty _, tyx_t sy, kit_ty (by decide +kernel), ⟨_, rfl, iteT ?_⟩⟩
          refine ⟨_, rfl, _, _, _, _, true, rfl, .ty _, tyx_t sx, kit_ty (by decide +kernel), ⟨_, rfl, iteF ?_⟩⟩
          have lx := (dp_get ax).1
          have ly := (dp_get ay).1
          refine ⟨_, rfl, _, _, rfl, .inr ⟨_, sx, rfl⟩, _, rfl, _, _, rfl, .inr ⟨_, sy, rfl⟩, rfl, _, rfl, wayNT (by rw [lx, ly]) ?_⟩
          have h40 := hf.1
          refine ⟨_, rfl, _, _, rfl, .inr ⟨_, sy, rfl⟩, _, rfl, by omega, by omega, same_loop (by omega) ax ay hf.2 hf.1 (fun i u v d kv D hi eu ev du dv fd hn => ?_) (fun kv => q)⟩
          refine ⟨_, rfl, _, rfl, .inr (.inl ⟨_, _, _, u, rfl, rfl, sx, atI_nat eu, ?_⟩)⟩
          refine ⟨_, rfl, _, rfl, .inr (.inl ⟨_, _, _, v, rfl, rfl, sy, atI_nat ev, ?_⟩)⟩
          exact ⟨u, v, d, rfl, du, dv, fd, _, rfl, iteF hn⟩
theorem ok_u_law_same (T : Txt K mg A) : FnOk P w K mg base CX0 6 A.f_u_law_same A.d_u_law_same (["got", "due"] : List Str) (sp_same K 4) := ok_u_law_same_n T 4

theorem er_bitsN {E : XK} {σ : L2.St} {H : Hp} {tn tz : TE} {n z : Int} (h1 : Ev tn σ H (.int n)) (h2 : Ev tz σ H (.int z)) (hn : 0 ≤ n ∧ n ≤ 25) : EvR (tCall spBits [] E (tCons tn (tCons tz tNil))) σ H fun v G => ∃ (p : Addr) (xs : List Int), v = .ref p ∧ H p = none ∧ G p = some (.lst (xs.map V.int)) ∧ Asc 0 n xs := fun H1 e Q q =>
  h1 H1 e _ fun H2 e2 => h2 H2 (e.trans e2) _ fun H3 e3 => ⟨n, z, rfl, hn, fun p H' xs hp e' h hA => q _ H' ((e2.trans e3).trans e') ⟨p, xs, rfl, fresh_back ((e.trans e2).trans e3) hp, h, hA⟩⟩

theorem ev_niNew {K : PySem.W.Frag} {ta tb : TE} {σ : L2.St} {H : Hp} {x : Int} {xs : List Int} (ha : Ev ta σ H (.int x)) (hb : EvL tb σ H (xs.map V.int)) : Ev (tOp (rIn K true) ta tb) σ H (.bl (!decide (x ∈ xs))) := fun H1 e Q q => ha H1 e _ fun H2 e2 => hb H2 (e.trans e2) _ fun p H3 _ e3 g => rv_niI (K := K) (sq_of g) H3 (Ex.refl _) _ fun H4 e4 => q H4 ((e2.trans e3).trans e4)
theorem ev_inNew {K : PySem.W.Frag} {ta tb : TE} {σ : L2.St} {H : Hp} {x : Int} {xs : List Int} (ha : Ev ta σ H (.int x)) (hb : EvL tb σ H (xs.map V.int)) : Ev (tOp (rIn K false) ta tb) σ H (.bl (decide (x ∈ xs))) := fun H1 e Q q => ha H1 e _ fun H2 e2 => hb H2 (e.trans e2) _ fun p H3 _ e3 g => rv_inI (K := K) (sq_of g) H3 (Ex.refl _) _ fun H4 e4 => q H4 ((e2.trans e3).trans e4)
def spGate (K : PySem.W.Frag) : Sp := fun vs H Q _ => ∃ (d : Addr) (n : Nat) (ds : List Int) (z : Int), vs = [.int (n : Int), .ref d, .int z] ∧ SqL K H d (ds.map V.int) ∧ ds.length = 6 ∧ (0 ≤ ds.getD 1 0 ∧ ds.getD 1 0 < 5) ∧ (1 ≤ n ∧ n ≤ 12) ∧ (2 ≤ z ∧ z ≤ 6) ∧ ∀ p H' xs, H p = none → Ex H H' → H' p = some (.lst (xs.map V.int)) → Asc 0 (n : Int) xs → Q (.ref p) H' 
theorem ok_u_law_gate (T : Txt K mg A) : FnOk P w K mg base CX0 2 A.f_u_law_gate A.d_u_law_gate (["n", "draws", "size"] : List Str) (spGate K) := by
  refine T.F_u_law_gate.ok sc_u_law_gate (fun vs H Q E h => ?_) (fun cdv Ar outer s H vs Q E hr h => ?_)
  · obtain ⟨d, n, ds, z, rfl, _⟩ := h
    rfl
  · obtain ⟨d, n, ds, z, rfl, hd, dl, d1, hn, hz, k⟩ := h
    refine ⟨_, (pss_cons (ps_if (PW.pt (pw_and (pt_cmpR op_gt (pv 0) pe_int (nomark _)) (pw_and1 (pt_cmpR op_lt (pe_ix ix_lK (pv 1) pe_int (fun _ _ => rfl)) pe_int (nomark _))))) (pss_cons (ps_set (i := 3) sc_u_law_gate.nd rfl (Or.inr rfl) (pe_slice sl_list (pv 1) (po_some pe_int) (po_some (pe_op op_add pe_int (pe_op op_mod (pe_callTy call_int1 (by rfl) T.z_int (by decide +kernel) (pa_cons (pe_ix ix_lK (pv 1) pe_int (fun _ _ => rfl)) pa_nil)) pe_int)))))
        (pss_one (ps_ret (pe_lc (own := [("h", 4)]) (g := gName 4) rfl sc_u_law_gate.nd (pi_range1 rfl T.z_range (pa_cons (pv 0) pa_nil)) (blkOk_by (own := [("h", 4)]) (N := N_u_law_gate) (sc := defScope s_u_law_gate) (by decide +kernel)) (fun _ _ _ _ _ => (pg_name (i := 4) sc_u_law_gate.nd rfl (Or.inl rfl))) (fun _ _ _ _ _ => (pts_one (pt_cmpR notin_K (pv 4) (pv 3) (by with_unfolding_all rfl)))) (fun _ _ _ _ _ => (pv 4)))))) pss_nil)
        (pss_cons (ps_if (pt_cmpR op_eq (pe_ix ix_lK (pv 1) pe_int (fun _ _ => rfl)) pe_int (nomark _)) (pss_one (ps_ret (pe_call (ok_u_law_bits T) (hr.mono (by omega)) rfl T.g_u_law_bits T.k_u_law_bits (b_u_law_bits T) .nil pass0 (pa_cons (pv 0) (pa_cons (pe_ix ix_lK (pv 1) pe_int (fun _ _ => rfl)) pa_nil))))) pss_nil)
        (pss_cons (ps_set (i := 5) sc_u_law_gate.nd rfl (Or.inr rfl) (pe_lc (own := [("h", 4)]) (g := gName 4) rfl sc_u_law_gate.nd (pi_range1 rfl T.z_range (pa_cons (pv 0) pa_nil)) (blkOk_by (own := [("h", 4)]) (N := N_u_law_gate) (sc := defScope s_u_law_gate) (by decide +kernel)) (fun _ _ _ _ _ => (pg_name (i := 4) sc_u_law_gate.nd rfl (Or.inl rfl))) (fun _ _ _ _ _ => (pts_one (pt_cmpR in_K (pv 4) (pe_slice sl_listK (pv 1) (po_some pe_int) (po_some (pe_op op_add pe_int (pv 2)))) (by with_unfolding_all rfl)))) (fun _ _ _ _ _ => (pv 4))))
        (pss_cons (ps_for PassesOwn.never rfl (pi_range1 rfl T.z_range (pa_cons (pv 0) pa_nil)) (pg_name (i := 4) sc_u_law_gate.nd rfl (Or.inr rfl)) (pss_one (ps_if (PW.pt (pw_and (pt_cmpR op_lt (pe_callB len_K (by rfl) T.z_len (by decide +kernel) (pa_cons (pv 5) pa_nil)) (pv 2) (nomark _)) (pw_and1 (pt_cmpR notin_K (pv 4) (pv 5) (by with_unfolding_all rfl))))) (pss_one (ps_set (i := 5) sc_u_law_gate.nd rfl (Or.inr rfl) (pe_lc (own := [("other", 6)]) (g := gName 6) rfl sc_u_law_gate.nd (pi_range1 rfl T.z_range (pa_cons (pv 0) pa_nil)) (blkOk_by (own := [("other", 6)]) (N := N_u_law_gate) (sc := defScope s_u_law_gate) (by decide +kernel)) (fun _ _ _ _ _ => (pg_name (i := 6) sc_u_law_gate.nd rfl (Or.inl rfl))) (fun _ _ _ _ _ => (pts_one (PW.pt (pw_or (pt_cmpR in_K (pv 6) (pv 5) (by with_unfolding_all rfl)) (pw_or1 (pt_cmpR op_eq (pv 6) (pv 4) (nomark _))))))) (fun _ _ _ _ _ => (pv 6))))) pss_nil)))
        (pss_one (ps_ret (pv 5))))))), ?_⟩
    have fAt : ∀ i : Nat, i < 6 → atI (ds.map V.int) (i : Int) = some (.int (ds.getD i 0)) := fun i hi => by
      have := atI_ints (ns := ds) (i := (i : Int)) (by omega) (by omega)
      rwa [Int.toNat_natCast] at this
    generalize hz1 : ds.getD 1 0 = z1 at d1
    have f1 : atI (ds.map V.int) 1 = some (.int z1) := by rw [← hz1]; exact fAt 1 (by decide)
    have cut : ∀ c e : Int, ∃ cs : List Int, cutV (ds.map V.int) (some c) (some e) = cs.map V.int := fun c e => ⟨(ds.drop (HT.sIx (ds.map V.int).length 0 (some c))).take (HT.sIx (ds.map V.int).length (ds.map V.int).length (some e) - HT.sIx (ds.map V.int).length 0 (some c)), by rw [List.map_take, List.map_drop]; rfl⟩
    try dsimp only
    refine q_when (b := decide ((8 : Int) < (n : Int)) && decide (z1 < 3)) (et_and (et_test (ev_op (ev_var (i := 0) rfl) ev_c rv_I0)) fun _ => et_test (ev_op (ev_ix (ev_var (i := 1) rfl) ev_c hd f1) ev_c rv_I0)) (fun _ H1 e1 => ?_) (fun _ H1 e1 => ?_)
    · obtain ⟨cs, hcs⟩ := cut 2 (3 + z1 % 3)
      have sl := el_sl (K := K) (te := tVar 1) (σ := [some (.int (n : Int)), some (.ref d), some (.int z), none, none, none, none]) (H := H1) (ev_var rfl) (eo_some (i := 2) ev_c) (eo_some (i := 3 + z1 % 3) (ev_op ev_c (ev_op (ev_int (ev_ix (ev_var (i := 1) rfl) ev_c (ex_l e1 hd) f1)) ev_c (rv_I (g := fun i j => V.int (i % j)) (C := fun _ j => 0 < j) (show (0 : Int) < 3 by decide))) (rv_I0 (g := fun i j => V.int (i + j))))) (ex_l e1 hd)
      rw [hcs] at sl
      try dsimp only
      refine q_asgL sl fun rp H2 hrp e2 h2 => ?_
      try dsimp only
      refine s_retL (el_marks (K := K) (n := (n : Int)) (fun x => !decide (x ∈ cs)) (ea_cons (ev_var (i := 0) rfl) ea_nil) (by omega) (fun x => rfl) (fun x G g _ _ => et_test (ev_op (ev_var (i := 4) rfl) (ev_var (i := 3) rfl) (rv_niI (sq_of (g _ _ h2))))) (fun x G => ev_var (i := 4) rfl)) fun p H3 hp e3 h3 => ?_
      exact k p H3 _ (fresh_back (e1.trans e2) hp) ((e1.trans e2).trans e3) h3 (asc_hrs (by omega))
    replace hd := ex_l e1 hd
    try dsimp only
    refine q_when (b := decide (z1 = 0)) (et_test (ev_is (ev_op (ev_ix (ev_var (i := 1) rfl) ev_c hd f1) ev_c (rv_eq rfl)) (by rw [dec_ii]))) (fun _ H2 e2 => ?_) (fun _ H2 e2 => ?_)
    · exact s_retR (er_bitsN (ev_var (i := 0) rfl) (ev_ix (ev_var (i := 1) rfl) ev_c (ex_l e2 hd) (fAt 0 (by decide))) (by omega)) fun v G g hv => by
        obtain ⟨p, xs, rfl, hp, h, hA⟩ := hv
        exact k p G xs (fresh_back (e1.trans e2) hp) ((e1.trans e2).trans g) h hA
    replace hd := ex_l e2 hd
    have e02 := e1.trans e2
    obtain ⟨cs, hcs⟩ := cut 2 (2 + z)
    try dsimp only
    refine q_asgL (el_marks (K := K) (n := (n : Int)) (fun x => decide (x ∈ cs)) (ea_cons (ev_var (i := 0) rfl) ea_nil) (by omega) (fun x => rfl) (fun x G g _ _ => et_test (ev_inNew (ev_var (i := 4) rfl) (by
      rw [← hcs]
      exact el_sl (K := K) (ev_var (i := 1) rfl) (eo_some (i := 2) ev_c) (eo_some (i := 2 + z) (ev_op ev_c (ev_var (i := 2) rfl) (rv_I0 (g := fun i j => V.int (i + j))))) (ex_l g hd)))) (fun x G => ev_var (i := 4) rfl)) fun p0 H3 hp0 e3 h3 => ?_
    have e03 := e02.trans e3
    try dsimp only
    refine q_forR1 (j := 4) (n := (n : Int)) (ea_cons (ev_var (i := 0) rfl) ea_nil) (by omega) (fun i σ' G => ∃ (v4 v6 : Option V) (p : Addr) (xs : List Int), σ' = [some (.int (n : Int)), some (.ref d), some (.int z), none, v4, some (.ref p), v6] ∧ Ex H G ∧ H p = none ∧ G p = some (.lst (xs.map V.int)) ∧ Asc 0 (n : Int) xs) (fun G e => ⟨_, _, p0, _, rfl, e03.trans e, fresh_back e02 hp0, e _ _ h3, asc_hrs (by omega)⟩) ?_ ?_
    · rintro i σ' G hi ⟨v4, v6, p, xs, rfl, eG, hp, hG, hA⟩
      have xl := hA.len
      try dsimp only
      refine s_when (b := decide (((xs.length : Nat) : Int) < z) && !decide ((i : Int) ∈ xs)) (et_and (et_test (ev_op (ev_cb (r := rLenK K) (z := .int ((xs.length : Nat) : Int)) (ea_cons (ev_var (i := 5) rfl) ea_nil) fun H9 e9 Q q => ⟨.ref p, xs.length, rfl, .inl ⟨_, sq_of (e9 _ _ hG), (List.length_map _).symm⟩, q H9 (Ex.refl H9)⟩) (ev_var (i := 2) rfl) rv_I0)) fun _ => et_test (ev_op (ev_var (i := 4) rfl) (ev_var (i := 5) rfl) (rv_niI (sq_of hG)))) (fun hc G1 g1 => ?_) (fun hc G1 g1 => ⟨_, _, p, xs, rfl, eG.trans g1, hp, g1 _ _ hG, hA⟩)
      try dsimp only
      exact s_asgL (el_marks (K := K) (n := (n : Int)) (fun x => decide (x ∈ xs) || decide (x = (i : Int))) (ea_cons (ev_var (i := 0) rfl) ea_nil) (by omega) (fun x => rfl) (fun x G2 g2 _ _ => et_or (et_test (ev_op (ev_var (i := 6) rfl) (ev_var (i := 5) rfl) (rv_inI (sq_of ((g1.trans g2) _ _ hG))))) fun _ => et_test (ev_is (ev_op (ev_var (i := 6) rfl) (ev_var (i := 4) rfl) (rv_eq rfl)) (by rw [dec_ii]))) (fun x G2 => ev_var (i := 6) rfl)) fun p2 G2 hp2 g2 h2 => ⟨_, _, p2, _, rfl, (eG.trans g1).trans g2, fresh_back (eG.trans g1) hp2, h2, asc_hrs (by omega)⟩
    rintro σ' G ⟨v4, v6, p, xs, rfl, eG, hp, hG, hA⟩
    exact s_ret (ev_var (i := 5) rfl) fun G1 g1 => k p G1 xs hp (eG.trans g1) (g1 _ _ hG) hA

def metN (n : Nat) (xs Ls : List Int) (h : Int) : Nat := (Ls.filter fun s => decide ((h - s) % (n : Int) ∈ xs)).length
def spLack (K : PySem.W.Frag) : Sp := fun vs H Q _ => ∃ (a c : Addr) (n : Nat) (h z : Int) (xs Ls : List Int), vs = [.int (n : Int), .ref a, .int z, .ref c, .int h] ∧ 1 ≤ n ∧ SqL K H a (xs.map V.int) ∧ SqL K H c (Ls.map V.int) ∧ Ls.length ≤ 360 ∧ ∀ H', Ex H H' → Q (.int (lackO (z - ((metN n xs Ls h : Nat) : Int)))) H' 
theorem ok_u_law_lack (T : Txt K mg A) : FnOk P w K mg base CX0 2 A.f_u_law_lack A.d_u_law_lack (["n", "side", "need", "taken", "h"] : List Str) (spLack K) := by
  refine T.F_u_law_lack.ok sc_u_law_lack (fun vs H Q E h => ?_) (fun cdv Ar outer s H vs Q E hr h => ?_)
  · obtain ⟨a, c, n, h, z, xs, Ls, rfl, _⟩ := h
    rfl
  · obtain ⟨a, c, n, h, z, xs, Ls, rfl, hn, ha, hc, hl, k⟩ := h
    refine ⟨_, (pss_cons (ps_set (i := 5) sc_u_law_lack.nd rfl (Or.inl rfl) (pe_callB len_K (by rfl) T.z_len (by decide +kernel) (pa_cons (pe_lc (own := [("s", 6)]) (g := gName 6) rfl sc_u_law_lack.nd (pi_listK (pv 3)) (blkOk_by (own := [("s", 6)]) (N := N_u_law_lack) (sc := defScope s_u_law_lack) (by decide +kernel)) (fun _ _ _ _ _ => (pg_name (i := 6) sc_u_law_lack.nd rfl (Or.inl rfl))) (fun _ _ _ _ _ => (pts_one (pt_cmpR in_K (pe_op op_mod (pe_callTy call_int1 (by rfl) T.z_int (by decide +kernel) (pa_cons (pe_op op_sub (pv 4) (pv 6)) pa_nil)) (pv 0)) (pv 1) (by with_unfolding_all rfl)))) (fun _ _ _ _ _ => (pv 6))) pa_nil)))
        (pss_one (ps_ret (pe_callB (call_max2 rfl) (by rfl) T.z_max (by decide +kernel) (pa_cons pe_int (pa_cons (pe_op op_sub (pv 2) (pv 5)) pa_nil)))))), ?_⟩
    try dsimp only
    refine q_asg (v := .int ((metN n xs Ls h : Nat) : Int)) (ev_is (ev_lenN' (K := K) (el_map (K := K) (a := c) Ls (fun s => decide ((h - s) % (n : Int) ∈ xs)) (fun s => s) (ev_var (i := 3) rfl) hc (by omega) (fun x => rfl) (fun x G g _ => et_test (ev_op (ev_op (ev_int (ev_op (ev_var (i := 4) rfl) (ev_var (i := 6) rfl) rv_I0)) (ev_var (i := 0) rfl) (rv_I (show (0 : Int) < (n : Int) by omega))) (ev_var (i := 1) rfl) (rv_inI (ex_l g ha)))) (fun x G g _ _ => ev_var (i := 6) rfl))) (by unfold metN; rw [List.length_map, List.length_map])) fun H1 e1 => ?_
    try dsimp only
    exact s_ret (ev_cb (ea_cons ev_c (ea_cons (ev_op (ev_var (i := 2) rfl) (ev_var (i := 5) rfl) rv_I0) ea_nil)) fun G e Q q => ⟨0, _, rfl, q G (Ex.refl G)⟩) fun G g => k G (e1.trans g)

structure BitsOf (t : Nat) (Ls : List Int) : Prop where
  bit : ∀ i : Nat, t.testBit i = decide ((i : Int) ∈ Ls)
  nn : ∀ z ∈ Ls, 0 ≤ z
theorem free_bit {M t b i : Nat} : (freeB M t b).testBit i = (M.testBit i && !t.testBit i && !b.testBit i) := by
  unfold freeB
  rw [sub_bit, sub_bit]
theorem mem_free {n h t b : Nat} {xs : List Int} {z : Int} (hn : n ≤ 12) : z ∈ lstB (freeB (meetB n xs h) t b) ↔ (0 ≤ z ∧ z < (n : Int)) ∧ ((h : Int) - z) % (n : Int) ∈ xs ∧ t.testBit z.toNat = false ∧ b.testBit z.toNat = false := by
  rw [mem_lstB, free_bit, meet_bit, Bool.and_eq_true, Bool.and_eq_true, Bool.not_eq_true', Bool.not_eq_true', decide_eq_true_iff]
  constructor
  · rintro ⟨⟨h0, h1⟩, ⟨⟨a, c⟩, d⟩, e⟩
    rw [Int.toNat_of_nonneg h0] at c
    exact ⟨⟨h0, by omega⟩, c, d, e⟩
  · rintro ⟨⟨h0, h1⟩, c, d, e⟩
    exact ⟨⟨h0, by omega⟩, ⟨⟨by omega, by rw [Int.toNat_of_nonneg h0]; exact c⟩, d⟩, e⟩
theorem bits_mem {t : Nat} {Ls : List Int} {z : Int} (h : BitsOf t Ls) (h0 : 0 ≤ z) : t.testBit z.toNat = decide (z ∈ Ls) := by
  rw [h.bit, Int.toNat_of_nonneg h0]
theorem el_catHH {σ : L2.St} {H : Hp} {ta tb : TE} {p q : Addr} {xs ys : List V} (h1 : Ev ta σ H (.ref p)) (hp : H p = some (.lst xs)) (h2 : Ev tb σ H (.ref q)) (hq : H q = some (.lst ys)) (hz : xs.length + ys.length ≤ 100000) : EvL (tOp rCat ta tb) σ H (xs ++ ys) := fun H1 e Q k =>
  h1 H1 e _ fun H2 e2 => h2 H2 (e.trans e2) _ fun H3 e3 => ⟨p, q, xs, ys, rfl, rfl, ((e.trans e2).trans e3) _ _ hp, ((e.trans e2).trans e3) _ _ hq, Evl.sz_of hz, fun r hr => k r _ (fresh_back (e2.trans e3) hr) ((e2.trans e3).trans (Ex.new hr)) upd_same⟩
def spFree (K : PySem.W.Frag) : Sp := fun vs H Q _ => ∃ (a c d : Addr) (n h t b : Nat) (xs Ls Bs : List Int), vs = [.int (n : Int), .ref a, .ref c, .ref d, .int (h : Int)] ∧ (1 ≤ n ∧ n ≤ 12) ∧ SqL K H a (xs.map V.int) ∧ H c = some (.lst (Ls.map V.int)) ∧ H d = some (.lst (Bs.map V.int)) ∧ (Ls.length ≤ 360 ∧ Bs.length ≤ 360) ∧ BitsOf t Ls ∧ BitsOf b Bs ∧ ∀ p H', H p = none → Ex H H' → H' p = some (.lst ((lstB (freeB (meetB n xs h) t b)).map V.int)) → Q (.ref p) H' 
theorem ok_u_law_free (T : Txt K mg A) : FnOk P w K mg base CX0 2 A.f_u_law_free A.d_u_law_free (["n", "side", "taken", "barred", "h"] : List Str) (spFree K) := by
  refine T.F_u_law_free.ok sc_u_law_free (fun vs H Q E h => ?_) (fun cdv Ar outer s H vs Q E hr h => ?_)
  · obtain ⟨a, c, d, n, h, t, b, xs, Ls, Bs, rfl, _⟩ := h
    rfl
  · obtain ⟨a, c, d, n, h, t, b, xs, Ls, Bs, rfl, hn, ha, hc, hd, hl, hT, hB, k⟩ := h
    refine ⟨_, (pss_cons (ps_setLc (i := 5) (own := [("s", 6)]) (g := gName 6) rfl sc_u_law_free.nd rfl rfl (sw_true rfl rfl rfl (by decide +kernel)) (pi_range1 rfl T.z_range (pa_cons (pv 0) pa_nil)) (blkOk_by (own := [("s", 6)]) (N := N_u_law_free) (sc := defScope s_u_law_free) (by decide +kernel)) (fun _ _ _ _ _ => (pg_name (i := 6) sc_u_law_free.nd rfl (Or.inl rfl))) (fun _ _ _ _ _ => (pts_one (pt_cmpR in_K (pe_op op_mod (pe_callTy call_int1 (by rfl) T.z_int (by decide +kernel) (pa_cons (pe_op op_sub (pv 4) (pv 6)) pa_nil)) (pv 0)) (pv 1) (by with_unfolding_all rfl)))) (fun _ _ _ _ _ => (pv 6)))
        (pss_one (ps_ret (pe_lc (own := [("s", 6)]) (g := gName 6) rfl sc_u_law_free.nd (pi_listK (pv 5)) (blkOk_by (own := [("s", 6)]) (N := N_u_law_free) (sc := defScope s_u_law_free) (by decide +kernel)) (fun _ _ _ _ _ => (pg_name (i := 6) sc_u_law_free.nd rfl (Or.inl rfl))) (fun _ _ _ _ _ => (pts_one (pt_cmpR notin_K (pv 6) (pe_op op_cat (pv 2) (pv 3)) (by with_unfolding_all rfl)))) (fun _ _ _ _ _ => (pv 6)))))), ?_⟩
    try dsimp only
    refine q_asgL (el_marks (K := K) (n := (n : Int)) (fun s => decide (((h : Int) - s) % (n : Int) ∈ xs)) (ea_cons (ev_var (i := 0) rfl) ea_nil) (by omega) (fun x => rfl) (fun x G g _ _ => et_test (ev_op (ev_op (ev_int (ev_op (ev_var (i := 4) rfl) (ev_var (i := 6) rfl) rv_I0)) (ev_var (i := 0) rfl) (rv_I (show (0 : Int) < (n : Int) by omega))) (ev_var (i := 1) rfl) (rv_inI (ex_l g ha)))) (fun x G => ev_var (i := 6) rfl)) fun p0 H1 hp0 e1 h1 => ?_
    have sl := (asc_hrs (n := (n : Int)) (p := fun s => decide (((h : Int) - s) % (n : Int) ∈ xs)) (by omega)).len
    try dsimp only
    refine s_retL (el_map (K := K) (a := p0) (hrs (n : Int) fun s => decide (((h : Int) - s) % (n : Int) ∈ xs)) (fun s => !decide (s ∈ Ls ++ Bs)) (fun s => s) (ev_var (i := 5) rfl) (sq_of h1) (by omega) (fun x => rfl) (fun x G g _ => et_test (ev_niNew (ev_var (i := 6) rfl) (by
      rw [List.map_append]
      exact el_catHH (ev_var (i := 2) rfl) ((e1.trans g) _ _ hc) (ev_var (i := 3) rfl) ((e1.trans g) _ _ hd) (by rw [List.length_map, List.length_map]; omega)))) (fun x G g _ _ => ev_var (i := 6) rfl)) fun p H2 hp e2 h2 => k p H2 (fresh_back e1 hp) (e1.trans e2) ?_
    rw [h2]
    congr 3
    rw [List.map_id'']
    · refine asc_unique ((asc_hrs (by omega)).1.filter _) (asc_hrs (by decide)).1 fun z => ?_
      rw [mem_free hn.2, List.mem_filter, mem_hrs, decide_eq_true_iff, Bool.not_eq_true', decide_eq_false_iff_not, List.mem_append]
      constructor
      · rintro ⟨⟨hz, h1⟩, h2⟩
        exact ⟨hz, h1, by rw [bits_mem hT hz.1]; exact decide_eq_false fun c => h2 (.inl c), by rw [bits_mem hB hz.1]; exact decide_eq_false fun c => h2 (.inr c)⟩
      · rintro ⟨hz, h1, h2, h3⟩
        rw [bits_mem hT hz.1] at h2
        rw [bits_mem hB hz.1] at h3
        exact ⟨⟨hz, h1⟩, fun c => c.elim (of_decide_eq_false h2) (of_decide_eq_false h3)⟩
    · exact fun _ => rfl


/-! ### data told twice -/
theorem ed_ev {K : PySem.W.Frag} {σ : L2.St} {H : Hp} {te : TE} {v : V} {d : PyData} (h : Ev te σ H v) (hd : ∀ H1, Ex H H1 → Dp K H1 v d) : EvR te σ H fun v H1 => Dp K H1 v d := er_ev h hd
theorem ed_int {K : PySem.W.Frag} {σ : L2.St} {H : Hp} {te : TE} {z : Int} (h : Ev te σ H (.int z)) : EvR te σ H fun v H1 => Dp K H1 v (.int z) := er_ev h fun _ _ => .int z
theorem ed_bl {K : PySem.W.Frag} {σ : L2.St} {H : Hp} {te : TE} {z : Bool} (h : Ev te σ H (.bl z)) : EvR te σ H fun v H1 => Dp K H1 v (.bool z) := er_ev h fun _ _ => .bl z
theorem ed_str {K : PySem.W.Frag} {σ : L2.St} {H : Hp} {te : TE} {z : Str} (h : Ev te σ H (.str z)) : EvR te σ H fun v H1 => Dp K H1 v (.str z) := er_ev h fun _ _ => .str z
theorem ed_L {K : PySem.W.Frag} {σ : L2.St} {H : Hp} {te : TE} {xs : List Int} (h : EvL te σ H (xs.map V.int)) : EvR te σ H fun v H1 => Dp K H1 v (.list (xs.map .int)) := (er_L h).imp fun v H1 q => by
  obtain ⟨p, rfl, hp⟩ := q
  exact .lst (sq_of hp) (dp_ints _)
theorem ed_held {K : PySem.W.Frag} {σ : L2.St} {H : Hp} {i : Nat} {p : Addr} {xs : List Int} (h : σ[i]? = some (some (.ref p))) (hp : SqL K H p (xs.map V.int)) : EvR (tVar i) σ H fun v H1 => Dp K H1 v (.list (xs.map .int)) := er_ev (ev_var h) fun H1 e => .lst (ex_l e hp) (dp_ints _)
def EvDs (K : PySem.W.Frag) (ta : TA) (σ : L2.St) (H : Hp) (ds : List PyData) : Prop := ∀ H1, Ex H H1 → ∀ Q : List V → Hp → Prop, (∀ vs H2, Ex H1 H2 → DpAll K H2 vs ds → Q vs H2) → ta σ H1 Q
theorem eds_nil {K : PySem.W.Frag} {σ : L2.St} {H : Hp} : EvDs K tNil σ H [] := fun H1 _ Q q => q [] H1 (Ex.refl H1) .nil
theorem eds_cons {K : PySem.W.Frag} {σ : L2.St} {H : Hp} {te : TE} {ta : TA} {d : PyData} {ds : List PyData} (h : EvR te σ H fun v H1 => Dp K H1 v d) (r : EvDs K ta σ H ds) : EvDs K (tCons te ta) σ H (d :: ds) := fun H1 e Q q =>
  h H1 e _ fun v H2 e2 hv => r H2 (e.trans e2) _ fun vs H3 e3 hs => q (v :: vs) H3 (e2.trans e3) (.cons (dp_ex e3 hv) hs)
theorem ed_tup {K : PySem.W.Frag} {σ : L2.St} {H : Hp} {ta : TA} {ds : List PyData} (h : EvDs K ta σ H ds) (hl : ds.length ≤ 1000) : EvR (tTup ta) σ H fun v H1 => Dp K H1 v (.tuple ds) := fun H1 e Q q =>
  h H1 e _ fun vs H2 e2 hs => by
    have l := (dp_get hs).1
    exact ⟨by rw [l]; exact Nat.le_trans hl (by decide), fun p hp => q _ _ (e2.trans (Ex.new hp)) (.tup (st_of upd_same) (dpa_ex (Ex.new hp) hs))⟩
theorem ed_lst {K : PySem.W.Frag} {σ : L2.St} {H : Hp} {ta : TA} {ds : List PyData} (h : EvDs K ta σ H ds) (hl : ds.length ≤ 1000) : EvR (tLst ta) σ H fun v H1 => Dp K H1 v (.list ds) := fun H1 e Q q =>
  h H1 e _ fun vs H2 e2 hs => by
    have l := (dp_get hs).1
    exact ⟨by rw [l]; exact Nat.le_trans hl (by decide), fun p hp => q _ _ (e2.trans (Ex.new hp)) (.lst (sq_of upd_same) (dpa_ex (Ex.new hp) hs))⟩
theorem ev_same {K : PySem.W.Frag} {E : XK} {σ : L2.St} {H : Hp} {ta tb : TE} {d : PyData} (ha : EvR ta σ H fun v H1 => Dp K H1 v d) (hb : EvR tb σ H fun v H1 => Dp K H1 v d) (hf : Flat 4 d) : Ev (tCall (sp_same K 4) [] E (tCons ta (tCons tb tNil))) σ H (.bl true) := fun H1 e Q q =>
  ha H1 e _ fun v H2 e2 hv => hb H2 (e.trans e2) _ fun w H3 e3 hw => ⟨v, w, d, rfl, dp_ex e3 hv, hw, hf, q H3 (e2.trans e3)⟩
theorem dp_rows {K : PySem.W.Frag} {H : Hp} : ∀ (vs : List V) (xss : List (List Int)), vs.length = xss.length → (∀ (i : Nat) v, vs[i]? = some v → ∃ p, v = .ref p ∧ SqL K H p ((xss.getD i []).map V.int)) → DpAll K H vs (xss.map fun xs => .list (xs.map .int))
  | [], [], _, _ => .nil
  | v :: vs, xs :: xss, hl, h => by
    obtain ⟨p, rfl, hp⟩ := h 0 v rfl
    exact .cons (.lst hp (dp_ints _)) (dp_rows vs xss (by simpa using hl) fun i u hu => h (i + 1) u hu)
theorem flat_rows {xss : List (List Int)} (h : xss.length ≤ 400) (hx : ∀ xs ∈ xss, xs.length ≤ 360) : Flat 4 (.list (xss.map fun xs => .list (xs.map .int))) :=
  ⟨by rw [List.length_map]; omega, fun d hd => by
    obtain ⟨xs, hm, rfl⟩ := List.mem_map.mp hd
    exact ⟨by rw [List.length_map]; have := hx xs hm; omega, fun d hd => by
      obtain ⟨i, _, rfl⟩ := List.mem_map.mp hd
      exact True.intro⟩⟩
/-- lists of ints within a list -/
structure Rows (K : PySem.W.Frag) (H : Hp) (a : Addr) (xss : List (List Int)) : Prop where
  all : ∃ vs : List V, SqL K H a vs ∧ vs.length = xss.length ∧ ∀ (i : Nat) v, vs[i]? = some v → ∃ p, v = .ref p ∧ SqL K H p ((xss.getD i []).map V.int)
theorem Rows.ex {K : PySem.W.Frag} {H H' : Hp} {a : Addr} {xss : List (List Int)} (e : Ex H H') (h : Rows K H a xss) : Rows K H' a xss := by
  obtain ⟨vs, h1, h2, h3⟩ := h.all
  exact ⟨vs, ex_l e h1, h2, fun i v hv => (h3 i v hv).imp fun p h => ⟨h.1, ex_l e h.2⟩⟩
theorem Rows.dp {K : PySem.W.Frag} {H : Hp} {a : Addr} {xss : List (List Int)} (h : Rows K H a xss) : Dp K H (.ref a) (.list (xss.map fun xs => .list (xs.map .int))) := by
  obtain ⟨vs, h1, h2, h3⟩ := h.all
  exact .lst h1 (dp_rows vs xss h2 h3)
theorem ed_rows {K : PySem.W.Frag} {σ : L2.St} {H : Hp} {i : Nat} {p : Addr} {xss : List (List Int)} (h : σ[i]? = some (some (.ref p))) (hp : Rows K H p xss) : EvR (tVar i) σ H fun v H1 => Dp K H1 v (.list (xss.map fun xs => .list (xs.map .int))) := er_ev (ev_var h) fun H1 e => (hp.ex e).dp
theorem getD_mem {α : Type} {xs : List α} {i : Nat} {d : α} (h : i < xs.length) : xs.getD i d ∈ xs := by
  rw [List.getD_eq_getElem?_getD, List.getElem?_eq_getElem h]
  exact List.getElem_mem _

theorem ev_isT {K : PySem.W.Frag} {te : TE} {σ : L2.St} {H : Hp} {q : Addr} {xs : List V} (h : Ev te σ H (.ref q)) (hq : SqT K H q xs) : Ev (tCB (rIsi K) (tCons te (tCons (tC (.ty "tuple")) tNil))) σ H (.bl true) := fun H1 e Q k => h H1 e _ fun H2 e2 => isi (tyx_t (ex_t (e.trans e2) hq)) (by decide +kernel) (k H2 e2)

theorem er_fresh {te : TE} {σ : L2.St} {H : Hp} {n : Nat} {P : Nat → V → Hp → Prop} (h : EvNew te σ H (ListP n P)) : EvR te σ H fun v G => ∃ (p : Addr) (vs : List V), v = .ref p ∧ H p = none ∧ G p = some (.lst vs) ∧ vs.length = n ∧ ∀ (k : Nat) x, vs[k]? = some x → P k x G := fun H1 e Q q =>
  h H1 e _ fun v H2 e2 hn => by
    obtain ⟨p, vs, rfl, h1, h2, h3⟩ := hn.self
    refine q _ H2 e2 ⟨p, vs, rfl, ?_, h1, h2, h3⟩
    let G0 : Hp := fun b => match H1 b with
      | none => H2 b
      | some _ => none
    obtain ⟨p', ws, ep, g1, _⟩ := hn G0 fun b o hb ho => by
      show (match H1 b with | none => H2 b | some _ => none) = some o
      rw [hb]
      exact ho
    cases ep
    have : H1 p = none := by
      have g2 : (match H1 p with | none => H2 p | some _ => none) = some (.lst ws) := g1
      cases z : H1 p with
      | none => rfl
      | some o => rw [z] at g2; cases g2
    exact fresh_back e this
theorem el_catH {σ : L2.St} {H : Hp} {ta tb : TE} {p : Addr} {xs ys : List V} (h1 : Ev ta σ H (.ref p)) (hp : H p = some (.lst xs)) (h2 : EvL tb σ H ys) (hz : xs.length + ys.length ≤ 100000) : EvL (tOp rCat ta tb) σ H (xs ++ ys) := fun H1 e Q q =>
  h1 H1 e _ fun H2 e2 => h2 H2 (e.trans e2) _ fun b H3 hb e3 g3 => ⟨p, b, xs, ys, rfl, rfl, ((e.trans e2).trans e3) _ _ hp, g3, Evl.sz_of hz, fun r hr => q r _ (fresh_back (e2.trans e3) hr) ((e2.trans e3).trans (Ex.new hr)) upd_same⟩

theorem cut_upto {xs : List Int} {k : Nat} (h : k ≤ xs.length) : cutV (xs.map V.int) none (some (k : Int)) = (xs.take k).map V.int := by
  unfold cutV
  rw [HT.sIx_none, HT.sIx_nat, List.length_map, List.drop_zero, Nat.min_eq_left h, Nat.sub_zero, List.map_take]

theorem mask_lt {n t : Nat} (h : t < 2 ^ n) {i : Nat} (hi : t.testBit i = true) : i < n := Decidable.by_contra fun c => by
  have := Nat.testBit_lt_two_pow (Nat.lt_of_lt_of_le h (Nat.pow_le_pow_right (show 0 < 2 by decide) (show n ≤ i by omega)))
  rw [this] at hi
  exact Bool.noConfusion hi
theorem pc_of {n t : Nat} {Ls : List Int} (hn : n ≤ 12) (ht : t < 2 ^ n) (h : BitsOf t Ls) (nd : Ls.Nodup) : pc t = Ls.length := by
  rw [← lstB_len]
  refine (perm_mem (asc_lstB ht).nodup nd fun z => ?_).length_eq
  rw [mem_lstB]
  constructor
  · rintro ⟨⟨h0, _⟩, hb⟩
    rw [bits_mem h h0] at hb
    exact of_decide_eq_true hb
  · intro hz
    have h0 := h.nn z hz
    have hb : t.testBit z.toNat = true := by rw [bits_mem h h0]; exact decide_eq_true hz
    have := mask_lt ht hb
    exact ⟨⟨h0, by omega⟩, hb⟩
theorem met_mask {n t h : Nat} {xs Ls : List Int} (hn : n ≤ 12) (ht : t < 2 ^ n) (hB : BitsOf t Ls) (nd : Ls.Nodup) : metN n xs Ls (h : Int) = pc (t &&& meetB n xs h) := by
  rw [← lstB_len]
  have lt : t &&& meetB n xs h < 2 ^ n := Nat.lt_of_le_of_lt Nat.and_le_left ht
  refine (perm_mem (nd.filter _) (asc_lstB lt).nodup fun z => ?_).length_eq
  rw [mem_lstB, List.mem_filter, Nat.testBit_and, meet_bit, Bool.and_eq_true, decide_eq_true_iff, decide_eq_true_iff]
  constructor
  · rintro ⟨hz, hm⟩
    have h0 := hB.nn z hz
    have hb : t.testBit z.toNat = true := by rw [bits_mem hB h0]; exact decide_eq_true hz
    have := mask_lt ht hb
    exact ⟨⟨h0, by omega⟩, hb, this, by rw [Int.toNat_of_nonneg h0]; exact hm⟩
  · rintro ⟨⟨h0, _⟩, hb, _, hm⟩
    rw [bits_mem hB h0] at hb
    rw [Int.toNat_of_nonneg h0] at hm
    exact ⟨of_decide_eq_true hb, hm⟩
theorem bits_lstB {n L : Nat} (hn : n ≤ 12) (h : L < 2 ^ n) : BitsOf L (lstB L) := ⟨fun i => by
  rw [Bool.eq_iff_iff, decide_eq_true_iff, mem_lstB, Int.toNat_natCast]
  constructor
  · intro hb
    have := mask_lt h hb
    exact ⟨by omega, hb⟩
  · exact fun z => z.2, fun z hz => (mem_lstB.mp hz).1.1⟩
theorem bits_nil : BitsOf 0 [] := ⟨fun i => by simp, fun z hz => by cases hz⟩
theorem bar_bit (l : List Int) (b i : Nat) (hl : ∀ z ∈ l, 0 ≤ z) : (barAt b l).testBit i = (b.testBit i || decide ((i : Int) ∈ l)) := by
  unfold barAt
  induction l generalizing b with
  | nil => simp
  | cons x l ih =>
    have hx := hl x List.mem_cons_self
    rw [List.foldl_cons, ih _ fun z hz => hl z (List.mem_cons_of_mem _ hz), Nat.testBit_or, Nat.one_shiftLeft, Nat.testBit_two_pow]
    by_cases c : x.toNat = i
    · have c' : (i : Int) = x := by omega
      simp [c, c']
    · have c' : ¬ (i : Int) = x := by omega
      simp [c, c']
theorem bits_snoc {t s : Nat} {Ls : List Int} (h : BitsOf t Ls) : BitsOf (t ||| 1 <<< s) (Ls ++ [(s : Int)]) := ⟨fun i => by
  rw [Nat.testBit_or, h.bit, Nat.one_shiftLeft, Nat.testBit_two_pow, Bool.eq_iff_iff, Bool.or_eq_true, decide_eq_true_iff, decide_eq_true_iff, decide_eq_true_iff, List.mem_append, List.mem_singleton]
  exact ⟨fun z => z.imp id fun y => by omega, fun z => z.imp id fun y => by omega⟩, fun z hz => by
  rcases List.mem_append.mp hz with hz | hz
  · exact h.nn z hz
  · rw [List.mem_singleton.mp hz]; omega⟩
theorem bits_bar {b : Nat} {Bs l : List Int} (h : BitsOf b Bs) (hl : ∀ z ∈ l, 0 ≤ z) : BitsOf (barAt b l) (Bs ++ l) := ⟨fun i => by
  rw [bar_bit l b i hl, h.bit, Bool.eq_iff_iff, Bool.or_eq_true, decide_eq_true_iff, decide_eq_true_iff, decide_eq_true_iff, List.mem_append], fun z hz => (List.mem_append.mp hz).elim (h.nn z) (hl z)⟩
theorem len_le {n : Nat} {l : List Int} (hd : l.Nodup) (h : ∀ z ∈ l, 0 ≤ z ∧ z < (n : Int)) : l.length ≤ n := by
  have := len_sub (bs := (List.range n).map fun i : Nat => (i : Int)) hd fun z hz => by
    have := h z hz
    exact List.mem_map.mpr ⟨z.toNat, List.mem_range.mpr (by omega), by omega⟩
  rwa [List.length_map, List.length_range] at this
theorem sum_pow : ∀ {m N : Nat}, m ≤ N → (((List.range m).map fun k => N - (1 + k)).map fun w => 2 ^ w).sum + 2 ^ (N - m) = 2 ^ N
  | 0, N, _ => by simp
  | m + 1, N, h => by
    have ih := sum_pow (m := m) (N := N) (by omega)
    rw [List.range_succ, List.map_append, List.map_append, List.sum_append]
    have e : N - m = (N - (m + 1)) + 1 := by omega
    have e2 : N - (1 + m) = N - (m + 1) := by omega
    rw [e, Nat.pow_succ] at ih
    simp only [List.map_cons, List.map_nil, List.sum_cons, List.sum_nil]
    rw [e2]
    omega
theorem ev_isInt {K : PySem.W.Frag} {E : XK} {σ : L2.St} {H : Hp} {te : TE} {z : Int} (h : Ev te σ H (.int z)) : Ev (tCall (sp_is_int K) [] E (tCons te tNil)) σ H (.bl true) := fun H1 e Q q => h H1 e _ fun H2 e2 => ⟨z, rfl, q H2 e2⟩
structure Bits (n t b : Nat) (Ls Bs : List Int) : Prop where
  tl : t < 2 ^ n
  bl : b < 2 ^ n
  ts : BitsOf t Ls
  bs : BitsOf b Bs
  dis : ∀ z ∈ Ls, z ∉ Bs
  nd : Ls.Nodup
  nb : Bs.Nodup
theorem Bits.in1 {n t b : Nat} {Ls Bs : List Int} (h : Bits n t b Ls Bs) : ∀ z ∈ Ls, 0 ≤ z ∧ z < (n : Int) := fun z hz => by
  have h0 := h.ts.nn z hz
  have := mask_lt h.tl (show t.testBit z.toNat = true by rw [bits_mem h.ts h0]; exact decide_eq_true hz)
  omega
theorem Bits.in2 {n t b : Nat} {Ls Bs : List Int} (h : Bits n t b Ls Bs) : ∀ z ∈ Bs, 0 ≤ z ∧ z < (n : Int) := fun z hz => by
  have h0 := h.bs.nn z hz
  have := mask_lt h.bl (show b.testBit z.toNat = true by rw [bits_mem h.bs h0]; exact decide_eq_true hz)
  omega
theorem Bits.child {n t b h k s : Nat} {Ls Bs xs : List Int} (hn : n ≤ 12) (x : Bits n t b Ls Bs) (hs : (lstB (freeB (meetB n xs h) t b))[k]? = some (s : Int)) : Bits n (t ||| 1 <<< s) (barAt b ((lstB (freeB (meetB n xs h) t b)).take k)) (Ls ++ [(s : Int)]) (Bs ++ (lstB (freeB (meetB n xs h) t b)).take k) := by
  generalize hF : lstB (freeB (meetB n xs h) t b) = F at hs
  have mF : ∀ z ∈ F, (0 ≤ z ∧ z < (n : Int)) ∧ z ∉ Ls ∧ z ∉ Bs := fun z hz => by
    rw [← hF, mem_free hn] at hz
    refine ⟨hz.1, ?_, ?_⟩
    · have := hz.2.2.1
      rw [bits_mem x.ts hz.1.1] at this
      exact of_decide_eq_false this
    · have := hz.2.2.2
      rw [bits_mem x.bs hz.1.1] at this
      exact of_decide_eq_false this
  have pwF : F.Pairwise (· < ·) := by rw [← hF]; exact (asc_hrs (by decide)).1
  have ndF : F.Nodup := pwF.imp fun h => by omega
  have sm := mF _ (List.mem_of_getElem? hs)
  have kl := (List.getElem?_eq_some_iff.mp hs).1
  have nk : (s : Int) ∉ F.take k := fun c => by
    obtain ⟨j, hj, hj2⟩ := List.getElem_of_mem c
    rw [List.length_take] at hj
    rw [List.getElem_take] at hj2
    have h1 : F[k] = (s : Int) := by rw [List.getElem?_eq_getElem kl] at hs; exact Option.some.inj hs
    have := List.pairwise_iff_getElem.mp pwF j k (by omega) kl (by omega)
    omega
  have ft : ∀ z ∈ F.take k, (0 ≤ z ∧ z < (n : Int)) ∧ z ∉ Ls ∧ z ∉ Bs := fun z hz => mF z (List.mem_of_mem_take hz)
  refine ⟨?_, ?_, bits_snoc x.ts, bits_bar x.bs fun z hz => (ft z hz).1.1, ?_, ?_, ?_⟩
  · exact Nat.or_lt_two_pow x.tl (by rw [Nat.one_shiftLeft]; exact Nat.pow_lt_pow_right (by decide) (by omega))
  · refine lt_pow_bits fun i hi => ?_
    rw [bar_bit _ _ _ fun z hz => (ft z hz).1.1, Bool.or_eq_false_iff]
    refine ⟨?_, decide_eq_false fun c => by have := ft _ c; omega⟩
    cases e : b.testBit i with
    | false => rfl
    | true => have := mask_lt x.bl e; omega
  · intro z hz c
    rcases List.mem_append.mp hz with hz | hz <;> rcases List.mem_append.mp c with c | c
    · exact x.dis z hz c
    · exact (ft z c).2.1 hz
    · rw [List.mem_singleton.mp hz] at c; exact sm.2.2 c
    · rw [List.mem_singleton.mp hz] at c; exact nk c
  · refine List.nodup_append.mpr ⟨x.nd, by simp, fun a ha c hc e => ?_⟩
    rw [List.mem_singleton.mp hc] at e
    rw [e] at ha
    exact sm.2.1 ha
  · refine List.nodup_append.mpr ⟨x.nb, ndF.sublist (List.take_sublist _ _), fun a ha c hc e => ?_⟩
    rw [e] at ha
    exact (ft c hc).2.2 ha
theorem Bits.room {n t b h : Nat} {Ls Bs xs : List Int} (hn : n ≤ 12) (x : Bits n t b Ls Bs) : (lstB (freeB (meetB n xs h) t b)).length ≤ n - (pc t + pc b) := by
  rw [pc_of hn x.tl x.ts x.nd, pc_of hn x.bl x.bs x.nb]
  have mF : ∀ z ∈ lstB (freeB (meetB n xs h) t b), (0 ≤ z ∧ z < (n : Int)) ∧ z ∉ Ls ∧ z ∉ Bs := fun z hz => by
    rw [mem_free hn] at hz
    refine ⟨hz.1, ?_, ?_⟩
    · have := hz.2.2.1
      rw [bits_mem x.ts hz.1.1] at this
      exact of_decide_eq_false this
    · have := hz.2.2.2
      rw [bits_mem x.bs hz.1.1] at this
      exact of_decide_eq_false this
  have ndF : (lstB (freeB (meetB n xs h) t b)).Nodup := ((asc_hrs (by decide)).1.imp fun h => by omega)
  have := len_le (n := n) (l := (Ls ++ Bs) ++ lstB (freeB (meetB n xs h) t b)) (List.nodup_append.mpr ⟨List.nodup_append.mpr ⟨x.nd, x.nb, fun a ha c hc e => x.dis a ha (by rw [e]; exact hc)⟩, ndF, fun a ha c hc e => by
    have := mF c hc
    rw [e] at ha
    exact (List.mem_append.mp ha).elim this.2.1 this.2.2⟩) fun z hz => by
    rcases List.mem_append.mp hz with hz | hz
    · exact (List.mem_append.mp hz).elim (x.in1 z) (x.in2 z)
    · exact (mF z hz).1
  rw [List.length_append, List.length_append] at this
  omega
def CaseAt (K : PySem.W.Frag) (N : Addr → Prop) (H : Hp) (n : Nat) (xss : List (List Int)) (nd : List Int) (v : V) (wt : Nat) : Prop := ∃ (q tk bd : Addr) (node : V) (t b room : Nat) (Ls Bs : List Int), v = .ref q ∧ SqT K H q [node, .ref tk, .ref bd, .int (room : Int)] ∧ H tk = some (.lst (Ls.map V.int)) ∧ H bd = some (.lst (Bs.map V.int)) ∧ (N tk ∧ N bd) ∧ TreeAt K H n xss nd room node t b ∧ Bits n t b Ls Bs ∧ wt = n - (pc t + pc b)
def wSum (ws : List Nat) : Nat := (ws.map fun w => 2 ^ w).sum
def CasesAt (K : PySem.W.Frag) (N : Addr → Prop) (H : Hp) (n : Nat) (xss : List (List Int)) (nd : List Int) (vs : List V) (ws : List Nat) : Prop := vs.length = ws.length ∧ ∀ (i : Nat) v w, vs[i]? = some v → ws[i]? = some w → CaseAt K N H n xss nd v w
def NodeIs (K : PySem.W.Frag) (H : Hp) (n : Nat) (xss : List (List Int)) (nd : List Int) (room : Nat) (node : V) (t b : Nat) : Prop := ∃ (qn : Addr) (kd : Str) (g : Nat) (rest : List V), node = .ref qn ∧ SqT K H qn (.str kd :: .int (g : Int) :: rest) ∧ g < xss.length ∧
  ((kd = "count" ∧ rest = [] ∧ (room : Int) * (((xss.getD g []).length : Nat) : Int) < (lackL n xss nd t g).sum) ∨
   (∃ h : Nat, kd = "few" ∧ rest = [.int (h : Int)] ∧ h < n ∧ (((frL n xss t b g h).length : Nat) : Int) < lackG n xss nd t g h) ∨
   (∃ (h r : Nat) (q2 : Addr) (ws : List V), kd = "split" ∧ rest = [.int (h : Int), .ref q2] ∧ h < n ∧ room = r + 1 ∧ 0 < lackG n xss nd t g h ∧ lackG n xss nd t g h ≤ (((frL n xss t b g h).length : Nat) : Int) ∧ SqT K H q2 ws ∧ ws.length = (frL n xss t b g h).length ∧ ∀ (i : Nat) w (s : Nat), ws[i]? = some w → (frL n xss t b g h)[i]? = some (s : Int) → TreeAt K H n xss nd r w (t ||| 1 <<< s) (barAt b ((frL n xss t b g h).take i))))
theorem nodeIs {K : PySem.W.Frag} {H : Hp} {n : Nat} {xss : List (List Int)} {nd : List Int} {room : Nat} {node : V} {t b : Nat} (hTr : TreeAt K H n xss nd room node t b) : NodeIs K H n xss nd room node t b := by
  have leaf : LeafAt K H n xss nd room node t b → NodeIs K H n xss nd room node t b := fun h => by
    rcases h with ⟨q, g, h1, h2, h3, h4⟩ | ⟨q, g, h', h1, h2, h3, h4, h5⟩
    · exact ⟨q, "count", g, [], h1, h2, h3, .inl ⟨rfl, rfl, h4⟩⟩
    · exact ⟨q, "few", g, _, h1, h2, h3, .inr (.inl ⟨h', rfl, rfl, h4, h5⟩)⟩
  cases room with
  | zero => exact leaf hTr
  | succ r =>
    rcases hTr with h | ⟨g, h, h1, h2, h3, h4, q, q2, ws, h5, h6, h7, h8, h9⟩
    · exact leaf h
    · exact ⟨q, "split", g, _, h5, h6, h1, .inr (.inr ⟨h, r, q2, ws, rfl, rfl, h2, rfl, h3, h4, h7, h8, h9⟩)⟩
theorem en_case {K : PySem.W.Frag} {t1 t2 t3 t4 : TE} {σ : L2.St} {H : Hp} {a d : V} {xs ys : List V} (h1 : Ev t1 σ H a) (h2 : EvL t2 σ H xs) (h3 : EvL t3 σ H ys) (h4 : Ev t4 σ H d) : EvNew (tTup (tCons t1 (tCons t2 (tCons t3 (tCons t4 tNil))))) σ H fun v G => ∃ q tk bd, v = .ref q ∧ SqT K G q [a, .ref tk, .ref bd, d] ∧ G tk = some (.lst xs) ∧ G bd = some (.lst ys) ∧ H tk = none ∧ H bd = none := fun H1 e Q q =>
  h1 H1 e _ fun H2 e2 => h2 H2 (e.trans e2) _ fun p2 H3 hp2 e3 g2 => h3 H3 ((e.trans e2).trans e3) _ fun p3 H4 hp3 e4 g3 => h4 H4 (((e.trans e2).trans e3).trans e4) _ fun H5 e5 => ⟨by show 4 ≤ sizeLine; decide, fun p hp => q _ _ ((((e2.trans e3).trans e4).trans e5).trans (Ex.new hp)) fun G gg => ⟨p, p2, p3, rfl, st_of (gg p _ (fresh_back (((e2.trans e3).trans e4).trans e5) hp) upd_same), gg p2 _ (fresh_back e2 hp2) ((Ex.new hp) _ _ (e5 _ _ (e4 _ _ g2))), gg p3 _ (fresh_back (e2.trans e3) hp3) ((Ex.new hp) _ _ (e5 _ _ g3)), fresh_back (e.trans e2) hp2, fresh_back ((e.trans e2).trans e3) hp3⟩⟩
theorem ev_lack {K : PySem.W.Frag} {E : XK} {t1 t2 t3 t4 t5 : TE} {σ : L2.St} {H : Hp} {a c : Addr} {n h t : Nat} {z : Int} {xs Ls : List Int} (h1 : Ev t1 σ H (.int (n : Int))) (h2 : Ev t2 σ H (.ref a)) (h3 : Ev t3 σ H (.int z)) (h4 : Ev t4 σ H (.ref c)) (h5 : Ev t5 σ H (.int (h : Int))) (hn : 1 ≤ n ∧ n ≤ 12) (ha : SqL K H a (xs.map V.int)) (hc : SqL K H c (Ls.map V.int)) (ht : t < 2 ^ n) (hB : BitsOf t Ls) (nd : Ls.Nodup) : Ev (tCall (spLack K) [] E (tCons t1 (tCons t2 (tCons t3 (tCons t4 (tCons t5 tNil)))))) σ H (.int (lackO (z - ((pc (t &&& meetB n xs h) : Nat) : Int)))) := by
  rw [← met_mask hn.2 ht hB nd]
  have ll : Ls.length ≤ n := len_le nd fun z hz => by
    have h0 := hB.nn z hz
    have := mask_lt ht (show t.testBit z.toNat = true by rw [bits_mem hB h0]; exact decide_eq_true hz)
    omega
  exact ev_call (ea_cons h1 (ea_cons h2 (ea_cons h3 (ea_cons h4 (ea_cons h5 ea_nil))))) fun G e Q q E => ⟨a, c, n, (h : Int), z, xs, Ls, rfl, hn.1, ex_l e ha, ex_l e hc, by omega, fun H' e' => q H' e'⟩
theorem el_free {K : PySem.W.Frag} {E : XK} {t1 t2 t3 t4 t5 : TE} {σ : L2.St} {H : Hp} {a c d : Addr} {n h t b : Nat} {xs Ls Bs : List Int} (h1 : Ev t1 σ H (.int (n : Int))) (h2 : Ev t2 σ H (.ref a)) (h3 : Ev t3 σ H (.ref c)) (h4 : Ev t4 σ H (.ref d)) (h5 : Ev t5 σ H (.int (h : Int))) (hn : 1 ≤ n ∧ n ≤ 12) (ha : SqL K H a (xs.map V.int)) (hc : H c = some (.lst (Ls.map V.int))) (hd : H d = some (.lst (Bs.map V.int))) (x : Bits n t b Ls Bs) : EvL (tCall (spFree K) [] E (tCons t1 (tCons t2 (tCons t3 (tCons t4 (tCons t5 tNil)))))) σ H ((lstB (freeB (meetB n xs h) t b)).map V.int) := fun H1 e Q q =>
  h1 H1 e _ fun H2 e2 => h2 H2 (e.trans e2) _ fun H3 e3 => h3 H3 ((e.trans e2).trans e3) _ fun H4 e4 => h4 H4 (((e.trans e2).trans e3).trans e4) _ fun H5 e5 => h5 H5 ((((e.trans e2).trans e3).trans e4).trans e5) _ fun H6 e6 => by
    have eA := (((e2.trans e3).trans e4).trans e5).trans e6
    have eB := e.trans eA
    have l1 := len_le x.nd x.in1
    have l2 := len_le x.nb x.in2
    exact ⟨a, c, d, n, h, t, b, xs, Ls, Bs, rfl, hn, ex_l eB ha, eB _ _ hc, eB _ _ hd, ⟨by omega, by omega⟩, x.ts, x.bs, fun p H' hp e' h' => q p H' (fresh_back eA hp) (eA.trans e') h'⟩
theorem ev_isStr {K : PySem.W.Frag} {te : TE} {σ : L2.St} {H : Hp} {x : Str} (h : Ev te σ H (.str x)) : Ev (tCB (rIsi K) (tCons te (tCons (tC (.ty "str")) tNil))) σ H (.bl true) := fun H1 e Q k => h H1 e _ fun H2 e2 => isi (.base (.str _)) (by decide +kernel) (k H2 e2)
theorem ev_lenTp {K : PySem.W.Frag} {te : TE} {σ : L2.St} {H : Hp} {q : Addr} {xs : List V} (h : Ev te σ H (.ref q)) (hq : SqT K H q xs) : Ev (tCB (rLenK K) (tCons te tNil)) σ H (.int (xs.length : Int)) := ev_cb (ea_cons h ea_nil) fun H2 e2 Q k => ⟨.ref q, xs.length, rfl, .inr ⟨_, ex_t e2 hq, rfl⟩, k H2 (Ex.refl H2)⟩
def spBelow (K : PySem.W.Frag) : Sp := fun vs H Q _ => ∃ (a c : Addr) (n wt : Nat) (cv : V) (N : Addr → Prop) (xss : List (List Int)) (nd : List Int), vs = [.int (n : Int), .ref a, .ref c, cv] ∧ Rows K H a xss ∧ SqL K H c (nd.map V.int) ∧ Shp n nd xss ∧ CaseAt K N H n xss nd cv wt ∧ ∀ p H' us ws, H p = none → Ex H H' → H' p = some (.lst us) → CasesAt K (fun x => H x = none) H' n xss nd us ws → wSum ws + 1 ≤ 2 ^ wt → us.length ≤ 12 → Q (.ref p) H' 
theorem ok_u_law_below (T : Txt K mg A) : FnOk P w K mg base CX0 4 A.f_u_law_below A.d_u_law_below (["n", "sides", "needs", "case"] : List Str) (spBelow K) := by
  refine T.F_u_law_below.ok sc_u_law_below (fun vs H Q E h => ?_) (fun cdv Ar outer s H vs Q E hr h => ?_)
  · obtain ⟨a, c, n, wt, cv, N, xss, nd, rfl, _⟩ := h
    rfl
  · obtain ⟨a, c, n, wt, cv, N, xss, nd, rfl, hR, hc, sh, hC, k⟩ := h
    refine ⟨_, (pss_cons (ps_set (i := 4) sc_u_law_below.nd rfl (Or.inr rfl) (pe_ix ix_tK (pv 3) pe_int (fun _ _ => rfl)))
        (pss_cons (ps_if (PW.pt (pw_or (pt_not (pt_val (pe_callB isi_K (by rfl) T.z_isinstance (by decide +kernel) (pa_cons (pv 4) (pa_cons (pe_bltn (v := .ty "tuple") (by rfl) T.z_tuple (by decide +kernel) rfl) pa_nil))))) (pw_or (pt_cmpR op_lt (pe_callB len_K (by rfl) T.z_len (by decide +kernel) (pa_cons (pv 4) pa_nil)) pe_int (nomark _)) (pw_or (pt_not (pt_val (pe_callB isi_K (by rfl) T.z_isinstance (by decide +kernel) (pa_cons (pe_ix ix_tK (pv 4) pe_int (fun _ _ => rfl)) (pa_cons (pe_bltn (v := .ty "str") (by rfl) T.z_str (by decide +kernel) rfl) pa_nil))))) (pw_or1 (pt_not (pt_val (pe_call (ok_u_law_is_int T) (hr.mono (by omega)) rfl T.g_u_law_is_int T.k_u_law_is_int (b_u_law_is_int T) .nil pass0 (pa_cons (pe_ix ix_tK (pv 4) pe_int (fun _ _ => rfl)) pa_nil))))))))) (pss_one (ps_ret pe_non)) pss_nil)
        (pss_cons (ps_set (i := 5) sc_u_law_below.nd rfl (Or.inr rfl) (pe_ix ix_tK (pv 4) pe_int (fun _ _ => rfl)))
        (pss_cons (ps_if (PW.pt (pw_or (pt_cmpR op_lt (pv 5) pe_int (nomark _)) (pw_or1 (pt_cmpR op_ge (pv 5) (pe_callB len_K (by rfl) T.z_len (by decide +kernel) (pa_cons (pv 1) pa_nil)) (nomark _))))) (pss_one (ps_ret pe_non)) pss_nil)
        (pss_cons (ps_if (pt_cmpR op_eq (pe_ix ix_tK (pv 4) pe_int (fun _ _ => rfl)) pe_str (nomark _)) (pss_cons (ps_setLc (i := 6) (own := [("h", 7)]) (g := gName 7) (tt := tYes) rfl sc_u_law_below.nd rfl rfl (sw_true rfl rfl rfl (by decide +kernel)) (pi_range1 rfl T.z_range (pa_cons (pv 0) pa_nil)) (blkOk_by (own := [("h", 7)]) (N := N_u_law_below) (sc := defScope s_u_law_below) (by decide +kernel)) (fun _ _ _ _ _ => (pg_name (i := 7) sc_u_law_below.nd rfl (Or.inl rfl))) (fun _ _ _ _ _ => pts_nil) (fun _ _ _ _ _ => (pe_call (ok_u_law_lack T) (hr.mono (by omega)) rfl T.g_u_law_lack T.k_u_law_lack (b_u_law_lack T) .nil pass0 (pa_cons (pv 0) (pa_cons (pe_ix ix_lK (pv 1) (pv 5) (fun _ _ => rfl)) (pa_cons (pe_ix ix_lK (pv 2) (pv 5) (fun _ _ => rfl)) (pa_cons (pe_ix ix_tK (pv 3) pe_int (fun _ _ => rfl)) (pa_cons (pv 7) pa_nil))))))))
        (pss_cons (ps_if (PW.pt (pw_and (pt_cmpR op_eq (pe_callB len_K (by rfl) T.z_len (by decide +kernel) (pa_cons (pv 4) pa_nil)) pe_int (nomark _)) (pw_and1 (pt_cmpR op_gt (pe_callB (cr_sumK rfl) (by rfl) T.z_sum (by decide +kernel) (pa_cons (pv 6) pa_nil)) (pe_op op_mul (pe_ix ix_tK (pv 3) pe_int (fun _ _ => rfl)) (pe_callB len_K (by rfl) T.z_len (by decide +kernel) (pa_cons (pe_ix ix_lK (pv 1) (pv 5) (fun _ _ => rfl)) pa_nil))) (nomark _))))) (pss_one (ps_ret (pe_lst pa_nil))) pss_nil)
        (pss_one (ps_ret pe_non)))) pss_nil)
        (pss_cons (ps_if (PW.pt (pw_or (pt_cmpR op_lt (pe_callB len_K (by rfl) T.z_len (by decide +kernel) (pa_cons (pv 4) pa_nil)) pe_int (nomark _)) (pw_or (pt_not (pt_val (pe_call (ok_u_law_is_int T) (hr.mono (by omega)) rfl T.g_u_law_is_int T.k_u_law_is_int (b_u_law_is_int T) .nil pass0 (pa_cons (pe_ix ix_tK (pv 4) pe_int (fun _ _ => rfl)) pa_nil)))) (pw_or (pt_cmpR op_lt (pe_ix ix_tK (pv 4) pe_int (fun _ _ => rfl)) pe_int (nomark _)) (pw_or1 (pt_cmpR op_ge (pe_ix ix_tK (pv 4) pe_int (fun _ _ => rfl)) (pv 0) (nomark _))))))) (pss_one (ps_ret pe_non)) pss_nil)
        (pss_cons (ps_set (i := 8) sc_u_law_below.nd rfl (Or.inl rfl) (pe_call (ok_u_law_lack T) (hr.mono (by omega)) rfl T.g_u_law_lack T.k_u_law_lack (b_u_law_lack T) .nil pass0 (pa_cons (pv 0) (pa_cons (pe_ix ix_lK (pv 1) (pv 5) (fun _ _ => rfl)) (pa_cons (pe_ix ix_lK (pv 2) (pv 5) (fun _ _ => rfl)) (pa_cons (pe_ix ix_tK (pv 3) pe_int (fun _ _ => rfl)) (pa_cons (pe_ix ix_tK (pv 4) pe_int (fun _ _ => rfl)) pa_nil)))))))
        (pss_cons (ps_set (i := 9) sc_u_law_below.nd rfl (Or.inr rfl) (pe_call (ok_u_law_free T) (hr.mono (by omega)) rfl T.g_u_law_free T.k_u_law_free (b_u_law_free T) .nil pass0 (pa_cons (pv 0) (pa_cons (pe_ix ix_lK (pv 1) (pv 5) (fun _ _ => rfl)) (pa_cons (pe_ix ix_tK (pv 3) pe_int (fun _ _ => rfl)) (pa_cons (pe_ix ix_tK (pv 3) pe_int (fun _ _ => rfl)) (pa_cons (pe_ix ix_tK (pv 4) pe_int (fun _ _ => rfl)) pa_nil)))))))
        (pss_cons (ps_if (pt_cmpR op_eq (pe_ix ix_tK (pv 4) pe_int (fun _ _ => rfl)) pe_str (nomark _)) (pss_cons (ps_if (PW.pt (pw_and (pt_cmpR op_eq (pe_callB len_K (by rfl) T.z_len (by decide +kernel) (pa_cons (pv 4) pa_nil)) pe_int (nomark _)) (pw_and1 (pt_cmpR op_gt (pv 8) (pe_callB len_K (by rfl) T.z_len (by decide +kernel) (pa_cons (pv 9) pa_nil)) (nomark _))))) (pss_one (ps_ret (pe_lst pa_nil))) pss_nil)
        (pss_one (ps_ret pe_non))) pss_nil)
        (pss_cons (ps_if (PW.pt (pw_or (pt_cmpR op_ne (pe_ix ix_tK (pv 4) pe_int (fun _ _ => rfl)) pe_str (nomark _)) (pw_or (pt_cmpR op_ne (pe_callB len_K (by rfl) T.z_len (by decide +kernel) (pa_cons (pv 4) pa_nil)) pe_int (nomark _)) (pw_or1 (pt_not (pt_val (pe_callB isi_K (by rfl) T.z_isinstance (by decide +kernel) (pa_cons (pe_ix ix_tK (pv 4) pe_int (fun _ _ => rfl)) (pa_cons (pe_bltn (v := .ty "tuple") (by rfl) T.z_tuple (by decide +kernel) rfl) pa_nil))))))))) (pss_one (ps_ret pe_non)) pss_nil)
        (pss_cons (ps_if (PW.pt (pw_or (pt_cmpR op_lt (pe_ix ix_tK (pv 3) pe_int (fun _ _ => rfl)) pe_int (nomark _)) (pw_or (pt_cmpR op_lt (pv 8) pe_int (nomark _)) (pw_or (pt_cmpR op_eq (pe_callB len_K (by rfl) T.z_len (by decide +kernel) (pa_cons (pv 9) pa_nil)) pe_int (nomark _)) (pw_or1 (pt_cmpR op_ne (pe_callB len_K (by rfl) T.z_len (by decide +kernel) (pa_cons (pe_ix ix_tK (pv 4) pe_int (fun _ _ => rfl)) pa_nil)) (pe_callB len_K (by rfl) T.z_len (by decide +kernel) (pa_cons (pv 9) pa_nil)) (nomark _))))))) (pss_one (ps_ret pe_non)) pss_nil)
        (pss_one (ps_ret (pe_lc (own := [("k", 10)]) (g := gName 10) (tt := tYes) rfl sc_u_law_below.nd (pi_range1 rfl T.z_range (pa_cons (pe_callB len_K (by rfl) T.z_len (by decide +kernel) (pa_cons (pv 9) pa_nil)) pa_nil)) (blkOk_by (own := [("k", 10)]) (N := N_u_law_below) (sc := defScope s_u_law_below) (by decide +kernel)) (fun _ _ _ _ _ => (pg_name (i := 10) sc_u_law_below.nd rfl (Or.inl rfl))) (fun _ _ _ _ _ => pts_nil) (fun _ _ _ _ _ => (pe_tup (pa_cons (pe_ix ix_tK (pe_ix ix_tK (pv 4) pe_int (fun _ _ => rfl)) (pv 10) (fun _ _ => rfl)) (pa_cons (pe_op op_cat (pe_ix ix_tK (pv 3) pe_int (fun _ _ => rfl)) (pe_lst (pa_cons (pe_ix ix_lK (pv 9) (pv 10) (fun _ _ => rfl)) pa_nil))) (pa_cons (pe_op op_cat (pe_ix ix_tK (pv 3) pe_int (fun _ _ => rfl)) (pe_slice sl_listK (pv 9) po_none (po_some (pv 10)))) (pa_cons (pe_op op_sub (pe_ix ix_tK (pv 3) pe_int (fun _ _ => rfl)) pe_int) pa_nil)))))))))))))))))))), ?_⟩
    obtain ⟨q, tk, bd, node, t, b, room, Ls, Bs, rfl, hq, htk, hbd, hN, hTr, hb, hwt⟩ := hC
    obtain ⟨vs, hvs, hlen, hall⟩ := hR.all
    have n1 := sh.n1
    have n2 := sh.n2
    have m2 := sh.m2
    have nl := sh.nl
    obtain ⟨qn, kd, g, rest, rfl, hn, hg, hk⟩ := nodeIs hTr
    obtain ⟨v, hvi⟩ : ∃ v, vs[g]? = some v := ⟨_, List.getElem?_eq_getElem (by omega)⟩
    obtain ⟨pg, rfl, hpg⟩ := hall g v hvi
    have ndg : (nd.map V.int)[g]? = some (.int (nd.getD g 0)) := by
      rw [List.getElem?_map, List.getD_eq_getElem?_getD, List.getElem?_eq_getElem (by omega)]
      rfl
    have c0 : ∀ {σ : L2.St} {G : Hp}, σ[3]? = some (some (.ref q)) → Ex H G → Ev (tOp (rIxT K) (tVar 3) (tC (.int 0))) σ G (.ref qn) := fun h e => ev_op (ev_var h) ev_c (rv_ixT (ex_t e hq) (atI_nat (j := 0) rfl))
    have c1 : ∀ {σ : L2.St} {G : Hp}, σ[3]? = some (some (.ref q)) → Ex H G → Ev (tOp (rIxT K) (tVar 3) (tC (.int 1))) σ G (.ref tk) := fun h e => ev_op (ev_var h) ev_c (rv_ixT (ex_t e hq) (atI_nat (j := 1) rfl))
    have c2 : ∀ {σ : L2.St} {G : Hp}, σ[3]? = some (some (.ref q)) → Ex H G → Ev (tOp (rIxT K) (tVar 3) (tC (.int 2))) σ G (.ref bd) := fun h e => ev_op (ev_var h) ev_c (rv_ixT (ex_t e hq) (atI_nat (j := 2) rfl))
    have c3 : ∀ {σ : L2.St} {G : Hp}, σ[3]? = some (some (.ref q)) → Ex H G → Ev (tOp (rIxT K) (tVar 3) (tC (.int 3))) σ G (.int (room : Int)) := fun h e => ev_op (ev_var h) ev_c (rv_ixT (ex_t e hq) (atI_nat (j := 3) rfl))
    have k0 : ∀ {σ : L2.St} {G : Hp}, σ[4]? = some (some (.ref qn)) → Ex H G → Ev (tOp (rIxT K) (tVar 4) (tC (.int 0))) σ G (.str kd) := fun h e => ev_op (ev_var h) ev_c (rv_ixT (ex_t e hn) (atI_nat (j := 0) rfl))
    have k1 : ∀ {σ : L2.St} {G : Hp}, σ[4]? = some (some (.ref qn)) → Ex H G → Ev (tOp (rIxT K) (tVar 4) (tC (.int 1))) σ G (.int (g : Int)) := fun h e => ev_op (ev_var h) ev_c (rv_ixT (ex_t e hn) (atI_nat (j := 1) rfl))
    have sg : ∀ {σ : L2.St} {G : Hp}, σ[1]? = some (some (.ref a)) → σ[5]? = some (some (.int (g : Int))) → Ex H G → Ev (tOp (rIxL K) (tVar 1) (tVar 5)) σ G (.ref pg) := fun h h5 e => ev_op (ev_var h) (ev_var h5) (rv_ixL (ex_l e hvs) (atI_nat hvi))
    have ng : ∀ {σ : L2.St} {G : Hp}, σ[2]? = some (some (.ref c)) → σ[5]? = some (some (.int (g : Int))) → Ex H G → Ev (tOp (rIxL K) (tVar 2) (tVar 5)) σ G (.int (nd.getD g 0)) := fun h h5 e => ev_op (ev_var h) (ev_var h5) (rv_ixL (ex_l e hc) (atI_nat ndg))
    have xl := (sh.asc _ (in_getD (d := []) hg)).len
    try dsimp only
    refine q_asg (v := .ref qn) (c0 rfl (Ex.refl _)) fun H1 e1 => ?_
    try dsimp only
    refine q_skip (et_orF (et_notT (et_B (ev_isT (ev_var (i := 4) rfl) (ex_t e1 hn)))) (et_orF (et_is (et_test (ev_op (ev_lenTp (ev_var (i := 4) rfl) (ex_t e1 hn)) ev_c rv_I0)) (decide_eq_false (by rw [List.length_cons, List.length_cons]; omega))) (et_orF (et_notT (et_B (ev_isStr (k0 rfl e1)))) (et_notT (et_B (ev_isInt (k1 rfl e1))))))) fun H2 e2 => ?_
    have e02 := e1.trans e2
    try dsimp only
    refine q_asg (v := .int (g : Int)) (k1 rfl e02) fun H3 e3 => ?_
    have e03 := e02.trans e3
    try dsimp only
    refine q_skip (et_orF (et_is (et_test (ev_op (ev_var (i := 5) rfl) ev_c rv_I0)) (decide_eq_false (by omega))) (et_is (et_test (ev_op (ev_var (i := 5) rfl) (ev_cb (r := rLenK K) (z := .int (xss.length : Int)) (ea_cons (ev_var (i := 1) rfl) ea_nil) fun H9 e9 Q k => ⟨.ref a, vs.length, rfl, .inl ⟨_, ex_l (e03.trans e9) hvs, rfl⟩, by rw [hlen]; exact k H9 (Ex.refl H9)⟩) rv_I0)) (decide_eq_false (by omega)))) fun H4 e4 => ?_
    have e04 := e03.trans e4
    have done : ∀ {H' : Hp} {p : Addr}, H p = none → Ex H H' → H' p = some (.lst []) → Q (.ref p) H' := fun hp e h => k _ _ [] [] hp e h ⟨rfl, fun i v w hv => by cases hv⟩ (Nat.one_le_two_pow) (by decide)
    rcases hk with ⟨rfl, rfl, hsum⟩ | ⟨h, rfl, rfl, hh, hfew⟩ | ⟨h, r, q2, ws, rfl, rfl, hh, rfl, hl0, hl1, hq2, hwl, hch⟩
    · try dsimp only
      refine q_take (et_is (et_test (ev_op (k0 rfl e04) ev_c (rv_eq rfl))) (by decide)) fun H5 e5 => ?_
      have e05 := e04.trans e5
      try dsimp only
      refine q_asgL (el_isW (el_rngY (n := n) (fun h => V.int (lackO (nd.getD g 0 - ((pc (t &&& meetB n (xss.getD g []) h) : Nat) : Int)))) (ea_cons (ev_var (i := 0) rfl) ea_nil) (by omega) (fun x => rfl) fun i G hi g1 => ev_lack (ev_var (i := 0) rfl) (sg rfl rfl (e05.trans g1)) (ng rfl rfl (e05.trans g1)) (c1 rfl (e05.trans g1)) (ev_var (i := 7) rfl) ⟨n1, n2⟩ (ex_l (e05.trans g1) hpg) (sq_of ((e05.trans g1) _ _ htk)) hb.tl hb.ts hb.nd) (show _ = (lackL n xss nd t g).map V.int by unfold lackL; rw [List.map_map]; rfl)) fun lp H6 hlp e6 hl6 => ?_
      have e06 := e05.trans e6
      try dsimp only
      refine q_take (et_andT (et_is (et_test (ev_op (ev_lenTp (ev_var (i := 4) rfl) (ex_t e06 hn)) ev_c (rv_eq rfl))) (by rfl)) (et_is (et_test (ev_op (ev_cb (r := rSum K) (z := .int (lackL n xss nd t g).sum) (ea_cons (ev_var (i := 6) rfl) ea_nil) fun G g1 Q q => ⟨lp, _, rfl, sq_of (g1 _ _ hl6), q G (Ex.refl G)⟩) (ev_op (c3 rfl e06) (ev_cb (r := rLenK K) (z := .int (((xss.getD g []).length : Nat) : Int)) (ea_cons (sg rfl rfl e06) ea_nil) fun H9 e9 Q k => ⟨.ref pg, (xss.getD g []).length, rfl, .inl ⟨_, ex_l (e06.trans e9) hpg, (List.length_map _).symm⟩, k H9 (Ex.refl H9)⟩) (rv_I (show CMul (room : Int) (((xss.getD g []).length : Nat) : Int) from .inr ⟨by omega, by omega⟩))) rv_I0)) (decide_eq_true hsum))) fun H7 e7 => ?_
      exact s_retL (el_lst ea_nil (by decide)) fun p H8 hp e8 h8 => done (fresh_back (e06.trans e7) hp) ((e06.trans e7).trans e8) h8
    all_goals
      try dsimp only
      refine q_skip (et_is (et_test (ev_op (k0 rfl e04) ev_c (rv_eq rfl))) (by decide)) fun H5 e5 => ?_
      have e05 := e04.trans e5
      have k2 : ∀ {σ : L2.St} {G : Hp}, σ[4]? = some (some (.ref qn)) → Ex H G → Ev (tOp (rIxT K) (tVar 4) (tC (.int 2))) σ G (.int (h : Int)) := fun h e => ev_op (ev_var h) ev_c (rv_ixT (ex_t e hn) (atI_nat (j := 2) rfl))
      try dsimp only
      refine q_skip (et_orF (et_is (et_test (ev_op (ev_lenTp (ev_var (i := 4) rfl) (ex_t e05 hn)) ev_c rv_I0)) (by rfl)) (et_orF (et_notT (et_B (ev_isInt (k2 rfl e05)))) (et_orF (et_is (et_test (ev_op (k2 rfl e05) ev_c rv_I0)) (decide_eq_false (by omega))) (et_is (et_test (ev_op (k2 rfl e05) (ev_var (i := 0) rfl) rv_I0)) (decide_eq_false (by omega)))))) fun H6 e6 => ?_
      have e06 := e05.trans e6
      try dsimp only
      refine q_asg (v := .int (lackG n xss nd t g h)) (ev_lack (ev_var (i := 0) rfl) (sg rfl rfl e06) (ng rfl rfl e06) (c1 rfl e06) (k2 rfl e06) ⟨n1, n2⟩ (ex_l e06 hpg) (sq_of (e06 _ _ htk)) hb.tl hb.ts hb.nd) fun H7 e7 => ?_
      have e07 := e06.trans e7
      try dsimp only
      refine q_asgL (xs := (frL n xss t b g h).map V.int) (el_free (ev_var (i := 0) rfl) (sg rfl rfl e07) (c1 rfl e07) (c2 rfl e07) (k2 rfl e07) ⟨n1, n2⟩ (ex_l e07 hpg) (e07 _ _ htk) (e07 _ _ hbd) hb) fun fp H8 hfp e8 hf8 => ?_
      have e08 := e07.trans e8
      have lenF : ∀ {σ : L2.St} {G : Hp}, σ[9]? = some (some (.ref fp)) → Ex H8 G → Ev (tCB (rLenK K) (tCons (tVar 9) tNil)) σ G (.int (((frL n xss t b g h).length : Nat) : Int)) := fun h e => ev_cb (ea_cons (ev_var h) ea_nil) fun H9 e9 Q q => ⟨.ref fp, _, rfl, .inl ⟨_, sq_of ((e.trans e9) _ _ hf8), (List.length_map _).symm⟩, q H9 (Ex.refl H9)⟩
    · try dsimp only
      refine q_take (et_is (et_test (ev_op (k0 rfl e08) ev_c (rv_eq rfl))) (by decide)) fun H9 e9 => ?_
      try dsimp only
      refine q_take (et_andT (et_is (et_test (ev_op (ev_lenTp (ev_var (i := 4) rfl) (ex_t (e08.trans e9) hn)) ev_c (rv_eq rfl))) (by rfl)) (et_is (et_test (ev_op (ev_var (i := 8) rfl) (lenF rfl e9) rv_I0)) (decide_eq_true hfew))) fun H10 e10 => ?_
      exact s_retL (el_lst ea_nil (by decide)) fun p H11 hp e11 h11 => done (fresh_back ((e08.trans e9).trans e10) hp) (((e08.trans e9).trans e10).trans e11) h11
    · try dsimp only
      refine q_skip (et_is (et_test (ev_op (k0 rfl e08) ev_c (rv_eq rfl))) (by decide)) fun H9 e9 => ?_
      have e09 := e08.trans e9
      have k3 : ∀ {σ : L2.St} {G : Hp}, σ[4]? = some (some (.ref qn)) → Ex H G → Ev (tOp (rIxT K) (tVar 4) (tC (.int 3))) σ G (.ref q2) := fun h e => ev_op (ev_var h) ev_c (rv_ixT (ex_t e hn) (atI_nat (j := 3) rfl))
      try dsimp only
      refine q_skip (et_orF (et_is (et_test (ev_op (k0 rfl e09) ev_c (rv_ne rfl))) (by decide)) (et_orF (et_is (et_test (ev_op (ev_lenTp (ev_var (i := 4) rfl) (ex_t e09 hn)) ev_c (rv_ne rfl))) (by rfl)) (et_notT (et_B (ev_isT (k3 rfl e09) (ex_t e09 hq2)))))) fun H10 e10 => ?_
      have e010 := e09.trans e10
      try dsimp only
      refine q_skip (et_orF (et_is (et_test (ev_op (c3 rfl e010) ev_c rv_I0)) (decide_eq_false (by omega))) (et_orF (et_is (et_test (ev_op (ev_var (i := 8) rfl) ev_c rv_I0)) (decide_eq_false (by omega))) (et_orF (et_is (et_test (ev_op (lenF rfl (e9.trans e10)) ev_c (rv_eq rfl))) (by rw [dec_ii]; exact decide_eq_false (by omega))) (et_is (et_test (ev_op (ev_lenTp (k3 rfl e010) (ex_t e010 hq2)) (lenF rfl (e9.trans e10)) (rv_ne rfl))) (by rw [dec_ii, hwl]; simp))))) fun H11 e11 => ?_
      have e011 := e010.trans e11
      have e811 := (e9.trans e10).trans e11
      have F12 := Bits.room (h := h) (xs := xss.getD g []) n2 hb
      have F12 : (frL n xss t b g h).length ≤ n - (pc t + pc b) := F12
      have sOf : ∀ {i : Nat}, i < (frL n xss t b g h).length → ∃ s : Nat, (frL n xss t b g h)[i]? = some (s : Int) := fun {i} hi => by
        have hm := mem_lstB.mp (show (frL n xss t b g h)[i] ∈ frL n xss t b g h from List.getElem_mem hi)
        obtain ⟨s, hs⟩ := Int.eq_ofNat_of_zero_le hm.1.1
        exact ⟨s, by rw [List.getElem?_eq_getElem hi, hs]⟩
      try dsimp only
      refine s_retR (er_fresh (en_lcR1 (n := (((frL n xss t b g h).length : Nat) : Int)) (fun i v G => ∃ (q' tk' bd' : Addr) (w : V) (s : Nat), ws[i]? = some w ∧ (frL n xss t b g h)[i]? = some (s : Int) ∧ v = .ref q' ∧ SqT K G q' [w, .ref tk', .ref bd', .int (r : Int)] ∧ G tk' = some (.lst ((Ls ++ [(s : Int)]).map V.int)) ∧ G bd' = some (.lst ((Bs ++ (frL n xss t b g h).take i).map V.int)) ∧ H11 tk' = none ∧ H11 bd' = none) (ea_cons (lenF rfl e811) ea_nil) (by omega) (fun x => rfl) fun i G g1 hi => ?_)) fun v H12 e12 hv => ?_
      · have hi' : i < (frL n xss t b g h).length := by omega
        obtain ⟨s, hs⟩ := sOf hi'
        obtain ⟨w, hw⟩ : ∃ w, ws[i]? = some w := ⟨_, List.getElem?_eq_getElem (by omega)⟩
        have e0G := e011.trans g1
        refine EvNew.imp (en_case (K := K) (a := w) (d := .int (r : Int)) (xs := (Ls ++ [(s : Int)]).map V.int) (ys := (Bs ++ (frL n xss t b g h).take i).map V.int) (ev_op (k3 rfl e0G) (ev_var (i := 10) rfl) (rv_ixT (ex_t e0G hq2) (atI_nat hw))) ?_ ?_ (ev_is (ev_op (c3 rfl e0G) ev_c rv_I0) (congrArg V.int (by omega)))) fun v G2 hv => ?_
        · rw [List.map_append]
          exact el_catH (c1 rfl e0G) (e0G _ _ htk) (el_lst (ea_cons (ev_op (ev_var (i := 9) rfl) (ev_var (i := 10) rfl) (rv_ixL (K := K) (sq_of ((e811.trans g1) _ _ hf8)) (atI_nat (by rw [List.getElem?_map, hs]; rfl)))) ea_nil) (by show 1 ≤ 100000; decide)) (by have := len_le hb.nd hb.in1; rw [List.length_map, List.length_map]; simp; omega)
        · rw [List.map_append]
          refine el_catH (c2 rfl e0G) (e0G _ _ hbd) ?_ (by have := len_le hb.nb hb.in2; rw [List.length_map, List.length_map, List.length_take]; omega)
          have sl := el_sl (K := K) (lo := none) (hi := some (i : Int)) (ev_var (σ := [some (V.int (n : Int)), some (.ref a), some (.ref c), some (.ref q), some (.ref qn), some (.int (g : Int)), none, none, some (.int (lackG n xss nd t g h)), some (.ref fp), some (.int (i : Int))]) (H := G) (i := 9) rfl) eo_none (eo_some (ev_var (i := 10) rfl)) (sq_of ((e811.trans g1) _ _ hf8))
          rw [cut_upto (by omega)] at sl
          exact sl
        · obtain ⟨q', tk', bd', h1, h2, h3, h4, h5, h6⟩ := hv
          exact ⟨q', tk', bd', w, s, hw, hs, h1, h2, h3, h4, fresh_back g1 h5, fresh_back g1 h6⟩
      · obtain ⟨p, us, rfl, hp, hp12, hul, hus⟩ := hv
        rw [Int.toNat_natCast] at hul
        have e012 := e011.trans e12
        refine k p H12 us ((List.range (frL n xss t b g h).length).map fun k => (n - (pc t + pc b)) - (1 + k)) (fresh_back e011 hp) e012 hp12 ⟨by rw [hul, List.length_map, List.length_range], fun i v w hv hw => ?_⟩ ?_ (by omega)
        · obtain ⟨q', tk', bd', w', s, hw', hs, rfl, z1, z2, z3, z4, z5⟩ := hus i v hv
          have hi := (List.getElem?_eq_some_iff.mp hs).1
          rw [List.getElem?_map, List.getElem?_range hi] at hw
          have hw := Option.some.inj hw
          have hw : (n - (pc t + pc b)) - (1 + i) = w := hw
          have hB : Bits n (t ||| 1 <<< s) (barAt b ((frL n xss t b g h).take i)) (Ls ++ [(s : Int)]) (Bs ++ (frL n xss t b g h).take i) := Bits.child n2 hb hs
          refine ⟨q', tk', bd', w', t ||| 1 <<< s, _, r, _, _, rfl, z1, z2, z3, ⟨fresh_back e011 z4, fresh_back e011 z5⟩, (hch i w' s hw' hs).keep (KT.ex e012), hB, ?_⟩
          rw [← hw, pc_of n2 hB.tl hB.ts hB.nd, pc_of n2 hB.bl hB.bs hB.nb, pc_of n2 hb.tl hb.ts hb.nd, pc_of n2 hb.bl hb.bs hb.nb, List.length_append, List.length_append, List.length_take]
          simp
          omega
        · have := sum_pow F12
          have p1 : 1 ≤ 2 ^ (n - (pc t + pc b) - (frL n xss t b g h).length) := Nat.one_le_two_pow
          unfold wSum
          rw [hwt]
          omega

theorem er_one {t : TE} {σ : L2.St} {H : Hp} {P : V → Hp → Prop} (h : EvR t σ H P) : EvR (tLst (tCons t tNil)) σ H fun v G => ∃ p w G0, v = .ref p ∧ G p = some (.lst [w]) ∧ P w G0 ∧ Ex H G0 ∧ Ex G0 G ∧ G0 p = none := fun H1 e Q q =>
  h H1 e _ fun w H2 e2 hw => ⟨by show 1 ≤ sizeLine; decide, fun p hp => q _ _ (e2.trans (Ex.new hp)) ⟨p, w, H2, rfl, upd_same, hw, e.trans e2, Ex.new hp, hp⟩⟩
theorem CaseAt.move {K : PySem.W.Frag} {N N' : Addr → Prop} {H H' : Hp} {n : Nat} {xss : List (List Int)} {nd : List Int} {v : V} {w : Nat} (kt : KT K H H') (kl : ∀ b us, N b → H b = some (.lst us) → H' b = some (.lst us)) (kn : ∀ b us, N b → H b = some (.lst us) → N' b) (h : CaseAt K N H n xss nd v w) : CaseAt K N' H' n xss nd v w := by
  obtain ⟨q, tk, bd, node, t, b, room, Ls, Bs, rfl, h1, h2, h3, h4, h5, h6, h7⟩ := h
  exact ⟨q, tk, bd, node, t, b, room, Ls, Bs, rfl, kt _ _ h1, kl _ _ h4.1 h2, kl _ _ h4.2 h3, ⟨kn _ _ h4.1 h2, kn _ _ h4.2 h3⟩, h5.keep kt, h6, h7⟩
theorem wSum_append {as bs : List Nat} : wSum (as ++ bs) = wSum as + wSum bs := by
  unfold wSum
  rw [List.map_append, List.sum_append]
def spShows (K : PySem.W.Frag) : Sp := fun vs H Q _ => ∃ (a c : Addr) (n room : Nat) (node : V) (xss : List (List Int)) (nd : List Int), vs = [.int (n : Int), .ref a, .ref c, node, .int (room : Int)] ∧ Rows K H a xss ∧ SqL K H c (nd.map V.int) ∧ Shp n nd xss ∧ TreeAt K H n xss nd room node 0 0 ∧ ∀ H', Ex H H' → Q (.bl true) H' 
theorem ok_u_law_shows (T : Txt K mg A) : FnOk P w K mg base CX0 5 A.f_u_law_shows A.d_u_law_shows (["n", "sides", "needs", "tree", "room"] : List Str) (spShows K) := by
  refine T.F_u_law_shows.ok sc_u_law_shows (fun vs H Q E h => ?_) (fun cdv Ar outer s H vs Q E hr h => ?_)
  · obtain ⟨a, c, n, room, node, xss, nd, rfl, _⟩ := h
    rfl
  · obtain ⟨a, c, n, room, node, xss, nd, rfl, hR, hc0, sh, hT, k⟩ := h
    refine ⟨_, (pss_cons (ps_set (i := 5) sc_u_law_shows.nd rfl (Or.inl rfl) (pe_lst (pa_cons (pe_tup (pa_cons (pv 3) (pa_cons (pe_lst pa_nil) (pa_cons (pe_lst pa_nil) (pa_cons (pv 4) pa_nil))))) pa_nil)))
        (pss_cons (ps_for PassesOwn.never rfl (pi_range1 rfl T.z_range (pa_cons pe_int pa_nil)) (pg_name (i := 6) sc_u_law_shows.nd rfl (Or.inl rfl)) (pss_cons (ps_if (pt_cmpR op_eq (pe_callB len_K (by rfl) T.z_len (by decide +kernel) (pa_cons (pv 5) pa_nil)) pe_int (nomark _)) (pss_one (ps_ret pe_bl)) pss_nil)
        (pss_cons (ps_set (i := 7) sc_u_law_shows.nd rfl (Or.inl rfl) (pe_call (ok_u_law_below T) (hr.mono (by omega)) rfl T.g_u_law_below T.k_u_law_below (b_u_law_below T) .nil pass0 (pa_cons (pv 0) (pa_cons (pv 1) (pa_cons (pv 2) (pa_cons (pe_bm0 PySem.F.plainAttrs_list PySem.F.slot_list_pop PySem.F.type_list_pop mt_pop (pv 5)) pa_nil))))))
        (pss_cons (ps_if (pt_cmpR op_isN (pv 7) pe_non (nomark _)) (pss_one (ps_ret pe_bl)) pss_nil)
        (pss_one (ps_expr (pe_bm PySem.F.plainAttrs_list PySem.F.slot_list_extend PySem.F.type_list_extend mt_extend (pv 5) (pa_cons (pv 7) pa_nil))))))))
        (pss_one (ps_ret pe_bl)))), ?_⟩
    have n1 := sh.n1
    have n2 := sh.n2
    have p2 : 2 ^ n ≤ 4096 := Nat.pow_le_pow_right (show 0 < 2 by decide) n2
    try dsimp only
    refine q_asgR (er_one (en_case (K := K) (a := node) (d := .int (room : Int)) (xs := []) (ys := []) (ev_var (i := 3) rfl) (el_lst ea_nil (by decide)) (el_lst ea_nil (by decide)) (ev_var (i := 4) rfl)).er) fun v H1 e1 hv => ?_
    obtain ⟨cp, cw, G0, rfl, hcp, ⟨q, tk, bd, rfl, z1, z2, z3, z4, z5⟩, g0, g1, hfr⟩ := hv
    have hcp0 : H cp = none := fresh_back g0 hfr
    have z00 : pc 0 = 0 := by decide
    try dsimp only
    refine q_forR1 (j := 6) (n := 6000) (ea_cons ev_c ea_nil) (by omega) (fun i σ' G => ∃ (v6 v7 : Option V) (vs : List V) (ws : List Nat), σ' = [some (.int (n : Int)), some (.ref a), some (.ref c), some node, some (.int (room : Int)), some (.ref cp), v6, v7] ∧ Ex H G ∧ G cp = some (.lst vs) ∧ CasesAt K (fun x => x ≠ cp) G n xss nd vs ws ∧ wSum ws + i ≤ 4096 ∧ vs.length ≤ 13 * i + 1) (fun G e => ⟨_, _, [.ref q], [n], rfl, e1.trans e, e _ _ hcp, ⟨rfl, fun i v w hv hw => ?_⟩, by unfold wSum; simp; omega, by simp⟩) ?_ ?_
    · have hi : i = 0 := by have := (List.getElem?_eq_some_iff.mp hv).1; simp at this; omega
      subst hi
      cases hv
      cases hw
      refine ⟨q, tk, bd, node, 0, 0, room, [], [], rfl, ex_t (g1.trans e) z1, (g1.trans e) _ _ z2, (g1.trans e) _ _ z3, ⟨fun y => (by rw [y, hfr] at z2; cases z2), fun y => (by rw [y, hfr] at z3; cases z3)⟩, hT.keep (KT.ex (e1.trans e)), ⟨Nat.two_pow_pos n, Nat.two_pow_pos n, bits_nil, bits_nil, fun z hz => (by cases hz), .nil, .nil⟩, by omega⟩
    · rintro i σ' G hi ⟨v6, v7, vs, ws, rfl, eG, hG, ⟨hlen, hCs⟩, hsum, hvl⟩
      try dsimp only
      refine q_when (b := decide (((vs.length : Nat) : Int) = 0)) (et_test (ev_is (ev_op (ev_cb (r := rLenK K) (z := .int ((vs.length : Nat) : Int)) (ea_cons (ev_var (i := 5) rfl) ea_nil) fun H9 e9 Q k => ⟨.ref cp, vs.length, rfl, .inl ⟨_, sq_of (e9 _ _ hG), rfl⟩, k H9 (Ex.refl H9)⟩) ev_c (rv_eq rfl)) (by rw [dec_ii]))) (fun hc G1 g1 => s_ret ev_c fun G2 g2 => k G2 ((eG.trans g1).trans g2)) (fun hc G1 g1 => ?_)
      have hc := of_decide_eq_false hc
      have hvn : 0 < vs.length := by omega
      obtain ⟨y, hy⟩ : ∃ y, vs[vs.length - 1]? = some y := ⟨_, List.getElem?_eq_getElem (by omega)⟩
      obtain ⟨wl, hwl⟩ : ∃ w, ws[vs.length - 1]? = some w := ⟨_, List.getElem?_eq_getElem (by omega)⟩
      have hG1 := g1 _ _ hG
      have eH2 : Ex H (upd G1 cp (.lst vs.dropLast)) := Ex.mut (eG.trans g1) hcp0
      have kt : KT K G (upd G1 cp (.lst vs.dropLast)) := (KT.ex g1).trans (KT.upd hG1)
      have hCs2 : ∀ (i : Nat) v w, vs[i]? = some v → ws[i]? = some w → CaseAt K (fun x => x ≠ cp) (upd G1 cp (.lst vs.dropLast)) n xss nd v w := fun i v w hv hw => (hCs i v w hv hw).move kt (fun b us hb h => by rw [upd_ne hb]; exact g1 _ _ h) fun b us hb _ => hb
      have hcp2 : upd G1 cp (.lst vs.dropLast) cp = some (.lst vs.dropLast) := upd_same
      try dsimp only
      refine ⟨_, rfl, _, rfl, _, rfl, _, rfl, Or.inl ⟨rfl, vs, sq_of hG1⟩, cp, vs, y, rfl, rfl, hG1, hy, ?_⟩
      generalize upd G1 cp (.lst vs.dropLast) = G2 at *
      refine ⟨a, c, n, wl, y, fun x => x ≠ cp, xss, nd, rfl, hR.ex eH2, ex_l eH2 hc0, sh, hCs2 _ _ _ hy hwl, fun p G3 us ws' hp e3 hp3 hCs3 hs3 hl3 => ?_⟩
      have pcp : p ≠ cp := fun z => by rw [z, hcp2] at hp; cases hp
      try dsimp only
      refine q_skip (et_is (et_test (ev_op (ev_var (i := 7) rfl) ev_c rv_isNone)) (by simp)) fun G4 g4 => ?_
      have hcp4 := (e3.trans g4) _ _ hcp2
      have hp4 := g4 _ _ hp3
      have kt4 : KT K G2 G4 := KT.ex (e3.trans g4)
      refine ⟨_, rfl, Or.inl ⟨rfl, vs.dropLast, sq_of hcp4⟩, _, rfl, cp, p, vs.dropLast, us, rfl, rfl, hcp4, hp4, sz_of (by rw [List.length_dropLast]; omega), ?_⟩
      have dl : ∀ {α : Type} {l : List α} {i : Nat} {x : α}, l.dropLast[i]? = some x → l[i]? = some x := fun {α l i x} h => by
        rw [List.getElem?_dropLast] at h
        split at h
        · exact h
        · cases h
      have hdl : vs.dropLast.length = ws.dropLast.length := by rw [List.length_dropLast, List.length_dropLast, hlen]
      refine ⟨_, _, vs.dropLast ++ us, ws.dropLast ++ ws', rfl, Ex.mut (eH2.trans (e3.trans g4)) hcp0, upd_same, ⟨by rw [List.length_append, List.length_append, hdl, hCs3.1], fun j v w hv hw => ?_⟩, ?_, by rw [List.length_append, List.length_dropLast]; omega⟩
      · by_cases cj : j < vs.dropLast.length
        · rw [List.getElem?_append_left cj] at hv
          rw [List.getElem?_append_left (by omega)] at hw
          exact (hCs2 j v w (dl hv) (dl hw)).move (kt4.trans (KT.upd hcp4)) (fun b us hb h => by rw [upd_ne hb]; exact (e3.trans g4) _ _ h) fun b us hb _ => hb
        · rw [List.getElem?_append_right (by omega)] at hv
          rw [List.getElem?_append_right (by omega), ← hdl] at hw
          have hN : ∀ b, G2 b = none → b ≠ cp := fun b hb z => by rw [z, hcp2] at hb; cases hb
          exact (hCs3.2 _ v w hv hw).move ((KT.ex g4).trans (KT.upd hcp4)) (fun b us hb h => by rw [upd_ne (hN b hb)]; exact g4 _ _ h) fun b us hb _ => hN b hb
      · rw [wSum_append]
        have hw0 : ws ≠ [] := fun z => by rw [z] at hwl; cases hwl
        have hls : ws.getLast hw0 = wl := by
          rw [List.getLast_eq_getElem]
          rw [hlen, List.getElem?_eq_getElem (by omega)] at hwl
          exact Option.some.inj hwl
        have hsp := List.dropLast_concat_getLast hw0
        rw [← hsp, wSum_append, hls] at hsum
        have : wSum [wl] = 2 ^ wl := by unfold wSum; simp
        omega
    rintro σ' G ⟨v6, v7, vs, ws, rfl, eG, hG, hCs, hsum, hvl⟩
    exact absurd hsum (by omega)

theorem zero_all : ∀ {l : List Int}, (∀ x ∈ l, 0 ≤ x) → l.sum = 0 → ∀ x ∈ l, x = 0
  | [], _, _, x, hx => by cases hx
  | y :: l, h, hs, x, hx => by
    rw [List.sum_cons] at hs
    have h0 := h y List.mem_cons_self
    have h1 := sum_nn fun z hz => h z (List.mem_cons_of_mem y hz)
    rcases List.mem_cons.mp hx with rfl | hx
    · omega
    · exact zero_all (fun z hz => h z (List.mem_cons_of_mem y hz)) (by omega) x hx
def spMeets (K : PySem.W.Frag) : Sp := fun vs H Q _ => ∃ (a c d : Addr) (n L : Nat) (xss : List (List Int)) (nd : List Int), vs = [.int (n : Int), .ref a, .ref c, .ref d] ∧ Rows K H a xss ∧ SqL K H c (nd.map V.int) ∧ Shp n nd xss ∧ SqL K H d ((lstB L).map V.int) ∧ L < 2 ^ n ∧ metB n xss nd L = true ∧ ∀ H', Ex H H' → Q (.bl true) H' 
theorem ok_u_law_meets_all (T : Txt K mg A) : FnOk P w K mg base CX0 4 A.f_u_law_meets_all A.d_u_law_meets_all (["n", "sides", "needs", "starts"] : List Str) (spMeets K) := by
  refine T.F_u_law_meets_all.ok sc_u_law_meets_all (fun vs H Q E h => ?_) (fun cdv Ar outer s H vs Q E hr h => ?_)
  · obtain ⟨a, c, d, n, L, xss, nd, rfl, _⟩ := h
    rfl
  · obtain ⟨a, c, d, n, L, xss, nd, rfl, hR, hc, sh, hd, hL, hM, k⟩ := h
    refine ⟨_, (pss_cons (ps_for PassesOwn.never rfl (pi_range1 rfl T.z_range (pa_cons (pe_callB len_K (by rfl) T.z_len (by decide +kernel) (pa_cons (pv 1) pa_nil)) pa_nil)) (pg_name (i := 4) sc_u_law_meets_all.nd rfl (Or.inl rfl)) (pss_one (ps_for PassesOwn.never rfl (pi_range1 rfl T.z_range (pa_cons (pv 0) pa_nil)) (pg_name (i := 5) sc_u_law_meets_all.nd rfl (Or.inl rfl)) (pss_one (ps_if (pt_cmpR op_gt (pe_call (ok_u_law_lack T) (hr.mono (by omega)) rfl T.g_u_law_lack T.k_u_law_lack (b_u_law_lack T) .nil pass0 (pa_cons (pv 0) (pa_cons (pe_ix ix_lK (pv 1) (pv 4) (fun _ _ => rfl)) (pa_cons (pe_ix ix_lK (pv 2) (pv 4) (fun _ _ => rfl)) (pa_cons (pv 3) (pa_cons (pv 5) pa_nil)))))) pe_int (nomark _)) (pss_one (ps_ret pe_bl)) pss_nil)))))
        (pss_one (ps_ret pe_bl))), ?_⟩
    obtain ⟨vs, hvs, hlen, hall⟩ := hR.all
    have n1 := sh.n1
    have n2 := sh.n2
    have m2 := sh.m2
    have nl := sh.nl
    have hz : ∀ {g h : Nat}, g < xss.length → h < n → lackO (nd.getD g 0 - ((pc (L &&& meetB n (xss.getD g []) h) : Nat) : Int)) = 0 := fun {g h} hg hh => by
      unfold metB at hM
      have := of_decide_eq_true (List.all_eq_true.mp hM g (List.mem_range.mpr hg))
      exact zero_all (fun x hx => by obtain ⟨j, _, rfl⟩ := List.mem_map.mp hx; exact lackO_nn _) this _ (List.mem_map.mpr ⟨h, List.mem_range.mpr hh, rfl⟩)
    have hbits := bits_lstB n2 hL
    have hnd : (lstB L).Nodup := ((asc_hrs (by decide)).1.imp fun h => by omega)
    try dsimp only
    refine q_forR1 (j := 4) (n := (xss.length : Int)) (ea_cons (ev_cb (r := rLenK K) (z := .int (xss.length : Int)) (ea_cons (ev_var (i := 1) rfl) ea_nil) fun H9 e9 Q k => ⟨.ref a, vs.length, rfl, .inl ⟨_, ex_l e9 hvs, rfl⟩, by rw [hlen]; exact k H9 (Ex.refl H9)⟩) ea_nil) (by omega) (fun i σ' G => ∃ v4 v5 : Option V, σ' = [some (.int (n : Int)), some (.ref a), some (.ref c), some (.ref d), v4, v5] ∧ Ex H G) (fun G e => ⟨_, _, rfl, e⟩) ?_ ?_
    · rintro i σ' G hi ⟨v4, v5, rfl, eG⟩
      have hi' : i < xss.length := by omega
      obtain ⟨v, hvi⟩ : ∃ v, vs[i]? = some v := ⟨_, List.getElem?_eq_getElem (by omega)⟩
      obtain ⟨pg, rfl, hpg⟩ := hall i v hvi
      have ndg : (nd.map V.int)[i]? = some (.int (nd.getD i 0)) := by
        rw [List.getElem?_map, List.getD_eq_getElem?_getD, List.getElem?_eq_getElem (by omega)]
        rfl
      try dsimp only
      refine s_forR1 (j := 5) (n := (n : Int)) (ea_cons (ev_var (i := 0) rfl) ea_nil) (by omega) (fun j σ' G' => ∃ v5 : Option V, σ' = [some (.int (n : Int)), some (.ref a), some (.ref c), some (.ref d), some (.int (i : Int)), v5] ∧ Ex H G') (fun G' e => ⟨_, rfl, eG.trans e⟩) ?_ ?_
      · rintro j σ' G' hj ⟨v5, rfl, eG'⟩
        have hj' : j < n := by omega
        try dsimp only
        exact s_when (b := false) (et_is (et_test (ev_op (ev_lack (t := L) (ev_var (i := 0) rfl) (ev_op (ev_var (i := 1) rfl) (ev_var (i := 4) rfl) (rv_ixL (ex_l eG' hvs) (atI_nat hvi))) (ev_op (ev_var (i := 2) rfl) (ev_var (i := 4) rfl) (rv_ixL (ex_l eG' hc) (atI_nat ndg))) (ev_var (i := 3) rfl) (ev_var (i := 5) rfl) ⟨n1, n2⟩ (ex_l eG' hpg) (ex_l eG' hd) hL hbits hnd) ev_c rv_I0)) (by rw [hz hi' hj']; rfl)) (fun z => Bool.noConfusion z) fun _ G1 g1 => ⟨_, rfl, eG'.trans g1⟩
      · rintro σ' G' ⟨v5, rfl, eG'⟩
        exact ⟨_, _, rfl, eG'⟩
    rintro σ' G ⟨v4, v5, rfl, eG⟩
    exact s_ret ev_c fun G1 g1 => k G1 (eG.trans g1)

theorem rows_ex {H : Hp} {n : Int} : ∀ vs : List V, (∀ (k : Nat) x, vs[k]? = some x → ∃ (p : Addr) (xs : List Int), x = .ref p ∧ H p = some (.lst (xs.map V.int)) ∧ Asc 0 n xs) →
    ∃ xss : List (List Int), vs.length = xss.length ∧ (∀ (i : Nat) v, vs[i]? = some v → ∃ p, v = .ref p ∧ H p = some (.lst ((xss.getD i []).map V.int))) ∧ ∀ xs ∈ xss, Asc 0 n xs
  | [], _ => ⟨[], rfl, (fun i v h => by simp at h), fun _ h => by cases h⟩
  | v :: vs, h => by
    obtain ⟨p, xs, rfl, hp, hA⟩ := h 0 v rfl
    obtain ⟨xss, h1, h2, h3⟩ := rows_ex vs fun k x hx => h (k + 1) x hx
    refine ⟨xs :: xss, by simp [h1], fun i u hu => ?_, fun ys hy => ?_⟩
    · cases i with
      | zero =>
        cases Option.some.inj hu
        exact ⟨p, rfl, hp⟩
      | succ i => exact h2 i u hu
    · rcases List.mem_cons.mp hy with rfl | hy
      · exact hA
      · exact h3 ys hy

theorem ev_ixNew {K : PySem.W.Frag} {ta tb : TE} {σ : L2.St} {H : Hp} {xs : List V} {i : Int} {v : V} (h : EvL ta σ H xs) (hb : Ev tb σ H (.int i)) (hv : atI xs i = some v) : Ev (tOp (rIxL K) ta tb) σ H v := fun H1 e Q q => h H1 e _ fun p H2 _ e2 g => hb H2 (e.trans e2) _ fun H3 e3 => rv_ixL (K := K) (sq_of (e3 _ _ g)) hv H3 (Ex.refl _) _ fun H4 e4 => q H4 ((e2.trans e3).trans e4)
theorem er_drawsM {K : PySem.W.Frag} {E : XK} {σ : L2.St} {H : Hp} {tc ts tm : TE} {c z : Int} {l : Addr} {ms : List Int} (hc : Ev tc σ H (.int c)) (hs : Ev ts σ H (.int z)) (hm : Ev tm σ H (.ref l)) (hL : SqL K H l (ms.map V.int)) (h0 : 0 ≤ c) (hz : -1000000 ≤ z ∧ z ≤ 1000000) (hl : ms.length ≤ 64)
    (hb : ∀ x ∈ ms, 1 ≤ x ∧ x.natAbs < 2 ^ 1000) : EvR (tCall (sp_draws K) [] E (tCons tc (tCons ts (tCons tm tNil)))) σ H fun v H1 => ∃ p ds, v = .ref p ∧ H1 p = some (.lst (ds.map V.int)) ∧ Drawn ms ds := fun H1 e Q q =>
  hc H1 e _ fun H2 e2 => hs H2 (e.trans e2) _ fun H3 e3 => hm H3 ((e.trans e2).trans e3) _ fun H4 e4 =>
    ⟨c, z, l, ms, rfl, ex_l (((e.trans e2).trans e3).trans e4) hL, h0, hz, hl, hb, fun p H' ds hp e' h' hD => q _ H' ((e2.trans e3).trans (e4.trans e')) ⟨p, ds, rfl, h', hD⟩⟩
theorem en_lotsW {K : PySem.W.Frag} {A : Ads} {E : XK} {σ : L2.St} {H : Hp} {i j k : Nat} {a : Addr} {n : Int} {xss : List (List Int)} (hi : σ[i]? = some (some (.ref a))) (hk : ∀ x : Option V, ((wipe σ [j]).set j x)[k]? = some (some (.int n))) (hj : ∀ x : Option V, ((wipe σ [j]).set j x)[j]? = some x) (hw : ∀ x : Option V, wipe ((wipe σ [j]).set j x) [j] = wipe σ [j]) (hR : Rows K H a xss) (hm : xss.length ≤ 400) (hn : 1 ≤ n ∧ n ≤ 360) (hA : ∀ xs ∈ xss, Asc 0 n xs) :
    EvR (tLc (iList K (tVar i)) (gName j) tYes (tMake A.C_Lot (spLotInit K A) [] E (tCons (tVar k) (tCons (tVar j) tNil))) [j]) σ H fun v H1 => ∃ p, v = .ref p ∧ LotW A H1 p n xss := by
  obtain ⟨vs, hvs, hlen, hall⟩ := hR.all
  refine (en_lc (fun g v G => LotIs A.C_Lot v G n (xss.getD g [])) (ei_list (eb_held hi hvs)) (by omega) bd_at (fun g _ => hw _) (fun g H1 hg e1 => ?_)).er.imp fun v H1 q => ?_
  · obtain ⟨v, hv⟩ : ∃ v, vs[g]? = some v := ⟨_, List.getElem?_eq_getElem hg⟩
    obtain ⟨p, rfl, hp⟩ := hall g v hv
    exact en_mkAsc (K := K) (ev_var (hk _)) (er_held (by rw [hj, hv]) (ex_l e1 hp)) hn (hA _ (getD_mem (by omega)))
  · obtain ⟨p, ls, rfl, h1, h2, h3⟩ := q
    exact ⟨p, rfl, ⟨ls, h1, by omega, h3⟩⟩
def spLaw (K : PySem.W.Frag) : Sp := fun vs H Q _ => ∃ (a : Addr) (ns : List Int), vs = [.ref a] ∧ SqL K H a (ns.map V.int) ∧ ns.length ≤ 63 ∧ ∀ H', Q (.bl true) H'
theorem ev_isOwn {K : PySem.W.Frag} {te : TE} {σ : L2.St} {H : Hp} {b C : Addr} (h : Ev te σ H (.ref b)) (ty : ∀ H1, Ex H H1 → TyX K H1 (.ref b) (.ref C)) : Ev (tCB (rIsi K) (tCons te (tCons (tC (.ref C)) tNil))) σ H (.bl true) := fun H1 e Q q => h H1 e _ fun H2 e2 => ⟨_, _, _, _, true, rfl, .own _, ty H2 (e.trans e2), kit_self, q H2 e2⟩

theorem at_st {tz : TS} {D : Ends} {σ σ' : L2.St} {H : Hp} (h : σ = σ') (k : tz D σ' H) : tz D σ H := by rw [h]; exact k

theorem s_setN {te ta tb : TE} {D : Ends} {σ : L2.St} {H : Hp} {l : Addr} {xs ys : List V} {j : Nat} (hl : H l = some (.lst xs)) (h : EvL te σ H ys) (ho : Ev ta σ H (.ref l)) (hi : Ev tb σ H (.int (j : Int))) (hj : j < xs.length)
    (kk : ∀ p H1, H p = none → Ex H H1 → H1 p = some (.lst ys) → D.nx σ (upd H1 l (.lst (xs.set j (.ref p))))) : tAsg te (gSub ta tb rSetL) D σ H := h H (Ex.refl H) _ fun p H1 hp e1 h1 => ho H1 e1 _ fun H2 e2 => hi H2 (e1.trans e2) _ fun H3 e3 =>
  ⟨l, xs, (j : Int), j, rfl, rfl, ((e1.trans e2).trans e3) l _ hl, ixN_nat hj, kk p H3 hp ((e1.trans e2).trans e3) ((e2.trans e3) _ _ h1)⟩
theorem el_slN {K : PySem.W.Frag} {te : TE} {tl th : TO} {σ : L2.St} {H : Hp} {xs : List V} {lo hi : Option Int} (h : EvL te σ H xs) (h1 : EvO tl σ H lo) (h2 : EvO th σ H hi) : EvL (tSl (rSlL K) te tl th) σ H (cutV xs lo hi) := fun H1 e Q q => h H1 e _ fun p H2 hp e2 g =>
  (el_sl (K := K) (te := tC (.ref p)) (σ := σ) (H := H2) (tl := tl) (th := th) ev_c (fun G gg => h1 G ((e.trans e2).trans gg)) (fun G gg => h2 G ((e.trans e2).trans gg)) (sq_of g)) H2 (Ex.refl _) Q fun p' H3 hp' e3 g' => q p' H3 (fresh_back e2 hp') (e2.trans e3) g'
theorem ev_intB {σ : L2.St} {H : Hp} {te : TE} {k : Bool} (h : Ev te σ H (.bl k)) : Ev (tCB (fun xs H Q => (∃ i, xs = [V.int i] ∧ Q (V.int i) H) ∨ ∃ k, xs = [V.bl k] ∧ Q (V.int (if k = true then 1 else 0)) H) (tCons te tNil)) σ H (.int (if k = true then 1 else 0)) := ev_cb (ea_cons h ea_nil) fun H1 _ _ q => .inr ⟨_, rfl, q H1 (Ex.refl H1)⟩
theorem list_min : ∀ {ns : List Int}, ns ≠ [] → ∃ z, z ∈ ns ∧ ∀ y ∈ ns, z ≤ y
  | [], h => absurd rfl h
  | [x], _ => ⟨x, List.mem_cons_self, fun y hy => by rw [List.mem_singleton.mp hy]; exact Int.le_refl _⟩
  | x :: w :: r, _ => by
    obtain ⟨z, hz, hall⟩ := list_min (ns := w :: r) (by simp)
    by_cases c : x ≤ z
    · exact ⟨x, List.mem_cons_self, fun y hy => by
        rcases List.mem_cons.mp hy with rfl | hy
        · exact Int.le_refl _
        · exact Int.le_trans c (hall y hy)⟩
    · exact ⟨z, List.mem_cons_of_mem _ hz, fun y hy => by
        rcases List.mem_cons.mp hy with rfl | hy
        · omega
        · exact hall y hy⟩
theorem ev_min {K : PySem.W.Frag} {σ : L2.St} {H : Hp} {ta : TE} {ns : List Int} {z : Int} (h : EvL ta σ H (ns.map V.int)) (hz : z ∈ ns) (hall : ∀ y ∈ ns, z ≤ y) : Ev (tCB (rMin K) (tCons ta tNil)) σ H (.int z) := fun H1 e Q q => h H1 e _ fun p H2 _ e2 g => ⟨p, ns, rfl, sq_of g, List.length_pos_of_mem hz, fun m hm hle => by
  have : m = z := Int.le_antisymm (hle z hz) (hall m hm)
  rw [this]
  exact q H2 e2⟩
theorem en_gate {K : PySem.W.Frag} {E : XK} {σ : L2.St} {H : Hp} {tn td tz : TE} {n : Nat} {z : Int} (h1 : Ev tn σ H (.int (n : Int))) (h2 : EvR td σ H fun v G => ∃ (d : Addr) (ds : List Int), v = .ref d ∧ G d = some (.lst (ds.map V.int)) ∧ ds.length = 6 ∧ (0 ≤ ds.getD 1 0 ∧ ds.getD 1 0 < 5)) (h3 : Ev tz σ H (.int z)) (hn : 1 ≤ n ∧ n ≤ 12) (hz : 2 ≤ z ∧ z ≤ 6) : EvNew (tCall (spGate K) [] E (tCons tn (tCons td (tCons tz tNil)))) σ H fun v G => ∃ (p : Addr) (xs : List Int), v = .ref p ∧ G p = some (.lst (xs.map V.int)) ∧ Asc 0 (n : Int) xs := fun H1 e Q q =>
  h1 H1 e _ fun H2 e2 => h2 H2 (e.trans e2) _ fun v H3 e3 hv => by
    obtain ⟨d, ds, rfl, hd, hl, hb⟩ := hv
    exact h3 H3 ((e.trans e2).trans e3) _ fun H4 e4 => ⟨d, n, ds, z, rfl, sq_of (e4 _ _ hd), hl, hb, hn, hz, fun p H' xs hp e' h hA => q _ H' (((e2.trans e3).trans e4).trans e') fun G g => ⟨p, xs, rfl, g p _ (fresh_back ((e2.trans e3).trans e4) hp) h, hA⟩⟩

theorem ok_law (T : Txt K mg A) : FnOk P w K mg base CX0 36 A.f_law A.d_law (["script"] : List Str) (spLaw K) := by
  refine T.F_law.ok sc_law (fun vs H Q E h => ?_) (fun cdv Ar outer s H vs Q E hr h => ?_)
  · obtain ⟨a, ns, rfl, _⟩ := h
    rfl
  · obtain ⟨a, ns, rfl, hS, hl, k⟩ := h
    refine ⟨_, (pss_cons (ps_set (i := 1) sc_law.nd rfl (Or.inr rfl) (pe_call (ok_u_law_draws T) (hr.mono (by omega)) rfl T.g_u_law_draws T.k_u_law_draws (b_u_law_draws T) .nil pass0 (pa_cons (pe_call (ok_u_law_cell T) (hr.mono (by omega)) rfl T.g_u_law_cell T.k_u_law_cell (b_u_law_cell T) .nil pass0 (pa_cons (pv 0) (pa_cons pe_int pa_nil))) (pa_cons pe_int (pa_cons (pe_lst (pa_cons pe_int (pa_cons pe_int (pa_cons pe_int (pa_cons pe_int (pa_cons pe_int (pa_cons pe_int (pa_cons pe_int (pa_cons pe_int pa_nil))))))))) pa_nil)))))
        (pss_cons (ps_set (i := 2) sc_law.nd rfl (Or.inr rfl) (pe_ix ix_lK (pe_lst (pa_cons pe_int (pa_cons pe_int (pa_cons pe_int (pa_cons pe_int (pa_cons pe_int (pa_cons pe_int (pa_cons pe_int (pa_cons pe_int (pa_cons pe_int (pa_cons pe_int (pa_cons pe_int (pa_cons pe_int (pa_cons pe_int (pa_cons pe_int (pa_cons pe_int (pa_cons pe_int (pa_cons pe_int (pa_cons pe_int (pa_cons pe_int (pa_cons pe_int (pa_cons pe_int (pa_cons pe_int (pa_cons pe_int (pa_cons pe_int pa_nil))))))))))))))))))))))))) (pe_ix ix_lK (pv 1) pe_int (fun _ _ => rfl)) (fun _ _ => rfl)))
        (pss_cons (ps_set (i := 3) sc_law.nd rfl (Or.inl rfl) (pe_ix ix_lK (pe_lst (pa_cons pe_int (pa_cons pe_int (pa_cons pe_int (pa_cons pe_int (pa_cons pe_int pa_nil)))))) (pe_ix ix_lK (pv 1) pe_int (fun _ _ => rfl)) (fun _ _ => rfl)))
        (pss_cons (ps_if (pt_cmpR op_gt (pv 2) pe_int (nomark _)) (pss_one (ps_set (i := 3) sc_law.nd rfl (Or.inl rfl) (pe_op op_add pe_int (pe_callTy call_int1 (by rfl) T.z_int (by decide +kernel) (pa_cons (pe_cmpR op_eq (pe_ix ix_lK (pv 1) pe_int (fun _ _ => rfl)) pe_int (nomark _)) pa_nil))))) pss_nil)
        (pss_cons (ps_set (i := 4) sc_law.nd rfl (Or.inr rfl) (pe_lst (pa_cons (pe_call (ok_u_law_two T) (hr.mono (by omega)) rfl T.g_u_law_two T.k_u_law_two (b_u_law_two T) .nil pass0 (pa_cons (pv 2) pa_nil)) (pa_cons pe_int (pa_cons (pv 2) (pa_cons (pv 2) (pa_cons (pv 2) (pa_cons (pv 2) pa_nil))))))))
        (pss_cons (ps_set (i := 5) sc_law.nd rfl (Or.inr rfl) (pe_ix ix_lK (pe_lst (pa_cons pe_int (pa_cons pe_int (pa_cons pe_int (pa_cons pe_int pa_nil))))) (pe_ix ix_lK (pv 1) pe_int (fun _ _ => rfl)) (fun _ _ => rfl)))
        (pss_cons (ps_if (pt_cmpR op_gt (pv 2) pe_int (nomark _)) (pss_one (ps_set (i := 5) sc_law.nd rfl (Or.inr rfl) (pe_ix ix_lK (pe_lst (pa_cons pe_int (pa_cons pe_int (pa_cons pe_int (pa_cons pe_int pa_nil))))) (pe_ix ix_lK (pv 1) pe_int (fun _ _ => rfl)) (fun _ _ => rfl)))) pss_nil)
        (pss_cons (ps_set (i := 6) sc_law.nd rfl (Or.inr rfl) (pe_lc (own := [("g", 7)]) (g := gName 7) (tt := tYes) rfl sc_law.nd (pi_range1 rfl T.z_range (pa_cons (pv 3) pa_nil)) (blkOk_by (own := [("g", 7)]) (N := N_law) (sc := defScope s_law) (by decide +kernel)) (fun _ _ _ _ _ => (pg_name (i := 7) sc_law.nd rfl (Or.inl rfl))) (fun _ _ _ _ _ => pts_nil) (fun _ _ _ _ _ => (pe_call (ok_u_law_gate T) (hr.mono (by omega)) rfl T.g_u_law_gate T.k_u_law_gate (b_u_law_gate T) .nil pass0 (pa_cons (pv 2) (pa_cons (pe_call (ok_u_law_draws T) (hr.mono (by omega)) rfl T.g_u_law_draws T.k_u_law_draws (b_u_law_draws T) .nil pass0 (pa_cons (pe_call (ok_u_law_cell T) (hr.mono (by omega)) rfl T.g_u_law_cell T.k_u_law_cell (b_u_law_cell T) .nil pass0 (pa_cons (pv 0) (pa_cons (pe_op op_add pe_int (pv 7)) pa_nil))) (pa_cons (pe_op op_add pe_int (pv 7)) (pa_cons (pv 4) pa_nil)))) (pa_cons (pv 5) pa_nil)))))))
        (pss_cons (ps_if (PW.pt (pw_and (pt_cmpR op_eq (pe_ix ix_lK (pv 1) pe_int (fun _ _ => rfl)) pe_int (nomark _)) (pw_and1 (pt_cmpR op_gt (pv 3) pe_int (nomark _))))) (pss_one (ps_asg (pe_lc (own := [("h", 8)]) (g := gName 8) rfl sc_law.nd (pi_range1 rfl T.z_range (pa_cons (pv 2) pa_nil)) (blkOk_by (own := [("h", 8)]) (N := N_law) (sc := defScope s_law) (by decide +kernel)) (fun _ _ _ _ _ => (pg_name (i := 8) sc_law.nd rfl (Or.inl rfl))) (fun _ _ _ _ _ => (pts_one (pt_cmpR in_K (pe_op op_mod (pe_callTy call_int1 (by rfl) T.z_int (by decide +kernel) (pa_cons (pe_op op_sub (pv 2) (pv 8)) pa_nil)) (pv 2)) (pe_ix ix_lK (pv 6) pe_int (fun _ _ => rfl)) (by with_unfolding_all rfl)))) (fun _ _ _ _ _ => (pv 8))) (pg_sub (pv 6) pe_int set_list))) pss_nil)
        (pss_cons (ps_set (i := 9) sc_law.nd rfl (Or.inr rfl) (pe_slice sl_list (pe_op op_cat (pe_slice sl_list (pv 1) (po_some pe_int) (po_some pe_int)) (pe_slice sl_list (pv 1) (po_some pe_int) po_none)) po_none (po_some (pv 3))))
        (pss_cons (ps_if (pt_cmpR op_gt (pe_ix ix_lK (pv 1) pe_int (fun _ _ => rfl)) pe_int (nomark _)) (pss_one (ps_set (i := 9) sc_law.nd rfl (Or.inr rfl) (pe_lc (own := [("g", 7)]) (g := gName 7) (tt := tYes) rfl sc_law.nd (pi_range1 rfl T.z_range (pa_cons (pv 3) pa_nil)) (blkOk_by (own := [("g", 7)]) (N := N_law) (sc := defScope s_law) (by decide +kernel)) (fun _ _ _ _ _ => (pg_name (i := 7) sc_law.nd rfl (Or.inl rfl))) (fun _ _ _ _ _ => pts_nil) (fun _ _ _ _ _ => (pe_op op_add pe_int (pe_op op_mod (pe_callTy call_int1 (by rfl) T.z_int (by decide +kernel) (pa_cons (pe_ix ix_lK (pv 1) pe_int (fun _ _ => rfl)) pa_nil)) pe_int)))))) pss_nil)
        (pss_cons (ps_if (PW.pt (pw_and (pt_cmpR op_gt (pv 2) pe_int (nomark _)) (pw_and1 (pt_cmpR op_lt (pe_callB cr_minK (by rfl) T.z_min (by decide +kernel) (pa_cons (pe_lc (own := [("side", 10)]) (g := gName 10) (tt := tYes) rfl sc_law.nd (pi_listK (pv 6)) (blkOk_by (own := [("side", 10)]) (N := N_law) (sc := defScope s_law) (by decide +kernel)) (fun _ _ _ _ _ => (pg_name (i := 10) sc_law.nd rfl (Or.inl rfl))) (fun _ _ _ _ _ => pts_nil) (fun _ _ _ _ _ => (pe_callB len_K (by rfl) T.z_len (by decide +kernel) (pa_cons (pv 10) pa_nil)))) pa_nil)) (pe_op op_sub (pv 2) pe_int) (nomark _))))) (pss_one (ps_set (i := 9) sc_law.nd rfl (Or.inr rfl) (pe_lc (own := [("need", 11)]) (g := gName 11) (tt := tYes) rfl sc_law.nd (pi_listK (pv 9)) (blkOk_by (own := [("need", 11)]) (N := N_law) (sc := defScope s_law) (by decide +kernel)) (fun _ _ _ _ _ => (pg_name (i := 11) sc_law.nd rfl (Or.inl rfl))) (fun _ _ _ _ _ => pts_nil) (fun _ _ _ _ _ => (pe_callB (call_min2 rfl) (by rfl) T.z_min (by decide +kernel) (pa_cons pe_int (pa_cons (pe_callTy call_int1 (by rfl) T.z_int (by decide +kernel) (pa_cons (pv 11) pa_nil)) pa_nil))))))) pss_nil)
        (pss_cons (ps_set (i := 9) sc_law.nd rfl (Or.inr rfl) (pe_lc (own := [("g", 7)]) (g := gName 7) (tt := tYes) rfl sc_law.nd (pi_range1 rfl T.z_range (pa_cons (pv 3) pa_nil)) (blkOk_by (own := [("g", 7)]) (N := N_law) (sc := defScope s_law) (by decide +kernel)) (fun _ _ _ _ _ => (pg_name (i := 7) sc_law.nd rfl (Or.inl rfl))) (fun _ _ _ _ _ => pts_nil) (fun _ _ _ _ _ => (pe_callB (call_min2 rfl) (by rfl) T.z_min (by decide +kernel) (pa_cons (pe_ix ix_lK (pv 9) (pv 7) (fun _ _ => rfl)) (pa_cons (pe_callB len_K (by rfl) T.z_len (by decide +kernel) (pa_cons (pe_ix ix_lK (pv 6) (pv 7) (fun _ _ => rfl)) pa_nil)) pa_nil))))))
        (pss_cons (ps_setLc (i := 12) (own := [("side", 10)]) (g := gName 10) (tt := tYes) rfl sc_law.nd rfl rfl (sw_true rfl rfl rfl (by decide +kernel)) (pi_listK (pv 6)) (blkOk_by (own := [("side", 10)]) (N := N_law) (sc := defScope s_law) (by decide +kernel)) (fun _ _ _ _ _ => (pg_name (i := 10) sc_law.nd rfl (Or.inl rfl))) (fun _ _ _ _ _ => pts_nil) (fun _ _ _ _ _ => (pe_make T.mk_Lot (ok_Lot_init T) (hr.mono (by omega)) rfl T.g_Lot (b_Lot_init T) .nil passL (pa_cons (pv 2) (pa_cons (pv 10) pa_nil)))))
        (pss_cons (ps_set (i := 13) sc_law.nd rfl (Or.inl rfl) (pe_callTy list_K (by rfl) T.z_list (by decide +kernel) (pa_cons (pv 9) pa_nil)))
        (pss_cons (ps_set (i := 14) sc_law.nd rfl (Or.inl rfl) (pe_call (ok_fewest_starts T) (hr.mono (by omega)) rfl T.g_fewest_starts T.k_fewest_starts (b_fewest_starts T) .nil passL (pa_cons (pv 12) (pa_cons (pv 13) pa_nil))))
        (pss_cons (ps_if (PW.pt (pw_or (pt_not (pt_val (pe_callB isi_K (by rfl) T.z_isinstance (by decide +kernel) (pa_cons (pv 14) (pa_cons (pe_glob (v := .ref A.C_Fewest) rfl T.g_Fewest rfl) pa_nil))))) (pw_or1 (pt_not (pt_val (pe_callB isi_K (by rfl) T.z_isinstance (by decide +kernel) (pa_cons (pe_fldK (pv 14) rfl) (pa_cons (pe_glob (v := .ref A.C_Lot) rfl T.g_Lot rfl) pa_nil)))))))) (pss_one (ps_ret pe_bl)) pss_nil)
        (pss_cons (ps_set (i := 15) sc_law.nd rfl (Or.inr rfl) (pe_prop (pe_fldK (pv 14) rfl) T.cl_Lot T.P_Lot_members (ok_Lot_members T) (hr.mono (by omega)) (b_Lot_members T) .nil pass0 rfl))
        (pss_cons (ps_if (pt_not (pt_val (pe_call (ok_u_law_same T) (hr.mono (by omega)) rfl T.g_u_law_same T.k_u_law_same (b_u_law_same T) .nil pass0 (pa_cons (pe_tup (pa_cons (pe_fldK (pe_fldK (pv 14) rfl) rfl) (pa_cons (pv 15) pa_nil))) (pa_cons (pe_tup (pa_cons (pv 2) (pa_cons (pe_lc (own := [("s", 16)]) (g := gName 16) rfl sc_law.nd (pi_range1 rfl T.z_range (pa_cons (pv 2) pa_nil)) (blkOk_by (own := [("s", 16)]) (N := N_law) (sc := defScope s_law) (by decide +kernel)) (fun _ _ _ _ _ => (pg_name (i := 16) sc_law.nd rfl (Or.inl rfl))) (fun _ _ _ _ _ => (pts_one (pt_cmpR in_K (pv 16) (pv 15) (by with_unfolding_all rfl)))) (fun _ _ _ _ _ => (pv 16))) pa_nil))) pa_nil))))) (pss_one (ps_ret pe_bl)) pss_nil)
        (pss_cons (ps_if (PW.pt (pw_or (pt_not (pt_val (pe_call (ok_u_law_same T) (hr.mono (by omega)) rfl T.g_u_law_same T.k_u_law_same (b_u_law_same T) .nil pass0 (pa_cons (pv 13) (pa_cons (pv 9) pa_nil))))) (pw_or1 (pt_not (pt_val (pe_call (ok_u_law_same T) (hr.mono (by omega)) rfl T.g_u_law_same T.k_u_law_same (b_u_law_same T) .nil pass0 (pa_cons (pe_lc (own := [("lot", 17)]) (g := gName 17) (tt := tYes) rfl sc_law.nd (pi_listK (pv 12)) (blkOk_by (own := [("lot", 17)]) (N := N_law) (sc := defScope s_law) (by decide +kernel)) (fun _ _ _ _ _ => (pg_name (i := 17) sc_law.nd rfl (Or.inl rfl))) (fun _ _ _ _ _ => pts_nil) (fun _ _ _ _ _ => (pe_prop (pv 17) T.cl_Lot T.P_Lot_members (ok_Lot_members T) (hr.mono (by omega)) (b_Lot_members T) .nil pass0 rfl))) (pa_cons (pv 6) pa_nil)))))))) (pss_one (ps_ret pe_bl)) pss_nil)
        (pss_cons (ps_if (pt_not (pt_val (pe_call (ok_u_law_meets_all T) (hr.mono (by omega)) rfl T.g_u_law_meets_all T.k_u_law_meets_all (b_u_law_meets_all T) .nil pass0 (pa_cons (pv 2) (pa_cons (pv 6) (pa_cons (pv 9) (pa_cons (pv 15) pa_nil))))))) (pss_one (ps_ret pe_bl)) pss_nil)
        (pss_cons (ps_if (pt_cmpR op_eq (pe_callB len_K (by rfl) T.z_len (by decide +kernel) (pa_cons (pv 15) pa_nil)) pe_int (nomark _)) (pss_one (ps_ret (pe_cmpR op_isN (pe_fldK (pv 14) rfl) pe_non (nomark _)))) pss_nil)
        (pss_one (ps_ret (pe_call (ok_u_law_shows T) (hr.mono (by omega)) rfl T.g_u_law_shows T.k_u_law_shows (b_u_law_shows T) .nil pass0 (pa_cons (pv 2) (pa_cons (pv 6) (pa_cons (pv 9) (pa_cons (pe_fldK (pv 14) rfl) (pa_cons (pe_op op_sub (pe_callB len_K (by rfl) T.z_len (by decide +kernel) (pa_cons (pv 15) pa_nil)) pe_int) pa_nil)))))))))))))))))))))))))))))), ?_⟩
    try dsimp only
    refine q_asgR (er_draws (K := K) (ms := [24, 3, 5, 4, 4, 4, 3, 4]) (ev_cell (k := 0) (ev_var rfl) ev_c hS) ev_c (el_lst (by repeat' first | exact ev_c | exact ev_var rfl | exact ea_nil | apply ea_cons | apply ev_int | apply ev_op | apply ev_un | exact ru_neg | exact rv_I0 | exact rv_eq rfl | exact rv_ne rfl | exact rv_I (by decide) | exact rv_I (.inl ⟨by decide, by decide⟩) | exact rv_I (.inr ⟨by decide, by decide⟩) | exact rv_I (by omega) | exact rv_I (.inl ⟨by omega, by omega⟩) | exact rv_I (.inr ⟨by omega, by omega⟩)) (by decide)) (cellA_nn _ _) (by decide) (by decide) (by decide +kernel)) fun v H1 e1 hp => ?_
    obtain ⟨wp, ds, rfl, hds, hD⟩ := hp
    obtain ⟨d0, ds, rfl, b0, hD⟩ := drawn_cons hD
    obtain ⟨d1, ds, rfl, b1, hD⟩ := drawn_cons hD
    obtain ⟨d2, ds, rfl, b2, hD⟩ := drawn_cons hD
    obtain ⟨d3, ds, rfl, b3, hD⟩ := drawn_cons hD
    obtain ⟨d4, ds, rfl, b4, hD⟩ := drawn_cons hD
    obtain ⟨d5, ds, rfl, b5, hD⟩ := drawn_cons hD
    obtain ⟨d6, ds, rfl, b6, hD⟩ := drawn_cons hD
    obtain ⟨d7, ds, rfl, b7, hD⟩ := drawn_cons hD
    obtain rfl := drawn_nil hD
    replace hS := ex_l e1 hS
    obtain ⟨n, hn, nE⟩ : ∃ n : Nat, (1 ≤ n ∧ n ≤ 12) ∧ atI (([1, 2, 3, 4, 5, 6, 7, 8, 5, 6, 7, 8, 6, 7, 8, 6, 7, 8, 7, 8, 9, 10, 11, 12] : List Int).map V.int) d0 = some (.int (n : Int)) := by
      have hall : ∀ z ∈ ([1, 2, 3, 4, 5, 6, 7, 8, 5, 6, 7, 8, 6, 7, 8, 6, 7, 8, 7, 8, 9, 10, 11, 12] : List Int), 1 ≤ z ∧ z ≤ 12 := by decide
      have h1 := hall _ (getD_mem (d := 0) (show d0.toNat < 24 by omega))
      have h2 := atI_ints (ns := [1, 2, 3, 4, 5, 6, 7, 8, 5, 6, 7, 8, 6, 7, 8, 6, 7, 8, 7, 8, 9, 10, 11, 12]) (i := d0) b0.1 (show d0 < ((24 : Nat) : Int) by omega)
      generalize ([1, 2, 3, 4, 5, 6, 7, 8, 5, 6, 7, 8, 6, 7, 8, 6, 7, 8, 7, 8, 9, 10, 11, 12] : List Int).getD d0.toNat 0 = n0 at h1 h2
      exact ⟨n0.toNat, by omega, by rw [Int.toNat_of_nonneg (by omega)]; exact h2⟩
    obtain ⟨m0, hm0, mE⟩ : ∃ m : Nat, (1 ≤ m ∧ m ≤ 4) ∧ atI (([1, 2, 2, 3, 4] : List Int).map V.int) d2 = some (.int (m : Int)) := by
      have hall : ∀ z ∈ ([1, 2, 2, 3, 4] : List Int), 1 ≤ z ∧ z ≤ 4 := by decide
      have h1 := hall _ (getD_mem (d := 0) (show d2.toNat < 5 by omega))
      have h2 := atI_ints (ns := [1, 2, 2, 3, 4]) (i := d2) b2.1 (show d2 < ((5 : Nat) : Int) by omega)
      generalize ([1, 2, 2, 3, 4] : List Int).getD d2.toNat 0 = n0 at h1 h2
      exact ⟨n0.toNat, by omega, by rw [Int.toNat_of_nonneg (by omega)]; exact h2⟩
    have szE : ∀ (us : List Int), us.length = 4 → (∀ z ∈ us, 2 ≤ z ∧ z ≤ 6) → ∃ z : Int, (2 ≤ z ∧ z ≤ 6) ∧ atI (us.map V.int) d7 = some (.int z) := fun us hl hall => ⟨_, hall _ (getD_mem (d := 0) (show d7.toNat < us.length by omega)), atI_ints (ns := us) (i := d7) b7.1 (by omega)⟩
    obtain ⟨z0, hz0, zE0⟩ := szE [2, 3, 3, 4] rfl (by decide)
    obtain ⟨z1, hz1, zE1⟩ := szE [2, 3, 4, 6] rfl (by decide)
    clear szE
    try dsimp only
    refine q_asg (v := .int (n : Int)) (ev_ixNew (K := K) (xs := ([1, 2, 3, 4, 5, 6, 7, 8, 5, 6, 7, 8, 6, 7, 8, 6, 7, 8, 7, 8, 9, 10, 11, 12] : List Int).map V.int) (el_lst (by repeat' first | exact ev_c | exact ev_var rfl | exact ea_nil | apply ea_cons | apply ev_int | apply ev_op | apply ev_un | exact ru_neg | exact rv_I0 | exact rv_eq rfl | exact rv_ne rfl | exact rv_I (by decide) | exact rv_I (.inl ⟨by decide, by decide⟩) | exact rv_I (.inr ⟨by decide, by decide⟩) | exact rv_I (by omega) | exact rv_I (.inl ⟨by omega, by omega⟩) | exact rv_I (.inr ⟨by omega, by omega⟩)) (by show 24 ≤ 100000; decide)) (ev_ix (ev_var (i := 1) rfl) ev_c (sq_of hds) rfl) nE) fun H2 e2 => ?_
    clear nE
    try dsimp only
    refine q_asg (v := .int (m0 : Int)) (ev_ixNew (K := K) (xs := ([1, 2, 2, 3, 4] : List Int).map V.int) (el_lst (by repeat' first | exact ev_c | exact ev_var rfl | exact ea_nil | apply ea_cons | apply ev_int | apply ev_op | apply ev_un | exact ru_neg | exact rv_I0 | exact rv_eq rfl | exact rv_ne rfl | exact rv_I (by decide) | exact rv_I (.inl ⟨by decide, by decide⟩) | exact rv_I (.inr ⟨by decide, by decide⟩) | exact rv_I (by omega) | exact rv_I (.inl ⟨by omega, by omega⟩) | exact rv_I (.inr ⟨by omega, by omega⟩)) (by show 5 ≤ 100000; decide)) (ev_ix (ev_var (i := 1) rfl) ev_c (sq_of (e2 _ _ hds)) rfl) mE) fun H3 e3 => ?_
    clear mE
    replace hS := ex_l (e2.trans e3) hS
    replace hds := (e2.trans e3) _ _ hds
    try dsimp only
    refine q_alt (fun σ G => ∃ m : Nat, σ = [some (.ref a), some (.ref wp), some (.int (n : Int)), some (.int (m : Int)), none, none, none, none, none, none, none, none, none, none, none, none, none, none] ∧ Ex H3 G ∧ 1 ≤ m ∧ m ≤ 4) (b := decide ((8 : Int) < (n : Int))) (et_test (ev_op (ev_var (i := 2) rfl) ev_c rv_I0)) (fun _ H4 e4 W hW => ?_) (fun _ H4 e4 => ⟨m0, rfl, e4, hm0.1, hm0.2⟩) fun σ4 H4 h4 => ?_
    · exact s_asg (v := .int ((1 + (if decide (d2 = 1) = true then 1 else 0) : Nat) : Int)) (ev_is (ev_op ev_c (ev_intB (k := decide (d2 = 1)) (ev_is (ev_op (ev_ix (ev_var (i := 1) rfl) ev_c (sq_of (e4 _ _ hds)) rfl) ev_c (rv_eq rfl)) (by rw [dec_ii]))) rv_I0) (congrArg V.int (by split <;> rfl))) fun H5 e5 => hW _ _ ⟨_, rfl, e4.trans e5, by omega, by split <;> omega⟩
    obtain ⟨m, rfl, e4, hm⟩ := h4
    replace hS := ex_l e4 hS
    replace hds := e4 _ _ hds
    have hN : 2 ^ n ≤ 4096 := Nat.pow_le_pow_right (show 0 < 2 by decide) (show n ≤ 12 from hn.2)
    have hN1 : 1 ≤ 2 ^ n := Nat.two_pow_pos n
    try dsimp only
    refine q_asgL (xs := [((2 ^ n : Nat) : Int), 5, (n : Int), (n : Int), (n : Int), (n : Int)].map V.int) (el_lst (ea_cons (ev_call (ea_cons (ev_var (i := 2) rfl) ea_nil) fun H4 e4 Q q E => ⟨n, rfl, by omega, fun H' e' => q H' e'⟩) (ea_cons ev_c (ea_cons (ev_var (i := 2) rfl) (ea_cons (ev_var (i := 2) rfl) (ea_cons (ev_var (i := 2) rfl) (ea_cons (ev_var (i := 2) rfl) ea_nil)))))) (by show 6 ≤ 100000; decide)) fun mp H5 _ e5 hmp => ?_
    replace hS := ex_l e5 hS
    replace hds := e5 _ _ hds
    generalize 2 ^ n = N at hN hN1 hmp
    have small : ∀ x : Int, 1 ≤ x → x ≤ 4096 → 1 ≤ x ∧ x.natAbs < 2 ^ 1000 := fun x h1 h2 => ⟨h1, Nat.lt_of_lt_of_le (show x.natAbs < 2 ^ 13 by omega) (Nat.pow_le_pow_right (by decide) (by decide))⟩
    have mb : ∀ x ∈ [(N : Int), 5, (n : Int), (n : Int), (n : Int), (n : Int)], 1 ≤ x ∧ x.natAbs < 2 ^ 1000 := fun x hx => by
      simp only [List.mem_cons, List.not_mem_nil, or_false] at hx
      rcases hx with rfl | rfl | rfl | rfl | rfl | rfl <;> exact small _ (by omega) (by omega)
    clear small
    try dsimp only
    refine q_asg (v := .int z0) (ev_ixNew (K := K) (xs := ([2, 3, 3, 4] : List Int).map V.int) (el_lst (by repeat' first | exact ev_c | exact ev_var rfl | exact ea_nil | apply ea_cons | apply ev_int | apply ev_op | apply ev_un | exact ru_neg | exact rv_I0 | exact rv_eq rfl | exact rv_ne rfl | exact rv_I (by decide) | exact rv_I (.inl ⟨by decide, by decide⟩) | exact rv_I (.inr ⟨by decide, by decide⟩) | exact rv_I (by omega) | exact rv_I (.inl ⟨by omega, by omega⟩) | exact rv_I (.inr ⟨by omega, by omega⟩)) (by show 4 ≤ 100000; decide)) (ev_ix (ev_var (i := 1) rfl) ev_c (sq_of hds) rfl) zE0) fun H6 e6 => ?_
    replace hS := ex_l e6 hS
    replace hds := e6 _ _ hds
    replace hmp := e6 _ _ hmp
    try dsimp only
    refine q_alt (fun σ G => ∃ z : Int, σ = [some (.ref a), some (.ref wp), some (.int (n : Int)), some (.int (m : Int)), some (.ref mp), some (.int z), none, none, none, none, none, none, none, none, none, none, none, none] ∧ Ex H6 G ∧ 2 ≤ z ∧ z ≤ 6) (b := decide ((10 : Int) < (n : Int))) (et_test (ev_op (ev_var (i := 2) rfl) ev_c rv_I0)) (fun _ H7 e7 W hW => ?_) (fun _ H7 e7 => ⟨z0, rfl, e7, hz0.1, hz0.2⟩) fun σ7 H7 h7 => ?_
    · exact s_asg (v := .int z1) (ev_ixNew (K := K) (xs := ([2, 3, 4, 6] : List Int).map V.int) (el_lst (by repeat' first | exact ev_c | exact ev_var rfl | exact ea_nil | apply ea_cons | apply ev_int | apply ev_op | apply ev_un | exact ru_neg | exact rv_I0 | exact rv_eq rfl | exact rv_ne rfl | exact rv_I (by decide) | exact rv_I (.inl ⟨by decide, by decide⟩) | exact rv_I (.inr ⟨by decide, by decide⟩) | exact rv_I (by omega) | exact rv_I (.inl ⟨by omega, by omega⟩) | exact rv_I (.inr ⟨by omega, by omega⟩)) (by show 4 ≤ 100000; decide)) (ev_ix (ev_var (i := 1) rfl) ev_c (sq_of (e7 _ _ hds)) rfl) zE1) fun H8 e8 => hW _ _ ⟨_, rfl, e7.trans e8, hz1.1, hz1.2⟩
    obtain ⟨z, rfl, e7, hz⟩ := h7
    clear zE0 zE1 hz0 hz1
    replace hS := ex_l e7 hS
    replace hds := e7 _ _ hds
    replace hmp := e7 _ _ hmp
    try dsimp only
    refine q_asgR (er_fresh (en_lcR1 (n := (m : Int)) (fun g v G => ∃ (p : Addr) (xs : List Int), v = .ref p ∧ G p = some (.lst (xs.map V.int)) ∧ Asc 0 (n : Int) xs) (ea_cons (ev_var (i := 3) rfl) ea_nil) (by omega) (fun x => rfl) (fun g H5 e5 hg => ?_))) fun v H8 e8 hv => ?_
    · refine en_gate (ev_var (i := 2) rfl) (EvR.imp (er_drawsM (K := K) (l := mp) (z := 2 + (g : Int)) (ms := [(N : Int), 5, (n : Int), (n : Int), (n : Int), (n : Int)]) (ev_cell (k := 1 + g) (z := 1 + (g : Int)) (ev_var (i := 0) rfl) (ev_op ev_c (ev_var (i := 7) rfl) rv_I0) (ex_l e5 hS) (by omega)) (ev_op ev_c (ev_var (i := 7) rfl) rv_I0) (ev_var (i := 4) rfl) (sq_of (e5 _ _ hmp)) (cellA_nn _ _) (by omega) (by show 6 ≤ 64; decide) mb) fun v G q => ?_) (ev_var (i := 5) rfl) hn hz
      obtain ⟨p, fs, rfl, hp, hF⟩ := q
      refine ⟨p, fs, rfl, hp, hF.1, ?_⟩
      obtain ⟨d, hd, h0, h1⟩ := hF.2 1 5 rfl
      rw [List.getD_eq_getElem?_getD, hd]
      exact ⟨h0, h1⟩
    obtain ⟨sp, vs, rfl, hsp0, hsp, hvl, hvs⟩ := hv
    rw [Int.toNat_natCast] at hvl
    obtain ⟨xs0, x1, x2, hA0⟩ := rows_ex vs hvs
    replace x1 : vs.length = xs0.length := x1
    clear mb hmp hvs
    try dsimp only
    refine q_alt (fun σ G => ∃ (vs : List V) (xss : List (List Int)), σ = [some (.ref a), some (.ref wp), some (.int (n : Int)), some (.int (m : Int)), some (.ref mp), some (.int z), some (.ref sp), none, none, none, none, none, none, none, none, none, none, none] ∧ Ex H7 G ∧ G sp = some (.lst vs) ∧ vs.length = xss.length ∧ xss.length = m ∧ (∀ (i : Nat) v, vs[i]? = some v → ∃ p, v = .ref p ∧ G p = some (.lst ((xss.getD i []).map V.int))) ∧ ∀ xs ∈ xss, Asc 0 (n : Int) xs) (b := decide (d6 = 0) && decide (1 < (m : Int))) (et_and (et_test (ev_is (ev_op (ev_ix (ev_var (i := 1) rfl) ev_c (sq_of (e8 _ _ hds)) rfl) ev_c (rv_eq rfl)) (by rw [dec_ii]))) fun _ => et_test (ev_op (ev_var (i := 3) rfl) ev_c rv_I0)) (fun hb H9 e9 W hW => ?_) (fun _ H9 e9 => ⟨vs, xs0, rfl, e8.trans e9, e9 _ _ hsp, x1, by omega, fun i v hv => (x2 i v hv).imp fun p h => ⟨h.1, e9 _ _ h.2⟩, hA0⟩) fun σ9 H9 h9 => ?_
    · rw [Bool.and_eq_true, decide_eq_true_iff, decide_eq_true_iff] at hb
      obtain ⟨v, hv0⟩ : ∃ v, vs[0]? = some v := ⟨_, List.getElem?_eq_getElem (by omega)⟩
      obtain ⟨p, rfl, hp⟩ := x2 0 v hv0
      have hsp9 := e9 _ _ hsp
      refine s_setN (j := 1) (ys := (hrs (n : Int) fun y => decide (((n : Int) - y) % (n : Int) ∈ xs0.getD 0 [])).map V.int) hsp9 (el_marks (K := K) (n := (n : Int)) (fun y => decide (((n : Int) - y) % (n : Int) ∈ xs0.getD 0 [])) (ea_cons (ev_var (i := 2) rfl) ea_nil) (by omega) (fun x => rfl) (fun y G g _ _ => et_test (ev_op (ev_op (ev_int (ev_op (ev_var (i := 2) rfl) (ev_var (i := 8) rfl) rv_I0)) (ev_var (i := 2) rfl) (rv_I (show (0 : Int) < (n : Int) by omega))) (ev_op (ev_var (i := 6) rfl) ev_c (rv_ixL (sq_of (g _ _ hsp9)) (atI_nat (j := 0) hv0))) (rv_inI (sq_of ((e9.trans g) _ _ hp))))) (fun y G => ev_var (i := 8) rfl)) (ev_var (i := 6) rfl) ev_c (by omega) fun rp H10 hrp e10 h10 => hW _ _ ⟨_, xs0.set 1 (hrs (n : Int) fun y => decide (((n : Int) - y) % (n : Int) ∈ xs0.getD 0 [])), rfl, Ex.mut ((e8.trans e9).trans e10) hsp0, upd_same, by rw [List.length_set, List.length_set, x1], by rw [List.length_set]; omega, fun i v hv => ?_, fun xs hx => ?_⟩
      · have hrs' : rp ≠ sp := fun y => by rw [y, hsp9] at hrp; cases hrp
        by_cases c : i = 1
        · subst c
          rw [List.getElem?_set_self (by omega)] at hv
          cases hv
          refine ⟨rp, rfl, ?_⟩
          have e2 : ∀ Y, (xs0.set 1 Y).getD 1 [] = Y := fun Y => by
            rw [List.getD_eq_getElem?_getD, List.getElem?_set_self (by omega)]
            rfl
          rw [upd_ne hrs', h10, e2]
        · rw [List.getElem?_set_ne (fun y => c y.symm)] at hv
          obtain ⟨p', rfl, hp'⟩ := x2 i v hv
          refine ⟨p', rfl, ?_⟩
          have hps : p' ≠ sp := fun y => by
            rw [y, hsp] at hp'
            have := Option.some.inj hp'
            injection this with this
            have hz := congrArg (fun l : List V => l[0]?) this
            have hz : vs[0]? = ((xs0.getD i []).map V.int)[0]? := hz
            rw [hv0] at hz
            cases hq : (xs0.getD i []).map V.int with
            | nil => rw [hq] at hz; cases hz
            | cons u us =>
              rw [hq] at hz
              have : u ∈ (xs0.getD i []).map V.int := by rw [hq]; exact List.mem_cons_self
              obtain ⟨w, _, rfl⟩ := List.mem_map.mp this
              cases hz
          rw [upd_ne hps, (e9.trans e10) _ _ hp', List.getD_eq_getElem?_getD, List.getD_eq_getElem?_getD, List.getElem?_set_ne (fun y => c y.symm)]
      · rcases List.mem_or_eq_of_mem_set hx with hx | rfl
        · exact hA0 xs hx
        · exact asc_hrs (by omega)
    clear x1 x2 hA0 hvl hsp
    obtain ⟨vs, xss, rfl, e79, hsp, hvl, hxl, hrows, hA⟩ := h9
    have hR : Rows K H9 sp xss := ⟨vs, sq_of hsp, hvl, fun i v hv => (hrows i v hv).imp fun p h => ⟨h.1, sq_of h.2⟩⟩
    replace hds := e79 _ _ hds
    have xl : ∀ xs ∈ xss, xs.length ≤ 360 := fun xs hx => by have := (hA xs hx).len; omega
    obtain ⟨nd0, hnd0, hndl0, hndb0⟩ : ∃ nd : List Int, cutV ([d3, d4, d5, d7].map V.int) none (some (m : Int)) = nd.map V.int ∧ nd.length = m ∧ ∀ z ∈ nd, 0 ≤ z ∧ z ≤ 3 := by
      clear hR hrows hds hS hxl
      have h4 : m = 1 ∨ m = 2 ∨ m = 3 ∨ m = 4 := by omega
      rcases h4 with h | h | h | h <;> subst h
      · exact ⟨[d3], rfl, rfl, fun z hz => by simp at hz; omega⟩
      · exact ⟨[d3, d4], rfl, rfl, fun z hz => by simp at hz; omega⟩
      · exact ⟨[d3, d4, d5], rfl, rfl, fun z hz => by simp at hz; omega⟩
      · exact ⟨[d3, d4, d5, d7], rfl, rfl, fun z hz => by simp at hz; omega⟩
    try dsimp only
    refine q_asgL (xs := nd0.map V.int) (by
      rw [← hnd0]
      exact el_slN (K := K) (xs := [d3, d4, d5, d7].map V.int) (el_cat (xs := [d3, d4, d5].map V.int) (ys := [d7].map V.int) (el_sl (K := K) (lo := some 3) (hi := some 6) (ev_var (i := 1) rfl) (eo_some ev_c) (eo_some ev_c) (sq_of hds)) (el_sl (K := K) (lo := some 7) (hi := none) (ev_var (i := 1) rfl) (eo_some ev_c) eo_none (sq_of hds)) (by show 4 ≤ 100000; decide)) eo_none (eo_some (ev_var (i := 3) rfl))) fun np H10 _ e10 hnp => ?_
    clear hnd0
    replace hR := hR.ex e10
    replace hds := e10 _ _ hds
    try dsimp only
    refine q_alt (fun σ G => ∃ (np : Addr) (nd : List Int), σ = [some (.ref a), some (.ref wp), some (.int (n : Int)), some (.int (m : Int)), some (.ref mp), some (.int z), some (.ref sp), none, none, some (.ref np), none, none, none, none, none, none, none, none] ∧ Ex H10 G ∧ G np = some (.lst (nd.map V.int)) ∧ nd.length = m ∧ ∀ z ∈ nd, 0 ≤ z ∧ z ≤ 3) (b := decide (0 < d1)) (et_test (ev_op (ev_ix (ev_var (i := 1) rfl) ev_c (sq_of hds) rfl) ev_c rv_I0)) (fun _ H11 e11 W hW => ?_) (fun _ H11 e11 => ⟨np, nd0, rfl, e11, e11 _ _ hnp, hndl0, hndb0⟩) fun σ11 H11 h11 => ?_
    · have m0 := Int.emod_nonneg d3 (show (2 : Int) ≠ 0 by decide)
      have m1 := Int.emod_lt_of_pos d3 (show (0 : Int) < 2 by decide)
      exact s_asgL (el_isW (el_rngY (n := m) (fun _ => V.int (1 + d3 % 2)) (ea_cons (ev_var (i := 3) rfl) ea_nil) (by omega) (fun x => rfl) fun i G hi g1 => ev_op ev_c (ev_op (ev_int (ev_ix (ev_var (i := 1) rfl) ev_c (sq_of ((e11.trans g1) _ _ hds)) rfl)) ev_c (rv_I (show (0 : Int) < 2 by decide))) rv_I0) (show _ = ((List.range m).map fun _ => 1 + d3 % 2).map V.int by rw [List.map_map]; rfl)) fun p H12 hp e12 h12 => hW _ _ ⟨p, _, rfl, e11.trans e12, h12, by rw [List.length_map, List.length_range], fun z hz => by obtain ⟨_, _, rfl⟩ := List.mem_map.mp hz; omega⟩
    clear hnp hndl0 hndb0
    obtain ⟨np, nd1, rfl, e11, hnp, hndl1, hndb1⟩ := h11
    replace hR := hR.ex e11
    replace hds := e11 _ _ hds
    obtain ⟨rs, hRs, hrl, hrv⟩ := hR.all
    obtain ⟨ns, hns⟩ : ∃ ns : List Int, ns = (List.range xss.length).map fun i => (((xss.getD i []).length : Nat) : Int) := ⟨_, rfl⟩
    obtain ⟨mn, hmn, hmall⟩ := list_min (ns := ns) (by rw [hns]; intro y; have := congrArg List.length y; simp at this; rw [this] at hxl; simp at hxl; omega)
    have rowL : ∀ {σ : L2.St} {G : Hp} {g i : Nat}, g < xss.length → σ[i]? = some (rs[g]?) → Ex H11 G → Ev (tCB (rLenK K) (tCons (tVar i) tNil)) σ G (.int (((xss.getD g []).length : Nat) : Int)) := fun {σ G g i} hg h e => by
      obtain ⟨v, hv⟩ : ∃ v, rs[g]? = some v := ⟨_, List.getElem?_eq_getElem (by omega)⟩
      obtain ⟨p, rfl, hp⟩ := hrv g v hv
      rw [hv] at h
      exact ev_cb (ea_cons (ev_var h) ea_nil) fun H9 e9 Q q => ⟨.ref p, (xss.getD g []).length, rfl, .inl ⟨_, ex_l (e.trans e9) hp, (List.length_map _).symm⟩, q H9 (Ex.refl H9)⟩
    try dsimp only
    refine q_alt (fun σ G => ∃ (np : Addr) (nd : List Int), σ = [some (.ref a), some (.ref wp), some (.int (n : Int)), some (.int (m : Int)), some (.ref mp), some (.int z), some (.ref sp), none, none, some (.ref np), none, none, none, none, none, none, none, none] ∧ Ex H11 G ∧ G np = some (.lst (nd.map V.int)) ∧ nd.length = m ∧ ∀ z ∈ nd, 0 ≤ z ∧ z ≤ 3) (b := decide ((10 : Int) < (n : Int)) && decide (mn < (n : Int) - 3)) (et_and (et_test (ev_op (ev_var (i := 2) rfl) ev_c rv_I0)) fun _ => et_test (ev_op (ev_min (K := K) (ns := ns) (el_isW (el_mapN (K := K) (m := xss.length) (f := fun i => V.int (((xss.getD i []).length : Nat) : Int)) (xs := rs) (eb_ev (ev_var (i := 6) rfl) fun G e => ⟨sp, rfl, ex_l e hRs⟩) hrl (by omega) (fun x => rfl) fun i G hi e => rowL hi rfl e) (by rw [hns, List.map_map]; rfl)) hmn hmall) (ev_op (ev_var (i := 2) rfl) ev_c rv_I0) rv_I0)) (fun _ H12 e12 W hW => ?_) (fun _ H12 e12 => ⟨np, nd1, rfl, e12, e12 _ _ hnp, hndl1, hndb1⟩) fun σ12 H12 h12 => ?_
    · exact s_asgL (el_map (K := K) (a := np) nd1 (fun _ => true) (fun x => if x < 2 then x else 2) (ev_var (i := 9) rfl) (sq_of (e12 _ _ hnp)) (by omega) (fun x => rfl) (fun x G g1 hx => yes_T) (fun x G g1 hx _ => ev_cb (ea_cons ev_c (ea_cons (ev_int (ev_var (i := 11) rfl)) ea_nil)) fun H13 e13 Q q => ⟨_, _, rfl, q H13 (Ex.refl H13)⟩)) fun p H13 hp e13 h13 => hW _ _ ⟨p, _, rfl, e12.trans e13, h13, by rw [List.length_map, List.filter_eq_self.mpr fun _ _ => rfl]; exact hndl1, fun z hz => by
        obtain ⟨y, hy, rfl⟩ := List.mem_map.mp hz
        have := hndb1 y (List.mem_filter.mp hy).1
        split <;> omega⟩
    clear hnp hndl1 hndb1
    obtain ⟨np, nd, rfl, e12, hnp, hndl, hndb⟩ := h12
    obtain ⟨nd', hnd'⟩ : ∃ nd' : List Int, nd' = (List.range m).map fun g => if (((xss.getD g []).length : Nat) : Int) < nd.getD g 0 then (((xss.getD g []).length : Nat) : Int) else nd.getD g 0 := ⟨_, rfl⟩
    try dsimp only
    refine q_asgL (el_isW (el_rngY (n := m) (fun g => V.int (if (((xss.getD g []).length : Nat) : Int) < nd.getD g 0 then (((xss.getD g []).length : Nat) : Int) else nd.getD g 0)) (ea_cons (ev_var (i := 3) rfl) ea_nil) (by omega) (fun x => rfl) fun g G hg g1 => ?_) (show _ = nd'.map V.int by rw [hnd', List.map_map]; rfl)) fun zp H13 _ e13 hzp => ?_
    · obtain ⟨v, hv⟩ : ∃ v, rs[g]? = some v := ⟨_, List.getElem?_eq_getElem (by omega)⟩
      obtain ⟨p, rfl, hp⟩ := hrv g v hv
      have hng : (nd.map V.int)[g]? = some (.int (nd.getD g 0)) := by
        rw [List.getElem?_map, List.getD_eq_getElem?_getD, List.getElem?_eq_getElem (by omega)]
        rfl
      exact ev_cb (ea_cons (ev_op (ev_var (i := 9) rfl) (ev_var (i := 7) rfl) (rv_ixL (sq_of (g1 _ _ hnp)) (atI_nat hng))) (ea_cons (ev_cb (ea_cons (ev_ix (ev_var (i := 6) rfl) (ev_var (i := 7) rfl) (ex_l (e12.trans g1) hRs) (atI_nat hv)) ea_nil) fun H9 e9 Q q => ⟨.ref p, (xss.getD g []).length, rfl, .inl ⟨_, ex_l ((e12.trans g1).trans e9) hp, (List.length_map _).symm⟩, q H9 (Ex.refl H9)⟩) ea_nil)) fun H11 e11 Q q => ⟨_, _, rfl, q H11 (Ex.refl H11)⟩
    replace hR := hR.ex (e12.trans e13)
    have nl' : nd'.length = xss.length := by rw [hnd', List.length_map, List.length_range, hxl]
    have gD : ∀ g, g < xss.length → nd'.getD g 0 = if (((xss.getD g []).length : Nat) : Int) < nd.getD g 0 then (((xss.getD g []).length : Nat) : Int) else nd.getD g 0 := fun g hg => by
      rw [hnd', List.getD_eq_getElem?_getD, List.getElem?_map, List.getElem?_range (by omega)]
      rfl
    have sh : Shp n nd' xss := ⟨hn.1, hn.2, by omega, by omega, nl', fun z hz => by
      rw [hnd'] at hz
      obtain ⟨g, hg, rfl⟩ := List.mem_map.mp hz
      have := hndb _ (getD_mem (d := 0) (show g < nd.length by have := List.mem_range.mp hg; omega))
      split <;> omega, hA⟩
    have hno : ∀ g, g < xss.length → ¬ lackAt xss nd' g := fun g hg hlk => by
      have hlk : (((xss.getD g []).length : Nat) : Int) < nd'.getD g 0 := hlk
      rw [gD g hg] at hlk
      split at hlk <;> omega
    clear gD hnd' hnp hndb hndl hRs hrv hrl rowL hmall hmn hrows hS
    try dsimp only
    refine q_asgR (en_lotsW (K := K) (A := A) (i := 6) (j := 10) (k := 2) rfl (fun x => rfl) (fun x => rfl) (fun x => rfl) hR (by omega) (by omega) hA) fun v H14 e14 hv => ?_
    obtain ⟨lp, rfl, hL⟩ := hv
    replace hR := hR.ex e14
    replace hzp := e14 _ _ hzp
    obtain ⟨ws, hws, wl, wa⟩ := id hL.at_
    have n1 := sh.n1
    have n2 := sh.n2
    try dsimp only
    refine q_asgL (el_copyB (K := K) (p := zp) (ev_var (i := 9) rfl) (sq_of hzp)) fun wq H15 _ e15 hwq => ?_
    try dsimp only
    refine q_asgR (er_call (P := fun v G => ∃ L, LeastM n xss nd' L ∧ FewIs K A v G n xss nd' L) (ea_cons (ev_var (i := 12) rfl) (ea_cons (ev_var (i := 13) rfl) ea_nil)) fun G1 g1 Q1 q => ⟨lp, wq, n, xss, nd', rfl, hL.ex (e15.trans g1), g1 _ _ hwq, sh, fun g hg hl _ => absurd hl (hno g hg), fun _ v L H' e' hM hF => q v H' e' ⟨L, hM, hF⟩⟩) fun v H3 e3 hv => ?_
    obtain ⟨L, hM, x, dx, sv, tv, rfl, hx, hsv, htv⟩ := hv
    obtain ⟨⟨gp, dg, l, rfl, g1, g2⟩, _, _⟩ := id hsv
    have e03 := e15.trans e3
    have hAl := asc_lstB hM.lt
    have ll : (lstB L).length ≤ 360 := by have := hAl.len; omega
    have stE : ∀ {σ : L2.St} {G : Hp}, σ[14]? = some (some (.ref x)) → Ex H3 G → Ev (tFld K (tVar 14) "starts") σ G (.ref gp) := fun h e => ev_fldQ (ev_var h) (e _ _ hx) T.cl_Fewest T.na_Fewest_starts rfl
    have trE : ∀ {σ : L2.St} {G : Hp}, σ[14]? = some (some (.ref x)) → Ex H3 G → Ev (tFld K (tVar 14) "tree") σ G tv := fun h e => ev_fldQ (ev_var h) (e _ _ hx) T.cl_Fewest T.na_Fewest_tree rfl
    try dsimp only
    refine at_st (σ' := [some (.ref a), some (.ref wp), some (.int (n : Int)), some (.int (m : Int)), some (.ref mp), some (.int z), some (.ref sp), none, none, some (.ref zp), none, none, some (.ref lp), some (.ref wq), some (.ref x), none, none, none]) rfl ?_
    try dsimp only
    refine q_skip (et_orF (et_notT (et_B (ev_isOwn (K := K) (ev_var (i := 14) rfl) fun H4 e4 => T.ty_Fewest H4 x dx _ (e4 _ _ hx)))) (et_notT (et_B (ev_isOwn (K := K) (stE rfl (Ex.refl _)) fun H4 e4 => T.ty_Lot H4 gp dg _ (e4 _ _ g1))))) fun H4 e4 => ?_
    try dsimp only
    refine q_asgL (el_mems (er_ev (stE rfl e4) fun G g => hsv.ex (e4.trans g))) fun stp H5 _ e5 hstp => ?_
    have e35 := e4.trans e5
    have lc := el_marks (K := K) (σ := [some (.ref a), some (.ref wp), some (.int (n : Int)), some (.int (m : Int)), some (.ref mp), some (.int z), some (.ref sp), none, none, some (.ref zp), none, none, some (.ref lp), some (.ref wq), some (.ref x), some (.ref stp), none, none]) (H := H5) (te := tVar 16) (tt := tTest (tOp (rIn K false) (tVar 16) (tVar 15))) (ta := tCons (tVar 2) tNil) (n := (n : Int)) (j := 16) (vs := [16]) (fun z => decide (z ∈ lstB L)) (ea_cons (ev_var (i := 2) rfl) ea_nil) (by omega) (fun x => rfl) (fun z H7 e7 _ _ => et_test (ev_op (ev_var (i := 16) rfl) (ev_var (i := 15) rfl) (rv_inI (sq_of (e7 _ _ hstp))))) (fun z H7 => ev_var (i := 16) rfl)
    rw [hrs_eq (by omega) hAl fun z _ _ => by simp] at lc
    try dsimp only
    refine q_skip (et_notT (et_B (ev_same (ed_tup (eds_cons (ed_int (ev_hours (stE rfl e35) (e35 _ _ g1) T.cl_Lot T.na_Lot_hours)) (eds_cons (ed_held (i := 15) rfl (sq_of hstp)) eds_nil)) (by show 2 ≤ 1000; decide)) (ed_tup (eds_cons (ed_int (ev_var (i := 2) rfl)) (eds_cons (ed_L lc) eds_nil)) (by show 2 ≤ 1000; decide))
      ⟨by show 2 ≤ 40000; decide, fun d hd => by
        rcases List.mem_cons.mp hd with rfl | hd
        · exact True.intro
        · rw [List.mem_singleton.mp hd]
          exact ⟨by rw [List.length_map]; omega, fun d hd => by
            obtain ⟨i, _, rfl⟩ := List.mem_map.mp hd
            exact True.intro⟩⟩))) fun H6 e6 => ?_
    have e36 := e35.trans e6
    have e06 := e03.trans e36
    clear lc
    try dsimp only
    refine q_skip (et_orF (et_notT (et_B (ev_same (ed_held (i := 13) rfl (sq_of ((e3.trans e36) _ _ hwq))) (ed_held (i := 9) rfl (sq_of (e06 _ _ hzp))) (flatI (by omega))))) (et_notT (et_B (ev_same ?_ (ed_rows (i := 6) rfl (hR.ex e06)) (flat_rows (by omega) xl))))) fun H8 e8 => ?_
    · refine EvR.imp (en_lc (n := ws.length) (fun g v G => ∃ p, v = .ref p ∧ G p = some (.lst ((xss.getD g []).map V.int))) (ei_list (eb_held (i := 12) rfl (sq_of (e06 _ _ hws)))) (by omega) bd_at (fun g _ => rfl) (fun g H8 hg e8 => ?_)).er fun v H8 q => ?_
      · obtain ⟨v, hv⟩ : ∃ v, ws[g]? = some v := ⟨_, List.getElem?_eq_getElem hg⟩
        exact en_L (el_mems (er_var (i := 17) (by rw [hv]; rfl) ((wa g v hv).ex (e06.trans e8))))
      · obtain ⟨p, vs, rfl, h1, h2, h3⟩ := q
        exact .lst (sq_of h1) (dp_rows vs xss (by omega) fun i v hv => (h3 i v hv).imp fun p h => ⟨h.1, sq_of h.2⟩)
    have e08 := e06.trans e8
    have e38 := e36.trans e8
    have hst8 := (e6.trans e8) _ _ hstp
    try dsimp only
    refine q_skip (et_notT (et_B (ev_call (vs := [.int (n : Int), .ref sp, .ref zp, .ref stp]) (ea_cons (ev_var (i := 2) rfl) (ea_cons (ev_var (i := 6) rfl) (ea_cons (ev_var (i := 9) rfl) (ea_cons (ev_var (i := 15) rfl) ea_nil)))) fun G g Q q E => ⟨sp, zp, stp, n, L, xss, nd', rfl, hR.ex (e08.trans g), sq_of ((e08.trans g) _ _ hzp), sh, sq_of (g _ _ hst8), hM.lt, hM.met, fun H' e' => q H' e'⟩))) fun H9 e9 => ?_
    have e09 := e08.trans e9
    have e39 := e38.trans e9
    have lenE : ∀ {σ : L2.St} {G : Hp}, σ[15]? = some (some (.ref stp)) → Ex H9 G → Ev (tCB (rLenK K) (tCons (tVar 15) tNil)) σ G (.int ((pc L : Nat) : Int)) := fun h e => ev_cb (ea_cons (ev_var h) ea_nil) fun H9 e9' Q q => ⟨.ref stp, pc L, rfl, .inl ⟨_, sq_of ((e9.trans (e.trans e9')) _ _ hst8), by rw [List.length_map, lstB_len]⟩, q H9 (Ex.refl H9)⟩
    try dsimp only
    refine q_when (b := decide (((pc L : Nat) : Int) = 0)) (et_test (ev_is (ev_op (lenE rfl (Ex.refl _)) ev_c (rv_eq rfl)) (by rw [dec_ii]))) (fun hc H10 e10 => ?_) (fun hc H10 e10 => ?_)
    · have hc := of_decide_eq_true hc
      have htn : tv = .non := by
        rcases htv with h | h
        · exact h.2
        · omega
      subst htn
      exact s_ret (v := .bl true) (ev_is (ev_op (trE rfl (e39.trans e10)) ev_c rv_isNone) (by simp)) fun H11 e11 => k H11
    · have hc := of_decide_eq_false hc
      have htt : TreeAt K H3 n xss nd' (pc L - 1) tv 0 0 := by
        rcases htv with h | h
        · exact absurd h.1 (by omega)
        · exact h.2
      exact s_ret (v := .bl true) (ev_call (vs := [.int (n : Int), .ref sp, .ref zp, tv, .int ((pc L - 1 : Nat) : Int)]) (ea_cons (ev_var (i := 2) rfl) (ea_cons (ev_var (i := 6) rfl) (ea_cons (ev_var (i := 9) rfl) (ea_cons (trE rfl (e39.trans e10)) (ea_cons (ev_is (ev_op (lenE rfl e10) ev_c rv_I0) (congrArg V.int (by omega))) ea_nil))))) fun H11 e11 Q q E => ⟨sp, zp, n, pc L - 1, tv, xss, nd', rfl, hR.ex ((e09.trans e10).trans e11), sq_of (((e09.trans e10).trans e11) _ _ hzp), sh, htt.keep (KT.ex ((e39.trans e10).trans e11)), fun H' e' => q H' e'⟩) fun H11 e11 => k H11
end

/-! ### what the top left, looked up -/
def reg (K : PySem.W.Frag) (C : Addr) (m : Str) : Addr := match PySem.W.findIn K (.ref C) m with
  | some (some (.ref a)) => a
  | _ => 0
/-- the def within a property or a class method -/
def within (K : PySem.W.Frag) (p : Addr) (T : String) : Addr := match PySem.W.recIn K p T with
  | some (.ref f :: _) => f
  | _ => 0
def withinB (K : PySem.W.Frag) (p : Addr) (T : String) : Bool := match PySem.W.recIn K p T with
  | some (.ref _ :: _) => true
  | _ => false
theorem within_ok {K : PySem.W.Frag} {p : Addr} {T : String} (h : withinB K p T = true) : ∃ rest, PySem.W.recIn K p T = some (.ref (within K p T) :: rest) := by
  unfold withinB at h
  unfold within
  split at h
  · rename_i f r e
    exact ⟨r, by rw [e]⟩
  · cases h
def oexB (K : PySem.W.Frag) (C : Addr) (bm : List Value) : Bool := match K.lookup C with
  | some ⟨.type "type", _, .cls cd, sl⟩ => (match sl.toList with
    | [_, _, _, _, some (.builtin n), _] => decide (n = "ValueError.__new__") && (!cd.hasDel && (cd.hasDict && decide (cd.mro = .ref C :: bm)))
    | _ => false)
  | _ => false
theorem oexB_ok {K : PySem.W.Frag} {C : Addr} {bm : List Value} (h : oexB K C bm = true) : ∃ nm q N bs sn sub ab col dd k0 k1 k2 k3 k5, K.lookup C = some (excClassObj nm q C N bs bm true sn sub ab col dd k0 k1 k2 k3 k5 "ValueError.__new__") := by
  unfold oexB at h
  split at h
  · rename_i dd cd sl ho
    split at h
    · rename_i k0 k1 k2 k3 n k5 hs
      rw [Bool.and_eq_true, Bool.and_eq_true, Bool.and_eq_true, decide_eq_true_iff, decide_eq_true_iff] at h
      obtain ⟨rfl, h1, h2, h3⟩ := h
      obtain ⟨nm, bs, mro, ns, qn, hd, sn, sub, ab, col, del⟩ := cd
      dsimp only at h1 h2 h3
      have h1' : del = false := by cases del <;> first | rfl | cases h1
      subst h1' h2 h3
      have hsl : sl = #[k0, k1, k2, k3, some (.builtin "ValueError.__new__"), k5] := by
        obtain ⟨l⟩ := sl
        simp only at hs
        rw [hs]
      subst hsl
      exact ⟨_, _, _, _, _, _, _, _, _, _, _, _, _, _, ho⟩
    · cases h
  · cases h
def cvalB (K : PySem.W.Frag) (C : Addr) (f : Str) (i : Int) : Bool := match PySem.W.findCls K (.ref C) (.type "type") f with
  | some (.val (.int j _)) => decide (j = i)
  | _ => false
theorem cvalB_ok {K : PySem.W.Frag} {C : Addr} {f : Str} {i : Int} (h : cvalB K C f i = true) : ∃ t, PySem.W.findCls K (.ref C) (.type "type") f = some (.val (.int i t)) := by
  unfold cvalB at h
  split at h
  · rename_i j t e
    rw [← of_decide_eq_true h]
    exact ⟨t, e⟩
  · cases h
def cmetB (K : PySem.W.Frag) (C p : Addr) (m : Str) : Bool := match PySem.W.findCls K (.ref C) (.type "type") m with
  | some (.get (.builtin g) (.ref p') .none (.ref D)) => decide (g = "classmethod.__get__") && (decide (p' = p) && decide (D = C))
  | _ => false
theorem cmetB_ok {K : PySem.W.Frag} {C p : Addr} {m : Str} (h : cmetB K C p m = true) : PySem.W.findCls K (.ref C) (.type "type") m = some (.get (.builtin "classmethod.__get__") (.ref p) .none (.ref C)) := by
  unfold cmetB at h
  split at h
  · rename_i g p' D e
    rw [Bool.and_eq_true, Bool.and_eq_true, decide_eq_true_iff, decide_eq_true_iff, decide_eq_true_iff] at h
    rw [e, h.1, h.2.1, h.2.2]
  · cases h
def mroB (K : PySem.W.Frag) (C : Addr) (l : List Value) : Bool := match PySem.W.clsIn K C with
  | some cd => decide (cd.mro = l)
  | none => false
theorem mroB_ok {K : PySem.W.Frag} {C : Addr} {l : List Value} (h : mroB K C l = true) : ∃ cd, PySem.W.clsIn K C = some cd ∧ cd.mro = l := by
  unfold mroB at h
  split at h
  · rename_i cd e
    exact ⟨cd, e, of_decide_eq_true h⟩
  · cases h
def intB (K : PySem.W.Frag) (x : Str) (i : Int) : Bool := match PySem.W.nsIn K mainGlobals x with
  | some (some (.int j _)) => decide (j = i)
  | _ => false
theorem intB_ok {K : PySem.W.Frag} {x : Str} {i : Int} (h : intB K x i = true) : ∃ t, PySem.W.nsIn K mainGlobals x = some (some (.int i t)) := by
  unfold intB at h
  split at h
  · rename_i j t e
    rw [← of_decide_eq_true h]
    exact ⟨t, e⟩
  · cases h
def strB (K : PySem.W.Frag) (x z : Str) : Bool := match PySem.W.nsIn K mainGlobals x with
  | some (some (.str y _)) => decide (y = z)
  | _ => false
theorem strB_ok {K : PySem.W.Frag} {x z : Str} (h : strB K x z = true) : ∃ t, PySem.W.nsIn K mainGlobals x = some (some (.str z t)) := by
  unfold strB at h
  split at h
  · rename_i j t e
    rw [← of_decide_eq_true h]
    exact ⟨t, e⟩
  · cases h
def allB (fs : List (PySem.W.Frag → Bool)) (ds : List He5.DefA) (K : PySem.W.Frag) : He.AlD := ((fs.all fun f => f K) && ds.all fun d => d.ok K, ds.map fun d => He5.fnA K (d.at_ K))
def topHook (n : Nat) (fs : List (PySem.W.Frag → Bool)) (ds : List He5.DefA) : PySem.W.Hook where
  α := He.AlD
  obs := fun s => allB fs ds (He.frG s.heap.get? (He5.asA s.heap.get? n))
  val := fun _ => He5.valA ds
  says := fun _ h => ∃ K : PySem.W.Frag, K.In h ∧ allB fs ds K = He5.valA ds
  of := fun _ _ e => ⟨_, He.frG_in, e⟩
  keeps := fun _ _ _ ⟨K, hK, c⟩ k => ⟨K, PySem.W.Frag.In.keeps hK k, c⟩
section
variable {fs : List (PySem.W.Frag → Bool)} {ds : List He5.DefA} {K : PySem.W.Frag}
theorem said (c : allB fs ds K = He5.valA ds) (i : Nat) {f : PySem.W.Frag → Bool} (h : fs[i]? = some f := by rfl) : f K = true :=
  List.all_eq_true.mp (Bool.and_eq_true_iff.mp (show ((fs.all fun f => f K) && ds.all fun d => d.ok K) = true from congrArg (fun z : He.AlD => z.1) c)).1 f (List.mem_of_getElem? h)
theorem stands (c : allB fs ds K = He5.valA ds) (i : Nat) {d : He5.DefA} (h : ds[i]? = some d := by rfl) : ∃ fd, FunD K d.name d.qual d.params d.body d.scope (d.dvs K) (d.kws K) (d.at_ K) fd := by
  have c2 := (Bool.and_eq_true_iff.mp (show ((fs.all fun f => f K) && ds.all fun d => d.ok K) = true from congrArg (fun z : He.AlD => z.1) c)).2
  have e : ds.map (fun d => He5.fnA K (d.at_ K)) = ds.map He5.DefA.val := congrArg (fun z : He.AlD => z.2) c
  have e2 : (ds.map fun d => He5.fnA K (d.at_ K))[i]? = (ds.map He5.DefA.val)[i]? := by rw [e]
  rw [List.getElem?_map, List.getElem?_map, h] at e2
  exact He5.DefA.funD (Option.some.inj e2) (List.all_eq_true.mp c2 d (List.mem_of_getElem? h))
end

abbrev cl_BadNumber (K : PySem.W.Frag) : Addr := He.ga K "BadNumber"
abbrev cl_TooMany (K : PySem.W.Frag) : Addr := He.ga K "TooMany"
abbrev cl_RepeatedHour (K : PySem.W.Frag) : Addr := He.ga K "RepeatedHour"
abbrev cl_WatchError (K : PySem.W.Frag) : Addr := He.ga K "WatchError"
abbrev cl_OtherHours (K : PySem.W.Frag) : Addr := He.ga K "OtherHours"
abbrev cl_WrongLength (K : PySem.W.Frag) : Addr := He.ga K "WrongLength"
abbrev cl_NotEnough (K : PySem.W.Frag) : Addr := He.ga K "NotEnough"
abbrev cl_Lot (K : PySem.W.Frag) : Addr := He.ga K "Lot"
abbrev cl_Fewest (K : PySem.W.Frag) : Addr := He.ga K "Fewest"
abbrev cl_Demand (K : PySem.W.Frag) : Addr := He.ga K "Demand"
abbrev ad0 (K : PySem.W.Frag) : Addr := reg K (cl_BadNumber K) "__init__"
abbrev ad1 (K : PySem.W.Frag) : Addr := reg K (cl_TooMany K) "__init__"
abbrev ad2 (K : PySem.W.Frag) : Addr := reg K (cl_RepeatedHour K) "__init__"
abbrev ad3 (K : PySem.W.Frag) : Addr := reg K (cl_WrongLength K) "__init__"
abbrev ad4 (K : PySem.W.Frag) : Addr := reg K (cl_NotEnough K) "__init__"
abbrev ad5 (K : PySem.W.Frag) : Addr := reg K (cl_Lot K) "__init__"
abbrev pr6 (K : PySem.W.Frag) : Addr := reg K (cl_Lot K) "members"
abbrev ad6 (K : PySem.W.Frag) : Addr := within K (pr6 K) "property"
abbrev ad7 (K : PySem.W.Frag) : Addr := reg K (cl_Lot K) "__iter__"
abbrev ad8 (K : PySem.W.Frag) : Addr := reg K (cl_Lot K) "__len__"
abbrev ad9 (K : PySem.W.Frag) : Addr := He.ga K "_check"
abbrev ad10 (K : PySem.W.Frag) : Addr := He.ga K "bits_of"
abbrev ad11 (K : PySem.W.Frag) : Addr := He.ga K "listed"
abbrev ad12 (K : PySem.W.Frag) : Addr := He.ga K "bit_counts"
abbrev ad13 (K : PySem.W.Frag) : Addr := reg K (cl_Fewest K) "__init__"
abbrev ad14 (K : PySem.W.Frag) : Addr := He.ga K "_starts_meeting"
abbrev ad15 (K : PySem.W.Frag) : Addr := reg K (cl_Demand K) "__init__"
abbrev ad16 (K : PySem.W.Frag) : Addr := reg K (cl_Demand K) "lacks"
abbrev ad17 (K : PySem.W.Frag) : Addr := reg K (cl_Demand K) "is_met"
abbrev ad18 (K : PySem.W.Frag) : Addr := He.ga K "_least_met"
abbrev ad19 (K : PySem.W.Frag) : Addr := He.ga K "_split"
abbrev ad20 (K : PySem.W.Frag) : Addr := He.ga K "_tree"
abbrev ad21 (K : PySem.W.Frag) : Addr := He.ga K "fewest_starts"
abbrev ad22 (K : PySem.W.Frag) : Addr := He.ga K "_law_cell"
abbrev ad23 (K : PySem.W.Frag) : Addr := He.ga K "_law_draws"
abbrev ad24 (K : PySem.W.Frag) : Addr := He.ga K "_law_two"
abbrev ad25 (K : PySem.W.Frag) : Addr := He.ga K "_law_bits"
abbrev ad26 (K : PySem.W.Frag) : Addr := He.ga K "_law_is_int"
abbrev ad27 (K : PySem.W.Frag) : Addr := He.ga K "_law_same"
abbrev ad28 (K : PySem.W.Frag) : Addr := He.ga K "_law_gate"
abbrev ad29 (K : PySem.W.Frag) : Addr := He.ga K "_law_lack"
abbrev ad30 (K : PySem.W.Frag) : Addr := He.ga K "_law_free"
abbrev ad31 (K : PySem.W.Frag) : Addr := He.ga K "_law_below"
abbrev ad32 (K : PySem.W.Frag) : Addr := He.ga K "_law_shows"
abbrev ad33 (K : PySem.W.Frag) : Addr := He.ga K "_law_meets_all"
abbrev ad34 (K : PySem.W.Frag) : Addr := He.ga K "law"
def theDefs : List He5.DefA := [
  ⟨ad0, "__init__", "BadNumber.__init__", defArgs s_BadNumber_init, defBody s_BadNumber_init, defScope s_BadNumber_init, [], []⟩,
  ⟨ad1, "__init__", "TooMany.__init__", defArgs s_TooMany_init, defBody s_TooMany_init, defScope s_TooMany_init, [], []⟩,
  ⟨ad2, "__init__", "RepeatedHour.__init__", defArgs s_RepeatedHour_init, defBody s_RepeatedHour_init, defScope s_RepeatedHour_init, [], []⟩,
  ⟨ad3, "__init__", "WrongLength.__init__", defArgs s_WrongLength_init, defBody s_WrongLength_init, defScope s_WrongLength_init, [], []⟩,
  ⟨ad4, "__init__", "NotEnough.__init__", defArgs s_NotEnough_init, defBody s_NotEnough_init, defScope s_NotEnough_init, [], []⟩,
  ⟨ad5, "__init__", "Lot.__init__", defArgs s_Lot_init, defBody s_Lot_init, defScope s_Lot_init, [], []⟩,
  ⟨ad6, "members", "Lot.members", defArgs s_Lot_members, defBody s_Lot_members, defScope s_Lot_members, [], []⟩,
  ⟨ad7, "__iter__", "Lot.__iter__", defArgs s_Lot_iter, defBody s_Lot_iter, defScope s_Lot_iter, [], []⟩,
  ⟨ad8, "__len__", "Lot.__len__", defArgs s_Lot_len, defBody s_Lot_len, defScope s_Lot_len, [], []⟩,
  ⟨ad9, "_check", "_check", defArgs s_u_check, defBody s_u_check, defScope s_u_check, [], []⟩,
  ⟨ad10, "bits_of", "bits_of", defArgs s_bits_of, defBody s_bits_of, defScope s_bits_of, [], []⟩,
  ⟨ad11, "listed", "listed", defArgs s_listed, defBody s_listed, defScope s_listed, [], []⟩,
  ⟨ad12, "bit_counts", "bit_counts", defArgs s_bit_counts, defBody s_bit_counts, defScope s_bit_counts, [], []⟩,
  ⟨ad13, "__init__", "Fewest.__init__", defArgs s_Fewest_init, defBody s_Fewest_init, defScope s_Fewest_init, [], []⟩,
  ⟨ad14, "_starts_meeting", "_starts_meeting", defArgs s_u_starts_meeting, defBody s_u_starts_meeting, defScope s_u_starts_meeting, [], []⟩,
  ⟨ad15, "__init__", "Demand.__init__", defArgs s_Demand_init, defBody s_Demand_init, defScope s_Demand_init, [], []⟩,
  ⟨ad16, "lacks", "Demand.lacks", defArgs s_Demand_lacks, defBody s_Demand_lacks, defScope s_Demand_lacks, [], []⟩,
  ⟨ad17, "is_met", "Demand.is_met", defArgs s_Demand_is_met, defBody s_Demand_is_met, defScope s_Demand_is_met, [], []⟩,
  ⟨ad18, "_least_met", "_least_met", defArgs s_u_least_met, defBody s_u_least_met, defScope s_u_least_met, [], []⟩,
  ⟨ad19, "_split", "_split", defArgs s_u_split, defBody s_u_split, defScope s_u_split, [], []⟩,
  ⟨ad20, "_tree", "_tree", defArgs s_u_tree, defBody s_u_tree, defScope s_u_tree, [], []⟩,
  ⟨ad21, "fewest_starts", "fewest_starts", defArgs s_fewest_starts, defBody s_fewest_starts, defScope s_fewest_starts, [], []⟩,
  ⟨ad22, "_law_cell", "_law_cell", defArgs s_u_law_cell, defBody s_u_law_cell, defScope s_u_law_cell, [], []⟩,
  ⟨ad23, "_law_draws", "_law_draws", defArgs s_u_law_draws, defBody s_u_law_draws, defScope s_u_law_draws, [], []⟩,
  ⟨ad24, "_law_two", "_law_two", defArgs s_u_law_two, defBody s_u_law_two, defScope s_u_law_two, [], []⟩,
  ⟨ad25, "_law_bits", "_law_bits", defArgs s_u_law_bits, defBody s_u_law_bits, defScope s_u_law_bits, [], []⟩,
  ⟨ad26, "_law_is_int", "_law_is_int", defArgs s_u_law_is_int, defBody s_u_law_is_int, defScope s_u_law_is_int, [], []⟩,
  ⟨ad27, "_law_same", "_law_same", defArgs s_u_law_same, defBody s_u_law_same, defScope s_u_law_same, [], []⟩,
  ⟨ad28, "_law_gate", "_law_gate", defArgs s_u_law_gate, defBody s_u_law_gate, defScope s_u_law_gate, [], []⟩,
  ⟨ad29, "_law_lack", "_law_lack", defArgs s_u_law_lack, defBody s_u_law_lack, defScope s_u_law_lack, [], []⟩,
  ⟨ad30, "_law_free", "_law_free", defArgs s_u_law_free, defBody s_u_law_free, defScope s_u_law_free, [], []⟩,
  ⟨ad31, "_law_below", "_law_below", defArgs s_u_law_below, defBody s_u_law_below, defScope s_u_law_below, [], []⟩,
  ⟨ad32, "_law_shows", "_law_shows", defArgs s_u_law_shows, defBody s_u_law_shows, defScope s_u_law_shows, [], []⟩,
  ⟨ad33, "_law_meets_all", "_law_meets_all", defArgs s_u_law_meets_all, defBody s_u_law_meets_all, defScope s_u_law_meets_all, [], []⟩,
  ⟨ad34, "law", "law", defArgs s_law, defBody s_law, defScope s_law, [], []⟩]
def facts0 : List (PySem.W.Frag → Bool) := [
  fun K => decide (PySem.W.nsIn K mainGlobals "BadNumber" = some (some (.ref (cl_BadNumber K)))),
  fun K => decide (PySem.W.nsIn K mainGlobals "TooMany" = some (some (.ref (cl_TooMany K)))),
  fun K => decide (PySem.W.nsIn K mainGlobals "RepeatedHour" = some (some (.ref (cl_RepeatedHour K)))),
  fun K => decide (PySem.W.nsIn K mainGlobals "WatchError" = some (some (.ref (cl_WatchError K)))),
  fun K => decide (PySem.W.nsIn K mainGlobals "OtherHours" = some (some (.ref (cl_OtherHours K)))),
  fun K => decide (PySem.W.nsIn K mainGlobals "WrongLength" = some (some (.ref (cl_WrongLength K)))),
  fun K => decide (PySem.W.nsIn K mainGlobals "NotEnough" = some (some (.ref (cl_NotEnough K)))),
  fun K => decide (PySem.W.nsIn K mainGlobals "Lot" = some (some (.ref (cl_Lot K)))),
  fun K => decide (PySem.W.nsIn K mainGlobals "Fewest" = some (some (.ref (cl_Fewest K)))),
  fun K => decide (PySem.W.nsIn K mainGlobals "Demand" = some (some (.ref (cl_Demand K)))),
  fun K => decide (PySem.W.findIn K (.ref (cl_BadNumber K)) "__init__" = some (some (.ref (ad0 K)))),
  fun K => decide (PySem.W.findIn K (.ref (cl_TooMany K)) "__init__" = some (some (.ref (ad1 K)))),
  fun K => decide (PySem.W.findIn K (.ref (cl_RepeatedHour K)) "__init__" = some (some (.ref (ad2 K)))),
  fun K => decide (PySem.W.findIn K (.ref (cl_WrongLength K)) "__init__" = some (some (.ref (ad3 K)))),
  fun K => decide (PySem.W.findIn K (.ref (cl_NotEnough K)) "__init__" = some (some (.ref (ad4 K)))),
  fun K => decide (PySem.W.findIn K (.ref (cl_Lot K)) "__init__" = some (some (.ref (ad5 K)))),
  fun K => decide (PySem.W.findIn K (.ref (cl_Lot K)) "members" = some (some (.ref (pr6 K)))),
  fun K => withinB K (pr6 K) "property",
  fun K => decide (PySem.W.findIn K (.ref (cl_Lot K)) "__iter__" = some (some (.ref (ad7 K)))),
  fun K => decide (PySem.W.findIn K (.ref (cl_Lot K)) "__len__" = some (some (.ref (ad8 K)))),
  fun K => decide (PySem.W.nsIn K mainGlobals "_check" = some (some (.ref (ad9 K)))),
  fun K => decide (PySem.W.nsIn K mainGlobals "bits_of" = some (some (.ref (ad10 K)))),
  fun K => decide (PySem.W.nsIn K mainGlobals "listed" = some (some (.ref (ad11 K)))),
  fun K => decide (PySem.W.nsIn K mainGlobals "bit_counts" = some (some (.ref (ad12 K))))]
def facts1 : List (PySem.W.Frag → Bool) := [
  fun K => decide (PySem.W.findIn K (.ref (cl_Fewest K)) "__init__" = some (some (.ref (ad13 K)))),
  fun K => decide (PySem.W.nsIn K mainGlobals "_starts_meeting" = some (some (.ref (ad14 K)))),
  fun K => decide (PySem.W.findIn K (.ref (cl_Demand K)) "__init__" = some (some (.ref (ad15 K)))),
  fun K => decide (PySem.W.findIn K (.ref (cl_Demand K)) "lacks" = some (some (.ref (ad16 K)))),
  fun K => decide (PySem.W.findIn K (.ref (cl_Demand K)) "is_met" = some (some (.ref (ad17 K)))),
  fun K => decide (PySem.W.nsIn K mainGlobals "_least_met" = some (some (.ref (ad18 K)))),
  fun K => decide (PySem.W.nsIn K mainGlobals "_split" = some (some (.ref (ad19 K)))),
  fun K => decide (PySem.W.nsIn K mainGlobals "_tree" = some (some (.ref (ad20 K)))),
  fun K => decide (PySem.W.nsIn K mainGlobals "fewest_starts" = some (some (.ref (ad21 K)))),
  fun K => decide (PySem.W.nsIn K mainGlobals "_law_cell" = some (some (.ref (ad22 K)))),
  fun K => decide (PySem.W.nsIn K mainGlobals "_law_draws" = some (some (.ref (ad23 K)))),
  fun K => decide (PySem.W.nsIn K mainGlobals "_law_two" = some (some (.ref (ad24 K)))),
  fun K => decide (PySem.W.nsIn K mainGlobals "_law_bits" = some (some (.ref (ad25 K)))),
  fun K => decide (PySem.W.nsIn K mainGlobals "_law_is_int" = some (some (.ref (ad26 K)))),
  fun K => decide (PySem.W.nsIn K mainGlobals "_law_same" = some (some (.ref (ad27 K)))),
  fun K => decide (PySem.W.nsIn K mainGlobals "_law_gate" = some (some (.ref (ad28 K)))),
  fun K => decide (PySem.W.nsIn K mainGlobals "_law_lack" = some (some (.ref (ad29 K)))),
  fun K => decide (PySem.W.nsIn K mainGlobals "_law_free" = some (some (.ref (ad30 K)))),
  fun K => decide (PySem.W.nsIn K mainGlobals "_law_below" = some (some (.ref (ad31 K)))),
  fun K => decide (PySem.W.nsIn K mainGlobals "_law_shows" = some (some (.ref (ad32 K)))),
  fun K => decide (PySem.W.nsIn K mainGlobals "_law_meets_all" = some (some (.ref (ad33 K)))),
  fun K => decide (PySem.W.nsIn K mainGlobals "law" = some (some (.ref (ad34 K)))),
  fun K => intB K "_MOST_LOTS" 4,
  fun K => intB K "_MOST_HOURS" 12]
def facts2 : List (PySem.W.Frag → Bool) := [
  fun K => intB K "_MOST_NEED" 3,
  fun K => decide (PySem.W.nsIn K mainGlobals "abs" = some none),
  fun K => decide (PySem.W.nsIn K mainGlobals "len" = some none),
  fun K => decide (PySem.W.nsIn K mainGlobals "int" = some none),
  fun K => decide (PySem.W.nsIn K mainGlobals "bool" = some none),
  fun K => decide (PySem.W.nsIn K mainGlobals "str" = some none),
  fun K => decide (PySem.W.nsIn K mainGlobals "list" = some none),
  fun K => decide (PySem.W.nsIn K mainGlobals "tuple" = some none),
  fun K => decide (PySem.W.nsIn K mainGlobals "isinstance" = some none),
  fun K => decide (PySem.W.nsIn K mainGlobals "range" = some none),
  fun K => decide (PySem.W.nsIn K mainGlobals "ValueError" = some none),
  fun K => decide (PySem.W.nsIn K mainGlobals "iter" = some none),
  fun K => decide (PySem.W.nsIn K mainGlobals "min" = some none),
  fun K => decide (PySem.W.nsIn K mainGlobals "max" = some none),
  fun K => decide (PySem.W.nsIn K mainGlobals "all" = some none),
  fun K => decide (PySem.W.nsIn K mainGlobals "sum" = some none),
  fun K => decide (PySem.W.nsIn K mainGlobals "enumerate" = some none),
  fun K => decide (PySem.W.subIn K (.ref (cl_BadNumber K)) (.type "BaseException") = some true),
  fun K => decide (PySem.W.hasDictIn K (cl_BadNumber K) = true),
  fun K => decide (PySem.W.typeIn K (.ref (cl_BadNumber K)) = some (.type "type")),
  fun K => decide (PySem.W.subIn K (.ref (cl_BadNumber K)) (.ref (cl_BadNumber K)) = some true),
  fun K => oexB K (cl_BadNumber K) [.ref (cl_WatchError K), .type "ValueError", .type "Exception", .type "BaseException", .type "object"],
  fun K => decide (PySem.W.findIn K (.ref (cl_BadNumber K)) "__setattr__" = some (some (.builtin "object.__setattr__"))),
  fun K => decide (PySem.W.keepIn K (.ref (cl_BadNumber K)) = true)]
def facts3 : List (PySem.W.Frag → Bool) := [
  fun K => decide (PySem.W.typeIn K (.ref (ad0 K)) = some (.type "function")),
  fun K => decide (PySem.W.findIn K (.ref (cl_BadNumber K)) "__getattribute__" = some (some (.builtin "BaseException.__getattribute__"))),
  fun K => decide (PySem.W.findIn K (.ref (cl_BadNumber K)) "__getattr__" = some none),
  fun K => decide (PySem.W.findIn K (.ref (cl_BadNumber K)) "__class__" = some (some (.builtin "object.__class__"))),
  fun K => decide (PySem.W.specialIn K (.builtin "object.__class__") "__get__" = some (some (.builtin "getset_descriptor.__get__"))),
  fun K => decide (PySem.W.takesIn K (.builtin "object.__class__") = some true),
  fun K => decide (PySem.W.mroIn K (cl_BadNumber K) (.type "object") = some true),
  fun K => decide (PySem.W.findIn K (.ref (cl_BadNumber K)) "name" = some none),
  fun K => decide (PySem.W.findIn K (.ref (cl_BadNumber K)) "value" = some none),
  fun K => decide (PySem.W.subIn K (.ref (cl_TooMany K)) (.type "BaseException") = some true),
  fun K => decide (PySem.W.hasDictIn K (cl_TooMany K) = true),
  fun K => decide (PySem.W.typeIn K (.ref (cl_TooMany K)) = some (.type "type")),
  fun K => decide (PySem.W.subIn K (.ref (cl_TooMany K)) (.ref (cl_TooMany K)) = some true),
  fun K => oexB K (cl_TooMany K) [.ref (cl_WatchError K), .type "ValueError", .type "Exception", .type "BaseException", .type "object"],
  fun K => decide (PySem.W.findIn K (.ref (cl_TooMany K)) "__setattr__" = some (some (.builtin "object.__setattr__"))),
  fun K => decide (PySem.W.keepIn K (.ref (cl_TooMany K)) = true),
  fun K => decide (PySem.W.typeIn K (.ref (ad1 K)) = some (.type "function")),
  fun K => decide (PySem.W.findIn K (.ref (cl_TooMany K)) "__getattribute__" = some (some (.builtin "BaseException.__getattribute__"))),
  fun K => decide (PySem.W.findIn K (.ref (cl_TooMany K)) "__getattr__" = some none),
  fun K => decide (PySem.W.findIn K (.ref (cl_TooMany K)) "__class__" = some (some (.builtin "object.__class__"))),
  fun K => decide (PySem.W.mroIn K (cl_TooMany K) (.type "object") = some true),
  fun K => decide (PySem.W.findIn K (.ref (cl_TooMany K)) "name" = some none),
  fun K => decide (PySem.W.findIn K (.ref (cl_TooMany K)) "most" = some none),
  fun K => decide (PySem.W.subIn K (.ref (cl_RepeatedHour K)) (.type "BaseException") = some true)]
def facts4 : List (PySem.W.Frag → Bool) := [
  fun K => decide (PySem.W.hasDictIn K (cl_RepeatedHour K) = true),
  fun K => decide (PySem.W.typeIn K (.ref (cl_RepeatedHour K)) = some (.type "type")),
  fun K => decide (PySem.W.subIn K (.ref (cl_RepeatedHour K)) (.ref (cl_RepeatedHour K)) = some true),
  fun K => oexB K (cl_RepeatedHour K) [.ref (cl_WatchError K), .type "ValueError", .type "Exception", .type "BaseException", .type "object"],
  fun K => decide (PySem.W.findIn K (.ref (cl_RepeatedHour K)) "__setattr__" = some (some (.builtin "object.__setattr__"))),
  fun K => decide (PySem.W.keepIn K (.ref (cl_RepeatedHour K)) = true),
  fun K => decide (PySem.W.typeIn K (.ref (ad2 K)) = some (.type "function")),
  fun K => decide (PySem.W.findIn K (.ref (cl_RepeatedHour K)) "__getattribute__" = some (some (.builtin "BaseException.__getattribute__"))),
  fun K => decide (PySem.W.findIn K (.ref (cl_RepeatedHour K)) "__getattr__" = some none),
  fun K => decide (PySem.W.findIn K (.ref (cl_RepeatedHour K)) "__class__" = some (some (.builtin "object.__class__"))),
  fun K => decide (PySem.W.mroIn K (cl_RepeatedHour K) (.type "object") = some true),
  fun K => decide (PySem.W.findIn K (.ref (cl_RepeatedHour K)) "hour" = some none),
  fun K => decide (PySem.W.subIn K (.ref (cl_WrongLength K)) (.type "BaseException") = some true),
  fun K => decide (PySem.W.hasDictIn K (cl_WrongLength K) = true),
  fun K => decide (PySem.W.typeIn K (.ref (cl_WrongLength K)) = some (.type "type")),
  fun K => decide (PySem.W.subIn K (.ref (cl_WrongLength K)) (.ref (cl_WrongLength K)) = some true),
  fun K => oexB K (cl_WrongLength K) [.ref (cl_WatchError K), .type "ValueError", .type "Exception", .type "BaseException", .type "object"],
  fun K => decide (PySem.W.findIn K (.ref (cl_WrongLength K)) "__setattr__" = some (some (.builtin "object.__setattr__"))),
  fun K => decide (PySem.W.keepIn K (.ref (cl_WrongLength K)) = true),
  fun K => decide (PySem.W.typeIn K (.ref (ad3 K)) = some (.type "function")),
  fun K => decide (PySem.W.findIn K (.ref (cl_WrongLength K)) "__getattribute__" = some (some (.builtin "BaseException.__getattribute__"))),
  fun K => decide (PySem.W.findIn K (.ref (cl_WrongLength K)) "__getattr__" = some none),
  fun K => decide (PySem.W.findIn K (.ref (cl_WrongLength K)) "__class__" = some (some (.builtin "object.__class__"))),
  fun K => decide (PySem.W.mroIn K (cl_WrongLength K) (.type "object") = some true)]
def facts5 : List (PySem.W.Frag → Bool) := [
  fun K => decide (PySem.W.findIn K (.ref (cl_WrongLength K)) "length" = some none),
  fun K => decide (PySem.W.subIn K (.ref (cl_NotEnough K)) (.type "BaseException") = some true),
  fun K => decide (PySem.W.hasDictIn K (cl_NotEnough K) = true),
  fun K => decide (PySem.W.typeIn K (.ref (cl_NotEnough K)) = some (.type "type")),
  fun K => decide (PySem.W.subIn K (.ref (cl_NotEnough K)) (.ref (cl_NotEnough K)) = some true),
  fun K => oexB K (cl_NotEnough K) [.ref (cl_WatchError K), .type "ValueError", .type "Exception", .type "BaseException", .type "object"],
  fun K => decide (PySem.W.findIn K (.ref (cl_NotEnough K)) "__setattr__" = some (some (.builtin "object.__setattr__"))),
  fun K => decide (PySem.W.keepIn K (.ref (cl_NotEnough K)) = true),
  fun K => decide (PySem.W.typeIn K (.ref (ad4 K)) = some (.type "function")),
  fun K => decide (PySem.W.findIn K (.ref (cl_NotEnough K)) "__getattribute__" = some (some (.builtin "BaseException.__getattribute__"))),
  fun K => decide (PySem.W.findIn K (.ref (cl_NotEnough K)) "__getattr__" = some none),
  fun K => decide (PySem.W.findIn K (.ref (cl_NotEnough K)) "__class__" = some (some (.builtin "object.__class__"))),
  fun K => decide (PySem.W.mroIn K (cl_NotEnough K) (.type "object") = some true),
  fun K => decide (PySem.W.findIn K (.ref (cl_NotEnough K)) "index" = some none),
  fun K => decide (PySem.W.subIn K (.ref (cl_OtherHours K)) (.type "BaseException") = some true),
  fun K => decide (PySem.W.hasDictIn K (cl_OtherHours K) = true),
  fun K => decide (PySem.W.typeIn K (.ref (cl_OtherHours K)) = some (.type "type")),
  fun K => decide (PySem.W.subIn K (.ref (cl_OtherHours K)) (.ref (cl_OtherHours K)) = some true),
  fun K => decide (PySem.W.excIn K (cl_OtherHours K) [.type "ValueError", .type "Exception", .type "BaseException", .type "object"] "ValueError.__new__" = true),
  fun K => decide (PySem.W.keepIn K (.ref (cl_OtherHours K)) = true),
  fun K => decide (PySem.W.findIn K (.ref (cl_OtherHours K)) "__getattribute__" = some (some (.builtin "BaseException.__getattribute__"))),
  fun K => decide (PySem.W.findIn K (.ref (cl_OtherHours K)) "__getattr__" = some none),
  fun K => decide (PySem.W.findIn K (.ref (cl_OtherHours K)) "__class__" = some (some (.builtin "object.__class__"))),
  fun K => decide (PySem.W.mroIn K (cl_OtherHours K) (.type "object") = some true)]
def facts6 : List (PySem.W.Frag → Bool) := [
  fun K => decide (PySem.W.plainGet K (cl_Lot K) Str.empty = true),
  fun K => decide (PySem.W.hasDictIn K (cl_Lot K) = true),
  fun K => decide (PySem.W.plainOver K (cl_Lot K) = true),
  fun K => decide (PySem.W.findIn K (.ref (cl_Lot K)) "__setattr__" = some (some (.builtin "object.__setattr__"))),
  fun K => decide (PySem.W.makesIn K (cl_Lot K) = true),
  fun K => decide (PySem.W.keepIn K (.ref (cl_Lot K)) = true),
  fun K => decide (PySem.W.isFn K (.ref (ad5 K)) = true),
  fun K => decide (PySem.W.findIn K (.ref (cl_Lot K)) "hours" = some none),
  fun K => decide (PySem.W.findIn K (.ref (cl_Lot K)) "_members" = some none),
  fun K => decide (PySem.W.findIn K (.ref (cl_Lot K)) "__class__" = some (some (.builtin "object.__class__"))),
  fun K => decide (PySem.W.mroIn K (cl_Lot K) (.type "object") = some true),
  fun K => decide (PySem.W.readsIn K (cl_Lot K) (.type "type") = true),
  fun K => decide (PySem.W.specialIn K (.ref (cl_Lot K)) "__getattribute__" = some (some (.builtin "type.__getattribute__"))),
  fun K => cvalB K (cl_Lot K) "MOST" 360,
  fun K => decide (PySem.W.plainGet K (cl_Fewest K) Str.empty = true),
  fun K => decide (PySem.W.hasDictIn K (cl_Fewest K) = true),
  fun K => decide (PySem.W.plainOver K (cl_Fewest K) = true),
  fun K => decide (PySem.W.findIn K (.ref (cl_Fewest K)) "__setattr__" = some (some (.builtin "object.__setattr__"))),
  fun K => decide (PySem.W.makesIn K (cl_Fewest K) = true),
  fun K => decide (PySem.W.keepIn K (.ref (cl_Fewest K)) = true),
  fun K => decide (PySem.W.isFn K (.ref (ad13 K)) = true),
  fun K => decide (PySem.W.findIn K (.ref (cl_Fewest K)) "starts" = some none),
  fun K => decide (PySem.W.findIn K (.ref (cl_Fewest K)) "tree" = some none),
  fun K => decide (PySem.W.findIn K (.ref (cl_Fewest K)) "__class__" = some (some (.builtin "object.__class__")))]
def facts7 : List (PySem.W.Frag → Bool) := [
  fun K => decide (PySem.W.mroIn K (cl_Fewest K) (.type "object") = some true),
  fun K => decide (PySem.W.plainGet K (cl_Demand K) Str.empty = true),
  fun K => decide (PySem.W.hasDictIn K (cl_Demand K) = true),
  fun K => decide (PySem.W.plainOver K (cl_Demand K) = true),
  fun K => decide (PySem.W.findIn K (.ref (cl_Demand K)) "__setattr__" = some (some (.builtin "object.__setattr__"))),
  fun K => decide (PySem.W.makesIn K (cl_Demand K) = true),
  fun K => decide (PySem.W.keepIn K (.ref (cl_Demand K)) = true),
  fun K => decide (PySem.W.isFn K (.ref (ad15 K)) = true),
  fun K => decide (PySem.W.findIn K (.ref (cl_Demand K)) "hours" = some none),
  fun K => decide (PySem.W.findIn K (.ref (cl_Demand K)) "needs" = some none),
  fun K => decide (PySem.W.findIn K (.ref (cl_Demand K)) "sizes" = some none),
  fun K => decide (PySem.W.findIn K (.ref (cl_Demand K)) "meeting" = some none),
  fun K => decide (PySem.W.findIn K (.ref (cl_Demand K)) "counted" = some none),
  fun K => decide (PySem.W.specialIn K (.ref (pr6 K)) "__get__" = some (some (.builtin "property.__get__"))),
  fun K => decide (PySem.W.takesIn K (.ref (pr6 K)) = some true),
  fun K => decide (PySem.W.isFn K (.ref (ad7 K)) = true),
  fun K => decide (PySem.W.isFn K (.ref (ad8 K)) = true),
  fun K => decide (PySem.W.isFn K (.ref (ad16 K)) = true),
  fun K => decide (PySem.W.isFn K (.ref (ad17 K)) = true)]
def theFacts : List (PySem.W.Frag → Bool) := facts0 ++ (facts1 ++ (facts2 ++ (facts3 ++ (facts4 ++ (facts5 ++ (facts6 ++ (facts7)))))))
theorem all_ok {l : PySem.W.OpenLaw} {w : World} {K : PySem.W.Frag} {h : Heap} {mg : Str → Option Value} {fa : Addr} (c : allB theFacts theDefs K = He5.valA theDefs) (X : K.In h) (G : h.Ns mainGlobals mg) (hfa : mg "law" = some (.ref fa)) :
    ∃ fd : FuncData, (∀ (s : Shared) (v : Value), BindsTo s fd ⟨[v], []⟩ [("script", v)]) ∧ ∀ base : Heap, K.In base → base.Ns mainGlobals mg → FnOk l.prog w K mg base CX0 36 fa fd ["script"] ((spLaw K)) := by
  have g_BadNumber : PySem.W.nsIn K mainGlobals "BadNumber" = some (some (.ref (cl_BadNumber K))) := of_decide_eq_true (said c 0)
  have g_TooMany : PySem.W.nsIn K mainGlobals "TooMany" = some (some (.ref (cl_TooMany K))) := of_decide_eq_true (said c 1)
  have g_RepeatedHour : PySem.W.nsIn K mainGlobals "RepeatedHour" = some (some (.ref (cl_RepeatedHour K))) := of_decide_eq_true (said c 2)
  have g_WatchError : PySem.W.nsIn K mainGlobals "WatchError" = some (some (.ref (cl_WatchError K))) := of_decide_eq_true (said c 3)
  have g_OtherHours : PySem.W.nsIn K mainGlobals "OtherHours" = some (some (.ref (cl_OtherHours K))) := of_decide_eq_true (said c 4)
  have g_WrongLength : PySem.W.nsIn K mainGlobals "WrongLength" = some (some (.ref (cl_WrongLength K))) := of_decide_eq_true (said c 5)
  have g_NotEnough : PySem.W.nsIn K mainGlobals "NotEnough" = some (some (.ref (cl_NotEnough K))) := of_decide_eq_true (said c 6)
  have g_Lot : PySem.W.nsIn K mainGlobals "Lot" = some (some (.ref (cl_Lot K))) := of_decide_eq_true (said c 7)
  have g_Fewest : PySem.W.nsIn K mainGlobals "Fewest" = some (some (.ref (cl_Fewest K))) := of_decide_eq_true (said c 8)
  have g_Demand : PySem.W.nsIn K mainGlobals "Demand" = some (some (.ref (cl_Demand K))) := of_decide_eq_true (said c 9)
  have a0 : PySem.W.findIn K (.ref (cl_BadNumber K)) "__init__" = some (some (.ref (ad0 K))) := of_decide_eq_true (said c 10)
  have a1 : PySem.W.findIn K (.ref (cl_TooMany K)) "__init__" = some (some (.ref (ad1 K))) := of_decide_eq_true (said c 11)
  have a2 : PySem.W.findIn K (.ref (cl_RepeatedHour K)) "__init__" = some (some (.ref (ad2 K))) := of_decide_eq_true (said c 12)
  have a3 : PySem.W.findIn K (.ref (cl_WrongLength K)) "__init__" = some (some (.ref (ad3 K))) := of_decide_eq_true (said c 13)
  have a4 : PySem.W.findIn K (.ref (cl_NotEnough K)) "__init__" = some (some (.ref (ad4 K))) := of_decide_eq_true (said c 14)
  have a5 : PySem.W.findIn K (.ref (cl_Lot K)) "__init__" = some (some (.ref (ad5 K))) := of_decide_eq_true (said c 15)
  have pa_6 : PySem.W.findIn K (.ref (cl_Lot K)) "members" = some (some (.ref (pr6 K))) := of_decide_eq_true (said c 16)
  obtain ⟨rest6, a6⟩ := within_ok (said c 17)
  have a7 : PySem.W.findIn K (.ref (cl_Lot K)) "__iter__" = some (some (.ref (ad7 K))) := of_decide_eq_true (said c 18)
  have a8 : PySem.W.findIn K (.ref (cl_Lot K)) "__len__" = some (some (.ref (ad8 K))) := of_decide_eq_true (said c 19)
  have a9 : PySem.W.nsIn K mainGlobals "_check" = some (some (.ref (ad9 K))) := of_decide_eq_true (said c 20)
  have a10 : PySem.W.nsIn K mainGlobals "bits_of" = some (some (.ref (ad10 K))) := of_decide_eq_true (said c 21)
  have a11 : PySem.W.nsIn K mainGlobals "listed" = some (some (.ref (ad11 K))) := of_decide_eq_true (said c 22)
  have a12 : PySem.W.nsIn K mainGlobals "bit_counts" = some (some (.ref (ad12 K))) := of_decide_eq_true (said c 23)
  have a13 : PySem.W.findIn K (.ref (cl_Fewest K)) "__init__" = some (some (.ref (ad13 K))) := of_decide_eq_true (said c 24)
  have a14 : PySem.W.nsIn K mainGlobals "_starts_meeting" = some (some (.ref (ad14 K))) := of_decide_eq_true (said c 25)
  have a15 : PySem.W.findIn K (.ref (cl_Demand K)) "__init__" = some (some (.ref (ad15 K))) := of_decide_eq_true (said c 26)
  have a16 : PySem.W.findIn K (.ref (cl_Demand K)) "lacks" = some (some (.ref (ad16 K))) := of_decide_eq_true (said c 27)
  have a17 : PySem.W.findIn K (.ref (cl_Demand K)) "is_met" = some (some (.ref (ad17 K))) := of_decide_eq_true (said c 28)
  have a18 : PySem.W.nsIn K mainGlobals "_least_met" = some (some (.ref (ad18 K))) := of_decide_eq_true (said c 29)
  have a19 : PySem.W.nsIn K mainGlobals "_split" = some (some (.ref (ad19 K))) := of_decide_eq_true (said c 30)
  have a20 : PySem.W.nsIn K mainGlobals "_tree" = some (some (.ref (ad20 K))) := of_decide_eq_true (said c 31)
  have a21 : PySem.W.nsIn K mainGlobals "fewest_starts" = some (some (.ref (ad21 K))) := of_decide_eq_true (said c 32)
  have a22 : PySem.W.nsIn K mainGlobals "_law_cell" = some (some (.ref (ad22 K))) := of_decide_eq_true (said c 33)
  have a23 : PySem.W.nsIn K mainGlobals "_law_draws" = some (some (.ref (ad23 K))) := of_decide_eq_true (said c 34)
  have a24 : PySem.W.nsIn K mainGlobals "_law_two" = some (some (.ref (ad24 K))) := of_decide_eq_true (said c 35)
  have a25 : PySem.W.nsIn K mainGlobals "_law_bits" = some (some (.ref (ad25 K))) := of_decide_eq_true (said c 36)
  have a26 : PySem.W.nsIn K mainGlobals "_law_is_int" = some (some (.ref (ad26 K))) := of_decide_eq_true (said c 37)
  have a27 : PySem.W.nsIn K mainGlobals "_law_same" = some (some (.ref (ad27 K))) := of_decide_eq_true (said c 38)
  have a28 : PySem.W.nsIn K mainGlobals "_law_gate" = some (some (.ref (ad28 K))) := of_decide_eq_true (said c 39)
  have a29 : PySem.W.nsIn K mainGlobals "_law_lack" = some (some (.ref (ad29 K))) := of_decide_eq_true (said c 40)
  have a30 : PySem.W.nsIn K mainGlobals "_law_free" = some (some (.ref (ad30 K))) := of_decide_eq_true (said c 41)
  have a31 : PySem.W.nsIn K mainGlobals "_law_below" = some (some (.ref (ad31 K))) := of_decide_eq_true (said c 42)
  have a32 : PySem.W.nsIn K mainGlobals "_law_shows" = some (some (.ref (ad32 K))) := of_decide_eq_true (said c 43)
  have a33 : PySem.W.nsIn K mainGlobals "_law_meets_all" = some (some (.ref (ad33 K))) := of_decide_eq_true (said c 44)
  have a34 : PySem.W.nsIn K mainGlobals "law" = some (some (.ref (ad34 K))) := of_decide_eq_true (said c 45)
  obtain ⟨t_MOST_LOTS, kc_MOST_LOTS⟩ := intB_ok (said c 46)
  obtain ⟨t_MOST_HOURS, kc_MOST_HOURS⟩ := intB_ok (said c 47)
  obtain ⟨t_MOST_NEED, kc_MOST_NEED⟩ := intB_ok (said c 48)
  have z_abs : PySem.W.nsIn K mainGlobals "abs" = some none := of_decide_eq_true (said c 49)
  have z_len : PySem.W.nsIn K mainGlobals "len" = some none := of_decide_eq_true (said c 50)
  have z_int : PySem.W.nsIn K mainGlobals "int" = some none := of_decide_eq_true (said c 51)
  have z_bool : PySem.W.nsIn K mainGlobals "bool" = some none := of_decide_eq_true (said c 52)
  have z_str : PySem.W.nsIn K mainGlobals "str" = some none := of_decide_eq_true (said c 53)
  have z_list : PySem.W.nsIn K mainGlobals "list" = some none := of_decide_eq_true (said c 54)
  have z_tuple : PySem.W.nsIn K mainGlobals "tuple" = some none := of_decide_eq_true (said c 55)
  have z_isinstance : PySem.W.nsIn K mainGlobals "isinstance" = some none := of_decide_eq_true (said c 56)
  have z_range : PySem.W.nsIn K mainGlobals "range" = some none := of_decide_eq_true (said c 57)
  have z_ValueError : PySem.W.nsIn K mainGlobals "ValueError" = some none := of_decide_eq_true (said c 58)
  have z_iter : PySem.W.nsIn K mainGlobals "iter" = some none := of_decide_eq_true (said c 59)
  have z_min : PySem.W.nsIn K mainGlobals "min" = some none := of_decide_eq_true (said c 60)
  have z_max : PySem.W.nsIn K mainGlobals "max" = some none := of_decide_eq_true (said c 61)
  have z_all : PySem.W.nsIn K mainGlobals "all" = some none := of_decide_eq_true (said c 62)
  have z_sum : PySem.W.nsIn K mainGlobals "sum" = some none := of_decide_eq_true (said c 63)
  have z_enumerate : PySem.W.nsIn K mainGlobals "enumerate" = some none := of_decide_eq_true (said c 64)
  have exC_BadNumber : PySem.W.subIn K (.ref (cl_BadNumber K)) (.type "BaseException") = some true := of_decide_eq_true (said c 65)
  have hdC_BadNumber : PySem.W.hasDictIn K (cl_BadNumber K) = true := of_decide_eq_true (said c 66)
  have tyC_BadNumber : PySem.W.typeIn K (.ref (cl_BadNumber K)) = some (.type "type") := of_decide_eq_true (said c 67)
  have meC_BadNumber : PySem.W.subIn K (.ref (cl_BadNumber K)) (.ref (cl_BadNumber K)) = some true := of_decide_eq_true (said c 68)
  obtain ⟨nm_BadNumber, q_BadNumber, N_BadNumber, bs_BadNumber, sn_BadNumber, sub_BadNumber, ab_BadNumber, col_BadNumber, dd_BadNumber, m0_BadNumber, m1_BadNumber, m2_BadNumber, m3_BadNumber, m5_BadNumber, xL_BadNumber⟩ := oexB_ok (said c 69)
  have sa_BadNumber : PySem.W.findIn K (.ref (cl_BadNumber K)) "__setattr__" = some (some (.builtin "object.__setattr__")) := of_decide_eq_true (said c 70)
  have kC_BadNumber : PySem.W.keepIn K (.ref (cl_BadNumber K)) = true := of_decide_eq_true (said c 71)
  have ti_BadNumber : PySem.W.typeIn K (.ref (ad0 K)) = some (.type "function") := of_decide_eq_true (said c 72)
  have ga_BadNumber : PySem.W.findIn K (.ref (cl_BadNumber K)) "__getattribute__" = some (some (.builtin "BaseException.__getattribute__")) := of_decide_eq_true (said c 73)
  have gg_BadNumber : PySem.W.findIn K (.ref (cl_BadNumber K)) "__getattr__" = some none := of_decide_eq_true (said c 74)
  have ha_BadNumber : PySem.W.findIn K (.ref (cl_BadNumber K)) "__class__" = some (some (.builtin "object.__class__")) := of_decide_eq_true (said c 75)
  have hn_ : PySem.W.specialIn K (.builtin "object.__class__") "__get__" = some (some (.builtin "getset_descriptor.__get__")) := of_decide_eq_true (said c 76)
  have ht_ : PySem.W.takesIn K (.builtin "object.__class__") = some true := of_decide_eq_true (said c 77)
  have hm_BadNumber : PySem.W.mroIn K (cl_BadNumber K) (.type "object") = some true := of_decide_eq_true (said c 78)
  have nf_BadNumber_name : PySem.W.findIn K (.ref (cl_BadNumber K)) "name" = some none := of_decide_eq_true (said c 79)
  have nf_BadNumber_value : PySem.W.findIn K (.ref (cl_BadNumber K)) "value" = some none := of_decide_eq_true (said c 80)
  have exC_TooMany : PySem.W.subIn K (.ref (cl_TooMany K)) (.type "BaseException") = some true := of_decide_eq_true (said c 81)
  have hdC_TooMany : PySem.W.hasDictIn K (cl_TooMany K) = true := of_decide_eq_true (said c 82)
  have tyC_TooMany : PySem.W.typeIn K (.ref (cl_TooMany K)) = some (.type "type") := of_decide_eq_true (said c 83)
  have meC_TooMany : PySem.W.subIn K (.ref (cl_TooMany K)) (.ref (cl_TooMany K)) = some true := of_decide_eq_true (said c 84)
  obtain ⟨nm_TooMany, q_TooMany, N_TooMany, bs_TooMany, sn_TooMany, sub_TooMany, ab_TooMany, col_TooMany, dd_TooMany, m0_TooMany, m1_TooMany, m2_TooMany, m3_TooMany, m5_TooMany, xL_TooMany⟩ := oexB_ok (said c 85)
  have sa_TooMany : PySem.W.findIn K (.ref (cl_TooMany K)) "__setattr__" = some (some (.builtin "object.__setattr__")) := of_decide_eq_true (said c 86)
  have kC_TooMany : PySem.W.keepIn K (.ref (cl_TooMany K)) = true := of_decide_eq_true (said c 87)
  have ti_TooMany : PySem.W.typeIn K (.ref (ad1 K)) = some (.type "function") := of_decide_eq_true (said c 88)
  have ga_TooMany : PySem.W.findIn K (.ref (cl_TooMany K)) "__getattribute__" = some (some (.builtin "BaseException.__getattribute__")) := of_decide_eq_true (said c 89)
  have gg_TooMany : PySem.W.findIn K (.ref (cl_TooMany K)) "__getattr__" = some none := of_decide_eq_true (said c 90)
  have ha_TooMany : PySem.W.findIn K (.ref (cl_TooMany K)) "__class__" = some (some (.builtin "object.__class__")) := of_decide_eq_true (said c 91)
  have hm_TooMany : PySem.W.mroIn K (cl_TooMany K) (.type "object") = some true := of_decide_eq_true (said c 92)
  have nf_TooMany_name : PySem.W.findIn K (.ref (cl_TooMany K)) "name" = some none := of_decide_eq_true (said c 93)
  have nf_TooMany_most : PySem.W.findIn K (.ref (cl_TooMany K)) "most" = some none := of_decide_eq_true (said c 94)
  have exC_RepeatedHour : PySem.W.subIn K (.ref (cl_RepeatedHour K)) (.type "BaseException") = some true := of_decide_eq_true (said c 95)
  have hdC_RepeatedHour : PySem.W.hasDictIn K (cl_RepeatedHour K) = true := of_decide_eq_true (said c 96)
  have tyC_RepeatedHour : PySem.W.typeIn K (.ref (cl_RepeatedHour K)) = some (.type "type") := of_decide_eq_true (said c 97)
  have meC_RepeatedHour : PySem.W.subIn K (.ref (cl_RepeatedHour K)) (.ref (cl_RepeatedHour K)) = some true := of_decide_eq_true (said c 98)
  obtain ⟨nm_RepeatedHour, q_RepeatedHour, N_RepeatedHour, bs_RepeatedHour, sn_RepeatedHour, sub_RepeatedHour, ab_RepeatedHour, col_RepeatedHour, dd_RepeatedHour, m0_RepeatedHour, m1_RepeatedHour, m2_RepeatedHour, m3_RepeatedHour, m5_RepeatedHour, xL_RepeatedHour⟩ := oexB_ok (said c 99)
  have sa_RepeatedHour : PySem.W.findIn K (.ref (cl_RepeatedHour K)) "__setattr__" = some (some (.builtin "object.__setattr__")) := of_decide_eq_true (said c 100)
  have kC_RepeatedHour : PySem.W.keepIn K (.ref (cl_RepeatedHour K)) = true := of_decide_eq_true (said c 101)
  have ti_RepeatedHour : PySem.W.typeIn K (.ref (ad2 K)) = some (.type "function") := of_decide_eq_true (said c 102)
  have ga_RepeatedHour : PySem.W.findIn K (.ref (cl_RepeatedHour K)) "__getattribute__" = some (some (.builtin "BaseException.__getattribute__")) := of_decide_eq_true (said c 103)
  have gg_RepeatedHour : PySem.W.findIn K (.ref (cl_RepeatedHour K)) "__getattr__" = some none := of_decide_eq_true (said c 104)
  have ha_RepeatedHour : PySem.W.findIn K (.ref (cl_RepeatedHour K)) "__class__" = some (some (.builtin "object.__class__")) := of_decide_eq_true (said c 105)
  have hm_RepeatedHour : PySem.W.mroIn K (cl_RepeatedHour K) (.type "object") = some true := of_decide_eq_true (said c 106)
  have nf_RepeatedHour_hour : PySem.W.findIn K (.ref (cl_RepeatedHour K)) "hour" = some none := of_decide_eq_true (said c 107)
  have exC_WrongLength : PySem.W.subIn K (.ref (cl_WrongLength K)) (.type "BaseException") = some true := of_decide_eq_true (said c 108)
  have hdC_WrongLength : PySem.W.hasDictIn K (cl_WrongLength K) = true := of_decide_eq_true (said c 109)
  have tyC_WrongLength : PySem.W.typeIn K (.ref (cl_WrongLength K)) = some (.type "type") := of_decide_eq_true (said c 110)
  have meC_WrongLength : PySem.W.subIn K (.ref (cl_WrongLength K)) (.ref (cl_WrongLength K)) = some true := of_decide_eq_true (said c 111)
  obtain ⟨nm_WrongLength, q_WrongLength, N_WrongLength, bs_WrongLength, sn_WrongLength, sub_WrongLength, ab_WrongLength, col_WrongLength, dd_WrongLength, m0_WrongLength, m1_WrongLength, m2_WrongLength, m3_WrongLength, m5_WrongLength, xL_WrongLength⟩ := oexB_ok (said c 112)
  have sa_WrongLength : PySem.W.findIn K (.ref (cl_WrongLength K)) "__setattr__" = some (some (.builtin "object.__setattr__")) := of_decide_eq_true (said c 113)
  have kC_WrongLength : PySem.W.keepIn K (.ref (cl_WrongLength K)) = true := of_decide_eq_true (said c 114)
  have ti_WrongLength : PySem.W.typeIn K (.ref (ad3 K)) = some (.type "function") := of_decide_eq_true (said c 115)
  have ga_WrongLength : PySem.W.findIn K (.ref (cl_WrongLength K)) "__getattribute__" = some (some (.builtin "BaseException.__getattribute__")) := of_decide_eq_true (said c 116)
  have gg_WrongLength : PySem.W.findIn K (.ref (cl_WrongLength K)) "__getattr__" = some none := of_decide_eq_true (said c 117)
  have ha_WrongLength : PySem.W.findIn K (.ref (cl_WrongLength K)) "__class__" = some (some (.builtin "object.__class__")) := of_decide_eq_true (said c 118)
  have hm_WrongLength : PySem.W.mroIn K (cl_WrongLength K) (.type "object") = some true := of_decide_eq_true (said c 119)
  have nf_WrongLength_length : PySem.W.findIn K (.ref (cl_WrongLength K)) "length" = some none := of_decide_eq_true (said c 120)
  have exC_NotEnough : PySem.W.subIn K (.ref (cl_NotEnough K)) (.type "BaseException") = some true := of_decide_eq_true (said c 121)
  have hdC_NotEnough : PySem.W.hasDictIn K (cl_NotEnough K) = true := of_decide_eq_true (said c 122)
  have tyC_NotEnough : PySem.W.typeIn K (.ref (cl_NotEnough K)) = some (.type "type") := of_decide_eq_true (said c 123)
  have meC_NotEnough : PySem.W.subIn K (.ref (cl_NotEnough K)) (.ref (cl_NotEnough K)) = some true := of_decide_eq_true (said c 124)
  obtain ⟨nm_NotEnough, q_NotEnough, N_NotEnough, bs_NotEnough, sn_NotEnough, sub_NotEnough, ab_NotEnough, col_NotEnough, dd_NotEnough, m0_NotEnough, m1_NotEnough, m2_NotEnough, m3_NotEnough, m5_NotEnough, xL_NotEnough⟩ := oexB_ok (said c 125)
  have sa_NotEnough : PySem.W.findIn K (.ref (cl_NotEnough K)) "__setattr__" = some (some (.builtin "object.__setattr__")) := of_decide_eq_true (said c 126)
  have kC_NotEnough : PySem.W.keepIn K (.ref (cl_NotEnough K)) = true := of_decide_eq_true (said c 127)
  have ti_NotEnough : PySem.W.typeIn K (.ref (ad4 K)) = some (.type "function") := of_decide_eq_true (said c 128)
  have ga_NotEnough : PySem.W.findIn K (.ref (cl_NotEnough K)) "__getattribute__" = some (some (.builtin "BaseException.__getattribute__")) := of_decide_eq_true (said c 129)
  have gg_NotEnough : PySem.W.findIn K (.ref (cl_NotEnough K)) "__getattr__" = some none := of_decide_eq_true (said c 130)
  have ha_NotEnough : PySem.W.findIn K (.ref (cl_NotEnough K)) "__class__" = some (some (.builtin "object.__class__")) := of_decide_eq_true (said c 131)
  have hm_NotEnough : PySem.W.mroIn K (cl_NotEnough K) (.type "object") = some true := of_decide_eq_true (said c 132)
  have nf_NotEnough_index : PySem.W.findIn K (.ref (cl_NotEnough K)) "index" = some none := of_decide_eq_true (said c 133)
  have exC_OtherHours : PySem.W.subIn K (.ref (cl_OtherHours K)) (.type "BaseException") = some true := of_decide_eq_true (said c 134)
  have hdC_OtherHours : PySem.W.hasDictIn K (cl_OtherHours K) = true := of_decide_eq_true (said c 135)
  have tyC_OtherHours : PySem.W.typeIn K (.ref (cl_OtherHours K)) = some (.type "type") := of_decide_eq_true (said c 136)
  have meC_OtherHours : PySem.W.subIn K (.ref (cl_OtherHours K)) (.ref (cl_OtherHours K)) = some true := of_decide_eq_true (said c 137)
  have xP_OtherHours : PySem.W.excIn K (cl_OtherHours K) [.type "ValueError", .type "Exception", .type "BaseException", .type "object"] "ValueError.__new__" = true := of_decide_eq_true (said c 138)
  have kP_OtherHours : PySem.W.keepIn K (.ref (cl_OtherHours K)) = true := of_decide_eq_true (said c 139)
  have ga_OtherHours : PySem.W.findIn K (.ref (cl_OtherHours K)) "__getattribute__" = some (some (.builtin "BaseException.__getattribute__")) := of_decide_eq_true (said c 140)
  have gg_OtherHours : PySem.W.findIn K (.ref (cl_OtherHours K)) "__getattr__" = some none := of_decide_eq_true (said c 141)
  have ha_OtherHours : PySem.W.findIn K (.ref (cl_OtherHours K)) "__class__" = some (some (.builtin "object.__class__")) := of_decide_eq_true (said c 142)
  have hm_OtherHours : PySem.W.mroIn K (cl_OtherHours K) (.type "object") = some true := of_decide_eq_true (said c 143)
  have pg_Lot : PySem.W.plainGet K (cl_Lot K) Str.empty = true := of_decide_eq_true (said c 144)
  have hd_Lot : PySem.W.hasDictIn K (cl_Lot K) = true := of_decide_eq_true (said c 145)
  have po_Lot : PySem.W.plainOver K (cl_Lot K) = true := of_decide_eq_true (said c 146)
  have sa_Lot : PySem.W.findIn K (.ref (cl_Lot K)) "__setattr__" = some (some (.builtin "object.__setattr__")) := of_decide_eq_true (said c 147)
  have mk_Lot : PySem.W.makesIn K (cl_Lot K) = true := of_decide_eq_true (said c 148)
  have kc_Lot : PySem.W.keepIn K (.ref (cl_Lot K)) = true := of_decide_eq_true (said c 149)
  have if_5 : PySem.W.isFn K (.ref (ad5 K)) = true := of_decide_eq_true (said c 150)
  have na_Lot_hours : PySem.W.findIn K (.ref (cl_Lot K)) "hours" = some none := of_decide_eq_true (said c 151)
  have na_Lot_members : PySem.W.findIn K (.ref (cl_Lot K)) "_members" = some none := of_decide_eq_true (said c 152)
  have ha_Lot : PySem.W.findIn K (.ref (cl_Lot K)) "__class__" = some (some (.builtin "object.__class__")) := of_decide_eq_true (said c 153)
  have hm_Lot : PySem.W.mroIn K (cl_Lot K) (.type "object") = some true := of_decide_eq_true (said c 154)
  have rd_Lot : PySem.W.readsIn K (cl_Lot K) (.type "type") = true := of_decide_eq_true (said c 155)
  have gt_Lot : PySem.W.specialIn K (.ref (cl_Lot K)) "__getattribute__" = some (some (.builtin "type.__getattribute__")) := of_decide_eq_true (said c 156)
  obtain ⟨tk_Lot_MOST, cv_Lot_MOST⟩ := cvalB_ok (said c 157)
  have pg_Fewest : PySem.W.plainGet K (cl_Fewest K) Str.empty = true := of_decide_eq_true (said c 158)
  have hd_Fewest : PySem.W.hasDictIn K (cl_Fewest K) = true := of_decide_eq_true (said c 159)
  have po_Fewest : PySem.W.plainOver K (cl_Fewest K) = true := of_decide_eq_true (said c 160)
  have sa_Fewest : PySem.W.findIn K (.ref (cl_Fewest K)) "__setattr__" = some (some (.builtin "object.__setattr__")) := of_decide_eq_true (said c 161)
  have mk_Fewest : PySem.W.makesIn K (cl_Fewest K) = true := of_decide_eq_true (said c 162)
  have kc_Fewest : PySem.W.keepIn K (.ref (cl_Fewest K)) = true := of_decide_eq_true (said c 163)
  have if_13 : PySem.W.isFn K (.ref (ad13 K)) = true := of_decide_eq_true (said c 164)
  have na_Fewest_starts : PySem.W.findIn K (.ref (cl_Fewest K)) "starts" = some none := of_decide_eq_true (said c 165)
  have na_Fewest_tree : PySem.W.findIn K (.ref (cl_Fewest K)) "tree" = some none := of_decide_eq_true (said c 166)
  have ha_Fewest : PySem.W.findIn K (.ref (cl_Fewest K)) "__class__" = some (some (.builtin "object.__class__")) := of_decide_eq_true (said c 167)
  have hm_Fewest : PySem.W.mroIn K (cl_Fewest K) (.type "object") = some true := of_decide_eq_true (said c 168)
  have pg_Demand : PySem.W.plainGet K (cl_Demand K) Str.empty = true := of_decide_eq_true (said c 169)
  have hd_Demand : PySem.W.hasDictIn K (cl_Demand K) = true := of_decide_eq_true (said c 170)
  have po_Demand : PySem.W.plainOver K (cl_Demand K) = true := of_decide_eq_true (said c 171)
  have sa_Demand : PySem.W.findIn K (.ref (cl_Demand K)) "__setattr__" = some (some (.builtin "object.__setattr__")) := of_decide_eq_true (said c 172)
  have mk_Demand : PySem.W.makesIn K (cl_Demand K) = true := of_decide_eq_true (said c 173)
  have kc_Demand : PySem.W.keepIn K (.ref (cl_Demand K)) = true := of_decide_eq_true (said c 174)
  have if_15 : PySem.W.isFn K (.ref (ad15 K)) = true := of_decide_eq_true (said c 175)
  have na_Demand_hours : PySem.W.findIn K (.ref (cl_Demand K)) "hours" = some none := of_decide_eq_true (said c 176)
  have na_Demand_needs : PySem.W.findIn K (.ref (cl_Demand K)) "needs" = some none := of_decide_eq_true (said c 177)
  have na_Demand_sizes : PySem.W.findIn K (.ref (cl_Demand K)) "sizes" = some none := of_decide_eq_true (said c 178)
  have na_Demand_meeting : PySem.W.findIn K (.ref (cl_Demand K)) "meeting" = some none := of_decide_eq_true (said c 179)
  have na_Demand_counted : PySem.W.findIn K (.ref (cl_Demand K)) "counted" = some none := of_decide_eq_true (said c 180)
  have pg_6 : PySem.W.specialIn K (.ref (pr6 K)) "__get__" = some (some (.builtin "property.__get__")) := of_decide_eq_true (said c 181)
  have pt_6 : PySem.W.takesIn K (.ref (pr6 K)) = some true := of_decide_eq_true (said c 182)
  have if_7 : PySem.W.isFn K (.ref (ad7 K)) = true := of_decide_eq_true (said c 183)
  have if_8 : PySem.W.isFn K (.ref (ad8 K)) = true := of_decide_eq_true (said c 184)
  have if_16 : PySem.W.isFn K (.ref (ad16 K)) = true := of_decide_eq_true (said c 185)
  have if_17 : PySem.W.isFn K (.ref (ad17 K)) = true := of_decide_eq_true (said c 186)
  obtain ⟨fd0, F0⟩ := stands c 0
  have k0 := F0.kp
  obtain ⟨fd1, F1⟩ := stands c 1
  have k1 := F1.kp
  obtain ⟨fd2, F2⟩ := stands c 2
  have k2 := F2.kp
  obtain ⟨fd3, F3⟩ := stands c 3
  have k3 := F3.kp
  obtain ⟨fd4, F4⟩ := stands c 4
  have k4 := F4.kp
  obtain ⟨fd5, F5⟩ := stands c 5
  have k5 := F5.kp
  obtain ⟨fd6, F6⟩ := stands c 6
  have k6 := F6.kp
  obtain ⟨fd7, F7⟩ := stands c 7
  have k7 := F7.kp
  obtain ⟨fd8, F8⟩ := stands c 8
  have k8 := F8.kp
  obtain ⟨fd9, F9⟩ := stands c 9
  have k9 := F9.kp
  obtain ⟨fd10, F10⟩ := stands c 10
  have k10 := F10.kp
  obtain ⟨fd11, F11⟩ := stands c 11
  have k11 := F11.kp
  obtain ⟨fd12, F12⟩ := stands c 12
  have k12 := F12.kp
  obtain ⟨fd13, F13⟩ := stands c 13
  have k13 := F13.kp
  obtain ⟨fd14, F14⟩ := stands c 14
  have k14 := F14.kp
  obtain ⟨fd15, F15⟩ := stands c 15
  have k15 := F15.kp
  obtain ⟨fd16, F16⟩ := stands c 16
  have k16 := F16.kp
  obtain ⟨fd17, F17⟩ := stands c 17
  have k17 := F17.kp
  obtain ⟨fd18, F18⟩ := stands c 18
  have k18 := F18.kp
  obtain ⟨fd19, F19⟩ := stands c 19
  have k19 := F19.kp
  obtain ⟨fd20, F20⟩ := stands c 20
  have k20 := F20.kp
  obtain ⟨fd21, F21⟩ := stands c 21
  have k21 := F21.kp
  obtain ⟨fd22, F22⟩ := stands c 22
  have k22 := F22.kp
  obtain ⟨fd23, F23⟩ := stands c 23
  have k23 := F23.kp
  obtain ⟨fd24, F24⟩ := stands c 24
  have k24 := F24.kp
  obtain ⟨fd25, F25⟩ := stands c 25
  have k25 := F25.kp
  obtain ⟨fd26, F26⟩ := stands c 26
  have k26 := F26.kp
  obtain ⟨fd27, F27⟩ := stands c 27
  have k27 := F27.kp
  obtain ⟨fd28, F28⟩ := stands c 28
  have k28 := F28.kp
  obtain ⟨fd29, F29⟩ := stands c 29
  have k29 := F29.kp
  obtain ⟨fd30, F30⟩ := stands c 30
  have k30 := F30.kp
  obtain ⟨fd31, F31⟩ := stands c 31
  have k31 := F31.kp
  obtain ⟨fd32, F32⟩ := stands c 32
  have k32 := F32.kp
  obtain ⟨fd33, F33⟩ := stands c 33
  have k33 := F33.kp
  obtain ⟨fd34, F34⟩ := stands c 34
  have k34 := F34.kp
  have e := hfa.symm.trans (PySem.W.mg_of X G a34)
  cases e
  let A : Ads := {
    f_BadNumber_init := ad0 K,
    d_BadNumber_init := fd0,
    f_TooMany_init := ad1 K,
    d_TooMany_init := fd1,
    f_RepeatedHour_init := ad2 K,
    d_RepeatedHour_init := fd2,
    f_WrongLength_init := ad3 K,
    d_WrongLength_init := fd3,
    f_NotEnough_init := ad4 K,
    d_NotEnough_init := fd4,
    f_Lot_init := ad5 K,
    d_Lot_init := fd5,
    f_Lot_members := ad6 K,
    d_Lot_members := fd6,
    f_Lot_iter := ad7 K,
    d_Lot_iter := fd7,
    f_Lot_len := ad8 K,
    d_Lot_len := fd8,
    f_u_check := ad9 K,
    d_u_check := fd9,
    f_bits_of := ad10 K,
    d_bits_of := fd10,
    f_listed := ad11 K,
    d_listed := fd11,
    f_bit_counts := ad12 K,
    d_bit_counts := fd12,
    f_Fewest_init := ad13 K,
    d_Fewest_init := fd13,
    f_u_starts_meeting := ad14 K,
    d_u_starts_meeting := fd14,
    f_Demand_init := ad15 K,
    d_Demand_init := fd15,
    f_Demand_lacks := ad16 K,
    d_Demand_lacks := fd16,
    f_Demand_is_met := ad17 K,
    d_Demand_is_met := fd17,
    f_u_least_met := ad18 K,
    d_u_least_met := fd18,
    f_u_split := ad19 K,
    d_u_split := fd19,
    f_u_tree := ad20 K,
    d_u_tree := fd20,
    f_fewest_starts := ad21 K,
    d_fewest_starts := fd21,
    f_u_law_cell := ad22 K,
    d_u_law_cell := fd22,
    f_u_law_draws := ad23 K,
    d_u_law_draws := fd23,
    f_u_law_two := ad24 K,
    d_u_law_two := fd24,
    f_u_law_bits := ad25 K,
    d_u_law_bits := fd25,
    f_u_law_is_int := ad26 K,
    d_u_law_is_int := fd26,
    f_u_law_same := ad27 K,
    d_u_law_same := fd27,
    f_u_law_gate := ad28 K,
    d_u_law_gate := fd28,
    f_u_law_lack := ad29 K,
    d_u_law_lack := fd29,
    f_u_law_free := ad30 K,
    d_u_law_free := fd30,
    f_u_law_below := ad31 K,
    d_u_law_below := fd31,
    f_u_law_shows := ad32 K,
    d_u_law_shows := fd32,
    f_u_law_meets_all := ad33 K,
    d_u_law_meets_all := fd33,
    f_law := ad34 K,
    d_law := fd34,
    C_BadNumber := cl_BadNumber K,
    C_TooMany := cl_TooMany K,
    C_RepeatedHour := cl_RepeatedHour K,
    C_WatchError := cl_WatchError K,
    C_OtherHours := cl_OtherHours K,
    C_WrongLength := cl_WrongLength K,
    C_NotEnough := cl_NotEnough K,
    C_Lot := cl_Lot K,
    C_Fewest := cl_Fewest K,
    C_Demand := cl_Demand K,
    p_Lot_members := (pr6 K) }
  have T : Txt K mg A := {
    F_BadNumber_init := He5.fun_of F0,
    F_TooMany_init := He5.fun_of F1,
    F_RepeatedHour_init := He5.fun_of F2,
    F_WrongLength_init := He5.fun_of F3,
    F_NotEnough_init := He5.fun_of F4,
    F_Lot_init := He5.fun_of F5,
    F_Lot_members := He5.fun_of F6,
    F_Lot_iter := He5.fun_of F7,
    F_Lot_len := He5.fun_of F8,
    F_u_check := He5.fun_of F9,
    g_u_check := PySem.W.mg_of X G a9,
    k_u_check := k9,
    F_bits_of := He5.fun_of F10,
    g_bits_of := PySem.W.mg_of X G a10,
    k_bits_of := k10,
    F_listed := He5.fun_of F11,
    g_listed := PySem.W.mg_of X G a11,
    k_listed := k11,
    F_bit_counts := He5.fun_of F12,
    g_bit_counts := PySem.W.mg_of X G a12,
    k_bit_counts := k12,
    F_Fewest_init := He5.fun_of F13,
    F_u_starts_meeting := He5.fun_of F14,
    g_u_starts_meeting := PySem.W.mg_of X G a14,
    k_u_starts_meeting := k14,
    F_Demand_init := He5.fun_of F15,
    F_Demand_lacks := He5.fun_of F16,
    F_Demand_is_met := He5.fun_of F17,
    F_u_least_met := He5.fun_of F18,
    g_u_least_met := PySem.W.mg_of X G a18,
    k_u_least_met := k18,
    F_u_split := He5.fun_of F19,
    g_u_split := PySem.W.mg_of X G a19,
    k_u_split := k19,
    F_u_tree := He5.fun_of F20,
    g_u_tree := PySem.W.mg_of X G a20,
    k_u_tree := k20,
    F_fewest_starts := He5.fun_of F21,
    g_fewest_starts := PySem.W.mg_of X G a21,
    k_fewest_starts := k21,
    F_u_law_cell := He5.fun_of F22,
    g_u_law_cell := PySem.W.mg_of X G a22,
    k_u_law_cell := k22,
    F_u_law_draws := He5.fun_of F23,
    g_u_law_draws := PySem.W.mg_of X G a23,
    k_u_law_draws := k23,
    F_u_law_two := He5.fun_of F24,
    g_u_law_two := PySem.W.mg_of X G a24,
    k_u_law_two := k24,
    F_u_law_bits := He5.fun_of F25,
    g_u_law_bits := PySem.W.mg_of X G a25,
    k_u_law_bits := k25,
    F_u_law_is_int := He5.fun_of F26,
    g_u_law_is_int := PySem.W.mg_of X G a26,
    k_u_law_is_int := k26,
    F_u_law_same := He5.fun_of F27,
    g_u_law_same := PySem.W.mg_of X G a27,
    k_u_law_same := k27,
    F_u_law_gate := He5.fun_of F28,
    g_u_law_gate := PySem.W.mg_of X G a28,
    k_u_law_gate := k28,
    F_u_law_lack := He5.fun_of F29,
    g_u_law_lack := PySem.W.mg_of X G a29,
    k_u_law_lack := k29,
    F_u_law_free := He5.fun_of F30,
    g_u_law_free := PySem.W.mg_of X G a30,
    k_u_law_free := k30,
    F_u_law_below := He5.fun_of F31,
    g_u_law_below := PySem.W.mg_of X G a31,
    k_u_law_below := k31,
    F_u_law_shows := He5.fun_of F32,
    g_u_law_shows := PySem.W.mg_of X G a32,
    k_u_law_shows := k32,
    F_u_law_meets_all := He5.fun_of F33,
    g_u_law_meets_all := PySem.W.mg_of X G a33,
    k_u_law_meets_all := k33,
    F_law := He5.fun_of F34,
    g_law := hfa,
    k_law := k34,
    c_MOST_LOTS := ⟨_, PySem.W.mg_of X G kc_MOST_LOTS⟩,
    c_MOST_HOURS := ⟨_, PySem.W.mg_of X G kc_MOST_HOURS⟩,
    c_MOST_NEED := ⟨_, PySem.W.mg_of X G kc_MOST_NEED⟩,
    z_abs := PySem.W.mg_none_of X G z_abs,
    z_len := PySem.W.mg_none_of X G z_len,
    z_int := PySem.W.mg_none_of X G z_int,
    z_bool := PySem.W.mg_none_of X G z_bool,
    z_str := PySem.W.mg_none_of X G z_str,
    z_list := PySem.W.mg_none_of X G z_list,
    z_tuple := PySem.W.mg_none_of X G z_tuple,
    z_isinstance := PySem.W.mg_none_of X G z_isinstance,
    z_range := PySem.W.mg_none_of X G z_range,
    z_ValueError := PySem.W.mg_none_of X G z_ValueError,
    z_iter := PySem.W.mg_none_of X G z_iter,
    z_min := PySem.W.mg_none_of X G z_min,
    z_max := PySem.W.mg_none_of X G z_max,
    z_all := PySem.W.mg_none_of X G z_all,
    z_sum := PySem.W.mg_none_of X G z_sum,
    z_enumerate := PySem.W.mg_none_of X G z_enumerate,
    g_BadNumber := PySem.W.mg_of X G g_BadNumber,
    g_TooMany := PySem.W.mg_of X G g_TooMany,
    g_RepeatedHour := PySem.W.mg_of X G g_RepeatedHour,
    g_WatchError := PySem.W.mg_of X G g_WatchError,
    g_OtherHours := PySem.W.mg_of X G g_OtherHours,
    g_WrongLength := PySem.W.mg_of X G g_WrongLength,
    g_NotEnough := PySem.W.mg_of X G g_NotEnough,
    g_Lot := PySem.W.mg_of X G g_Lot,
    g_Fewest := PySem.W.mg_of X G g_Fewest,
    g_Demand := PySem.W.mg_of X G g_Demand,
    ox_BadNumber := ⟨⟨nm_BadNumber, q_BadNumber, N_BadNumber, bs_BadNumber, _, sn_BadNumber, sub_BadNumber, ab_BadNumber, col_BadNumber, dd_BadNumber, m0_BadNumber, m1_BadNumber, m2_BadNumber, m3_BadNumber, m5_BadNumber, xL_BadNumber, rfl⟩, sa_BadNumber, exC_BadNumber, tyC_BadNumber, kC_BadNumber⟩,
    ni_BadNumber := a0,
    ti_BadNumber := ti_BadNumber,
    nf_BadNumber_name := nf_BadNumber_name,
    nf_BadNumber_value := nf_BadNumber_value,
    xf_BadNumber := ⟨ga_BadNumber, gg_BadNumber, exC_BadNumber, hdC_BadNumber⟩,
    ex_BadNumber := ⟨ga_BadNumber, gg_BadNumber, exC_BadNumber, hdC_BadNumber, ha_BadNumber, hn_, ht_, hm_BadNumber⟩,
    ox_TooMany := ⟨⟨nm_TooMany, q_TooMany, N_TooMany, bs_TooMany, _, sn_TooMany, sub_TooMany, ab_TooMany, col_TooMany, dd_TooMany, m0_TooMany, m1_TooMany, m2_TooMany, m3_TooMany, m5_TooMany, xL_TooMany, rfl⟩, sa_TooMany, exC_TooMany, tyC_TooMany, kC_TooMany⟩,
    ni_TooMany := a1,
    ti_TooMany := ti_TooMany,
    nf_TooMany_name := nf_TooMany_name,
    nf_TooMany_most := nf_TooMany_most,
    xf_TooMany := ⟨ga_TooMany, gg_TooMany, exC_TooMany, hdC_TooMany⟩,
    ex_TooMany := ⟨ga_TooMany, gg_TooMany, exC_TooMany, hdC_TooMany, ha_TooMany, hn_, ht_, hm_TooMany⟩,
    ox_RepeatedHour := ⟨⟨nm_RepeatedHour, q_RepeatedHour, N_RepeatedHour, bs_RepeatedHour, _, sn_RepeatedHour, sub_RepeatedHour, ab_RepeatedHour, col_RepeatedHour, dd_RepeatedHour, m0_RepeatedHour, m1_RepeatedHour, m2_RepeatedHour, m3_RepeatedHour, m5_RepeatedHour, xL_RepeatedHour, rfl⟩, sa_RepeatedHour, exC_RepeatedHour, tyC_RepeatedHour, kC_RepeatedHour⟩,
    ni_RepeatedHour := a2,
    ti_RepeatedHour := ti_RepeatedHour,
    nf_RepeatedHour_hour := nf_RepeatedHour_hour,
    xf_RepeatedHour := ⟨ga_RepeatedHour, gg_RepeatedHour, exC_RepeatedHour, hdC_RepeatedHour⟩,
    ex_RepeatedHour := ⟨ga_RepeatedHour, gg_RepeatedHour, exC_RepeatedHour, hdC_RepeatedHour, ha_RepeatedHour, hn_, ht_, hm_RepeatedHour⟩,
    ox_WrongLength := ⟨⟨nm_WrongLength, q_WrongLength, N_WrongLength, bs_WrongLength, _, sn_WrongLength, sub_WrongLength, ab_WrongLength, col_WrongLength, dd_WrongLength, m0_WrongLength, m1_WrongLength, m2_WrongLength, m3_WrongLength, m5_WrongLength, xL_WrongLength, rfl⟩, sa_WrongLength, exC_WrongLength, tyC_WrongLength, kC_WrongLength⟩,
    ni_WrongLength := a3,
    ti_WrongLength := ti_WrongLength,
    nf_WrongLength_length := nf_WrongLength_length,
    xf_WrongLength := ⟨ga_WrongLength, gg_WrongLength, exC_WrongLength, hdC_WrongLength⟩,
    ex_WrongLength := ⟨ga_WrongLength, gg_WrongLength, exC_WrongLength, hdC_WrongLength, ha_WrongLength, hn_, ht_, hm_WrongLength⟩,
    ox_NotEnough := ⟨⟨nm_NotEnough, q_NotEnough, N_NotEnough, bs_NotEnough, _, sn_NotEnough, sub_NotEnough, ab_NotEnough, col_NotEnough, dd_NotEnough, m0_NotEnough, m1_NotEnough, m2_NotEnough, m3_NotEnough, m5_NotEnough, xL_NotEnough, rfl⟩, sa_NotEnough, exC_NotEnough, tyC_NotEnough, kC_NotEnough⟩,
    ni_NotEnough := a4,
    ti_NotEnough := ti_NotEnough,
    nf_NotEnough_index := nf_NotEnough_index,
    xf_NotEnough := ⟨ga_NotEnough, gg_NotEnough, exC_NotEnough, hdC_NotEnough⟩,
    ex_NotEnough := ⟨ga_NotEnough, gg_NotEnough, exC_NotEnough, hdC_NotEnough, ha_NotEnough, hn_, ht_, hm_NotEnough⟩,
    xP_OtherHours := xP_OtherHours,
    kP_OtherHours := kP_OtherHours,
    bP_OtherHours := exC_OtherHours,
    tP_OtherHours := tyC_OtherHours,
    ex_OtherHours := ⟨ga_OtherHours, gg_OtherHours, exC_OtherHours, hdC_OtherHours, ha_OtherHours, hn_, ht_, hm_OtherHours⟩,
    cl_Lot := ⟨pg_Lot, hd_Lot, po_Lot, sa_Lot⟩,
    mk_Lot := ⟨mk_Lot, a5, if_5, kc_Lot⟩,
    na_Lot_hours := na_Lot_hours,
    na_Lot_members := na_Lot_members,
    ty_Lot := fun H a dx fs e => .base (.ins e ⟨pg_Lot, hd_Lot, po_Lot, sa_Lot⟩ ha_Lot hn_ ht_ hm_Lot),
    rd_Lot := ⟨.type "type", ⟨rd_Lot, gt_Lot⟩, ⟨_, cv_Lot_MOST, ⟨_, rfl⟩⟩⟩,
    cl_Fewest := ⟨pg_Fewest, hd_Fewest, po_Fewest, sa_Fewest⟩,
    mk_Fewest := ⟨mk_Fewest, a13, if_13, kc_Fewest⟩,
    na_Fewest_starts := na_Fewest_starts,
    na_Fewest_tree := na_Fewest_tree,
    ty_Fewest := fun H a dx fs e => .base (.ins e ⟨pg_Fewest, hd_Fewest, po_Fewest, sa_Fewest⟩ ha_Fewest hn_ ht_ hm_Fewest),
    cl_Demand := ⟨pg_Demand, hd_Demand, po_Demand, sa_Demand⟩,
    mk_Demand := ⟨mk_Demand, a15, if_15, kc_Demand⟩,
    na_Demand_hours := na_Demand_hours,
    na_Demand_needs := na_Demand_needs,
    na_Demand_sizes := na_Demand_sizes,
    na_Demand_meeting := na_Demand_meeting,
    na_Demand_counted := na_Demand_counted,
    P_Lot_members := ⟨pa_6, pg_6, pt_6, ⟨_, a6⟩⟩,
    M_Lot_iter := ⟨a7, if_7, k7⟩,
    M_Lot_len := ⟨a8, if_8, k8⟩,
    M_Demand_lacks := ⟨a16, if_16, k16⟩,
    M_Demand_is_met := ⟨a17, if_17, k17⟩ }
  exact ⟨A.d_law, fun s v => (by have z := F34.bindsA (ps := ["script"]) fun _ _ _ _ _ _ us hl => match us, hl with | [_], _ => rfl; exact z s [v] rfl), fun base _ _ => ok_law T⟩
def names0 : List Str := ["_wall", "__name__", "bits_of", "listed", "bit_counts", "WatchError", "BadNumber", "TooMany", "RepeatedHour", "Meets", "OtherHours", "NotADivisor", "WrongLength", "NotEnough", "Lot", "_check_hours"]
def names1 : List Str := ["_lot_of_each", "_MOST_LOTS", "_MOST_HOURS", "_MOST_NEED", "Fewest", "Demand", "fewest_starts", "_check", "_starts_meeting", "_least_met", "_tree", "_split", "_law_cell", "_law_draws", "_law_two", "_law_bits"]
def names2 : List Str := ["_law_is_int", "_law_same", "_law_gate", "_law_lack", "_law_free", "_law_below", "_law_shows", "_law_meets_all"]
def theNames : List Str := names0 ++ (names1 ++ (names2))
abbrev theRow : PySem.W.OpenRow := PySem.W.OpenLaw.row PySem.Challenge.rw_watchbeats_k20_whole_fewest_tree
abbrev theHook : PySem.W.Hook := topHook 7 theFacts theDefs
abbrev thePlaces : List Nat := [44]
def looked (s : PySem.W.SharedT) : He.AlD := allB theFacts theDefs (He.frG (HandSHeadRun.getT s) (He5.asA (HandSHeadRun.getT s) 7))
theorem looked_eq (s : PySem.W.SharedT) : looked s = theHook.obs s.abs := by
  have e : HandSHeadRun.getT s = s.abs.heap.get? := funext (HandSHeadRun.getT_eq s)
  show allB theFacts theDefs (He.frG (HandSHeadRun.getT s) (He5.asA (HandSHeadRun.getT s) 7)) = _
  rw [e]
  rfl
theorem theRun (w : World) : HandSHeadRun.RunEq theRow (PySem.W.view theRow.prog thePlaces) theHook looked 20000 theNames w := by
  intro os
  kernel_rfl
end Pf
open PySem PySem.W PySem.Calls PyProof.Rows
set_option maxRecDepth 100000 in
set_option maxHeartbeats 0 in
theorem PySem.Challenge.cw_watchbeats_k20_whole_fewest_tree_holds : PySem.Challenge.rw_watchbeats_k20_whole_fewest_tree.Holds := by
  w_on; o_law
  refine HandSHeadRun.head_any (r := OpenLaw.row PySem.Challenge.rw_watchbeats_k20_whole_fewest_tree) (q := view (OpenLaw.row PySem.Challenge.rw_watchbeats_k20_whole_fewest_tree).prog Pf.thePlaces) (H := Pf.theHook) (ob := Pf.looked) (M := 20000) (loose := Pf.theNames) (d := HandSHeadRun.topDef (OpenLaw.row PySem.Challenge.rw_watchbeats_k20_whole_fewest_tree).prog 44) (kwd := []) Pf.looked_eq
    (by kernel_rfl) (fun s => by kernel_rfl) Pf.theRun (by kernel_rfl) (by kernel_rfl) (by kernel_rfl) (by rfl) (by first | assumption | decide +kernel) (by decide +kernel) ⟨rfl, rfl, rfl, rfl, rfl, by decide +kernel⟩ ?hw ?hc
  case hw => w_witness2
  case hc =>
    refine L2.walk_ofE (l := PySem.Challenge.rw_watchbeats_k20_whole_fewest_tree) (n := 63) (k := 36) (x := "script") (CX := L2.CX0) rfl (by decide) (by kernel_rfl) ⟨rfl, by decide, by decide⟩ ?F (fun _ _ _ _ z => z)
    intro w mg fa h Y G hmg0
    obtain ⟨K, KX, c⟩ := Y
    have hmg : mg ("law" : PySem.Str) = some (.ref fa) := by
      have e : (HandSHeadRun.topDef (OpenLaw.row PySem.Challenge.rw_watchbeats_k20_whole_fewest_tree).prog 44).name = ("law" : PySem.Str) := by kernel_rfl
      rw [← e]
      exact hmg0
    obtain ⟨fd, hb, hF⟩ := Pf.all_ok (l := PySem.Challenge.rw_watchbeats_k20_whole_fewest_tree) (w := w) c KX G hmg
    exact ⟨K, fd, (Pf.spLaw K), KX, hb, fun H a ns hl _ hS => ⟨a, ns, rfl, hS, hl, fun _ => rfl⟩, hF⟩
#print axioms PySem.Challenge.cw_watchbeats_k20_whole_fewest_tree_holds
