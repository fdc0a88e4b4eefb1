import PyProof.Rows.All
import Wide.All
import OpenK.AllK
import Wide.FinOn
import HandS.ForMost
import HandS.Exc
import HandS.ExcInit
import HandS.ExcField
import HandS.ExcIs
import KE.KExcIs
import HandS.IsInst
import HandS.CallSlots
import HandS.WordsExc
import HandS.Wide
import HandS.Gcd
import HandS.Style
import HandS.Evl
import HandS.Property
import HandS.ClsMeth
import HandS.Deep
import HandS.IterVal
import HandS.OwnIter
import HandS.Conv
import KE.KOwnIter
import HandS.SortInts
import KE.KOpsOwn
import HandS.OwnEq
import HandS.SlotsOwn
import KE.DataCmp
import KE.SortData
import HandS.Walk
import HandS.ClsMeth
import HandS.IterVal
import KE.KCallOwn
import PyProof.InstNe
import PyProof.Conv_bool
import KE.KOpsOwn
import HandS.SlotsOwn
import HandS.Text
import HandS.Replace
import HandS.Strs
import KE.GoesEnum
import HandS.Iter
import HandS.Walk
import HandS.Zip
import KE.GoesZip
import KE.GoesMore
import HandS.Iter
import HandS.Walk
import HandS.Gcd
import PySem.Challenge.RW_watchbeats_k29_watch_told
set_option Elab.async false
set_option linter.all false
set_option maxRecDepth 100000
set_option maxHeartbeats 4000000
/-! a watch told, def by def -/
namespace Pf
open PySem L2 Evl
def topS (i : Nat) : Stmt := PySem.Challenge.pw_watchbeats_k29_watch_told.main.body.getD i (.Pass ⟨0, 0, 0, 0⟩)
abbrev s_BadNumber_init : Stmt := inClass (topS 4) 0
abbrev N_BadNumber_init : List Str := ["self", "name", "value"]
abbrev s_TooMany_init : Stmt := inClass (topS 5) 0
abbrev N_TooMany_init : List Str := ["self", "name", "most"]
abbrev s_RepeatedHour_init : Stmt := inClass (topS 6) 0
abbrev N_RepeatedHour_init : List Str := ["self", "hour"]
abbrev s_WrongLength_init : Stmt := inClass (topS 12) 0
abbrev N_WrongLength_init : List Str := ["self", "length"]
abbrev s_BadName_init : Stmt := inClass (topS 14) 0
abbrev N_BadName_init : List Str := ["self", "name"]
abbrev s_RepeatedName_init : Stmt := inClass (topS 15) 0
abbrev N_RepeatedName_init : List Str := ["self", "name"]
abbrev s_Lot_init : Stmt := inClass (topS 25) 1
abbrev N_Lot_init : List Str := ["self", "hours", "members", "taken", "member", "hour"]
abbrev s_Lot_contains : Stmt := inClass (topS 25) 8
abbrev N_Lot_contains : List Str := ["self", "x"]
abbrev s_check_name : Stmt := topS 21
abbrev N_check_name : List Str := ["name", "letter"]
abbrev s_check_new_name : Stmt := topS 22
abbrev N_check_new_name : List Str := ["name", "names"]
abbrev s_House_init : Stmt := inClass (topS 20) 4
abbrev N_House_init : List Str := ["self", "hours", "gates", "names", "stakes", "name", "stake"]
abbrev s_House_len : Stmt := inClass (topS 20) 7
abbrev N_House_len : List Str := ["self"]
abbrev s_House_eq : Stmt := inClass (topS 20) 8
abbrev N_House_eq : List Str := ["self", "other"]
abbrev s_is_gate : Stmt := topS 23
abbrev N_is_gate : List Str := ["house", "gate"]
abbrev s_u_check_row : Stmt := topS 30
abbrev N_u_check_row : List Str := ["house", "row", "strength"]
abbrev s_Watch_init : Stmt := inClass (topS 29) 1
abbrev N_Watch_init : List Str := ["self", "house", "rows", "row"]
abbrev s_Watch_empty : Stmt := inClass (topS 29) 3
abbrev N_Watch_empty : List Str := ["cls", "house", "_"]
abbrev s_Watch_of_lots : Stmt := inClass (topS 29) 2
abbrev N_Watch_of_lots : List Str := ["cls", "house", "lots", "lot", "hour"]
abbrev s_Watch_rows : Stmt := inClass (topS 29) 4
abbrev N_Watch_rows : List Str := ["self", "row"]
abbrev s_Watch_getitem : Stmt := inClass (topS 29) 9
abbrev N_Watch_getitem : List Str := ["self", "at", "gate", "hour"]
abbrev s_Watch_eq : Stmt := inClass (topS 29) 11
abbrev N_Watch_eq : List Str := ["self", "other"]
abbrev s_u_law_cell : Stmt := topS 33
abbrev N_u_law_cell : List Str := ["script", "k"]
abbrev s_u_law_draws : Stmt := topS 34
abbrev N_u_law_draws : List Str := ["cell", "salt", "menu", "found", "rest", "mixed", "k"]
abbrev s_u_law_two : Stmt := topS 35
abbrev N_u_law_two : List Str := ["n", "power", "k"]
abbrev s_u_law_bits : Stmt := topS 36
abbrev N_u_law_bits : List Str := ["n", "number", "found", "h"]
abbrev s_u_law_name : Stmt := topS 37
abbrev N_u_law_name : List Str := ["number", "letters", "word", "k"]
abbrev s_u_law_names : Stmt := topS 38
abbrev N_u_law_names : List Str := ["numbers", "letters", "names", "number", "word", "turn"]
abbrev s_u_law_gates : Stmt := topS 39
abbrev N_u_law_gates : List Str := ["numbers", "stakes", "names", "k"]
abbrev s_u_law_rows : Stmt := topS 40
abbrev N_u_law_rows : List Str := ["gates", "n", "numbers", "rows", "at", "g", "row", "h"]
abbrev s_u_law_is_int : Stmt := topS 41
abbrev N_u_law_is_int : List Str := ["x"]
abbrev s_u_law_same : Stmt := topS 42
abbrev N_u_law_same : List Str := ["got", "due", "k"]
abbrev s_u_law_bad_rows : Stmt := topS 43
abbrev N_u_law_bad_rows : List Str := ["rows", "n", "draws", "bad", "row", "odd", "first", "second"]
abbrev s_u_law_first_error : Stmt := topS 44
abbrev N_u_law_first_error : List Str := ["rows", "count", "n", "found", "row", "strength"]
abbrev s_u_law_no_gate : Stmt := topS 46
abbrev N_u_law_no_gate : List Str := ["watch", "gate", "hour", "told", "e"]
abbrev s_u_law_shows : Stmt := topS 47
abbrev N_u_law_shows : List Str := ["watch", "house", "rows", "laps", "n", "told", "inner", "g", "h", "hour", "gate"]
abbrev s_u_law_answers : Stmt := topS 45
abbrev N_u_law_answers : List Str := ["house", "rows", "due", "laps", "handed", "row", "watch", "told", "e"]
abbrev s_u_law_lots_told : Stmt := topS 48
abbrev N_u_law_lots_told : List Str := ["house", "lots", "due", "handed", "watch", "told", "e"]
abbrev s_u_law_of_lots : Stmt := topS 49
abbrev N_u_law_of_lots : List Str := ["house", "n", "members", "draws", "laps", "count", "due", "lot", "h", "lots", "ring", "at", "foreign"]
abbrev s_law : Stmt := topS 50
abbrev N_law : List Str := ["script", "top", "count", "n", "numbers", "gates", "house", "strengths", "cell", "x", "rows", "laps", "bad", "due", "handed", "row", "watch", "draws", "at", "other", "one", "members", "g", "number", "zeros", "h", "away", "renamed", "gate", "twin", "far", "alike"]
theorem some_int {ns : List Int} {i : Nat} {y : V} (h : (ns.map V.int)[i]? = some y) : ∃ u, y = V.int u ∧ ns[i]? = some u := by
  rw [List.getElem?_map] at h
  cases e : ns[i]? with
  | none => rw [e] at h; cases h
  | some u => rw [e] at h; exact ⟨u, (Option.some.inj h).symm, rfl⟩
theorem wayT {c A B : Prop} [Decidable c] (h : c) (a : A) : if decide c = true then A else B := by rw [decide_eq_true h]; exact iteT a
theorem wayF {c A B : Prop} [Decidable c] (h : ¬ c) (b : B) : if decide c = true then A else B := by rw [decide_eq_false h]; exact iteF b
theorem way {c A B : Prop} [Decidable c] (a : c → A) (b : ¬ c → B) : if decide c = true then A else B := by
  by_cases h : c
  · exact wayT h (a h)
  · exact wayF h (b h)
theorem wayNT {c A B : Prop} [Decidable c] (h : c) (b : B) : if (!decide c) = true then A else B := by rw [decide_eq_true h]; exact iteF b
theorem dec_ii {a b : Int} : decide (V.int a = V.int b) = decide (a = b) := by simp
/-- the names of a comprehension's block within another scope -/
def relS (scope outer : Scope) : Scope := { scope with names := scope.names.map fun (n, k) => if (k == .free && outer.kind == .function && outer.names.lookup n == some .cell) then (n, .cell) else (n, k) }
/-- the ints that a comprehension over a range gives -/
def pick (n : Nat) (f : Nat → Bool) (g : Nat → Int) : List Int := ((List.range n).filter f).map g
theorem given_pick (n : Nat) (f : Nat → Bool) (g : Nat → Int) : given n f (fun i => V.int (g i)) = (pick n f g).map V.int := by
  unfold given pick
  rw [List.map_map]
  rfl
theorem pick_congr {n : Nat} {f f' : Nat → Bool} {g : Nat → Int} (h : ∀ i, i < n → f i = f' i) : pick n f g = pick n f' g := by
  unfold pick
  rw [List.filter_congr fun i hi => h i (List.mem_range.mp hi)]
theorem given_gen {α : Type} (d : α) (ps : List α) (p : α → Bool) (v : α → V) : given ps.length (fun i => p (ps.getD i d)) (fun i => v (ps.getD i d)) = (ps.filter p).map v := by
  induction ps with
  | nil => rfl
  | cons x xs ih =>
    unfold given at ih ⊢
    rw [List.length_cons, List.range_succ_eq_map, List.filter_cons, List.filter_map]
    have e : ∀ (z : List Nat), (z.filter ((fun i => p ((x :: xs).getD i d)) ∘ Nat.succ)) = z.filter fun i => p (xs.getD i d) := fun z => List.filter_congr fun i _ => by simp
    rw [e]
    by_cases hp : p x = true
    · rw [if_pos (by simpa using hp), List.filter_cons, if_pos hp, List.map_cons, List.map_cons, ← ih, List.map_map]
      simp
    · rw [if_neg (by simpa using hp), List.filter_cons, if_neg hp, ← ih, List.map_map]
      simp
/-- a comprehension over a list whose items stand for the things of ps, the target of any form -/
theorem el_lstG {α : Type} (d : α) {K : PySem.W.Frag} {σ : L2.St} {H : Hp} {te tl : TE} {tt : TT} {g : TG} {vs : List Nat} {a : Addr} (xs : List V) (ps : List α) (p : α → Bool) (v : α → V) (τ : α → L2.St)
    (h : Ev tl σ H (.ref a)) (hx : SqL K H a xs) (hl : xs.length = ps.length) (hz : ps.length ≤ 40000)
    (hg : ∀ (i : Nat) x y H1 (k : L2.St → Hp → Prop), Ex H H1 → xs[i]? = some x → ps[i]? = some y → k (τ y) H1 → g x (wipe σ vs) H1 k)
    (hw : ∀ y, wipe (τ y) vs = wipe σ vs) (ht : ∀ y H1, Ex H H1 → y ∈ ps → EvT tt (τ y) H1 (p y)) (he : ∀ y H1, Ex H H1 → y ∈ ps → p y = true → Ev te (τ y) H1 (v y)) :
    EvL (tLc (iList K tl) g tt te vs) σ H ((ps.filter p).map v) := by
  rw [← given_gen d ps p v]
  intro H0 e0 Q q
  refine h H0 e0 _ fun H1 e1 => ⟨a, rfl, ⟨xs, ex_l (e0.trans e1) hx⟩, fun D hD => ?_⟩
  refine lc_list (xs := xs) (Cw H1 (fun i => p (ps.getD i d)) (fun i => v (ps.getD i d)) D) ⟨hD, Ex.new hD, upd_same⟩ (fun i H' _ c => ex_l ((e0.trans e1).trans c.2.1) hx) (fun i x H' hi c => ?_)
    (fun H' c => by rw [hl] at c; exact q D H' (fresh_back e1 c.1) (e1.trans c.2.1) c.2.2)
  have hil : i < ps.length := by
    have := (List.getElem?_eq_some_iff.mp hi).1
    omega
  have hy : ps[i]? = some (ps.getD i d) := by rw [List.getD_eq_getElem?_getD, List.getElem?_eq_getElem hil]; rfl
  refine hg i x _ H' _ ((e0.trans e1).trans c.2.1) hi hy ⟨hw _, ?_⟩
  exact cw_turn c (by omega) (ht _ H1 (e0.trans e1) (List.mem_of_getElem? hy)) (fun hf => he _ H1 (e0.trans e1) (List.mem_of_getElem? hy) hf)
/-- an if without else, then what follows where M holds -/
theorem q_alt {b : Bool} {t : TT} {tu tz : TS} {D : Ends} {σ : L2.St} {H : Hp} (M : L2.St → Hp → Prop) (h : EvT t σ H b) (h1 : b = true → ∀ H1, Ex H H1 → ∀ W : L2.St → Hp → Prop, (∀ σ' H', M σ' H' → W σ' H') → tu { D with nx := W } σ H1)
    (h2 : b = false → ∀ H1, Ex H H1 → M σ H1) (k : ∀ σ' H', M σ' H' → tz D σ' H') : tSeq (tIfS t tu tNext) tz D σ H :=
  q_when h (fun hb H1 e1 => h1 hb H1 e1 _ k) (fun hb H1 e1 => k _ _ (h2 hb H1 e1))
theorem pick_succ {n : Nat} {f : Nat → Bool} {g : Nat → Int} : pick (n + 1) f g = pick n f g ++ (if f n = true then [g n] else []) := by
  unfold pick
  rw [List.range_succ, List.filter_append, List.map_append, List.filter_cons]
  by_cases h : f n = true
  · rw [if_pos h, if_pos h]; rfl
  · rw [if_neg h, if_neg h]; rfl
/-! ### rules whose reading says K by its own letter (within a comprehension's block too) -/
theorem ix_lK {X : Cx} {K : PySem.W.Frag} (h : X.K = K := by rfl) : IxR X (rIxL K) := by subst h; exact ix_list
theorem ix_tK {X : Cx} {K : PySem.W.Frag} (h : X.K = K := by rfl) : IxR X (rIxT K) := by subst h; exact ix_tup
theorem ix_sK {X : Cx} {K : PySem.W.Frag} (h : X.K = K := by rfl) : IxR X (rIx K) := by subst h; exact ix_seq
def rLenK (K : PySem.W.Frag) : List V → Hp → VK → Prop := fun xs H Q => ∃ x n, xs = [x] ∧ LenV K x H n ∧ Q (.int (n : Nat)) H
theorem len_K {X : Cx} {K : PySem.W.Frag} (h : X.K = K := by rfl) : CallR X (.builtin "len") (rLenK K) := by subst h; exact call_len
def rListK (K : PySem.W.Frag) : List V → Hp → VK → Prop := fun zs H Q => ∃ p ys, zs = [.ref p] ∧ (SqL K H p ys ∨ SqT K H p ys) ∧
  ∀ l, H l = none → Q (.ref l) (upd H l (.lst ys))
theorem list_K {X : Cx} {K : PySem.W.Frag} (h : X.K = K := by rfl) : CallR X (.type "list") (rListK K) := by subst h; exact call_list_of
theorem in_K {X : Cx} {K : PySem.W.Frag} (h : X.K = K := by rfl) : OpR X (compareOp .In) (rIn K false) := by subst h; exact op_in_seq
theorem notin_K {X : Cx} {K : PySem.W.Frag} (h : X.K = K := by rfl) : OpR X (compareOp .NotIn) (rIn K true) := by subst h; exact op_notIn_seq
theorem pe_fldK {X : Cx} {K : PySem.W.Frag} {e : Expr} {f : Str} {pos : Pos} {ta : TE} (he : PE X e ta) (hb : attributeBase e f X.env (eval e X.env) = eval e X.env) (hk : X.K = K := by rfl) : PE X (.Attribute e f pos) (tFld K ta f) := by subst hk; exact pe_fld he hb
theorem eqD_K {X : Cx} {K : PySem.W.Frag} (hu : X.A.units + 64 < cLine) (hk : X.K = K := by rfl) : OpR X (compareOp .Eq) (rEqD K) := by subst hk; exact op_eqD hu
theorem neD_K {X : Cx} {K : PySem.W.Frag} (hu : X.A.units + 64 < cLine) (hk : X.K = K := by rfl) : OpR X (compareOp .NotEq) (rNeD K) := by subst hk; exact op_neD hu
theorem isi_K {X : Cx} {K : PySem.W.Frag} (h : X.K = K := by rfl) : CallR X (.builtin "isinstance") (rIsi K) := by subst h; exact call_isi
/-! ### data -/
/-- data of a depth below n, of lists and tuples that are not too long -/
def Flat : Nat → PyData → Prop
  | 0, _ => False
  | n + 1, .list ds => ds.length ≤ 40000 ∧ ∀ d ∈ ds, Flat n d
  | n + 1, .tuple ds => ds.length ≤ 40000 ∧ ∀ d ∈ ds, Flat n d
  | _ + 1, .dict _ => False
  | _ + 1, _ => True
theorem dp_get {K : PySem.W.Frag} {H : Hp} : ∀ {xs : List V} {ds : List PyData}, DpAll K H xs ds → xs.length = ds.length ∧ ∀ (i : Nat) (d : PyData), ds[i]? = some d → ∃ x, xs[i]? = some x ∧ Dp K H x d
  | _, _, .nil => ⟨rfl, fun i d h => by simp at h⟩
  | _, _, .cons a r => by
    obtain ⟨l, g⟩ := dp_get r
    refine ⟨by simp [l], fun i d h => ?_⟩
    cases i with
    | zero => exact ⟨_, rfl, by simp at h; subst h; exact a⟩
    | succ i => simpa using g i d (by simpa using h)
theorem dp_ints {K : PySem.W.Frag} {H : Hp} : ∀ ns : List Int, DpAll K H (ns.map V.int) (ns.map PyData.int)
  | [] => .nil
  | n :: ns => .cons (.int n) (dp_ints ns)
mutual
theorem dp_ex {K : PySem.W.Frag} {H H' : Hp} (e : Ex H H') : ∀ {v : V} {d : PyData}, Dp K H v d → Dp K H' v d
  | _, _, .non => .non
  | _, _, .bl b => .bl b
  | _, _, .int i => .int i
  | _, _, .str x => .str x
  | _, _, .lst s a => .lst (ex_l e s) (dpa_ex e a)
  | _, _, .tup s a => .tup (ex_t e s) (dpa_ex e a)
theorem dpa_ex {K : PySem.W.Frag} {H H' : Hp} (e : Ex H H') : ∀ {vs : List V} {ds : List PyData}, DpAll K H vs ds → DpAll K H' vs ds
  | _, _, .nil => .nil
  | _, _, .cons a r => .cons (dp_ex e a) (dpa_ex e r)
end
theorem tyx_l {K : PySem.W.Frag} {H : Hp} {a : Addr} {xs : List V} (h : SqL K H a xs) : TyX K H (.ref a) (.type "list") := by
  rcases h with (h | ⟨o, h⟩) | ⟨o, its, n, h, c, _⟩
  · exact .base (.lst h)
  · exact .base (.frz h)
  · exact .kList h c
theorem tyx_t {K : PySem.W.Frag} {H : Hp} {a : Addr} {xs : List V} (h : SqT K H a xs) : TyX K H (.ref a) (.type "tuple") := by
  rcases h with (h | ⟨o, h⟩) | ⟨o, its, n, h, c, _⟩
  · exact .base (.tup h)
  · exact .fTuple h
  · exact .kTuple h c
/-- x is True, x is False, whatever x is -/
def rIsK : R2 := fun x y H Q => ∃ b : Bool, y = .bl b ∧ Q (.bl (decide (x = .bl b))) H
theorem op_isK {X : Cx} : OpR X (compareOp .Is) rIsK := by
  intro pins s σ H x y v u Q I rx ry h
  obtain ⟨b, hy, q⟩ := h
  subst hy
  cases (show u = Value.bool b from ry)
  have fin : ∀ k : Bool, k = decide (x = V.bl b) → EP X pins σ Q (.bool k) s := fun k e => ⟨.bl k, H, I, rfl, by rw [e]; exact q⟩
  cases x with
  | non => cases (show v = Value.none from rx); exact wpAny_is_other rfl (fun z => by cases z) (fin _ (by simp))
  | bl a =>
    cases (show v = Value.bool a from rx)
    by_cases e : a = b
    · subst e; exact wpAny_is_self rfl (fin _ (by simp))
    · exact wpAny_is_other rfl (fun z => e (Value.bool.inj z)) (fin _ (by simp [e]))
  | int i => obtain ⟨t, ev⟩ := rx; subst ev; exact wpAny_is_other rfl (fun z => by cases z) (fin _ (by simp))
  | str i => obtain ⟨t, ev⟩ := rx; subst ev; exact wpAny_is_other rfl (fun z => by cases z) (fin _ (by simp))
  | byt i => obtain ⟨t, ev⟩ := rx; subst ev; exact wpAny_is_other rfl (fun z => by cases z) (fin _ (by simp))
  | flt i => obtain ⟨t, ev⟩ := rx; subst ev; exact wpAny_is_other rfl (fun z => by cases z) (fin _ (by simp))
  | ref a => cases (show v = Value.ref a from rx); exact wpAny_is_other rfl (fun z => by cases z) (fin _ (by simp))
  | ty n => cases (show v = Value.type n from rx); exact wpAny_is_other rfl (fun z => by cases z) (fin _ (by simp))
theorem atI_ints {ns : List Int} {i : Int} (h0 : 0 ≤ i) (h1 : i < (ns.length : Int)) : atI (ns.map V.int) i = some (.int (ns.getD i.toNat 0)) := by
  obtain ⟨j, rfl⟩ : ∃ j : Nat, i = (j : Int) := ⟨i.toNat, by omega⟩
  refine atI_nat ?_
  have hj : j < ns.length := by omega
  rw [List.getElem?_map, Int.toNat_natCast, List.getD_eq_getElem?_getD, List.getElem?_eq_getElem hj]
  rfl
/-! ### a caught error with fields -/
def rIsX (K : PySem.W.Frag) (D a : Addr) (cls : Value) (d : Option Addr) : List V → Hp → VK → Prop := fun xs H Q => cls = .ref D ∧ ∃ (dd : Addr) (fs : List (Str × V)) (c : V) (cv : Value) (b : Bool),
  d = some dd ∧ H dd = some (.xd fs) ∧ xs = [.ref a, c] ∧ (∀ u, RelV c u → u = cv) ∧ PySem.W.kitOne K (.ref D) cv = some b ∧ Q (.bl b) H
theorem call_isX {X : Cx} {a D : Addr} {oe : Obj} {cls : Value} {d : Option Addr} {pn : List (Addr × Obj)} (C : ExcC X.K D) (hz : Zc cls d oe) (hf : ∃ vs, oe.data = .fields vs) : CallR (X.suite a ((a, oe) :: pn)) (.builtin "isinstance") (rIsX X.K D a cls d) := by
  intro pins sh σ H zs us Q I rr hq
  obtain ⟨ec, dd, fs, c, cv, b, ed, hx, ez, hcv, hk, q⟩ := hq
  subst ez
  obtain ⟨u1, u2, eu, r1, r2⟩ := vals2 rr
  subst eu
  cases (show u1 = Value.ref a from r1)
  have e2 := hcv _ r2
  subst e2
  obtain ⟨hget, _⟩ := I.pin (a, oe) (List.mem_append.mpr (.inl List.mem_cons_self))
  obtain ⟨vs, hv⟩ := hf
  have ho : ObjOk X.prog X.w H sh.heap dd (.xd fs) := I.hok dd _ hx
  obtain ⟨mA, hns, _⟩ := ho
  obtain ⟨od, hod, _⟩ := lookIn_ns hns
  obtain ⟨cd, hcd, _⟩ := PySem.W.any_some C.hd
  have hcl : (PySem.W.clsIn X.K D).isSome = true := by rw [hcd]; rfl
  have J : PySem.W.InstAt sh.heap a oe D (some od) := ⟨hget, hz.1.trans ec, by unfold PySem.W.notCls; rw [hv], by rw [hz.2, ed]; exact hod⟩
  exact PySem.W.kia_one (PySem.W.kitx_exc hcl C.hg C.hk C.hs C.ha C.hn C.ht C.hm) I.kIn J hk (fun z => nomatch z) fun tk => ⟨.bl b, H, I.tok tk, rfl, q⟩
def rIsN (K : PySem.W.Frag) (D a : Addr) (cls : Value) (d : Option Addr) : List V → Hp → VK → Prop := fun xs H Q => cls = .ref D ∧ d = none ∧ rIsE K D a xs H Q
theorem call_isN {X : Cx} {a D : Addr} {oe : Obj} {cls : Value} {d : Option Addr} {pn : List (Addr × Obj)} (C : ExcC X.K D) (hz : Zc cls d oe) (hf : ∃ vs, oe.data = .fields vs) : CallR (X.suite a ((a, oe) :: pn)) (.builtin "isinstance") (rIsN X.K D a cls d) := by
  intro pins s σ H xs us Q I r h
  obtain ⟨e1, e2, h⟩ := h
  subst e1 e2
  exact call_isE C hz hf pins s σ H xs us Q I r h
/-- X(), X an error class without __init__ -/
theorem pmk_none {X : Cx} {C : Addr} {bmB : List Value} {B newId initId : String} {x : Str} {p pos : Pos} (F : PySem.ExcBaseFacts B newId initId bmB) (q : PySem.W.excIn X.K C bmB newId = true) (gC : X.mg x = some (.ref C)) (kC : PySem.W.keepIn X.K (.ref C) = true)
    (r : Raises X (.ref C)) (hg : Gl X x) (hdb : (x == ("__debug__" : Str)) = false := by decide) : PMk X (.Call (.Name x p) [] [] pos) (fun _ H Q => Q (.ref C) none H) := by
  intro pins s σ H Q I h
  refine wpAny_Call_Name_kw (ld_glob I hg gC ?_ hdb)
  refine PySem.W.callWith_K0 I.kIn kC ?_
  obtain ⟨bm, N, nm, qn, bs, hdct, sn, sub, ab, col, dd, k0, k1, k2, k3, k5, mN, hC, hN, hni, T⟩ := exc_obj I.kIn q
  refine wpAny_call_exc_subT F T hC hN hni (fun h' e hm => ?_) (Nat.zero_le _)
  exact mk_of I hm r h (I.hok.gone hm.new)
/-- a list drawn by a menu -/
def Drawn (ms ds : List Int) : Prop := ds.length = ms.length ∧ ∀ (i : Nat) (m : Int), ms[i]? = some m → ∃ d : Int, ds[i]? = some d ∧ 0 ≤ d ∧ d < m
theorem kitCls_own {K : PySem.W.Frag} {t : Value} {C : Addr} (hd : PySem.W.hasDictIn K C = true) (ty : PySem.W.typeIn K (.ref C) = some (.type "type")) : PySem.W.kitCls K t (.ref C) = PySem.W.subIn K t (.ref C) := by
  obtain ⟨cd, hc, _⟩ := PySem.W.any_some hd
  unfold PySem.W.kitCls
  simp [hc, ty]
theorem kit_self {K : PySem.W.Frag} {t : Value} : PySem.W.kitOne K t t = some true := by
  unfold PySem.W.kitOne
  rw [if_pos (beq_self_eq_true t)]
theorem kit_yes {K : PySem.W.Frag} {t : Value} {C : Addr} (hd : PySem.W.hasDictIn K C = true) (ty : PySem.W.typeIn K (.ref C) = some (.type "type")) (s : PySem.W.subIn K t (.ref C) = some true) : PySem.W.kitOne K t (.ref C) = some true := by
  unfold PySem.W.kitOne
  split
  · rfl
  · rw [kitCls_own hd ty]; exact s
theorem kit_no {K : PySem.W.Frag} {t : Value} {C : Addr} (hd : PySem.W.hasDictIn K C = true) (ty : PySem.W.typeIn K (.ref C) = some (.type "type")) (me : PySem.W.subIn K (.ref C) (.ref C) = some true) (s : PySem.W.subIn K t (.ref C) = some false) : PySem.W.kitOne K t (.ref C) = some false := by
  unfold PySem.W.kitOne
  split
  · rename_i e
    rw [beq_iff_eq] at e
    rw [e, me] at s
    cases s
  · rw [kitCls_own hd ty]; exact s
theorem kit_bi {K : PySem.W.Frag} {C : Addr} {n : String} {b : Bool} (hm : PySem.W.kitMeta n = true) (s : PySem.W.subIn K (.ref C) (.type n) = some b) : PySem.W.kitOne K (.ref C) (.type n) = some b := by
  unfold PySem.W.kitOne PySem.W.kitCls
  rw [if_neg (by simp)]
  show (if PySem.W.kitMeta n = true then PySem.W.subIn K (.ref C) (.type n) else none) = some b
  rw [if_pos hm]
  exact s
/-! ### own errors with one field and with two -/
def spErr1 (K : PySem.W.Frag) (C : Addr) (f : Str) : Sp := fun vs H Q _ => ∃ (a : Addr) (x : V), vs = [.ref a, x] ∧ OexC K C ∧ H a = some (exo a C none) ∧ ∀ d, H d = none → d ≠ a → Q .non (upd (upd H d (exd d [(f, x)])) a (exo a C (some d)))
def spErr2 (K : PySem.W.Frag) (C : Addr) (f g : Str) : Sp := fun vs H Q _ => ∃ (a : Addr) (x y : V), vs = [.ref a, x, y] ∧ OexC K C ∧ H a = some (exo a C none) ∧
  ∀ d, H d = none → d ≠ a → Q .non (upd (upd (upd H d (exd d [(f, x)])) a (exo a C (some d))) d (exd d [(g, y), (f, x)]))
theorem raise1 {K : PySem.W.Frag} {C : Addr} {f : Str} {H : Hp} {E : XK} {σ : L2.St} {ta : TA} {x : V} (hC : OexC K C) (hta : ∀ Q : List V → Hp → Prop, Q [x] H → ta σ H Q)
    (k : ∀ d H', Ex H H' → H' d = some (.xd [(f, x)]) → E (.ref C) (some d) H') : tMkO C (spErr1 K C f) [] ta σ H E := by
  refine hta _ ⟨by show (1 : Nat) ≤ 1000; decide, fun a ha => ⟨a, x, rfl, hC, upd_same, fun d hd hne => ?_⟩⟩
  have hd' : H d = none := by rw [upd_ne hne] at hd; exact hd
  have han : a ≠ d := fun e => hne e.symm
  refine ⟨rfl, d, _, upd_same, ?_, hd', k d _ (fun b o hb => ?_) upd_same⟩
  · rw [upd_ne hne, upd_same]
  · have h1 : b ≠ a := ne_of_none hb ha
    have h2 : b ≠ d := ne_of_none hb hd'
    rw [upd_ne h2, del_ne h1, upd_ne h1, upd_ne h2, upd_ne h1]
    exact hb
theorem raise2 {K : PySem.W.Frag} {C : Addr} {f g : Str} {H : Hp} {E : XK} {σ : L2.St} {ta : TA} {x y : V} (hC : OexC K C) (hta : ∀ Q : List V → Hp → Prop, Q [x, y] H → ta σ H Q)
    (k : ∀ d H', Ex H H' → H' d = some (.xd [(g, y), (f, x)]) → E (.ref C) (some d) H') : tMkO C (spErr2 K C f g) [] ta σ H E := by
  refine hta _ ⟨by show (2 : Nat) ≤ 1000; decide, fun a ha => ⟨a, x, y, rfl, hC, upd_same, fun d hd hne => ?_⟩⟩
  have hd' : H d = none := by rw [upd_ne hne] at hd; exact hd
  have han : a ≠ d := fun e => hne e.symm
  refine ⟨rfl, d, _, ?_, upd_same, hd', k d _ (fun b o hb => ?_) upd_same⟩
  · rw [upd_ne han, upd_same]
  · have h1 : b ≠ a := ne_of_none hb ha
    have h2 : b ≠ d := ne_of_none hb hd'
    rw [upd_ne h2, del_ne h1, upd_ne h2, upd_ne h1, upd_ne h2, upd_ne h1]
    exact hb
/-- what a cell of the script is worth -/
def cellA (ns : List Int) (k : Nat) : Int := if k < ns.length then (if ns.getD k 0 < 0 then - ns.getD k 0 else ns.getD k 0) else 0
theorem cellA_nn (ns : List Int) (k : Nat) : 0 ≤ cellA ns k := by
  unfold cellA
  split
  · split <;> omega
  · omega
/-! ### evaluation with a property; loops over what a call gives -/
def EvR (te : TE) (σ : L2.St) (H : Hp) (P : V → Hp → Prop) : Prop := ∀ H1, Ex H H1 → ∀ Q : VK, (∀ v H2, Ex H1 H2 → P v H2 → Q v H2) → te σ H1 Q
theorem er_ev {te : TE} {σ : L2.St} {H : Hp} {v : V} {P : V → Hp → Prop} (h : Ev te σ H v) (hp : ∀ H1, Ex H H1 → P v H1) : EvR te σ H P := fun H1 e Q q => h H1 e Q fun H2 e2 => q v H2 e2 (hp H2 (e.trans e2))
theorem EvR.mono {te : TE} {σ : L2.St} {H H' : Hp} {P : V → Hp → Prop} (e : Ex H H') (h : EvR te σ H P) : EvR te σ H' P := fun H1 a Q q => h H1 (e.trans a) Q q
theorem EvR.imp {te : TE} {σ : L2.St} {H : Hp} {P P' : V → Hp → Prop} (h : EvR te σ H P) (i : ∀ v H1, P v H1 → P' v H1) : EvR te σ H P' := fun H1 a Q q => h H1 a Q fun v H2 e p => q v H2 e (i v H2 p)
theorem er_L {te : TE} {σ : L2.St} {H : Hp} {xs : List V} (h : EvL te σ H xs) : EvR te σ H fun v H1 => ∃ p, v = .ref p ∧ H1 p = some (.lst xs) := fun H1 e Q q => h H1 e Q fun p H2 _ e2 hp => q _ H2 e2 ⟨p, rfl, hp⟩
theorem s_asgR {te : TE} {D : Ends} {σ : L2.St} {H : Hp} {i : Nat} {P : V → Hp → Prop} (h : EvR te σ H P) (k : ∀ v H1, Ex H H1 → P v H1 → D.nx (σ.set i (some v)) H1) : tAsg te (gName i) D σ H := h H (Ex.refl H) _ fun v H1 e p => k v H1 e p
theorem q_asgR {te : TE} {tz : TS} {D : Ends} {σ : L2.St} {H : Hp} {i : Nat} {P : V → Hp → Prop} (h : EvR te σ H P) (k : ∀ v H1, Ex H H1 → P v H1 → tz D (σ.set i (some v)) H1) : tSeq (tAsg te (gName i)) tz D σ H := s_asgR (D := { D with nx := tz D }) h k
theorem ev_int {σ : L2.St} {H : Hp} {te : TE} {z : Int} (h : Ev te σ H (.int z)) : Ev (tCB (fun xs H Q => (∃ i, xs = [V.int i] ∧ Q (V.int i) H) ∨ ∃ k, xs = [V.bl k] ∧ Q (V.int (if k = true then 1 else 0)) H) (tCons te tNil)) σ H (.int z) :=
  ev_cb (ea_cons h ea_nil) fun H1 _ _ q => .inl ⟨_, rfl, q H1 (Ex.refl H1)⟩
theorem el_rep {σ : L2.St} {H : Hp} {te tn : TE} {z k : Int} (h : Ev te σ H (.int z)) (hn : Ev tn σ H (.int k)) (hk : 0 ≤ k ∧ k ≤ 100000) : EvL (tOp rRep (tLst (tCons te tNil)) tn) σ H ((List.replicate k.toNat z).map V.int) := fun H1 e Q q =>
  el_lst (ea_cons h ea_nil) (by show 1 ≤ 100000; decide) H1 e _ fun p H2 hp e2 h2 => hn H2 (e.trans e2) _ fun H3 e3 => ⟨p, k, [.int z], rfl, rfl, e3 _ _ h2, by omega, by omega, by
    show 1 * k.toNat ≤ sizeLine
    exact Nat.le_trans (show 1 * k.toNat ≤ 100000 by omega) (by decide), fun l hl => q l _ (fresh_back (e2.trans e3) hl) ((e2.trans e3).trans (Ex.new hl)) (by
    rw [upd_same]
    have rp : ∀ m : Nat, (List.replicate m [V.int z]).flatten = (List.replicate m z).map V.int := fun m => by
      induction m with
      | zero => rfl
      | succ m ih => rw [List.replicate_succ, List.flatten_cons, ih, List.replicate_succ, List.map_cons]; rfl
    rw [rp])⟩
theorem er_call {sp : Sp} {dvs vs : List V} {E : XK} {ta : TA} {σ : L2.St} {H : Hp} {P : V → Hp → Prop} (h : EvA ta σ H vs) (hs : ∀ H1, Ex H H1 → ∀ Q : VK, (∀ v H2, Ex H1 H2 → P v H2 → Q v H2) → sp (vs ++ dvs) H1 Q E) : EvR (tCall sp dvs E ta) σ H P :=
  fun H1 e Q q => h H1 e _ fun H2 e2 => hs H2 (e.trans e2) Q fun v H3 e3 p => q v H3 (e2.trans e3) p
theorem atI_last {α : Type} {xs : List α} {z : α} (h : xs.getLast? = some z) : atI xs (-1) = some z := by
  cases xs with
  | nil => cases h
  | cons x r =>
    rw [List.getLast?_eq_getElem?] at h
    unfold atI ixN
    rw [if_neg (by omega), if_pos (by rw [List.length_cons]; omega)]
    show (x :: r)[((-1 : Int) + ((x :: r).length : Int)).toNat]? = some z
    rw [← h]
    congr 1
    rw [List.length_cons]
    omega
/-- an if whose test fails -/
theorem q_skip {t : TT} {tu tz : TS} {D : Ends} {σ : L2.St} {H : Hp} (h : EvT t σ H false) (k : ∀ H1, Ex H H1 → tz D σ H1) : tSeq (tIfS t tu tNext) tz D σ H := q_when h (fun z => Bool.noConfusion z) fun _ H1 e => k H1 e
theorem et_notT {t : TT} {σ : L2.St} {H : Hp} (h : EvT t σ H true) : EvT (tNot t) σ H false := et_not h
theorem et_orF {t u : TT} {σ : L2.St} {H : Hp} (h : EvT t σ H false) (h2 : EvT u σ H false) : EvT (tOr t u) σ H false := et_or h fun _ => h2
/-! ### new things: what holds of them in each heap that has what is new -/
def NewP (P : Hp → Prop) (H H' : Hp) : Prop := ∀ G : Hp, (∀ b o, H b = none → H' b = some o → G b = some o) → P G
def EvNew (te : TE) (σ : L2.St) (H : Hp) (P : V → Hp → Prop) : Prop := ∀ H1, Ex H H1 → ∀ Q : VK, (∀ v H2, Ex H1 H2 → NewP (P v) H1 H2 → Q v H2) → te σ H1 Q
theorem NewP.self {P : Hp → Prop} {H H' : Hp} (h : NewP P H H') : P H' := h H' fun _ _ _ e => e
theorem NewP.out {P : Hp → Prop} {H H1 H2 H3 : Hp} (h : NewP P H1 H2) (e : Ex H H1) (e' : Ex H2 H3) : NewP P H H3 := fun G g => h G fun b o h1 h2 => g b o (fresh_back e h1) (e' _ _ h2)
theorem EvNew.er {te : TE} {σ : L2.St} {H : Hp} {P : V → Hp → Prop} (h : EvNew te σ H P) : EvR te σ H P := fun H1 e Q q => h H1 e Q fun v H2 e2 n => q v H2 e2 n.self
theorem EvNew.imp {te : TE} {σ : L2.St} {H : Hp} {P P' : V → Hp → Prop} (h : EvNew te σ H P) (i : ∀ v G, P v G → P' v G) : EvNew te σ H P' := fun H1 e Q q => h H1 e Q fun v H2 e2 n => q v H2 e2 fun G g => i v G (n G g)
theorem en_L {te : TE} {σ : L2.St} {H : Hp} {xs : List V} (h : EvL te σ H xs) : EvNew te σ H fun v G => ∃ p, v = .ref p ∧ G p = some (.lst xs) := fun H1 e Q q => h H1 e Q fun p H2 hp e2 h2 => q _ H2 e2 fun G g => ⟨p, rfl, g p _ hp h2⟩
/-- what a comprehension keeps: its list at D, each item with its property whatever D holds -/
def Kept (P : Nat → V → Hp → Prop) (H1 : Hp) (D : Addr) (i : Nat) (H : Hp) : Prop := H1 D = none ∧ Ex H1 H ∧ ∃ vs : List V, H D = some (.lst vs) ∧ vs.length = i ∧ ∀ (k : Nat) x, vs[k]? = some x → ∀ G : Hp, (∀ b o, b ≠ D → H1 b = none → H b = some o → G b = some o) → P k x G
theorem kept_turn {P : Nat → V → Hp → Prop} {H1 H : Hp} {D : Addr} {i : Nat} {te : TE} {σ2 : L2.St} (p : Kept P H1 D i H) (hi : i < 50000) (he : EvNew te σ2 H1 (P i)) :
    tYes σ2 H fun b H3 => if b = true then te σ2 H3 fun y H4 => ∃ acc, H4 D = some (.lst acc) ∧ acc.length < sizeLine ∧ Kept P H1 D (i + 1) (upd H4 D (.lst (acc ++ [y]))) else Kept P H1 D (i + 1) H3 := by
  obtain ⟨p1, p2, vs, p3, p4, p5⟩ := p
  show te σ2 H fun y H4 => ∃ acc, H4 D = some (.lst acc) ∧ acc.length < sizeLine ∧ Kept P H1 D (i + 1) (upd H4 D (.lst (acc ++ [y])))
  refine he H p2 _ fun y H4 e4 hy => ⟨vs, e4 _ _ p3, sz_lt (by omega), p1, Ex.mut (p2.trans e4) p1, vs ++ [y], upd_same, by simp [p4], fun k x hk G g => ?_⟩
  by_cases hki : k < vs.length
  · rw [List.getElem?_append_left hki] at hk
    exact p5 k x hk G fun b o hb h1 h2 => g b o hb h1 (by rw [upd_ne hb]; exact e4 _ _ h2)
  · have hlt := (List.getElem?_eq_some_iff.mp hk).1
    rw [List.length_append] at hlt
    have hlt' : k < vs.length + 1 := hlt
    have e : k = i := by omega
    subst e
    rw [List.getElem?_append_right (by omega), ← p4, Nat.sub_self] at hk
    cases hk
    refine hy G fun b o h1 h2 => ?_
    have hb : b ≠ D := fun e => by rw [e, p3] at h1; cases h1
    exact g b o hb (fresh_back p2 h1) (by rw [upd_ne hb]; exact h2)
theorem kept_end {P : Nat → V → Hp → Prop} {H1 H : Hp} {D : Addr} {n : Nat} (p : Kept P H1 D n H) : NewP (fun G => ∃ vs : List V, G D = some (.lst vs) ∧ vs.length = n ∧ ∀ (k : Nat) x, vs[k]? = some x → P k x G) H1 H := fun G g => by
  obtain ⟨p1, p2, vs, p3, p4, p5⟩ := p
  exact ⟨vs, g D _ p1 p3, p4, fun k x hk => p5 k x hk G fun b o _ h1 h2 => g b o h1 h2⟩
/-- a list whose items have a property -/
def ListP (n : Nat) (P : Nat → V → Hp → Prop) (v : V) (G : Hp) : Prop := ∃ (p : Addr) (vs : List V), v = .ref p ∧ G p = some (.lst vs) ∧ vs.length = n ∧ ∀ (k : Nat) x, vs[k]? = some x → P k x G
theorem en_lcR1 {σ : L2.St} {H : Hp} {te : TE} {ta : TA} {j : Nat} {vs : List Nat} {n : Int} (P : Nat → V → Hp → Prop) (h : EvA ta σ H [.int n]) (hn : 0 ≤ n ∧ n ≤ 40000) (hw : ∀ x, wipe ((wipe σ vs).set j (some x)) vs = wipe σ vs)
    (he : ∀ (i : Nat) H1, Ex H H1 → (i : Int) < n → EvNew te ((wipe σ vs).set j (some (.int (i : Int)))) H1 (P i)) : EvNew (tLc (iRng1 ta) (gName j) tYes te vs) σ H (ListP n.toNat P) := fun H0 e Q q => h H0 e _ fun H1 e1 => ⟨n, rfl, by omega, by omega, fun Dl hD =>
  lc_range (lo := 0) (n := n.toNat) (Kept P H1 Dl) ⟨hD, Ex.new hD, [], upd_same, rfl, fun k x hk => by cases hk⟩ (fun i H' hi p => by
    have e0 : (0 : Int) + (i : Int) = (i : Int) := Int.zero_add _
    show wipe ((wipe σ vs).set j (some (.int ((0 : Int) + (i : Int))))) vs = wipe σ vs ∧ tYes ((wipe σ vs).set j (some (.int ((0 : Int) + (i : Int))))) H' fun b H3 => if b = true then te ((wipe σ vs).set j (some (.int ((0 : Int) + (i : Int))))) H3 fun y H4 => ∃ acc, H4 Dl = some (.lst acc) ∧ acc.length < sizeLine ∧ Kept P H1 Dl (i + 1) (upd H4 Dl (.lst (acc ++ [y]))) else Kept P H1 Dl (i + 1) H3
    rw [e0]
    exact ⟨hw _, kept_turn p (by omega) (he i H1 (e.trans e1) (by omega))⟩)
    (fun H' p => q _ H' (e1.trans p.2.1) fun G g => by
      obtain ⟨ws, h1, h2, h3⟩ := (kept_end p).out e1 (Ex.refl _) G g
      exact ⟨Dl, ws, rfl, h1, h2, h3⟩)⟩
/-! ### order of data -/
/-! ### what holds of a value in each heap that has what stood before and what is new -/
def Since (H H' G : Hp) : Prop := ∀ b o, H b = none → H' b = some o → G b = some o
def EvB (te : TE) (σ : L2.St) (H : Hp) (P : V → Hp → Prop) : Prop := ∀ H1, Ex H H1 → ∀ Q : VK, (∀ v H2, Ex H1 H2 → (∀ G, Ex H G → Since H1 H2 G → P v G) → Q v H2) → te σ H1 Q
theorem EvNew.eb {te : TE} {σ : L2.St} {H : Hp} {P : V → Hp → Prop} (h : EvNew te σ H P) : EvB te σ H P := fun H1 e Q q => h H1 e Q fun v H2 e2 n => q v H2 e2 fun G _ g => n G g
theorem eb_ev {te : TE} {σ : L2.St} {H : Hp} {v : V} {P : V → Hp → Prop} (h : Ev te σ H v) (p : ∀ G, Ex H G → P v G) : EvB te σ H P := fun H1 e Q q => h H1 e Q fun H2 e2 => q v H2 e2 fun G a _ => p G a
theorem eb_L {K : PySem.W.Frag} {te : TE} {σ : L2.St} {H : Hp} {xs : List V} (h : EvL te σ H xs) : EvB te σ H fun v G => ∃ p, v = .ref p ∧ SqL K G p xs := ((en_L h).imp fun v G ⟨p, a, b⟩ => ⟨p, a, sq_of b⟩).eb
theorem eb_held {K : PySem.W.Frag} {σ : L2.St} {H : Hp} {i : Nat} {p : Addr} {xs : List V} (h : σ[i]? = some (some (.ref p))) (hp : SqL K H p xs) : EvB (tVar i) σ H fun v G => ∃ p, v = .ref p ∧ SqL K G p xs := eb_ev (ev_var h) fun G e => ⟨p, rfl, ex_l e hp⟩
/-! ### what is walked, whatever it is -/
def EvI (wi : TI) (σ : L2.St) (H : Hp) (n : Nat) (Y : Nat → Hp → V → Hp → Prop) : Prop := ∀ H1, Ex H H1 → ∀ R : It → Hp → Prop, (∀ J H2, Ex H1 H2 → Walk J n (fun G => Ex H G ∧ Since H1 H2 G) Y → R J H2) → wi σ H1 R
theorem ei_list {K : PySem.W.Frag} {σ : L2.St} {H : Hp} {tl : TE} {xs : List V} (h : EvB tl σ H fun v G => ∃ p, v = .ref p ∧ SqL K G p xs) : EvI (iList K tl) σ H xs.length (YAt xs) := fun H1 e R r => h H1 e _ fun v H2 e2 hv => by
  obtain ⟨a, rfl, hx⟩ := hv H2 (e.trans e2) fun _ _ _ z => z
  exact ⟨a, rfl, ⟨xs, hx⟩, r _ _ e2 (walk_list.mono (fun G g => by
    obtain ⟨b, eb, hb⟩ := hv G g.1 g.2
    cases eb
    exact hb) fun _ _ _ _ _ _ y => y)⟩
theorem ei_tup {K : PySem.W.Frag} {σ : L2.St} {H : Hp} {tl : TE} {xs : List V} (h : EvB tl σ H fun v G => ∃ p, v = .ref p ∧ SqT K G p xs) : EvI (iTup K tl) σ H xs.length (YAt xs) := fun H1 e R r => h H1 e _ fun v H2 e2 hv => by
  obtain ⟨a, rfl, hx⟩ := hv H2 (e.trans e2) fun _ _ _ z => z
  exact ⟨a, rfl, ⟨xs, hx⟩, r _ _ e2 (walk_tup.mono (fun G g => by
    obtain ⟨b, eb, hb⟩ := hv G g.1 g.2
    cases eb
    exact hb) fun _ _ _ _ _ _ y => y)⟩
theorem ei_rng1 {σ : L2.St} {H : Hp} {ta : TA} {n : Int} (h : EvA ta σ H [.int n]) (hn : -100000 ≤ n ∧ n ≤ 100000) : EvI (iRng1 ta) σ H n.toNat (YFn fun i => .int (i : Int)) := fun H1 e R r => h H1 e _ fun H2 e2 =>
  ⟨n, rfl, by omega, by omega, r _ _ e2 (walk_range.mono (fun _ _ => True.intro) fun i G x G' _ _ y => ⟨y.1, by rw [y.2]; simp⟩)⟩
theorem walk_ex {J : It} {n : Nat} {H H1 H2 : Hp} {Y : Nat → Hp → V → Hp → Prop} (e : Ex H H1) (e2 : Ex H1 H2) (w : Walk J n (fun G => Ex H G ∧ Since H1 H2 G) Y) : Walk J n (Ex H2) Y := w.mono (fun G g => ⟨(e.trans e2).trans g, fun b o _ z => g _ _ z⟩) fun _ _ _ _ _ _ y => y
/-- what a target binds at each turn -/
def BdG (g : TG) (σ : L2.St) (n : Nat) (Y : Nat → Hp → V → Hp → Prop) (τ : Nat → L2.St) : Prop := ∀ i H x H' (k : L2.St → Hp → Prop), i < n → Y i H x H' → (Ex H H' → k (τ i) H') → g x σ H' k
theorem bd_at {σ : L2.St} {n j : Nat} {xs : List V} : BdG (gName j) σ n (YAt xs) fun i => σ.set j (xs[i]?) := fun i H x H' k _ y c => by
  obtain ⟨rfl, hx⟩ := y
  show k (σ.set j (some x)) H'
  rw [← hx]
  exact c (Ex.refl _)
theorem bd_fn {σ : L2.St} {n j : Nat} {f : Nat → V} : BdG (gName j) σ n (YFn f) fun i => σ.set j (some (f i)) := fun i H x H' k _ y c => by
  obtain ⟨rfl, rfl⟩ := y
  exact c (Ex.refl _)
section
variable {wi : TI} {g : TG} {tt : TT} {te : TE} {tu tz : TS} {σ : L2.St} {H : Hp} {D : Ends} {n : Nat} {Y : Nat → Hp → V → Hp → Prop} {vs : List Nat} {τ : Nat → L2.St}
theorem s_forI (h : EvI wi σ H n Y) (k : ∀ H2, Ex H H2 → ∃ Pv : Nat → L2.St → Hp → Prop, Pv 0 σ H2 ∧ (∀ i σ' H', i ≤ n → Pv i σ' H' → Ex H2 H') ∧
    (∀ i x σ' H' H'', i < n → Pv i σ' H' → Y i H' x H'' → g x σ' H'' fun σ2 H3 => tu { D with nx := Pv (i + 1), ct := Pv (i + 1), bk := D.nx } σ2 H3) ∧ ∀ σ' H', Pv n σ' H' → D.nx σ' H') : tFor wi g tu D σ H :=
  h H (Ex.refl H) _ fun J H2 e2 w => by
    obtain ⟨Pv, h0, hG, hs, hd⟩ := k H2 e2
    exact for_it (walk_ex (Ex.refl H) e2 w) Pv h0 hG (fun i x σ' H' H'' hi p y => hs i x σ' H' H'' hi p y) hd
theorem q_forI (h : EvI wi σ H n Y) (k : ∀ H2, Ex H H2 → ∃ Pv : Nat → L2.St → Hp → Prop, Pv 0 σ H2 ∧ (∀ i σ' H', i ≤ n → Pv i σ' H' → Ex H2 H') ∧
    (∀ i x σ' H' H'', i < n → Pv i σ' H' → Y i H' x H'' → g x σ' H'' fun σ2 H3 => tu { D with nx := Pv (i + 1), ct := Pv (i + 1), bk := tz D } σ2 H3) ∧ ∀ σ' H', Pv n σ' H' → tz D σ' H') : tSeq (tFor wi g tu) tz D σ H := s_forI (D := { D with nx := tz D }) h k
/-- a comprehension that tests and tells plain values -/
theorem el_lc (f : Nat → Bool) (v : Nat → V) (h : EvI wi σ H n Y) (hn : n ≤ 40000) (hb : BdG g (wipe σ vs) n Y τ) (hw : ∀ i, i < n → wipe (τ i) vs = wipe σ vs)
    (ht : ∀ i H1, i < n → Ex H H1 → EvT tt (τ i) H1 (f i)) (he : ∀ i H1, i < n → Ex H H1 → f i = true → Ev te (τ i) H1 (v i)) : EvL (tLc wi g tt te vs) σ H (given n f v) := fun H0 e0 Q q =>
  h H0 e0 _ fun J H2 e2 w Dl hD => lc_it (walk_ex e0 e2 w) (Cw H2 f v Dl) ⟨hD, Ex.new hD, upd_same⟩ (fun i H' _ c => c.2.1)
    (fun i x H' H'' hi c y => hb i H' x H'' _ hi y fun e => ⟨hw i hi, by
      have c' : Cw H2 f v Dl i H'' := ⟨c.1, c.2.1.trans e, e _ _ c.2.2⟩
      exact cw_turn c' (by omega) (ht i H2 hi (e0.trans e2)) (fun hf => he i H2 hi (e0.trans e2) hf)⟩)
    (fun H' c => q Dl H' (fresh_back e2 c.1) (e2.trans c.2.1) c.2.2)
/-- .. that tells new things -/
theorem en_lc (P : Nat → V → Hp → Prop) (h : EvI wi σ H n Y) (hn : n ≤ 40000) (hb : BdG g (wipe σ vs) n Y τ) (hw : ∀ i, i < n → wipe (τ i) vs = wipe σ vs)
    (he : ∀ i H1, i < n → Ex H H1 → EvNew te (τ i) H1 (P i)) : EvNew (tLc wi g tYes te vs) σ H (ListP n P) := fun H0 e0 Q q =>
  h H0 e0 _ fun J H2 e2 w Dl hD => lc_it (walk_ex e0 e2 w) (Kept P H2 Dl) ⟨hD, Ex.new hD, [], upd_same, rfl, fun k x hk => by cases hk⟩ (fun i H' _ c => c.2.1)
    (fun i x H' H'' hi c y => hb i H' x H'' _ hi y fun e => ⟨hw i hi, by
      obtain ⟨c1, c2, us, c3, c4, c5⟩ := c
      have c' : Kept P H2 Dl i H'' := ⟨c1, c2.trans e, us, e _ _ c3, c4, fun k z hk G gg => c5 k z hk G fun b o hb h1 h2 => gg b o hb h1 (e _ _ h2)⟩
      exact kept_turn c' (by omega) (he i H2 hi (e0.trans e2))⟩)
    (fun H' c => q _ H' (e2.trans c.2.1) fun G gg => by
      obtain ⟨ws, h1, h2, h3⟩ := (kept_end c).out e2 (Ex.refl _) G gg
      exact ⟨Dl, ws, rfl, h1, h2, h3⟩)
theorem given_all {n : Nat} {v : Nat → V} : given n (fun _ => true) v = (List.range n).map v := by
  unfold given
  rw [List.filter_eq_self.mpr fun _ _ => rfl]
theorem yes_T : EvT tYes σ H true := fun H1 _ Q q => q H1 (Ex.refl H1)
end
theorem pi_listK {X : Cx} {K : PySem.W.Frag} {tg l : Expr} {tl : TE} (hl : PE X l tl) (hk : X.K = K := by rfl) : PI X tg l (iList K tl) := by subst hk; exact pi_list hl
/-! ### lots -/
def lotF (n : Int) (l : Addr) : List (Str × V) := [("hours", .int n), ("_members", .ref l)]
/-- v is a lot of n hours with the members ms -/
def LotAt (C : Addr) (H : Hp) (v : V) (n : Int) (ms : List Int) : Prop := ∃ a dx l, v = .ref a ∧ H a = some (.ins C dx (lotF n l)) ∧ H l = some (.lst (ms.map V.int))
theorem LotAt.ex {C : Addr} {H H' : Hp} {v : V} {n : Int} {ms : List Int} (e : Ex H H') (h : LotAt C H v n ms) : LotAt C H' v n ms := by
  obtain ⟨a, dx, l, rfl, h1, h2⟩ := h
  exact ⟨a, dx, l, rfl, e _ _ h1, e _ _ h2⟩
/-- the first residue that was seen before -/
def scanR (n : Int) : List Int → List Int → Option Int
  | _, [] => none
  | seen, m :: r => if m % n ∈ seen then some (m % n) else scanR n (seen ++ [m % n]) r
def resid (n : Int) (S : List Int) : List Int := pick n.toNat (fun h => decide ((h : Int) ∈ S)) fun h => (h : Int)
def flags (N : Nat) (S : List Int) : List V := (List.range N).map fun h : Nat => V.bl (decide ((h : Int) ∈ S))
theorem flags_nil (N : Nat) : (List.replicate N [V.bl false]).flatten = flags N [] := by
  unfold flags
  induction N with
  | zero => rfl
  | succ N ih =>
    rw [List.range_succ, List.map_append, ← ih, List.replicate_succ', List.flatten_append]
    simp
theorem flags_get {N : Nat} {S : List Int} {j : Nat} (h : j < N) : (flags N S)[j]? = some (.bl (decide ((j : Int) ∈ S))) := by
  unfold flags
  rw [List.getElem?_map, List.getElem?_range h]
  rfl
theorem flags_len {N : Nat} {S : List Int} : (flags N S).length = N := by
  unfold flags
  rw [List.length_map, List.length_range]
theorem flags_set {N : Nat} {S : List Int} {j : Nat} (h : j < N) : (flags N S).set j (.bl true) = flags N (S ++ [(j : Int)]) := by
  refine List.ext_getElem? fun i => ?_
  by_cases hi : i < N
  · rw [flags_get hi]
    by_cases e : i = j
    · subst e
      rw [List.getElem?_set_self (by rw [flags_len]; exact hi)]
      simp
    · rw [List.getElem?_set_ne (by omega), flags_get hi]
      have : ¬ (i : Int) = (j : Int) := by omega
      simp [this]
  · rw [List.getElem?_eq_none (by rw [List.length_set, flags_len]; omega), List.getElem?_eq_none (by rw [flags_len]; omega)]
theorem el_rng1 {σ : L2.St} {H : Hp} {te : TE} {tt : TT} {ta : TA} {j : Nat} {vs : List Nat} {n : Int} (f : Nat → Bool) (v : Nat → V) (h : EvA ta σ H [.int n]) (hn : 0 ≤ n ∧ n ≤ 40000)
    (hw : ∀ x, wipe ((wipe σ vs).set j (some x)) vs = wipe σ vs)
    (ht : ∀ (i : Nat) H1, Ex H H1 → (i : Int) < n → EvT tt ((wipe σ vs).set j (some (.int (i : Int)))) H1 (f i))
    (he : ∀ (i : Nat) H1, Ex H H1 → (i : Int) < n → f i = true → Ev te ((wipe σ vs).set j (some (.int (i : Int)))) H1 (v i)) :
    EvL (tLc (iRng1 ta) (gName j) tt te vs) σ H (given n.toNat f v) := el_lcR1 f v h hn hw ht he
theorem putF2 {y z : V} : putF "_members" z (putF "hours" y []) = [(("hours" : Str), y), (("_members" : Str), z)] := by
  have h : ¬ ("hours" : Str) = "_members" := by decide +kernel
  show (if ("hours" : Str) = "_members" then _ else (("hours" : Str), y) :: putF "_members" z []) = _
  rw [if_neg h]
  rfl
/-! ### for x in o, o of a class whose __iter__ tells the iterator of a list that o holds -/
/-! ### ascending hours -/
def Asc (lo hi : Int) (xs : List Int) : Prop := xs.Pairwise (· < ·) ∧ ∀ x ∈ xs, lo ≤ x ∧ x < hi
theorem Asc.nil {lo hi : Int} : Asc lo hi [] := ⟨.nil, fun x h => by cases h⟩
theorem Asc.append {lo mid mid' hi : Int} {xs ys : List Int} (h : Asc lo mid xs) (g : Asc mid' hi ys) (h1 : lo ≤ mid') (h2 : mid ≤ mid') (h3 : mid ≤ hi) : Asc lo hi (xs ++ ys) := by
  refine ⟨List.pairwise_append.mpr ⟨h.1, g.1, fun x hx y hy => ?_⟩, fun x hx => ?_⟩
  · have := h.2 x hx
    have := g.2 y hy
    omega
  · rcases List.mem_append.mp hx with hx | hx
    · have := h.2 x hx
      omega
    · have := g.2 x hx
      omega
theorem Asc.mono {lo hi lo' hi' : Int} {xs : List Int} (h : Asc lo hi xs) (h1 : lo' ≤ lo) (h2 : hi ≤ hi') : Asc lo' hi' xs := ⟨h.1, fun x hx => by have := h.2 x hx; omega⟩
theorem asc_range {f : Nat → Bool} : ∀ n : Nat, Asc 0 (n : Int) (pick n f fun i => (i : Int))
  | 0 => by unfold pick; exact .nil
  | n + 1 => by
    rw [pick_succ]
    refine (asc_range n).append (mid' := (n : Int)) ?_ (by omega) (by omega) (by omega)
    by_cases h : f n = true
    · rw [if_pos h]
      exact ⟨List.pairwise_singleton _ _, fun x hx => by cases List.mem_singleton.mp hx; omega⟩
    · rw [if_neg h]
      exact .nil
theorem Asc.len {xs : List Int} : ∀ {lo hi : Int}, Asc lo hi xs → (xs.length : Int) ≤ max 0 (hi - lo) := by
  induction xs with
  | nil => intro lo hi _; simp; omega
  | cons x xs ih =>
    intro lo hi h
    have hx := h.2 x List.mem_cons_self
    have h' : Asc (x + 1) hi xs := ⟨(List.pairwise_cons.mp h.1).2, fun y hy => by
      have a := (List.pairwise_cons.mp h.1).1 y hy
      have b := h.2 y (List.mem_cons_of_mem _ hy)
      omega⟩
    have := ih h'
    simp only [List.length_cons]
    omega
/-! ### counts of pairs -/
/-! ### ascending lists of hours as members of a lot -/
theorem asc_unique : ∀ {xs ys : List Int}, xs.Pairwise (· < ·) → ys.Pairwise (· < ·) → (∀ z, z ∈ xs ↔ z ∈ ys) → xs = ys
  | [], [], _, _, _ => rfl
  | [], y :: ys, _, _, h => by have := (h y).mpr List.mem_cons_self; cases this
  | x :: xs, [], _, _, h => by have := (h x).mp List.mem_cons_self; cases this
  | x :: xs, y :: ys, hx, hy, h => by
    have hx' := List.pairwise_cons.mp hx
    have hy' := List.pairwise_cons.mp hy
    have e : x = y := by
      have a : y ≤ x := by
        rcases List.mem_cons.mp ((h x).mp List.mem_cons_self) with z | z
        · omega
        · have := hy'.1 x z; omega
      have b : x ≤ y := by
        rcases List.mem_cons.mp ((h y).mpr List.mem_cons_self) with z | z
        · omega
        · have := hx'.1 y z; omega
      omega
    subst e
    rw [asc_unique hx'.2 hy'.2 fun z => ?_]
    constructor
    · intro hz
      rcases List.mem_cons.mp ((h z).mp (List.mem_cons_of_mem _ hz)) with q | q
      · have := hx'.1 z hz; omega
      · exact q
    · intro hz
      rcases List.mem_cons.mp ((h z).mpr (List.mem_cons_of_mem _ hz)) with q | q
      · have := hy'.1 z hz; omega
      · exact q
theorem asc_mod {n : Int} {xs : List Int} (h : Asc 0 n xs) : (xs.map fun x => x % n) = xs := by
  have e : ∀ x ∈ xs, (fun x => x % n) x = id x := fun x hx => Int.emod_eq_of_lt (h.2 x hx).1 (h.2 x hx).2
  rw [List.map_congr_left e, List.map_id]
/-! ### counts two ways -/
theorem inV_ints {i : Int} {xs : List Int} : inV (V.int i) (xs.map V.int) = decide (i ∈ xs) := by
  unfold inV
  induction xs with
  | nil => rfl
  | cons x xs ih =>
    rw [List.map_cons, List.any_cons, ih]
    by_cases h : x = i
    · subst h
      simp [eqV]
    · have h' : ¬ i = x := fun z => h z.symm
      simp [eqV, h, h']
/-! ### operators of own classes -/
section
variable {X : Cx} {CX : CXT} {pins : List (Addr × Obj)} {σ : L2.St} {H : Hp} {s : Shared} {f C : Addr} {fd : FuncData} {ps : List Str} {n : Nat} {sp : Sp}
theorem run_own {E : XK} {Q : VK} {us : List Value} {vs : List V} (F : FnOk X.prog X.w X.K X.mg X.base CX n f fd ps sp) (hr : Room n X.A) (hb : Binds X.K fd ps []) (hx : PassesAt CX X σ E)
    (I : Inv X pins σ H s) (r : Vals vs us) (h : sp vs H Q E) : wpAny (model X.prog X.w) X.A (call (.ref f) us) (PySem.W.CmpBack (EP X pins σ Q)) X.xe s := by
  have hl : us.length = ps.length := by rw [← r.length]; exact F.len _ _ _ _ h
  have b := hb s us I.kIn (by rw [List.append_nil]; exact hl)
  rw [List.append_nil] at b
  refine wpAny_call (codeAny_mono (F.run X.A X.stack s H ⟨us, []⟩ us vs Q E hr I.env0 b r h) fun r s' hq => ?_)
  cases r with
  | error e => exact hx pins H s e s' I hq
  | ok fl =>
    cases fl with
    | ret u =>
      obtain ⟨v, H', I', rv, q⟩ := I.after hq
      exact SlX.cmpback rv ⟨v, H', I', rv, q⟩
    | next => exact False.elim hq
    | brk => exact False.elim hq
    | cont => exact False.elim hq
end
def OpS (X : Cx) (f : Value → Value → Sem Value) (r : L2.St → R2) : Prop :=
  ∀ (pins : List (Addr × Obj)) (s : Shared) (σ : L2.St) (H : Hp) (x y : V) (v u : Value) (Q : VK), Inv X pins σ H s → RelV x v → RelV y u → r σ x y H Q → wpAny (model X.prog X.w) X.A (f v u) (EP X pins σ Q) X.xe s
def tOpS (r : L2.St → R2) (ta tb : TE) : TE := fun σ H Q => ta σ H fun x H1 => tb σ H1 fun y H2 => r σ x y H2 Q
section
variable {X : Cx} {CX : CXT} {pins : List (Addr × Obj)} {σ : L2.St} {H : Hp} {s : Shared} {f C : Addr} {fd : FuncData} {ps : List Str} {n : Nat} {sp : Sp}
/-- .. called from a place A below the running body -/
theorem run_ownA {A : Around} {E : XK} {Q : VK} {us : List Value} {vs : List V} (F : FnOk X.prog X.w X.K X.mg X.base CX n f fd ps sp) (hr : Room n A) (hf : A.frames = X.A.frames) (hb : Binds X.K fd ps []) (hx : PassesAt CX X σ E)
    (I : Inv X pins σ H s) (r : Vals vs us) (h : sp vs H Q E) : wpAny (model X.prog X.w) A (call (.ref f) us) (EP X pins σ Q) X.xe s := by
  have hl : us.length = ps.length := by rw [← r.length]; exact F.len _ _ _ _ h
  have b := hb s us I.kIn (by rw [List.append_nil]; exact hl)
  rw [List.append_nil] at b
  have e0 : Env0 X.prog X.w X.K X.mg X.base A X.stack s H := by
    have e := I.env0
    exact ⟨by rw [hf]; exact e.frames, e.mod, e.bs, e.bsz, e.funs, e.frf, e.hok, e.bare⟩
  refine wpAny_call (codeAny_mono (F.run A X.stack s H ⟨us, []⟩ us vs Q E hr e0 b r h) fun r s' hq => ?_)
  cases r with
  | error e => exact hx pins H s e s' I hq
  | ok fl =>
    cases fl with
    | ret u => exact I.after hq
    | next => exact False.elim hq
    | brk => exact False.elim hq
    | cont => exact False.elim hq
theorem ty_looks {x : V} {u t : Value} (I : Inv X pins σ H s) (rx : RelV x u) (ty : TyX X.K H x t) : PySem.W.Looks (model X.prog X.w) s.heap (typeOf u) t := by
  obtain ⟨P, kx, hp, _⟩ := kit_of I rx ty
  exact kx.ty _ _ I.kIn hp
end
/-- x an object of the class at C, y of any known type -/
def rOwnC (K : PySem.W.Frag) (C : Addr) (sp : Sp) (E : L2.St → XK) (σ : L2.St) : R2 := fun x y H Q => ∃ a dx fs tb, x = .ref a ∧ H a = some (.ins C dx fs) ∧ TyX K H y tb ∧ PySem.W.notFirst K C tb = true ∧ sp [x, y] H Q (E σ)
/-- y in x, x an object of the class at C -/
def rOwnIn (C : Addr) (sp : Sp) (E : L2.St → XK) (σ : L2.St) : R2 := fun y x H Q => ∃ a dx fs, x = .ref a ∧ H a = some (.ins C dx fs) ∧ sp [x, y] H (fun v H' => ∃ b, v = .bl b ∧ Q (.bl b) H') (E σ)
section
variable {X : Cx} {CX : CXT} {f C : Addr} {fd : FuncData} {ps : List Str} {n : Nat} {sp : Sp} {E : L2.St → XK} {a b : Expr} {ta tb : TE} {pos : Pos}
theorem pe_cmpS {op : CmpOp} {r : L2.St → R2} (ho : OpS X (compareOp op) r) (ha : PE X a ta) (hb : PE X b tb) (hm : behindInMarks op b = false) : PE X (.Compare a [op] [b] pos) (tOpS r ta tb) := by
  refine ⟨fun pins s σ H Q I h => ?_⟩
  exact wpAny_Compare1 (binT ha hb I h fun v u s2 x y H2 I2 rx ry q => ho pins s2 σ H2 x y v u Q I2 rx ry q) hm
theorem op_ownC {K : PySem.W.Frag} {op : CmpOp} (hop : ∀ v u, compareOp op v u = richCompare op v u) (m : Meth X.K C (cmpInfo op).2.1 f) (F : FnOk X.prog X.w X.K X.mg X.base CX n f fd ps sp) (hr : Room n X.A) (hb : Binds X.K fd ps []) (hx : ∀ σ, PassesAt CX X σ (E σ))
    (hk : X.K = K := by rfl) : OpS X (compareOp op) (rOwnC K C sp E) := by
  subst hk
  intro pins s σ H x y v u Q I rx ry h
  obtain ⟨a, dx, fs, tb, rfl, ha, ty, nf, h⟩ := h
  cases rx
  obtain ⟨mA, J, _⟩ := ins_get I.hok ha
  obtain ⟨od, J, _⟩ := J.look
  obtain ⟨m', hF⟩ := I.fr
  rw [hop]
  exact PySem.W.cmp_K hr.units0 hF I.ok.mod.kin J (ty_looks I ry ty) nf m.at_ m.fn (run_own (vs := [V.ref a, y]) F hr hb (hx σ) I (.cons rfl (.cons ry .nil)) h)
/-- len of an object with an own __len__ -/
def rOwnLen (C : Addr) (sp : Sp) (E : XK) : List V → Hp → VK → Prop := fun xs H Q => ∃ a dx fs, xs = [.ref a] ∧ H a = some (.ins C dx fs) ∧ sp [.ref a] H (fun v H' => ∃ i : Int, v = .int i ∧ (0 ≤ i ∧ i < 2 ^ 63) ∧ Q (.int i) H') E
theorem call_lenO {E : XK} (m : Meth X.K C "__len__" f) (F : FnOk X.prog X.w X.K X.mg X.base CX n f fd ps sp) (hr : Room (n + 1) X.A) (hb : Binds X.K fd ps []) (hx : ∀ σ, PassesAt CX X σ E) : CallR X (.builtin "len") (rOwnLen C sp E) := by
  intro pins s σ H xs us Q I r h
  obtain ⟨a, dx, fs, rfl, ha, h⟩ := h
  obtain ⟨u, rfl, rx⟩ := vals1 r
  cases rx
  obtain ⟨mA, J, _⟩ := ins_get I.hok ha
  obtain ⟨od, J, _⟩ := J.look
  obtain ⟨m', hF⟩ := I.fr
  refine PySem.W.len_K hF I.ok.mod.kin J m.at_ m.fn (wpAny_mono (run_ownA (vs := [V.ref a]) F hr.in1 rfl hb (hx σ) I (.cons rfl .nil) h) (fun v s' hv => ?_) fun _ _ e => e)
  obtain ⟨z, H', I', rv, i, rfl, hi, q⟩ := hv
  obtain ⟨t, rfl⟩ := (show ∃ t, v = Value.int i t from rv)
  exact ⟨hi, ⟨.int i, H', I'.tok _, ⟨_, rfl⟩, q⟩⟩
theorem op_ownIn (m : Meth X.K C "__contains__" f) (F : FnOk X.prog X.w X.K X.mg X.base CX n f fd ps sp) (hr : Room n X.A) (hb : Binds X.K fd ps []) (hx : ∀ σ, PassesAt CX X σ (E σ)) : OpS X (compareOp .In) (rOwnIn C sp E) := by
  intro pins s σ H y x u v Q I ry rx h
  obtain ⟨a, dx, fs, rfl, ha, h⟩ := h
  cases rx
  obtain ⟨mA, J, _⟩ := ins_get I.hok ha
  obtain ⟨od, J, _⟩ := J.look
  have hX := I.kIn
  have one := run_own (vs := [V.ref a, y]) F hr hb (hx σ) I (.cons rfl (.cons ry .nil)) h
  show wpAny _ _ (do return Value.bool (← contains (.ref a) u)) _ X.xe s
  refine wpAny_bind ?_
  unfold contains
  refine wpAny_holding ?_
  refine wpAny_bind (wpAny_bind (J.type.here ((PySem.W.looks_findIn hX m.at_).here ?_)))
  show wpAny _ _ (if (some (Value.ref f) == some Value.none) = true then _ else _) _ X.xe s
  rw [if_neg (by simp)]
  unfold callSpecialUnlessNone?
  refine wpAny_bind (wpAny_bind (wpAny_bind (J.type.here ((PySem.W.looks_findIn hX m.at_).here ?_))))
  refine wpAny_holding (wpAny_bind ((PySem.W.bind_fn hX _ (beq_iff_eq.mp m.fn)).here ?_))
  show wpAny _ _ (if (Value.ref f == Value.none) = true then _ else _) _ X.xe s
  rw [if_neg (by simp)]
  refine wpAny_bind (wpAny_mono one (fun z s' hz => ?_) fun _ _ e => e)
  have hz' : (EP X pins σ fun v H' => ∃ b, v = .bl b ∧ Q (.bl b) H') z s' := by
    cases z <;> first | exact hz.elim | exact hz
  obtain ⟨v, H', I', rv, b, rfl, q⟩ := hz'
  cases (show z = Value.bool b from rv)
  refine wpAny_pure ?_
  exact wpAny_truthy_bool (wpAny_pure ⟨.bl b, H', I', rfl, q⟩)
end
/-! ### x op= y for classes without the in-place method -/
theorem pAt {X : Cx} {CX : CXT} {E : XK} (h : Passes CX X E) : ∀ σ : L2.St, PassesAt CX X σ E := fun σ pins H s e s' I c => h pins σ H s e s' I c
/-! ### try with several except clauses, each with a name or without -/
def endsA (D : Ends) : Option Nat → Ends
  | none => D
  | some i => { nx := fun σ H => D.nx (σ.set i none) H, rt := D.rt, bk := fun σ H => D.bk (σ.set i none) H, ct := fun σ H => D.ct (σ.set i none) H }
def putA (σ : L2.St) (a : Addr) : Option Nat → L2.St
  | none => σ
  | some i => σ.set i (some (.ref a))
abbrev Clause := Value × Option Nat × (Addr → Value → Option Addr → TS)
/-- what the clauses wish of what the body raises, one behind another -/
def wMas (K : PySem.W.Frag) (Wo : WX) (D : Ends) : List Clause → WX
  | [] => Wo
  | q :: r => fun cls d σ H => ∃ b, PySem.W.exmOne K cls q.1 = some b ∧ (b = true → ∀ a, H a = none → q.2.2 a cls d (endsA D q.2.1) (putA σ a q.2.1) H) ∧ (b = false → wMas K Wo D r cls d σ H)
inductive Clauses (X : Cx) : List ExceptHandler → List Clause → Prop
  | nil : Clauses X [] []
  | bare {x : Str} {c : Value} {ts : Addr → Value → Option Addr → TS} {s0 : Stmt} {sr : List Stmt} {p p' : Pos} {hs : List ExceptHandler} {l : List Clause} (hc : Names X x c)
      (hb : ∀ (a : Addr) (oe : Obj) (cls : Value) (d : Option Addr) (pn : List (Addr × Obj)), Zc cls d oe → (∃ vs, oe.data = .fields vs) → PSs (X.suite a ((a, oe) :: pn)) (s0 :: sr) (ts a cls d)) (r : Clauses X hs l) :
      Clauses X (.ExceptHandler (some (.Name x p)) none (s0 :: sr) p' :: hs) ((c, none, ts) :: l)
  | named {x n : Str} {i : Nat} {c : Value} {ts : Addr → Value → Option Addr → TS} {s0 : Stmt} {sr : List Stmt} {p p' : Pos} {hs : List ExceptHandler} {l : List Clause} (hi : X.N[i]? = some n) (hl : X.env.kindOf n = some .local) (hc : Names X x c)
      (hb : ∀ (a : Addr) (oe : Obj) (cls : Value) (d : Option Addr) (pn : List (Addr × Obj)), Zc cls d oe → (∃ vs, oe.data = .fields vs) → PSs (X.suite a ((a, oe) :: pn)) (s0 :: sr) (ts a cls d)) (r : Clauses X hs l) :
      Clauses X (.ExceptHandler (some (.Name x p)) (some n) (s0 :: sr) p' :: hs) ((c, some i, ts) :: l)
section
open PySem.Spec PyProof.Rows
variable {X : Cx} {body : List Stmt} {h0 : ExceptHandler} {hs : List ExceptHandler} {l : List Clause} {pos : Pos} {tb : WX → TS} {Wo : WX}
theorem ps_try_mas (hst : X.stack = X.env :: X.outer) (hfm : X.env.frame = some X.env.locals) (hND : X.N.Nodup) (tk : Takes X Wo)
    (hbody : ∀ (W : WX) (pn : List (Addr × Obj)) (xe : Value → Shared → Prop), Takes (X.tr pn xe) W → PassesOwn (model X.prog X.w) X.A X.env xe → PSs (X.tr pn xe) body (tb W))
    (hcl : Clauses X (h0 :: hs) l) : PS X (.Try body (h0 :: hs) [] [] pos) (fun D σ H => tb (wMas X.K Wo D l) D σ H) := by
  refine ⟨fun pins s σ H D I hq => ?_⟩
  have okX := I.ok
  have frX : X.A.frames = some (X.env :: X.outer) := by rw [okX.frames, hst]
  let fly : Value → Shared → Prop := fun e s1 => wpAny (model X.prog X.w) X.A (noteFrame e X.env) (fun _ s2 => wpAny (model X.prog X.w) X.A (setFlight e none) (fun _ s3 => wpAny (model X.prog X.w) X.A (handleBy e X.env (h0 :: hs)) (SP X pins D) X.xe s3) X.xe s2) X.xe s1
  refine wpAny_Try_except (wpAny_mono ((hbody (wMas X.K Wo D l) (X.pn ++ pins) fly (fun u t flown => ?_) PassesOwn.looking).run [] s σ H D (I.toTry _) hq) (fun f t done => ?_) fun e t z => z)
  · obtain ⟨a, B, sI, pins', σ1, G, cls, d, rfl, J0, nb, up, sky, na, os, ag, wish⟩ := flown
    have J : Inv X pins σ1 G sI := J0.ofTry okX
    show wpAny (model X.prog X.w) X.A (noteFrame (.ref a) X.env) _ _ _
    refine Sky.land Zc.steady frX hfm (show Sky B (X.env :: X.outer) a (Zc cls d) X.env.locals t.heap by rw [← hst]; exact sky) fun g fl upg => ?_
    have Jg : Inv X pins σ1 G { t with heap := g } := J.landed nb fl.1 (up.trans upg) os ag
    obtain ⟨ob, vb, at_b, zc_b, da_b⟩ := fl.there
    have apart : ∀ {g' : Heap} {o : Obj} {us : Array Value}, g'.FunFrames B (X.env :: X.outer) → g'.get? a = some o → o.data = .fields us → a ∉ frs (X.env :: X.outer) := fun {g' o us} ff ea da hm => by
      obtain ⟨_, o2, e2, nf⟩ := ff.mem hm
      rw [ea] at e2
      cases e2
      exact nf _ da
    have out1 := apart fl.2.2.1 at_b da_b
    have out2 : a ≠ X.env.locals := fun z => out1 (List.mem_filterMap.mpr ⟨X.env, List.mem_cons_self, by rw [hfm, z]⟩)
    have out3 : a ∉ X.fs := fun hm => by
      obtain ⟨e, he, q⟩ := List.mem_filterMap.mp hm
      exact out1 (List.mem_filterMap.mpr ⟨e, List.mem_cons_of_mem _ he, q⟩)
    have Sb := Jg.suite at_b da_b na out2 out3
    have look : ∀ {x : Str} {c : Value} {p : Pos} {R : Value → Shared → Prop} {R' : Value → Shared → Prop}, Names X x c → R c { t with heap := g } → wpAny (model X.prog X.w) (X.A.mark (some (.ref a))) (eval (.Name x p) X.env) R R' { t with heap := g } := fun {x c p R R'} hc q => by
      obtain ⟨hg, hdb, hm | ⟨hm, hv, hn⟩⟩ := hc
      · exact ld_glob (X := X.suite a ((a, ob) :: (X.pn ++ pins))) Sb hg hm q hdb
      · exact ld_blt (X := X.suite a ((a, ob) :: (X.pn ++ pins))) Sb hg hm hv q hn hdb
    have kind : PySem.W.Looks (model X.prog X.w) g (typeOf (.ref a)) cls := fun A Q E s k q => wpAny_typeOf_ref (k _ _ at_b) (by rw [zc_b.1]; exact q)
    have each : ∀ {hs' : List ExceptHandler} {l' : List Clause}, Clauses X hs' l' → wMas X.K Wo D l' cls d σ1 G → wpAny (model X.prog X.w) X.A (handleBy (.ref a) X.env hs') (SP X pins D) X.xe { t with heap := g } := by
      intro hs' l' hk
      induction hk with
      | nil =>
        intro wi
        refine wpAny_handleBy_nil ?_
        obtain ⟨_, _, _, oe, ue, TB, oT, te, g1, g2, g3, g4, g5⟩ := id fl
        unfold PySem.passOn
        refine wpAny_bind (wpAny_field g1 g3 g4 ?_)
        rw [if_neg (show ¬ ((Value.ref TB == Value.none) = true) from by simp)]
        have away : wpAny (model X.prog X.w) X.A (setFlight (.ref a) X.env.frame) (fun _ s4 => wpAny (model X.prog X.w) X.A (throw (.ref a) : Sem Flow) (SP X pins D) X.xe s4) X.xe { t with heap := g } := by
          rw [hfm]
          refine HandSPX.setFlight_upZ fl fun k hk up4 => wpAny_throw (tk _ _ ?_)
          exact ⟨a, B, sI, pins, σ1, G, cls, d, rfl, J, nb, (up.trans upg).trans up4, .inr (.inr (by rw [hst]; exact hk)), na, os, ag, wi⟩
        first
          | exact wpAny_bind (wpAny_pure (wpAny_bind away))
          | exact wpAny_bind away
      | @bare x c ts s0 sr p p' hs2 l2 hc hb r ih =>
        intro wi
        obtain ⟨b, hb1, yes, no⟩ := wi
        refine wpAny_handleBy_cons (codeAny_handlers_test ?_) (by intro q; cases q)
        refine look hc ((PySem.W.exm_one (M := model X.prog X.w) Jg.kIn kind hb1).here ?_)
        cases b with
        | false => exact ih (no rfl)
        | true =>
          refine codeAny_handlers_suite (HandSPX.lands_againZ fl fun k fl4 up4 => ?_)
          have J4 : Inv X pins σ1 G { t with heap := k } := J.landed nb fl4.1 ((up.trans upg).trans up4) os ag
          obtain ⟨o4, v4, e4, z4, d4⟩ := fl4.there
          refine wpAny_mono ((hb a o4 cls d (X.pn ++ pins) z4 ⟨_, d4⟩).run [] _ _ G _ (J4.suite e4 d4 na out2 out3) (yes rfl a na)) (fun f s6 r6 => ?_) (fun _ _ z => False.elim z)
          cases f with
          | ret u => obtain ⟨v6, σ6, H6, S6, rv, q6⟩ := r6; exact ⟨_, _, _, S6.unsuite okX, rv, q6⟩
          | next => obtain ⟨σ6, H6, S6, q6⟩ := r6; exact ⟨_, _, S6.unsuite okX, q6⟩
          | brk => obtain ⟨σ6, H6, S6, q6⟩ := r6; exact ⟨_, _, S6.unsuite okX, q6⟩
          | cont => obtain ⟨σ6, H6, S6, q6⟩ := r6; exact ⟨_, _, S6.unsuite okX, q6⟩
      | @named x n i c ts s0 sr p p' hs2 l2 hi hl hc hb r ih =>
        intro wi
        obtain ⟨b, hb1, yes, no⟩ := wi
        refine wpAny_handleBy_cons (codeAny_handlers_test ?_) (by intro q; cases q)
        refine look hc ((PySem.W.exm_one (M := model X.prog X.w) Jg.kIn kind hb1).here ?_)
        cases b with
        | false => exact ih (no rfl)
        | true =>
          refine codeAny_handlers_suite_as (HandSPX.lands_againZ fl fun k fl4 up4 => ?_)
          have J4 : Inv X pins σ1 G { t with heap := k } := J.landed nb fl4.1 ((up.trans upg).trans up4) os ag
          obtain ⟨o4, v4, e4, z4, d4⟩ := fl4.there
          refine store_ok (X := X.suite a ((a, o4) :: (X.pn ++ pins))) (v := .ref a) (J4.suite e4 d4 na out2 out3) hND hi (.inl hl) rfl (fun s5 S5 => ?_) (.inr hl)
          refine wpAny_mono ((hb a o4 cls d (X.pn ++ pins) z4 ⟨_, d4⟩).run [] s5 _ G _ S5 (yes rfl a na)) (fun f s6 r6 => ?_) (fun _ _ z => False.elim z)
          have leave : ∀ {σ6 : L2.St} {H6 : Hp} {R : Shared → Prop}, Inv (X.suite a ((a, o4) :: (X.pn ++ pins))) [] σ6 H6 s6 → (∀ s7, Inv X pins (σ6.set i none) H6 s7 → R s7) → wpAny (model X.prog X.w) X.A (do bindName X.env n .none; unbindBehindTheSuite X.env n p') (fun _ s7 => R s7) X.xe s6 :=
            fun {σ6 H6 R} S6 hr => gone_ok (S6.unsuite okX) hND hi hl hr
          cases f with
          | ret u => obtain ⟨v6, σ6, H6, S6, rv, q6⟩ := r6; exact leave S6 fun s7 J7 => ⟨_, _, _, J7, rv, q6⟩
          | next => obtain ⟨σ6, H6, S6, q6⟩ := r6; exact leave S6 fun s7 J7 => ⟨_, _, J7, q6⟩
          | brk => obtain ⟨σ6, H6, S6, q6⟩ := r6; exact leave S6 fun s7 J7 => ⟨_, _, J7, q6⟩
          | cont => obtain ⟨σ6, H6, S6, q6⟩ := r6; exact leave S6 fun s7 J7 => ⟨_, _, J7, q6⟩
    exact each hcl wish
  · cases f with
    | ret u => obtain ⟨v, σ', G', J', rv, q⟩ := done; exact ⟨v, σ', G', J'.ofTry okX, rv, q⟩
    | next => obtain ⟨σ', G', J', q⟩ := done; exact wpAny_execs_nil ⟨σ', G', J'.ofTry okX, q⟩
    | brk => obtain ⟨σ', G', J', q⟩ := done; exact ⟨σ', G', J'.ofTry okX, q⟩
    | cont => obtain ⟨σ', G', J', q⟩ := done; exact ⟨σ', G', J'.ofTry okX, q⟩
end
/-! ### an int on the left, an own object on the right -/
/-! ### comparisons: an int on the left; != -/
section
open PySem.Spec PyProof.Rows
variable {prog : Program} {w : World} {A : Around} {E : Value → Shared → Prop} {s : Shared} {K : PySem.W.Frag} {o C f dx : Addr} {ox : Obj} {od : Option Obj} {i : Int} {t : Tok} {hb : Heap} {L : Addr} {m : Str → Option Value}
open PySem.W in
theorem ifBound_B {name : Str} {id : String} {args : List Value} {Q : Option Value → Shared → Prop} (X1 : K.In s.heap) (I : InstAt s.heap o ox C od) (hs : findIn K (.ref C) name = some (some (.builtin id))) (bd : ∀ self, bindSpecial (.builtin id) self = pure (.builtin id, [self]))
    (h : wpAny (model prog w) A (call (.builtin id) (.ref o :: args)) (fun v => Q (some v)) E s) : wpAny (model prog w) A (callSpecialIfBound? (.ref o) name args) Q E s := by
  simp only [callSpecialIfBound?, bindSpecialIfBound?]
  refine wpAny_holding (wpAny_bind (wpAny_bind (wpAny_bind (I.type.here ((looks_findIn X1 hs).here (wpAny_bind (wpAny_askSetting (wpAny_ite ?_))))))))
  have last : wpAny (model prog w) A (call (.builtin id) ([.ref o] ++ args) >>= fun v => pure (some v)) Q E s := wpAny_bind (wpAny_mono h (fun v s' z => wpAny_pure z) fun _ _ z => z)
  split
  · exact wpAny_bind ((Looks.of_pure (bd _)).here (wpAny_pure (by exact last)))
  · exact wpAny_tryCatch (wpAny_bind ((Looks.of_pure (bd _)).here (wpAny_pure (by exact last))))
open PySem.W in
theorem ne_own {b : Value} {Q : Value → Shared → Prop} (hu : A.units + 1 < cLine) (X1 : K.In s.heap) (I : InstAt s.heap o ox C od) (hm : mroIn K C (.type "object") = some true) (hn : findIn K (.ref C) "__ne__" = some (some (.builtin "object.__ne__"))) (hs : findIn K (.ref C) "__eq__" = some (some (.ref f))) (hf : isFn K (.ref f) = true)
    (h : wpAny (model prog w) A.in1 (call (.ref f) [.ref o, b]) (fun v s' => ∃ k, v = .bool k ∧ Q (.bool (!k)) s') E s) : wpAny (model prog w) A (tryCompare (.ref o) "__ne__" b) (fun r s' => ∃ v, r = some v ∧ Q v s') E s := by
  unfold tryCompare
  refine wpAny_bind (ifBound_B (id := "object.__ne__") X1 I hn (fun _ => rfl) ?_)
  refine wpAny_call (codeAny_call_builtin PySem.F.cmp_object.ne.plain PySem.F.cmpEntry_ne (check_slot (i := "object.__ne__") (owner := "object") (n := "__ne__") PySem.F.cmpKind_ne PySem.F.cmpSplit_ne (I.type.andThen (looks_mroIn X1 hm)) (PySem.F.cmpArgs_ne _ _) ?_))
  unfold Builtin.«object.__ne__»
  refine wpAny_bind (m := slotArgs "__ne__" 1 _) (wpAny_pure ?_)
  refine wpAny_bind (m := cRoomFor _ _) (wpAny_cRoomFor (show A.units + 1 < cLine from hu) ?_)
  refine wpAny_bind (m := callSpecialIfBound? (.ref o) (Str.ofString "__eq__") _) (ifBound_K X1 I hs hf (wpAny_mono h (fun r s' z => ?_) fun _ _ y => y))
  obtain ⟨k, rfl, q⟩ := z
  exact wpAny_bind (wpAny_truthy_bool (wpAny_pure (wpAny_pure ⟨_, rfl, q⟩)))
open PySem.W in
theorem ne_left {b tb : Value} {Q : Value → Shared → Prop} (hu : A.units + 1 < cLine) (X1 : K.In s.heap) (I : InstAt s.heap o ox C od) (lb : Looks (model prog w) s.heap (typeOf b) tb) (nf : notFirst K C tb = true)
    (one : wpAny (model prog w) A (tryCompare (.ref o) "__ne__" b) (fun r s' => ∃ v, r = some v ∧ Q v s') E s) : wpAny (model prog w) A (richCompare .NotEq (.ref o) b) Q E s := by
  unfold richCompare
  simp only [oneThing_ref]
  refine wpAny_holding (wpAny_bind (wpAny_cRoomFor (by omega) (wpAny_bind (I.type.here (wpAny_bind (lb.here ?_))))))
  split
  · rename_i q
    have e : subIn K tb (.ref C) = some false := by
      rcases Bool.or_eq_true_iff.mp nf with e | e
      · rw [beq_iff_eq.mp e] at q
        simp at q
      · exact beq_iff_eq.mp e
    refine wpAny_bind ((looks_subIn X1 e).here ?_)
    simp only [Bool.false_eq_true, if_false]
    refine wpAny_bind (wpAny_mono one (fun r s' z => ?_) fun _ _ e => e)
    obtain ⟨v, rfl, z⟩ := z
    exact wpAny_pure z
  · refine wpAny_bind (wpAny_pure ?_)
    simp only [Bool.false_eq_true, if_false]
    refine wpAny_bind (wpAny_mono one (fun r s' z => ?_) fun _ _ e => e)
    obtain ⟨v, rfl, z⟩ := z
    exact wpAny_pure z
end
/-- the opposite of what a promise of a truth value tells -/
def notK (Q : VK) : VK := fun v H => ∃ k : Bool, v = .bl k ∧ Q (.bl (!k)) H
def rOwnNe (K : PySem.W.Frag) (C : Addr) (sp : Sp) (E : L2.St → XK) (σ : L2.St) : R2 := fun x y H Q => ∃ a dx fs tb, x = .ref a ∧ H a = some (.ins C dx fs) ∧ TyX K H y tb ∧ PySem.W.notFirst K C tb = true ∧ sp [x, y] H (notK Q) (E σ)
/-- what != asks of a class with an own __eq__ and no __ne__ -/
structure NeOf (K : PySem.W.Frag) (C : Addr) : Prop where
  ob : PySem.W.mroIn K C (.type "object") = some true
  ne : PySem.W.findIn K (.ref C) "__ne__" = some (some (.builtin "object.__ne__"))
section
open PySem.Spec PyProof.Rows
variable {X : Cx} {CX : CXT} {f C : Addr} {fd : FuncData} {ps : List Str} {n : Nat} {sp : Sp} {op : CmpOp} {E : L2.St → XK}
theorem back_not {pins : List (Addr × Obj)} {σ : L2.St} {Q : VK} {v : Value} {s' : Shared} (h : EP X pins σ (notK Q) v s') : ∃ k, v = Value.bool k ∧ EP X pins σ Q (.bool (!k)) s' := by
  obtain ⟨x, H', I', rv, k, rfl, q⟩ := h
  exact ⟨k, rv, .bl (!k), H', I', rfl, q⟩
theorem op_neO {K : PySem.W.Frag} (d : NeOf X.K C) (m : Meth X.K C "__eq__" f) (F : FnOk X.prog X.w X.K X.mg X.base CX n f fd ps sp) (hr : Room (n + 1) X.A) (hb : Binds X.K fd ps []) (hx : ∀ σ, PassesAt CX X σ (E σ)) (hk : X.K = K := by rfl) : OpS X (compareOp .NotEq) (rOwnNe K C sp E) := by
  subst hk
  intro pins s σ H x y v u Q I rx ry h
  obtain ⟨a, dx, fs, tb, rfl, ha, ty, nf, h⟩ := h
  cases rx
  obtain ⟨mA, J, _⟩ := ins_get I.hok ha
  obtain ⟨od, J, _⟩ := J.look
  have hu : X.A.units + 1 < cLine := by have := hr.un; omega
  show wpAny _ _ (richCompare .NotEq (.ref a) u) _ _ _
  exact ne_left hu I.kIn J (ty_looks I ry ty) nf (ne_own hu I.kIn J d.ob d.ne m.at_ m.fn (wpAny_mono (run_ownA (vs := [V.ref a, y]) F hr.in1 rfl hb (hx σ) I (.cons rfl (.cons ry .nil)) h) (fun v s' z => back_not z) fun _ _ e => e))
end
/-! ### class methods -/
section
open PySem.Spec PyProof.Rows
variable {X : Cx} {CX : CXT} {k i : Nat} {f C p0 g : Addr} {fd : FuncData} {ps : List Str} {sp : Sp} {dvs : List V} {ds : List Value} {E : XK} {x m : Str} {p pos apos : Pos} {e o : Expr} {es : List Expr} {t : TA} {ta : TE} {mc : Value}
def tMakeV (i : Nat) (C : Addr) (sp : Sp) (dvs : List V) (E : XK) (t : TA) : TE := fun σ H Q => σ[i]? = some (some (.ref C)) ∧ tMake C sp dvs E t σ H Q
/-- cls(e, ..) -/
theorem pe_makeV (M : Mk X.K C f) (F : FnOk X.prog X.w X.K X.mg X.base CX k f fd ps sp) (hr : Room (k + 1) X.A) (hN : X.N[i]? = some x) (hv : Vis X.env.scope x) (hb : Binds X.K fd ps ds) (hd : Vals dvs ds) (hx : Passes CX X E) (ha : PA X (e :: es) t)
    (h1 : (x == ("__debug__" : Str)) = false := by decide) (h2 : (x == ("__classdict__" : Str)) = false := by decide) (he : starEach (e :: es) X.env = (false, eval e X.env) :: starEach es X.env := by rfl) (hpl : (backTo pos (starEach es X.env)).any (·.1) = false := by rfl) :
    PE X (.Call (.Name x p) (e :: es) [] pos) (tMakeV i C sp dvs E t) := by
  refine ⟨fun pins s σ H Q I h => ?_⟩
  obtain ⟨hs, h⟩ := h
  refine wpAny_Call_Name_kw (thn ((pe_var (pos := p) (i := i) hN hv h1 h2).run pins s σ H (fun v H1 => v = .ref C ∧ H1 = H) I ⟨.ref C, hs, rfl, rfl⟩) fun u s1 z => ?_)
  obtain ⟨v, H1, I1, r1, ev, eH⟩ := z
  subst ev
  rw [eH] at I1
  cases r1
  refine PySem.W.callWith_K (h₀ := X.base) I.ok.mod.kin M.kp (thn (ha.run pos pins s1 σ H _ I1 h) fun us s2 z => ?_) he hpl
  obtain ⟨vs, H2, I2, r, q⟩ := z
  exact ⟨I2.kIn, run_make M F hr hb hd hx I2 r q⟩
def tCMethS (C : Addr) (sp : Sp) (E : L2.St → XK) (ta : TE) (t : TA) : TE := fun σ H Q => ta σ H fun x H1 => x = .ref C ∧ t σ H1 fun vs H2 => sp (.ref C :: vs) H2 Q (E σ)
/-- C.m(e, ..) within a try -/
theorem pe_cmethS {pl : Sem Bool} {ES : L2.St → XK} (ho : PE X o ta) (r : ClX.CRead X.K C mc) (c : ClX.CMet X.K C mc m p0 g) (F : FnR X.prog X.w X.K X.mg X.base CX k g sp) (hr : Room k X.A) (hx : ∀ σ, PassesAt CX X σ (ES σ)) (ha : PA X (e :: es) t)
    (hst : starEach (e :: es) X.env = (false, eval e X.env) :: starEach es X.env := by rfl) (hpl : (backTo pos (starEach es X.env)).any (·.1) = false := by rfl)
    (ht : eval (.Call (.Attribute o m apos) (e :: es) [] pos) X.env = (do
      let v0 ← eval o X.env
      standAt apos.atName
      let (g0, first0) ← holding [v0] (getMethod v0 m pl)
      callWith pos g0 first0 (backTo pos (starEach (e :: es) X.env)) (backToKw pos (keywordEach [] X.env))) := by rfl) :
    PE X (.Call (.Attribute o m apos) (e :: es) [] pos) (tCMethS C sp ES ta t) := by
  refine ⟨fun pins s σ H Q I h => PySem.W.methodCall_KW (pl := pl) (thn (ho.run pins s σ H _ I h) fun u s1 z => ?_) ht⟩
  obtain ⟨v, H1, I1, rx, ex, q⟩ := z
  subst ex
  obtain rfl : u = Value.ref C := rx
  refine ClX.getmethcm_ok I1 r c fun s2 I2 => ?_
  refine ClX.callwith_cm I2 (ClX.base_none I1 (Nat.le_refl _)) c.fi (thn (ha.run pos _ s2 σ H1 _ I2 q) fun us s3 z => ?_) hst hpl
  obtain ⟨vs, H2, I3, rv, q2⟩ := z
  refine ⟨⟨ClX.pin_at I3, I3.kIn⟩, ?_⟩
  have run : codeAny (model X.prog X.w) X.A (.call (.ref g) ⟨.ref C :: us, []⟩) (fun r s' => match r with | .ok (.ret v) => EP X _ σ Q v s' | .ok _ => False | .error e => X.xe e s') s3 :=
    codeAny_mono (F X.A X.stack s3 H2 (.ref C :: us) (.ref C :: vs) Q (ES σ) hr I3.env0 (.cons rfl rv) q2) fun r4 s4 hq => by
      cases r4 with
      | error e => exact hx σ _ H2 s3 e s4 I3 hq
      | ok fl => cases fl with
        | ret u => exact I3.after hq
        | next => exact hq.elim
        | brk => exact hq.elim
        | cont => exact hq.elim
  exact thn (wpAny_call (PySem.W.method_call (ClX.pin_at I3) run)) fun _ _ y => ClX.unpinE y
end
/-! ### hours with a property -/
def hrs (n : Int) (p : Int → Bool) : List Int := pick n.toNat (fun h => p (h : Int)) fun h => (h : Int)
theorem mem_hrs {n z : Int} {p : Int → Bool} : z ∈ hrs n p ↔ (0 ≤ z ∧ z < n) ∧ p z = true := by
  unfold hrs pick
  constructor
  · intro h
    obtain ⟨i, hi, rfl⟩ := List.mem_map.mp h
    have a := List.mem_filter.mp hi
    have b := List.mem_range.mp a.1
    exact ⟨⟨by omega, by omega⟩, a.2⟩
  · rintro ⟨⟨h0, h1⟩, h2⟩
    have e : ((z.toNat : Nat) : Int) = z := by omega
    exact List.mem_map.mpr ⟨z.toNat, List.mem_filter.mpr ⟨List.mem_range.mpr (by omega), by rw [e]; exact h2⟩, e⟩
theorem asc_hrs {n : Int} {p : Int → Bool} (hn : 0 ≤ n) : Asc 0 n (hrs n p) := by
  have h := asc_range (f := fun h => p (h : Int)) n.toNat
  rw [show ((n.toNat : Nat) : Int) = n by omega] at h
  exact h
theorem hrs_eq {n : Int} {p : Int → Bool} {xs : List Int} (hn : 0 ≤ n) (h : Asc 0 n xs) (hp : ∀ z, 0 ≤ z → z < n → (z ∈ xs ↔ p z = true)) : hrs n p = xs := by
  refine asc_unique (asc_hrs hn).1 h.1 fun z => ?_
  rw [mem_hrs]
  constructor
  · rintro ⟨⟨h0, h1⟩, h2⟩
    exact (hp z h0 h1).mpr h2
  · intro hz
    have b := h.2 z hz
    exact ⟨b, (hp z b.1 b.2).mp hz⟩
theorem resid_hrs {n : Int} {S : List Int} {p : Int → Bool} (hp : ∀ z, 0 ≤ z → z < n → (z ∈ S ↔ p z = true)) : resid n S = hrs n p := by
  unfold resid hrs
  refine pick_congr fun i hi => ?_
  have := hp (i : Int) (by omega) (by omega)
  rw [Bool.eq_iff_iff, decide_eq_true_iff]
  exact this
theorem scan_nodup {n : Int} : ∀ {ms seen : List Int}, (ms.map (· % n)).Nodup → (∀ x ∈ ms, x % n ∉ seen) → scanR n seen ms = none
  | [], _, _, _ => rfl
  | x :: xs, seen, hd, hs => by
    have h := List.nodup_cons.mp hd
    unfold scanR
    rw [if_neg (hs x List.mem_cons_self)]
    refine scan_nodup h.2 fun y hy hm => ?_
    rcases List.mem_append.mp hm with q | q
    · exact hs y (List.mem_cons_of_mem _ hy) q
    · exact h.1 (List.mem_map.mpr ⟨y, hy, List.mem_singleton.mp q⟩)
theorem Asc.nodup {lo hi : Int} {xs : List Int} (h : Asc lo hi xs) : xs.Nodup := h.1.imp fun {a b} hab => by omega
theorem mem_self {n z : Int} {xs : List Int} (h : Asc 0 n xs) : z ∈ xs.map (· % n) ↔ z ∈ xs := by
  have := asc_mod h
  rw [this]
/-- ints told apart -/
theorem eqv_ints : ∀ xs ys : List Int, PyData.eqvAll (xs.map PyData.int) (ys.map PyData.int) = decide (xs = ys)
  | [], [] => by simp [PyData.eqvAll]
  | [], y :: ys => by simp [PyData.eqvAll]
  | x :: xs, [] => by simp [PyData.eqvAll]
  | x :: xs, y :: ys => by
    rw [List.map_cons, List.map_cons, PyData.eqvAll, eqv_ints xs ys, PyData.eqv]
    by_cases e : x = y
    · subst e; simp
    · simp [e]
theorem eqv_intsL {xs ys : List Int} : PyData.eqv (.list (xs.map PyData.int)) (.list (ys.map PyData.int)) = decide (xs = ys) := by
  rw [PyData.eqv, eqv_ints]
theorem lay_ints : ∀ xs : List Int, PyData.canLayAll0 (xs.map PyData.int) = true
  | [] => by simp [PyData.canLayAll0]
  | x :: xs => by
    have := lay_ints xs
    simp [PyData.canLayAll0, PyData.canLay0, this]
theorem depth_ints : ∀ xs : List Int, PyData.depthAll (xs.map PyData.int) ≤ 1
  | [] => by simp [PyData.depthAll]
  | x :: xs => by
    have := depth_ints xs
    simp [PyData.depthAll, PyData.depth]
    omega
/-- v is a lot: its hours and members -/
structure LotIs (C : Addr) (v : V) (H : Hp) (n : Int) (xs : List Int) : Prop where
  at_ : LotAt C H v n xs
  hn : 1 ≤ n ∧ n ≤ 360
  asc : Asc 0 n xs
theorem LotIs.ex {C : Addr} {v : V} {H H' : Hp} {n : Int} {xs : List Int} (e : Ex H H') (h : LotIs C v H n xs) : LotIs C v H' n xs := ⟨h.at_.ex e, h.hn, h.asc⟩
/-! ### an object made within a try -/
section
open PySem.Spec PyProof.Rows
variable {X : Cx} {CX : CXT} {k : Nat} {f C : Addr} {fd : FuncData} {ps : List Str} {sp : Sp} {dvs : List V} {ds : List Value} {E : L2.St → XK} {x : Str} {p pos : Pos} {e : Expr} {es : List Expr} {t : TA}
def tMakeS (C : Addr) (sp : Sp) (dvs : List V) (E : L2.St → XK) (t : TA) : TE := fun σ H Q => t σ H fun vs H1 => ∀ x dx, H1 x = none → H1 dx = none → dx ≠ x →
  sp (.ref x :: (vs ++ dvs)) (upd (upd H1 dx (.own x)) x (.ins C dx [])) (fun v H2 => v = .non ∧ Q (.ref x) H2) (E σ)
theorem pe_makeS (M : Mk X.K C f) (F : FnOk X.prog X.w X.K X.mg X.base CX k f fd ps sp) (hr : Room (k + 1) X.A) (hg : Gl X x) (hm : X.mg x = some (.ref C)) (hb : Binds X.K fd ps ds) (hd : Vals dvs ds) (hx : ∀ σ, PassesAt CX X σ (E σ))
    (ha : PA X (e :: es) t) (hdb : (x == ("__debug__" : Str)) = false := by decide) (he : starEach (e :: es) X.env = (false, eval e X.env) :: starEach es X.env := by rfl) (hpl : (backTo pos (starEach es X.env)).any (·.1) = false := by rfl) :
    PE X (.Call (.Name x p) (e :: es) [] pos) (tMakeS C sp dvs E t) := by
  refine ⟨fun pins s σ H Q I h => wpAny_Call_Name_kw (ld_glob I hg hm ?_ hdb)⟩
  refine PySem.W.callWith_K (h₀ := X.base) I.ok.mod.kin M.kp (thn (ha.run pos pins s σ H _ I h) fun us s1 hu => ?_) he hpl
  obtain ⟨vs, H1, J, r, q⟩ := hu
  refine ⟨J.kIn, ?_⟩
  have hq := q (s1.heap.objs.size + 1) s1.heap.objs.size (J.hok.fresh (Nat.le_succ _)) (J.hok.fresh (Nat.le_refl _)) (Nat.ne_of_lt (Nat.lt_succ_self _))
  have J2 := Inv.made (C := C) J
  have r2 : Vals (V.ref (s1.heap.objs.size + 1) :: (vs ++ dvs)) (Value.ref (s1.heap.objs.size + 1) :: (us ++ ds)) := .cons rfl (r.append hd)
  have hl : (Value.ref (s1.heap.objs.size + 1) :: us ++ ds).length = ps.length := by
    have e0 := r2.length
    rw [F.len _ _ _ _ hq] at e0
    exact e0.symm
  have go := F.run _ X.stack _ _ ⟨Value.ref (s1.heap.objs.size + 1) :: us, []⟩ (Value.ref (s1.heap.objs.size + 1) :: (us ++ ds)) _ _ (E σ) (hr.make C us []) (J2.env0.make C us []) (hb _ (Value.ref (s1.heap.objs.size + 1) :: us) J2.kIn hl) r2 hq
  refine wpAny_call (make_map (f := f) J.kIn M.makes M.init (beq_iff_eq.mp M.fn) (codeAny_mono go fun r3 s3 hq3 => ?_))
  cases r3 with
  | error e => exact hx σ pins _ _ e s3 J2 hq3
  | ok fl => cases fl with
    | ret u =>
      obtain ⟨v, H3, J3, rv, ev, q3⟩ := J2.after hq3
      subst ev
      exact ⟨rv, ⟨V.ref (s1.heap.objs.size + 1), H3, J3, rfl, q3⟩⟩
    | next => exact hq3.elim
    | brk => exact hq3.elim
    | cont => exact hq3.elim
end
/-! ### letters and words -/
def LET : Str := "abcdefghijklmnopqrstuvwxyz"
theorem let_list : LET.cps.toList = (List.range 26).map fun c => 97 + c := by decide +kernel
theorem mem_let {c : Nat} : c ∈ LET.cps.toList ↔ 97 ≤ c ∧ c ≤ 122 := by
  rw [let_list]
  constructor
  · intro h
    obtain ⟨i, hi, rfl⟩ := List.mem_map.mp h
    have := List.mem_range.mp hi
    omega
  · rintro ⟨h0, h1⟩
    exact List.mem_map.mpr ⟨c - 97, List.mem_range.mpr (by omega), by omega⟩
theorem let_at {i : Int} (h : 0 ≤ i ∧ i < 26) : atI LET.cps.toList i = some (97 + i.toNat) := by
  have h2 := atI_nat (xs := LET.cps.toList) (j := i.toNat) (v := 97 + i.toNat) (by rw [let_list, List.getElem?_map, List.getElem?_range (by omega)]; rfl)
  rwa [Int.toNat_of_nonneg h.1] at h2
theorem let_occ {c : Nat} (h : 97 ≤ c ∧ c ≤ 122) : Builtin.Str.occurrences LET ⟨#[c]⟩ 0 LET.length 1 = [c - 97] := by
  have e : ∀ i : Nat, i < 26 → Builtin.Str.occurrences LET ⟨#[97 + i]⟩ 0 LET.length 1 = [i] := by decide +kernel
  have := e (c - 97) (by omega)
  rwa [show 97 + (c - 97) = c by omega] at this
/-- a text by its signs -/
def txt (l : List Nat) : Str := ⟨l.toArray⟩
theorem txt_list (l : List Nat) : (txt l).cps.toList = l := rfl
theorem txt_len (l : List Nat) : (txt l).length = l.length := by simp [txt, Str.length]
theorem txt_of (z : Str) : txt z.cps.toList = z := by cases z; simp [txt]
theorem txt_inj {a b : List Nat} (h : txt a = txt b) : a = b := by
  have := congrArg (fun z : Str => z.cps.toList) h
  simpa [txt] using this
theorem txt_add (a b : List Nat) : txt a ++ txt b = txt (a ++ b) := by
  show (⟨_ ++ _⟩ : Str) = _
  simp [txt]
theorem txt_one (c : Nat) : (⟨#[c]⟩ : Str) = txt [c] := rfl
/-- 1 to 8 letters -/
structure Word (z : Str) : Prop where
  len : 1 ≤ z.length ∧ z.length ≤ 8
  all : ∀ c ∈ z.cps.toList, 97 ≤ c ∧ c ≤ 122
theorem cut_last {l : List Nat} : cutS (txt l) none (some (-1)) = txt l.dropLast := by
  unfold cutS
  rw [HT.sIx_none, txt_len, txt_list, List.drop_zero, Nat.sub_zero, List.dropLast_eq_take]
  show txt _ = txt _
  congr 2
  show (if (-1 : Int) < 0 then ((-1 : Int) + (l.length : Int)).toNat else min (-1 : Int).toNat l.length) = _
  rw [if_pos (by decide)]
  omega
/-- one letter on, at the end -/
def bump (p : List Nat) (c i : Nat) : Str := txt (p ++ [97 + (c + i) % 26])
theorem bump_inj {p : List Nat} {c i j : Nat} (hi : i < 26) (hj : j < 26) (h : bump p c i = bump p c j) : i = j := by
  have e := List.append_inj_right' (txt_inj h) rfl
  simp at e
  omega
theorem word_split {z : Str} (h : Word z) : ∃ (p : List Nat) (c : Nat), c < 26 ∧ p.length ≤ 7 ∧ (∀ d ∈ p, 97 ≤ d ∧ d ≤ 122) ∧ z = bump p c 0 := by
  obtain ⟨⟨h1, h2⟩, ha⟩ := h
  have hl : z.cps.toList.length = z.length := by simp [Str.length]
  have hne : z.cps.toList ≠ [] := fun e => by rw [e] at hl; simp at hl; omega
  have hm := ha _ (List.getLast_mem hne)
  have hs := List.dropLast_concat_getLast hne
  refine ⟨z.cps.toList.dropLast, z.cps.toList.getLast hne - 97, by omega, by rw [List.length_dropLast]; omega, fun d hd => ha d (List.dropLast_subset _ hd), ?_⟩
  unfold bump
  rw [show 97 + (z.cps.toList.getLast hne - 97 + 0) % 26 = z.cps.toList.getLast hne by omega, hs, txt_of]
theorem bump_word {p : List Nat} {c i : Nat} (hp : p.length ≤ 7) (ha : ∀ d ∈ p, 97 ≤ d ∧ d ≤ 122) : Word (bump p c i) := by
  refine ⟨?_, fun d hd => ?_⟩
  · unfold bump
    rw [txt_len, List.length_append]
    simp
    omega
  · unfold bump at hd
    rw [txt_list] at hd
    rcases List.mem_append.mp hd with h | h
    · exact ha d h
    · have := List.mem_singleton.mp h
      omega
theorem bump_next {p : List Nat} {c i : Nat} : txt p ++ (⟨#[97 + ((97 + (c + i) % 26) - 97 + 1) % 26]⟩ : Str) = bump p c (i + 1) := by
  rw [txt_one, txt_add]
  unfold bump
  congr 3
  omega
theorem nodup_sub {α : Type} [DecidableEq α] : ∀ {l m : List α}, l.Nodup → (∀ x ∈ l, x ∈ m) → l.length ≤ m.length
  | [], _, _, _ => Nat.zero_le _
  | x :: l, m, hd, hs => by
    have h := List.nodup_cons.mp hd
    have hx := hs x List.mem_cons_self
    have ih := nodup_sub (m := m.erase x) h.2 fun y hy => (List.mem_erase_of_ne fun e => h.1 (by rw [← e]; exact hy)).mpr (hs y (List.mem_cons_of_mem _ hy))
    rw [List.length_erase_of_mem hx] at ih
    have := List.length_pos_of_mem hx
    rw [List.length_cons]
    omega
theorem bumps_out {p : List Nat} {c : Nat} {ns : List Str} (hn : ns.length ≤ 7) (h : ∀ s : Nat, s < 8 → bump p c s ∈ ns) : False := by
  have hd : ((List.range 8).map (bump p c)).Nodup := by
    refine List.pairwise_map.mpr (List.Pairwise.imp_of_mem (fun {i j} hi hj hne e => hne (bump_inj (by have := List.mem_range.mp hi; omega) (by have := List.mem_range.mp hj; omega) e)) List.nodup_range)
  have := nodup_sub hd (m := ns) fun x hx => by
    obtain ⟨i, hi, rfl⟩ := List.mem_map.mp hx
    exact h i (List.mem_range.mp hi)
  rw [List.length_map, List.length_range] at this
  omega
theorem inV_strs {x : Str} {ns : List Str} : inV (V.str x) (ns.map V.str) = decide (x ∈ ns) := by
  unfold inV
  induction ns with
  | nil => rfl
  | cons y ns ih =>
    rw [List.map_cons, List.any_cons, ih]
    by_cases h : y = x
    · subst h
      simp [eqV]
    · have h' : ¬ x = y := fun z => h z.symm
      simp [eqV, h, h']
theorem strs_flat (ns : List Str) : (ns.map V.str).all flatV = true := by
  rw [List.all_map, List.all_eq_true]
  exact fun _ _ => rfl
/-! ### terms on texts -/
theorem rv_addS {H : Hp} {x y : Str} (h : x.length + y.length ≤ 100000) : RV (fun x y H Q => ∃ i j, x = .str i ∧ y = .str j ∧ i.length + j.length ≤ sizeLine ∧ Q (.str (i ++ j)) H) (.str x) (.str y) H (.str (x ++ y)) := fun H1 _ Q q => ⟨x, y, rfl, rfl, sz_of h, q H1 (Ex.refl H1)⟩
theorem ev_slS {te : TE} {tl th : TO} {σ : L2.St} {H : Hp} {z : Str} {lo hi : Option Int} (h : Ev te σ H (.str z)) (h1 : EvO tl σ H lo) (h2 : EvO th σ H hi) (hz : z.length ≤ 100000) : Ev (L2.tSl rSlS te tl th) σ H (.str (cutS z lo hi)) := fun H1 e Q q =>
  h H1 e _ fun H2 e2 => h1 H2 (e.trans e2) _ fun H3 e3 => h2 H3 ((e.trans e2).trans e3) _ fun H4 e4 => ⟨z, rfl, sz_of hz, q H4 ((e2.trans e3).trans e4)⟩
theorem ev_letIx {to te : TE} {σ : L2.St} {H : Hp} {c : Nat} (ho : Ev to σ H (.str LET)) (he : Ev te σ H (.str ⟨#[c]⟩)) (hc : 97 ≤ c ∧ c ≤ 122) : Ev (tM1 (fun x xs H Q => ∃ a b i rest, x = .str a ∧ xs = [.str b] ∧ Builtin.Str.occurrences a b 0 a.length 1 = i :: rest ∧ Q (.int (i : Nat)) H) to te) σ H (.int ((c - 97 : Nat) : Int)) := fun H1 e Q q =>
  ho H1 e _ fun H2 e2 => ⟨⟨_, rfl⟩, he H2 (e.trans e2) _ fun H3 e3 => ⟨LET, _, c - 97, [], rfl, rfl, let_occ hc, q H3 (e2.trans e3)⟩⟩
theorem ei_str {σ : L2.St} {H : Hp} {te : TE} {z : Str} (h : Ev te σ H (.str z)) : EvI (iStr te) σ H z.cps.size (fun i G v G' => G' = G ∧ ∃ c, z.cps[i]? = some c ∧ v = .str ⟨#[c]⟩) := fun H1 e R r => h H1 e _ fun H2 e2 =>
  ⟨z, rfl, r _ _ e2 (walk_str.mono (fun _ _ => True.intro) fun _ _ _ _ _ _ y => y)⟩
theorem rv_niS {H : Hp} {c : Nat} {z : Str} : RV (fun x y H Q => ∃ (c : Nat) (z : Str), x = .str ⟨#[c]⟩ ∧ y = .str z ∧ Q (.bl (!decide (c ∈ z.cps.toList))) H) (.str ⟨#[c]⟩) (.str z) H (.bl (!decide (c ∈ z.cps.toList))) := fun H1 _ Q q => ⟨c, z, rfl, rfl, q H1 (Ex.refl H1)⟩
theorem ev_lenS {K : PySem.W.Frag} {te : TE} {σ : L2.St} {H : Hp} {z : Str} (h : Ev te σ H (.str z)) (hz : z.length ≤ 100000) : Ev (tCB (rLenK K) (tCons te tNil)) σ H (.int (z.length : Int)) := ev_cb (ea_cons h ea_nil) fun H2 e2 Q q => ⟨.str z, z.length, rfl, ⟨sz_of hz, rfl⟩, q H2 (Ex.refl H2)⟩
/-! ### houses -/
theorem in_getD {α : Type} {xs : List α} {i : Nat} {d : α} (h : i < xs.length) : xs.getD i d ∈ xs := by
  rw [List.getD_eq_getElem?_getD, List.getElem?_eq_getElem h]
  exact List.getElem_mem _
def houF (n : Int) (p q : Addr) : List (Str × V) := [("hours", .int n), ("names", .ref p), ("stakes", .ref q)]
/-- v is a house of these hours and gates -/
def HouseIs (C : Addr) (v : V) (H : Hp) (n : Int) (gs : List (Str × Int)) : Prop := ∃ a dx p q, v = .ref a ∧ H a = some (.ins C dx (houF n p q)) ∧ H p = some (.tup ((gs.map (·.1)).map V.str)) ∧ H q = some (.tup ((gs.map (·.2)).map V.int))
theorem HouseIs.ex {C : Addr} {v : V} {H H' : Hp} {n : Int} {gs : List (Str × Int)} (e : Ex H H') (h : HouseIs C v H n gs) : HouseIs C v H' n gs := by
  obtain ⟨a, dx, p, q, rfl, h1, h2, h3⟩ := h
  exact ⟨a, dx, p, q, rfl, e _ _ h1, e _ _ h2, e _ _ h3⟩
/-- a list of pairs of a name and a stake -/
structure Gates (K : PySem.W.Frag) (H : Hp) (p : Addr) (gs : List (Str × Int)) : Prop where
  all : ∃ vs : List V, SqL K H p vs ∧ vs.length = gs.length ∧ ∀ (i : Nat) v, vs[i]? = some v → ∃ t, v = .ref t ∧ ∀ g, gs[i]? = some g → SqT K H t [.str g.1, .int g.2]
theorem Gates.ex {K : PySem.W.Frag} {H H' : Hp} {p : Addr} {gs : List (Str × Int)} (e : Ex H H') (h : Gates K H p gs) : Gates K H' p gs := by
  obtain ⟨vs, h1, h2, h3⟩ := h.all
  exact ⟨vs, ex_l e h1, h2, fun i v hv => (h3 i v hv).imp fun t h => ⟨h.1, fun g hg => ex_t e (h.2 g hg)⟩⟩
def goodName (z : Str) : Bool := decide (1 ≤ z.length ∧ z.length ≤ 8) && z.cps.toList.all fun c => decide (c ∈ LET.cps.toList)
theorem word_good {z : Str} (h : Word z) : goodName z = true := by
  unfold goodName
  rw [Bool.and_eq_true, decide_eq_true_iff, List.all_eq_true]
  exact ⟨h.len, fun c hc => decide_eq_true (mem_let.mpr (h.all c hc))⟩
inductive HErr where
  | hours
  | noGates
  | manyGates
  | name (z : Str)
  | again (z : Str)
  | stake (s : Int)
  | cells
/-- the first fault of the gates -/
def scanG : List Str → List (Str × Int) → Option HErr
  | _, [] => none
  | seen, g :: r => if goodName g.1 = false then some (.name g.1) else if g.1 ∈ seen then some (.again g.1) else if g.2 < 0 ∨ 60 < g.2 then some (.stake g.2) else scanG (seen ++ [g.1]) r
def houseErr (n : Int) (gs : List (Str × Int)) : Option HErr := if n < 1 ∨ 24 < n then some .hours else if gs.length = 0 then some .noGates else if 4 < gs.length then some .manyGates else
  match scanG [] gs with
  | some e => some e
  | none => if 48 < n * (gs.length : Int) then some .cells else none
theorem scan_good : ∀ {gs : List (Str × Int)} {seen : List Str}, (∀ g ∈ gs, Word g.1 ∧ 0 ≤ g.2 ∧ g.2 ≤ 60) → (seen ++ gs.map (·.1)).Nodup → scanG seen gs = none
  | [], _, _, _ => rfl
  | g :: gs, seen, h, hd => by
    have hg := h g List.mem_cons_self
    unfold scanG
    rw [List.map_cons] at hd
    have hn : g.1 ∉ seen := fun hm => (List.nodup_append.mp hd).2.2 _ hm _ List.mem_cons_self rfl
    rw [if_neg (by rw [word_good hg.1]; simp), if_neg hn, if_neg (by omega)]
    refine scan_good (fun x hx => h x (List.mem_cons_of_mem _ hx)) ?_
    rw [List.append_assoc]
    exact hd
theorem house_good {n : Int} {gs : List (Str × Int)} (hn : 1 ≤ n ∧ n ≤ 24) (hl : 1 ≤ gs.length ∧ gs.length ≤ 4) (hg : ∀ g ∈ gs, Word g.1 ∧ 0 ≤ g.2 ∧ g.2 ≤ 60) (hd : (gs.map (·.1)).Nodup) (hc : n * (gs.length : Int) ≤ 48) : houseErr n gs = none := by
  unfold houseErr
  rw [if_neg (by omega), if_neg (by omega), if_neg (by omega), scan_good hg (by simpa using hd)]
  exact if_neg (by omega)
/-! ### spreads of tries -/
abbrev T3 := Int × Int × Int
structure TripT (K : PySem.W.Frag) (H : Hp) (p : Addr) (ts : List T3) : Prop where
  all : ∃ vs : List V, SqT K H p vs ∧ vs.length = ts.length ∧ ∀ (i : Nat) v, vs[i]? = some v → ∃ t, v = .ref t ∧ ∀ x, ts[i]? = some x → SqT K H t [.int x.1, .int x.2.1, .int x.2.2]
theorem sl_listK {X : Cx} {K : PySem.W.Frag} (h : X.K = K := by rfl) : SlR X (rSlL K) := by subst h; exact sl_list
/-! ### rows of triples -/
def triV (t : T3) : List V := [.int t.1, .int t.2.1, .int t.2.2]
def RowL (K : PySem.W.Frag) (H : Hp) (p : Addr) (rs : List (Addr × T3)) : Prop := SqL K H p (rs.map fun r => V.ref r.1) ∧ ∀ r ∈ rs, SqT K H r.1 (triV r.2)
def RowT (K : PySem.W.Frag) (H : Hp) (p : Addr) (rs : List (Addr × T3)) : Prop := SqT K H p (rs.map fun r => V.ref r.1) ∧ ∀ r ∈ rs, SqT K H r.1 (triV r.2)
theorem sqT_mut {K : PySem.W.Frag} {H : Hp} {l t : Addr} {o : HO} {xs ys : List V} (hl : H l = some (.lst ys)) (h : SqT K H t xs) : SqT K (upd H l o) t xs := by
  have ne : ∀ {z : HO}, H t = some z → (∀ ys, z ≠ .lst ys) → t ≠ l := fun hz hn e => by
    rw [e, hl] at hz
    exact hn _ (Option.some.inj hz).symm
  rcases h with (h | ⟨o', h⟩) | h
  · exact .inl (.inl (by rw [upd_ne (ne h fun _ z => by cases z)]; exact h))
  · exact .inl (.inr ⟨o', by rw [upd_ne (ne h fun _ z => by cases z)]; exact h⟩)
  · exact .inr h
theorem drawn_at {ms ds : List Int} {i : Nat} {m : Int} (h : Drawn ms ds) (hm : ms[i]? = some m) : 0 ≤ ds.getD i 0 ∧ ds.getD i 0 < m := by
  obtain ⟨d, h1, h2⟩ := h.2 i m hm
  rw [List.getD_eq_getElem?_getD, h1]
  exact h2
/-! ### enumerate(tuple) -/
/-! ### a[b] of an own class -/
/-! ### watches -/
def watF (h w : V) : List (Str × V) := [("house", h), ("_rows", w)]
/-- a list of lists of ints -/
structure RowsL (K : PySem.W.Frag) (H : Hp) (a : Addr) (xss : List (List Int)) : Prop where
  all : ∃ vs : List V, SqL K H a vs ∧ vs.length = xss.length ∧ ∀ (i : Nat) v, vs[i]? = some v → ∃ p, v = .ref p ∧ SqL K H p ((xss.getD i []).map V.int)
theorem RowsL.ex {K : PySem.W.Frag} {H H' : Hp} {a : Addr} {xss : List (List Int)} (e : Ex H H') (h : RowsL K H a xss) : RowsL K H' a xss := by
  obtain ⟨vs, h1, h2, h3⟩ := h.all
  exact ⟨vs, ex_l e h1, h2, fun i v hv => (h3 i v hv).imp fun p h => ⟨h.1, ex_l e h.2⟩⟩
/-- a tuple of tuples of ints -/
def RowsU (w : V) (H : Hp) (xss : List (List Int)) : Prop := ∃ p vs, w = .ref p ∧ H p = some (.tup vs) ∧ vs.length = xss.length ∧ ∀ (i : Nat) v, vs[i]? = some v → ∃ t, v = .ref t ∧ H t = some (.tup ((xss.getD i []).map V.int))
theorem RowsU.ex {w : V} {H H' : Hp} {xss : List (List Int)} (e : Ex H H') (h : RowsU w H xss) : RowsU w H' xss := by
  obtain ⟨p, vs, rfl, h1, h2, h3⟩ := h
  exact ⟨p, vs, rfl, e _ _ h1, h2, fun i v hv => (h3 i v hv).imp fun t h => ⟨h.1, e _ _ h.2⟩⟩
def WatchIs (C : Addr) (v : V) (H : Hp) (h : V) (xss : List (List Int)) : Prop := ∃ a dx w, v = .ref a ∧ H a = some (.ins C dx (watF h w)) ∧ RowsU w H xss
theorem WatchIs.ex {C : Addr} {v h : V} {H H' : Hp} {xss : List (List Int)} (e : Ex H H') (q : WatchIs C v H h xss) : WatchIs C v H' h xss := by
  obtain ⟨a, dx, w, rfl, h1, h2⟩ := q
  exact ⟨a, dx, w, rfl, e _ _ h1, h2.ex e⟩
structure Shape (n : Int) (m : Nat) (xss : List (List Int)) : Prop where
  len : xss.length = m
  row : ∀ xs ∈ xss, (xs.length : Int) = n
  val : ∀ xs ∈ xss, ∀ x ∈ xs, 0 ≤ x ∧ x ≤ 96
def rTupOf (K : PySem.W.Frag) : List V → Hp → VK → Prop := fun xs H Q => ∃ p ys, xs = [V.ref p] ∧ ((SqL K H p ys ∧ ∀ (l : Addr), H l = none → Q (V.ref l) (upd H l (HO.tup ys))) ∨ SqT K H p ys ∧ Q (V.ref p) H)
theorem tup_K {X : Cx} {K : PySem.W.Frag} (h : X.K = K := by rfl) : CallR X (.type "tuple") (rTupOf K) := by subst h; exact call_tuple_of
theorem en_tupL {K : PySem.W.Frag} {te : TE} {σ : L2.St} {H : Hp} {p : Addr} {xs : List V} (h : Ev te σ H (.ref p)) (hp : SqL K H p xs) : EvNew (tCB (rTupOf K) (tCons te tNil)) σ H fun v G => ∃ t, v = .ref t ∧ G t = some (.tup xs) := fun H1 e Q q =>
  h H1 e _ fun H2 e2 => ⟨p, xs, rfl, .inl ⟨ex_l (e.trans e2) hp, fun l hl => q _ _ (e2.trans (Ex.new hl)) fun G g => ⟨l, rfl, g l _ (fresh_back e2 hl) upd_same⟩⟩⟩
theorem en_tupN {K : PySem.W.Frag} {te : TE} {σ : L2.St} {H : Hp} {n : Nat} {P : Nat → V → Hp → Prop} (h : EvNew te σ H (ListP n P)) : EvNew (tCB (rTupOf K) (tCons te tNil)) σ H fun v G => ∃ p vs, v = .ref p ∧ G p = some (.tup vs) ∧ vs.length = n ∧ ∀ (k : Nat) x, vs[k]? = some x → P k x G := fun H1 e Q q =>
  h H1 e _ fun v H2 e2 hv => by
    obtain ⟨p, vs, rfl, hp, hl, _⟩ := hv.self
    refine ⟨p, vs, rfl, .inl ⟨sq_of hp, fun l hn => q _ _ (e2.trans (Ex.new hn)) fun G g => ?_⟩⟩
    have g2 : ∀ b o, H1 b = none → H2 b = some o → G b = some o := fun b o h1 h2 => g b o h1 (by rw [upd_ne (fun z => by rw [z, hn] at h2; cases h2)]; exact h2)
    obtain ⟨p', vs', e', hp', hl', ha'⟩ := hv G g2
    cases e'
    have hf : H1 p = none := by
      obtain ⟨p3, vs3, e3, hp3, _⟩ := hv (fun b => match H1 b with | none => H2 b | some _ => none) (fun b o h1 h2 => by simp only [h1, h2])
      cases e3
      cases hq : H1 p with
      | none => rfl
      | some o => simp only [hq] at hp3; cases hp3
    have hv2 := g2 p _ hf hp
    rw [hp'] at hv2
    cases hv2
    exact ⟨l, vs, rfl, g l _ (fresh_back e2 hn) upd_same, hl', ha'⟩
theorem sqL_ins {K : PySem.W.Frag} {H : Hp} {x p C dx : Addr} {fs : List (Str × V)} {o : HO} {xs : List V} (hx : H x = some (.ins C dx fs)) (h : SqL K H p xs) : SqL K (upd H x o) p xs := by
  have ne : ∀ {z : HO}, H p = some z → (∀ a b c, z ≠ .ins a b c) → p ≠ x := fun hz hn e => by
    rw [e, hx] at hz
    exact hn _ _ _ (Option.some.inj hz).symm
  rcases h with (h | ⟨o', h⟩) | h
  · exact .inl (.inl (by rw [upd_ne (ne h fun _ _ _ z => by cases z)]; exact h))
  · exact .inl (.inr ⟨o', by rw [upd_ne (ne h fun _ _ _ z => by cases z)]; exact h⟩)
  · exact .inr h
theorem RowsL.ins {K : PySem.W.Frag} {H : Hp} {x p C dx : Addr} {fs : List (Str × V)} {o : HO} {xss : List (List Int)} (hx : H x = some (.ins C dx fs)) (h : RowsL K H p xss) : RowsL K (upd H x o) p xss := by
  obtain ⟨vs, h1, h2, h3⟩ := h.all
  exact ⟨vs, sqL_ins hx h1, h2, fun i v hv => (h3 i v hv).imp fun p h => ⟨h.1, sqL_ins hx h.2⟩⟩
theorem ev_whouse {K : PySem.W.Frag} {C : Addr} {te : TE} {σ : L2.St} {H : Hp} {a dx : Addr} {h w : V} (he : Ev te σ H (.ref a)) (hi : H a = some (.ins C dx (watF h w))) (c : Cls K C) (na : NoAttr K C "house") : Ev (tFld K te "house") σ H h := fun H1 e Q q' =>
  he H1 e _ fun H2 e2 => ⟨a, _, dx, _, _, rfl, e2 _ _ (e _ _ hi), c, na, rfl, q' H2 e2⟩
theorem ev_wrows {K : PySem.W.Frag} {C : Addr} {te : TE} {σ : L2.St} {H : Hp} {a dx : Addr} {h w : V} (he : Ev te σ H (.ref a)) (hi : H a = some (.ins C dx (watF h w))) (c : Cls K C) (na : NoAttr K C "_rows") : Ev (tFld K te "_rows") σ H w := fun H1 e Q q' =>
  he H1 e _ fun H2 e2 => ⟨a, _, dx, _, _, rfl, e2 _ _ (e _ _ hi), c, na, rfl, q' H2 e2⟩
theorem en_copyT {K : PySem.W.Frag} {te : TE} {σ : L2.St} {H : Hp} {p : Addr} {xs : List V} (h : Ev te σ H (.ref p)) (hp : SqT K H p xs) : EvNew (tCB (rListK K) (tCons te tNil)) σ H fun v G => ∃ t, v = .ref t ∧ G t = some (.lst xs) := fun H1 e Q q =>
  h H1 e _ fun H2 e2 => ⟨p, xs, rfl, .inr (ex_t (e.trans e2) hp), fun l hl => q _ _ (e2.trans (Ex.new hl)) fun G g => ⟨l, rfl, g l _ (fresh_back e2 hl) upd_same⟩⟩
def watVal (xss : List (List Int)) (n g h : Int) : Int := (xss.getD g.toNat []).getD (h % n).toNat 0
/-! ### rows under way -/
def RowsM (H0 H : Hp) (p : Addr) (qs : List (Addr × List Int)) : Prop := H0 p = none ∧ H p = some (.lst (qs.map fun q => V.ref q.1)) ∧ (qs.map (·.1)).Nodup ∧ ∀ q ∈ qs, q.1 ≠ p ∧ H0 q.1 = none ∧ H q.1 = some (.lst (q.2.map V.int))
theorem RowsM.base {H0 H1 H : Hp} {p : Addr} {qs : List (Addr × List Int)} (e : Ex H0 H1) (h : RowsM H1 H p qs) : RowsM H0 H p qs := ⟨fresh_back e h.1, h.2.1, h.2.2.1, fun q hq => ⟨(h.2.2.2 q hq).1, fresh_back e (h.2.2.2 q hq).2.1, (h.2.2.2 q hq).2.2⟩⟩
theorem RowsM.rows {K : PySem.W.Frag} {H0 H : Hp} {p : Addr} {qs : List (Addr × List Int)} (h : RowsM H0 H p qs) : RowsL K H p (qs.map (·.2)) := by
  refine ⟨_, sq_of h.2.1, by simp, fun i v hv => ?_⟩
  rw [List.getElem?_map] at hv
  cases e : qs[i]? with
  | none => rw [e] at hv; cases hv
  | some q =>
    rw [e] at hv
    cases hv
    refine ⟨q.1, rfl, ?_⟩
    rw [List.getD_eq_getElem?_getD, List.getElem?_map, e]
    exact sq_of (h.2.2.2 q (List.mem_of_getElem? e)).2.2
/-! ### spreads that are good -/
/-! ### zip(tuple, list) -/
/-! ### watches turned and stretched -/
theorem Shape.row' {n m : Nat} {xss : List (List Int)} (h : Shape (n : Int) m xss) : ∀ xs ∈ xss, xs.length = n := fun xs hx => by have := h.row xs hx; omega
theorem el_isW {te : TE} {σ : L2.St} {H : Hp} {xs ys : List V} (h : EvL te σ H xs) (e : xs = ys) : EvL te σ H ys := by subst e; exact h
theorem el_rngY {σ : L2.St} {H : Hp} {te : TE} {ta : TA} {j n : Nat} {vs : List Nat} (v : Nat → V) (h : EvA ta σ H [.int (n : Int)]) (hn : n ≤ 40000) (hw : ∀ x, wipe ((wipe σ vs).set j (some x)) vs = wipe σ vs)
    (he : ∀ (i : Nat) H1, i < n → Ex H H1 → Ev te ((wipe σ vs).set j (some (.int (i : Int)))) H1 (v i)) : EvL (tLc (iRng1 ta) (gName j) tYes te vs) σ H ((List.range n).map v) := by
  have r := ei_rng1 h (by omega)
  rw [Int.toNat_natCast] at r
  rw [← given_all]
  exact el_lc (fun _ => true) v r hn bd_fn (fun i _ => hw _) (fun _ _ _ _ => yes_T) fun i H1 hi e _ => he i H1 hi e
/-! ### tuples told alike -/
theorem eqv_intsT {xs ys : List Int} : PyData.eqv (.tuple (xs.map PyData.int)) (.tuple (ys.map PyData.int)) = decide (xs = ys) := by
  rw [PyData.eqv, eqv_ints]
theorem shaped_intsT (xs : List Int) : SeqAt.shaped (.tuple (xs.map PyData.int)) = true := by
  have h1 := lay_ints xs
  have h2 := depth_ints xs
  unfold SeqAt.shaped
  simp [PyData.canLay0, PyData.depth, h1]
  omega
theorem eqv_strs : ∀ xs ys : List Str, PyData.eqvAll (xs.map PyData.str) (ys.map PyData.str) = decide (xs = ys)
  | [], [] => by simp [PyData.eqvAll]
  | [], y :: ys => by simp [PyData.eqvAll]
  | x :: xs, [] => by simp [PyData.eqvAll]
  | x :: xs, y :: ys => by
    rw [List.map_cons, List.map_cons, PyData.eqvAll, eqv_strs xs ys, PyData.eqv]
    by_cases e : x = y
    · subst e; simp
    · simp [e]
theorem word_ok {x : Str} (h : Word x) : PyData.strOk x = true := by
  unfold PyData.strOk
  rw [Array.all_eq_true']
  intro c hc
  have := h.all c (by simpa using hc)
  exact decide_eq_true (by omega)
theorem lay_strs : ∀ xs : List Str, (∀ x ∈ xs, Word x) → PyData.canLayAll0 (xs.map PyData.str) = true
  | [], _ => by simp [PyData.canLayAll0]
  | x :: xs, h => by
    have := lay_strs xs fun y hy => h y (List.mem_cons_of_mem _ hy)
    simp [PyData.canLayAll0, PyData.canLay0, this, word_ok (h x List.mem_cons_self)]
theorem depth_strs : ∀ xs : List Str, PyData.depthAll (xs.map PyData.str) ≤ 1
  | [] => by simp [PyData.depthAll]
  | x :: xs => by
    have := depth_strs xs
    simp [PyData.depthAll, PyData.depth]
    omega
theorem eqv_strsT {xs ys : List Str} : PyData.eqv (.tuple (xs.map PyData.str)) (.tuple (ys.map PyData.str)) = decide (xs = ys) := by
  rw [PyData.eqv, eqv_strs]
theorem shaped_strsT (xs : List Str) (h : ∀ x ∈ xs, Word x) : SeqAt.shaped (.tuple (xs.map PyData.str)) = true := by
  have h1 := lay_strs xs h
  have h2 := depth_strs xs
  unfold SeqAt.shaped
  simp [PyData.canLay0, PyData.depth, h1]
  omega
theorem dp_strsB {K : PySem.W.Frag} {H : Hp} : ∀ ss : List Str, DpAll K H (ss.map V.str) (ss.map PyData.str)
  | [] => .nil
  | s :: ss => .cons (.str s) (dp_strsB ss)
theorem rv_eqTI {K : PySem.W.Frag} {H : Hp} {a b : Addr} {xs ys : List Int} (h1 : H a = some (.tup (xs.map V.int))) (h2 : H b = some (.tup (ys.map V.int))) : RV (rEqD K) (.ref a) (.ref b) H (.bl (decide (xs = ys))) := fun H1 e Q q =>
  ⟨.tuple (xs.map .int), .tuple (ys.map .int), .tup (st_of (e _ _ h1)) (dp_ints _), .tup (st_of (e _ _ h2)) (dp_ints _), shaped_intsT _, shaped_intsT _, by rw [eqv_intsT]; exact q H1 (Ex.refl H1)⟩
theorem rv_eqTS {K : PySem.W.Frag} {H : Hp} {a b : Addr} {xs ys : List Str} (h1 : H a = some (.tup (xs.map V.str))) (h2 : H b = some (.tup (ys.map V.str))) (w1 : ∀ x ∈ xs, Word x) (w2 : ∀ x ∈ ys, Word x) : RV (rEqD K) (.ref a) (.ref b) H (.bl (decide (xs = ys))) := fun H1 e Q q =>
  ⟨.tuple (xs.map .str), .tuple (ys.map .str), .tup (st_of (e _ _ h1)) (dp_strsB _), .tup (st_of (e _ _ h2)) (dp_strsB _), shaped_strsT _ w1, shaped_strsT _ w2, by rw [eqv_strsT]; exact q H1 (Ex.refl H1)⟩
theorem pairs_eq : ∀ {gs fs : List (Str × Int)}, (gs.map (·.1) = fs.map (·.1) ∧ gs.map (·.2) = fs.map (·.2)) ↔ gs = fs
  | [], [] => by simp
  | [], f :: fs => by simp
  | g :: gs, [] => by simp
  | g :: gs, f :: fs => by
    have := pairs_eq (gs := gs) (fs := fs)
    simp only [List.map_cons, List.cons.injEq, ← this]
    constructor
    · rintro ⟨⟨h1, h2⟩, h3, h4⟩
      exact ⟨Prod.ext h1 h3, h2, h4⟩
    · rintro ⟨rfl, h2, h4⟩
      exact ⟨⟨rfl, h2⟩, rfl, h4⟩
/-! ### watches in full -/
inductive WErr where
  | wlen (k : Nat)
  | str (x : Int)
def badStr (x : Int) : Bool := decide (x < 0 ∨ 96 < x)
def rowAll (n : Nat) (xs : List Int) : List WErr := (if xs.length = n then [] else [.wlen xs.length]) ++ (xs.filter badStr).map .str
def watchAll (n m : Nat) (xss : List (List Int)) : List WErr := (if xss.length = m then [] else [.wlen xss.length]) ++ xss.flatMap (rowAll n)
def watchErr (n m : Nat) (xss : List (List Int)) : Option WErr := (watchAll n m xss).head?
theorem row_good {n : Nat} {xs : List Int} (h : rowAll n xs = []) : xs.length = n ∧ ∀ x ∈ xs, 0 ≤ x ∧ x ≤ 96 := by
  unfold rowAll at h
  by_cases c : xs.length = n
  · rw [if_pos c, List.nil_append, List.map_eq_nil_iff, List.filter_eq_nil_iff] at h
    exact ⟨c, fun x hx => by
      have hb : badStr x = false := by simpa using h x hx
      unfold badStr at hb
      have := of_decide_eq_false hb
      omega⟩
  · rw [if_neg c] at h
    simp at h
theorem watch_good {n m : Nat} {xss : List (List Int)} (h : watchErr n m xss = none) : Shape (n : Int) m xss := by
  unfold watchErr watchAll at h
  rw [List.head?_eq_none_iff] at h
  by_cases c : xss.length = m
  · rw [if_pos c, List.nil_append, List.flatMap_eq_nil_iff] at h
    exact ⟨c, fun xs hx => by rw [(row_good (h xs hx)).1], fun xs hx => (row_good (h xs hx)).2⟩
  · rw [if_neg c] at h
    simp at h
theorem good_row {n : Nat} {xs : List Int} (h1 : xs.length = n) (h2 : ∀ x ∈ xs, 0 ≤ x ∧ x ≤ 96) : rowAll n xs = [] := by
  unfold rowAll
  rw [if_pos h1, List.nil_append, List.map_eq_nil_iff, List.filter_eq_nil_iff]
  intro x hx
  have := h2 x hx
  unfold badStr
  rw [decide_eq_false (by omega)]
  simp
theorem good_watch {n m : Nat} {xss : List (List Int)} (h : Shape (n : Int) m xss) : watchErr n m xss = none := by
  unfold watchErr watchAll
  rw [if_pos h.len, List.nil_append, List.head?_eq_none_iff, List.flatMap_eq_nil_iff]
  exact fun xs hx => good_row (by have := h.row xs hx; omega) (h.val xs hx)
/-! ### a[b] of an own class, within try too -/
def rOwnIxS (C : Addr) (sp : Sp) (E : L2.St → XK) (σ : L2.St) : R2 := fun x y H Q => ∃ a dx fs, x = .ref a ∧ H a = some (.ins C dx fs) ∧ sp [x, y] H Q (E σ)
section
open PySem.Spec PyProof.Rows
variable {X : Cx} {CX : CXT} {f C : Addr} {fd : FuncData} {ps : List Str} {n : Nat} {sp : Sp} {E : L2.St → XK} {a b : Expr} {ta tb : TE} {pos : Pos}
theorem pe_ixOS (m : Meth X.K C "__getitem__" f) (hfi : PySem.W.fnIn X.K f = true) (F : FnOk X.prog X.w X.K X.mg X.base CX n f fd ps sp) (hr : Room (n + 1) X.A) (hb : Binds X.K fd ps []) (hx : ∀ σ, PassesAt CX X σ (E σ))
    (ha : PE X a ta) (hb2 : PE X b tb) (hs : ∀ o i, subscripted b true o i = runValue (.builtin "lifetime.subscript" ⟨[o, i], []⟩)) : PE X (.Subscript a b pos) (tOpS (rOwnIxS C sp E) ta tb) := by
  refine ⟨fun pins s σ H Q I h => ?_⟩
  refine Subscript_ (binT ha hb2 I h fun v u s2 x y H2 I2 rx ry q => ?_)
  obtain ⟨a, dx, fs, rfl, ha', h⟩ := q
  cases rx
  obtain ⟨mA, J, _⟩ := ins_get I2.hok ha'
  obtain ⟨od, J, _⟩ := J.look
  obtain ⟨m', hF⟩ := I2.fr
  exact PySem.W.sub_K hF I2.ok.mod.kin J m.at_ hfi m.fn (run_ownA (vs := [V.ref a, y]) F hr.in1 rfl hb (hx σ) I2 (.cons rfl (.cons ry .nil)) h) (hs _ _)
end
set_option genInjectivity false in
set_option genSizeOf false in
structure Ads where
  f_BadNumber_init : Addr
  d_BadNumber_init : FuncData
  f_TooMany_init : Addr
  d_TooMany_init : FuncData
  f_RepeatedHour_init : Addr
  d_RepeatedHour_init : FuncData
  f_WrongLength_init : Addr
  d_WrongLength_init : FuncData
  f_BadName_init : Addr
  d_BadName_init : FuncData
  f_RepeatedName_init : Addr
  d_RepeatedName_init : FuncData
  f_Lot_init : Addr
  d_Lot_init : FuncData
  f_Lot_contains : Addr
  d_Lot_contains : FuncData
  f_check_name : Addr
  d_check_name : FuncData
  f_check_new_name : Addr
  d_check_new_name : FuncData
  f_House_init : Addr
  d_House_init : FuncData
  f_House_len : Addr
  d_House_len : FuncData
  f_House_eq : Addr
  d_House_eq : FuncData
  f_is_gate : Addr
  d_is_gate : FuncData
  f_u_check_row : Addr
  d_u_check_row : FuncData
  f_Watch_init : Addr
  d_Watch_init : FuncData
  f_Watch_empty : Addr
  d_Watch_empty : FuncData
  f_Watch_of_lots : Addr
  d_Watch_of_lots : FuncData
  f_Watch_rows : Addr
  d_Watch_rows : FuncData
  f_Watch_getitem : Addr
  d_Watch_getitem : FuncData
  f_Watch_eq : Addr
  d_Watch_eq : FuncData
  f_u_law_cell : Addr
  d_u_law_cell : FuncData
  f_u_law_draws : Addr
  d_u_law_draws : FuncData
  f_u_law_two : Addr
  d_u_law_two : FuncData
  f_u_law_bits : Addr
  d_u_law_bits : FuncData
  f_u_law_name : Addr
  d_u_law_name : FuncData
  f_u_law_names : Addr
  d_u_law_names : FuncData
  f_u_law_gates : Addr
  d_u_law_gates : FuncData
  f_u_law_rows : Addr
  d_u_law_rows : FuncData
  f_u_law_is_int : Addr
  d_u_law_is_int : FuncData
  f_u_law_same : Addr
  d_u_law_same : FuncData
  f_u_law_bad_rows : Addr
  d_u_law_bad_rows : FuncData
  f_u_law_first_error : Addr
  d_u_law_first_error : FuncData
  f_u_law_no_gate : Addr
  d_u_law_no_gate : FuncData
  f_u_law_shows : Addr
  d_u_law_shows : FuncData
  f_u_law_answers : Addr
  d_u_law_answers : FuncData
  f_u_law_lots_told : Addr
  d_u_law_lots_told : FuncData
  f_u_law_of_lots : Addr
  d_u_law_of_lots : FuncData
  f_law : Addr
  d_law : FuncData
  C_BadNumber : Addr
  C_TooMany : Addr
  C_RepeatedHour : Addr
  C_OtherHours : Addr
  C_WrongLength : Addr
  C_NoPlace : Addr
  C_BadName : Addr
  C_RepeatedName : Addr
  C_WatchError : Addr
  C_Lot : Addr
  C_House : Addr
  C_Watch : Addr
  p_Watch_empty : Addr
  p_Watch_of_lots : Addr
  p_Watch_rows : Addr
structure Txt (K : PySem.W.Frag) (mg : Str → Option Value) (A : Ads) : Prop where
  F_BadNumber_init : Fun K "__init__" "BadNumber.__init__" s_BadNumber_init A.f_BadNumber_init A.d_BadNumber_init
  F_TooMany_init : Fun K "__init__" "TooMany.__init__" s_TooMany_init A.f_TooMany_init A.d_TooMany_init
  F_RepeatedHour_init : Fun K "__init__" "RepeatedHour.__init__" s_RepeatedHour_init A.f_RepeatedHour_init A.d_RepeatedHour_init
  F_WrongLength_init : Fun K "__init__" "WrongLength.__init__" s_WrongLength_init A.f_WrongLength_init A.d_WrongLength_init
  F_BadName_init : Fun K "__init__" "BadName.__init__" s_BadName_init A.f_BadName_init A.d_BadName_init
  F_RepeatedName_init : Fun K "__init__" "RepeatedName.__init__" s_RepeatedName_init A.f_RepeatedName_init A.d_RepeatedName_init
  F_Lot_init : Fun K "__init__" "Lot.__init__" s_Lot_init A.f_Lot_init A.d_Lot_init
  F_Lot_contains : Fun K "__contains__" "Lot.__contains__" s_Lot_contains A.f_Lot_contains A.d_Lot_contains
  F_check_name : Fun K "check_name" "check_name" s_check_name A.f_check_name A.d_check_name
  g_check_name : mg "check_name" = some (.ref A.f_check_name)
  k_check_name : PySem.W.keepIn K (.ref A.f_check_name) = true
  F_check_new_name : Fun K "check_new_name" "check_new_name" s_check_new_name A.f_check_new_name A.d_check_new_name
  g_check_new_name : mg "check_new_name" = some (.ref A.f_check_new_name)
  k_check_new_name : PySem.W.keepIn K (.ref A.f_check_new_name) = true
  F_House_init : Fun K "__init__" "House.__init__" s_House_init A.f_House_init A.d_House_init
  F_House_len : Fun K "__len__" "House.__len__" s_House_len A.f_House_len A.d_House_len
  F_House_eq : Fun K "__eq__" "House.__eq__" s_House_eq A.f_House_eq A.d_House_eq
  F_is_gate : Fun K "is_gate" "is_gate" s_is_gate A.f_is_gate A.d_is_gate
  g_is_gate : mg "is_gate" = some (.ref A.f_is_gate)
  k_is_gate : PySem.W.keepIn K (.ref A.f_is_gate) = true
  F_u_check_row : Fun K "_check_row" "_check_row" s_u_check_row A.f_u_check_row A.d_u_check_row
  g_u_check_row : mg "_check_row" = some (.ref A.f_u_check_row)
  k_u_check_row : PySem.W.keepIn K (.ref A.f_u_check_row) = true
  F_Watch_init : Fun K "__init__" "Watch.__init__" s_Watch_init A.f_Watch_init A.d_Watch_init
  F_Watch_empty : Fun K "empty" "Watch.empty" s_Watch_empty A.f_Watch_empty A.d_Watch_empty
  F_Watch_of_lots : Fun K "of_lots" "Watch.of_lots" s_Watch_of_lots A.f_Watch_of_lots A.d_Watch_of_lots
  F_Watch_rows : Fun K "rows" "Watch.rows" s_Watch_rows A.f_Watch_rows A.d_Watch_rows
  F_Watch_getitem : Fun K "__getitem__" "Watch.__getitem__" s_Watch_getitem A.f_Watch_getitem A.d_Watch_getitem
  F_Watch_eq : Fun K "__eq__" "Watch.__eq__" s_Watch_eq A.f_Watch_eq A.d_Watch_eq
  F_u_law_cell : Fun K "_law_cell" "_law_cell" s_u_law_cell A.f_u_law_cell A.d_u_law_cell
  g_u_law_cell : mg "_law_cell" = some (.ref A.f_u_law_cell)
  k_u_law_cell : PySem.W.keepIn K (.ref A.f_u_law_cell) = true
  F_u_law_draws : Fun K "_law_draws" "_law_draws" s_u_law_draws A.f_u_law_draws A.d_u_law_draws
  g_u_law_draws : mg "_law_draws" = some (.ref A.f_u_law_draws)
  k_u_law_draws : PySem.W.keepIn K (.ref A.f_u_law_draws) = true
  F_u_law_two : Fun K "_law_two" "_law_two" s_u_law_two A.f_u_law_two A.d_u_law_two
  g_u_law_two : mg "_law_two" = some (.ref A.f_u_law_two)
  k_u_law_two : PySem.W.keepIn K (.ref A.f_u_law_two) = true
  F_u_law_bits : Fun K "_law_bits" "_law_bits" s_u_law_bits A.f_u_law_bits A.d_u_law_bits
  g_u_law_bits : mg "_law_bits" = some (.ref A.f_u_law_bits)
  k_u_law_bits : PySem.W.keepIn K (.ref A.f_u_law_bits) = true
  F_u_law_name : Fun K "_law_name" "_law_name" s_u_law_name A.f_u_law_name A.d_u_law_name
  g_u_law_name : mg "_law_name" = some (.ref A.f_u_law_name)
  k_u_law_name : PySem.W.keepIn K (.ref A.f_u_law_name) = true
  F_u_law_names : Fun K "_law_names" "_law_names" s_u_law_names A.f_u_law_names A.d_u_law_names
  g_u_law_names : mg "_law_names" = some (.ref A.f_u_law_names)
  k_u_law_names : PySem.W.keepIn K (.ref A.f_u_law_names) = true
  F_u_law_gates : Fun K "_law_gates" "_law_gates" s_u_law_gates A.f_u_law_gates A.d_u_law_gates
  g_u_law_gates : mg "_law_gates" = some (.ref A.f_u_law_gates)
  k_u_law_gates : PySem.W.keepIn K (.ref A.f_u_law_gates) = true
  F_u_law_rows : Fun K "_law_rows" "_law_rows" s_u_law_rows A.f_u_law_rows A.d_u_law_rows
  g_u_law_rows : mg "_law_rows" = some (.ref A.f_u_law_rows)
  k_u_law_rows : PySem.W.keepIn K (.ref A.f_u_law_rows) = true
  F_u_law_is_int : Fun K "_law_is_int" "_law_is_int" s_u_law_is_int A.f_u_law_is_int A.d_u_law_is_int
  g_u_law_is_int : mg "_law_is_int" = some (.ref A.f_u_law_is_int)
  k_u_law_is_int : PySem.W.keepIn K (.ref A.f_u_law_is_int) = true
  F_u_law_same : Fun K "_law_same" "_law_same" s_u_law_same A.f_u_law_same A.d_u_law_same
  g_u_law_same : mg "_law_same" = some (.ref A.f_u_law_same)
  k_u_law_same : PySem.W.keepIn K (.ref A.f_u_law_same) = true
  F_u_law_bad_rows : Fun K "_law_bad_rows" "_law_bad_rows" s_u_law_bad_rows A.f_u_law_bad_rows A.d_u_law_bad_rows
  g_u_law_bad_rows : mg "_law_bad_rows" = some (.ref A.f_u_law_bad_rows)
  k_u_law_bad_rows : PySem.W.keepIn K (.ref A.f_u_law_bad_rows) = true
  F_u_law_first_error : Fun K "_law_first_error" "_law_first_error" s_u_law_first_error A.f_u_law_first_error A.d_u_law_first_error
  g_u_law_first_error : mg "_law_first_error" = some (.ref A.f_u_law_first_error)
  k_u_law_first_error : PySem.W.keepIn K (.ref A.f_u_law_first_error) = true
  F_u_law_no_gate : Fun K "_law_no_gate" "_law_no_gate" s_u_law_no_gate A.f_u_law_no_gate A.d_u_law_no_gate
  g_u_law_no_gate : mg "_law_no_gate" = some (.ref A.f_u_law_no_gate)
  k_u_law_no_gate : PySem.W.keepIn K (.ref A.f_u_law_no_gate) = true
  F_u_law_shows : Fun K "_law_shows" "_law_shows" s_u_law_shows A.f_u_law_shows A.d_u_law_shows
  g_u_law_shows : mg "_law_shows" = some (.ref A.f_u_law_shows)
  k_u_law_shows : PySem.W.keepIn K (.ref A.f_u_law_shows) = true
  F_u_law_answers : Fun K "_law_answers" "_law_answers" s_u_law_answers A.f_u_law_answers A.d_u_law_answers
  g_u_law_answers : mg "_law_answers" = some (.ref A.f_u_law_answers)
  k_u_law_answers : PySem.W.keepIn K (.ref A.f_u_law_answers) = true
  F_u_law_lots_told : Fun K "_law_lots_told" "_law_lots_told" s_u_law_lots_told A.f_u_law_lots_told A.d_u_law_lots_told
  g_u_law_lots_told : mg "_law_lots_told" = some (.ref A.f_u_law_lots_told)
  k_u_law_lots_told : PySem.W.keepIn K (.ref A.f_u_law_lots_told) = true
  F_u_law_of_lots : Fun K "_law_of_lots" "_law_of_lots" s_u_law_of_lots A.f_u_law_of_lots A.d_u_law_of_lots
  g_u_law_of_lots : mg "_law_of_lots" = some (.ref A.f_u_law_of_lots)
  k_u_law_of_lots : PySem.W.keepIn K (.ref A.f_u_law_of_lots) = true
  F_law : Fun K "law" "law" s_law A.f_law A.d_law
  g_law : mg "law" = some (.ref A.f_law)
  k_law : PySem.W.keepIn K (.ref A.f_law) = true
  c_LONGEST_NAME : ∃ t, mg "_LONGEST_NAME" = some (.int 8 t)
  c_LETTERS : ∃ t, mg "_LETTERS" = some (.str "abcdefghijklmnopqrstuvwxyz" t)
  z_abs : mg "abs" = none
  z_len : mg "len" = none
  z_int : mg "int" = none
  z_bool : mg "bool" = none
  z_str : mg "str" = none
  z_list : mg "list" = none
  z_tuple : mg "tuple" = none
  z_isinstance : mg "isinstance" = none
  z_range : mg "range" = none
  z_ValueError : mg "ValueError" = none
  z_min : mg "min" = none
  g_BadNumber : mg "BadNumber" = some (.ref A.C_BadNumber)
  g_TooMany : mg "TooMany" = some (.ref A.C_TooMany)
  g_RepeatedHour : mg "RepeatedHour" = some (.ref A.C_RepeatedHour)
  g_OtherHours : mg "OtherHours" = some (.ref A.C_OtherHours)
  g_WrongLength : mg "WrongLength" = some (.ref A.C_WrongLength)
  g_NoPlace : mg "NoPlace" = some (.ref A.C_NoPlace)
  g_BadName : mg "BadName" = some (.ref A.C_BadName)
  g_RepeatedName : mg "RepeatedName" = some (.ref A.C_RepeatedName)
  g_WatchError : mg "WatchError" = some (.ref A.C_WatchError)
  g_Lot : mg "Lot" = some (.ref A.C_Lot)
  g_House : mg "House" = some (.ref A.C_House)
  g_Watch : mg "Watch" = some (.ref A.C_Watch)
  si_list : PySem.W.subIn K (.type "list") (.ref A.C_Watch) = some false
  kit_list_Watch : PySem.W.kitOne K (.type "list") (.ref A.C_Watch) = some false
  ox_BadNumber : OexC K A.C_BadNumber
  ni_BadNumber : PySem.W.findIn K (.ref A.C_BadNumber) "__init__" = some (some (.ref A.f_BadNumber_init))
  ti_BadNumber : PySem.W.typeIn K (.ref A.f_BadNumber_init) = some (.type "function")
  nf_BadNumber_name : PySem.W.findIn K (.ref A.C_BadNumber) "name" = some none
  nf_BadNumber_value : PySem.W.findIn K (.ref A.C_BadNumber) "value" = some none
  xf_BadNumber : XfC K A.C_BadNumber
  ex_BadNumber : ExcC K A.C_BadNumber
  ox_TooMany : OexC K A.C_TooMany
  ni_TooMany : PySem.W.findIn K (.ref A.C_TooMany) "__init__" = some (some (.ref A.f_TooMany_init))
  ti_TooMany : PySem.W.typeIn K (.ref A.f_TooMany_init) = some (.type "function")
  nf_TooMany_name : PySem.W.findIn K (.ref A.C_TooMany) "name" = some none
  nf_TooMany_most : PySem.W.findIn K (.ref A.C_TooMany) "most" = some none
  ox_BadName : OexC K A.C_BadName
  ni_BadName : PySem.W.findIn K (.ref A.C_BadName) "__init__" = some (some (.ref A.f_BadName_init))
  ti_BadName : PySem.W.typeIn K (.ref A.f_BadName_init) = some (.type "function")
  nf_BadName_name : PySem.W.findIn K (.ref A.C_BadName) "name" = some none
  ox_RepeatedName : OexC K A.C_RepeatedName
  ni_RepeatedName : PySem.W.findIn K (.ref A.C_RepeatedName) "__init__" = some (some (.ref A.f_RepeatedName_init))
  ti_RepeatedName : PySem.W.typeIn K (.ref A.f_RepeatedName_init) = some (.type "function")
  nf_RepeatedName_name : PySem.W.findIn K (.ref A.C_RepeatedName) "name" = some none
  ox_WrongLength : OexC K A.C_WrongLength
  ni_WrongLength : PySem.W.findIn K (.ref A.C_WrongLength) "__init__" = some (some (.ref A.f_WrongLength_init))
  ti_WrongLength : PySem.W.typeIn K (.ref A.f_WrongLength_init) = some (.type "function")
  nf_WrongLength_length : PySem.W.findIn K (.ref A.C_WrongLength) "length" = some none
  xf_WrongLength : XfC K A.C_WrongLength
  ex_WrongLength : ExcC K A.C_WrongLength
  ox_RepeatedHour : OexC K A.C_RepeatedHour
  ni_RepeatedHour : PySem.W.findIn K (.ref A.C_RepeatedHour) "__init__" = some (some (.ref A.f_RepeatedHour_init))
  ti_RepeatedHour : PySem.W.typeIn K (.ref A.f_RepeatedHour_init) = some (.type "function")
  nf_RepeatedHour_hour : PySem.W.findIn K (.ref A.C_RepeatedHour) "hour" = some none
  xP_NoPlace : PySem.W.excIn K A.C_NoPlace [.type "ValueError", .type "Exception", .type "BaseException", .type "object"] "ValueError.__new__" = true
  kP_NoPlace : PySem.W.keepIn K (.ref A.C_NoPlace) = true
  bP_NoPlace : PySem.W.subIn K (.ref A.C_NoPlace) (.type "BaseException") = some true
  tP_NoPlace : PySem.W.typeIn K (.ref A.C_NoPlace) = some (.type "type")
  ex_NoPlace : ExcC K A.C_NoPlace
  xP_OtherHours : PySem.W.excIn K A.C_OtherHours [.type "ValueError", .type "Exception", .type "BaseException", .type "object"] "ValueError.__new__" = true
  kP_OtherHours : PySem.W.keepIn K (.ref A.C_OtherHours) = true
  bP_OtherHours : PySem.W.subIn K (.ref A.C_OtherHours) (.type "BaseException") = some true
  tP_OtherHours : PySem.W.typeIn K (.ref A.C_OtherHours) = some (.type "type")
  ex_OtherHours : ExcC K A.C_OtherHours
  xm_WrongLength_WrongLength : PySem.W.exmOne K (.ref A.C_WrongLength) (.ref A.C_WrongLength) = some true
  xm_BadNumber_WrongLength : PySem.W.exmOne K (.ref A.C_BadNumber) (.ref A.C_WrongLength) = some false
  xm_BadNumber_BadNumber : PySem.W.exmOne K (.ref A.C_BadNumber) (.ref A.C_BadNumber) = some true
  xm_NoPlace_NoPlace : PySem.W.exmOne K (.ref A.C_NoPlace) (.ref A.C_NoPlace) = some true
  xm_OtherHours_WrongLength : PySem.W.exmOne K (.ref A.C_OtherHours) (.ref A.C_WrongLength) = some false
  xm_OtherHours_OtherHours : PySem.W.exmOne K (.ref A.C_OtherHours) (.ref A.C_OtherHours) = some true
  kit_WrongLength_WatchError : PySem.W.kitOne K (.ref A.C_WrongLength) (.ref A.C_WatchError) = some true
  kit_WrongLength_BadNumber : PySem.W.kitOne K (.ref A.C_WrongLength) (.ref A.C_BadNumber) = some false
  kit_WrongLength_OtherHours : PySem.W.kitOne K (.ref A.C_WrongLength) (.ref A.C_OtherHours) = some false
  kit_BadNumber_WatchError : PySem.W.kitOne K (.ref A.C_BadNumber) (.ref A.C_WatchError) = some true
  kit_BadNumber_WrongLength : PySem.W.kitOne K (.ref A.C_BadNumber) (.ref A.C_WrongLength) = some false
  kit_BadNumber_NoPlace : PySem.W.kitOne K (.ref A.C_BadNumber) (.ref A.C_NoPlace) = some false
  kit_NoPlace_WatchError : PySem.W.kitOne K (.ref A.C_NoPlace) (.ref A.C_WatchError) = some true
  kit_NoPlace_ValueError : PySem.W.kitOne K (.ref A.C_NoPlace) (.type "ValueError") = some true
  kit_NoPlace_BadNumber : PySem.W.kitOne K (.ref A.C_NoPlace) (.ref A.C_BadNumber) = some false
  kit_NoPlace_WrongLength : PySem.W.kitOne K (.ref A.C_NoPlace) (.ref A.C_WrongLength) = some false
  kit_OtherHours_WatchError : PySem.W.kitOne K (.ref A.C_OtherHours) (.ref A.C_WatchError) = some true
  kit_OtherHours_ValueError : PySem.W.kitOne K (.ref A.C_OtherHours) (.type "ValueError") = some true
  kit_OtherHours_WrongLength : PySem.W.kitOne K (.ref A.C_OtherHours) (.ref A.C_WrongLength) = some false
  cl_House : Cls K A.C_House
  mk_House : Mk K A.C_House A.f_House_init
  na_House_hours : NoAttr K A.C_House "hours"
  na_House_names : NoAttr K A.C_House "names"
  na_House_stakes : NoAttr K A.C_House "stakes"
  ty_House : ∀ (H : Hp) (a dx : Addr) (fs : List (Str × V)), H a = some (.ins A.C_House dx fs) → TyX K H (.ref a) (.ref A.C_House)
  rd_House : ∃ mc, ClX.CRead K A.C_House mc ∧ (∃ t, ClX.CVal K A.C_House mc "MOST_HOURS" (.int 24) (.int 24 t)) ∧ (∃ t, ClX.CVal K A.C_House mc "MOST_GATES" (.int 4) (.int 4 t)) ∧ (∃ t, ClX.CVal K A.C_House mc "MOST_CELLS" (.int 48) (.int 48 t)) ∧ (∃ t, ClX.CVal K A.C_House mc "MOST_STAKE" (.int 60) (.int 60 t))
  cl_Watch : Cls K A.C_Watch
  mk_Watch : Mk K A.C_Watch A.f_Watch_init
  na_Watch_house : NoAttr K A.C_Watch "house"
  na_Watch_rows : NoAttr K A.C_Watch "_rows"
  ne_Watch : NeOf K A.C_Watch
  ty_Watch : ∀ (H : Hp) (a dx : Addr) (fs : List (Str × V)), H a = some (.ins A.C_Watch dx fs) → TyX K H (.ref a) (.ref A.C_Watch)
  rd_Watch : ∃ mc, ClX.CRead K A.C_Watch mc ∧ (∃ t, ClX.CVal K A.C_Watch mc "MOST" (.int 96) (.int 96 t))
  cl_Lot : Cls K A.C_Lot
  mk_Lot : Mk K A.C_Lot A.f_Lot_init
  na_Lot_hours : NoAttr K A.C_Lot "hours"
  na_Lot_members : NoAttr K A.C_Lot "_members"
  ty_Lot : ∀ (H : Hp) (a dx : Addr) (fs : List (Str × V)), H a = some (.ins A.C_Lot dx fs) → TyX K H (.ref a) (.ref A.C_Lot)
  rd_Lot : ∃ mc, ClX.CRead K A.C_Lot mc ∧ (∃ t, ClX.CVal K A.C_Lot mc "MOST" (.int 360) (.int 360 t))
  M_Lot_contains : Meth K A.C_Lot "__contains__" A.f_Lot_contains
  M_House_len : Meth K A.C_House "__len__" A.f_House_len
  M_House_eq : Meth K A.C_House "__eq__" A.f_House_eq
  CM_Watch_empty : ∃ mc, ClX.CRead K A.C_Watch mc ∧ ClX.CMet K A.C_Watch mc "empty" A.p_Watch_empty A.f_Watch_empty
  CM_Watch_of_lots : ∃ mc, ClX.CRead K A.C_Watch mc ∧ ClX.CMet K A.C_Watch mc "of_lots" A.p_Watch_of_lots A.f_Watch_of_lots
  P_Watch_rows : PropOf K A.C_Watch "rows" A.p_Watch_rows A.f_Watch_rows
  M_Watch_getitem : Meth K A.C_Watch "__getitem__" A.f_Watch_getitem
  FI_Watch_getitem : PySem.W.fnIn K A.f_Watch_getitem = true
  M_Watch_eq : Meth K A.C_Watch "__eq__" A.f_Watch_eq
section
variable {P : Program} {w : World} {K : PySem.W.Frag} {mg : Str → Option Value} {base : Heap} {A : Ads}
theorem sc_BadNumber_init : FnScope N_BadNumber_init (["self", "name", "value"] : List Str) (defScope s_BadNumber_init) := ⟨rfl, rfl, rfl, by decide +kernel, rfl, by decide +kernel, by decide +kernel⟩
theorem ln0 {us : List Value} (h : us.length = 0) : us = [] := List.length_eq_zero_iff.mp h
theorem ln1 {us : List Value} (h : us.length = 1) : ∃ a0, us = [a0] := by
  cases us with
  | nil => cases h
  | cons a us =>
    obtain rfl := ln0 (us := us) (Nat.succ.inj h)
    exact ⟨a, rfl⟩
theorem ln2 {us : List Value} (h : us.length = 2) : ∃ a0 a1, us = [a0, a1] := by
  cases us with
  | nil => cases h
  | cons a us =>
    obtain ⟨a1, rfl⟩ := ln1 (us := us) (Nat.succ.inj h)
    exact ⟨a, a1, rfl⟩
theorem ln3 {us : List Value} (h : us.length = 3) : ∃ a0 a1 a2, us = [a0, a1, a2] := by
  cases us with
  | nil => cases h
  | cons a us =>
    obtain ⟨a1, a2, rfl⟩ := ln2 (us := us) (Nat.succ.inj h)
    exact ⟨a, a1, a2, rfl⟩
theorem b_BadNumber_init (T : Txt K mg A) : Binds K A.d_BadNumber_init (["self", "name", "value"] : List Str) [] := T.F_BadNumber_init.binds (ps := (["self", "name", "value"] : List Str)) fun _ _ _ _ _ _ us hl => by
  obtain ⟨_, _, _, rfl⟩ := ln3 (us := us) hl
  rfl
theorem sc_TooMany_init : FnScope N_TooMany_init (["self", "name", "most"] : List Str) (defScope s_TooMany_init) := ⟨rfl, rfl, rfl, by decide +kernel, rfl, by decide +kernel, by decide +kernel⟩
theorem b_TooMany_init (T : Txt K mg A) : Binds K A.d_TooMany_init (["self", "name", "most"] : List Str) [] := T.F_TooMany_init.binds (ps := (["self", "name", "most"] : List Str)) fun _ _ _ _ _ _ us hl => by
  obtain ⟨_, _, _, rfl⟩ := ln3 (us := us) hl
  rfl
theorem sc_RepeatedHour_init : FnScope N_RepeatedHour_init (["self", "hour"] : List Str) (defScope s_RepeatedHour_init) := ⟨rfl, rfl, rfl, by decide +kernel, rfl, by decide +kernel, by decide +kernel⟩
theorem b_RepeatedHour_init (T : Txt K mg A) : Binds K A.d_RepeatedHour_init (["self", "hour"] : List Str) [] := T.F_RepeatedHour_init.binds (ps := (["self", "hour"] : List Str)) fun _ _ _ _ _ _ us hl => by
  obtain ⟨_, _, rfl⟩ := ln2 (us := us) hl
  rfl
theorem sc_WrongLength_init : FnScope N_WrongLength_init (["self", "length"] : List Str) (defScope s_WrongLength_init) := ⟨rfl, rfl, rfl, by decide +kernel, rfl, by decide +kernel, by decide +kernel⟩
theorem b_WrongLength_init (T : Txt K mg A) : Binds K A.d_WrongLength_init (["self", "length"] : List Str) [] := T.F_WrongLength_init.binds (ps := (["self", "length"] : List Str)) fun _ _ _ _ _ _ us hl => by
  obtain ⟨_, _, rfl⟩ := ln2 (us := us) hl
  rfl
theorem sc_BadName_init : FnScope N_BadName_init (["self", "name"] : List Str) (defScope s_BadName_init) := ⟨rfl, rfl, rfl, by decide +kernel, rfl, by decide +kernel, by decide +kernel⟩
theorem b_BadName_init (T : Txt K mg A) : Binds K A.d_BadName_init (["self", "name"] : List Str) [] := T.F_BadName_init.binds (ps := (["self", "name"] : List Str)) fun _ _ _ _ _ _ us hl => by
  obtain ⟨_, _, rfl⟩ := ln2 (us := us) hl
  rfl
theorem sc_RepeatedName_init : FnScope N_RepeatedName_init (["self", "name"] : List Str) (defScope s_RepeatedName_init) := ⟨rfl, rfl, rfl, by decide +kernel, rfl, by decide +kernel, by decide +kernel⟩
theorem b_RepeatedName_init (T : Txt K mg A) : Binds K A.d_RepeatedName_init (["self", "name"] : List Str) [] := T.F_RepeatedName_init.binds (ps := (["self", "name"] : List Str)) fun _ _ _ _ _ _ us hl => by
  obtain ⟨_, _, rfl⟩ := ln2 (us := us) hl
  rfl
theorem sc_Lot_init : FnScope N_Lot_init (["self", "hours", "members"] : List Str) (defScope s_Lot_init) := ⟨rfl, rfl, rfl, by decide +kernel, rfl, by decide +kernel, by decide +kernel⟩
theorem b_Lot_init (T : Txt K mg A) : Binds K A.d_Lot_init (["self", "hours", "members"] : List Str) [] := T.F_Lot_init.binds (ps := (["self", "hours", "members"] : List Str)) fun _ _ _ _ _ _ us hl => by
  obtain ⟨_, _, _, rfl⟩ := ln3 (us := us) hl
  rfl
theorem sc_Lot_contains : FnScope N_Lot_contains (["self", "x"] : List Str) (defScope s_Lot_contains) := ⟨rfl, rfl, rfl, by decide +kernel, rfl, by decide +kernel, by decide +kernel⟩
theorem b_Lot_contains (T : Txt K mg A) : Binds K A.d_Lot_contains (["self", "x"] : List Str) [] := T.F_Lot_contains.binds (ps := (["self", "x"] : List Str)) fun _ _ _ _ _ _ us hl => by
  obtain ⟨_, _, rfl⟩ := ln2 (us := us) hl
  rfl
theorem sc_check_name : FnScope N_check_name (["name"] : List Str) (defScope s_check_name) := ⟨rfl, rfl, rfl, by decide +kernel, rfl, by decide +kernel, by decide +kernel⟩
theorem b_check_name (T : Txt K mg A) : Binds K A.d_check_name (["name"] : List Str) [] := T.F_check_name.binds (ps := (["name"] : List Str)) fun _ _ _ _ _ _ us hl => by
  obtain ⟨_, rfl⟩ := ln1 (us := us) hl
  rfl
theorem sc_check_new_name : FnScope N_check_new_name (["name", "names"] : List Str) (defScope s_check_new_name) := ⟨rfl, rfl, rfl, by decide +kernel, rfl, by decide +kernel, by decide +kernel⟩
theorem b_check_new_name (T : Txt K mg A) : Binds K A.d_check_new_name (["name", "names"] : List Str) [] := T.F_check_new_name.binds (ps := (["name", "names"] : List Str)) fun _ _ _ _ _ _ us hl => by
  obtain ⟨_, _, rfl⟩ := ln2 (us := us) hl
  rfl
theorem sc_House_init : FnScope N_House_init (["self", "hours", "gates"] : List Str) (defScope s_House_init) := ⟨rfl, rfl, rfl, by decide +kernel, rfl, by decide +kernel, by decide +kernel⟩
theorem b_House_init (T : Txt K mg A) : Binds K A.d_House_init (["self", "hours", "gates"] : List Str) [] := T.F_House_init.binds (ps := (["self", "hours", "gates"] : List Str)) fun _ _ _ _ _ _ us hl => by
  obtain ⟨_, _, _, rfl⟩ := ln3 (us := us) hl
  rfl
theorem sc_House_len : FnScope N_House_len (["self"] : List Str) (defScope s_House_len) := ⟨rfl, rfl, rfl, by decide +kernel, rfl, by decide +kernel, by decide +kernel⟩
theorem b_House_len (T : Txt K mg A) : Binds K A.d_House_len (["self"] : List Str) [] := T.F_House_len.binds (ps := (["self"] : List Str)) fun _ _ _ _ _ _ us hl => by
  obtain ⟨_, rfl⟩ := ln1 (us := us) hl
  rfl
theorem sc_House_eq : FnScope N_House_eq (["self", "other"] : List Str) (defScope s_House_eq) := ⟨rfl, rfl, rfl, by decide +kernel, rfl, by decide +kernel, by decide +kernel⟩
theorem b_House_eq (T : Txt K mg A) : Binds K A.d_House_eq (["self", "other"] : List Str) [] := T.F_House_eq.binds (ps := (["self", "other"] : List Str)) fun _ _ _ _ _ _ us hl => by
  obtain ⟨_, _, rfl⟩ := ln2 (us := us) hl
  rfl
theorem sc_is_gate : FnScope N_is_gate (["house", "gate"] : List Str) (defScope s_is_gate) := ⟨rfl, rfl, rfl, by decide +kernel, rfl, by decide +kernel, by decide +kernel⟩
theorem b_is_gate (T : Txt K mg A) : Binds K A.d_is_gate (["house", "gate"] : List Str) [] := T.F_is_gate.binds (ps := (["house", "gate"] : List Str)) fun _ _ _ _ _ _ us hl => by
  obtain ⟨_, _, rfl⟩ := ln2 (us := us) hl
  rfl
theorem sc_u_check_row : FnScope N_u_check_row (["house", "row"] : List Str) (defScope s_u_check_row) := ⟨rfl, rfl, rfl, by decide +kernel, rfl, by decide +kernel, by decide +kernel⟩
theorem b_u_check_row (T : Txt K mg A) : Binds K A.d_u_check_row (["house", "row"] : List Str) [] := T.F_u_check_row.binds (ps := (["house", "row"] : List Str)) fun _ _ _ _ _ _ us hl => by
  obtain ⟨_, _, rfl⟩ := ln2 (us := us) hl
  rfl
theorem sc_Watch_init : FnScope N_Watch_init (["self", "house", "rows"] : List Str) (defScope s_Watch_init) := ⟨rfl, rfl, rfl, by decide +kernel, rfl, by decide +kernel, by decide +kernel⟩
theorem b_Watch_init (T : Txt K mg A) : Binds K A.d_Watch_init (["self", "house", "rows"] : List Str) [] := T.F_Watch_init.binds (ps := (["self", "house", "rows"] : List Str)) fun _ _ _ _ _ _ us hl => by
  obtain ⟨_, _, _, rfl⟩ := ln3 (us := us) hl
  rfl
theorem sc_Watch_empty : FnScope N_Watch_empty (["cls", "house"] : List Str) (defScope s_Watch_empty) := ⟨rfl, rfl, rfl, by decide +kernel, rfl, by decide +kernel, by decide +kernel⟩
theorem b_Watch_empty (T : Txt K mg A) : Binds K A.d_Watch_empty (["cls", "house"] : List Str) [] := T.F_Watch_empty.binds (ps := (["cls", "house"] : List Str)) fun _ _ _ _ _ _ us hl => by
  obtain ⟨_, _, rfl⟩ := ln2 (us := us) hl
  rfl
theorem sc_Watch_of_lots : FnScope N_Watch_of_lots (["cls", "house", "lots"] : List Str) (defScope s_Watch_of_lots) := ⟨rfl, rfl, rfl, by decide +kernel, rfl, by decide +kernel, by decide +kernel⟩
theorem b_Watch_of_lots (T : Txt K mg A) : Binds K A.d_Watch_of_lots (["cls", "house", "lots"] : List Str) [] := T.F_Watch_of_lots.binds (ps := (["cls", "house", "lots"] : List Str)) fun _ _ _ _ _ _ us hl => by
  obtain ⟨_, _, _, rfl⟩ := ln3 (us := us) hl
  rfl
theorem sc_Watch_rows : FnScope N_Watch_rows (["self"] : List Str) (defScope s_Watch_rows) := ⟨rfl, rfl, rfl, by decide +kernel, rfl, by decide +kernel, by decide +kernel⟩
theorem b_Watch_rows (T : Txt K mg A) : Binds K A.d_Watch_rows (["self"] : List Str) [] := T.F_Watch_rows.binds (ps := (["self"] : List Str)) fun _ _ _ _ _ _ us hl => by
  obtain ⟨_, rfl⟩ := ln1 (us := us) hl
  rfl
theorem sc_Watch_getitem : FnScope N_Watch_getitem (["self", "at"] : List Str) (defScope s_Watch_getitem) := ⟨rfl, rfl, rfl, by decide +kernel, rfl, by decide +kernel, by decide +kernel⟩
theorem b_Watch_getitem (T : Txt K mg A) : Binds K A.d_Watch_getitem (["self", "at"] : List Str) [] := T.F_Watch_getitem.binds (ps := (["self", "at"] : List Str)) fun _ _ _ _ _ _ us hl => by
  obtain ⟨_, _, rfl⟩ := ln2 (us := us) hl
  rfl
theorem sc_Watch_eq : FnScope N_Watch_eq (["self", "other"] : List Str) (defScope s_Watch_eq) := ⟨rfl, rfl, rfl, by decide +kernel, rfl, by decide +kernel, by decide +kernel⟩
theorem b_Watch_eq (T : Txt K mg A) : Binds K A.d_Watch_eq (["self", "other"] : List Str) [] := T.F_Watch_eq.binds (ps := (["self", "other"] : List Str)) fun _ _ _ _ _ _ us hl => by
  obtain ⟨_, _, rfl⟩ := ln2 (us := us) hl
  rfl
theorem sc_u_law_cell : FnScope N_u_law_cell (["script", "k"] : List Str) (defScope s_u_law_cell) := ⟨rfl, rfl, rfl, by decide +kernel, rfl, by decide +kernel, by decide +kernel⟩
theorem b_u_law_cell (T : Txt K mg A) : Binds K A.d_u_law_cell (["script", "k"] : List Str) [] := T.F_u_law_cell.binds (ps := (["script", "k"] : List Str)) fun _ _ _ _ _ _ us hl => by
  obtain ⟨_, _, rfl⟩ := ln2 (us := us) hl
  rfl
theorem sc_u_law_draws : FnScope N_u_law_draws (["cell", "salt", "menu"] : List Str) (defScope s_u_law_draws) := ⟨rfl, rfl, rfl, by decide +kernel, rfl, by decide +kernel, by decide +kernel⟩
theorem b_u_law_draws (T : Txt K mg A) : Binds K A.d_u_law_draws (["cell", "salt", "menu"] : List Str) [] := T.F_u_law_draws.binds (ps := (["cell", "salt", "menu"] : List Str)) fun _ _ _ _ _ _ us hl => by
  obtain ⟨_, _, _, rfl⟩ := ln3 (us := us) hl
  rfl
theorem sc_u_law_two : FnScope N_u_law_two (["n"] : List Str) (defScope s_u_law_two) := ⟨rfl, rfl, rfl, by decide +kernel, rfl, by decide +kernel, by decide +kernel⟩
theorem b_u_law_two (T : Txt K mg A) : Binds K A.d_u_law_two (["n"] : List Str) [] := T.F_u_law_two.binds (ps := (["n"] : List Str)) fun _ _ _ _ _ _ us hl => by
  obtain ⟨_, rfl⟩ := ln1 (us := us) hl
  rfl
theorem sc_u_law_bits : FnScope N_u_law_bits (["n", "number"] : List Str) (defScope s_u_law_bits) := ⟨rfl, rfl, rfl, by decide +kernel, rfl, by decide +kernel, by decide +kernel⟩
theorem b_u_law_bits (T : Txt K mg A) : Binds K A.d_u_law_bits (["n", "number"] : List Str) [] := T.F_u_law_bits.binds (ps := (["n", "number"] : List Str)) fun _ _ _ _ _ _ us hl => by
  obtain ⟨_, _, rfl⟩ := ln2 (us := us) hl
  rfl
theorem sc_u_law_name : FnScope N_u_law_name (["number"] : List Str) (defScope s_u_law_name) := ⟨rfl, rfl, rfl, by decide +kernel, rfl, by decide +kernel, by decide +kernel⟩
theorem b_u_law_name (T : Txt K mg A) : Binds K A.d_u_law_name (["number"] : List Str) [] := T.F_u_law_name.binds (ps := (["number"] : List Str)) fun _ _ _ _ _ _ us hl => by
  obtain ⟨_, rfl⟩ := ln1 (us := us) hl
  rfl
theorem sc_u_law_names : FnScope N_u_law_names (["numbers"] : List Str) (defScope s_u_law_names) := ⟨rfl, rfl, rfl, by decide +kernel, rfl, by decide +kernel, by decide +kernel⟩
theorem b_u_law_names (T : Txt K mg A) : Binds K A.d_u_law_names (["numbers"] : List Str) [] := T.F_u_law_names.binds (ps := (["numbers"] : List Str)) fun _ _ _ _ _ _ us hl => by
  obtain ⟨_, rfl⟩ := ln1 (us := us) hl
  rfl
theorem sc_u_law_gates : FnScope N_u_law_gates (["numbers", "stakes"] : List Str) (defScope s_u_law_gates) := ⟨rfl, rfl, rfl, by decide +kernel, rfl, by decide +kernel, by decide +kernel⟩
theorem b_u_law_gates (T : Txt K mg A) : Binds K A.d_u_law_gates (["numbers", "stakes"] : List Str) [] := T.F_u_law_gates.binds (ps := (["numbers", "stakes"] : List Str)) fun _ _ _ _ _ _ us hl => by
  obtain ⟨_, _, rfl⟩ := ln2 (us := us) hl
  rfl
theorem sc_u_law_rows : FnScope N_u_law_rows (["gates", "n", "numbers"] : List Str) (defScope s_u_law_rows) := ⟨rfl, rfl, rfl, by decide +kernel, rfl, by decide +kernel, by decide +kernel⟩
theorem b_u_law_rows (T : Txt K mg A) : Binds K A.d_u_law_rows (["gates", "n", "numbers"] : List Str) [] := T.F_u_law_rows.binds (ps := (["gates", "n", "numbers"] : List Str)) fun _ _ _ _ _ _ us hl => by
  obtain ⟨_, _, _, rfl⟩ := ln3 (us := us) hl
  rfl
theorem sc_u_law_is_int : FnScope N_u_law_is_int (["x"] : List Str) (defScope s_u_law_is_int) := ⟨rfl, rfl, rfl, by decide +kernel, rfl, by decide +kernel, by decide +kernel⟩
theorem b_u_law_is_int (T : Txt K mg A) : Binds K A.d_u_law_is_int (["x"] : List Str) [] := T.F_u_law_is_int.binds (ps := (["x"] : List Str)) fun _ _ _ _ _ _ us hl => by
  obtain ⟨_, rfl⟩ := ln1 (us := us) hl
  rfl
theorem sc_u_law_same : FnScope N_u_law_same (["got", "due"] : List Str) (defScope s_u_law_same) := ⟨rfl, rfl, rfl, by decide +kernel, rfl, by decide +kernel, by decide +kernel⟩
theorem b_u_law_same (T : Txt K mg A) : Binds K A.d_u_law_same (["got", "due"] : List Str) [] := T.F_u_law_same.binds (ps := (["got", "due"] : List Str)) fun _ _ _ _ _ _ us hl => by
  obtain ⟨_, _, rfl⟩ := ln2 (us := us) hl
  rfl
theorem sc_u_law_bad_rows : FnScope N_u_law_bad_rows (["rows", "n", "draws"] : List Str) (defScope s_u_law_bad_rows) := ⟨rfl, rfl, rfl, by decide +kernel, rfl, by decide +kernel, by decide +kernel⟩
theorem b_u_law_bad_rows (T : Txt K mg A) : Binds K A.d_u_law_bad_rows (["rows", "n", "draws"] : List Str) [] := T.F_u_law_bad_rows.binds (ps := (["rows", "n", "draws"] : List Str)) fun _ _ _ _ _ _ us hl => by
  obtain ⟨_, _, _, rfl⟩ := ln3 (us := us) hl
  rfl
theorem sc_u_law_first_error : FnScope N_u_law_first_error (["rows", "count", "n"] : List Str) (defScope s_u_law_first_error) := ⟨rfl, rfl, rfl, by decide +kernel, rfl, by decide +kernel, by decide +kernel⟩
theorem b_u_law_first_error (T : Txt K mg A) : Binds K A.d_u_law_first_error (["rows", "count", "n"] : List Str) [] := T.F_u_law_first_error.binds (ps := (["rows", "count", "n"] : List Str)) fun _ _ _ _ _ _ us hl => by
  obtain ⟨_, _, _, rfl⟩ := ln3 (us := us) hl
  rfl
theorem sc_u_law_no_gate : FnScope N_u_law_no_gate (["watch", "gate", "hour"] : List Str) (defScope s_u_law_no_gate) := ⟨rfl, rfl, rfl, by decide +kernel, rfl, by decide +kernel, by decide +kernel⟩
theorem b_u_law_no_gate (T : Txt K mg A) : Binds K A.d_u_law_no_gate (["watch", "gate", "hour"] : List Str) [] := T.F_u_law_no_gate.binds (ps := (["watch", "gate", "hour"] : List Str)) fun _ _ _ _ _ _ us hl => by
  obtain ⟨_, _, _, rfl⟩ := ln3 (us := us) hl
  rfl
theorem sc_u_law_shows : FnScope N_u_law_shows (["watch", "house", "rows", "laps"] : List Str) (defScope s_u_law_shows) := ⟨rfl, rfl, rfl, by decide +kernel, rfl, by decide +kernel, by decide +kernel⟩
theorem ln4 {us : List Value} (h : us.length = 4) : ∃ a0 a1 a2 a3, us = [a0, a1, a2, a3] := by
  cases us with
  | nil => cases h
  | cons a us =>
    obtain ⟨a1, a2, a3, rfl⟩ := ln3 (us := us) (Nat.succ.inj h)
    exact ⟨a, a1, a2, a3, rfl⟩
theorem b_u_law_shows (T : Txt K mg A) : Binds K A.d_u_law_shows (["watch", "house", "rows", "laps"] : List Str) [] := T.F_u_law_shows.binds (ps := (["watch", "house", "rows", "laps"] : List Str)) fun _ _ _ _ _ _ us hl => by
  obtain ⟨_, _, _, _, rfl⟩ := ln4 (us := us) hl
  rfl
theorem sc_u_law_answers : FnScope N_u_law_answers (["house", "rows", "due", "laps"] : List Str) (defScope s_u_law_answers) := ⟨rfl, rfl, rfl, by decide +kernel, rfl, by decide +kernel, by decide +kernel⟩
theorem b_u_law_answers (T : Txt K mg A) : Binds K A.d_u_law_answers (["house", "rows", "due", "laps"] : List Str) [] := T.F_u_law_answers.binds (ps := (["house", "rows", "due", "laps"] : List Str)) fun _ _ _ _ _ _ us hl => by
  obtain ⟨_, _, _, _, rfl⟩ := ln4 (us := us) hl
  rfl
theorem sc_u_law_lots_told : FnScope N_u_law_lots_told (["house", "lots", "due"] : List Str) (defScope s_u_law_lots_told) := ⟨rfl, rfl, rfl, by decide +kernel, rfl, by decide +kernel, by decide +kernel⟩
theorem b_u_law_lots_told (T : Txt K mg A) : Binds K A.d_u_law_lots_told (["house", "lots", "due"] : List Str) [] := T.F_u_law_lots_told.binds (ps := (["house", "lots", "due"] : List Str)) fun _ _ _ _ _ _ us hl => by
  obtain ⟨_, _, _, rfl⟩ := ln3 (us := us) hl
  rfl
theorem sc_u_law_of_lots : FnScope N_u_law_of_lots (["house", "n", "members", "draws", "laps"] : List Str) (defScope s_u_law_of_lots) := ⟨rfl, rfl, rfl, by decide +kernel, rfl, by decide +kernel, by decide +kernel⟩
theorem ln5 {us : List Value} (h : us.length = 5) : ∃ a0 a1 a2 a3 a4, us = [a0, a1, a2, a3, a4] := by
  cases us with
  | nil => cases h
  | cons a us =>
    obtain ⟨a1, a2, a3, a4, rfl⟩ := ln4 (us := us) (Nat.succ.inj h)
    exact ⟨a, a1, a2, a3, a4, rfl⟩
theorem b_u_law_of_lots (T : Txt K mg A) : Binds K A.d_u_law_of_lots (["house", "n", "members", "draws", "laps"] : List Str) [] := T.F_u_law_of_lots.binds (ps := (["house", "n", "members", "draws", "laps"] : List Str)) fun _ _ _ _ _ _ us hl => by
  obtain ⟨_, _, _, _, _, rfl⟩ := ln5 (us := us) hl
  rfl
theorem sc_law : FnScope N_law (["script"] : List Str) (defScope s_law) := ⟨rfl, rfl, rfl, by decide +kernel, rfl, by decide +kernel, by decide +kernel⟩
theorem ok_BadNumber_init (T : Txt K mg A) : FnOk P w K mg base CX0 1 A.f_BadNumber_init A.d_BadNumber_init (["self", "name", "value"] : List Str) (spErr2 K A.C_BadNumber "name" "value") := by
  refine T.F_BadNumber_init.ok sc_BadNumber_init (fun vs H Q E h => ?_) (fun cdv Ar outer s H vs Q E hr h => ?_)
  · obtain ⟨a, x, y, rfl, _⟩ := h
    rfl
  · obtain ⟨a, x, y, rfl, hC, ha, k⟩ := h
    refine ⟨_, (pss_cons (ps_ost (pv 0) (pv 1))
        (pss_one (ps_ost (pv 0) (pv 2)))), ?_⟩
    refine ⟨_, rfl, _, rfl, a, _, rfl, hC, T.nf_BadNumber_name, .inl ⟨ha, fun d hd hne => ?_⟩⟩
    refine ⟨_, rfl, _, rfl, a, _, rfl, hC, T.nf_BadNumber_value, .inr ⟨d, _, upd_same, ?_, by show (1 : Nat) ≤ 900; decide, k d hd hne⟩⟩
    rw [upd_ne hne, upd_same]
theorem ok_TooMany_init (T : Txt K mg A) : FnOk P w K mg base CX0 1 A.f_TooMany_init A.d_TooMany_init (["self", "name", "most"] : List Str) (spErr2 K A.C_TooMany "name" "most") := by
  refine T.F_TooMany_init.ok sc_TooMany_init (fun vs H Q E h => ?_) (fun cdv Ar outer s H vs Q E hr h => ?_)
  · obtain ⟨a, x, y, rfl, _⟩ := h
    rfl
  · obtain ⟨a, x, y, rfl, hC, ha, k⟩ := h
    refine ⟨_, (pss_cons (ps_ost (pv 0) (pv 1))
        (pss_one (ps_ost (pv 0) (pv 2)))), ?_⟩
    refine ⟨_, rfl, _, rfl, a, _, rfl, hC, T.nf_TooMany_name, .inl ⟨ha, fun d hd hne => ?_⟩⟩
    refine ⟨_, rfl, _, rfl, a, _, rfl, hC, T.nf_TooMany_most, .inr ⟨d, _, upd_same, ?_, by show (1 : Nat) ≤ 900; decide, k d hd hne⟩⟩
    rw [upd_ne hne, upd_same]
theorem ok_RepeatedHour_init (T : Txt K mg A) : FnOk P w K mg base CX0 1 A.f_RepeatedHour_init A.d_RepeatedHour_init (["self", "hour"] : List Str) (spErr1 K A.C_RepeatedHour "hour") := by
  refine T.F_RepeatedHour_init.ok sc_RepeatedHour_init (fun vs H Q E h => ?_) (fun cdv Ar outer s H vs Q E hr h => ?_)
  · obtain ⟨a, x, rfl, _⟩ := h
    rfl
  · obtain ⟨a, x, rfl, hC, ha, k⟩ := h
    refine ⟨_, (pss_one (ps_ost (pv 0) (pv 1))), ?_⟩
    exact ⟨_, rfl, _, rfl, a, _, rfl, hC, T.nf_RepeatedHour_hour, .inl ⟨ha, fun d hd hne => k d hd hne⟩⟩
theorem ok_WrongLength_init (T : Txt K mg A) : FnOk P w K mg base CX0 1 A.f_WrongLength_init A.d_WrongLength_init (["self", "length"] : List Str) (spErr1 K A.C_WrongLength "length") := by
  refine T.F_WrongLength_init.ok sc_WrongLength_init (fun vs H Q E h => ?_) (fun cdv Ar outer s H vs Q E hr h => ?_)
  · obtain ⟨a, x, rfl, _⟩ := h
    rfl
  · obtain ⟨a, x, rfl, hC, ha, k⟩ := h
    refine ⟨_, (pss_one (ps_ost (pv 0) (pv 1))), ?_⟩
    exact ⟨_, rfl, _, rfl, a, _, rfl, hC, T.nf_WrongLength_length, .inl ⟨ha, fun d hd hne => k d hd hne⟩⟩
theorem ok_BadName_init (T : Txt K mg A) : FnOk P w K mg base CX0 1 A.f_BadName_init A.d_BadName_init (["self", "name"] : List Str) (spErr1 K A.C_BadName "name") := by
  refine T.F_BadName_init.ok sc_BadName_init (fun vs H Q E h => ?_) (fun cdv Ar outer s H vs Q E hr h => ?_)
  · obtain ⟨a, x, rfl, _⟩ := h
    rfl
  · obtain ⟨a, x, rfl, hC, ha, k⟩ := h
    refine ⟨_, (pss_one (ps_ost (pv 0) (pv 1))), ?_⟩
    exact ⟨_, rfl, _, rfl, a, _, rfl, hC, T.nf_BadName_name, .inl ⟨ha, fun d hd hne => k d hd hne⟩⟩
theorem ok_RepeatedName_init (T : Txt K mg A) : FnOk P w K mg base CX0 1 A.f_RepeatedName_init A.d_RepeatedName_init (["self", "name"] : List Str) (spErr1 K A.C_RepeatedName "name") := by
  refine T.F_RepeatedName_init.ok sc_RepeatedName_init (fun vs H Q E h => ?_) (fun cdv Ar outer s H vs Q E hr h => ?_)
  · obtain ⟨a, x, rfl, _⟩ := h
    rfl
  · obtain ⟨a, x, rfl, hC, ha, k⟩ := h
    refine ⟨_, (pss_one (ps_ost (pv 0) (pv 1))), ?_⟩
    exact ⟨_, rfl, _, rfl, a, _, rfl, hC, T.nf_RepeatedName_name, .inl ⟨ha, fun d hd hne => k d hd hne⟩⟩
def spLotInit (K : PySem.W.Frag) (A : Ads) : Sp := fun vs H Q E => ∃ (x dx a : Addr) (n : Int) (ms : List Int), vs = [.ref x, .int n, .ref a] ∧ H x = some (.ins A.C_Lot dx []) ∧ SqL K H a (ms.map V.int) ∧
  (¬ (1 ≤ n ∧ n ≤ 360) → ∀ d H', Ex H H' → H' d = some (.xd [("value", .int n), ("name", .str "hours")]) → E (.ref A.C_BadNumber) (some d) H') ∧
  (1 ≤ n ∧ n ≤ 360 → ∀ r, scanR n [] ms = some r → ∀ d H', Ex H H' → H' d = some (.xd [("hour", .int r)]) → E (.ref A.C_RepeatedHour) (some d) H') ∧
  (1 ≤ n ∧ n ≤ 360 → scanR n [] ms = none → ∀ l H', (∀ b o, b ≠ x → H b = some o → H' b = some o) → H l = none → H' x = some (.ins A.C_Lot dx (lotF n l)) → H' l = some (.lst ((resid n (ms.map (· % n))).map V.int)) → Q .non H')
theorem ok_Lot_init (T : Txt K mg A) : FnOk P w K mg base (L2.CX P w) 4 A.f_Lot_init A.d_Lot_init (["self", "hours", "members"] : List Str) (spLotInit K A) := by
  refine T.F_Lot_init.okX sc_Lot_init (fun vs H Q E h => ?_) (fun cdv Ar outer s H vs Q E hr h => ?_)
  · obtain ⟨x, dx, a, n, ms, rfl, _⟩ := h
    rfl
  · obtain ⟨x, dx, a, n, ms, rfl, hx, hS, k1, k2, k3⟩ := h
    refine ⟨_, (pss_cons (ps_if (PW.pt (pw_or (pt_cmpR op_lt (pv 1) pe_int (nomark _)) (pw_or1 (pt_cmpR op_gt (pv 1) (ClX.pe_cval (pe_glob (v := .ref A.C_Lot) rfl T.g_Lot rfl)) (nomark _))))) (pss_one (ps_raise rfl (takes_of rfl rfl rfl rfl) (pmk_oex T.ox_BadNumber T.ni_BadNumber T.ti_BadNumber (ok_BadNumber_init T) (hr.mono (by omega)) (b_BadNumber_init T) .nil pass0 rfl T.g_BadNumber (pa_cons pe_str (pa_cons (pv 1) pa_nil))))) pss_nil)
        (pss_cons (ps_set (i := 3) sc_Lot_init.nd rfl (Or.inr rfl) (pe_op op_rep (pe_lst (pa_cons pe_bl pa_nil)) (pv 1)))
        (pss_cons (ps_for (passes_of rfl) rfl (pi_listK (pv 2)) (pg_name (i := 4) sc_Lot_init.nd rfl (Or.inl rfl)) (pss_cons (ps_if (pt_val (pe_ix ix_lK (pv 3) (pe_op op_mod (pv 4) (pv 1)) (fun _ _ => rfl))) (pss_one (ps_raise rfl (takes_of rfl rfl rfl rfl) (pmk_oex T.ox_RepeatedHour T.ni_RepeatedHour T.ti_RepeatedHour (ok_RepeatedHour_init T) (hr.mono (by omega)) (b_RepeatedHour_init T) .nil pass0 rfl T.g_RepeatedHour (pa_cons (pe_op op_mod (pv 4) (pv 1)) pa_nil)))) pss_nil)
        (pss_one (ps_asg pe_bl (pg_sub (pv 3) (pe_op op_mod (pv 4) (pv 1)) set_list)))))
        (pss_cons (ps_fld (pv 0) (pv 1) rfl)
        (pss_one (ps_fld (pv 0) (pe_lc (own := [("hour", 5)]) (g := gName 5) rfl sc_Lot_init.nd (pi_range1 rfl T.z_range (pa_cons (pv 1) pa_nil)) (blkOk_by (own := [("hour", 5)]) (N := N_Lot_init) (sc := defScope s_Lot_init) (by decide +kernel)) (fun _ _ _ _ _ => (pg_name (i := 5) sc_Lot_init.nd rfl (Or.inl rfl))) (fun _ _ _ _ _ => (pts_one (pt_val (pe_ix ix_lK (pv 3) (pv 5) (fun _ _ => rfl))))) (fun _ _ _ _ _ => (pv 5))) rfl)))))), ?_⟩
    obtain ⟨mc, rdL, tL, cvL⟩ := T.rd_Lot
    refine ⟨_, rfl, n, 1, rfl, rfl, _, rfl, ?_⟩
    by_cases hn : 1 ≤ n ∧ n ≤ 360
    case neg =>
      have fin := raise2 (C := A.C_BadNumber) (f := "name") (g := "value") (σ := L2.start N_Lot_init [V.ref x, V.int n, V.ref a]) (ta := tCons (tC (.str "hours")) (tCons (tVar 1) tNil)) (x := .str "hours") (y := .int n) T.ox_BadNumber (fun Q q => ⟨_, rfl, q⟩) (k1 hn)
      by_cases c1 : n < 1
      · exact wayT c1 (iteT fin)
      · exact wayF c1 ⟨_, rfl, A.C_Lot, mc, _, _, rfl, rdL, cvL, n, 360, rfl, rfl, _, rfl, wayT (show 360 < n by omega) fin⟩
    refine wayF (by omega) ⟨_, rfl, A.C_Lot, mc, _, _, rfl, rdL, cvL, n, 360, rfl, rfl, _, rfl, wayF (by omega) ?_⟩
    refine ⟨by show 1 ≤ sizeLine; decide, fun q hq => ⟨_, rfl, q, n, _, rfl, rfl, upd_same, by omega, by omega, ?_, fun tk htk => ?_⟩⟩
    · show 1 * n.toNat ≤ sizeLine
      exact Nat.le_trans (show 1 * n.toNat ≤ 360 by omega) (by decide)
    have htk0 : H tk = none := fresh_back (Ex.new hq) htk
    have ex0 : ∀ o, Ex H (upd (upd H q (.lst [.bl false])) tk o) := fun o => (Ex.new hq).trans (Ex.new htk)
    rw [flags_nil]
    dsimp only
    refine q_forLn (K := K) (a := a) (xs := ms.map V.int) (ev_var rfl) (ex_l (ex0 _) hS)
      (fun i σ' H' => ∃ mv : Option V, σ' = [some (.ref x), some (.int n), some (.ref a), some (.ref tk), mv, none] ∧ Ex H H' ∧ H' tk = some (.lst (flags n.toNat ((ms.take i).map (· % n)))) ∧
        scanR n [] ms = scanR n ((ms.take i).map (· % n)) (ms.drop i))
      (fun H2 e2 => ⟨none, rfl, (ex0 _).trans e2, e2 _ _ upd_same, rfl⟩) (fun i σ' H' _ ⟨_, _, e, _⟩ => ex_l e hS) ?_ ?_
    · rintro i y σ' H' hi ⟨mv, rfl, ex, ht, hsc⟩
      obtain ⟨m, rfl, hm⟩ := some_int hi
      have m0 : 0 ≤ m % n := Int.emod_nonneg _ (by omega)
      have m1 : m % n < n := Int.emod_lt_of_pos _ (by omega)
      obtain ⟨j, hj⟩ : ∃ j : Nat, m % n = (j : Int) := ⟨(m % n).toNat, by omega⟩
      have hjn : j < n.toNat := by omega
      have hil : i < ms.length := (List.getElem?_eq_some_iff.mp hm).1
      have hd : ms.drop i = m :: ms.drop (i + 1) := by
        rw [List.drop_eq_getElem_cons hil]
        rw [List.getElem?_eq_getElem hil] at hm
        rw [Option.some.inj hm]
      have htake : (ms.take (i + 1)).map (· % n) = (ms.take i).map (· % n) ++ [(j : Int)] := by
        rw [List.take_succ, hm, List.map_append]
        show _ ++ [m % n] = _
        rw [hj]
      have hat : ∀ S : List Int, atI (flags n.toNat S) (m % n) = some (.bl (decide ((j : Int) ∈ S))) := fun S => by
        rw [hj]
        exact atI_nat (flags_get hjn)
      refine ⟨_, rfl, _, rfl, _, rfl, _, _, rfl, rfl, (by show (0 : Int) < n; omega), tk, _, _, _, rfl, rfl, SqL.of ht, hat _, _, rfl, ?_⟩
      rw [hd] at hsc
      refine way (fun hc => ?_) (fun hc => ?_)
      · refine raise1 (C := A.C_RepeatedHour) (f := "hour") (x := .int (m % n)) T.ox_RepeatedHour (fun Q q => ⟨_, rfl, _, rfl, _, _, rfl, rfl, (by show (0 : Int) < n; omega), q⟩) (fun d H2 e2 h2 => k2 hn (m % n) ?_ d H2 (ex.trans e2) h2)
        rw [hsc]
        unfold scanR
        rw [if_pos (by rw [hj]; exact hc)]
      · refine ⟨_, rfl, _, rfl, _, rfl, _, _, rfl, rfl, (by show (0 : Int) < n; omega), tk, _, _, j, rfl, rfl, ht, ?_, ?_⟩
        · show ixN (flags n.toNat _).length (m % n) = some j
          rw [hj]
          exact ixN_nat (by rw [flags_len]; exact hjn)
        · refine ⟨_, rfl, Ex.mut ex htk0, ?_, ?_⟩
          · rw [upd_same, flags_set hjn, htake]
          · rw [hsc, htake]
            conv => lhs; unfold scanR
            rw [if_neg (by rw [hj]; exact hc), hj]
    · rintro σ' H' ⟨mv, rfl, ex, ht, hsc⟩
      rw [List.length_map, List.take_length] at ht hsc
      rw [List.drop_length] at hsc
      have hx' := ex _ _ hx
      refine ⟨_, rfl, _, rfl, x, _, dx, [], rfl, hx', T.cl_Lot, T.na_Lot_hours, by decide, ?_⟩
      have xtk : tk ≠ x := fun e => by rw [e, hx] at htk0; cases htk0
      have ev : EvL _ [some (V.ref x), some (V.int n), some (V.ref a), some (V.ref tk), mv, none] (upd H' x (.ins A.C_Lot dx (putF "hours" (.int n) []))) (given n.toNat (fun h => decide ((h : Int) ∈ ms.map (· % n))) fun h => .int (h : Int)) :=
        el_rng1 (tt := tB (tOp (rIxL K) (tVar 3) (tVar 5))) (te := tVar 5) (ta := tCons (tVar 1) tNil) (j := 5) (vs := [5]) _ _ (ea_cons (ev_var rfl) ea_nil) (by omega) (fun x => rfl)
          (fun i H1 e1 hi => et_B (ev_op (ev_var rfl) (ev_var rfl) (rv_ixL (sq_of (e1 _ _ (by rw [upd_ne xtk]; exact ht))) (atI_nat (flags_get (by omega))))))
          (fun i H1 _ hi _ => ev_var rfl)
      dsimp only [sFld]
      refine ev _ (Ex.refl _) _ fun l H4 hl e4 h4 => ?_
      have hl0 : H' l = none := by
        by_cases e : l = x
        · rw [e, upd_same] at hl; cases hl
        · rw [upd_ne e] at hl; exact hl
      refine ⟨_, rfl, x, _, dx, _, rfl, e4 _ _ upd_same, T.cl_Lot, T.na_Lot_members, (by show 1 < 1000; decide), ?_⟩
      have lx : l ≠ x := fun e => by rw [e, upd_same] at hl; cases hl
      refine k3 hn (by rw [hsc]; rfl) l _ (fun b o hb ho => ?_) (fresh_back ex hl0) ?_ ?_
      · rw [upd_ne hb]
        exact e4 _ _ (by rw [upd_ne hb]; exact ex _ _ ho)
      · rw [upd_same, putF2]
        rfl
      · rw [upd_ne lx, h4, given_pick]
        rfl
/-- a lot is made: what spLotInit asks is answered by what is wished of the lot and of the errors -/
theorem mk_lot {K : PySem.W.Frag} {A : Ads} {H : Hp} {Q : VK} {E : XK} {l : Addr} {n : Int} {ms : List Int} (hS : SqL K H l (ms.map V.int))
    (k1 : ¬ (1 ≤ n ∧ n ≤ 360) → ∀ d H', Ex H H' → H' d = some (.xd [("value", .int n), ("name", .str "hours")]) → E (.ref A.C_BadNumber) (some d) H')
    (k2 : 1 ≤ n ∧ n ≤ 360 → ∀ r, scanR n [] ms = some r → ∀ d H', Ex H H' → H' d = some (.xd [("hour", .int r)]) → E (.ref A.C_RepeatedHour) (some d) H')
    (k3 : 1 ≤ n ∧ n ≤ 360 → scanR n [] ms = none → ∀ a dx m H', H a = none → H m = none → Ex H H' → H' a = some (.ins A.C_Lot dx (lotF n m)) → H' m = some (.lst ((resid n (ms.map (· % n))).map V.int)) → Q (.ref a) H') :
    ∀ x dx, H x = none → H dx = none → dx ≠ x → spLotInit K A (.ref x :: ([.int n, .ref l] ++ [])) (upd (upd H dx (.own x)) x (.ins A.C_Lot dx [])) (fun v H2 => v = .non ∧ Q (.ref x) H2) E := by
  intro x dx hx hdx hne
  have e0 : Ex H (upd (upd H dx (.own x)) x (.ins A.C_Lot dx [])) := fun b o hb => by rw [upd_ne (ne_of_none hb hx), upd_ne (ne_of_none hb hdx)]; exact hb
  refine ⟨x, dx, l, n, ms, rfl, upd_same, ex_l e0 hS, fun hn d H' e hd => k1 hn d H' (e0.trans e) hd, fun hn r hr d H' e hd => k2 hn r hr d H' (e0.trans e) hd, fun hn hs m H' hk hm h1 h2 => ⟨rfl, k3 hn hs x dx m H' hx (fresh_back e0 hm) (fun b o hb => ?_) h1 h2⟩⟩
  exact hk b o (ne_of_none hb hx) (e0 b o hb)
/-- .. what is wished told of the address -/
theorem mk_lotP {K : PySem.W.Frag} {A : Ads} {H : Hp} {P : Addr → Hp → Prop} {E : XK} {l : Addr} {n : Int} {ms : List Int} (hS : SqL K H l (ms.map V.int)) (hn : 1 ≤ n ∧ n ≤ 360) (hs : scanR n [] ms = none)
    (k : ∀ a dx m H', H a = none → H m = none → Ex H H' → H' a = some (.ins A.C_Lot dx (lotF n m)) → H' m = some (.lst ((resid n (ms.map (· % n))).map V.int)) → P a H') :
    ∀ x dx, H x = none → H dx = none → dx ≠ x → spLotInit K A (.ref x :: ([.int n, .ref l] ++ [])) (upd (upd H dx (.own x)) x (.ins A.C_Lot dx [])) (fun v H2 => v = .non ∧ P x H2) E := by
  intro x dx hx hdx hne
  have h := mk_lot (K := K) (A := A) (H := H) (Q := fun v H2 => ∃ y, v = .ref y ∧ P y H2) (E := E) (l := l) (n := n) (ms := ms) hS (fun z => absurd hn z) (fun _ r hr => by rw [hs] at hr; cases hr) (fun _ _ a dx m H' ha hm e g1 g2 => ⟨a, rfl, k a dx m H' ha hm e g1 g2⟩) x dx hx hdx hne
  obtain ⟨x1, dx1, a1, n1, ms1, e1, h1, h2, h3, h4, h5⟩ := h
  refine ⟨x1, dx1, a1, n1, ms1, e1, h1, h2, h3, h4, fun z1 z2 l H' a b c d => ?_⟩
  obtain ⟨r1, y, r2, r3⟩ := h5 z1 z2 l H' a b c d
  cases r2
  exact ⟨r1, r3⟩
/-- a lot is made of numbers with different residues -/
theorem mk_lotS {K : PySem.W.Frag} {A : Ads} {H : Hp} {Q : VK} {E : XK} {l : Addr} {n : Int} {ms : List Int} {p : Int → Bool} (hS : SqL K H l (ms.map V.int)) (hn : 1 ≤ n ∧ n ≤ 360) (hd : (ms.map (· % n)).Nodup)
    (hp : ∀ z, 0 ≤ z → z < n → (z ∈ ms.map (· % n) ↔ p z = true)) (k : ∀ v H', Ex H H' → NewP (fun G => LotIs A.C_Lot v G n (hrs n p)) H H' → Q v H') :
    ∀ x dx, H x = none → H dx = none → dx ≠ x → spLotInit K A (.ref x :: ([.int n, .ref l] ++ [])) (upd (upd H dx (.own x)) x (.ins A.C_Lot dx [])) (fun v H2 => v = .non ∧ Q (.ref x) H2) E := by
  have h := mk_lotP (A := A) (H := H) (P := fun a H2 => Q (.ref a) H2) (E := E) hS hn (scan_nodup hd fun x _ z => by cases z) fun a dx m H' ha hm e g1 g2 => k (.ref a) H' e fun G g => ⟨⟨a, dx, m, rfl, g _ _ ha g1, by rw [g _ _ hm g2, resid_hrs hp]⟩, hn, asc_hrs (by omega)⟩
  exact h
theorem en_mkLot {K : PySem.W.Frag} {A : Ads} {E : XK} {σ : L2.St} {H : Hp} {tn tl : TE} {n : Int} {ms : List Int} {p : Int → Bool} (hs : Ev tn σ H (.int n)) (hl : EvR tl σ H fun v H1 => ∃ p, v = .ref p ∧ SqL K H1 p (ms.map V.int)) (hn : 1 ≤ n ∧ n ≤ 360) (hd : (ms.map (· % n)).Nodup)
    (hp : ∀ z, 0 ≤ z → z < n → (z ∈ ms.map (· % n) ↔ p z = true)) : EvNew (tMake A.C_Lot (spLotInit K A) [] E (tCons tn (tCons tl tNil))) σ H fun v H1 => LotIs A.C_Lot v H1 n (hrs n p) := fun H1 e Q q =>
  hs H1 e _ fun H2 e2 => hl H2 (e.trans e2) _ fun v H3 e3 hv => by
    obtain ⟨l, rfl, hS⟩ := hv
    exact mk_lotS hS hn hd hp fun w H' e' hw => q w H' ((e2.trans e3).trans e') (hw.out (e2.trans e3) (Ex.refl _))
/-- .. of ascending hours -/
theorem en_mkAsc {K : PySem.W.Frag} {A : Ads} {E : XK} {σ : L2.St} {H : Hp} {tn tl : TE} {n : Int} {xs : List Int} (hs : Ev tn σ H (.int n)) (hl : EvR tl σ H fun v H1 => ∃ p, v = .ref p ∧ SqL K H1 p (xs.map V.int)) (hn : 1 ≤ n ∧ n ≤ 360) (hA : Asc 0 n xs) :
    EvNew (tMake A.C_Lot (spLotInit K A) [] E (tCons tn (tCons tl tNil))) σ H fun v H1 => LotIs A.C_Lot v H1 n xs := by
  have h := en_mkLot (K := K) (A := A) (E := E) (p := fun z => decide (z ∈ xs)) hs hl hn (by rw [asc_mod hA]; exact hA.nodup) (fun z z0 z1 => by rw [mem_self hA]; simp)
  rw [hrs_eq (by omega) hA fun z _ _ => by simp] at h
  exact h
theorem er_mkAsc {K : PySem.W.Frag} {A : Ads} {E : XK} {σ : L2.St} {H : Hp} {tn tl : TE} {n : Int} {xs : List Int} (hs : Ev tn σ H (.int n)) (hl : EvR tl σ H fun v H1 => ∃ p, v = .ref p ∧ SqL K H1 p (xs.map V.int)) (hn : 1 ≤ n ∧ n ≤ 360) (hA : Asc 0 n xs) :
    EvR (tMake A.C_Lot (spLotInit K A) [] E (tCons tn (tCons tl tNil))) σ H fun v H1 => LotIs A.C_Lot v H1 n xs := (en_mkAsc hs hl hn hA).er
/-- the members that a lot holds -/
theorem ev_mems {K : PySem.W.Frag} {A : Ads} {te : TE} {σ : L2.St} {H : Hp} {a dx l : Addr} {n : Int} (h : Ev te σ H (.ref a)) (hi : H a = some (.ins A.C_Lot dx (lotF n l))) (c : Cls K A.C_Lot) (na : NoAttr K A.C_Lot "_members") : Ev (tFld K te "_members") σ H (.ref l) := fun H1 e Q q =>
  h H1 e _ fun H2 e2 => ⟨a, _, dx, _, _, rfl, e2 _ _ (e _ _ hi), c, na, rfl, q H2 e2⟩
theorem ev_hours {K : PySem.W.Frag} {A : Ads} {te : TE} {σ : L2.St} {H : Hp} {a dx l : Addr} {n : Int} (h : Ev te σ H (.ref a)) (hi : H a = some (.ins A.C_Lot dx (lotF n l))) (c : Cls K A.C_Lot) (na : NoAttr K A.C_Lot "hours") : Ev (tFld K te "hours") σ H (.int n) := fun H1 e Q q =>
  h H1 e _ fun H2 e2 => ⟨a, _, dx, _, _, rfl, e2 _ _ (e _ _ hi), c, na, rfl, q H2 e2⟩
/-- a comprehension over a list of ints, each put through g -/
theorem el_map {K : PySem.W.Frag} {σ : L2.St} {H : Hp} {te tl : TE} {tt : TT} {j : Nat} {vs : List Nat} {a : Addr} (xs : List Int) (p : Int → Bool) (g : Int → Int) (h : Ev tl σ H (.ref a)) (hx : SqL K H a (xs.map V.int)) (hz : xs.length ≤ 40000)
    (hw : ∀ x, wipe ((wipe σ vs).set j (some x)) vs = wipe σ vs) (ht : ∀ (x : Int) H1, Ex H H1 → x ∈ xs → EvT tt ((wipe σ vs).set j (some (.int x))) H1 (p x))
    (he : ∀ (x : Int) H1, Ex H H1 → x ∈ xs → p x = true → Ev te ((wipe σ vs).set j (some (.int x))) H1 (.int (g x))) : EvL (tLc (iList K tl) (gName j) tt te vs) σ H (((xs.filter p).map g).map V.int) := by
  have e := el_lstG (K := K) (te := te) (tl := tl) (tt := tt) (g := gName j) (vs := vs) (σ := σ) (H := H) 0 (xs.map V.int) xs p (fun x => V.int (g x)) (fun x => (wipe σ vs).set j (some (.int x))) h hx (List.length_map _) hz
    (fun i x y H1 kk _ h1 h2 hk => by
      obtain ⟨u, rfl, hu⟩ := some_int h1
      rw [hu] at h2
      cases h2
      exact hk) (fun y => hw _) ht he
  rw [List.map_map]
  exact e
theorem el_mapA {K : PySem.W.Frag} {σ : L2.St} {H : Hp} {te tl : TE} {j : Nat} {vs : List Nat} {a : Addr} (xs : List Int) (g : Int → Int) (h : Ev tl σ H (.ref a)) (hx : SqL K H a (xs.map V.int)) (hz : xs.length ≤ 40000)
    (hw : ∀ x, wipe ((wipe σ vs).set j (some x)) vs = wipe σ vs)
    (he : ∀ (x : Int) H1, Ex H H1 → x ∈ xs → Ev te ((wipe σ vs).set j (some (.int x))) H1 (.int (g x))) : EvL (tLc (iList K tl) (gName j) tYes te vs) σ H ((xs.map g).map V.int) := by
  have e := el_map (K := K) (te := te) (tl := tl) (tt := tYes) (j := j) (vs := vs) (σ := σ) (H := H) xs (fun _ => true) g h hx hz hw (fun x H1 _ _ => fun H2 _ Q q => q H2 (Ex.refl H2)) (fun x H1 e1 hx _ => he x H1 e1 hx)
  rw [List.filter_eq_self.mpr fun _ _ => rfl] at e
  exact e
theorem int_flat (xs : List Int) : (xs.map V.int).all flatV = true := by
  rw [List.all_map, List.all_eq_true]
  exact fun _ _ => rfl
theorem rv_inI {K : PySem.W.Frag} {H : Hp} {a : Addr} {x : Int} {xs : List Int} (h : SqL K H a (xs.map V.int)) : RV (rIn K false) (.int x) (.ref a) H (.bl (decide (x ∈ xs))) := by
  have := rv_inL (neg := false) (x := .int x) h rfl (int_flat xs)
  rw [inV_ints] at this
  exact this
def spLotHas (A : Ads) : Sp := fun vs H Q E => ∃ (v : V) (z n : Int) (xs : List Int), vs = [v, .int z] ∧ LotIs A.C_Lot v H n xs ∧ ∀ H', Ex H H' → Q (.bl (decide (z % n ∈ xs))) H'
theorem ok_Lot_contains (T : Txt K mg A) : FnOk P w K mg base CX0 1 A.f_Lot_contains A.d_Lot_contains (["self", "x"] : List Str) (spLotHas A) := by
  refine T.F_Lot_contains.ok sc_Lot_contains (fun vs H Q E h => ?_) (fun cdv Ar outer s H vs Q E hr h => ?_)
  · obtain ⟨v, z, n, xs, rfl, _⟩ := h
    rfl
  · obtain ⟨v, z, n, xs, rfl, ⟨⟨a, dx, l, rfl, h1, h2⟩, hn, hA⟩, k⟩ := h
    refine ⟨_, (pss_one (ps_ret (pe_cmpR in_K (pe_op op_mod (pv 1) (pe_fldK (pv 0) rfl)) (pe_fldK (pv 0) rfl) (by with_unfolding_all rfl)))), ?_⟩
    exact s_ret (v := .bl (decide (z % n ∈ xs))) (ev_op (ev_op (ev_var (i := 1) rfl) (ev_hours (ev_var (i := 0) rfl) h1 T.cl_Lot T.na_Lot_hours) (rv_I (show 0 < n by omega))) (ev_mems (ev_var (i := 0) rfl) h1 T.cl_Lot T.na_Lot_members) (rv_inI (sq_of h2))) fun H1 e1 => k H1 e1
def BadName (A : Ads) (z : Str) (H : Hp) (E : XK) : Prop := ∀ d H', Ex H H' → H' d = some (.xd [("name", .str z)]) → E (.ref A.C_BadName) (some d) H'
def spChkName (A : Ads) : Sp := fun vs H Q E => ∃ z : Str, vs = [.str z] ∧ z.length ≤ 100000 ∧ (goodName z = false → BadName A z H E) ∧ (goodName z = true → ∀ H', Ex H H' → Q .non H')
theorem ok_check_name (T : Txt K mg A) : FnOk P w K mg base (L2.CX P w) 4 A.f_check_name A.d_check_name (["name"] : List Str) (spChkName A) := by
  refine T.F_check_name.okX sc_check_name (fun vs H Q E h => ?_) (fun cdv Ar outer s H vs Q E hr h => ?_)
  · obtain ⟨z, rfl, _⟩ := h
    rfl
  · obtain ⟨z, rfl, hz, k1, k2⟩ := h
    obtain ⟨tc_LONGEST_NAME, gc_LONGEST_NAME⟩ := T.c_LONGEST_NAME
    obtain ⟨tc_LETTERS, gc_LETTERS⟩ := T.c_LETTERS
    refine ⟨_, (pss_cons (ps_if (PW.pt (pw_or (pt_cmpR op_lt (pe_callB len_K (by rfl) T.z_len (by decide +kernel) (pa_cons (pv 0) pa_nil)) pe_int (nomark _)) (pw_or1 (pt_cmpR op_gt (pe_callB len_K (by rfl) T.z_len (by decide +kernel) (pa_cons (pv 0) pa_nil)) (pe_glob (v := .int 8) rfl gc_LONGEST_NAME ⟨_, rfl⟩) (nomark _))))) (pss_one (ps_raise rfl (takes_of rfl rfl rfl rfl) (pmk_oex T.ox_BadName T.ni_BadName T.ti_BadName (ok_BadName_init T) (hr.mono (by omega)) (b_BadName_init T) .nil pass0 rfl T.g_BadName (pa_cons (pv 0) pa_nil)))) pss_nil)
        (pss_one (ps_for (passes_of rfl) rfl (pi_str (pv 0)) (pg_name (i := 1) sc_check_name.nd rfl (Or.inl rfl)) (pss_one (ps_if (pt_cmpR op_notIn_sign (pv 1) (pe_glob (v := .str "abcdefghijklmnopqrstuvwxyz") rfl gc_LETTERS ⟨_, rfl⟩) (by with_unfolding_all rfl)) (pss_one (ps_raise rfl (takes_of rfl rfl rfl rfl) (pmk_oex T.ox_BadName T.ni_BadName T.ti_BadName (ok_BadName_init T) (hr.mono (by omega)) (b_BadName_init T) .nil pass0 rfl T.g_BadName (pa_cons (pv 0) pa_nil)))) pss_nil))))), ?_⟩
    have ra : ∀ {σ : L2.St} {G : Hp}, σ[0]? = some (some (.str z)) → Ex H G → goodName z = false → tMkO A.C_BadName (spErr1 K A.C_BadName "name") [] (tCons (tVar 0) tNil) σ G E := fun h0 e hb => raise1 (C := A.C_BadName) (f := "name") (x := .str z) T.ox_BadName (fun Q q => ⟨_, h0, q⟩) (fun d H' e' hd => k1 hb d H' (e.trans e') hd)
    try dsimp only
    refine q_when (b := decide (((z.length : Nat) : Int) < 1) || decide (8 < ((z.length : Nat) : Int))) (et_or (et_test (ev_op (ev_lenS (K := K) (ev_var (i := 0) rfl) hz) ev_c rv_I0)) fun _ => et_test (ev_op (ev_lenS (K := K) (ev_var (i := 0) rfl) hz) ev_c rv_I0)) (fun h H1 e1 => ?_) (fun h H1 e1 => ?_)
    · refine ra rfl e1 ?_
      unfold goodName
      rw [Bool.or_eq_true, decide_eq_true_iff, decide_eq_true_iff] at h
      rw [decide_eq_false (by omega)]
      rfl
    have hl : 1 ≤ z.length ∧ z.length ≤ 8 := by
      rw [Bool.or_eq_false_iff, decide_eq_false_iff_not, decide_eq_false_iff_not] at h
      omega
    try dsimp only
    refine s_forI (ei_str (ev_var (i := 0) rfl)) fun H2 e2 => ⟨fun i σ' G => (∃ lv : Option V, σ' = [some (.str z), lv]) ∧ Ex H2 G ∧ ∀ j, j < i → ∀ c, z.cps[j]? = some c → c ∈ LET.cps.toList, ⟨⟨none, rfl⟩, Ex.refl _, fun j hj => absurd hj (Nat.not_lt_zero _)⟩, fun i σ' G _ p => p.2.1, ?_, ?_⟩
    · rintro i x σ' G G' hi ⟨⟨lv, rfl⟩, eG, hall⟩ ⟨rfl, c, hc, rfl⟩
      have e12 := (e1.trans e2).trans eG
      dsimp only [gName]
      refine s_when (b := !decide (c ∈ LET.cps.toList)) (et_test (ev_op (ev_var (i := 1) rfl) ev_c rv_niS)) (fun h G1 g1 => ?_) (fun h G1 g1 => ⟨⟨_, rfl⟩, eG.trans g1, fun j hj d hd => ?_⟩)
      · refine ra rfl (e12.trans g1) ?_
        unfold goodName
        rw [Bool.and_eq_false_iff]
        refine .inr (List.all_eq_false.mpr ⟨c, ?_, by simpa using h⟩)
        exact List.mem_of_getElem? (i := i) (by simpa using hc)
      · by_cases c' : j < i
        · exact hall j c' d hd
        · have : j = i := by omega
          subst this
          rw [hc] at hd
          cases hd
          simpa using h
    rintro σ' G ⟨⟨lv, rfl⟩, eG, hall⟩
    refine k2 ?_ G ((e1.trans e2).trans eG)
    unfold goodName
    rw [Bool.and_eq_true, decide_eq_true_iff, List.all_eq_true]
    refine ⟨hl, fun c hc => decide_eq_true ?_⟩
    obtain ⟨j, hj⟩ := List.getElem?_of_mem hc
    have hj' : z.cps[j]? = some c := by simpa using hj
    exact hall j (by have := (List.getElem?_eq_some_iff.mp hj).1; simpa using this) c hj'
def Again (A : Ads) (z : Str) (H : Hp) (E : XK) : Prop := ∀ d H', Ex H H' → H' d = some (.xd [("name", .str z)]) → E (.ref A.C_RepeatedName) (some d) H'
def spChkNew (K : PySem.W.Frag) (A : Ads) : Sp := fun vs H Q E => ∃ (z : Str) (p : Addr) (ns : List Str), vs = [.str z, .ref p] ∧ z.length ≤ 100000 ∧ SqL K H p (ns.map V.str) ∧ (goodName z = false → BadName A z H E) ∧ (goodName z = true → z ∈ ns → Again A z H E) ∧ (goodName z = true → z ∉ ns → ∀ H', Ex H H' → Q .non H')
theorem ok_check_new_name (T : Txt K mg A) : FnOk P w K mg base (L2.CX P w) 5 A.f_check_new_name A.d_check_new_name (["name", "names"] : List Str) (spChkNew K A) := by
  refine T.F_check_new_name.okX sc_check_new_name (fun vs H Q E h => ?_) (fun cdv Ar outer s H vs Q E hr h => ?_)
  · obtain ⟨z, p, ns, rfl, _⟩ := h
    rfl
  · obtain ⟨z, p, ns, rfl, hz, hp, k1, k2, k3⟩ := h
    refine ⟨_, (pss_cons (ps_expr (pe_call (ok_check_name T) (hr.mono (by omega)) rfl T.g_check_name T.k_check_name (b_check_name T) .nil (passes_call (takes_of rfl rfl rfl rfl) (fun _ _ _ _ h => h)) (pa_cons (pv 0) pa_nil)))
        (pss_one (ps_if (pt_cmpR in_K (pv 0) (pv 1) (by with_unfolding_all rfl)) (pss_one (ps_raise rfl (takes_of rfl rfl rfl rfl) (pmk_oex T.ox_RepeatedName T.ni_RepeatedName T.ti_RepeatedName (ok_RepeatedName_init T) (hr.mono (by omega)) (b_RepeatedName_init T) .nil pass0 rfl T.g_RepeatedName (pa_cons (pv 0) pa_nil)))) pss_nil))), ?_⟩
    refine ⟨_, rfl, z, rfl, hz, k1, fun hg H1 e1 => ?_⟩
    try dsimp only
    refine s_when (b := decide (z ∈ ns)) (et_test (ev_is (ev_op (ev_var (i := 0) rfl) (ev_var (i := 1) rfl) (rv_inL (neg := false) (ex_l e1 hp) rfl (strs_flat ns))) (by rw [← inV_strs]; rfl))) (fun h H2 e2 => ?_) (fun h H2 e2 => k3 hg (of_decide_eq_false h) H2 (e1.trans e2))
    exact raise1 (C := A.C_RepeatedName) (f := "name") (x := .str z) T.ox_RepeatedName (fun Q q => ⟨_, rfl, q⟩) (fun d H' e' hd => k2 hg (of_decide_eq_true h) d H' ((e1.trans e2).trans e') hd)
theorem putF3 {y z u : V} : putF "stakes" u (putF "names" z (putF "hours" y [])) = [(("hours" : Str), y), (("names" : Str), z), (("stakes" : Str), u)] := by
  have h1 : ¬ ("hours" : Str) = "names" := by decide +kernel
  have h2 : ¬ ("hours" : Str) = "stakes" := by decide +kernel
  have h3 : ¬ ("names" : Str) = "stakes" := by decide +kernel
  have e : putF "names" z (putF "hours" y []) = [(("hours" : Str), y), (("names" : Str), z)] := by
    show (if ("hours" : Str) = "names" then _ else (("hours" : Str), y) :: putF "names" z []) = _
    rw [if_neg h1]
    rfl
  rw [e]
  show (if ("hours" : Str) = "stakes" then _ else (("hours" : Str), y) :: (if ("names" : Str) = "stakes" then _ else (("names" : Str), z) :: putF "stakes" u [])) = _
  rw [if_neg h2, if_neg h3]
  rfl
theorem he_scan {n : Int} {gs : List (Str × Int)} {e : HErr} (h1 : ¬ (n < 1 ∨ 24 < n)) (h2 : ¬ gs.length = 0) (h3 : ¬ 4 < gs.length) (hs : scanG [] gs = some e) : houseErr n gs = some e := by
  unfold houseErr
  rw [if_neg h1, if_neg h2, if_neg h3, hs]
def HE (A : Ads) (n : Int) (H : Hp) (E : XK) : HErr → Prop
  | .hours => ∀ d H', Ex H H' → H' d = some (.xd [("value", .int n), ("name", .str "hours")]) → E (.ref A.C_BadNumber) (some d) H'
  | .noGates => ∀ d H', Ex H H' → H' d = some (.xd [("value", .int 0), ("name", .str "gates")]) → E (.ref A.C_BadNumber) (some d) H'
  | .manyGates => ∀ d H', Ex H H' → H' d = some (.xd [("most", .int 4), ("name", .str "gates")]) → E (.ref A.C_TooMany) (some d) H'
  | .name z => BadName A z H E
  | .again z => Again A z H E
  | .stake s => ∀ d H', Ex H H' → H' d = some (.xd [("value", .int s), ("name", .str "stake")]) → E (.ref A.C_BadNumber) (some d) H'
  | .cells => ∀ d H', Ex H H' → H' d = some (.xd [("most", .int 48), ("name", .str "cells")]) → E (.ref A.C_TooMany) (some d) H'
def spHouse (K : PySem.W.Frag) (A : Ads) : Sp := fun vs H Q E => ∃ (x dx p : Addr) (n : Int) (gs : List (Str × Int)), vs = [.ref x, .int n, .ref p] ∧ H x = some (.ins A.C_House dx []) ∧ Gates K H p gs ∧ gs.length ≤ 100 ∧ (∀ g ∈ gs, g.1.length ≤ 100000) ∧ (∀ e, houseErr n gs = some e → HE A n H E e) ∧
  (houseErr n gs = none → ∀ q r H', (∀ b o, b ≠ x → H b = some o → H' b = some o) → H q = none → H r = none → H' x = some (.ins A.C_House dx (houF n q r)) → H' q = some (.tup ((gs.map (·.1)).map V.str)) → H' r = some (.tup ((gs.map (·.2)).map V.int)) → Q .non H')
theorem ok_House_init (T : Txt K mg A) : FnOk P w K mg base (L2.CX P w) 6 A.f_House_init A.d_House_init (["self", "hours", "gates"] : List Str) (spHouse K A) := by
  refine T.F_House_init.okX sc_House_init (fun vs H Q E h => ?_) (fun cdv Ar outer s H vs Q E hr h => ?_)
  · obtain ⟨x, dx, p, n, gs, rfl, _⟩ := h
    rfl
  · obtain ⟨x, dx, p, n, gs, rfl, hx, hG, hgl, hgz, k1, k2⟩ := h
    refine ⟨_, (pss_cons (ps_if (PW.pt (pw_or (pt_cmpR op_lt (pv 1) pe_int (nomark _)) (pw_or1 (pt_cmpR op_gt (pv 1) (ClX.pe_cval (pe_glob (v := .ref A.C_House) rfl T.g_House rfl)) (nomark _))))) (pss_one (ps_raise rfl (takes_of rfl rfl rfl rfl) (pmk_oex T.ox_BadNumber T.ni_BadNumber T.ti_BadNumber (ok_BadNumber_init T) (hr.mono (by omega)) (b_BadNumber_init T) .nil pass0 rfl T.g_BadNumber (pa_cons pe_str (pa_cons (pv 1) pa_nil))))) pss_nil)
        (pss_cons (ps_if (pt_cmpR op_eq (pe_callB len_K (by rfl) T.z_len (by decide +kernel) (pa_cons (pv 2) pa_nil)) pe_int (nomark _)) (pss_one (ps_raise rfl (takes_of rfl rfl rfl rfl) (pmk_oex T.ox_BadNumber T.ni_BadNumber T.ti_BadNumber (ok_BadNumber_init T) (hr.mono (by omega)) (b_BadNumber_init T) .nil pass0 rfl T.g_BadNumber (pa_cons pe_str (pa_cons pe_int pa_nil))))) pss_nil)
        (pss_cons (ps_if (pt_cmpR op_gt (pe_callB len_K (by rfl) T.z_len (by decide +kernel) (pa_cons (pv 2) pa_nil)) (ClX.pe_cval (pe_glob (v := .ref A.C_House) rfl T.g_House rfl)) (nomark _)) (pss_one (ps_raise rfl (takes_of rfl rfl rfl rfl) (pmk_oex T.ox_TooMany T.ni_TooMany T.ti_TooMany (ok_TooMany_init T) (hr.mono (by omega)) (b_TooMany_init T) .nil pass0 rfl T.g_TooMany (pa_cons pe_str (pa_cons (ClX.pe_cval (pe_glob (v := .ref A.C_House) rfl T.g_House rfl)) pa_nil))))) pss_nil)
        (pss_cons (ps_set (i := 3) sc_House_init.nd rfl (Or.inl rfl) (pe_lst pa_nil))
        (pss_cons (ps_set (i := 4) sc_House_init.nd rfl (Or.inl rfl) (pe_lst pa_nil))
        (pss_cons (ps_for (passes_of rfl) rfl (pi_listK (pv 2)) (pg_tup rfl (pgs_cons (pg_name (i := 5) sc_House_init.nd rfl (Or.inl rfl)) (pgs_cons (pg_name (i := 6) sc_House_init.nd rfl (Or.inl rfl)) pgs_nil))) (pss_cons (ps_expr (pe_call (ok_check_new_name T) (hr.mono (by omega)) rfl T.g_check_new_name T.k_check_new_name (b_check_new_name T) .nil (passes_call (takes_of rfl rfl rfl rfl) (fun _ _ _ _ h => h)) (pa_cons (pv 5) (pa_cons (pv 3) pa_nil))))
        (pss_cons (ps_if (PW.pt (pw_or (pt_cmpR op_lt (pv 6) pe_int (nomark _)) (pw_or1 (pt_cmpR op_gt (pv 6) (ClX.pe_cval (pe_glob (v := .ref A.C_House) rfl T.g_House rfl)) (nomark _))))) (pss_one (ps_raise rfl (takes_of rfl rfl rfl rfl) (pmk_oex T.ox_BadNumber T.ni_BadNumber T.ti_BadNumber (ok_BadNumber_init T) (hr.mono (by omega)) (b_BadNumber_init T) .nil pass0 rfl T.g_BadNumber (pa_cons pe_str (pa_cons (pv 6) pa_nil))))) pss_nil)
        (pss_cons (ps_expr (pe_bm PySem.F.plainAttrs_list PySem.F.slot_list_append PySem.F.type_list_append mt_append (pv 3) (pa_cons (pv 5) pa_nil)))
        (pss_one (ps_expr (pe_bm PySem.F.plainAttrs_list PySem.F.slot_list_append PySem.F.type_list_append mt_append (pv 4) (pa_cons (pv 6) pa_nil))))))))
        (pss_cons (ps_if (pt_cmpR op_gt (pe_op op_mul (pv 1) (pe_callB len_K (by rfl) T.z_len (by decide +kernel) (pa_cons (pv 2) pa_nil))) (ClX.pe_cval (pe_glob (v := .ref A.C_House) rfl T.g_House rfl)) (nomark _)) (pss_one (ps_raise rfl (takes_of rfl rfl rfl rfl) (pmk_oex T.ox_TooMany T.ni_TooMany T.ti_TooMany (ok_TooMany_init T) (hr.mono (by omega)) (b_TooMany_init T) .nil pass0 rfl T.g_TooMany (pa_cons pe_str (pa_cons (ClX.pe_cval (pe_glob (v := .ref A.C_House) rfl T.g_House rfl)) pa_nil))))) pss_nil)
        (pss_cons (ps_fld (pv 0) (pv 1) rfl)
        (pss_cons (ps_fld (pv 0) (pe_callTy tup_K (by rfl) T.z_tuple (by decide +kernel) (pa_cons (pv 3) pa_nil)) rfl)
        (pss_one (ps_fld (pv 0) (pe_callTy tup_K (by rfl) T.z_tuple (by decide +kernel) (pa_cons (pv 4) pa_nil)) rfl))))))))))), ?_⟩
    obtain ⟨mc, rdH, ⟨t1, c1⟩, ⟨t2, c2⟩, ⟨t3, c3⟩, ⟨t4, c4⟩⟩ := T.rd_House
    obtain ⟨vs, hvs, hvl, hall⟩ := hG.all
    have lenP : ∀ {σ : L2.St} {G : Hp}, σ[2]? = some (some (.ref p)) → Ex H G → Ev (tCB (rLenK K) (tCons (tVar 2) tNil)) σ G (.int (gs.length : Int)) := fun h2 e => ev_cb (r := rLenK K) (ea_cons (ev_var h2) ea_nil) fun H2 e2 Q q => ⟨.ref p, gs.length, rfl, .inl ⟨vs, ex_l (e.trans e2) hvs, hvl.symm⟩, q H2 (Ex.refl H2)⟩
    have cst : ∀ {f : Str} {z : Int} {t : Tok} {G : Hp} {σ : L2.St}, ClX.CVal K A.C_House mc f (V.int z) (Value.int z t) → Ev (ClX.tCVal K (tC (V.ref A.C_House)) f) σ G (.int z) := fun c H1 e Q q => ⟨A.C_House, mc, _, _, rfl, rdH, c, q H1 (Ex.refl H1)⟩
    try dsimp only
    refine q_when (b := decide (n < 1) || decide (24 < n)) (et_or (et_test (ev_op (ev_var (i := 1) rfl) ev_c rv_I0)) fun _ => et_test (ev_op (ev_var (i := 1) rfl) (cst c1) rv_I0)) (fun h H1 e1 => ?_) (fun h H1 e1 => ?_)
    · rw [Bool.or_eq_true, decide_eq_true_iff, decide_eq_true_iff] at h
      exact raise2 (C := A.C_BadNumber) (f := "name") (g := "value") (x := .str "hours") (y := .int n) T.ox_BadNumber (fun Q q => ⟨_, rfl, q⟩) (fun d H' e' hd => k1 .hours (if_pos h) d H' (e1.trans e') hd)
    rw [Bool.or_eq_false_iff, decide_eq_false_iff_not, decide_eq_false_iff_not] at h
    have a1 : ¬ (n < 1 ∨ 24 < n) := by omega
    try dsimp only
    refine q_when (b := decide ((gs.length : Int) = 0)) (et_test (ev_is (ev_op (lenP rfl e1) ev_c (rv_eq rfl)) (by rw [dec_ii]))) (fun h H2 e2 => ?_) (fun h H2 e2 => ?_)
    · have h := of_decide_eq_true h
      exact raise2 (C := A.C_BadNumber) (f := "name") (g := "value") (x := .str "gates") (y := .int 0) T.ox_BadNumber (fun Q q => q) (fun d H' e' hd => k1 .noGates ((if_neg a1).trans (if_pos (by omega))) d H' ((e1.trans e2).trans e') hd)
    have a2 : ¬ gs.length = 0 := by have := of_decide_eq_false h; omega
    replace e2 := e1.trans e2
    try dsimp only
    refine q_when (b := decide (4 < (gs.length : Int))) (et_test (ev_op (lenP rfl e2) (cst c2) rv_I0)) (fun h H3 e3 => ?_) (fun h H3 e3 => ?_)
    · have h := of_decide_eq_true h
      exact raise2 (C := A.C_TooMany) (f := "name") (g := "most") (x := .str "gates") (y := .int 4) T.ox_TooMany (fun Q q => ⟨A.C_House, mc, _, _, rfl, rdH, c2, q⟩) (fun d H' e' hd => k1 .manyGates ((if_neg a1).trans ((if_neg a2).trans (if_pos (by omega)))) d H' ((e2.trans e3).trans e') hd)
    have a3 : ¬ 4 < gs.length := by have := of_decide_eq_false h; omega
    replace e3 := e2.trans e3
    try dsimp only
    refine q_asgL (xs := []) (el_lst ea_nil (by decide)) fun np H4 hnp e4 h4 => ?_
    try dsimp only
    refine q_asgL (xs := []) (el_lst ea_nil (by decide)) fun sp H5 hsp e5 h5 => ?_
    have hne : np ≠ sp := ne_of_none h4 hsp
    have e05 := (e3.trans e4).trans e5
    have np0 : H np = none := fresh_back e3 hnp
    have sp0 : H sp = none := fresh_back (e3.trans e4) hsp
    try dsimp only
    refine q_forL (K := K) (a := p) (xs := vs) (ev_var (i := 2) rfl) (ex_l e05 hvs) (fun i σ' G => ∃ nv sv : Option V, σ' = [some (.ref x), some (.int n), some (.ref p), some (.ref np), some (.ref sp), nv, sv] ∧ Ex H G ∧ G np = some (.lst (((gs.take i).map (·.1)).map V.str)) ∧ G sp = some (.lst (((gs.take i).map (·.2)).map V.int)) ∧ scanG [] gs = scanG ((gs.take i).map (·.1)) (gs.drop i))
      (fun H6 e6 => ⟨none, none, rfl, e05.trans e6, (e5.trans e6) _ _ h4, e6 _ _ h5, rfl⟩) (fun i σ' G _ ⟨_, _, _, e, _⟩ => ex_l e hvs) ?_ ?_
    · rintro i v σ' G hv ⟨nv, sv, rfl, eG, hn, hs, hsc⟩
      obtain ⟨t, rfl, hall'⟩ := hall i v hv
      have hi : i < gs.length := by have := (List.getElem?_eq_some_iff.mp hv).1; omega
      have hg : gs[i]? = some gs[i] := List.getElem?_eq_getElem hi
      have ht := ex_t eG (hall' _ hg)
      have hz := hgz _ (List.getElem_mem hi)
      rw [List.drop_eq_getElem_cons hi] at hsc
      have htk : gs.take (i + 1) = gs.take i ++ [gs[i]] := List.take_succ_eq_append_getElem hi
      generalize gs[i] = g at *
      obtain ⟨z, st⟩ := g
      refine ⟨t, _, rfl, ht, rfl, .str z, _, rfl, .int st, _, rfl, rfl, ?_⟩
      have fault : ∀ e, scanG ((gs.take i).map (·.1)) ((z, st) :: gs.drop (i + 1)) = some e → houseErr n gs = some e := fun e he => he_scan a1 a2 a3 (by rw [hsc, he])
      try dsimp only
      refine ⟨_, rfl, _, rfl, z, np, (gs.take i).map (·.1), rfl, hz, sq_of hn, fun hb d H' e' hd => ?_, fun hb hm d H' e' hd => ?_, fun hb hm G1 g1 => ?_⟩
      · exact k1 (.name z) (fault _ (if_pos hb)) d H' (eG.trans e') hd
      · exact k1 (.again z) (fault _ ((if_neg (by rw [hb]; simp)).trans (if_pos hm))) d H' (eG.trans e') hd
      have f1 : ¬ goodName z = false := by rw [hb]; simp
      try dsimp only
      refine q_when (b := decide (st < 0) || decide (60 < st)) (et_or (et_test (ev_op (ev_var (i := 6) rfl) ev_c rv_I0)) fun _ => et_test (ev_op (ev_var (i := 6) rfl) (cst c4) rv_I0)) (fun h G2 g2 => ?_) (fun h G2 g2 => ?_)
      · rw [Bool.or_eq_true, decide_eq_true_iff, decide_eq_true_iff] at h
        exact raise2 (C := A.C_BadNumber) (f := "name") (g := "value") (x := .str "stake") (y := .int st) T.ox_BadNumber (fun Q q => ⟨_, rfl, q⟩) (fun d H' e' hd => k1 (.stake st) (fault _ ((if_neg f1).trans ((if_neg hm).trans (if_pos h)))) d H' (eG.trans (g1.trans (g2.trans e'))) hd)
      rw [Bool.or_eq_false_iff, decide_eq_false_iff_not, decide_eq_false_iff_not] at h
      have g12 := g1.trans g2
      have sz : ∀ {α : Type} (f : Str × Int → α) (V' : α → V), (((gs.take i).map f).map V').length < 100000 := fun f V' => by rw [List.length_map, List.length_map, List.length_take]; omega
      try dsimp only
      refine q_app (g12 _ _ hn) (ev_var (i := 3) rfl) (ev_var (i := 5) rfl) (sz _ _) fun G3 g3 => ?_
      try dsimp only
      refine s_app (xs := ((gs.take i).map (·.2)).map V.int) (by rw [upd_ne (Ne.symm hne)]; exact (g12.trans g3) _ _ hs) (ev_var (i := 4) rfl) (ev_var (i := 6) rfl) (sz _ _) fun G4 g4 => ?_
      refine ⟨_, _, rfl, Ex.mut ((Ex.mut (eG.trans (g12.trans g3)) np0).trans g4) sp0, ?_, ?_, ?_⟩
      · rw [upd_ne hne, g4 _ _ upd_same, htk, List.map_append, List.map_append]
        rfl
      · rw [upd_same, htk, List.map_append, List.map_append]
        rfl
      · rw [hsc, htk, List.map_append]
        exact (if_neg f1).trans ((if_neg hm).trans (if_neg (by omega)))
    rintro σ' G ⟨nv, sv, rfl, eG, hn, hs, hsc⟩
    rw [hvl, List.take_length] at hn hs hsc
    rw [List.drop_length] at hsc
    have hsc : scanG [] gs = none := hsc
    try dsimp only
    refine q_when (b := decide (48 < n * (gs.length : Int))) (et_test (ev_op (ev_op (ev_var (i := 1) rfl) (lenP rfl eG) (rv_I (show CMul n (gs.length : Int) from .inl ⟨by omega, by omega⟩))) (cst c3) rv_I0)) (fun h H7 e7 => ?_) (fun h H7 e7 => ?_)
    · exact raise2 (C := A.C_TooMany) (f := "name") (g := "most") (x := .str "cells") (y := .int 48) T.ox_TooMany (fun Q q => ⟨A.C_House, mc, _, _, rfl, rdH, c3, q⟩) (fun d H' e' hd => k1 .cells (by
        unfold houseErr
        rw [if_neg a1, if_neg a2, if_neg a3, hsc]
        exact if_pos (of_decide_eq_true h)) d H' (eG.trans (e7.trans e')) hd)
    have hno : houseErr n gs = none := by
      unfold houseErr
      rw [if_neg a1, if_neg a2, if_neg a3, hsc]
      exact if_neg (of_decide_eq_false h)
    have e07 := eG.trans e7
    have hx7 := e07 _ _ hx
    have hn7 := e7 _ _ hn
    have hs7 := e7 _ _ hs
    have xnp : x ≠ np := fun z => by rw [z, np0] at hx; cases hx
    have xsp : x ≠ sp := fun z => by rw [z, sp0] at hx; cases hx
    refine ⟨_, rfl, _, rfl, x, _, dx, [], rfl, hx7, T.cl_House, T.na_House_hours, by decide, ?_⟩
    refine ⟨_, rfl, np, _, rfl, .inl ⟨SqL.of (by rw [upd_ne (Ne.symm xnp)]; exact hn7), fun q hq => ?_⟩⟩
    have xq : q ≠ x := fun z => by rw [z, upd_same] at hq; cases hq
    have hq7 : H7 q = none := by rw [upd_ne xq] at hq; exact hq
    refine ⟨_, rfl, x, _, dx, _, rfl, by rw [upd_ne (Ne.symm xq), upd_same], T.cl_House, T.na_House_names, by show 1 < 1000; decide, ?_⟩
    have spq : sp ≠ q := fun z => by rw [← z, hs7] at hq7; cases hq7
    refine ⟨_, rfl, sp, _, rfl, .inl ⟨SqL.of (by rw [upd_ne (Ne.symm xsp), upd_ne spq, upd_ne (Ne.symm xsp)]; exact hs7), fun r hr => ?_⟩⟩
    have xr : r ≠ x := fun z => by rw [z, upd_same] at hr; cases hr
    have rq : r ≠ q := fun z => by rw [z, upd_ne xq, upd_same] at hr; cases hr
    have hr7 : H7 r = none := by rw [upd_ne xr, upd_ne rq, upd_ne xr] at hr; exact hr
    refine ⟨_, rfl, x, _, dx, _, rfl, by rw [upd_ne (Ne.symm xr), upd_same], T.cl_House, T.na_House_stakes, by show 2 < 1000; decide, ?_⟩
    refine k2 hno q r _ (fun b o hb ho => ?_) (fresh_back e07 hq7) (fresh_back e07 hr7) ?_ ?_ ?_
    · have h7 := e07 _ _ ho
      rw [upd_ne hb, upd_ne (ne_of_none h7 hr7), upd_ne hb, upd_ne (ne_of_none h7 hq7), upd_ne hb]
      exact h7
    · rw [upd_same, putF3]
      rfl
    · rw [upd_ne xq, upd_ne (Ne.symm rq), upd_ne xq, upd_same]
    · rw [upd_ne xr, upd_same]
def spHLen (A : Ads) : Sp := fun vs H Q _ => ∃ (v : V) (n : Int) (gs : List (Str × Int)), vs = [v] ∧ HouseIs A.C_House v H n gs ∧ gs.length ≤ 100 ∧ ∀ H', Ex H H' → Q (.int (gs.length : Int)) H'
theorem ev_hnames {K : PySem.W.Frag} {C : Addr} {te : TE} {σ : L2.St} {H : Hp} {a dx p q : Addr} {n : Int} (h : Ev te σ H (.ref a)) (hi : H a = some (.ins C dx (houF n p q))) (c : Cls K C) (na : NoAttr K C "names") : Ev (tFld K te "names") σ H (.ref p) := fun H1 e Q q' =>
  h H1 e _ fun H2 e2 => ⟨a, _, dx, _, _, rfl, e2 _ _ (e _ _ hi), c, na, rfl, q' H2 e2⟩
theorem ev_hhours {K : PySem.W.Frag} {C : Addr} {te : TE} {σ : L2.St} {H : Hp} {a dx p q : Addr} {n : Int} (h : Ev te σ H (.ref a)) (hi : H a = some (.ins C dx (houF n p q))) (c : Cls K C) (na : NoAttr K C "hours") : Ev (tFld K te "hours") σ H (.int n) := fun H1 e Q q' =>
  h H1 e _ fun H2 e2 => ⟨a, _, dx, _, _, rfl, e2 _ _ (e _ _ hi), c, na, rfl, q' H2 e2⟩
theorem ev_hstakes {K : PySem.W.Frag} {C : Addr} {te : TE} {σ : L2.St} {H : Hp} {a dx p q : Addr} {n : Int} (h : Ev te σ H (.ref a)) (hi : H a = some (.ins C dx (houF n p q))) (c : Cls K C) (na : NoAttr K C "stakes") : Ev (tFld K te "stakes") σ H (.ref q) := fun H1 e Q q' =>
  h H1 e _ fun H2 e2 => ⟨a, _, dx, _, _, rfl, e2 _ _ (e _ _ hi), c, na, rfl, q' H2 e2⟩
theorem ok_House_len (T : Txt K mg A) : FnOk P w K mg base CX0 1 A.f_House_len A.d_House_len (["self"] : List Str) (spHLen A) := by
  refine T.F_House_len.ok sc_House_len (fun vs H Q E h => ?_) (fun cdv Ar outer s H vs Q E hr h => ?_)
  · obtain ⟨v, n, gs, rfl, _⟩ := h
    rfl
  · obtain ⟨v, n, gs, rfl, ⟨a, dx, p, q, rfl, h1, h2, h3⟩, hl, k⟩ := h
    refine ⟨_, (pss_one (ps_ret (pe_callB len_K (by rfl) T.z_len (by decide +kernel) (pa_cons (pe_fldK (pv 0) rfl) pa_nil)))), ?_⟩
    try dsimp only
    exact s_ret (v := .int (gs.length : Int)) (ev_cb (r := rLenK K) (ea_cons (ev_hnames (ev_var (i := 0) rfl) h1 T.cl_House T.na_House_names) ea_nil) fun H2 e2 Q q' => ⟨.ref p, gs.length, rfl, .inr ⟨_, st_of (e2 _ _ h2), by rw [List.length_map, List.length_map]⟩, q' H2 (Ex.refl H2)⟩) fun H1 e1 => k H1 e1
def spHEq (K : PySem.W.Frag) (A : Ads) : Sp := fun vs H Q _ => ∃ (v w : V) (n m : Int) (gs fs : List (Str × Int)), vs = [v, w] ∧ HouseIs A.C_House v H n gs ∧ HouseIs A.C_House w H m fs ∧ (∀ g ∈ gs, Word g.1) ∧ (∀ g ∈ fs, Word g.1) ∧ ∀ H', Ex H H' → Q (.bl (decide (n = m ∧ gs = fs))) H'
theorem ev_isOwn {K : PySem.W.Frag} {te : TE} {σ : L2.St} {H : Hp} {b C : Addr} (h : Ev te σ H (.ref b)) (ty : ∀ H1, Ex H H1 → TyX K H1 (.ref b) (.ref C)) : Ev (tCB (rIsi K) (tCons te (tCons (tC (.ref C)) tNil))) σ H (.bl true) := fun H1 e Q q => h H1 e _ fun H2 e2 => ⟨_, _, _, _, true, rfl, .own _, ty H2 (e.trans e2), kit_self, q H2 e2⟩
theorem ok_House_eq (T : Txt K mg A) : FnOk P w K mg base CX0 2 A.f_House_eq A.d_House_eq (["self", "other"] : List Str) (spHEq K A) := by
  refine T.F_House_eq.ok sc_House_eq (fun vs H Q E h => ?_) (fun cdv Ar outer s H vs Q E hr h => ?_)
  · obtain ⟨v, w, n, m, gs, fs, rfl, _⟩ := h
    rfl
  · obtain ⟨v, w, n, m, gs, fs, rfl, ⟨a, dx, p, q, rfl, h1, h2, h3⟩, ⟨b, dy, p2, q2, rfl, g1, g2, g3⟩, w1, w2, k⟩ := h
    refine ⟨_, (pss_one (ps_ret (pe_and (pe_callB isi_K (by rfl) T.z_isinstance (by decide +kernel) (pa_cons (pv 1) (pa_cons (pe_glob (v := .ref A.C_House) rfl T.g_House rfl) pa_nil))) (pe_and (pe_cmpR op_eq (pe_fldK (pv 0) rfl) (pe_fldK (pv 1) rfl) (nomark _)) (pe_and (pe_cmpR (eqD_K hr.units) (pe_fldK (pv 0) rfl) (pe_fldK (pv 1) rfl) (nomark _)) (pe_one (pe_cmpR (eqD_K hr.units) (pe_fldK (pv 0) rfl) (pe_fldK (pv 1) rfl) (nomark _)))))))), ?_⟩
    try dsimp only
    have fin : (true && (decide (n = m) && (decide (gs.map (·.1) = fs.map (·.1)) && decide (gs.map (·.2) = fs.map (·.2))))) = decide (n = m ∧ gs = fs) := by
      rw [Bool.true_and, ← Bool.decide_and, ← Bool.decide_and, decide_eq_decide, pairs_eq]
    refine s_ret (v := .bl (decide (n = m ∧ gs = fs))) (ev_is (ev_andV (a := true) (b := decide (n = m) && (decide (gs.map (·.1) = fs.map (·.1)) && decide (gs.map (·.2) = fs.map (·.2)))) (ev_isOwn (K := K) (ev_var (i := 1) rfl) fun H1 e => T.ty_House H1 b dy _ (e _ _ g1)) fun _ => ev_andV (ev_is (ev_op (ev_hhours (ev_var (i := 0) rfl) h1 T.cl_House T.na_House_hours) (ev_hhours (ev_var (i := 1) rfl) g1 T.cl_House T.na_House_hours) (rv_eq rfl)) (by rw [dec_ii])) fun _ =>
      ev_andV (ev_op (ev_hnames (ev_var (i := 0) rfl) h1 T.cl_House T.na_House_names) (ev_hnames (ev_var (i := 1) rfl) g1 T.cl_House T.na_House_names) (rv_eqTS (K := K) h2 g2 (fun x hx => by obtain ⟨g, hg, rfl⟩ := List.mem_map.mp hx; exact w1 g hg) (fun x hx => by obtain ⟨g, hg, rfl⟩ := List.mem_map.mp hx; exact w2 g hg))) fun _ => ev_op (ev_hstakes (ev_var (i := 0) rfl) h1 T.cl_House T.na_House_stakes) (ev_hstakes (ev_var (i := 1) rfl) g1 T.cl_House T.na_House_stakes) (rv_eqTI (K := K) h3 g3)) (by rw [fin])) fun H1 e1 => k H1 e1
theorem ev_houseLen {A : Ads} {E : XK} {ta : TE} {σ : L2.St} {H : Hp} {v : V} {n : Int} {gs : List (Str × Int)} (ha : Ev ta σ H v) (hv : HouseIs A.C_House v H n gs) (hl : gs.length ≤ 100) : Ev (tCB (rOwnLen A.C_House (spHLen A) E) (tCons ta tNil)) σ H (.int (gs.length : Int)) := fun H1 e Q q =>
  ha H1 e _ fun H2 e2 => by
    have h2 := hv.ex (e.trans e2)
    obtain ⟨a, dx, p, q', rfl, h1, _⟩ := id h2
    exact ⟨a, dx, _, rfl, h1, .ref a, n, gs, rfl, h2, hl, fun H' e' => ⟨_, rfl, ⟨by omega, by omega⟩, q H' (e2.trans e')⟩⟩
def spIsGate (A : Ads) : Sp := fun vs H Q _ => ∃ (v : V) (n g : Int) (gs : List (Str × Int)), vs = [v, .int g] ∧ HouseIs A.C_House v H n gs ∧ gs.length ≤ 100 ∧ ∀ H', Ex H H' → Q (.bl (decide (0 ≤ g ∧ g < (gs.length : Int)))) H'
theorem ok_is_gate (T : Txt K mg A) : FnOk P w K mg base CX0 3 A.f_is_gate A.d_is_gate (["house", "gate"] : List Str) (spIsGate A) := by
  refine T.F_is_gate.ok sc_is_gate (fun vs H Q E h => ?_) (fun cdv Ar outer s H vs Q E hr h => ?_)
  · obtain ⟨v, n, g, gs, rfl, _⟩ := h
    rfl
  · obtain ⟨v, n, g, gs, rfl, hv, hl, k⟩ := h
    refine ⟨_, (pss_one (ps_ret (pe_and (pe_cmpR op_ge (pv 1) pe_int (nomark _)) (pe_one (pe_cmpR op_lt (pv 1) (pe_callB (call_lenO (E := E0) T.M_House_len (ok_House_len T) (hr.mono (by omega)) (b_House_len T) (pAt pass0)) (by rfl) T.z_len (by decide +kernel) (pa_cons (pv 0) pa_nil)) (nomark _)))))), ?_⟩
    try dsimp only
    exact s_ret (v := .bl (decide (0 ≤ g ∧ g < (gs.length : Int)))) (ev_is (ev_andV (a := decide (0 ≤ g)) (b := decide (g < (gs.length : Int))) (ev_op (ev_var (i := 1) rfl) ev_c rv_I0) fun _ => ev_op (ev_var (i := 1) rfl) (ev_houseLen (ev_var (i := 0) rfl) hv hl) rv_I0) (by rw [Bool.decide_and])) fun H1 e1 => k H1 e1
def WErrE (A : Ads) (H : Hp) (E : XK) : WErr → Prop
  | .wlen k => ∀ d H', Ex H H' → H' d = some (.xd [("length", .int (k : Int))]) → E (.ref A.C_WrongLength) (some d) H'
  | .str x => ∀ d H', Ex H H' → H' d = some (.xd [("value", .int x), ("name", .str "strength")]) → E (.ref A.C_BadNumber) (some d) H'
theorem WErrE.ex {A : Ads} {H H1 : Hp} {E : XK} {e : WErr} (g : Ex H H1) (h : WErrE A H E e) : WErrE A H1 E e := by
  cases e with
  | wlen k => exact fun d H' e' => h d H' (g.trans e')
  | str x => exact fun d H' e' => h d H' (g.trans e')
def spChkRow (K : PySem.W.Frag) (A : Ads) : Sp := fun vs H Q E => ∃ (v : V) (n : Nat) (gs : List (Str × Int)) (p : Addr) (xs : List Int), vs = [v, .ref p] ∧ HouseIs A.C_House v H (n : Int) gs ∧ SqL K H p (xs.map V.int) ∧ (∀ e, (rowAll n xs).head? = some e → WErrE A H E e) ∧ (rowAll n xs = [] → ∀ H', Ex H H' → Q .non H')
theorem ok_u_check_row (T : Txt K mg A) : FnOk P w K mg base (L2.CX P w) 5 A.f_u_check_row A.d_u_check_row (["house", "row"] : List Str) (spChkRow K A) := by
  refine T.F_u_check_row.okX sc_u_check_row (fun vs H Q E h => ?_) (fun cdv Ar outer s H vs Q E hr h => ?_)
  · obtain ⟨v, n, gs, p, xs, rfl, _⟩ := h
    rfl
  · obtain ⟨v, n, gs, p, xs, rfl, hv, hp, k1, k2⟩ := h
    refine ⟨_, (pss_cons (ps_if (pt_cmpR op_ne (pe_callB len_K (by rfl) T.z_len (by decide +kernel) (pa_cons (pv 1) pa_nil)) (pe_fldK (pv 0) rfl) (nomark _)) (pss_one (ps_raise rfl (takes_of rfl rfl rfl rfl) (pmk_oex T.ox_WrongLength T.ni_WrongLength T.ti_WrongLength (ok_WrongLength_init T) (hr.mono (by omega)) (b_WrongLength_init T) .nil pass0 rfl T.g_WrongLength (pa_cons (pe_callB len_K (by rfl) T.z_len (by decide +kernel) (pa_cons (pv 1) pa_nil)) pa_nil)))) pss_nil)
        (pss_one (ps_for (passes_of rfl) rfl (pi_listK (pv 1)) (pg_name (i := 2) sc_u_check_row.nd rfl (Or.inl rfl)) (pss_one (ps_if (PW.pt (pw_or (pt_cmpR op_lt (pv 2) pe_int (nomark _)) (pw_or1 (pt_cmpR op_gt (pv 2) (ClX.pe_cval (pe_glob (v := .ref A.C_Watch) rfl T.g_Watch rfl)) (nomark _))))) (pss_one (ps_raise rfl (takes_of rfl rfl rfl rfl) (pmk_oex T.ox_BadNumber T.ni_BadNumber T.ti_BadNumber (ok_BadNumber_init T) (hr.mono (by omega)) (b_BadNumber_init T) .nil pass0 rfl T.g_BadNumber (pa_cons pe_str (pa_cons (pv 2) pa_nil))))) pss_nil))))), ?_⟩
    obtain ⟨mc, rdW, ⟨t1, c1⟩⟩ := T.rd_Watch
    obtain ⟨a, dx, p1, q1, rfl, h1, _⟩ := id hv
    try dsimp only
    refine q_when (b := !decide ((xs.length : Int) = (n : Int))) (et_test (ev_is (ev_op (ev_cb (r := rLenK K) (ea_cons (ev_var (i := 1) rfl) ea_nil) fun H2 e2 Q q => ⟨.ref p, xs.length, rfl, .inl ⟨_, ex_l e2 hp, (List.length_map _).symm⟩, q H2 (Ex.refl H2)⟩) (ev_hhours (ev_var (i := 0) rfl) h1 T.cl_House T.na_House_hours) (rv_ne rfl)) (by rw [dec_ii]))) (fun hb H1 e1 => ?_) (fun hb H1 e1 => ?_)
    · have hb : ¬ ((xs.length : Int) = (n : Int)) := by simpa using hb
      have hb : ¬ xs.length = n := by omega
      refine raise1 (C := A.C_WrongLength) (f := "length") (x := .int (xs.length : Int)) T.ox_WrongLength (fun Q q => ?_) (fun d H' e' hd => k1 (.wlen xs.length) (by unfold rowAll; rw [if_neg hb]; rfl) d H' (e1.trans e') hd)
      exact ⟨_, rfl, .ref p, xs.length, rfl, .inl ⟨_, ex_l e1 hp, (List.length_map _).symm⟩, q⟩
    have hb : (xs.length : Int) = (n : Int) := by simpa using hb
    have hb : xs.length = n := by omega
    try dsimp only
    refine s_forLn (K := K) (a := p) (xs := xs.map V.int) (j := 2) (ev_var (i := 1) rfl) (ex_l e1 hp) (fun i σ' G => ∃ v2 : Option V, σ' = [some (.ref a), some (.ref p), v2] ∧ Ex H G ∧ ∀ y ∈ xs.take i, badStr y = false) (fun H2 e2 => ⟨_, rfl, e1.trans e2, fun y hy => by cases hy⟩) (fun i σ' G _ ⟨_, _, e, _⟩ => ex_l e hp) ?_ ?_
    · rintro i y σ' G hy ⟨v2, rfl, eG, hall⟩
      obtain ⟨m, rfl, hm⟩ := some_int hy
      have hi : i < xs.length := (List.getElem?_eq_some_iff.mp hm).1
      have htk : xs.take (i + 1) = xs.take i ++ [m] := by
        rw [List.take_succ_eq_append_getElem hi]
        rw [List.getElem?_eq_getElem hi] at hm
        rw [Option.some.inj hm]
      have eqb : (decide (m < 0) || decide (m > 96)) = badStr m := by
        unfold badStr
        rw [Bool.eq_iff_iff]
        simp
      try dsimp only
      refine s_when (b := decide (m < 0) || decide (m > 96)) (et_or (et_test (ev_op (ev_var (i := 2) rfl) ev_c rv_I0)) fun _ => et_test (ev_op (ev_var (i := 2) rfl) (fun H1 e Q q => ⟨A.C_Watch, mc, _, _, rfl, rdW, c1, q H1 (Ex.refl H1)⟩) rv_I0)) (fun hbad G1 g1 => ?_) (fun hbad G1 g1 => ⟨_, rfl, eG.trans g1, fun y hy => ?_⟩)
      all_goals rw [eqb] at hbad
      · refine raise2 (C := A.C_BadNumber) (f := "name") (g := "value") (x := .str "strength") (y := .int m) T.ox_BadNumber (fun Q q => ⟨_, rfl, q⟩) (fun d H' e' hd => k1 (.str m) ?_ d H' ((eG.trans g1).trans e') hd)
        unfold rowAll
        rw [if_pos hb, List.nil_append, List.head?_map, ← List.take_append_drop (i + 1) xs, htk, List.filter_append, List.filter_append, List.filter_eq_nil_iff.mpr fun y hy => by rw [hall y hy]; simp]
        simp [hbad]
      · rw [htk] at hy
        rcases List.mem_append.mp hy with h | h
        · exact hall y h
        · rw [List.mem_singleton.mp h]; exact hbad
    rintro σ' G ⟨v2, rfl, eG, hall⟩
    rw [List.length_map, List.take_length] at hall
    refine k2 ?_ G eG
    unfold rowAll
    rw [if_pos hb, List.nil_append, List.map_eq_nil_iff, List.filter_eq_nil_iff]
    exact fun y hy => by rw [hall y hy]; simp
theorem putW {y z : V} : putF "_rows" z (putF "house" y []) = watF y z := by
  have h1 : ¬ ("house" : Str) = "_rows" := by decide +kernel
  show (if ("house" : Str) = "_rows" then _ else (("house" : Str), y) :: putF "_rows" z []) = _
  rw [if_neg h1]
  rfl
def spWatch (K : PySem.W.Frag) (A : Ads) : Sp := fun vs H Q E => ∃ (x dx : Addr) (v : V) (p : Addr) (n : Nat) (gs : List (Str × Int)) (xss : List (List Int)), vs = [.ref x, v, .ref p] ∧ H x = some (.ins A.C_Watch dx []) ∧ HouseIs A.C_House v H (n : Int) gs ∧ gs.length ≤ 100 ∧ RowsL K H p xss ∧ (∀ e, watchErr n gs.length xss = some e → WErrE A H E e) ∧
  (watchErr n gs.length xss = none → ∀ w H', (∀ b o, b ≠ x → H b = some o → H' b = some o) → (∀ G : Hp, (∀ b o, b ≠ x → H b = none → H' b = some o → G b = some o) → RowsU w G xss) → H' x = some (.ins A.C_Watch dx (watF v w)) → Q .non H')
theorem ok_Watch_init (T : Txt K mg A) : FnOk P w K mg base (L2.CX P w) 6 A.f_Watch_init A.d_Watch_init (["self", "house", "rows"] : List Str) (spWatch K A) := by
  refine T.F_Watch_init.okX sc_Watch_init (fun vs H Q E h => ?_) (fun cdv Ar outer s H vs Q E hr h => ?_)
  · obtain ⟨x, dx, v, p, n, gs, xss, rfl, _⟩ := h
    rfl
  · obtain ⟨x, dx, v, p, n, gs, xss, rfl, hx, hv, hl, hR, kE, k⟩ := h
    refine ⟨_, (pss_cons (ps_if (pt_cmpR op_ne (pe_callB len_K (by rfl) T.z_len (by decide +kernel) (pa_cons (pv 2) pa_nil)) (pe_callB (call_lenO (E := E0) T.M_House_len (ok_House_len T) (hr.mono (by omega)) (b_House_len T) (pAt pass0)) (by rfl) T.z_len (by decide +kernel) (pa_cons (pv 1) pa_nil)) (nomark _)) (pss_one (ps_raise rfl (takes_of rfl rfl rfl rfl) (pmk_oex T.ox_WrongLength T.ni_WrongLength T.ti_WrongLength (ok_WrongLength_init T) (hr.mono (by omega)) (b_WrongLength_init T) .nil pass0 rfl T.g_WrongLength (pa_cons (pe_callB len_K (by rfl) T.z_len (by decide +kernel) (pa_cons (pv 2) pa_nil)) pa_nil)))) pss_nil)
        (pss_cons (ps_for (passes_of rfl) rfl (pi_listK (pv 2)) (pg_name (i := 3) sc_Watch_init.nd rfl (Or.inl rfl)) (pss_one (ps_expr (pe_call (ok_u_check_row T) (hr.mono (by omega)) rfl T.g_u_check_row T.k_u_check_row (b_u_check_row T) .nil (passes_call (takes_of rfl rfl rfl rfl) (fun _ _ _ _ h => h)) (pa_cons (pv 1) (pa_cons (pv 3) pa_nil))))))
        (pss_cons (ps_fld (pv 0) (pv 1) rfl)
        (pss_one (ps_fld (pv 0) (pe_callTy tup_K (by rfl) T.z_tuple (by decide +kernel) (pa_cons (pe_lc (own := [("row", 3)]) (g := gName 3) (tt := tYes) rfl sc_Watch_init.nd (pi_listK (pv 2)) (blkOk_by (own := [("row", 3)]) (N := N_Watch_init) (sc := defScope s_Watch_init) (by decide +kernel)) (fun _ _ _ _ _ => (pg_name (i := 3) sc_Watch_init.nd rfl (Or.inl rfl))) (fun _ _ _ _ _ => pts_nil) (fun _ _ _ _ _ => (pe_callTy tup_K (by rfl) T.z_tuple (by decide +kernel) (pa_cons (pv 3) pa_nil)))) pa_nil)) rfl))))), ?_⟩
    obtain ⟨vs, hvs, hvl, hall⟩ := hR.all
    try dsimp only
    refine q_when (b := !decide ((xss.length : Int) = (gs.length : Int))) (et_test (ev_is (ev_op (ev_cb (r := rLenK K) (ea_cons (ev_var (i := 2) rfl) ea_nil) fun H2 e2 Q q => ⟨.ref p, vs.length, rfl, .inl ⟨_, ex_l e2 hvs, rfl⟩, q H2 (Ex.refl H2)⟩) (ev_houseLen (ev_var (i := 1) rfl) hv hl) (rv_ne rfl)) (by rw [dec_ii, hvl]))) (fun hb H1 e1 => ?_) (fun hb H1 e1 => ?_)
    · have hb : ¬ ((xss.length : Int) = (gs.length : Int)) := by simpa using hb
      have hb : ¬ xss.length = gs.length := by omega
      refine raise1 (C := A.C_WrongLength) (f := "length") (x := .int (xss.length : Int)) T.ox_WrongLength (fun Q q => ?_) (fun d H' e' hd => kE (.wlen xss.length) (by unfold watchErr watchAll; rw [if_neg hb]; rfl) d H' (e1.trans e') hd)
      exact ⟨_, rfl, .ref p, xss.length, rfl, .inl ⟨_, ex_l e1 hvs, hvl.symm⟩, q⟩
    have hb : (xss.length : Int) = (gs.length : Int) := by simpa using hb
    have hb : xss.length = gs.length := by omega
    try dsimp only
    refine q_forLn (K := K) (a := p) (xs := vs) (j := 3) (ev_var (i := 2) rfl) (ex_l e1 hvs) (fun i σ' G => ∃ v3 : Option V, σ' = [some (.ref x), some v, some (.ref p), v3] ∧ Ex H G ∧ (xss.take i).flatMap (rowAll n) = []) (fun H2 e2 => ⟨_, rfl, e1.trans e2, rfl⟩) (fun i σ' G _ ⟨_, _, e, _⟩ => ex_l e hvs) ?_ ?_
    · rintro i y σ' G hy ⟨v3, rfl, eG, hfl⟩
      obtain ⟨t, rfl, ht⟩ := hall i y hy
      have hi : i < xss.length := by have := (List.getElem?_eq_some_iff.mp hy).1; omega
      have htk : xss.take (i + 1) = xss.take i ++ [xss.getD i []] := by
        rw [List.take_succ_eq_append_getElem hi, List.getD_eq_getElem?_getD, List.getElem?_eq_getElem hi]
        rfl
      try dsimp only
      refine ⟨_, rfl, _, rfl, v, n, gs, t, xss.getD i [], rfl, hv.ex eG, ex_l eG ht, fun er her => ?_, fun hok G1 g1 => ⟨_, rfl, eG.trans g1, ?_⟩⟩
      · refine (kE er ?_).ex eG
        unfold watchErr watchAll
        rw [if_pos hb, List.nil_append, ← List.take_append_drop (i + 1) xss, htk, List.flatMap_append, List.flatMap_append, hfl, List.nil_append, List.flatMap_cons, List.flatMap_nil, List.append_nil, List.head?_append, her]
        rfl
      · rw [htk, List.flatMap_append, hfl, List.flatMap_cons, hok]
        rfl
    rintro σ' G ⟨v3, rfl, eG, hfl⟩
    rw [hvl, List.take_length] at hfl
    have hnone : watchErr n gs.length xss = none := by
      unfold watchErr watchAll
      rw [if_pos hb, List.nil_append, hfl]
      rfl
    have hS := watch_good hnone
    have hln := hS.len
    replace k := k hnone
    have hxG := eG _ _ hx
    refine ⟨_, rfl, _, rfl, x, _, dx, [], rfl, hxG, T.cl_Watch, T.na_Watch_house, by decide, ?_⟩
    try dsimp only
    have hR2 : RowsL K (upd G x (.ins A.C_Watch dx (putF "house" v []))) p xss := (hR.ex eG).ins hxG
    obtain ⟨us, hus, hul, hua⟩ := hR2.all
    generalize hHx : upd G x (.ins A.C_Watch dx (putF "house" v [])) = Hx at *
    have lc := en_tupN (K := K) (en_lc (wi := iList K (tVar 2)) (g := gName 3) (te := tCB (rTupOf K) (tCons (tVar 3) tNil)) (σ := [some (.ref x), some v, some (.ref p), v3]) (H := Hx) (vs := [3]) (fun i w G => ∃ t, w = .ref t ∧ G t = some (.tup ((xss.getD i []).map V.int))) (ei_list (K := K) (eb_held (i := 2) rfl hus)) (by rw [hul, hln]; omega) bd_at (fun i _ => rfl) (fun i H2 hi e2 => by
      have e : us[i]? = some us[i] := List.getElem?_eq_getElem hi
      obtain ⟨t, ht, hT⟩ := hua i _ e
      rw [e, ht]
      exact en_tupL (ev_var (i := 3) rfl) (ex_l e2 hT)))
    refine lc Hx (Ex.refl _) _ fun w H8 e8 hw => ?_
    have hx8 : H8 x = some (.ins A.C_Watch dx (putF "house" v [])) := e8 _ _ (by rw [← hHx, upd_same])
    refine ⟨_, rfl, x, _, dx, _, rfl, hx8, T.cl_Watch, T.na_Watch_rows, by show 1 < 1000; decide, ?_⟩
    refine k w _ (fun b o hb ho => ?_) (fun F hF => ?_) ?_
    · rw [upd_ne hb]
      exact e8 _ _ (by rw [← hHx, upd_ne hb]; exact eG _ _ ho)
    · obtain ⟨q, ws, rfl, h1, h2, h3⟩ := hw F fun b o h1 h2 => by
        have hb : b ≠ x := fun z => by rw [z, ← hHx, upd_same] at h1; cases h1
        refine hF b o hb ?_ (by rw [upd_ne hb]; exact h2)
        rw [← hHx, upd_ne hb] at h1
        exact fresh_back eG h1
      exact ⟨q, ws, rfl, h1, by rw [h2, hul], h3⟩
    · rw [upd_same, putW]
theorem en_watch {K : PySem.W.Frag} {A : Ads} {E : XK} {σ : L2.St} {H : Hp} {t1 t2 : TE} {v : V} {n : Nat} {gs : List (Str × Int)} {xss : List (List Int)} (h1 : Ev t1 σ H v) (h2 : EvR t2 σ H fun v G => ∃ p, v = .ref p ∧ RowsL K G p xss) (hv : HouseIs A.C_House v H (n : Int) gs) (hl : gs.length ≤ 100) (hS : Shape (n : Int) gs.length xss) :
    EvNew (tMake A.C_Watch (spWatch K A) [] E (tCons t1 (tCons t2 tNil))) σ H fun w G => WatchIs A.C_Watch w G v xss := fun H1 e Q q =>
  h1 H1 e _ fun H2 e2 => h2 H2 (e.trans e2) _ fun w H3 e3 hw => by
    obtain ⟨p, rfl, hR⟩ := hw
    intro x dx hx hdx hne
    have eN : Ex H3 (upd (upd H3 dx (.own x)) x (.ins A.C_Watch dx [])) := (Ex.new hdx).trans (Ex.new (by rw [upd_ne (Ne.symm hne)]; exact hx))
    refine ⟨x, dx, v, p, n, gs, xss, rfl, upd_same, hv.ex (((e.trans e2).trans e3).trans eN), hl, hR.ex eN, (fun er he => by rw [good_watch hS] at he; cases he), fun _ w H' hk hU hx' => ⟨rfl, ?_⟩⟩
    have e' : Ex H3 H' := fun c o hc => hk c o (fun z => by rw [z, hx] at hc; cases hc) (eN c o hc)
    exact q _ H' ((e2.trans e3).trans e') fun G g => ⟨x, dx, w, rfl, g _ _ (fresh_back (e2.trans e3) hx) hx', hU G fun b o _ h1' h2' => g b o (fresh_back ((e2.trans e3).trans eN) h1') h2'⟩
structure WatchOk (K : PySem.W.Frag) (A : Ads) (v : V) (H : Hp) (h : V) (n : Nat) (gs : List (Str × Int)) (xss : List (List Int)) : Prop where
  w : WatchIs A.C_Watch v H h xss
  hs : HouseIs A.C_House h H (n : Int) gs
  gl : gs.length ≤ 100
  sh : Shape (n : Int) gs.length xss
  nb : 1 ≤ n ∧ n ≤ 1000
theorem WatchOk.ex {K : PySem.W.Frag} {A : Ads} {v h : V} {H H' : Hp} {n : Nat} {gs : List (Str × Int)} {xss : List (List Int)} (e : Ex H H') (q : WatchOk K A v H h n gs xss) : WatchOk K A v H' h n gs xss := ⟨q.w.ex e, q.hs.ex e, q.gl, q.sh, q.nb⟩
def zeroR (n m : Nat) : List (List Int) := List.replicate m (List.replicate n 0)
theorem zero_shape {n m : Nat} : Shape (n : Int) m (zeroR n m) := ⟨by simp [zeroR], fun xs hx => by
  rw [(List.mem_replicate.mp hx).2, List.length_replicate], fun xs hx y hy => by
  rw [(List.mem_replicate.mp hx).2] at hy
  rw [(List.mem_replicate.mp hy).2]
  decide⟩
def spEmpty (K : PySem.W.Frag) (A : Ads) : Sp := fun vs H Q _ => ∃ (v : V) (n : Nat) (gs : List (Str × Int)), vs = [.ref A.C_Watch, v] ∧ HouseIs A.C_House v H (n : Int) gs ∧ gs.length ≤ 100 ∧ (1 ≤ n ∧ n ≤ 1000) ∧ ∀ w H', Ex H H' → WatchOk K A w H' v n gs (zeroR n gs.length) → Q w H'
theorem ok_Watch_empty (T : Txt K mg A) : FnOk P w K mg base CX0 8 A.f_Watch_empty A.d_Watch_empty (["cls", "house"] : List Str) (spEmpty K A) := by
  refine T.F_Watch_empty.ok sc_Watch_empty (fun vs H Q E h => ?_) (fun cdv Ar outer s H vs Q E hr h => ?_)
  · obtain ⟨v, n, gs, rfl, _⟩ := h
    rfl
  · obtain ⟨v, n, gs, rfl, hv, hl, hn, k⟩ := h
    refine ⟨_, (pss_one (ps_ret (pe_makeV (i := 0) T.mk_Watch (ok_Watch_init T) (hr.mono (by omega)) rfl (Or.inl rfl) (b_Watch_init T) .nil passL (pa_cons (pv 1) (pa_cons (pe_lc (own := [("_", 2)]) (g := gName 2) (tt := tYes) rfl sc_Watch_empty.nd (pi_tup (pe_fldK (pv 1) rfl)) (blkOk_by (own := [("_", 2)]) (N := N_Watch_empty) (sc := defScope s_Watch_empty) (by decide +kernel)) (fun _ _ _ _ _ => (pg_name (i := 2) sc_Watch_empty.nd rfl (Or.inl rfl))) (fun _ _ _ _ _ => pts_nil) (fun _ _ _ _ _ => (pe_op op_rep (pe_lst (pa_cons pe_int pa_nil)) (pe_fldK (pv 1) rfl)))) pa_nil))))), ?_⟩
    obtain ⟨a, dx, p, q, rfl, h1, h2, _⟩ := id hv
    try dsimp only
    refine ⟨rfl, ?_⟩
    refine (en_watch (K := K) (A := A) (n := n) (gs := gs) (xss := zeroR n gs.length) (ev_var (i := 1) rfl) (EvR.imp (en_lc (fun i w G => ∃ t, w = .ref t ∧ G t = some (.lst ((List.replicate n (0 : Int)).map V.int))) (ei_tup (K := K) (eb_ev (ev_hnames (ev_var (i := 1) rfl) h1 T.cl_House T.na_House_names) fun G e => ⟨p, rfl, st_of (e _ _ h2)⟩)) (by rw [List.length_map, List.length_map]; omega) bd_at (fun i _ => rfl) (fun i H2 hi e2 => en_L (el_isW (el_rep (z := 0) (k := (n : Int)) ev_c (ev_hhours (ev_var (i := 1) rfl) (e2 _ _ h1) T.cl_House T.na_House_hours) (by omega)) (by rw [Int.toNat_natCast])))).er fun w G hw => ?_) hv hl zero_shape).er H (Ex.refl H) _ fun w H1 e1 hw => k w H1 e1 ⟨hw, hv.ex e1, hl, zero_shape, hn⟩
    obtain ⟨r, ws, rfl, g1, g2, g3⟩ := hw
    rw [List.length_map, List.length_map] at g2
    refine ⟨r, rfl, ws, sq_of g1, by rw [g2]; simp [zeroR], fun i v hv => ?_⟩
    obtain ⟨t, rfl, ht⟩ := g3 i v hv
    have hi : i < gs.length := by have := (List.getElem?_eq_some_iff.mp hv).1; omega
    refine ⟨t, rfl, ?_⟩
    unfold zeroR
    rw [List.getD_eq_getElem?_getD, List.getElem?_replicate, if_pos hi]
    exact sq_of ht
theorem ev_has {A : Ads} {ty tv : TE} {σ : L2.St} {H : Hp} {v : V} {z n : Int} {xs : List Int} (hy : Ev ty σ H (.int z)) (hv : Ev tv σ H v) (hL : LotIs A.C_Lot v H n xs) : Ev (tOpS (rOwnIn A.C_Lot (spLotHas A) fun _ => E0) ty tv) σ H (.bl (decide (z % n ∈ xs))) := fun H1 e Q q =>
  hy H1 e _ fun H2 e2 => hv H2 (e.trans e2) _ fun H3 e3 => by
    have h3 := hL.ex ((e.trans e2).trans e3)
    obtain ⟨a, dx, l, rfl, h1, _⟩ := id h3.at_
    exact ⟨a, dx, _, rfl, h1, .ref a, z, n, xs, rfl, h3, fun H' e' => ⟨_, rfl, q H' ((e2.trans e3).trans e')⟩⟩
theorem rows_of {K : PySem.W.Frag} {G : Hp} {n : Nat} {xss : List (List Int)} {v : V} (h : ListP n (fun i w G => ∃ t, w = .ref t ∧ G t = some (.lst ((xss.getD i []).map V.int))) v G) (hn : n = xss.length) : ∃ p, v = .ref p ∧ RowsL K G p xss := by
  obtain ⟨p, ws, rfl, g1, g2, g3⟩ := h
  exact ⟨p, rfl, ws, sq_of g1, g2.trans hn, fun i v hv => (g3 i v hv).imp fun t ht => ⟨ht.1, sq_of ht.2⟩⟩
structure LotsL (K : PySem.W.Frag) (A : Ads) (H : Hp) (p : Addr) (ls : List (Int × List Int)) : Prop where
  all : ∃ vs : List V, SqL K H p vs ∧ vs.length = ls.length ∧ ∀ (i : Nat) v l, vs[i]? = some v → ls[i]? = some l → LotIs A.C_Lot v H l.1 l.2
theorem LotsL.ex {K : PySem.W.Frag} {A : Ads} {H H' : Hp} {p : Addr} {ls : List (Int × List Int)} (e : Ex H H') (h : LotsL K A H p ls) : LotsL K A H' p ls := by
  obtain ⟨vs, h1, h2, h3⟩ := h.all
  exact ⟨vs, ex_l e h1, h2, fun i v l hv hl => (h3 i v l hv hl).ex e⟩
def rowOf (n : Nat) (xs : List Int) : List Int := (List.range n).map fun h : Nat => if (h : Int) ∈ xs then 1 else 0
def spOfLots (K : PySem.W.Frag) (A : Ads) : Sp := fun vs H Q E => ∃ (v : V) (p : Addr) (n : Nat) (gs : List (Str × Int)) (ls : List (Int × List Int)), vs = [.ref A.C_Watch, v, .ref p] ∧ HouseIs A.C_House v H (n : Int) gs ∧ gs.length ≤ 100 ∧ (1 ≤ n ∧ n ≤ 360) ∧ LotsL K A H p ls ∧
  (ls.length ≠ gs.length → ∀ d H', Ex H H' → H' d = some (.xd [("length", .int (ls.length : Int))]) → E (.ref A.C_WrongLength) (some d) H') ∧
  (ls.length = gs.length → (∃ l ∈ ls, l.1 ≠ (n : Int)) → ∀ H', Ex H H' → E (.ref A.C_OtherHours) none H') ∧
  (ls.length = gs.length → (∀ l ∈ ls, l.1 = (n : Int)) → ∀ w H', Ex H H' → WatchOk K A w H' v n gs (ls.map fun l => rowOf n l.2) → Q w H')
theorem ok_Watch_of_lots (T : Txt K mg A) : FnOk P w K mg base (L2.CX P w) 9 A.f_Watch_of_lots A.d_Watch_of_lots (["cls", "house", "lots"] : List Str) (spOfLots K A) := by
  refine T.F_Watch_of_lots.okX sc_Watch_of_lots (fun vs H Q E h => ?_) (fun cdv Ar outer s H vs Q E hr h => ?_)
  · obtain ⟨v, p, n, gs, ls, rfl, _⟩ := h
    rfl
  · obtain ⟨v, p, n, gs, ls, rfl, hv, hl, hn, hL, k1, k2, k3⟩ := h
    refine ⟨_, (pss_cons (ps_if (pt_cmpR op_ne (pe_callB len_K (by rfl) T.z_len (by decide +kernel) (pa_cons (pv 2) pa_nil)) (pe_callB (call_lenO (E := E0) T.M_House_len (ok_House_len T) (hr.mono (by omega)) (b_House_len T) (pAt pass0)) (by rfl) T.z_len (by decide +kernel) (pa_cons (pv 1) pa_nil)) (nomark _)) (pss_one (ps_raise rfl (takes_of rfl rfl rfl rfl) (pmk_oex T.ox_WrongLength T.ni_WrongLength T.ti_WrongLength (ok_WrongLength_init T) (hr.mono (by omega)) (b_WrongLength_init T) .nil pass0 rfl T.g_WrongLength (pa_cons (pe_callB len_K (by rfl) T.z_len (by decide +kernel) (pa_cons (pv 2) pa_nil)) pa_nil)))) pss_nil)
        (pss_cons (ps_for (passes_of rfl) rfl (pi_listK (pv 2)) (pg_name (i := 3) sc_Watch_of_lots.nd rfl (Or.inl rfl)) (pss_one (ps_if (pt_cmpR op_ne (pe_fldK (pv 3) rfl) (pe_fldK (pv 1) rfl) (nomark _)) (pss_one (ps_raise rfl (takes_of rfl rfl rfl rfl) (pmk_none PySem.F.excBase_ValueError T.xP_OtherHours T.g_OtherHours T.kP_OtherHours (raises_own T.bP_OtherHours T.tP_OtherHours) rfl))) pss_nil)))
        (pss_one (ps_ret (pe_makeV (i := 0) T.mk_Watch (ok_Watch_init T) (hr.mono (by omega)) rfl (Or.inl rfl) (b_Watch_init T) .nil (passes_call (takes_of rfl rfl rfl rfl) (fun _ _ _ _ h => h)) (pa_cons (pv 1) (pa_cons (pe_lc (own := [("lot", 3)]) (g := gName 3) (tt := tYes) rfl sc_Watch_of_lots.nd (pi_listK (pv 2)) (blkOk_by (own := [("lot", 3)]) (N := N_Watch_of_lots) (sc := defScope s_Watch_of_lots) (by decide +kernel)) (fun _ _ _ _ _ => (pg_name (i := 3) sc_Watch_of_lots.nd rfl (Or.inr rfl))) (fun _ _ _ _ _ => pts_nil) (fun _ _ _ _ _ => (pe_lc (own := [("hour", 4)]) (g := gName 4) (tt := tYes) rfl sc_Watch_of_lots.nd (pi_range1 rfl T.z_range (pa_cons (pe_fldK (pv 1) rfl) pa_nil)) (by dsimp only [cxOf, Cx.nox, Cx.blk, compEnvC]; show BlkOk _ (relS _ (defScope s_Watch_of_lots)) _ _; exact blkOk_by (own := [("hour", 4)]) (N := N_Watch_of_lots) (by decide +kernel)) (fun _ _ _ _ _ => (pg_name (i := 4) sc_Watch_of_lots.nd rfl (Or.inl rfl))) (fun _ _ _ _ _ => pts_nil) (fun _ _ _ _ _ => (pe_callTy call_int1 (by rfl) T.z_int (by decide +kernel) (pa_cons (pe_cmpS (op_ownIn (E := fun _ => E0) T.M_Lot_contains (ok_Lot_contains T) (hr.mono (by omega)) (b_Lot_contains T) (pAt pass0)) (pv 4) (pv 3) (by with_unfolding_all rfl)) pa_nil)))))) pa_nil))))))), ?_⟩
    obtain ⟨vs, hvs, hvl, hall⟩ := hL.all
    obtain ⟨a3, dx3, p3, q3, rfl, h5, _⟩ := id hv
    have lot_at : ∀ {i : Nat} {y : V}, vs[i]? = some y → ∃ l, ls[i]? = some l ∧ l ∈ ls ∧ LotIs A.C_Lot y H l.1 l.2 := fun {i y} hy => by
      have hi : i < ls.length := by have := (List.getElem?_eq_some_iff.mp hy).1; omega
      have e : ls[i]? = some ls[i] := List.getElem?_eq_getElem hi
      exact ⟨ls[i], e, List.getElem_mem hi, hall i y _ hy e⟩
    try dsimp only
    refine q_when (b := !decide ((ls.length : Int) = (gs.length : Int))) (et_test (ev_is (ev_op (ev_cb (r := rLenK K) (ea_cons (ev_var (i := 2) rfl) ea_nil) fun H2 e2 Q q => ⟨.ref p, vs.length, rfl, .inl ⟨_, ex_l e2 hvs, rfl⟩, q H2 (Ex.refl H2)⟩) (ev_houseLen (ev_var (i := 1) rfl) hv hl) (rv_ne rfl)) (by rw [dec_ii, hvl]))) (fun hb H1 e1 => ?_) (fun hb H1 e1 => ?_)
    · have hb : ¬ ((ls.length : Int) = (gs.length : Int)) := by simpa using hb
      refine raise1 (C := A.C_WrongLength) (f := "length") (x := .int (ls.length : Int)) T.ox_WrongLength (fun Q q => ?_) (fun d H' e' hd => k1 (by omega) d H' (e1.trans e') hd)
      exact ⟨_, rfl, .ref p, ls.length, rfl, .inl ⟨_, ex_l e1 hvs, hvl.symm⟩, q⟩
    have hb : (ls.length : Int) = (gs.length : Int) := by simpa using hb
    have hb : ls.length = gs.length := by omega
    try dsimp only
    refine q_forLn (K := K) (a := p) (xs := vs) (j := 3) (ev_var (i := 2) rfl) (ex_l e1 hvs) (fun i σ' G => ∃ v3 : Option V, σ' = [some (.ref A.C_Watch), some (.ref a3), some (.ref p), v3, none] ∧ Ex H G ∧ ∀ l ∈ ls.take i, l.1 = (n : Int)) (fun H2 e2 => ⟨_, rfl, e1.trans e2, fun l hl => by cases hl⟩) (fun i σ' G _ ⟨_, _, e, _⟩ => ex_l e hvs) ?_ ?_
    · rintro i y σ' G hy ⟨v3, rfl, eG, hfl⟩
      obtain ⟨l, hli, hlm, hLi⟩ := lot_at hy
      obtain ⟨la, ldx, lm, rfl, z1, _⟩ := id (hLi.ex eG).at_
      have hi : i < ls.length := (List.getElem?_eq_some_iff.mp hli).1
      have htk : ls.take (i + 1) = ls.take i ++ [l] := by
        rw [List.take_succ_eq_append_getElem hi]
        rw [List.getElem?_eq_getElem hi] at hli
        rw [Option.some.inj hli]
      try dsimp only
      refine s_when (b := !decide (l.1 = (n : Int))) (et_test (ev_is (ev_op (ev_hours (K := K) (ev_var (i := 3) rfl) z1 T.cl_Lot T.na_Lot_hours) (ev_hhours (ev_var (i := 1) rfl) (eG _ _ h5) T.cl_House T.na_House_hours) (rv_ne rfl)) (by rw [dec_ii]))) (fun hne G1 g1 => k2 hb ⟨l, hlm, by simpa using hne⟩ G1 (eG.trans g1)) (fun hne G1 g1 => ⟨_, rfl, eG.trans g1, fun x hx => ?_⟩)
      rw [htk] at hx
      rcases List.mem_append.mp hx with h | h
      · exact hfl x h
      · rw [List.mem_singleton.mp h]; simpa using hne
    rintro σ' G ⟨v3, rfl, eG, hfl⟩
    rw [hvl, List.take_length] at hfl
    have sh : Shape (n : Int) gs.length (ls.map fun l => rowOf n l.2) := ⟨by rw [List.length_map, hb], fun xs hx => by
      obtain ⟨l, _, rfl⟩ := List.mem_map.mp hx
      simp [rowOf], fun xs hx y hy => by
      obtain ⟨l, _, rfl⟩ := List.mem_map.mp hx
      obtain ⟨h, _, rfl⟩ := List.mem_map.mp hy
      split <;> omega⟩
    try dsimp only
    refine ⟨rfl, ?_⟩
    refine (en_watch (K := K) (A := A) (n := n) (gs := gs) (xss := ls.map fun l => rowOf n l.2) (ev_var (i := 1) rfl) (EvR.imp (en_lc (fun i w G => ∃ t, w = .ref t ∧ G t = some (.lst (((ls.map fun l => rowOf n l.2).getD i []).map V.int))) (ei_list (K := K) (eb_ev (ev_var (i := 2) rfl) fun G' e => ⟨p, rfl, ex_l (eG.trans e) hvs⟩)) (by omega) bd_at (fun i _ => rfl) (fun i H2 hi e2 => ?_)).er fun w G hw => rows_of hw (by rw [List.length_map, hvl])) (hv.ex eG) hl sh).er G (Ex.refl G) _ fun w H1 e1 hw => k3 hb hfl w H1 (eG.trans e1) ⟨hw, hv.ex (eG.trans e1), hl, sh, by omega⟩
    have vi : vs[i]? = some vs[i] := List.getElem?_eq_getElem hi
    obtain ⟨l, hli, hlm, hLi⟩ := lot_at vi
    have hl1 := hfl l hlm
    have er : (ls.map fun l => rowOf n l.2).getD i [] = rowOf n l.2 := by rw [List.getD_eq_getElem?_getD, List.getElem?_map, hli]; rfl
    rw [vi, er]
    generalize vs[i] = y at *
    refine en_L (el_isW (el_rngY (n := n) (fun h => V.int (if (h : Int) ∈ l.2 then 1 else 0)) (ea_cons (ev_hhours (ev_var (i := 1) rfl) ((eG.trans e2) _ _ h5) T.cl_House T.na_House_hours) ea_nil) (by omega) (fun x => rfl) fun j H3 hj e3 => ev_is (ev_cb (ea_cons (ev_has (A := A) (ev_var (i := 4) rfl) (ev_var (i := 3) rfl) (hLi.ex ((eG.trans e2).trans e3))) ea_nil) fun G e Q q => .inr ⟨_, rfl, q G (Ex.refl G)⟩) ?_) (by unfold rowOf; rw [List.map_map]; rfl))
    rw [hl1, Int.emod_eq_of_lt (by omega) (by omega)]
    by_cases c : (j : Int) ∈ l.2
    · rw [if_pos c, decide_eq_true c]; rfl
    · rw [if_neg c, decide_eq_false c]; rfl
/-- a list of lists of ints that were all made since -/
def FreshR (H0 G : Hp) (p : Addr) (yss : List (List Int)) : Prop := H0 p = none ∧ ∃ vs : List V, G p = some (.lst vs) ∧ vs.length = yss.length ∧ ∀ (i : Nat) v, vs[i]? = some v → ∃ t, v = .ref t ∧ H0 t = none ∧ G t = some (.lst ((yss.getD i []).map V.int))
theorem FreshR.ex {H0 G G' : Hp} {p : Addr} {yss : List (List Int)} (h : FreshR H0 G p yss) (e : Ex G G') : FreshR H0 G' p yss := by
  obtain ⟨h0, vs, h1, h2, h3⟩ := h
  exact ⟨h0, vs, e _ _ h1, h2, fun i v hv => (h3 i v hv).imp fun t ht => ⟨ht.1, ht.2.1, e _ _ ht.2.2⟩⟩
theorem FreshR.below {H0 H1 G : Hp} {p : Addr} {yss : List (List Int)} (h : FreshR H1 G p yss) (e : Ex H0 H1) : FreshR H0 G p yss := by
  obtain ⟨h0, vs, h1, h2, h3⟩ := h
  exact ⟨fresh_back e h0, vs, h1, h2, fun i v hv => (h3 i v hv).imp fun t ht => ⟨ht.1, fresh_back e ht.2.1, ht.2.2⟩⟩
theorem FreshR.rows {K : PySem.W.Frag} {H0 G : Hp} {p : Addr} {yss : List (List Int)} (h : FreshR H0 G p yss) : RowsL K G p yss := by
  obtain ⟨h0, vs, h1, h2, h3⟩ := h
  exact ⟨vs, sq_of h1, h2, fun i v hv => (h3 i v hv).imp fun t ht => ⟨ht.1, sq_of ht.2.2⟩⟩
theorem fresh_rows {H H1 : Hp} {v : V} {n : Nat} {yss : List (List Int)} (h : NewP (fun G => ListP n (fun i w G => ∃ t, w = .ref t ∧ G t = some (.lst ((yss.getD i []).map V.int))) v G) H H1) (hn : yss.length = n) : ∃ p, v = .ref p ∧ FreshR H H1 p yss := by
  obtain ⟨p, vs, rfl, h1, h2, h3⟩ := h (fun b => match H b with | none => H1 b | some _ => none) (fun b o z1 z2 => by simp only [z1, z2])
  have back : ∀ {b : Addr} {o : HO}, (match H b with | none => H1 b | some _ => none) = some o → H b = none ∧ H1 b = some o := fun {b o} z => by
    cases q : H b with
    | none => rw [q] at z; exact ⟨rfl, z⟩
    | some o' => rw [q] at z; cases z
  obtain ⟨p1, p2⟩ := back h1
  exact ⟨p, rfl, p1, vs, p2, h2.trans hn.symm, fun i v hv => by
    obtain ⟨t, ht, hT⟩ := h3 i v hv
    exact ⟨t, ht, back hT⟩⟩
def spRows (K : PySem.W.Frag) (A : Ads) : Sp := fun vs H Q _ => ∃ (v h : V) (xss : List (List Int)), vs = [v] ∧ WatchIs A.C_Watch v H h xss ∧ xss.length ≤ 100 ∧ ∀ p H', Ex H H' → FreshR H H' p xss → Q (.ref p) H'
theorem ok_Watch_rows (T : Txt K mg A) : FnOk P w K mg base CX0 1 A.f_Watch_rows A.d_Watch_rows (["self"] : List Str) (spRows K A) := by
  refine T.F_Watch_rows.ok sc_Watch_rows (fun vs H Q E h => ?_) (fun cdv Ar outer s H vs Q E hr h => ?_)
  · obtain ⟨v, h, xss, rfl, _⟩ := h
    rfl
  · obtain ⟨v, h, xss, rfl, ⟨a, dx, w, rfl, h1, p, vs, rfl, h2, h3, h4⟩, hl, k⟩ := h
    refine ⟨_, (pss_one (ps_ret (pe_lc (own := [("row", 1)]) (g := gName 1) (tt := tYes) rfl sc_Watch_rows.nd (pi_tup (pe_fldK (pv 0) rfl)) (blkOk_by (own := [("row", 1)]) (N := N_Watch_rows) (sc := defScope s_Watch_rows) (by decide +kernel)) (fun _ _ _ _ _ => (pg_name (i := 1) sc_Watch_rows.nd rfl (Or.inl rfl))) (fun _ _ _ _ _ => pts_nil) (fun _ _ _ _ _ => (pe_callTy list_K (by rfl) T.z_list (by decide +kernel) (pa_cons (pv 1) pa_nil)))))), ?_⟩
    try dsimp only
    have lc := en_lc (wi := iTup K (tFld K (tVar 0) "_rows")) (g := gName 1) (te := tCB (rListK K) (tCons (tVar 1) tNil)) (σ := [some (.ref a), none]) (H := H) (vs := [1]) (fun i w G => ∃ t, w = .ref t ∧ G t = some (.lst ((xss.getD i []).map V.int))) (ei_tup (K := K) (eb_ev (ev_wrows (ev_var (i := 0) rfl) h1 T.cl_Watch T.na_Watch_rows) fun G e => ⟨p, rfl, st_of (e _ _ h2)⟩)) (by rw [h3]; omega) bd_at (fun i _ => rfl) (fun i H2 hi e2 => by
      have e : vs[i]? = some vs[i] := List.getElem?_eq_getElem hi
      obtain ⟨t, ht, hT⟩ := h4 i _ e
      rw [e, ht]
      exact en_copyT (ev_var (i := 1) rfl) (st_of (e2 _ _ hT)))
    refine lc H (Ex.refl _) _ fun w H1 e1 hw => ?_
    obtain ⟨p, rfl, hF⟩ := fresh_rows hw (show xss.length = vs.length by omega)
    exact k p H1 e1 hF
def spGetE (K : PySem.W.Frag) (A : Ads) : Sp := fun vs H Q E => ∃ (v h : V) (p : Addr) (n : Nat) (g hr : Int) (gs : List (Str × Int)) (xss : List (List Int)), vs = [v, .ref p] ∧ WatchOk K A v H h n gs xss ∧ SqT K H p [.int g, .int hr] ∧
  (¬ (0 ≤ g ∧ g < (gs.length : Int)) → ∀ H', Ex H H' → E (.ref A.C_NoPlace) none H') ∧ (0 ≤ g ∧ g < (gs.length : Int) → ∀ H', Ex H H' → Q (.int (watVal xss (n : Int) g hr)) H')
theorem ok_Watch_getitem (T : Txt K mg A) : FnOk P w K mg base (L2.CX P w) 5 A.f_Watch_getitem A.d_Watch_getitem (["self", "at"] : List Str) (spGetE K A) := by
  refine T.F_Watch_getitem.okX sc_Watch_getitem (fun vs H Q E h => ?_) (fun cdv Ar outer s H vs Q E hr h => ?_)
  · obtain ⟨v, h, p, n, g, hr, gs, xss, rfl, _⟩ := h
    rfl
  · obtain ⟨v, h, p, n, g, hh, gs, xss, rfl, W, hp, k1, k2⟩ := h
    refine ⟨_, (pss_cons (ps_asg (pv 1) (pg_tup rfl (pgs_cons (pg_name (i := 2) sc_Watch_getitem.nd rfl (Or.inl rfl)) (pgs_cons (pg_name (i := 3) sc_Watch_getitem.nd rfl (Or.inl rfl)) pgs_nil))))
        (pss_cons (ps_if (pt_not (pt_val (pe_call (ok_is_gate T) (hr.mono (by omega)) rfl T.g_is_gate T.k_is_gate (b_is_gate T) .nil pass0 (pa_cons (pe_fldK (pv 0) rfl) (pa_cons (pv 2) pa_nil))))) (pss_one (ps_raise rfl (takes_of rfl rfl rfl rfl) (pmk_none PySem.F.excBase_ValueError T.xP_NoPlace T.g_NoPlace T.kP_NoPlace (raises_own T.bP_NoPlace T.tP_NoPlace) rfl))) pss_nil)
        (pss_one (ps_ret (pe_ix ix_tK (pe_ix ix_tK (pe_fldK (pv 0) rfl) (pv 2) (fun _ _ => rfl)) (pe_op op_mod (pv 3) (pe_fldK (pe_fldK (pv 0) rfl) rfl)) (fun _ _ => rfl)))))), ?_⟩
    obtain ⟨a, dx, w, rfl, h1, p2, vs, rfl, h2, h3, h4⟩ := id W.w
    obtain ⟨a3, dx3, p3, q3, rfl, h5, _⟩ := id W.hs
    have hln := W.sh.len
    have nb := W.nb
    have gl := W.gl
    try dsimp only
    refine ⟨_, rfl, p, _, rfl, hp, rfl, .int g, _, rfl, .int hh, _, rfl, rfl, ?_⟩
    have house : ∀ {G : Hp}, Ex H G → Ev (tFld K (tVar 0) "house") [some (.ref a), some (.ref p), some (.int g), some (.int hh)] G (.ref a3) := fun e => ev_whouse (ev_var (i := 0) rfl) (e _ _ h1) T.cl_Watch T.na_Watch_house
    try dsimp only
    refine q_when (b := !decide (0 ≤ g ∧ g < (gs.length : Int))) (et_not (et_B (ev_call (z := .bl (decide (0 ≤ g ∧ g < (gs.length : Int)))) (ea_cons (house (Ex.refl _)) (ea_cons (ev_var (i := 2) rfl) ea_nil)) fun H1 e Q q _ => ⟨.ref a3, n, g, gs, rfl, W.hs.ex e, gl, fun H' e' => q H' e'⟩))) (fun hb H1 e1 => k1 (fun z => by rw [decide_eq_true z] at hb; cases hb) H1 e1) (fun hb H1 e1 => ?_)
    have hg : 0 ≤ g ∧ g < (gs.length : Int) := by simpa using hb
    have hgv : g.toNat < vs.length := by omega
    have e : vs[g.toNat]? = some vs[g.toNat] := List.getElem?_eq_getElem hgv
    obtain ⟨t, ht, hT⟩ := h4 _ _ e
    rw [ht] at e
    have hm : xss.getD g.toNat [] ∈ xss := in_getD (by omega)
    have hrow := W.sh.row _ hm
    have m0 := Int.emod_nonneg hh (b := (n : Int)) (by omega)
    have m1 := Int.emod_lt_of_pos hh (show (0 : Int) < (n : Int) by omega)
    have a1 : atI vs g = some (.ref t) := by
      have := atI_nat (xs := vs) (j := g.toNat) e
      rwa [Int.toNat_of_nonneg hg.1] at this
    try dsimp only
    exact s_ret (v := .int (watVal xss (n : Int) g hh)) (ev_op (ev_op (ev_wrows (ev_var (i := 0) rfl) (e1 _ _ h1) T.cl_Watch T.na_Watch_rows) (ev_var (i := 2) rfl) (rv_ixT (K := K) (st_of (e1 _ _ h2)) a1)) (ev_op (ev_var (i := 3) rfl) (ev_hhours (house e1) (e1 _ _ h5) T.cl_House T.na_House_hours) (rv_I (show (0 : Int) < n by omega))) (rv_ixT (K := K) (st_of (e1 _ _ hT)) (atI_ints m0 (by omega)))) fun H2 e2 => k2 hg H2 (e1.trans e2)
def rowT (xs : List Int) : PyData := .tuple (xs.map .int)
theorem eqv_rows : ∀ xss yss : List (List Int), PyData.eqvAll (xss.map rowT) (yss.map rowT) = decide (xss = yss)
  | [], [] => by simp [PyData.eqvAll]
  | [], y :: ys => by simp [PyData.eqvAll]
  | x :: xs, [] => by simp [PyData.eqvAll]
  | x :: xs, y :: ys => by
    rw [List.map_cons, List.map_cons, PyData.eqvAll, eqv_rows xs ys]
    unfold rowT
    rw [eqv_intsT]
    by_cases e : x = y
    · subst e; simp
    · simp [e]
theorem lay_rows : ∀ xss : List (List Int), PyData.canLayAll0 (xss.map rowT) = true
  | [] => by simp [PyData.canLayAll0]
  | x :: xs => by
    have := lay_rows xs
    have h2 := lay_ints x
    simp [PyData.canLayAll0, PyData.canLay0, rowT, this, h2]
theorem depth_rows : ∀ xss : List (List Int), PyData.depthAll (xss.map rowT) ≤ 2
  | [] => by simp [PyData.depthAll]
  | x :: xs => by
    have := depth_rows xs
    have h2 := depth_ints x
    simp [PyData.depthAll, PyData.depth, rowT]
    omega
theorem shaped_rowsT (xss : List (List Int)) : SeqAt.shaped (.tuple (xss.map rowT)) = true := by
  have h1 := lay_rows xss
  have h2 := depth_rows xss
  unfold SeqAt.shaped
  simp [PyData.canLay0, PyData.depth, h1]
  omega
theorem dp_rowsT {K : PySem.W.Frag} {H : Hp} : ∀ (vs : List V) (xss : List (List Int)), vs.length = xss.length → (∀ (i : Nat) v, vs[i]? = some v → ∃ t, v = .ref t ∧ H t = some (.tup ((xss.getD i []).map V.int))) → DpAll K H vs (xss.map rowT)
  | [], [], _, _ => .nil
  | v :: vs, xs :: xss, hl, h => by
    obtain ⟨t, rfl, ht⟩ := h 0 v rfl
    exact .cons (.tup (st_of ht) (dp_ints _)) (dp_rowsT vs xss (by simpa using hl) fun i u hu => h (i + 1) u hu)
theorem RowsU.dp {K : PySem.W.Frag} {w : V} {H : Hp} {xss : List (List Int)} (h : RowsU w H xss) : Dp K H w (.tuple (xss.map rowT)) := by
  obtain ⟨p, vs, rfl, h1, h2, h3⟩ := h
  exact .tup (st_of h1) (dp_rowsT vs xss h2 h3)
theorem rv_eqRU {K : PySem.W.Frag} {H : Hp} {u w : V} {xss yss : List (List Int)} (h1 : RowsU u H xss) (h2 : RowsU w H yss) : RV (rEqD K) u w H (.bl (decide (xss = yss))) := fun H1 e Q q =>
  ⟨.tuple (xss.map rowT), .tuple (yss.map rowT), (h1.ex e).dp, (h2.ex e).dp, shaped_rowsT _, shaped_rowsT _, by rw [PyData.eqv, eqv_rows]; exact q H1 (Ex.refl H1)⟩
def spWEq (K : PySem.W.Frag) (A : Ads) : Sp := fun vs H Q _ => ∃ (v w h h' : V) (n m : Nat) (gs fs : List (Str × Int)) (xss yss : List (List Int)), vs = [v, w] ∧ WatchOk K A v H h n gs xss ∧ (∀ g ∈ gs, Word g.1) ∧ ((WatchOk K A w H h' m fs yss ∧ (∀ g ∈ fs, Word g.1) ∧ ∀ H', Ex H H' → Q (.bl (decide ((n = m ∧ gs = fs) ∧ xss = yss))) H') ∨ ((∃ p xs, w = .ref p ∧ H p = some (.lst xs)) ∧ ∀ H', Ex H H' → Q (.bl false) H'))
theorem ev_heq {K : PySem.W.Frag} {A : Ads} {E : L2.St → XK} {ta tb : TE} {σ : L2.St} {H : Hp} {v w : V} {n m : Int} {gs fs : List (Str × Int)} (ty : ∀ (H : Hp) (a dx : Addr) (fs : List (Str × V)), H a = some (.ins A.C_House dx fs) → TyX K H (.ref a) (.ref A.C_House)) (nf : PySem.W.notFirst K A.C_House (.ref A.C_House) = true) (h1 : Ev ta σ H v) (h2 : Ev tb σ H w) (g1 : HouseIs A.C_House v H n gs) (g2 : HouseIs A.C_House w H m fs) (w1 : ∀ g ∈ gs, Word g.1) (w2 : ∀ g ∈ fs, Word g.1) :
    Ev (tOpS (rOwnC K A.C_House (spHEq K A) E) ta tb) σ H (.bl (decide (n = m ∧ gs = fs))) := fun H1 e Q q => h1 H1 e _ fun H2 e2 => h2 H2 (e.trans e2) _ fun H3 e3 => by
  have e03 := (e.trans e2).trans e3
  have a1 := g1.ex e03
  have a2 := g2.ex e03
  obtain ⟨a, dx, p, q', rfl, z1, _⟩ := id a1
  obtain ⟨b, dy, p2, q2, rfl, z2, _⟩ := id a2
  exact ⟨a, dx, _, _, rfl, z1, ty H3 b dy _ z2, nf, .ref a, .ref b, n, m, gs, fs, rfl, a1, a2, w1, w2, fun H' e' => q H' ((e2.trans e3).trans e')⟩
theorem ev_isList {K : PySem.W.Frag} {te : TE} {σ : L2.St} {H : Hp} {p C : Addr} {xs : List V} (h : Ev te σ H (.ref p)) (hp : H p = some (.lst xs)) (hk : PySem.W.kitOne K (.type "list") (.ref C) = some false) : Ev (tCB (rIsi K) (tCons te (tCons (tC (.ref C)) tNil))) σ H (.bl false) := fun H1 e Q q => h H1 e _ fun H2 e2 => ⟨_, _, _, _, false, rfl, .own _, .base (.lst ((e.trans e2) _ _ hp)), hk, q H2 e2⟩
theorem ok_Watch_eq (T : Txt K mg A) : FnOk P w K mg base CX0 4 A.f_Watch_eq A.d_Watch_eq (["self", "other"] : List Str) (spWEq K A) := by
  refine T.F_Watch_eq.ok sc_Watch_eq (fun vs H Q E h => ?_) (fun cdv Ar outer s H vs Q E hr h => ?_)
  · obtain ⟨v, w, h, h2, n, m, gs, fs, xss, yss, rfl, _⟩ := h
    rfl
  · obtain ⟨v, w, h, h2, n, m, gs, fs, xss, yss, rfl, W, w1, hor⟩ := h
    refine ⟨_, (pss_one (ps_ret (pe_and (pe_callB isi_K (by rfl) T.z_isinstance (by decide +kernel) (pa_cons (pv 1) (pa_cons (pe_glob (v := .ref A.C_Watch) rfl T.g_Watch rfl) pa_nil))) (pe_and (pe_cmpS (op_ownC (op := .Eq) (E := fun _ => E0) (fun _ _ => rfl) T.M_House_eq (ok_House_eq T) (hr.mono (by omega)) (b_House_eq T) (pAt pass0)) (pe_fldK (pv 0) rfl) (pe_fldK (pv 1) rfl) (nomark _)) (pe_one (pe_cmpR (eqD_K hr.units) (pe_fldK (pv 0) rfl) (pe_fldK (pv 1) rfl) (nomark _))))))), ?_⟩
    rcases hor with ⟨W2, w2, k⟩ | ⟨⟨p, us, rfl, hp⟩, k⟩
    ·
      obtain ⟨a, dx, u, rfl, g1, gU⟩ := id W.w
      obtain ⟨b, dy, u2, rfl, g2, gU2⟩ := id W2.w
      have nfH : PySem.W.notFirst K A.C_House (.ref A.C_House) = true := by unfold PySem.W.notFirst; simp
      have fin : (true && (decide ((n : Int) = (m : Int) ∧ gs = fs) && decide (xss = yss))) = decide ((n = m ∧ gs = fs) ∧ xss = yss) := by
        rw [Bool.true_and, ← Bool.decide_and, decide_eq_decide]
        constructor
        · rintro ⟨⟨q1, q2⟩, q3⟩
          exact ⟨⟨by omega, q2⟩, q3⟩
        · rintro ⟨⟨q1, q2⟩, q3⟩
          exact ⟨⟨by omega, q2⟩, q3⟩
      try dsimp only
      exact s_ret (v := .bl (decide ((n = m ∧ gs = fs) ∧ xss = yss))) (ev_is (ev_andV (a := true) (b := decide ((n : Int) = (m : Int) ∧ gs = fs) && decide (xss = yss)) (ev_isOwn (K := K) (ev_var (i := 1) rfl) fun H1 e => T.ty_Watch H1 b dy _ (e _ _ g2)) fun _ => ev_andV (ev_heq (K := K) (A := A) T.ty_House nfH (ev_whouse (ev_var (i := 0) rfl) g1 T.cl_Watch T.na_Watch_house) (ev_whouse (ev_var (i := 1) rfl) g2 T.cl_Watch T.na_Watch_house) W.hs W2.hs w1 w2) fun _ =>
        ev_op (ev_wrows (ev_var (i := 0) rfl) g1 T.cl_Watch T.na_Watch_rows) (ev_wrows (ev_var (i := 1) rfl) g2 T.cl_Watch T.na_Watch_rows) (rv_eqRU (K := K) gU gU2)) (by rw [fin])) fun H1 e1 => k H1 e1
    · try dsimp only
      exact s_ret (v := .bl false) (ev_andV (a := false) (b := false) (ev_isList (K := K) (ev_var (i := 1) rfl) hp T.kit_list_Watch) fun z => Bool.noConfusion z) fun H1 e1 => k H1 e1
def sp_cell (K : PySem.W.Frag) : Sp := fun vs H Q _ => ∃ (a : Addr) (ns : List Int) (k : Nat), vs = [.ref a, .int (k : Int)] ∧ SqL K H a (ns.map V.int) ∧ Q (.int (cellA ns k)) H
theorem ev_cell {K : PySem.W.Frag} {E : XK} {σ : L2.St} {H : Hp} {ta tk : TE} {a : Addr} {ns : List Int} {k : Nat} {z : Int} (ha : Ev ta σ H (.ref a)) (hk : Ev tk σ H (.int z)) (hS : SqL K H a (ns.map V.int)) (hz : z = (k : Int) := by rfl) : Ev (tCall (sp_cell K) [] E (tCons ta (tCons tk tNil))) σ H (.int (cellA ns k)) := fun H1 e Q q =>
  ha H1 e _ fun H2 e2 => hk H2 (e.trans e2) _ fun H3 e3 => by subst hz; exact ⟨a, ns, k, rfl, ex_l ((e.trans e2).trans e3) hS, q H3 (e2.trans e3)⟩
theorem ok_u_law_cell (T : Txt K mg A) : FnOk P w K mg base CX0 1 A.f_u_law_cell A.d_u_law_cell (["script", "k"] : List Str) (sp_cell K) := by
  refine T.F_u_law_cell.ok sc_u_law_cell (fun vs H Q E h => ?_) (fun cdv Ar outer s H vs Q E hr h => ?_)
  · obtain ⟨a, ns, k, rfl, _⟩ := h
    rfl
  · obtain ⟨a, ns, k, rfl, hS, q⟩ := h
    refine ⟨_, (pss_cons (ps_if (pt_cmpR op_lt (pv 1) (pe_callB len_K (by rfl) T.z_len (by decide +kernel) (pa_cons (pv 0) pa_nil)) (nomark _)) (pss_one (ps_ret (pe_callB call_abs (by rfl) T.z_abs (by decide +kernel) (pa_cons (pe_ix ix_lK (pv 0) (pv 1) (fun _ _ => rfl)) pa_nil)))) pss_nil)
        (pss_one (ps_ret pe_int))), ?_⟩
    refine ⟨_, rfl, _, rfl, .ref a, _, rfl, .inl ⟨_, hS, rfl⟩, _, _, rfl, rfl, _, rfl, ?_⟩
    unfold cellA at q
    rw [List.length_map]
    by_cases hk : k < ns.length
    · refine wayT (show (k : Int) < (ns.length : Int) by omega) ?_
      rw [if_pos hk] at q
      refine ⟨_, rfl, _, rfl, a, _, _, .int (ns.getD k 0), rfl, rfl, hS, atI_nat ?_, _, rfl, q⟩
      rw [List.getElem?_map, List.getD_eq_getElem?_getD, List.getElem?_eq_getElem hk]
      rfl
    · refine wayF (show ¬ (k : Int) < (ns.length : Int) by omega) ?_
      rw [if_neg hk] at q
      exact q
def sp_draws (K : PySem.W.Frag) : Sp := fun vs H Q _ => ∃ (c s : Int) (m : Addr) (ms : List Int), vs = [.int c, .int s, .ref m] ∧ SqL K H m (ms.map V.int) ∧ 0 ≤ c ∧ (-1000000 ≤ s ∧ s ≤ 1000000) ∧ ms.length ≤ 64 ∧
  (∀ x ∈ ms, 1 ≤ x ∧ x.natAbs < 2 ^ 1000) ∧ ∀ p H' ds, H p = none → Ex H H' → H' p = some (.lst (ds.map V.int)) → Drawn ms ds → Q (.ref p) H'
theorem er_draws {K : PySem.W.Frag} {E : XK} {σ : L2.St} {H : Hp} {tc ts tm : TE} {c z : Int} {ms : List Int} (hc : Ev tc σ H (.int c)) (hs : Ev ts σ H (.int z)) (hm : EvL tm σ H (ms.map V.int)) (h0 : 0 ≤ c) (hz : -1000000 ≤ z ∧ z ≤ 1000000) (hl : ms.length ≤ 64)
    (hb : ∀ x ∈ ms, 1 ≤ x ∧ x.natAbs < 2 ^ 1000) : EvR (tCall (sp_draws K) [] E (tCons tc (tCons ts (tCons tm tNil)))) σ H fun v H1 => ∃ p ds, v = .ref p ∧ H1 p = some (.lst (ds.map V.int)) ∧ Drawn ms ds := fun H1 e Q q =>
  hc H1 e _ fun H2 e2 => hs H2 (e.trans e2) _ fun H3 e3 => hm H3 ((e.trans e2).trans e3) _ fun m H4 _ e4 h4 =>
    ⟨c, z, m, ms, rfl, sq_of h4, h0, hz, hl, hb, fun p H' ds hp e' h' hD => q _ H' ((e2.trans e3).trans (e4.trans e')) ⟨p, ds, rfl, h', hD⟩⟩
theorem drawn_more {ms ds : List Int} {i : Nat} {m d : Int} (h : Drawn (ms.take i) ds) (hm : ms[i]? = some m) (h0 : 0 ≤ d) (h1 : d < m) : Drawn (ms.take (i + 1)) (ds ++ [d]) := by
  have hi : i < ms.length := (List.getElem?_eq_some_iff.mp hm).1
  obtain ⟨hl, hd⟩ := h
  have hl' : ds.length = i := by rw [hl, List.length_take]; omega
  refine ⟨by rw [List.length_append, hl', List.length_take]; simp; omega, fun j x hj => ?_⟩
  by_cases hji : j < i
  · have hx : (ms.take i)[j]? = some x := by
      rw [List.getElem?_take_of_lt hji]
      rw [List.getElem?_take_of_lt (by omega)] at hj
      exact hj
    obtain ⟨d', e, z⟩ := hd j x hx
    exact ⟨d', by rw [List.getElem?_append_left (by omega)]; exact e, z⟩
  · have hlt : j < i + 1 := by
      have := (List.getElem?_eq_some_iff.mp hj).1
      rw [List.length_take] at this
      omega
    have ej : j = i := by omega
    subst ej
    rw [List.getElem?_take_of_lt hlt, hm] at hj
    cases hj
    exact ⟨d, by rw [List.getElem?_append_right (by omega), hl', Nat.sub_self]; rfl, h0, h1⟩
theorem ok_u_law_draws (T : Txt K mg A) : FnOk P w K mg base CX0 1 A.f_u_law_draws A.d_u_law_draws (["cell", "salt", "menu"] : List Str) (sp_draws K) := by
  refine T.F_u_law_draws.ok sc_u_law_draws (fun vs H Q E h => ?_) (fun cdv Ar outer s H vs Q E hr h => ?_)
  · obtain ⟨c, s, m, ms, rfl, _⟩ := h
    rfl
  · obtain ⟨c, sa, m, ms, rfl, hS, hc, hs, hl, hm, k⟩ := h
    refine ⟨_, (pss_cons (ps_set (i := 3) sc_u_law_draws.nd rfl (Or.inl rfl) (pe_lst pa_nil))
        (pss_cons (ps_set (i := 4) sc_u_law_draws.nd rfl (Or.inl rfl) (pe_op op_sub (pv 0) (pe_op op_pow pe_int pe_int)))
        (pss_cons (ps_set (i := 5) sc_u_law_draws.nd rfl (Or.inl rfl) (pe_op op_add (pv 0) (pe_op op_mul pe_int (pv 1))))
        (pss_cons (ps_for PassesOwn.never rfl (pi_range1 rfl T.z_range (pa_cons (pe_callB len_K (by rfl) T.z_len (by decide +kernel) (pa_cons (pv 2) pa_nil)) pa_nil)) (pg_name (i := 6) sc_u_law_draws.nd rfl (Or.inl rfl)) (pss_one (ps_if (pt_cmpR op_ge (pv 4) pe_int (nomark _)) (pss_cons (ps_expr (pe_bm PySem.F.plainAttrs_list PySem.F.slot_list_append PySem.F.type_list_append mt_append (pv 3) (pa_cons (pe_op op_mod (pe_callTy call_int1 (by rfl) T.z_int (by decide +kernel) (pa_cons (pv 4) pa_nil)) (pe_ix ix_lK (pv 2) (pv 6) (fun _ _ => rfl))) pa_nil)))
        (pss_one (ps_set (i := 4) sc_u_law_draws.nd rfl (Or.inl rfl) (pe_op op_fdivW (pv 4) (pe_ix ix_lK (pv 2) (pv 6) (fun _ _ => rfl)))))) (pss_cons (ps_set (i := 5) sc_u_law_draws.nd rfl (Or.inl rfl) (pe_op op_mod (pe_callTy call_int1 (by rfl) T.z_int (by decide +kernel) (pa_cons (pe_op op_add (pe_op op_add (pe_op op_mul (pv 5) (pv 5)) (pe_op op_mul pe_int (pe_op op_add (pv 6) pe_int))) pe_int) pa_nil)) pe_int))
        (pss_cons (ps_set (i := 5) sc_u_law_draws.nd rfl (Or.inl rfl) (pe_op op_mod (pe_callTy call_int1 (by rfl) T.z_int (by decide +kernel) (pa_cons (pe_op op_add (pe_op op_mul (pv 5) (pv 5)) (pe_op op_fdiv (pv 5) pe_int)) pa_nil)) pe_int))
        (pss_one (ps_expr (pe_bm PySem.F.plainAttrs_list PySem.F.slot_list_append PySem.F.type_list_append mt_append (pv 3) (pa_cons (pe_op op_mod (pe_callTy call_int1 (by rfl) T.z_int (by decide +kernel) (pa_cons (pe_op op_fdiv (pv 5) pe_int) pa_nil)) (pe_ix ix_lK (pv 2) (pv 6) (fun _ _ => rfl))) pa_nil)))))))))
        (pss_one (ps_ret (pv 3))))))), ?_⟩
    refine ⟨Nat.zero_le _, fun p hp => ?_⟩
    refine ⟨_, rfl, _, _, rfl, rfl, ⟨by decide, by decide, by decide⟩, _, _, rfl, rfl, ?_⟩
    refine ⟨_, rfl, _, rfl, _, _, rfl, rfl, .inl ⟨by decide, by decide⟩, _, _, rfl, rfl, ?_⟩
    have e10 : ((10 : Int) ^ (18 : Int).toNat) = 1000000000000000000 := by decide
    have hS1 : SqL K (upd H p (.lst [])) m (ms.map V.int) := ex_l (Ex.new hp) hS
    refine ⟨_, rfl, .ref m, _, rfl, .inl ⟨_, hS1, rfl⟩, _, rfl, by omega, by rw [List.length_map]; omega, ?_⟩
    refine for_range (lo := 0) (n := ((ms.map V.int).length : Int).toNat) (fun i σ H' => ∃ (ds : List Int) (rest mixed : Int) (kv : Option V), σ = [some (.int c), some (.int sa), some (.ref m), some (.ref p), some (.int rest), some (.int mixed), kv] ∧ Ex H H' ∧
        H' p = some (.lst (ds.map V.int)) ∧ Drawn (ms.take i) ds ∧ (0 ≤ rest ∨ (-18446744073709551616 < mixed ∧ mixed < 18446744073709551616))) ?_ ?_ ?_
    · refine ⟨[], _, _, none, rfl, Ex.new hp, upd_same, ⟨by simp, fun i x h => by simp at h⟩, ?_⟩
      rw [e10]
      omega
    · rintro i σ H' hi ⟨ds, rest, mixed, kv, rfl, ex, hH, hD, hr0⟩
      have hi' : i < ms.length := by simpa using hi
      obtain ⟨mi, hmi⟩ : ∃ mi, ms[i]? = some mi := ⟨ms[i], List.getElem?_eq_getElem hi'⟩
      have hmm := hm mi (List.mem_of_getElem? hmi)
      have hSi : SqL K H' m (ms.map V.int) := ex_l ex hS
      have hat : atI (ms.map V.int) (0 + (i : Int)) = some (.int mi) := by
        rw [Int.zero_add]
        refine atI_nat ?_
        rw [List.getElem?_map, hmi]
        rfl
      have hdl : ds.length ≤ 64 := by
        have := hD.1
        rw [List.length_take] at this
        omega
      have hsz : (ds.map V.int).length < sizeLine := by
        rw [List.length_map]
        exact Nat.lt_of_le_of_lt hdl (by decide)
      have e0 : (0 : Int) + (i : Int) = (i : Int) := Int.zero_add _
      refine ⟨_, rfl, _, _, rfl, rfl, _, rfl, way (fun hr => ?_) (fun hr => ?_)⟩
      · refine ⟨_, rfl, .inl ⟨rfl, _, SqL.of hH⟩, _, rfl, .inl ⟨rest, rfl, _, rfl, _, rfl, m, _, _, .int mi, rfl, rfl, hSi, hat, _, _, rfl, rfl, (by show (0 : Int) < mi; omega), p, _, _, rfl, rfl, hH, hsz, ?_⟩⟩
        have ex2 : Ex H (upd H' p (.lst (ds.map V.int ++ [.int (rest % mi)]))) := Ex.mut ex hp
        refine ⟨_, rfl, _, rfl, _, rfl, m, _, _, .int mi, rfl, rfl, ex_l ex2 hS, hat, _, _, rfl, rfl, wide_div (by omega) hmm.2 (by decide) (by decide), ?_⟩
        refine ⟨ds ++ [rest % mi], rest / mi, mixed, _, rfl, ex2, ?_, drawn_more hD hmi (Int.emod_nonneg _ (by omega)) (Int.emod_lt_of_pos _ (by omega)), .inl (Int.ediv_nonneg hr (by omega))⟩
        rw [upd_same, List.map_append]
        rfl
      · have hx : -18446744073709551616 < mixed ∧ mixed < 18446744073709551616 := by omega
        refine ⟨_, rfl, _, rfl, _, _, rfl, rfl, .inl ⟨hx.1, hx.2⟩, _, rfl, _, _, rfl, rfl, _, _, rfl, rfl, .inl ⟨by decide, by decide⟩, _, _, rfl, rfl, _, _, rfl, rfl, .inl ⟨_, rfl, _, _, rfl, rfl, (by show (0 : Int) < 2147483399; decide), ?_⟩⟩
        have b1 : ∀ z : Int, 0 ≤ z % 2147483399 ∧ z % 2147483399 < 2147483399 := fun z => ⟨Int.emod_nonneg _ (by decide), Int.emod_lt_of_pos _ (by decide)⟩
        have b2 : ∀ z : Int, 0 ≤ z % 2147483629 ∧ z % 2147483629 < 2147483629 := fun z => ⟨Int.emod_nonneg _ (by decide), Int.emod_lt_of_pos _ (by decide)⟩
        refine ⟨_, rfl, _, rfl, _, _, rfl, rfl, .inl ⟨Int.lt_of_lt_of_le (by decide) (b1 _).1, Int.lt_trans (b1 _).2 (by decide)⟩, _, rfl, _, _, rfl, rfl, ⟨by decide, by decide⟩, _, _, rfl, rfl, .inl ⟨_, rfl, _, _, rfl, rfl, (by show (0 : Int) < 2147483629; decide), ?_⟩⟩
        refine ⟨_, rfl, .inl ⟨rfl, _, SqL.of hH⟩, _, rfl, _, _, rfl, rfl, ⟨by decide, by decide⟩, .inl ⟨_, rfl, _, rfl, _, rfl, m, _, _, .int mi, rfl, rfl, hSi, hat, _, _, rfl, rfl, (by show (0 : Int) < mi; omega), p, _, _, rfl, rfl, hH, hsz, ?_⟩⟩
        refine ⟨ds ++ [((((mixed * mixed + 3571 * (0 + (i : Int) + 1) + 40692) % 2147483399) * ((mixed * mixed + 3571 * (0 + (i : Int) + 1) + 40692) % 2147483399) + ((mixed * mixed + 3571 * (0 + (i : Int) + 1) + 40692) % 2147483399) / 97) % 2147483629) / 8 % mi], rest, _, _, rfl, Ex.mut ex hp, ?_, drawn_more hD hmi (Int.emod_nonneg _ (by omega)) (Int.emod_lt_of_pos _ (by omega)), .inr ⟨Int.lt_of_lt_of_le (by decide) (b2 _).1, Int.lt_trans (b2 _).2 (by decide)⟩⟩
        rw [upd_same, List.map_append]
        rfl
    · rintro σ H' ⟨ds, rest, mixed, kv, rfl, ex, hH, hD, _⟩
      refine ⟨_, rfl, k p H' ds hp ex hH ?_⟩
      have e : ((ms.map V.int).length : Int).toNat = ms.length := by simp
      rw [e, List.take_length] at hD
      exact hD
def spTwo : Sp := fun vs H Q _ => ∃ n : Int, vs = [.int n] ∧ (0 ≤ n ∧ n ≤ 25) ∧ ∀ z H', Ex H H' → 1 ≤ z ∧ z ≤ 33554432 → Q (.int z) H'
theorem ok_u_law_two (T : Txt K mg A) : FnOk P w K mg base CX0 1 A.f_u_law_two A.d_u_law_two (["n"] : List Str) spTwo := by
  refine T.F_u_law_two.ok sc_u_law_two (fun vs H Q E h => ?_) (fun cdv Ar outer s H vs Q E hr h => ?_)
  · obtain ⟨n, rfl, _⟩ := h
    rfl
  · obtain ⟨n, rfl, hn, k⟩ := h
    refine ⟨_, (pss_cons (ps_set (i := 1) sc_u_law_two.nd rfl (Or.inl rfl) pe_int)
        (pss_cons (ps_for PassesOwn.never rfl (pi_range1 rfl T.z_range (pa_cons (pv 0) pa_nil)) (pg_name (i := 2) sc_u_law_two.nd rfl (Or.inl rfl)) (pss_one (ps_set (i := 1) sc_u_law_two.nd rfl (Or.inl rfl) (pe_op op_mul (pv 1) pe_int))))
        (pss_one (ps_ret (pv 1))))), ?_⟩
    try dsimp only
    refine q_asg (v := .int 1) ev_c fun H1 e1 => ?_
    try dsimp only
    refine q_forR1 (n := n) (ea_cons (ev_var (i := 0) rfl) ea_nil) (by omega) (fun i σ' H' => ∃ (kv : Option V), σ' = [some (.int n), some (.int ((2 ^ i : Nat) : Int)), kv] ∧ Ex H H') (fun H2 e2 => ⟨none, rfl, e1.trans e2⟩) ?_ ?_
    · rintro i σ' H' hi ⟨kv, rfl, e⟩
      try dsimp only
      refine s_asg (v := .int (((2 ^ i : Nat) : Int) * 2)) (by repeat' first | exact ev_c | exact ev_var rfl | exact ea_nil | apply ea_cons | apply ev_int | apply ev_op | apply ev_un | exact ru_neg | exact rv_I0 | exact rv_eq rfl | exact rv_ne rfl | exact rv_I (by decide) | exact rv_I (.inl ⟨by decide, by decide⟩) | exact rv_I (.inr ⟨by decide, by decide⟩) | exact rv_I (by omega) | exact rv_I (.inl ⟨by omega, by omega⟩) | exact rv_I (.inr ⟨by omega, by omega⟩)) fun H3 e3 => ⟨some (.int (i : Int)), ?_, e.trans e3⟩
      rw [show ((2 ^ (i + 1) : Nat) : Int) = ((2 ^ i : Nat) : Int) * 2 by rw [Nat.pow_succ, Int.natCast_mul]; rfl]
      rfl
    rintro σ' H' ⟨kv, rfl, e⟩
    have h1 : 2 ^ n.toNat ≤ 2 ^ 25 := Nat.pow_le_pow_right (by decide) (by omega)
    have h2 : 0 < 2 ^ n.toNat := Nat.pow_pos (by decide)
    exact ⟨_, rfl, k _ H' e ⟨by omega, by omega⟩⟩
def spBits : Sp := fun vs H Q _ => ∃ n z : Int, vs = [.int n, .int z] ∧ (0 ≤ n ∧ n ≤ 25) ∧ ∀ p H' xs, H p = none → Ex H H' → H' p = some (.lst (xs.map V.int)) → Asc 0 n xs → Q (.ref p) H'
theorem ok_u_law_bits (T : Txt K mg A) : FnOk P w K mg base CX0 1 A.f_u_law_bits A.d_u_law_bits (["n", "number"] : List Str) spBits := by
  refine T.F_u_law_bits.ok sc_u_law_bits (fun vs H Q E h => ?_) (fun cdv Ar outer s H vs Q E hr h => ?_)
  · obtain ⟨n, z, rfl, _⟩ := h
    rfl
  · obtain ⟨n, z, rfl, hn, k⟩ := h
    refine ⟨_, (pss_cons (ps_set (i := 2) sc_u_law_bits.nd rfl (Or.inl rfl) (pe_lst pa_nil))
        (pss_cons (ps_for PassesOwn.never rfl (pi_range1 rfl T.z_range (pa_cons (pv 0) pa_nil)) (pg_name (i := 3) sc_u_law_bits.nd rfl (Or.inl rfl)) (pss_cons (ps_if (pt_cmpR op_eq (pe_op op_mod (pe_callTy call_int1 (by rfl) T.z_int (by decide +kernel) (pa_cons (pv 1) pa_nil)) pe_int) pe_int (nomark _)) (pss_one (ps_expr (pe_bm PySem.F.plainAttrs_list PySem.F.slot_list_append PySem.F.type_list_append mt_append (pv 2) (pa_cons (pv 3) pa_nil)))) pss_nil)
        (pss_one (ps_set (i := 1) sc_u_law_bits.nd rfl (Or.inl rfl) (pe_op op_fdiv (pv 1) pe_int)))))
        (pss_one (ps_ret (pv 2))))), ?_⟩
    try dsimp only
    refine q_asgL (xs := []) (el_lst ea_nil (by decide)) fun fp H1 hfp e1 h1 => ?_
    refine q_forR1 (j := 3) (n := n) (ea_cons (ev_var rfl) ea_nil) (by omega)
      (fun i σ' H' => ∃ (z : Int) (hv : Option V) (xs : List Int), σ' = [some (.int n), some (.int z), some (.ref fp), hv] ∧ Ex H H' ∧ H' fp = some (.lst (xs.map V.int)) ∧ Asc 0 (i : Int) xs)
      (fun H2 e2 => ⟨z, none, [], rfl, e1.trans e2, e2 _ _ h1, .nil⟩) ?_ ?_
    · rintro i σ' H' hi ⟨z, hv, xs, rfl, ex, hf, hA⟩
      have hl := hA.len
      have hsz : (xs.map V.int).length < 100000 := by rw [List.length_map]; omega
      try dsimp only
      have tail : ∀ (H2 : Hp) (ys : List Int) (D : Ends), Ex H H2 → H2 fp = some (.lst (ys.map V.int)) → Asc 0 ((i : Int) + 1) ys →
          (∀ σ' H', (∃ (z : Int) (hv : Option V) (xs : List Int), σ' = [some (.int n), some (.int z), some (.ref fp), hv] ∧ Ex H H' ∧ H' fp = some (.lst (xs.map V.int)) ∧ Asc 0 ((i + 1 : Nat) : Int) xs) → D.nx σ' H') →
          tAsg (tOp (rI CDiv fun i j => V.int (i / j)) (tVar 1) (tC (V.int 2))) (gName 1) D [some (.int n), some (.int z), some (.ref fp), some (.int (i : Int))] H2 := fun H2 ys D e2 h2 hA2 hD =>
        s_asg (v := .int (z / 2)) (ev_op (ev_var (i := 1) rfl) ev_c (rv_I (show CDiv z 2 from ⟨by decide, by decide⟩))) fun H3 e3 => hD _ _ ⟨z / 2, _, ys, rfl, e2.trans e3, e3 _ _ h2, by simpa using hA2⟩
      refine q_when (b := decide (z % 2 = 1)) (et_test (ev_is (ev_op (ev_op (ev_cb (ea_cons (ev_var (i := 1) rfl) ea_nil) (fun H1 _ _ q => .inl ⟨_, rfl, q H1 (Ex.refl H1)⟩)) ev_c (rv_I (show (0 : Int) < 2 by decide))) ev_c (rv_eq rfl)) (by rw [dec_ii]))) (fun _ H2 e2 => ?_) (fun _ H2 e2 => ?_)
      · refine s_app (e2 _ _ hf) (ev_var (i := 2) rfl) (ev_var (i := 3) rfl) hsz fun H3 e3 => ?_
        refine tail _ (xs ++ [(i : Int)]) _ (Ex.mut ((ex.trans e2).trans e3) hfp) (by rw [upd_same, List.map_append]; rfl) ?_ (fun _ _ h => h)
        exact hA.append (mid' := (i : Int)) ⟨List.pairwise_singleton _ _, fun x hx => by cases List.mem_singleton.mp hx; omega⟩ (by omega) (by omega) (by omega)
      · exact tail _ xs _ (ex.trans e2) (e2 _ _ hf) (hA.mono (by omega) (by omega)) (fun _ _ h => h)
    rintro σ' H' ⟨z, hv, xs, rfl, ex, hf, hA⟩
    exact ⟨_, rfl, k fp H' xs hfp ex hf (hA.mono (by omega) (by omega))⟩
def spName : Sp := fun vs H Q _ => ∃ n : Int, vs = [.int n] ∧ ∀ z H', Ex H H' → Word z → Q (.str z) H'
theorem er_name {E : XK} {σ : L2.St} {H : Hp} {t1 : TE} {n : Int} (h1 : Ev t1 σ H (.int n)) : EvR (tCall spName [] E (tCons t1 tNil)) σ H fun v _ => ∃ z, v = .str z ∧ Word z :=
  er_call (ea_cons h1 ea_nil) fun H1 e Q q => ⟨n, rfl, fun z H' e' h => q _ H' e' ⟨z, rfl, h⟩⟩
theorem ok_u_law_name (T : Txt K mg A) : FnOk P w K mg base CX0 1 A.f_u_law_name A.d_u_law_name (["number"] : List Str) spName := by
  refine T.F_u_law_name.ok sc_u_law_name (fun vs H Q E h => ?_) (fun cdv Ar outer s H vs Q E hr h => ?_)
  · obtain ⟨n, rfl, _⟩ := h
    rfl
  · obtain ⟨n, rfl, k⟩ := h
    refine ⟨_, (pss_cons (ps_set (i := 1) sc_u_law_name.nd rfl (Or.inl rfl) pe_str)
        (pss_cons (ps_set (i := 2) sc_u_law_name.nd rfl (Or.inl rfl) pe_str)
        (pss_cons (ps_for PassesOwn.never rfl (pi_range1 rfl T.z_range (pa_cons (pe_op op_add pe_int (pe_op op_mod (pe_callTy call_int1 (by rfl) T.z_int (by decide +kernel) (pa_cons (pv 0) pa_nil)) pe_int)) pa_nil)) (pg_name (i := 3) sc_u_law_name.nd rfl (Or.inl rfl)) (pss_cons (ps_set (i := 0) sc_u_law_name.nd rfl (Or.inl rfl) (pe_op op_add (pe_op op_add (pe_op op_fdiv (pv 0) pe_int) (pe_op op_mul pe_int (pv 3))) pe_int))
        (pss_one (ps_set (i := 2) sc_u_law_name.nd rfl (Or.inl rfl) (pe_op op_add_str (pv 2) (pe_ix ix_str (pv 1) (pe_op op_mod (pe_callTy call_int1 (by rfl) T.z_int (by decide +kernel) (pa_cons (pv 0) pa_nil)) pe_int) (fun _ _ => rfl)))))))
        (pss_one (ps_ret (pv 2)))))), ?_⟩
    try dsimp only
    refine q_asg (v := .str LET) ev_c fun H1 e1 => ?_
    try dsimp only
    refine q_asg (v := .str (txt [])) ev_c fun H2 e2 => ?_
    try dsimp only
    refine q_forR1 (j := 3) (n := 1 + n % 8) (ea_cons (ev_op ev_c (ev_op (ev_int (ev_var (i := 0) rfl)) ev_c (rv_I (show (0 : Int) < 8 by decide))) rv_I0) ea_nil) (by omega)
      (fun i σ' G => ∃ (m : Int) (l : List Nat) (kv : Option V), σ' = [some (.int m), some (.str LET), some (.str (txt l)), kv] ∧ Ex H G ∧ l.length = i ∧ ∀ c ∈ l, 97 ≤ c ∧ c ≤ 122) (fun H3 e3 => ⟨n, [], none, rfl, (e1.trans e2).trans e3, rfl, fun c hc => by cases hc⟩) ?_ ?_
    · rintro i σ' G hi ⟨m, l, kv, rfl, eG, hl, hc⟩
      try dsimp only
      refine q_asg (v := .int (m / 8 + 31 * (i : Int) + 5)) (ev_op (ev_op (ev_op (ev_var (i := 0) rfl) ev_c (rv_I (show CDiv m 8 from ⟨by decide, by decide⟩))) (ev_op ev_c (ev_var (i := 3) rfl) (rv_I (show CMul 31 (i : Int) from .inl ⟨by decide, by decide⟩))) rv_I0) ev_c rv_I0) fun G1 g1 => ?_
      generalize m / 8 + 31 * (i : Int) + 5 = m2
      have m0 : 0 ≤ m2 % 26 ∧ m2 % 26 < 26 := by omega
      try dsimp only
      refine s_asg (v := .str (txt (l ++ [97 + (m2 % 26).toNat]))) (ev_is (ev_op (ev_var (i := 2) rfl) (ev_op (ev_var (i := 1) rfl) (ev_op (ev_int (ev_var (i := 0) rfl)) ev_c (rv_I (show (0 : Int) < 26 by decide))) (rv_ixS (w := LET) (by decide) (let_at m0))) (rv_addS (by rw [txt_len, txt_one, txt_len]; show l.length + 1 ≤ 100000; omega))) (by rw [txt_one, txt_add])) fun G2 g2 => ⟨m2, _, _, rfl, eG.trans (g1.trans g2), by rw [List.length_append, hl]; rfl, fun c h => ?_⟩
      rcases List.mem_append.mp h with h | h
      · exact hc c h
      · have := List.mem_singleton.mp h
        omega
    rintro σ' G ⟨m, l, kv, rfl, eG, hl, hc⟩
    exact s_ret (ev_var (i := 2) rfl) fun G1 g1 => k _ G1 (eG.trans g1) ⟨by rw [txt_len]; omega, hc⟩
def spNames (K : PySem.W.Frag) : Sp := fun vs H Q _ => ∃ (a : Addr) (ns : List Int), vs = [.ref a] ∧ SqL K H a (ns.map V.int) ∧ ns.length ≤ 7 ∧ ∀ p H' (zs : List Str), Ex H H' → H' p = some (.lst (zs.map V.str)) → zs.length = ns.length → zs.Nodup → (∀ z ∈ zs, Word z) → Q (.ref p) H'
theorem er_names {K : PySem.W.Frag} {E : XK} {σ : L2.St} {H : Hp} {t1 : TE} {ns : List Int} (h1 : EvR t1 σ H fun v H1 => ∃ p : Addr, v = .ref p ∧ SqL K H1 p (ns.map V.int)) (hl : ns.length ≤ 7) : EvR (tCall (spNames K) [] E (tCons t1 tNil)) σ H fun v H1 => ∃ (p : Addr) (zs : List Str), v = .ref p ∧ H1 p = some (.lst (zs.map V.str)) ∧ zs.length = ns.length ∧ zs.Nodup ∧ ∀ z ∈ zs, Word z := fun H1 e Q q =>
  h1 H1 e _ fun v H2 e2 hv => by
    obtain ⟨a, rfl, ha⟩ := hv
    exact ⟨a, ns, rfl, ha, hl, fun p H' zs e' hp h1 h2 h3 => q _ H' (e2.trans e') ⟨p, zs, rfl, hp, h1, h2, h3⟩⟩
theorem ok_u_law_names (T : Txt K mg A) : FnOk P w K mg base CX0 2 A.f_u_law_names A.d_u_law_names (["numbers"] : List Str) (spNames K) := by
  refine T.F_u_law_names.ok sc_u_law_names (fun vs H Q E h => ?_) (fun cdv Ar outer s H vs Q E hr h => ?_)
  · obtain ⟨a, ns, rfl, _⟩ := h
    rfl
  · obtain ⟨a, ns, rfl, hS, hl, k⟩ := h
    refine ⟨_, (pss_cons (ps_set (i := 1) sc_u_law_names.nd rfl (Or.inl rfl) pe_str)
        (pss_cons (ps_set (i := 2) sc_u_law_names.nd rfl (Or.inl rfl) (pe_lst pa_nil))
        (pss_cons (ps_for PassesOwn.never rfl (pi_listK (pv 0)) (pg_name (i := 3) sc_u_law_names.nd rfl (Or.inl rfl)) (pss_cons (ps_set (i := 4) sc_u_law_names.nd rfl (Or.inl rfl) (pe_call (ok_u_law_name T) (hr.mono (by omega)) rfl T.g_u_law_name T.k_u_law_name (b_u_law_name T) .nil pass0 (pa_cons (pv 3) pa_nil)))
        (pss_cons (ps_for PassesOwn.never rfl (pi_range1 rfl T.z_range (pa_cons pe_int pa_nil)) (pg_name (i := 5) sc_u_law_names.nd rfl (Or.inl rfl)) (pss_one (ps_if (pt_cmpR in_K (pv 4) (pv 2) (by with_unfolding_all rfl)) (pss_one (ps_set (i := 4) sc_u_law_names.nd rfl (Or.inl rfl) (pe_op op_add_str (pe_slice sl_str (pv 4) po_none (po_some (pe_un un_neg pe_int))) (pe_ix ix_str (pv 1) (pe_op op_mod (pe_callTy call_int1 (by rfl) T.z_int (by decide +kernel) (pa_cons (pe_op op_add (pe_m1 PySem.F.slot_str_index PySem.F.type_str_index mt_sindex (pv 1) (pe_ix ix_str (pv 4) (pe_un un_neg pe_int) (fun _ _ => rfl))) pe_int) pa_nil)) pe_int) (fun _ _ => rfl))))) pss_nil)))
        (pss_one (ps_expr (pe_bm PySem.F.plainAttrs_list PySem.F.slot_list_append PySem.F.type_list_append mt_append (pv 2) (pa_cons (pv 4) pa_nil)))))))
        (pss_one (ps_ret (pv 2)))))), ?_⟩
    try dsimp only
    refine q_asg (v := .str LET) ev_c fun H1 e1 => ?_
    try dsimp only
    refine q_asgL (xs := []) (el_lst ea_nil (by decide)) fun np H2 hnp e2 h2 => ?_
    have np0 : H np = none := fresh_back e1 hnp
    try dsimp only
    refine q_forLn (K := K) (a := a) (xs := ns.map V.int) (j := 3) (ev_var (i := 0) rfl) (ex_l (e1.trans e2) hS)
      (fun i σ' G => ∃ (v3 v4 v5 : Option V) (zs : List Str), σ' = [some (.ref a), some (.str LET), some (.ref np), v3, v4, v5] ∧ Ex H G ∧ G np = some (.lst (zs.map V.str)) ∧ zs.length = i ∧ zs.Nodup ∧ ∀ z ∈ zs, Word z)
      (fun H3 e3 => ⟨none, none, none, [], rfl, (e1.trans e2).trans e3, e3 _ _ h2, rfl, .nil, fun z hz => by cases hz⟩) (fun i σ' G _ ⟨_, _, _, _, _, e, _⟩ => ex_l e hS) ?_ ?_
    · rintro i y σ' G hy ⟨v3, v4, v5, zs, rfl, eG, hz, hzl, hzd, hzw⟩
      obtain ⟨m, rfl, hm⟩ := some_int hy
      have hi : i < ns.length := (List.getElem?_eq_some_iff.mp hm).1
      try dsimp only
      refine q_asgR (er_name (ev_var (i := 3) rfl)) fun w G1 g1 hw => ?_
      obtain ⟨z0, rfl, hw0⟩ := hw
      obtain ⟨p, c, hc, hp, hpa, rfl⟩ := word_split hw0
      try dsimp only
      refine q_forR1 (j := 5) (n := 8) (ea_cons ev_c ea_nil) (by decide)
        (fun t σ' G' => ∃ (w : Str) (v5 : Option V), σ' = [some (.ref a), some (.str LET), some (.ref np), some (.int m), some (.str w), v5] ∧ Ex G G' ∧ Word w ∧ (w ∉ zs ∨ (w = bump p c t ∧ ∀ s, s < t → bump p c s ∈ zs))) (fun H3 e3 => ⟨_, v5, rfl, g1.trans e3, hw0, .inr ⟨rfl, fun s hs => absurd hs (Nat.not_lt_zero _)⟩⟩) ?_ ?_
      · rintro t σ' G' ht ⟨w, v5, rfl, eG', hww, hor⟩
        try dsimp only
        refine s_when (b := decide (w ∈ zs)) (et_test (ev_is (ev_op (ev_var (i := 4) rfl) (ev_var (i := 2) rfl) (rv_inL (K := K) (neg := false) (sq_of (eG' _ _ hz)) rfl (strs_flat zs))) (by rw [← inV_strs]; rfl))) (fun h G2 g2 => ?_) (fun h G2 g2 => ⟨w, _, rfl, eG'.trans g2, hww, .inl (of_decide_eq_false h)⟩)
        have h := of_decide_eq_true h
        obtain ⟨rfl, hall⟩ := hor.resolve_left (fun z => z h)
        have l1 : (bump p c t).length ≤ 8 := hww.len.2
        have at1 : atI (bump p c t).cps.toList (-1) = some (97 + (c + t) % 26) := atI_last (by show (p ++ [97 + (c + t) % 26]).getLast? = _; simp)
        have m0 : 0 ≤ (((97 + (c + t) % 26 - 97 : Nat) : Int) + 1) % 26 ∧ (((97 + (c + t) % 26 - 97 : Nat) : Int) + 1) % 26 < 26 := by omega
        have cut : cutS (bump p c t) none (some (-1)) = txt p := by unfold bump; rw [cut_last, List.dropLast_concat]
        try dsimp only
        refine s_asg (v := .str (bump p c (t + 1))) (ev_is (ev_op (ev_is (ev_slS (ev_var (i := 4) rfl) eo_none (eo_some (i := -1) (ev_un ev_c ru_neg)) (by omega)) (congrArg V.str cut)) (ev_op (ev_var (i := 1) rfl) (ev_op (ev_int (ev_op (ev_letIx (ev_var (i := 1) rfl) (ev_op (ev_var (i := 4) rfl) (ev_un ev_c ru_neg) (rv_ixS (by omega) at1)) (by omega)) ev_c rv_I0)) ev_c (rv_I (show (0 : Int) < 26 by decide))) (rv_ixS (w := LET) (by decide) (let_at m0))) (rv_addS (by rw [txt_len, txt_one, txt_len]; show p.length + 1 ≤ 100000; omega))) ?_) fun G3 g3 => ⟨_, _, rfl, eG'.trans (g2.trans g3), bump_word hp hpa, .inr ⟨rfl, fun s hs => ?_⟩⟩
        · rw [← bump_next, show (((97 + (c + t) % 26 - 97 : Nat) : Int) + 1) % 26 = (((97 + (c + t) % 26 - 97 + 1) % 26 : Nat) : Int) by omega, Int.toNat_natCast]
        · by_cases e : s = t
          · subst e; exact h
          · exact hall s (by omega)
      rintro σ' G' ⟨w, v5, rfl, eG', hww, hor⟩
      have hout : w ∉ zs := hor.elim id fun h => (bumps_out (by omega) h.2).elim
      try dsimp only
      refine s_app (xs := zs.map V.str) (eG' _ _ hz) (ev_var (i := 2) rfl) (ev_var (i := 4) rfl) (by rw [List.length_map]; omega) fun G3 g3 => ⟨_, _, _, zs ++ [w], rfl, Ex.mut (eG.trans (eG'.trans g3)) np0, by rw [upd_same, List.map_append]; rfl, by rw [List.length_append, hzl]; rfl, ?_, fun z hz' => ?_⟩
      · exact List.nodup_append.mpr ⟨hzd, List.pairwise_singleton _ _, fun x hx y hy e => hout (by rw [← List.mem_singleton.mp hy, ← e]; exact hx)⟩
      · rcases List.mem_append.mp hz' with h | h
        · exact hzw z h
        · rw [List.mem_singleton.mp h]; exact hww
    rintro σ' G ⟨v3, v4, v5, zs, rfl, eG, hz, hzl, hzd, hzw⟩
    rw [List.length_map] at hzl
    exact ⟨_, rfl, k np G zs eG hz hzl hzd hzw⟩
def spGates (K : PySem.W.Frag) : Sp := fun vs H Q _ => ∃ (a b : Addr) (ns ss : List Int), vs = [.ref a, .ref b] ∧ SqL K H a (ns.map V.int) ∧ SqL K H b (ss.map V.int) ∧ ns.length ≤ 7 ∧ ns.length ≤ ss.length ∧ (∀ s ∈ ss, 0 ≤ s ∧ s ≤ 60) ∧ ∀ v H' (gs : List (Str × Int)), Ex H H' → NewP (fun G => ∃ p, v = .ref p ∧ Gates K G p gs) H H' → gs.length = ns.length → (gs.map (·.1)).Nodup → (∀ g ∈ gs, Word g.1 ∧ 0 ≤ g.2 ∧ g.2 ≤ 60) → gs.map (·.2) = ss.take ns.length → Q v H'
theorem ok_u_law_gates (T : Txt K mg A) : FnOk P w K mg base CX0 3 A.f_u_law_gates A.d_u_law_gates (["numbers", "stakes"] : List Str) (spGates K) := by
  refine T.F_u_law_gates.ok sc_u_law_gates (fun vs H Q E h => ?_) (fun cdv Ar outer s H vs Q E hr h => ?_)
  · obtain ⟨a, b, ns, ss, rfl, _⟩ := h
    rfl
  · obtain ⟨a, b, ns, ss, rfl, hS, hT, hl, hls, hss, k⟩ := h
    refine ⟨_, (pss_cons (ps_set (i := 2) sc_u_law_gates.nd rfl (Or.inr rfl) (pe_call (ok_u_law_names T) (hr.mono (by omega)) rfl T.g_u_law_names T.k_u_law_names (b_u_law_names T) .nil pass0 (pa_cons (pv 0) pa_nil)))
        (pss_one (ps_ret (pe_lc (own := [("k", 3)]) (g := gName 3) (tt := tYes) rfl sc_u_law_gates.nd (pi_range1 rfl T.z_range (pa_cons (pe_callB len_K (by rfl) T.z_len (by decide +kernel) (pa_cons (pv 2) pa_nil)) pa_nil)) (blkOk_by (own := [("k", 3)]) (N := N_u_law_gates) (sc := defScope s_u_law_gates) (by decide +kernel)) (fun _ _ _ _ _ => (pg_name (i := 3) sc_u_law_gates.nd rfl (Or.inl rfl))) (fun _ _ _ _ _ => pts_nil) (fun _ _ _ _ _ => (pe_tup (pa_cons (pe_ix ix_lK (pv 2) (pv 3) (fun _ _ => rfl)) (pa_cons (pe_ix ix_lK (pv 1) (pv 3) (fun _ _ => rfl)) pa_nil)))))))), ?_⟩
    try dsimp only
    refine q_asgR (er_names (K := K) (er_ev (ev_var (i := 0) rfl) fun H1 e => ⟨_, rfl, ex_l e hS⟩) hl) fun v H1 e1 hv => ?_
    obtain ⟨np, zs, rfl, hz, hzl, hzd, hzw⟩ := hv
    let gs : List (Str × Int) := (List.range zs.length).map fun k => (zs.getD k "", ss.getD k 0)
    have gsl : gs.length = ns.length := by simp [gs, hzl]
    have gse : gs.map (·.1) = zs := by
      show List.map _ (List.map _ _) = _
      rw [List.map_map]
      refine List.ext_getElem (by simp) fun i h1 h2 => ?_
      simp [List.getD_eq_getElem?_getD, List.getElem?_eq_getElem h2]
    have gsg : ∀ g ∈ gs, Word g.1 ∧ 0 ≤ g.2 ∧ g.2 ≤ 60 := fun g hg => by
      obtain ⟨i, hi, rfl⟩ := List.mem_map.mp hg
      have hi := List.mem_range.mp hi
      have h1 : zs.getD i "" ∈ zs := in_getD hi
      have h2 : ss.getD i 0 ∈ ss := in_getD (by omega)
      exact ⟨hzw _ h1, hss _ h2⟩
    have lc := en_lc (wi := iRng1 (tCons (tCB (rLenK K) (tCons (tVar 2) tNil)) tNil)) (g := gName 3) (te := tTup (tCons (tOp (rIxL K) (tVar 2) (tVar 3)) (tCons (tOp (rIxL K) (tVar 1) (tVar 3)) tNil))) (σ := [some (.ref a), some (.ref b), some (.ref np), none]) (H := H1) (n := zs.length) (vs := [3]) (fun k v G => ∃ t, v = .ref t ∧ G t = some (.tup [.str (zs.getD k ""), .int (ss.getD k 0)]))
      (by have e := ei_rng1 (σ := [some (.ref a), some (.ref b), some (.ref np), none]) (H := H1) (ta := tCons (tCB (rLenK K) (tCons (tVar 2) tNil)) tNil) (n := (zs.length : Int)) (ea_cons (ev_cb (r := rLenK K) (ea_cons (ev_var (i := 2) rfl) ea_nil) fun H2 e2 Q q => ⟨.ref np, zs.length, rfl, .inl ⟨_, sq_of (e2 _ _ hz), (List.length_map _).symm⟩, q H2 (Ex.refl H2)⟩) ea_nil) (by omega); rw [Int.toNat_natCast] at e; exact e)
      (by omega) bd_fn (fun i _ => rfl) (fun i H2 hi e2 => by
        have x1 : (zs.map V.str)[i]? = some (.str (zs.getD i "")) := by rw [List.getElem?_map, List.getD_eq_getElem?_getD, List.getElem?_eq_getElem hi]; rfl
        have x2 : (ss.map V.int)[i]? = some (.int (ss.getD i 0)) := by rw [List.getElem?_map, List.getD_eq_getElem?_getD, List.getElem?_eq_getElem (by omega)]; rfl
        exact fun H3 e3 Q q => eu_tup (ea_cons (ev_op (ev_var (i := 2) rfl) (ev_var (i := 3) rfl) (rv_ixL (K := K) (sq_of (e2 _ _ hz)) (atI_nat x1))) (ea_cons (ev_op (ev_var (i := 1) rfl) (ev_var (i := 3) rfl) (rv_ixL (K := K) (ex_l (e1.trans e2) hT) (atI_nat x2))) ea_nil)) (by show 2 ≤ 100000; decide) H3 e3 Q fun p H4 hp e4 h4 => q _ H4 e4 fun G g => ⟨p, rfl, g p _ hp h4⟩)
    try dsimp only
    have gst : gs.map (·.2) = ss.take ns.length := by
      show List.map _ (List.map _ _) = _
      rw [List.map_map]
      refine List.ext_getElem (by simp; omega) fun i h1 h2 => ?_
      have hi : i < ss.length := by rw [List.length_take] at h2; omega
      simp [List.getD_eq_getElem?_getD, List.getElem?_eq_getElem hi]
    refine lc H1 (Ex.refl _) _ fun v H2 e2 hv => k v H2 gs (e1.trans e2) ?_ gsl (by rw [gse]; exact hzd) gsg gst
    intro G g
    obtain ⟨p, vs, rfl, hp, hvl, hall⟩ := hv G fun b o hb h => g b o (fresh_back e1 hb) h
    refine ⟨p, rfl, ⟨vs, SqL.of hp, by simp [gs, hvl], fun i v hv => ?_⟩⟩
    obtain ⟨t, rfl, ht⟩ := hall i v hv
    refine ⟨t, rfl, fun g' hg' => ?_⟩
    have hi : i < zs.length := by have := (List.getElem?_eq_some_iff.mp hv).1; omega
    have : gs[i]? = some (zs.getD i "", ss.getD i 0) := by simp [gs, hi]
    rw [this] at hg'
    cases hg'
    exact st_of ht
def spLawRows (K : PySem.W.Frag) : Sp := fun vs H Q _ => ∃ (m n : Nat) (a : Addr) (ns : List Int), vs = [.int (m : Int), .int (n : Int), .ref a] ∧ SqL K H a (ns.map V.int) ∧ m * n ≤ ns.length ∧ m ≤ 100 ∧ n ≤ 100 ∧ ∀ p H' qs, Ex H H' → RowsM H H' p qs → qs.length = m → (∀ q ∈ qs, q.2.length = n ∧ ∀ x ∈ q.2, x ∈ ns) → Q (.ref p) H'
theorem ok_u_law_rows (T : Txt K mg A) : FnOk P w K mg base CX0 1 A.f_u_law_rows A.d_u_law_rows (["gates", "n", "numbers"] : List Str) (spLawRows K) := by
  refine T.F_u_law_rows.ok sc_u_law_rows (fun vs H Q E h => ?_) (fun cdv Ar outer s H vs Q E hr h => ?_)
  · obtain ⟨m, n, a, ns, rfl, _⟩ := h
    rfl
  · obtain ⟨m, n, a, ns, rfl, hS, hl, hm, hn, k⟩ := h
    refine ⟨_, (pss_cons (ps_set (i := 3) sc_u_law_rows.nd rfl (Or.inl rfl) (pe_lst pa_nil))
        (pss_cons (ps_set (i := 4) sc_u_law_rows.nd rfl (Or.inl rfl) pe_int)
        (pss_cons (ps_for PassesOwn.never rfl (pi_range1 rfl T.z_range (pa_cons (pv 0) pa_nil)) (pg_name (i := 5) sc_u_law_rows.nd rfl (Or.inl rfl)) (pss_cons (ps_set (i := 6) sc_u_law_rows.nd rfl (Or.inl rfl) (pe_lst pa_nil))
        (pss_cons (ps_for PassesOwn.never rfl (pi_range1 rfl T.z_range (pa_cons (pv 1) pa_nil)) (pg_name (i := 7) sc_u_law_rows.nd rfl (Or.inl rfl)) (pss_cons (ps_expr (pe_bm PySem.F.plainAttrs_list PySem.F.slot_list_append PySem.F.type_list_append mt_append (pv 6) (pa_cons (pe_ix ix_lK (pv 2) (pv 4) (fun _ _ => rfl)) pa_nil)))
        (pss_one (ps_set (i := 4) sc_u_law_rows.nd rfl (Or.inl rfl) (pe_op op_add (pv 4) pe_int)))))
        (pss_one (ps_expr (pe_bm PySem.F.plainAttrs_list PySem.F.slot_list_append PySem.F.type_list_append mt_append (pv 3) (pa_cons (pv 6) pa_nil)))))))
        (pss_one (ps_ret (pv 3)))))), ?_⟩
    try dsimp only
    refine q_asgL (xs := []) (el_lst ea_nil (by decide)) fun rp H1 hrp e1 h1 => ?_
    try dsimp only
    refine q_asg (v := .int 0) ev_c fun H2 e2 => ?_
    try dsimp only
    refine q_forR1 (j := 5) (n := (m : Int)) (ea_cons (ev_var (i := 0) rfl) ea_nil) (by omega)
      (fun i σ' G => ∃ (v5 v6 v7 : Option V) (qs : List (Addr × List Int)), σ' = [some (.int (m : Int)), some (.int (n : Int)), some (.ref a), some (.ref rp), some (.int ((i * n : Nat) : Int)), v5, v6, v7] ∧ Ex H G ∧ RowsM H G rp qs ∧ qs.length = i ∧ ∀ q ∈ qs, q.2.length = n ∧ ∀ x ∈ q.2, x ∈ ns)
      (fun H3 e3 => ⟨none, none, none, [], by rw [Nat.zero_mul]; rfl, (e1.trans e2).trans e3, ⟨hrp, (e2.trans e3) _ _ h1, .nil, fun q hq => by cases hq⟩, rfl, fun q hq => by cases hq⟩) ?_ ?_
    · rintro i σ' G hi ⟨v5, v6, v7, qs, rfl, eG, hM, hql, hqs⟩
      try dsimp only
      refine q_asgL (xs := []) (el_lst ea_nil (by decide)) fun b G1 hb g1 hb1 => ?_
      have hi' : i + 1 ≤ m := by omega
      have him : (i + 1) * n ≤ m * n := Nat.mul_le_mul_right n hi'
      rw [Nat.add_mul, Nat.one_mul] at him
      try dsimp only
      refine q_forR1 (j := 7) (n := (n : Int)) (ea_cons (ev_var (i := 1) rfl) ea_nil) (by omega)
        (fun j σ' G' => ∃ (v7 : Option V) (zs : List Int), σ' = [some (.int (m : Int)), some (.int (n : Int)), some (.ref a), some (.ref rp), some (.int ((i * n + j : Nat) : Int)), some (.int (i : Int)), some (.ref b), v7] ∧ Ex G G' ∧ G' b = some (.lst (zs.map V.int)) ∧ zs.length = j ∧ ∀ x ∈ zs, x ∈ ns)
        (fun H3 e3 => ⟨_, [], rfl, g1.trans e3, e3 _ _ hb1, rfl, fun x hx => by cases hx⟩) ?_ ?_
      · rintro j σ' G' hj ⟨v7', zs, rfl, eG', hz, hzl, hzs⟩
        have hat : i * n + j < ns.length := by omega
        have x1 : (ns.map V.int)[i * n + j]? = some (.int ns[i * n + j]) := by rw [List.getElem?_map, List.getElem?_eq_getElem hat]; rfl
        try dsimp only
        refine q_app (xs := zs.map V.int) hz (ev_var (i := 6) rfl) (ev_op (ev_var (i := 2) rfl) (ev_var (i := 4) rfl) (rv_ixL (K := K) (ex_l (eG.trans eG') hS) (atI_nat x1))) (by rw [List.length_map]; omega) fun G2 g2 => ?_
        try dsimp only
        refine s_asg (v := .int ((i * n + (j + 1) : Nat) : Int)) (ev_is (ev_op (ev_var (i := 4) rfl) ev_c rv_I0) (congrArg V.int (by omega))) fun G3 g3 => ⟨_, zs ++ [ns[i * n + j]], rfl, (Ex.mut (eG'.trans g2) hb).trans g3, g3 _ _ (by rw [upd_same, List.map_append]; rfl), by rw [List.length_append, hzl]; rfl, fun x hx => ?_⟩
        rcases List.mem_append.mp hx with h | h
        · exact hzs x h
        · rw [List.mem_singleton.mp h]; exact List.getElem_mem hat
      rintro σ' G' ⟨v7', zs, rfl, eG', hz, hzl, hzs⟩
      rw [Int.toNat_natCast] at hzl
      have hrG := eG' _ _ hM.2.1
      have hbr : b ≠ rp := fun z => by rw [z, hM.2.1] at hb; cases hb
      try dsimp only
      refine s_app (xs := qs.map fun q => V.ref q.1) hrG (ev_var (i := 3) rfl) (ev_var (i := 6) rfl) (by rw [List.length_map]; omega) fun G3 g3 => ?_
      refine ⟨some (.int (i : Int)), some (.ref b), v7', qs ++ [(b, zs)], by rw [show i * n + (n : Int).toNat = (i + 1) * n by rw [Int.toNat_natCast, Nat.add_mul, Nat.one_mul]], Ex.mut (eG.trans (eG'.trans g3)) hM.1, ⟨hM.1, by rw [upd_same, List.map_append]; rfl, ?_, fun q hq => ?_⟩, by rw [List.length_append, hql]; rfl, fun q hq => ?_⟩
      · rw [List.map_append]
        refine List.nodup_append.mpr ⟨hM.2.2.1, List.pairwise_singleton _ _, fun x hx y hy e => ?_⟩
        obtain ⟨q, hq, rfl⟩ := List.mem_map.mp hx
        have hy : y = b := List.mem_singleton.mp hy
        rw [hy] at e
        have := (hM.2.2.2 q hq).2.2
        rw [e, hb] at this
        cases this
      · rcases List.mem_append.mp hq with h | h
        · obtain ⟨z1, z2, z3⟩ := hM.2.2.2 q h
          exact ⟨z1, z2, by rw [upd_ne z1]; exact (eG'.trans g3) _ _ z3⟩
        · rw [List.mem_singleton.mp h]
          exact ⟨hbr, fresh_back eG hb, by rw [upd_ne hbr]; exact g3 _ _ hz⟩
      · rcases List.mem_append.mp hq with h | h
        · exact hqs q h
        · rw [List.mem_singleton.mp h]; exact ⟨hzl, hzs⟩
    rintro σ' G ⟨v5, v6, v7, qs, rfl, eG, hM, hql, hqs⟩
    rw [Int.toNat_natCast] at hql
    exact ⟨_, rfl, k rp G qs eG hM hql hqs⟩
theorem isi {K : PySem.W.Frag} {H : Hp} {x : V} {t n : String} {b : Bool} {Q : VK} (ty : TyX K H x (.type t)) (h : kitB t n = some b) (q : Q (.bl b) H) : rIsi K [x, .ty n] H Q := ⟨x, .ty n, _, _, b, rfl, .ty n, ty, kit_ty h, q⟩
def sp_is_int (K : PySem.W.Frag) : Sp := fun vs H Q _ => ∃ i : Int, vs = [.int i] ∧ Q (.bl true) H
theorem ok_u_law_is_int (T : Txt K mg A) : FnOk P w K mg base CX0 1 A.f_u_law_is_int A.d_u_law_is_int (["x"] : List Str) (sp_is_int K) := by
  refine T.F_u_law_is_int.ok sc_u_law_is_int (fun vs H Q E h => ?_) (fun cdv Ar outer s H vs Q E hr h => ?_)
  · obtain ⟨i, rfl, _⟩ := h
    rfl
  · obtain ⟨i, rfl, q⟩ := h
    refine ⟨_, (pss_one (ps_ret (pe_and (pe_callB isi_K (by rfl) T.z_isinstance (by decide +kernel) (pa_cons (pv 0) (pa_cons (pe_bltn (v := .ty "int") (by rfl) T.z_int (by decide +kernel) rfl) pa_nil))) (pe_one (pe_not (pe_callB isi_K (by rfl) T.z_isinstance (by decide +kernel) (pa_cons (pv 0) (pa_cons (pe_bltn (v := .ty "bool") (by rfl) T.z_bool (by decide +kernel) rfl) pa_nil)))))))), ?_⟩
    refine ⟨_, rfl, _, _, _, _, true, rfl, .ty _, .base (.int i), kit_ty (by decide +kernel), ⟨_, rfl, iteT ?_⟩⟩
    exact ⟨_, rfl, _, _, _, _, false, rfl, .ty _, .base (.int i), kit_ty (by decide +kernel), ⟨_, rfl, q⟩⟩
/-- like data are told alike -/
def sp_same (K : PySem.W.Frag) (n : Nat) : Sp := fun vs H Q _ => ∃ (x y : V) (d : PyData), vs = [x, y] ∧ Dp K H x d ∧ Dp K H y d ∧ Flat n d ∧ Q (.bl true) H
theorem same_loop {K : PySem.W.Frag} {H : Hp} {n k : Nat} {xs ys : List V} {ds : List PyData} {x y : V} {kv : Option V} {Q : VK} {N : L2.St → Hp → Prop} {tb : TS} (hk : k = ds.length) (hx : DpAll K H xs ds) (hy : DpAll K H ys ds) (hf : ∀ d ∈ ds, Flat n d) (hl : ds.length ≤ 40000)
    (hb : ∀ (i : Nat) (u v : V) (d : PyData) (kv : Option V) (D : Ends), i < ds.length → xs[i]? = some u → ys[i]? = some v → Dp K H u d → Dp K H v d → Flat n d → D.nx [some x, some y, some (.int (i : Int))] H → tb D ([some x, some y, kv].set 2 (some (.int (i : Int)))) H)
    (hq : ∀ kv, N [some x, some y, kv] H) :
    ∃ W : Nat → Nat → L2.St → Hp → Prop, (∃ m, W 0 m [some x, some y, kv] H) ∧ ∀ i m σ H, W i m σ H →
      ((Itr 0 k).stop i H ∧ N σ H) ∨ ((Itr 0 k).go i H ∧ ∃ N' : L2.St → Hp → Prop, (∀ σ' H', N' σ' H' → ∃ m', m' < m ∧ W (i + 1) m' σ' H') ∧ ∀ z H', (Itr 0 k).yld i H z H' → gName 2 z σ H' fun σ2 H2 => tb { nx := N', ct := N', bk := N, rt := Q } σ2 H2) := by
  subst hk
  refine for_range (D := { nx := N, rt := Q }) (fun i σ H' => H' = H ∧ ∃ kv, σ = [some x, some y, kv]) ⟨rfl, _, rfl⟩ ?_ ?_
  · rintro i σ H' hi ⟨rfl, kv, rfl⟩
    obtain ⟨_, gx⟩ := dp_get hx
    obtain ⟨_, gy⟩ := dp_get hy
    have ed := List.getElem?_eq_getElem hi
    obtain ⟨u, eu, du⟩ := gx i _ ed
    obtain ⟨v, ev, dv⟩ := gy i _ ed
    show tb _ ([some x, some y, kv].set 2 (some (.int (0 + (i : Int))))) H'
    rw [Int.zero_add]
    exact hb i u v _ kv _ hi eu ev du dv (hf _ (List.getElem_mem hi)) ⟨rfl, _, rfl⟩
  · rintro σ H' ⟨rfl, kv, rfl⟩
    exact hq kv
theorem ok_u_law_same_n (T : Txt K mg A) : ∀ n, FnOk P w K mg base CX0 (n + 2) A.f_u_law_same A.d_u_law_same (["got", "due"] : List Str) (sp_same K n) := by
  intro n
  induction n with
  | zero => exact ⟨fun vs H Q E h => by obtain ⟨x, y, d, rfl, _⟩ := h; rfl, fun Ar outer s H args us vs Q E _ _ _ _ h => by obtain ⟨x, y, d, _, _, _, hf, _⟩ := h; exact hf.elim⟩
  | succ n ih =>
    refine T.F_u_law_same.ok sc_u_law_same (fun vs H Q E h => ?_) (fun cdv Ar outer s H vs Q E hr h => ?_)
    · obtain ⟨x, y, d, rfl, _⟩ := h
      rfl
    · obtain ⟨x, y, d, rfl, hx, hy, hf, q⟩ := h
      have ihx := ih
      refine ⟨_, (pss_cons (ps_if (pt_cmpR op_isN (pv 1) pe_non (nomark _)) (pss_one (ps_ret (pe_cmpR op_isN (pv 0) pe_non (nomark _)))) pss_nil)
        (pss_cons (ps_if (pt_cmpR op_isK (pv 1) pe_bl (nomark _)) (pss_one (ps_ret (pe_cmpR op_isK (pv 0) pe_bl (nomark _)))) pss_nil)
        (pss_cons (ps_if (pt_cmpR op_isK (pv 1) pe_bl (nomark _)) (pss_one (ps_ret (pe_cmpR op_isK (pv 0) pe_bl (nomark _)))) pss_nil)
        (pss_cons (ps_if (pt_val (pe_callB isi_K (by rfl) T.z_isinstance (by decide +kernel) (pa_cons (pv 1) (pa_cons (pe_bltn (v := .ty "int") (by rfl) T.z_int (by decide +kernel) rfl) pa_nil)))) (pss_one (ps_ret (pe_and (pe_call (ok_u_law_is_int T) (hr.mono (by omega)) rfl T.g_u_law_is_int T.k_u_law_is_int (b_u_law_is_int T) .nil pass0 (pa_cons (pv 0) pa_nil)) (pe_one (pe_cmpR op_eq (pv 0) (pv 1) (nomark _)))))) pss_nil)
        (pss_cons (ps_if (pt_val (pe_callB isi_K (by rfl) T.z_isinstance (by decide +kernel) (pa_cons (pv 1) (pa_cons (pe_bltn (v := .ty "str") (by rfl) T.z_str (by decide +kernel) rfl) pa_nil)))) (pss_one (ps_ret (pe_and (pe_callB isi_K (by rfl) T.z_isinstance (by decide +kernel) (pa_cons (pv 0) (pa_cons (pe_bltn (v := .ty "str") (by rfl) T.z_str (by decide +kernel) rfl) pa_nil))) (pe_one (pe_cmpR op_eq (pv 0) (pv 1) (nomark _)))))) pss_nil)
        (pss_cons (ps_if (pt_val (pe_callB isi_K (by rfl) T.z_isinstance (by decide +kernel) (pa_cons (pv 1) (pa_cons (pe_bltn (v := .ty "tuple") (by rfl) T.z_tuple (by decide +kernel) rfl) pa_nil)))) (pss_one (ps_if (PW.pt (pw_or (pt_not (pt_val (pe_callB isi_K (by rfl) T.z_isinstance (by decide +kernel) (pa_cons (pv 0) (pa_cons (pe_bltn (v := .ty "tuple") (by rfl) T.z_tuple (by decide +kernel) rfl) pa_nil))))) (pw_or1 (pt_cmpR op_ne (pe_callB len_K (by rfl) T.z_len (by decide +kernel) (pa_cons (pv 0) pa_nil)) (pe_callB len_K (by rfl) T.z_len (by decide +kernel) (pa_cons (pv 1) pa_nil)) (nomark _))))) (pss_one (ps_ret pe_bl)) pss_nil)) (pss_one (ps_if (PW.pt (pw_or (pt_not (pt_val (pe_callB isi_K (by rfl) T.z_isinstance (by decide +kernel) (pa_cons (pv 0) (pa_cons (pe_bltn (v := .ty "list") (by rfl) T.z_list (by decide +kernel) rfl) pa_nil))))) (pw_or1 (pt_cmpR op_ne (pe_callB len_K (by rfl) T.z_len (by decide +kernel) (pa_cons (pv 0) pa_nil)) (pe_callB len_K (by rfl) T.z_len (by decide +kernel) (pa_cons (pv 1) pa_nil)) (nomark _))))) (pss_one (ps_ret pe_bl)) pss_nil)))
        (pss_cons (ps_for PassesOwn.never rfl (pi_range1 rfl T.z_range (pa_cons (pe_callB len_K (by rfl) T.z_len (by decide +kernel) (pa_cons (pv 1) pa_nil)) pa_nil)) (pg_name (i := 2) sc_u_law_same.nd rfl (Or.inl rfl)) (pss_one (ps_if (pt_not (pt_val (pe_call ih (hr.mono (by omega)) rfl T.g_u_law_same T.k_u_law_same (b_u_law_same T) .nil pass0 (pa_cons (pe_ix ix_sK (pv 0) (pv 2) (fun _ _ => rfl)) (pa_cons (pe_ix ix_sK (pv 1) (pv 2) (fun _ _ => rfl)) pa_nil))))) (pss_one (ps_ret pe_bl)) pss_nil)))
        (pss_one (ps_ret pe_bl))))))))), ?_⟩
      cases hx with
      | non => cases hy; exact ⟨_, rfl, rfl, _, rfl, wayT rfl ⟨_, rfl, rfl, q⟩⟩
      | bl b =>
        cases hy
        refine ⟨_, rfl, rfl, _, rfl, wayF (fun z => by cases z) ?_⟩
        cases b with
        | true => exact ⟨_, rfl, _, rfl, _, rfl, wayT rfl ⟨_, rfl, _, rfl, q⟩⟩
        | false => exact ⟨_, rfl, _, rfl, _, rfl, wayF (fun z => by cases z) ⟨_, rfl, _, rfl, _, rfl, wayT rfl ⟨_, rfl, _, rfl, q⟩⟩⟩
      | int i =>
        cases hy
        refine ⟨_, rfl, rfl, _, rfl, wayF (fun z => by cases z) ⟨_, rfl, _, rfl, _, rfl, wayF (fun z => by cases z) ⟨_, rfl, _, rfl, _, rfl, wayF (fun z => by cases z) ?_⟩⟩⟩
        refine ⟨_, rfl, _, _, _, _, true, rfl, .ty _, .base (.int i), kit_ty (by decide +kernel), ⟨_, rfl, iteT ?_⟩⟩
        refine ⟨_, rfl, i, rfl, _, rfl, iteT ?_⟩
        refine ⟨_, rfl, _, rfl, rfl, ?_⟩
        rw [decide_eq_true rfl]
        exact q
      | str z =>
        cases hy
        refine ⟨_, rfl, rfl, _, rfl, wayF (fun z => by cases z) ⟨_, rfl, _, rfl, _, rfl, wayF (fun z => by cases z) ⟨_, rfl, _, rfl, _, rfl, wayF (fun z => by cases z) ?_⟩⟩⟩
        refine ⟨_, rfl, _, _, _, _, false, rfl, .ty _, .base (.str z), kit_ty (by decide +kernel), ⟨_, rfl, iteF ?_⟩⟩
        refine ⟨_, rfl, _, _, _, _, true, rfl, .ty _, .base (.str z), kit_ty (by decide +kernel), ⟨_, rfl, iteT ?_⟩⟩
        refine ⟨_, rfl, _, _, _, _, true, rfl, .ty _, .base (.str z), kit_ty (by decide +kernel), ⟨_, rfl, iteT ?_⟩⟩
        refine ⟨_, rfl, _, rfl, rfl, ?_⟩
        rw [decide_eq_true rfl]
        exact q
      | lst sx ax =>
        cases hy with
        | lst sy ay =>
          refine ⟨_, rfl, rfl, _, rfl, wayF (fun z => by cases z) ⟨_, rfl, _, rfl, _, rfl, wayF (fun z => by cases z) ⟨_, rfl, _, rfl, _, rfl, wayF (fun z => by cases z) ?_⟩⟩⟩
          refine ⟨_, rfl, _, _, _, _, false, rfl, .ty _, tyx_l sy, kit_ty (by decide +kernel), ⟨_, rfl, iteF ?_⟩⟩
          refine ⟨_, rfl, _, _, _, _, false, rfl, .ty _, tyx_l sy, kit_ty (by decide +kernel), ⟨_, rfl, iteF ?_⟩⟩
          refine ⟨_, rfl, _, _, _, _, false, rfl, .ty _, tyx_l sy, kit_ty (by decide +kernel), ⟨_, rfl, iteF ?_⟩⟩
          refine ⟨_, rfl, _, _, _, _, true, rfl, .ty _, tyx_l sx, kit_ty (by decide +kernel), ⟨_, rfl, iteF ?_⟩⟩
          have lx := (dp_get ax).1
          have ly := (dp_get ay).1
          refine ⟨_, rfl, _, _, rfl, .inl ⟨_, sx, rfl⟩, _, rfl, _, _, rfl, .inl ⟨_, sy, rfl⟩, rfl, _, rfl, wayNT (by rw [lx, ly]) ?_⟩
          have h40 := hf.1
          refine ⟨_, rfl, _, _, rfl, .inl ⟨_, sy, rfl⟩, _, rfl, by omega, by omega, same_loop (by omega) ax ay hf.2 hf.1 (fun i u v d kv D hi eu ev du dv fd hn => ?_) (fun kv => q)⟩
          refine ⟨_, rfl, _, rfl, .inl ⟨_, _, _, u, rfl, rfl, sx, atI_nat eu, ?_⟩⟩
          refine ⟨_, rfl, _, rfl, .inl ⟨_, _, _, v, rfl, rfl, sy, atI_nat ev, ?_⟩⟩
          exact ⟨u, v, d, rfl, du, dv, fd, _, rfl, iteF hn⟩
      | tup sx ax =>
        cases hy with
        | tup sy ay =>
          refine ⟨_, rfl, rfl, _, rfl, wayF (fun z => by cases z) ⟨_, rfl, _, rfl, _, rfl, wayF (fun z => by cases z) ⟨_, rfl, _, rfl, _, rfl, wayF (fun z => by cases z) ?_⟩⟩⟩
          refine ⟨_, rfl, _, _, _, _, false, rfl, .ty _, tyx_t sy, kit_ty (by decide +kernel), ⟨_, rfl, iteF ?_⟩⟩
          refine ⟨_, rfl, _, _, _, _, false, rfl, .ty _, tyx_t sy, kit_ty (by decide +kernel), ⟨_, rfl, iteF ?_⟩⟩
          refine ⟨_, rfl, _, _, _, _, true, rfl, .ty _, tyx_t sy, kit_ty (by decide +kernel), ⟨_, rfl, iteT ?_⟩⟩
          refine ⟨_, rfl, _, _, _, _, true, rfl, .ty _, tyx_t sx, kit_ty (by decide +kernel), ⟨_, rfl, iteF ?_⟩⟩
          have lx := (dp_get ax).1
          have ly := (dp_get ay).1
          refine ⟨_, rfl, _, _, rfl, .inr ⟨_, sx, rfl⟩, _, rfl, _, _, rfl, .inr ⟨_, sy, rfl⟩, rfl, _, rfl, wayNT (by rw [lx, ly]) ?_⟩
          have h40 := hf.1
          refine ⟨_, rfl, _, _, rfl, .inr ⟨_, sy, rfl⟩, _, rfl, by omega, by omega, same_loop (by omega) ax ay hf.2 hf.1 (fun i u v d kv D hi eu ev du dv fd hn => ?_) (fun kv => q)⟩
          refine ⟨_, rfl, _, rfl, .inr (.inl ⟨_, _, _, u, rfl, rfl, sx, atI_nat eu, ?_⟩)⟩
          refine ⟨_, rfl, _, rfl, .inr (.inl ⟨_, _, _, v, rfl, rfl, sy, atI_nat ev, ?_⟩)⟩
          exact ⟨u, v, d, rfl, du, dv, fd, _, rfl, iteF hn⟩
theorem ok_u_law_same (T : Txt K mg A) : FnOk P w K mg base CX0 6 A.f_u_law_same A.d_u_law_same (["got", "due"] : List Str) (sp_same K 4) := ok_u_law_same_n T 4
structure GoodG (gs : List (Str × Int)) (m : Nat) : Prop where
  len : gs.length = m
  nd : (gs.map (·.1)).Nodup
  all : ∀ g ∈ gs, Word g.1 ∧ 0 ≤ g.2 ∧ g.2 ≤ 60
theorem ev_ixl {K : PySem.W.Frag} {tl ti : TE} {σ : L2.St} {H : Hp} {xs : List Int} {i : Int} (hl : EvL tl σ H (xs.map V.int)) (hi : Ev ti σ H (.int i)) (hb : 0 ≤ i ∧ i < (xs.length : Int)) : Ev (tOp (rIxL K) tl ti) σ H (.int (xs.getD i.toNat 0)) := fun H1 e Q q => hl H1 e _ fun p H2 _ e2 h2 => hi H2 (e.trans e2) _ fun H3 e3 =>
  ⟨p, _, i, _, rfl, rfl, sq_of (e3 _ _ h2), atI_ints hb.1 hb.2, q H3 (e2.trans e3)⟩
theorem en_U {te : TE} {σ : L2.St} {H : Hp} {xs : List V} (h : EvU te σ H xs) : EvNew te σ H fun v G => ∃ t, v = .ref t ∧ G t = some (.tup xs) := fun H1 e Q q => h H1 e _ fun p H2 hp e2 h2 => q _ H2 e2 fun G g => ⟨p, rfl, g p _ hp h2⟩
theorem en_watchH {K : PySem.W.Frag} {A : Ads} {E : XK} {σ : L2.St} {H : Hp} {t1 t2 : TE} {v : V} {n : Nat} {gs : List (Str × Int)} {xss : List (List Int)} (h1 : Ev t1 σ H v) (h2 : EvR t2 σ H fun v G => ∃ p, v = .ref p ∧ RowsL K G p xss) (hv : HouseIs A.C_House v H (n : Int) gs) (hl : gs.length ≤ 100) (hS : Shape (n : Int) gs.length xss) (hn : 1 ≤ n ∧ n ≤ 1000) :
    EvR (tMake A.C_Watch (spWatch K A) [] E (tCons t1 (tCons t2 tNil))) σ H fun w G => WatchOk K A w G v n gs xss := fun H1 e Q q => (en_watch (K := K) (A := A) h1 h2 hv hl hS).er H1 e Q fun w H2 e2 hw => q w H2 e2 ⟨hw, hv.ex (e.trans e2), hl, hS, hn⟩
theorem er_watchN {K : PySem.W.Frag} {A : Ads} {E : XK} {σ : L2.St} {H : Hp} {t1 t2 : TE} {n : Nat} {gs : List (Str × Int)} {xss : List (List Int)} (h1 : EvR t1 σ H fun v G => HouseIs A.C_House v G (n : Int) gs) (h2 : EvR t2 σ H fun v G => ∃ p, v = .ref p ∧ RowsL K G p xss) (hl : gs.length ≤ 100) (hS : Shape (n : Int) gs.length xss) (hn : 1 ≤ n ∧ n ≤ 1000) :
    EvR (tMake A.C_Watch (spWatch K A) [] E (tCons t1 (tCons t2 tNil))) σ H fun w G => ∃ h, WatchOk K A w G h n gs xss := fun H1 e Q q => h1 H1 e _ fun v H2 e2 hv =>
  en_watchH (K := K) (A := A) (E := E) (t1 := tC v) (t2 := t2) (σ := σ) (H := H2) ev_c (h2.mono (e.trans e2)) hv hl hS hn H2 (Ex.refl _) Q fun w H3 e3 hw => q w H3 (e2.trans e3) ⟨v, hw⟩
theorem er_mapR {K : PySem.W.Frag} {σ : L2.St} {H : Hp} {te tl : TE} {j : Nat} {vs : List Nat} {p : Addr} {xss : List (List Int)} (f : List Int → List Int) (h : Ev tl σ H (.ref p)) (hR : RowsL K H p xss) (hz : xss.length ≤ 40000) (hw : ∀ x, wipe ((wipe σ vs).set j x) vs = wipe σ vs)
    (he : ∀ t xs H1, Ex H H1 → xs ∈ xss → SqL K H1 t (xs.map V.int) → EvNew te ((wipe σ vs).set j (some (.ref t))) H1 fun v G => ∃ t, v = .ref t ∧ G t = some (.lst ((f xs).map V.int))) :
    EvNew (tLc (iList K tl) (gName j) tYes te vs) σ H fun v G => ∃ p, v = .ref p ∧ RowsL K G p (xss.map f) := by
  obtain ⟨us, hus, hul, hua⟩ := hR.all
  refine (en_lc (fun i w G => ∃ t, w = .ref t ∧ G t = some (.lst (((xss.map f).getD i []).map V.int))) (ei_list (K := K) (eb_ev h fun G e => ⟨p, rfl, ex_l e hus⟩)) (by omega) bd_at (fun i _ => hw _) fun i H1 hi e1 => ?_).imp fun v G hv => rows_of hv (by rw [List.length_map, hul])
  have e : us[i]? = some us[i] := List.getElem?_eq_getElem hi
  obtain ⟨t, ht, hT⟩ := hua i _ e
  have hi' : i < xss.length := by omega
  have e2 : (xss.map f).getD i [] = f (xss.getD i []) := by
    rw [List.getD_eq_getElem?_getD, List.getElem?_map, List.getD_eq_getElem?_getD, List.getElem?_eq_getElem hi']
    rfl
  rw [e, ht, e2]
  exact he t _ H1 e1 (in_getD hi') (ex_l e1 hT)
theorem en_copyR {K : PySem.W.Frag} {te : TE} {σ : L2.St} {H : Hp} {p : Addr} {xs : List V} (h : Ev te σ H (.ref p)) (hp : SqL K H p xs) : EvNew (tCB (rListK K) (tCons te tNil)) σ H fun v G => ∃ t, v = .ref t ∧ G t = some (.lst xs) := fun H1 e Q q =>
  h H1 e _ fun H2 e2 => ⟨p, xs, rfl, .inl (ex_l (e.trans e2) hp), fun l hl => q _ _ (e2.trans (Ex.new hl)) fun G g => ⟨l, rfl, g l _ (fresh_back e2 hl) upd_same⟩⟩
theorem el_copyB {K : PySem.W.Frag} {te : TE} {σ : L2.St} {H : Hp} {p : Addr} {xs : List V} (h : Ev te σ H (.ref p)) (hp : SqL K H p xs) : EvL (tCB (rListK K) (tCons te tNil)) σ H xs := fun H1 e Q q =>
  h H1 e _ fun H2 e2 => ⟨p, xs, rfl, .inl (ex_l (e.trans e2) hp), fun l hl => q l _ (fresh_back e2 hl) (e2.trans (Ex.new hl)) upd_same⟩
theorem en_mapX {K : PySem.W.Frag} {σ : L2.St} {H : Hp} {te tl : TE} {j : Nat} {vs : List Nat} {p : Addr} {xss : List (List Int)} (f : List Int → List Int) (h : Ev tl σ H (.ref p)) (hR : RowsL K H p xss) (hz : xss.length ≤ 40000) (hw : ∀ x, wipe ((wipe σ vs).set j x) vs = wipe σ vs)
    (he : ∀ t xs H1, Ex H H1 → xs ∈ xss → SqL K H1 t (xs.map V.int) → EvNew te ((wipe σ vs).set j (some (.ref t))) H1 fun v G => ∃ t, v = .ref t ∧ G t = some (.lst ((f xs).map V.int))) :
    EvNew (tLc (iList K tl) (gName j) tYes te vs) σ H (ListP xss.length fun i w G => ∃ t, w = .ref t ∧ G t = some (.lst (((xss.map f).getD i []).map V.int))) := by
  obtain ⟨us, hus, hul, hua⟩ := hR.all
  rw [← hul]
  refine en_lc (fun i w G => ∃ t, w = .ref t ∧ G t = some (.lst (((xss.map f).getD i []).map V.int))) (ei_list (K := K) (eb_ev h fun G e => ⟨p, rfl, ex_l e hus⟩)) (by omega) bd_at (fun i _ => hw _) fun i H1 hi e1 => ?_
  have e : us[i]? = some us[i] := List.getElem?_eq_getElem hi
  obtain ⟨t, ht, hT⟩ := hua i _ e
  have hi' : i < xss.length := by omega
  have e2 : (xss.map f).getD i [] = f (xss.getD i []) := by
    rw [List.getD_eq_getElem?_getD, List.getElem?_map, List.getD_eq_getElem?_getD, List.getElem?_eq_getElem hi']
    rfl
  rw [e, ht, e2]
  exact he t _ H1 e1 (in_getD hi') (ex_l e1 hT)
theorem ev_inL {K : PySem.W.Frag} {ta tl : TE} {σ : L2.St} {H : Hp} {x : Int} {ys : List Int} (ha : Ev ta σ H (.int x)) (hl : EvL tl σ H (ys.map V.int)) : Ev (tOp (rIn K false) ta tl) σ H (.bl (decide (x ∈ ys))) := fun H1 e Q q =>
  ha H1 e _ fun H2 e2 => hl H2 (e.trans e2) _ fun p H3 _ e3 h3 => rv_inI (sq_of h3) H3 (Ex.refl _) Q fun H4 e4 => q H4 ((e2.trans e3).trans e4)
theorem s_bm2 {K : PySem.W.Frag} {R : V → List V → Hp → VK → Prop} {ta tp te : TE} {D : Ends} {σ : L2.St} {H : Hp} {l : Addr} {xs : List V} {i : Int} {v : V} (hl : H l = some (.lst xs)) (ha : Ev ta σ H (.ref l)) (hp : Ev tp σ H (.int i)) (h : Ev te σ H v)
    (k : ∀ H1, Ex H H1 → R (.ref l) [.int i, v] H1 (fun _ H2 => D.nx σ H2)) : tDrop (tBM K "list" R ta (tCons tp (tCons te tNil))) D σ H := ha H (Ex.refl H) _ fun H1 e1 =>
  ⟨Or.inl ⟨rfl, xs, sq_of (e1 l _ hl)⟩, hp H1 e1 _ fun H2 e2 => h H2 (e1.trans e2) _ fun H3 e3 => k H3 ((e1.trans e2).trans e3)⟩
theorem eraseIdx_mapV : ∀ (xs : List Int) (i : Nat), (xs.map V.int).eraseIdx i = (xs.eraseIdx i).map V.int
  | [], _ => rfl
  | x :: xs, 0 => rfl
  | x :: xs, i + 1 => by rw [List.map_cons, List.eraseIdx_cons_succ, List.eraseIdx_cons_succ, List.map_cons, eraseIdx_mapV xs i]
theorem q_asgXN {te : TE} {tz : TS} {D : Ends} {σ : L2.St} {H : Hp} {i : Nat} {P : V → Hp → Prop} (h : EvNew te σ H P) (k : ∀ v H1, Ex H H1 → NewP (fun G => P v G) H H1 → tz D (σ.set i (some v)) H1) : tSeq (tAsg te (gName i)) tz D σ H := h H (Ex.refl H) _ fun v H1 e hn => k v H1 e hn
theorem s_popAt {K : PySem.W.Frag} {ta tp : TE} {D : Ends} {σ : L2.St} {H : Hp} {l : Addr} {xs : List V} {i : Nat} (hl : H l = some (.lst xs)) (ha : Ev ta σ H (.ref l)) (hp : Ev tp σ H (.int (i : Int))) (hi : i < xs.length) (hz : xs.length ≤ 100000) (k : ∀ H1, Ex H H1 → D.nx σ (upd H1 l (.lst (xs.eraseIdx i)))) : tDrop (tBM K "list" rPopAt ta (tCons tp tNil)) D σ H := ha H (Ex.refl H) _ fun H1 e1 =>
  ⟨Or.inl ⟨rfl, xs, sq_of (e1 l _ hl)⟩, hp H1 e1 _ fun H2 e2 => ⟨l, xs, (i : Int), i, xs[i], rfl, rfl, e2 _ _ (e1 _ _ hl), by omega, by omega, by rw [PySem.seqIndex_of (by omega) (by omega), Int.toNat_natCast], List.getElem?_eq_getElem hi, k H2 (e1.trans e2)⟩⟩
/-- a list of rows that were all made since; what is known is how long they are -/
structure BR (H0 G : Hp) (b : Addr) (vs : List V) (lo hi : Nat) : Prop where
  b0 : H0 b = none
  b1 : G b = some (.lst vs)
  at_ : ∀ v ∈ vs, ∃ (t : Addr) (xs : List Int), v = .ref t ∧ t ≠ b ∧ H0 t = none ∧ G t = some (.lst (xs.map V.int)) ∧ lo ≤ xs.length ∧ xs.length ≤ hi
theorem BR.ex {H0 G G' : Hp} {b : Addr} {vs : List V} {lo hi : Nat} (h : BR H0 G b vs lo hi) (e : Ex G G') : BR H0 G' b vs lo hi := ⟨h.b0, e _ _ h.b1, fun v hv => by
  obtain ⟨t, xs, z1, z2, z3, z4, z5⟩ := h.at_ v hv
  exact ⟨t, xs, z1, z2, z3, e _ _ z4, z5⟩⟩
theorem BR.wide {H0 G : Hp} {b : Addr} {vs : List V} {lo hi lo' hi' : Nat} (h : BR H0 G b vs lo hi) (h1 : lo' ≤ lo) (h2 : hi ≤ hi') : BR H0 G b vs lo' hi' := ⟨h.b0, h.b1, fun v hv => by
  obtain ⟨t, xs, z1, z2, z3, z4, z5, z6⟩ := h.at_ v hv
  exact ⟨t, xs, z1, z2, z3, z4, by omega, by omega⟩⟩
theorem BR.get {H0 G : Hp} {b t : Addr} {vs : List V} {lo hi : Nat} (h : BR H0 G b vs lo hi) (hm : V.ref t ∈ vs) : H0 t = none ∧ t ≠ b ∧ ∃ xs : List Int, G t = some (.lst (xs.map V.int)) ∧ lo ≤ xs.length ∧ xs.length ≤ hi := by
  obtain ⟨t', xs, z1, z2, z3, z4, z5, z6⟩ := h.at_ _ hm
  cases z1
  exact ⟨z3, z2, xs, z4, z5, z6⟩
theorem BR.put {H0 G : Hp} {b t : Addr} {vs : List V} {lo hi lo' hi' : Nat} {ys : List Int} (h : BR H0 G b vs lo hi) (hm : V.ref t ∈ vs) (h1 : lo' ≤ lo) (h2 : hi ≤ hi') (y1 : lo' ≤ ys.length) (y2 : ys.length ≤ hi') : BR H0 (upd G t (.lst (ys.map V.int))) b vs lo' hi' := by
  obtain ⟨_, tb, _⟩ := h.get hm
  refine ⟨h.b0, by rw [upd_ne (Ne.symm tb)]; exact h.b1, fun v hv => ?_⟩
  obtain ⟨t', xs, z1, z2, z3, z4, z5, z6⟩ := h.at_ v hv
  by_cases c : t' = t
  · subst c
    exact ⟨t', ys, z1, z2, z3, upd_same, y1, y2⟩
  · exact ⟨t', xs, z1, z2, z3, by rw [upd_ne c]; exact z4, by omega, by omega⟩
/-- the outer list changed: rows of the older one and what is new -/
theorem BR.outer {H0 G : Hp} {b : Addr} {vs us : List V} {lo hi : Nat} (h : BR H0 G b vs lo hi) (hu : ∀ v ∈ us, v ∈ vs ∨ ∃ (t : Addr) (xs : List Int), v = .ref t ∧ t ≠ b ∧ H0 t = none ∧ G t = some (.lst (xs.map V.int)) ∧ lo ≤ xs.length ∧ xs.length ≤ hi) : BR H0 (upd G b (.lst us)) b us lo hi := ⟨h.b0, upd_same, fun v hv => by
  have hz : ∃ (t : Addr) (xs : List Int), v = .ref t ∧ t ≠ b ∧ H0 t = none ∧ G t = some (.lst (xs.map V.int)) ∧ lo ≤ xs.length ∧ xs.length ≤ hi := by
    rcases hu v hv with c | c
    · exact h.at_ v c
    · exact c
  obtain ⟨t, xs, z1, z2, z3, z4, z5⟩ := hz
  exact ⟨t, xs, z1, z2, z3, by rw [upd_ne z2]; exact z4, z5⟩⟩
theorem BR.rows {K : PySem.W.Frag} {H0 G : Hp} {b : Addr} {vs : List V} {lo hi : Nat} (h : BR H0 G b vs lo hi) : ∃ yss : List (List Int), RowsL K G b yss ∧ yss.length = vs.length ∧ ∀ xs ∈ yss, xs.length ≤ hi := by
  have key : ∀ us : List V, (∀ v ∈ us, ∃ (t : Addr) (xs : List Int), v = .ref t ∧ t ≠ b ∧ H0 t = none ∧ G t = some (.lst (xs.map V.int)) ∧ lo ≤ xs.length ∧ xs.length ≤ hi) → ∃ yss : List (List Int), yss.length = us.length ∧ (∀ xs ∈ yss, xs.length ≤ hi) ∧ ∀ (i : Nat) v, us[i]? = some v → ∃ t, v = .ref t ∧ SqL K G t ((yss.getD i []).map V.int) := by
    intro us
    induction us with
    | nil => exact fun _ => ⟨[], rfl, (fun xs hx => by cases hx), (fun i v hv => by cases hv)⟩
    | cons u us ih =>
      intro hu
      obtain ⟨yss, y1, y2, y3⟩ := ih fun v hv => hu v (List.mem_cons_of_mem _ hv)
      obtain ⟨t, xs, z1, z2, z3, z4, z5, z6⟩ := hu u List.mem_cons_self
      refine ⟨xs :: yss, by rw [List.length_cons, List.length_cons, y1], fun ys hy => ?_, fun i v hv => ?_⟩
      · rcases List.mem_cons.mp hy with rfl | hy
        · exact z6
        · exact y2 ys hy
      · cases i with
        | zero => cases hv; exact ⟨t, z1, sq_of z4⟩
        | succ i => exact y3 i v hv
  obtain ⟨yss, y1, y2, y3⟩ := key vs h.at_
  exact ⟨yss, ⟨vs, sq_of h.b1, y1.symm, y3⟩, y1, y2⟩
def spBadRows (K : PySem.W.Frag) : Sp := fun vs H Q _ => ∃ (p dp : Addr) (n m : Nat) (xss : List (List Int)) (ds : List Int), vs = [.ref p, .int (n : Int), .ref dp] ∧ RowsL K H p xss ∧ xss.length = m ∧ (∀ xs ∈ xss, xs.length = n) ∧ (1 ≤ m ∧ m ≤ 4) ∧ (1 ≤ n ∧ n ≤ 24) ∧ SqL K H dp (ds.map V.int) ∧ ds.length = 8 ∧ (0 ≤ ds.getD 5 0 ∧ ds.getD 5 0 < 4) ∧ (0 ≤ ds.getD 6 0 ∧ ds.getD 6 0 < 4) ∧ ∀ r H' zss, Ex H H' → RowsL K H' r zss → zss.length ≤ 10 → (∀ xs ∈ zss, xs.length ≤ 100) → Q (.ref r) H'
theorem ok_u_law_bad_rows (T : Txt K mg A) : FnOk P w K mg base CX0 1 A.f_u_law_bad_rows A.d_u_law_bad_rows (["rows", "n", "draws"] : List Str) (spBadRows K) := by
  refine T.F_u_law_bad_rows.ok sc_u_law_bad_rows (fun vs H Q E h => ?_) (fun cdv Ar outer s H vs Q E hr h => ?_)
  · obtain ⟨p, dp, n, m, xss, ds, rfl, _⟩ := h
    rfl
  · obtain ⟨p, dp, n, m, xss, ds, rfl, hR, hl, hx, hm, hn, hd, dl, d5, d6, k⟩ := h
    refine ⟨_, (pss_cons (ps_setLc (i := 3) (own := [("row", 4)]) (g := gName 4) (tt := tYes) rfl sc_u_law_bad_rows.nd rfl rfl (sw_true rfl rfl rfl (by decide +kernel)) (pi_listK (pv 0)) (blkOk_by (own := [("row", 4)]) (N := N_u_law_bad_rows) (sc := defScope s_u_law_bad_rows) (by decide +kernel)) (fun _ _ _ _ _ => (pg_name (i := 4) sc_u_law_bad_rows.nd rfl (Or.inl rfl))) (fun _ _ _ _ _ => pts_nil) (fun _ _ _ _ _ => (pe_callTy list_K (by rfl) T.z_list (by decide +kernel) (pa_cons (pv 4) pa_nil))))
        (pss_cons (ps_set (i := 5) sc_u_law_bad_rows.nd rfl (Or.inl rfl) (pe_lst (pa_cons (pe_un un_neg pe_int) (pa_cons pe_int (pa_cons (pe_ix ix_lK (pv 2) pe_int (fun _ _ => rfl)) (pa_cons (pe_op op_sub pe_int (pe_ix ix_lK (pv 2) pe_int (fun _ _ => rfl))) pa_nil))))))
        (pss_cons (ps_set (i := 6) sc_u_law_bad_rows.nd rfl (Or.inl rfl) (pe_ix ix_lK (pv 3) (pe_op op_mod (pe_callTy call_int1 (by rfl) T.z_int (by decide +kernel) (pa_cons (pe_ix ix_lK (pv 2) pe_int (fun _ _ => rfl)) pa_nil)) (pe_callB len_K (by rfl) T.z_len (by decide +kernel) (pa_cons (pv 3) pa_nil))) (fun _ _ => rfl)))
        (pss_cons (ps_set (i := 7) sc_u_law_bad_rows.nd rfl (Or.inl rfl) (pe_ix ix_lK (pv 3) (pe_op op_mod (pe_callTy call_int1 (by rfl) T.z_int (by decide +kernel) (pa_cons (pe_ix ix_lK (pv 2) pe_int (fun _ _ => rfl)) pa_nil)) (pe_callB len_K (by rfl) T.z_len (by decide +kernel) (pa_cons (pv 3) pa_nil))) (fun _ _ => rfl)))
        (pss_cons (ps_if (pt_cmpR in_K (pe_ix ix_lK (pv 2) pe_int (fun _ _ => rfl)) (pe_lst (pa_cons pe_int (pa_cons pe_int (pa_cons pe_int (pa_cons pe_int (pa_cons pe_int (pa_cons pe_int pa_nil))))))) (by with_unfolding_all rfl)) (pss_one (ps_asg (pe_ix ix_lK (pv 5) (pe_ix ix_lK (pv 2) pe_int (fun _ _ => rfl)) (fun _ _ => rfl)) (pg_sub (pv 6) (pe_op op_mod (pe_callTy call_int1 (by rfl) T.z_int (by decide +kernel) (pa_cons (pe_ix ix_lK (pv 2) pe_int (fun _ _ => rfl)) pa_nil)) (pv 1)) set_list))) pss_nil)
        (pss_cons (ps_if (pt_cmpR op_eq (pe_ix ix_lK (pv 2) pe_int (fun _ _ => rfl)) pe_int (nomark _)) (pss_one (ps_asg (pe_ix ix_lK (pv 5) (pe_ix ix_lK (pv 2) pe_int (fun _ _ => rfl)) (fun _ _ => rfl)) (pg_sub (pv 7) (pe_op op_mod (pe_callTy call_int1 (by rfl) T.z_int (by decide +kernel) (pa_cons (pe_ix ix_lK (pv 2) pe_int (fun _ _ => rfl)) pa_nil)) (pv 1)) set_list))) pss_nil)
        (pss_cons (ps_if (pt_cmpR in_K (pe_ix ix_lK (pv 2) pe_int (fun _ _ => rfl)) (pe_lst (pa_cons pe_int (pa_cons pe_int (pa_cons pe_int pa_nil)))) (by with_unfolding_all rfl)) (pss_one (ps_expr (pe_bm PySem.F.plainAttrs_list PySem.F.slot_list_insert PySem.F.type_list_insert mt_insert (pv 7) (pa_cons (pe_op op_mod (pe_callTy call_int1 (by rfl) T.z_int (by decide +kernel) (pa_cons (pe_ix ix_lK (pv 2) pe_int (fun _ _ => rfl)) pa_nil)) (pe_op op_add (pv 1) pe_int)) (pa_cons pe_int pa_nil))))) pss_nil)
        (pss_cons (ps_if (pt_cmpR in_K (pe_ix ix_lK (pv 2) pe_int (fun _ _ => rfl)) (pe_lst (pa_cons pe_int (pa_cons pe_int pa_nil))) (by with_unfolding_all rfl)) (pss_one (ps_expr (pe_bm PySem.F.plainAttrs_list PySem.F.slot_list_pop PySem.F.type_list_pop mt_popAt (pv 7) (pa_cons (pe_op op_mod (pe_callTy call_int1 (by rfl) T.z_int (by decide +kernel) (pa_cons (pe_ix ix_lK (pv 2) pe_int (fun _ _ => rfl)) pa_nil)) (pv 1)) pa_nil)))) pss_nil)
        (pss_cons (ps_if (pt_cmpR in_K (pe_ix ix_lK (pv 2) pe_int (fun _ _ => rfl)) (pe_lst (pa_cons pe_int (pa_cons pe_int pa_nil))) (by with_unfolding_all rfl)) (pss_one (ps_expr (pe_bm PySem.F.plainAttrs_list PySem.F.slot_list_append PySem.F.type_list_append mt_append (pv 3) (pa_cons (pe_callTy list_K (by rfl) T.z_list (by decide +kernel) (pa_cons (pe_ix ix_lK (pv 0) pe_int (fun _ _ => rfl)) pa_nil)) pa_nil)))) pss_nil)
        (pss_cons (ps_if (pt_cmpR op_eq (pe_ix ix_lK (pv 2) pe_int (fun _ _ => rfl)) pe_int (nomark _)) (pss_one (ps_expr (pe_bm PySem.F.plainAttrs_list PySem.F.slot_list_pop PySem.F.type_list_pop mt_popAt (pv 3) (pa_cons (pe_op op_mod (pe_callTy call_int1 (by rfl) T.z_int (by decide +kernel) (pa_cons (pe_ix ix_lK (pv 2) pe_int (fun _ _ => rfl)) pa_nil)) (pe_callB len_K (by rfl) T.z_len (by decide +kernel) (pa_cons (pv 3) pa_nil))) pa_nil)))) pss_nil)
        (pss_cons (ps_if (pt_cmpR op_eq (pe_ix ix_lK (pv 2) pe_int (fun _ _ => rfl)) pe_int (nomark _)) (pss_one (ps_set (i := 3) sc_u_law_bad_rows.nd rfl (Or.inl rfl) (pe_lst pa_nil))) pss_nil)
        (pss_one (ps_ret (pv 3)))))))))))))), ?_⟩
    obtain ⟨ws, hws, hwl, hwa⟩ := hR.all
    have npos : (0 : Int) < (n : Int) := by omega
    have dE : ∀ {σ : L2.St} {G : Hp} {te : TE} {i : Int}, σ[2]? = some (some (.ref dp)) → Ex H G → Ev te σ G (.int i) → 0 ≤ i → i < 8 → Ev (tOp (rIxL K) (tVar 2) te) σ G (.int (ds.getD i.toNat 0)) := fun h e he h0 h1 => ev_op (ev_var h) he (rv_ixL (K := K) (ex_l e hd) (atI_ints h0 (by rw [dl]; omega)))
    have toN : ∀ (x : Int) (k : Nat), 0 < k → ∃ i : Nat, i < k ∧ x % (k : Int) = (i : Int) := fun x k hk => by
      have h1 := Int.emod_nonneg x (b := (k : Int)) (by omega)
      have h2 := Int.emod_lt_of_pos x (b := (k : Int)) (by omega)
      exact ⟨(x % (k : Int)).toNat, by omega, by omega⟩
    try dsimp only
    refine q_asgXN (en_mapX (K := K) (fun xs => xs) (ev_var (i := 0) rfl) hR (by omega) (fun x => rfl) fun t xs H1' e hx ht => en_copyR (ev_var (i := 4) rfl) ht) fun v H1 e1 hv => ?_
    obtain ⟨b, rfl, hF⟩ := fresh_rows hv (List.length_map _)
    rw [List.map_id'] at hF
    obtain ⟨hb0, vs, hb1, hvl, hva⟩ := hF
    have hBR : BR H H1 b vs n n := ⟨hb0, hb1, fun v hv => by
      obtain ⟨i, hi⟩ := List.getElem?_of_mem hv
      obtain ⟨t, rfl, ht0, hT⟩ := hva i v hi
      have hil : i < xss.length := by have := (List.getElem?_eq_some_iff.mp hi).1; omega
      have xl := hx _ (in_getD (d := []) hil)
      refine ⟨t, _, rfl, fun z => ?_, ht0, hT, by omega, by omega⟩
      rw [z, hb1] at hT
      have h1 : vs = (xss.getD i []).map V.int := by cases hT; rfl
      rw [h1, List.getElem?_map] at hi
      cases hc : (xss.getD i [])[i]? with
      | none => rw [hc] at hi; cases hi
      | some y => rw [hc] at hi; cases hi⟩
    have vl : vs.length = m := by omega
    have lenB : ∀ {σ : L2.St} {G : Hp} {us : List V}, σ[3]? = some (some (.ref b)) → G b = some (.lst us) → Ev (tCB (rLenK K) (tCons (tVar 3) tNil)) σ G (.int (us.length : Int)) := fun h hg => ev_cb (r := rLenK K) (ea_cons (ev_var h) ea_nil) fun H2 e2 Q q => ⟨.ref b, _, rfl, .inl ⟨_, sq_of (e2 _ _ hg), rfl⟩, q H2 (Ex.refl H2)⟩
    have odds : ([-1, 97, ds.getD 7 0, 0 - ds.getD 7 0] : List Int).length = 4 := rfl
    obtain ⟨od, hod⟩ : ∃ od : List Int, [-1, 97, ds.getD 7 0, 0 - ds.getD 7 0] = od := ⟨_, rfl⟩
    rw [hod] at odds
    try dsimp only
    refine q_asgL (xs := od.map V.int) (by rw [← hod]; exact el_lst (ea_cons (ev_un ev_c ru_neg) (ea_cons ev_c (ea_cons (dE rfl e1 ev_c (by decide) (by decide)) (ea_cons (ev_op ev_c (dE rfl e1 ev_c (by decide) (by decide)) rv_I0) ea_nil)))) (by show 4 ≤ 100000; decide)) fun op H2 hop e2 h2 => ?_
    clear hod
    obtain ⟨ai, ai1, hai⟩ := toN (ds.getD 1 0) vs.length (by omega)
    obtain ⟨bi, bi1, hbi⟩ := toN (ds.getD 3 0) vs.length (by omega)
    have v1 : vs[ai]? = some vs[ai] := List.getElem?_eq_getElem ai1
    have v2 : vs[bi]? = some vs[bi] := List.getElem?_eq_getElem bi1
    obtain ⟨t1, ht1, _⟩ := hva ai _ v1
    obtain ⟨t2, ht2, _⟩ := hva bi _ v2
    rw [ht1] at v1
    rw [ht2] at v2
    have m1 : V.ref t1 ∈ vs := List.mem_of_getElem? v1
    have m2 : V.ref t2 ∈ vs := List.mem_of_getElem? v2
    have vpos : (0 : Int) < (vs.length : Int) := by omega
    have e02 := e1.trans e2
    try dsimp only
    refine q_asg (v := .ref t1) (ev_op (ev_var (i := 3) rfl) (ev_is (ev_op (ev_int (dE rfl e02 ev_c (by decide) (by decide))) (lenB rfl (e2 _ _ hb1)) (rv_I vpos)) (congrArg V.int hai)) (rv_ixL (K := K) (sq_of (e2 _ _ hb1)) (atI_nat v1))) fun H3 e3 => ?_
    have e03 := e02.trans e3
    try dsimp only
    refine q_asg (v := .ref t2) (ev_op (ev_var (i := 3) rfl) (ev_is (ev_op (ev_int (dE rfl e03 ev_c (by decide) (by decide))) (lenB rfl ((e2.trans e3) _ _ hb1)) (rv_I vpos)) (congrArg V.int hbi)) (rv_ixL (K := K) (sq_of ((e2.trans e3) _ _ hb1)) (atI_nat v2))) fun H4 e4 => ?_
    have e14 := (e2.trans e3).trans e4
    have e04 := e1.trans e14
    have ho4 := (e3.trans e4) _ _ h2
    have not_op : ∀ {t : Addr}, V.ref t ∈ vs → op ≠ t := fun {t} hm z => by
      obtain ⟨_, _, xs, hg, _⟩ := hBR.get hm
      rw [← z, hop] at hg
      cases hg
    have hB4 := hBR.ex e14
    have oE : ∀ {σ : L2.St} {G : Hp} {te : TE} {i : Int}, σ[5]? = some (some (.ref op)) → G op = some (.lst (od.map V.int)) → Ev te σ G (.int i) → 0 ≤ i → i < 4 → Ev (tOp (rIxL K) (tVar 5) te) σ G (.int (od.getD i.toNat 0)) := fun h ho he h0 h1 => ev_op (ev_var h) he (rv_ixL (K := K) (sq_of ho) (atI_ints h0 (by rw [odds]; omega)))
    let M : Nat → Nat → L2.St → Hp → Prop := fun lo hi σ' G => σ' = [some (.ref p), some (.int (n : Int)), some (.ref dp), some (.ref b), none, some (.ref op), some (.ref t1), some (.ref t2)] ∧ Ex H G ∧ G op = some (.lst (od.map V.int)) ∧ BR H G b vs lo hi
    have modE : ∀ {σ : L2.St} {G : Hp} {te tk : TE} {x : Int} {k i : Nat}, Ev te σ G (.int x) → Ev tk σ G (.int (k : Int)) → 0 < k → x % (k : Int) = (i : Int) → Ev (tOp (rI (fun x j => 0 < j) fun i j => V.int (i % j)) (tCB (fun xs H Q => (∃ i, xs = [V.int i] ∧ Q (V.int i) H) ∨ ∃ k, xs = [V.bl k] ∧ Q (V.int (if k = true then 1 else 0)) H) (tCons te tNil)) tk) σ G (.int (i : Int)) := fun he hk h0 hx => ev_is (ev_op (ev_int he) hk (rv_I (by omega))) (congrArg V.int hx)
    obtain ⟨j2, j21, hj2⟩ := toN (ds.getD 2 0) n (by omega)
    obtain ⟨j4, j41, hj4⟩ := toN (ds.getD 4 0) n (by omega)
    obtain ⟨k4, k41, hk4⟩ := toN (ds.getD 4 0) (n + 1) (by omega)
    clear hva ht1 ht2 v1 v2 hb1
    try dsimp only
    refine q_alt (b := decide (ds.getD 0 0 ∈ ([4, 5, 6, 7, 9, 10] : List Int))) (M := M n n) (et_test (ev_inL (K := K) (ys := [4, 5, 6, 7, 9, 10]) (dE rfl e04 ev_c (by decide) (by decide)) (el_lst (ea_cons ev_c (ea_cons ev_c (ea_cons ev_c (ea_cons ev_c (ea_cons ev_c (ea_cons ev_c ea_nil)))))) (by show 6 ≤ 100000; decide)))) (fun hb G g W hW => ?_) (fun hb G g => ⟨rfl, e04.trans g, g _ _ ho4, hB4.ex g⟩) fun σ' G5 hM => ?_
    · have hBg := hB4.ex g
      obtain ⟨t10, _, xs, hxs, xl, xu⟩ := hBg.get m1
      have e0G := e04.trans g
      try dsimp only
      refine s_setL (j := j2) hxs (oE rfl (g _ _ ho4) (dE rfl e0G ev_c (by decide) (by decide)) d5.1 d5.2) (ev_var (i := 6) rfl) (modE (dE rfl e0G ev_c (by decide) (by decide)) (ev_var (i := 1) rfl) (by omega) hj2) (by rw [List.length_map]; omega) fun G1 g1 => ?_
      rw [← List.map_set (f := V.int)]
      exact hW _ _ ⟨rfl, Ex.mut (e0G.trans g1) t10, by rw [upd_ne (not_op m1)]; exact (g.trans g1) _ _ ho4, (hBg.ex g1).put m1 (by omega) (by omega) (by rw [List.length_set]; omega) (by rw [List.length_set]; omega)⟩
    clear hB4 ho4
    obtain ⟨rfl, e05, ho5, hB5⟩ := hM
    try dsimp only
    refine q_alt (b := decide (ds.getD 0 0 = 5)) (M := M n n) (et_test (ev_is (ev_op (dE rfl e05 ev_c (by decide) (by decide)) ev_c (rv_eq rfl)) (by rw [dec_ii]; rfl))) (fun hb G g W hW => ?_) (fun hb G g => ⟨rfl, e05.trans g, g _ _ ho5, hB5.ex g⟩) fun σ' G6 hM => ?_
    · have hBg := hB5.ex g
      obtain ⟨t20, _, xs, hxs, xl, xu⟩ := hBg.get m2
      have e0G := e05.trans g
      try dsimp only
      refine s_setL (j := j4) hxs (oE rfl (g _ _ ho5) (dE rfl e0G ev_c (by decide) (by decide)) d6.1 d6.2) (ev_var (i := 7) rfl) (modE (dE rfl e0G ev_c (by decide) (by decide)) (ev_var (i := 1) rfl) (by omega) hj4) (by rw [List.length_map]; omega) fun G1 g1 => ?_
      rw [← List.map_set (f := V.int)]
      exact hW _ _ ⟨rfl, Ex.mut (e0G.trans g1) t20, by rw [upd_ne (not_op m2)]; exact (g.trans g1) _ _ ho5, (hBg.ex g1).put m2 (by omega) (by omega) (by rw [List.length_set]; omega) (by rw [List.length_set]; omega)⟩
    clear hB5 ho5 e05
    obtain ⟨rfl, e06, ho6, hB6⟩ := hM
    try dsimp only
    refine q_alt (b := decide (ds.getD 0 0 ∈ ([2, 6, 9] : List Int))) (M := M n (n + 1)) (et_test (ev_inL (K := K) (ys := [2, 6, 9]) (dE rfl e06 ev_c (by decide) (by decide)) (el_lst (ea_cons ev_c (ea_cons ev_c (ea_cons ev_c ea_nil))) (by show 3 ≤ 100000; decide)))) (fun hb G g W hW => ?_) (fun hb G g => ⟨rfl, e06.trans g, g _ _ ho6, (hB6.ex g).wide (by omega) (by omega)⟩) fun σ' G7 hM => ?_
    · have hBg := hB6.ex g
      obtain ⟨t20, _, xs, hxs, xl, xu⟩ := hBg.get m2
      have e0G := e06.trans g
      try dsimp only
      refine s_bm2 (K := K) (xs := xs.map V.int) (i := (k4 : Int)) (v := .int 96) hxs (ev_var (i := 7) rfl) (modE (dE rfl e0G ev_c (by decide) (by decide)) (ev_is (ev_op (ev_var (i := 1) rfl) ev_c rv_I0) (congrArg V.int (by omega))) (by omega) hk4) ev_c fun G1 g1 => ?_
      refine ⟨t2, xs.map V.int, (k4 : Int), .int 96, rfl, rfl, g1 _ _ hxs, sz_lt (by rw [List.length_map]; omega), by omega, by omega, ?_⟩
      rw [Int.toNat_natCast, show List.take k4 (xs.map V.int) ++ [V.int 96] ++ List.drop k4 (xs.map V.int) = (xs.take k4 ++ [96] ++ xs.drop k4).map V.int by rw [List.map_append, List.map_append, List.map_take, List.map_drop]; rfl]
      have yl : (xs.take k4 ++ [96] ++ xs.drop k4).length = xs.length + 1 := by
        rw [List.length_append, List.length_append, List.length_take, List.length_drop]
        show _ + 1 + _ = _
        omega
      exact hW _ _ ⟨rfl, Ex.mut (e0G.trans g1) t20, by rw [upd_ne (not_op m2)]; exact (g.trans g1) _ _ ho6, (hBg.ex g1).put m2 (by omega) (by omega) (by omega) (by omega)⟩
    clear hB6 ho6 e06
    obtain ⟨rfl, e07, ho7, hB7⟩ := hM
    try dsimp only
    refine q_alt (b := decide (ds.getD 0 0 ∈ ([3, 7] : List Int))) (M := M 0 (n + 1)) (et_test (ev_inL (K := K) (ys := [3, 7]) (dE rfl e07 ev_c (by decide) (by decide)) (el_lst (ea_cons ev_c (ea_cons ev_c ea_nil)) (by show 2 ≤ 100000; decide)))) (fun hb G g W hW => ?_) (fun hb G g => ⟨rfl, e07.trans g, g _ _ ho7, (hB7.ex g).wide (by omega) (by omega)⟩) fun σ' G8 hM => ?_
    · have hBg := hB7.ex g
      obtain ⟨t20, _, xs, hxs, xl, xu⟩ := hBg.get m2
      have e0G := e07.trans g
      try dsimp only
      refine s_popAt (K := K) (xs := xs.map V.int) (i := j4) hxs (ev_var (i := 7) rfl) (modE (dE rfl e0G ev_c (by decide) (by decide)) (ev_var (i := 1) rfl) (by omega) hj4) (by rw [List.length_map]; omega) (by rw [List.length_map]; omega) fun G1 g1 => ?_
      rw [show (xs.map V.int).eraseIdx j4 = (xs.eraseIdx j4).map V.int from eraseIdx_mapV xs j4]
      exact hW _ _ ⟨rfl, Ex.mut (e0G.trans g1) t20, by rw [upd_ne (not_op m2)]; exact (g.trans g1) _ _ ho7, (hBg.ex g1).put m2 (by omega) (by omega) (by omega) (by have := List.length_eraseIdx_le xs j4; omega)⟩
    clear hB7 ho7 e07
    obtain ⟨rfl, e08, _, hB8⟩ := hM
    let M2 : Nat → L2.St → Hp → Prop := fun lo σ' G => ∃ us : List V, σ' = [some (.ref p), some (.int (n : Int)), some (.ref dp), some (.ref b), none, some (.ref op), some (.ref t1), some (.ref t2)] ∧ Ex H G ∧ BR H G b us 0 (n + 1) ∧ lo ≤ us.length ∧ us.length ≤ 5
    have w0 : ws[0]? = some ws[0] := List.getElem?_eq_getElem (by omega)
    obtain ⟨tw, htw, hTw⟩ := hwa 0 _ w0
    rw [htw] at w0
    have x0 := hx _ (in_getD (d := []) (show 0 < xss.length by omega))
    generalize xss.getD 0 [] = xw at *
    try dsimp only
    refine q_alt (b := decide (ds.getD 0 0 ∈ ([0, 9] : List Int))) (M := M2 1) (et_test (ev_inL (K := K) (ys := [0, 9]) (dE rfl e08 ev_c (by decide) (by decide)) (el_lst (ea_cons ev_c (ea_cons ev_c ea_nil)) (by show 2 ≤ 100000; decide)))) (fun hb G g W hW => ?_) (fun hb G g => ⟨vs, rfl, e08.trans g, hB8.ex g, by omega, by omega⟩) fun σ' G9 hM => ?_
    · have hBg := hB8.ex g
      have e0G := e08.trans g
      try dsimp only
      refine s_appL hBg.b1 (ev_var (i := 3) rfl) (el_copyB (K := K) (ev_op (ev_var (i := 0) rfl) ev_c (rv_ixL (K := K) (ex_l e0G hws) (atI_nat (j := 0) w0))) (ex_l e0G hTw)) (by omega) fun c G1 hc g1 hcl => ?_
      have hcb : c ≠ b := fun z => by rw [z, hBg.b1] at hc; cases hc
      exact hW _ _ ⟨vs ++ [.ref c], rfl, Ex.mut (e0G.trans g1) hb0, (hBg.ex g1).outer fun v hv => by
        rcases List.mem_append.mp hv with h | h
        · exact .inl h
        · exact .inr ⟨c, xw, List.mem_singleton.mp h, hcb, fresh_back e0G hc, hcl, by omega, by omega⟩, by rw [List.length_append]; show 1 ≤ _ + 1; omega, by rw [List.length_append]; show _ + 1 ≤ 5; omega⟩
    clear hB8 e08
    obtain ⟨us, rfl, e09, hB9, ul, uu⟩ := hM
    obtain ⟨ci, ci1, hci⟩ := toN (ds.getD 1 0) us.length (by omega)
    try dsimp only
    refine q_alt (b := decide (ds.getD 0 0 = 1)) (M := M2 0) (et_test (ev_is (ev_op (dE rfl e09 ev_c (by decide) (by decide)) ev_c (rv_eq rfl)) (by rw [dec_ii]; rfl))) (fun hb G g W hW => ?_) (fun hb G g => ⟨us, rfl, e09.trans g, hB9.ex g, by omega, by omega⟩) fun σ' G10 hM => ?_
    · have hBg := hB9.ex g
      have e0G := e09.trans g
      try dsimp only
      refine s_popAt (K := K) (xs := us) (i := ci) hBg.b1 (ev_var (i := 3) rfl) (modE (dE rfl e0G ev_c (by decide) (by decide)) (lenB rfl hBg.b1) (by omega) hci) ci1 (by omega) fun G1 g1 => ?_
      exact hW _ _ ⟨us.eraseIdx ci, rfl, Ex.mut (e0G.trans g1) hb0, (hBg.ex g1).outer fun v hv => .inl (List.mem_of_mem_eraseIdx hv), by omega, by have := List.length_eraseIdx_le us ci; omega⟩
    clear hB9 e09 ul uu hci
    obtain ⟨us, rfl, e010, hB10, ul, uu⟩ := hM
    try dsimp only
    refine q_alt (b := decide (ds.getD 0 0 = 8)) (M := fun σ' G => ∃ (q : Addr) (us : List V), σ' = [some (.ref p), some (.int (n : Int)), some (.ref dp), some (.ref q), none, some (.ref op), some (.ref t1), some (.ref t2)] ∧ Ex H G ∧ BR H G q us 0 (n + 1) ∧ us.length ≤ 5) (et_test (ev_is (ev_op (dE rfl e010 ev_c (by decide) (by decide)) ev_c (rv_eq rfl)) (by rw [dec_ii]; rfl))) (fun hb G g W hW => ?_) (fun hb G g => ⟨b, us, rfl, e010.trans g, hB10.ex g, uu⟩) fun σ' G11 hM => ?_
    · have e0G := e010.trans g
      try dsimp only
      exact s_asgL (xs := []) (el_lst ea_nil (by decide)) fun q G1 hq g1 hq1 => hW _ _ ⟨q, [], rfl, e0G.trans g1, ⟨fresh_back e0G hq, hq1, fun v hv => by cases hv⟩, by decide⟩
    obtain ⟨q, us, rfl, e011, hB11, uu⟩ := hM
    try dsimp only
    exact s_ret (ev_var (i := 3) rfl) fun G12 g12 => by
      obtain ⟨yss, y1, y2, y3⟩ := (hB11.ex g12).rows (K := K)
      exact k q G12 yss (e011.trans g12) y1 (by omega) fun xs hx => by have := y3 xs hx; omega
def dueWV : WErr → List V
  | .wlen k => [.str "WrongLength", .int (k : Int), .bl true, .bl false, .bl false]
  | .str x => [.str "BadNumber", .str "strength", .int x, .bl true, .bl false, .bl false]
theorem flat_len {n : Nat} : ∀ {xss : List (List Int)}, (∀ xs ∈ xss, xs.length ≤ 100) → (xss.flatMap (rowAll n)).length ≤ xss.length * 101
  | [], _ => by simp
  | x :: xss, h => by
    have ih := flat_len (n := n) (xss := xss) fun xs hx => h xs (List.mem_cons_of_mem _ hx)
    have h0 := h x List.mem_cons_self
    have hf := List.length_filter_le badStr x
    have hr : (rowAll n x).length ≤ 101 := by
      unfold rowAll
      rw [List.length_append, List.length_map]
      split <;> simp only [List.length_nil, List.length_cons, Nat.zero_add] <;> omega
    rw [List.flatMap_cons, List.length_append, List.length_cons, Nat.succ_mul]
    omega
theorem watchAll_len {n m : Nat} {xss : List (List Int)} (h : xss.length ≤ 10) (hx : ∀ xs ∈ xss, xs.length ≤ 100) : (watchAll n m xss).length ≤ 1100 := by
  have h1 := flat_len (n := n) hx
  have h3 : xss.length * 101 ≤ 1010 := Nat.le_trans (Nat.mul_le_mul_right 101 h) (by decide)
  unfold watchAll
  rw [List.length_append]
  split <;> simp only [List.length_nil, List.length_cons, Nat.zero_add] <;> omega
def dueWE : WErr → PyData
  | .wlen k => .tuple [.str "WrongLength", .int (k : Int), .bool true, .bool false, .bool false]
  | .str x => .tuple [.str "BadNumber", .str "strength", .int x, .bool true, .bool false, .bool false]
def dueW : Option WErr → PyData
  | none => .none
  | some e => dueWE e
theorem dueW_dp {K : PySem.W.Frag} {H : Hp} {t : Addr} : ∀ {e : WErr}, SqT K H t (dueWV e) → Dp K H (.ref t) (dueWE e)
  | .wlen k, h => .tup h (.cons (.str _) (.cons (.int _) (.cons (.bl _) (.cons (.bl _) (.cons (.bl _) .nil)))))
  | .str x, h => .tup h (.cons (.str _) (.cons (.str _) (.cons (.int _) (.cons (.bl _) (.cons (.bl _) (.cons (.bl _) .nil))))))
def spFirstW (K : PySem.W.Frag) : Sp := fun vs H Q _ => ∃ (p : Addr) (m n : Nat) (zss : List (List Int)), vs = [.ref p, .int (m : Int), .int (n : Int)] ∧ RowsL K H p zss ∧ zss.length ≤ 10 ∧ (∀ xs ∈ zss, xs.length ≤ 100) ∧ ∀ v H', Ex H H' → Dp K H' v (dueW (watchErr n m zss)) → Q v H'
theorem ok_u_law_first_error (T : Txt K mg A) : FnOk P w K mg base CX0 1 A.f_u_law_first_error A.d_u_law_first_error (["rows", "count", "n"] : List Str) (spFirstW K) := by
  refine T.F_u_law_first_error.ok sc_u_law_first_error (fun vs H Q E h => ?_) (fun cdv Ar outer s H vs Q E hr h => ?_)
  · obtain ⟨p, m, n, zss, rfl, _⟩ := h
    rfl
  · obtain ⟨p, m, n, zss, rfl, hR, hl, hx, k⟩ := h
    refine ⟨_, (pss_cons (ps_set (i := 3) sc_u_law_first_error.nd rfl (Or.inl rfl) (pe_lst pa_nil))
        (pss_cons (ps_if (pt_cmpR op_ne (pe_callB len_K (by rfl) T.z_len (by decide +kernel) (pa_cons (pv 0) pa_nil)) (pv 1) (nomark _)) (pss_one (ps_expr (pe_bm PySem.F.plainAttrs_list PySem.F.slot_list_append PySem.F.type_list_append mt_append (pv 3) (pa_cons (pe_tup (pa_cons pe_str (pa_cons (pe_callB len_K (by rfl) T.z_len (by decide +kernel) (pa_cons (pv 0) pa_nil)) (pa_cons pe_bl (pa_cons pe_bl (pa_cons pe_bl pa_nil)))))) pa_nil)))) pss_nil)
        (pss_cons (ps_for PassesOwn.never rfl (pi_listK (pv 0)) (pg_name (i := 4) sc_u_law_first_error.nd rfl (Or.inl rfl)) (pss_cons (ps_if (pt_cmpR op_ne (pe_callB len_K (by rfl) T.z_len (by decide +kernel) (pa_cons (pv 4) pa_nil)) (pv 2) (nomark _)) (pss_one (ps_expr (pe_bm PySem.F.plainAttrs_list PySem.F.slot_list_append PySem.F.type_list_append mt_append (pv 3) (pa_cons (pe_tup (pa_cons pe_str (pa_cons (pe_callB len_K (by rfl) T.z_len (by decide +kernel) (pa_cons (pv 4) pa_nil)) (pa_cons pe_bl (pa_cons pe_bl (pa_cons pe_bl pa_nil)))))) pa_nil)))) pss_nil)
        (pss_one (ps_for PassesOwn.never rfl (pi_listK (pv 4)) (pg_name (i := 5) sc_u_law_first_error.nd rfl (Or.inl rfl)) (pss_one (ps_if (PW.pt (pw_or (pt_cmpR op_lt (pv 5) pe_int (nomark _)) (pw_or1 (pt_cmpR op_gt (pv 5) pe_int (nomark _))))) (pss_one (ps_expr (pe_bm PySem.F.plainAttrs_list PySem.F.slot_list_append PySem.F.type_list_append mt_append (pv 3) (pa_cons (pe_tup (pa_cons pe_str (pa_cons pe_str (pa_cons (pv 5) (pa_cons pe_bl (pa_cons pe_bl (pa_cons pe_bl pa_nil))))))) pa_nil)))) pss_nil))))))
        (pss_cons (ps_expr (pe_bm PySem.F.plainAttrs_list PySem.F.slot_list_append PySem.F.type_list_append mt_append (pv 3) (pa_cons pe_non pa_nil)))
        (pss_one (ps_ret (pe_ix ix_lK (pv 3) pe_int (fun _ _ => rfl)))))))), ?_⟩
    obtain ⟨vs, hvs, hvl, hall⟩ := hR.all
    have lE : ∀ {σ : L2.St} {G : Hp}, σ[0]? = some (some (.ref p)) → Ex H G → Ev (tCB (rLenK K) (tCons (tVar 0) tNil)) σ G (.int (zss.length : Int)) := fun h e => ev_cb (r := rLenK K) (ea_cons (ev_var h) ea_nil) fun H2 e2 Q q => ⟨.ref p, zss.length, rfl, .inl ⟨_, ex_l (e.trans e2) hvs, hvl.symm⟩, q H2 (Ex.refl H2)⟩
    try dsimp only
    refine q_asgL (xs := []) (el_lst ea_nil (by decide)) fun fp H1 hfp e1 h1 => ?_
    let F : List WErr → Hp → Prop := fun es G => ∃ qs : List (Addr × WErr), G fp = some (.lst (qs.map fun q => V.ref q.1)) ∧ (∀ q ∈ qs, SqT K G q.1 (dueWV q.2)) ∧ qs.map (·.2) = es
    have more : ∀ {es : List WErr} {G1 : Hp} {t : Addr} {e : WErr} {qs : List (Addr × WErr)}, G1 fp = some (.lst (qs.map fun q => V.ref q.1)) → (∀ q ∈ qs, SqT K G1 q.1 (dueWV q.2)) → qs.map (·.2) = es → SqT K G1 t (dueWV e) → F (es ++ [e]) (upd G1 fp (.lst ((qs.map fun q => V.ref q.1) ++ [V.ref t]))) := fun {es G1 t e qs} h1 h2 h3 h4 => ⟨qs ++ [(t, e)], by rw [upd_same, List.map_append]; rfl, fun q hq => by
      rcases List.mem_append.mp hq with h | h
      · exact sqT_mut h1 (h2 q h)
      · rw [List.mem_singleton.mp h]; exact sqT_mut h1 h4, by rw [List.map_append, h3]; rfl⟩
    have Fex : ∀ {es : List WErr} {G G1 : Hp}, F es G → Ex G G1 → F es G1 := fun ⟨qs, z1, z2, z3⟩ e => ⟨qs, e _ _ z1, fun q hq => ex_t e (z2 q hq), z3⟩
    have al := watchAll_len (n := n) (m := m) hl hx
    have pre_len : ∀ {es : List WErr} {i : Nat} {us : List Int}, us.length ≤ 100 → i ≤ 10 → es = (if zss.length = m then [] else [.wlen zss.length]) ++ (zss.take i).flatMap (rowAll n) ++ us.map .str → es.length ≤ 1200 := fun {es i us} hu hi he => by
      have h1 := flat_len (n := n) (xss := zss.take i) fun xs hm => hx xs (List.mem_of_mem_take hm)
      have h2 : (zss.take i).length ≤ 10 := by rw [List.length_take]; omega
      have h3 : (zss.take i).length * 101 ≤ 1010 := Nat.le_trans (Nat.mul_le_mul_right 101 h2) (by decide)
      rw [he, List.length_append, List.length_append, List.length_map]
      split <;> simp only [List.length_nil, List.length_cons, Nat.zero_add] <;> omega
    try dsimp only
    refine q_alt (b := !decide ((zss.length : Int) = (m : Int))) (M := fun σ' G => σ' = [some (.ref p), some (.int (m : Int)), some (.int (n : Int)), some (.ref fp), none, none] ∧ Ex H G ∧ F (if zss.length = m then [] else [.wlen zss.length]) G) (et_test (ev_is (ev_op (lE rfl e1) (ev_var (i := 1) rfl) (rv_ne rfl)) (by rw [dec_ii]))) (fun hb G g W hW => ?_) (fun hb G g => ?_) fun σ' G2 hM => ?_
    · have hb : ¬ ((zss.length : Int) = (m : Int)) := by simpa using hb
      have e1g := e1.trans g
      try dsimp only
      refine s_appU (xs := []) (g _ _ h1) (ev_var (i := 3) rfl) (eu_tup (vs := dueWV (.wlen zss.length)) (ea_cons ev_c (ea_cons (lE rfl e1g) (ea_cons ev_c (ea_cons ev_c (ea_cons ev_c ea_nil))))) (by show 5 ≤ 100000; decide)) (by decide) fun t G1 _ g1 ht => hW _ _ ⟨rfl, Ex.mut (e1g.trans g1) hfp, ?_⟩
      rw [if_neg (by omega)]
      exact more (es := []) (qs := []) (g1 _ _ (g _ _ h1)) (fun q hq => by cases hq) rfl (st_of ht)
    · have hb : (zss.length : Int) = (m : Int) := by simpa using hb
      exact ⟨rfl, e1.trans g, [], g _ _ h1, (fun q hq => by cases hq), by rw [if_pos (by omega)]; rfl⟩
    obtain ⟨rfl, e2, hF⟩ := hM
    try dsimp only
    refine q_forLn (K := K) (a := p) (xs := vs) (j := 4) (ev_var (i := 0) rfl) (ex_l e2 hvs) (fun i σ' G => ∃ v4 v5 : Option V, σ' = [some (.ref p), some (.int (m : Int)), some (.int (n : Int)), some (.ref fp), v4, v5] ∧ Ex H G ∧ F ((if zss.length = m then [] else [.wlen zss.length]) ++ (zss.take i).flatMap (rowAll n)) G) (fun H3 e3 => ⟨_, _, rfl, e2.trans e3, by
      have := Fex hF e3
      rwa [List.take_zero, List.flatMap_nil, List.append_nil]⟩) (fun i σ' G _ ⟨_, _, _, e, _⟩ => ex_l e hvs) ?_ ?_
    · rintro i y σ' G hy ⟨v4, v5, rfl, eG, hF⟩
      obtain ⟨tr, rfl, hT⟩ := hall i y hy
      have hi : i < zss.length := by have := (List.getElem?_eq_some_iff.mp hy).1; omega
      have htk : zss.take (i + 1) = zss.take i ++ [zss.getD i []] := by rw [List.take_succ_eq_append_getElem hi, List.getD_eq_getElem?_getD, List.getElem?_eq_getElem hi]; rfl
      have xl := hx _ (in_getD (d := []) hi)
      rw [htk, List.flatMap_append, List.flatMap_cons, List.flatMap_nil, List.append_nil, ← List.append_assoc]
      generalize zss.getD i [] = xs at *
      generalize hpre : (if zss.length = m then [] else [WErr.wlen zss.length]) ++ (zss.take i).flatMap (rowAll n) = pre at *
      have plen : pre.length ≤ 1100 := by
        have := pre_len (es := pre) (i := i) (us := []) (by decide) (by omega) (by rw [← hpre]; simp)
        have h1 := flat_len (n := n) (xss := zss.take i) fun xs hm => hx xs (List.mem_of_mem_take hm)
        have h2 : (zss.take i).length ≤ 10 := by rw [List.length_take]; omega
        have h3 : (zss.take i).length * 101 ≤ 1010 := Nat.le_trans (Nat.mul_le_mul_right 101 h2) (by decide)
        rw [← hpre, List.length_append]
        split <;> simp only [List.length_nil, List.length_cons, Nat.zero_add] <;> omega
      have xE : ∀ {σ : L2.St} {G1 : Hp}, σ[4]? = some (some (.ref tr)) → Ex G G1 → Ev (tCB (rLenK K) (tCons (tVar 4) tNil)) σ G1 (.int (xs.length : Int)) := fun h e => ev_cb (r := rLenK K) (ea_cons (ev_var h) ea_nil) fun H2 e2 Q q => ⟨.ref tr, xs.length, rfl, .inl ⟨_, ex_l (eG.trans (e.trans e2)) hT, (List.length_map _).symm⟩, q H2 (Ex.refl H2)⟩
      try dsimp only
      refine q_alt (b := !decide ((xs.length : Int) = (n : Int))) (M := fun σ' G1 => σ' = [some (.ref p), some (.int (m : Int)), some (.int (n : Int)), some (.ref fp), some (.ref tr), v5] ∧ Ex H G1 ∧ F (pre ++ if xs.length = n then [] else [.wlen xs.length]) G1) (et_test (ev_is (ev_op (xE rfl (Ex.refl _)) (ev_var (i := 2) rfl) (rv_ne rfl)) (by rw [dec_ii]))) (fun hb G1 g W hW => ?_) (fun hb G1 g => ?_) fun σ' G2 hM => ?_
      · have hb : ¬ ((xs.length : Int) = (n : Int)) := by simpa using hb
        obtain ⟨qs, z1, z2, z3⟩ := Fex hF g
        have ql : qs.length ≤ 1100 := by have := congrArg List.length z3; rw [List.length_map] at this; omega
        try dsimp only
        refine s_appU (xs := qs.map fun q => V.ref q.1) z1 (ev_var (i := 3) rfl) (eu_tup (vs := dueWV (.wlen xs.length)) (ea_cons ev_c (ea_cons (xE rfl g) (ea_cons ev_c (ea_cons ev_c (ea_cons ev_c ea_nil))))) (by show 5 ≤ 100000; decide)) (by rw [List.length_map]; omega) fun t G3 _ g3 ht => hW _ _ ⟨rfl, Ex.mut ((eG.trans g).trans g3) hfp, ?_⟩
        rw [if_neg (by omega)]
        exact more (g3 _ _ z1) (fun q hq => ex_t g3 (z2 q hq)) z3 (st_of ht)
      · have hb : (xs.length : Int) = (n : Int) := by simpa using hb
        exact ⟨rfl, eG.trans g, by rw [if_pos (by omega), List.append_nil]; exact Fex hF g⟩
      obtain ⟨rfl, e3, hF3⟩ := hM
      unfold rowAll
      rw [← List.append_assoc]
      generalize hpre2 : pre ++ (if xs.length = n then [] else [WErr.wlen xs.length]) = pre2 at *
      have plen2 : pre2.length ≤ 1101 := by
        rw [← hpre2, List.length_append]
        split <;> simp only [List.length_nil, List.length_cons, Nat.zero_add] <;> omega
      try dsimp only
      refine s_forLn (K := K) (a := tr) (xs := xs.map V.int) (j := 5) (ev_var (i := 4) rfl) (ex_l e3 hT) (fun i σ' G => ∃ v5 : Option V, σ' = [some (.ref p), some (.int (m : Int)), some (.int (n : Int)), some (.ref fp), some (.ref tr), v5] ∧ Ex H G ∧ F (pre2 ++ ((xs.take i).filter badStr).map .str) G) (fun H3 e4 => ⟨_, rfl, e3.trans e4, by
        have := Fex hF3 e4
        rwa [List.take_zero, List.filter_nil, List.map_nil, List.append_nil]⟩) (fun i σ' G _ ⟨_, _, e, _⟩ => ex_l e hT) ?_ ?_
      · rintro j y σ' G1 hy ⟨v5, rfl, eG1, qs, z1, z2, z3⟩
        obtain ⟨x, rfl, hx'⟩ := some_int hy
        have hj : j < xs.length := (List.getElem?_eq_some_iff.mp hx').1
        have htk2 : xs.take (j + 1) = xs.take j ++ [x] := by
          rw [List.take_succ_eq_append_getElem hj]
          rw [List.getElem?_eq_getElem hj] at hx'
          rw [Option.some.inj hx']
        have eqb : (decide (x < 0) || decide (x > 96)) = badStr x := by
          unfold badStr
          rw [Bool.eq_iff_iff]
          simp
        have ql : qs.length ≤ 1300 := by
          have := congrArg List.length z3
          have hf := List.length_filter_le badStr (xs.take j)
          rw [List.length_take] at hf
          rw [List.length_map, List.length_append, List.length_map] at this
          omega
        try dsimp only
        refine s_when (b := decide (x < 0) || decide (x > 96)) (et_or (et_test (ev_op (ev_var (i := 5) rfl) ev_c rv_I0)) fun _ => et_test (ev_op (ev_var (i := 5) rfl) ev_c rv_I0)) (fun hb G3 g1 => ?_) (fun hb G3 g1 => ⟨_, rfl, eG1.trans g1, qs, g1 _ _ z1, fun q hq => ex_t g1 (z2 q hq), ?_⟩)
        · rw [eqb] at hb
          try dsimp only
          refine s_appU (xs := qs.map fun q => V.ref q.1) (g1 _ _ z1) (ev_var (i := 3) rfl) (eu_tup (vs := dueWV (.str x)) (ea_cons ev_c (ea_cons ev_c (ea_cons (ev_var (i := 5) rfl) (ea_cons ev_c (ea_cons ev_c (ea_cons ev_c ea_nil)))))) (by show 6 ≤ 100000; decide)) (by rw [List.length_map]; omega) fun t G4 _ g2 ht => ⟨_, rfl, Ex.mut ((eG1.trans g1).trans g2) hfp, ?_⟩
          have := more (g2 _ _ (g1 _ _ z1)) (fun q hq => ex_t (g1.trans g2) (z2 q hq)) z3 (st_of ht)
          rw [htk2, List.filter_append, List.map_append, show ([x].filter badStr) = [x] by simp [hb], ← List.append_assoc]
          exact this
        · rw [eqb] at hb
          rw [z3, htk2, List.filter_append, show ([x].filter badStr) = [] by simp [hb], List.append_nil]
      · rintro σ' G1 ⟨v5, rfl, eG1, hF5⟩
        rw [List.length_map, List.take_length] at hF5
        exact ⟨_, _, rfl, eG1, hF5⟩
    rintro σ' G ⟨v4, v5, rfl, eG, qs, z1, z2, z3⟩
    rw [hvl, List.take_length] at z3
    have be : watchErr n m zss = (qs.map (·.2)).head? := by unfold watchErr watchAll; rw [z3]
    have ql : qs.length ≤ 1100 := by
      have := congrArg List.length z3
      have h1 := flat_len (n := n) hx
      have h3 : zss.length * 101 ≤ 1010 := Nat.le_trans (Nat.mul_le_mul_right 101 hl) (by decide)
      rw [List.length_map, List.length_append] at this
      split at this <;> simp only [List.length_nil, List.length_cons, Nat.zero_add] at this <;> omega
    try dsimp only
    refine q_app (xs := qs.map fun q => V.ref q.1) z1 (ev_var (i := 3) rfl) ev_c (by rw [List.length_map]; omega) fun G1 g1 => ?_
    have eG1 := Ex.mut (eG.trans g1) hfp (o := .lst ((qs.map fun q => V.ref q.1) ++ [V.non]))
    cases qs with
    | nil => exact s_ret (v := .non) (ev_op (ev_var (i := 3) rfl) ev_c (rv_ixL (K := K) (sq_of upd_same) (atI_nat (j := 0) rfl))) fun G2 g2 => k _ G2 (eG1.trans g2) (by rw [be]; exact .non)
    | cons q qs => exact s_ret (v := .ref q.1) (ev_op (ev_var (i := 3) rfl) ev_c (rv_ixL (K := K) (sq_of upd_same) (atI_nat (j := 0) rfl))) fun G2 g2 => k _ G2 (eG1.trans g2) (by rw [be]; exact dueW_dp (ex_t g2 (sqT_mut (g1 _ _ z1) (ex_t g1 (z2 q List.mem_cons_self)))))
/-! ### data told twice -/
theorem ed_int {K : PySem.W.Frag} {σ : L2.St} {H : Hp} {te : TE} {z : Int} (h : Ev te σ H (.int z)) : EvR te σ H fun v H1 => Dp K H1 v (.int z) := er_ev h fun _ _ => .int z
theorem ed_bl {K : PySem.W.Frag} {σ : L2.St} {H : Hp} {te : TE} {z : Bool} (h : Ev te σ H (.bl z)) : EvR te σ H fun v H1 => Dp K H1 v (.bool z) := er_ev h fun _ _ => .bl z
theorem ed_str {K : PySem.W.Frag} {σ : L2.St} {H : Hp} {te : TE} {z : Str} (h : Ev te σ H (.str z)) : EvR te σ H fun v H1 => Dp K H1 v (.str z) := er_ev h fun _ _ => .str z
def EvDs (K : PySem.W.Frag) (ta : TA) (σ : L2.St) (H : Hp) (ds : List PyData) : Prop := ∀ H1, Ex H H1 → ∀ Q : List V → Hp → Prop, (∀ vs H2, Ex H1 H2 → DpAll K H2 vs ds → Q vs H2) → ta σ H1 Q
theorem eds_nil {K : PySem.W.Frag} {σ : L2.St} {H : Hp} : EvDs K tNil σ H [] := fun H1 _ Q q => q [] H1 (Ex.refl H1) .nil
theorem eds_cons {K : PySem.W.Frag} {σ : L2.St} {H : Hp} {te : TE} {ta : TA} {d : PyData} {ds : List PyData} (h : EvR te σ H fun v H1 => Dp K H1 v d) (r : EvDs K ta σ H ds) : EvDs K (tCons te ta) σ H (d :: ds) := fun H1 e Q q =>
  h H1 e _ fun v H2 e2 hv => r H2 (e.trans e2) _ fun vs H3 e3 hs => q (v :: vs) H3 (e2.trans e3) (.cons (dp_ex e3 hv) hs)
theorem ed_tup {K : PySem.W.Frag} {σ : L2.St} {H : Hp} {ta : TA} {ds : List PyData} (h : EvDs K ta σ H ds) (hl : ds.length ≤ 1000) : EvR (tTup ta) σ H fun v H1 => Dp K H1 v (.tuple ds) := fun H1 e Q q =>
  h H1 e _ fun vs H2 e2 hs => by
    have l := (dp_get hs).1
    exact ⟨by rw [l]; exact Nat.le_trans hl (by decide), fun p hp => q _ _ (e2.trans (Ex.new hp)) (.tup (st_of upd_same) (dpa_ex (Ex.new hp) hs))⟩
theorem ev_same {K : PySem.W.Frag} {E : XK} {σ : L2.St} {H : Hp} {ta tb : TE} {d : PyData} (ha : EvR ta σ H fun v H1 => Dp K H1 v d) (hb : EvR tb σ H fun v H1 => Dp K H1 v d) (hf : Flat 4 d) : Ev (tCall (sp_same K 4) [] E (tCons ta (tCons tb tNil))) σ H (.bl true) := fun H1 e Q q =>
  ha H1 e _ fun v H2 e2 hv => hb H2 (e.trans e2) _ fun w H3 e3 hw => ⟨v, w, d, rfl, dp_ex e3 hv, hw, hf, q H3 (e2.trans e3)⟩
theorem dp_rows {K : PySem.W.Frag} {H : Hp} : ∀ (vs : List V) (xss : List (List Int)), vs.length = xss.length → (∀ (i : Nat) v, vs[i]? = some v → ∃ p, v = .ref p ∧ SqL K H p ((xss.getD i []).map V.int)) → DpAll K H vs (xss.map fun xs => .list (xs.map .int))
  | [], [], _, _ => .nil
  | v :: vs, xs :: xss, hl, h => by
    obtain ⟨p, rfl, hp⟩ := h 0 v rfl
    exact .cons (.lst hp (dp_ints _)) (dp_rows vs xss (by simpa using hl) fun i u hu => h (i + 1) u hu)
/-- lists of ints within a list -/
structure Rows (K : PySem.W.Frag) (H : Hp) (a : Addr) (xss : List (List Int)) : Prop where
  all : ∃ vs : List V, SqL K H a vs ∧ vs.length = xss.length ∧ ∀ (i : Nat) v, vs[i]? = some v → ∃ p, v = .ref p ∧ SqL K H p ((xss.getD i []).map V.int)
theorem Rows.dp {K : PySem.W.Frag} {H : Hp} {a : Addr} {xss : List (List Int)} (h : Rows K H a xss) : Dp K H (.ref a) (.list (xss.map fun xs => .list (xs.map .int))) := by
  obtain ⟨vs, h1, h2, h3⟩ := h.all
  exact .lst h1 (dp_rows vs xss h2 h3)
theorem ev_xf {σ : L2.St} {H : Hp} {te : TE} {a C dd : Addr} {f : Str} {fs : List (Str × V)} {v : V} (h : Ev te σ H (.ref a)) (hx : H dd = some (.xd fs)) (hl : fs.lookup f = some v) : Ev (tXf a (.ref C) (some dd) C f te) σ H v := fun H1 e Q q => h H1 e _ fun H2 e2 => ⟨rfl, rfl, dd, fs, v, rfl, (e.trans e2) _ _ hx, hl, q H2 e2⟩
theorem flat_bools (bs : List Bool) (h : bs.length ≤ 100) : Flat 4 (.tuple (bs.map .bool)) := ⟨by rw [List.length_map]; omega, fun d hd => by
  obtain ⟨i, _, rfl⟩ := List.mem_map.mp hd
  exact True.intro⟩
theorem flat_boolsL (bs : List Bool) (h : bs.length ≤ 100) : Flat 4 (.list (bs.map .bool)) := ⟨by rw [List.length_map]; omega, fun d hd => by
  obtain ⟨i, _, rfl⟩ := List.mem_map.mp hd
  exact True.intro⟩
def spNoGate (K : PySem.W.Frag) (A : Ads) : Sp := fun vs H Q _ => ∃ (v h : V) (g hr : Int) (n : Nat) (gs : List (Str × Int)) (xss : List (List Int)), vs = [v, .int g, .int hr] ∧ WatchOk K A v H h n gs xss ∧ ¬ (0 ≤ g ∧ g < (gs.length : Int)) ∧ ∀ H', Ex H H' → Q (.bl true) H'
theorem ok_u_law_no_gate (T : Txt K mg A) : FnOk P w K mg base CX0 9 A.f_u_law_no_gate A.d_u_law_no_gate (["watch", "gate", "hour"] : List Str) (spNoGate K A) := by
  refine T.F_u_law_no_gate.ok sc_u_law_no_gate (fun vs H Q E h => ?_) (fun cdv Ar outer s H vs Q E hr h => ?_)
  · obtain ⟨v, h, g, hr, n, gs, xss, rfl, _⟩ := h
    rfl
  · obtain ⟨v, h, g, hh, n, gs, xss, rfl, W, hg, k⟩ := h
    refine ⟨_, (pss_cons (ps_set (i := 3) sc_u_law_no_gate.nd rfl (Or.inl rfl) pe_non)
        (pss_cons (ps_try_as (i := 4) (Wout := fun _ _ _ _ => False) rfl rfl sc_u_law_no_gate.nd rfl rfl ⟨rfl, by decide, Or.inl T.g_NoPlace⟩ takes0 (fun W pn xe tk _ => (pss_one (ps_set (i := 3) sc_u_law_no_gate.nd rfl (Or.inl rfl) (pe_lst (pa_cons (pe_ixOS (E := WE W) T.M_Watch_getitem T.FI_Watch_getitem (ok_Watch_getitem T) (hr.mono (by omega)) (b_Watch_getitem T) (fun σ => passAt tk σ) (pv 0) (pe_tup (pa_cons (pv 1) (pa_cons (pv 2) pa_nil))) (fun _ _ => rfl)) pa_nil))))) (fun a oe cls dd pn hz hf => (pss_one (ps_set (i := 3) sc_u_law_no_gate.nd rfl (Or.inl rfl) (pe_tup (pa_cons (pe_callB (call_isN T.ex_NoPlace hz hf) (by rfl) T.z_isinstance (by decide +kernel) (pa_cons (pv 4) (pa_cons (pe_glob (v := .ref A.C_WatchError) rfl T.g_WatchError rfl) pa_nil))) (pa_cons (pe_callB (call_isN T.ex_NoPlace hz hf) (by rfl) T.z_isinstance (by decide +kernel) (pa_cons (pv 4) (pa_cons (pe_bltn (v := .ty "ValueError") (by rfl) T.z_ValueError (by decide +kernel) rfl) pa_nil))) (pa_cons (pe_callB (call_isN T.ex_NoPlace hz hf) (by rfl) T.z_isinstance (by decide +kernel) (pa_cons (pv 4) (pa_cons (pe_glob (v := .ref A.C_BadNumber) rfl T.g_BadNumber rfl) pa_nil))) (pa_cons (pe_callB (call_isN T.ex_NoPlace hz hf) (by rfl) T.z_isinstance (by decide +kernel) (pa_cons (pv 4) (pa_cons (pe_glob (v := .ref A.C_WrongLength) rfl T.g_WrongLength rfl) pa_nil))) pa_nil)))))))))
        (pss_one (ps_ret (pe_call (ok_u_law_same T) (hr.mono (by omega)) rfl T.g_u_law_same T.k_u_law_same (b_u_law_same T) .nil pass0 (pa_cons (pv 3) (pa_cons (pe_tup (pa_cons pe_bl (pa_cons pe_bl (pa_cons pe_bl (pa_cons pe_bl pa_nil))))) pa_nil))))))), ?_⟩
    obtain ⟨a, dx, u, rfl, h1, _⟩ := id W.w
    try dsimp only
    refine q_asg (v := .non) ev_c fun H1 e1 => ?_
    refine ⟨_, rfl, _, rfl, _, rfl, by show 2 ≤ sizeLine; decide, fun tp htp => ?_⟩
    have eN : Ex H1 (upd H1 tp (.tup [.int g, .int hh])) := Ex.new htp
    have e1N := e1.trans eN
    refine ⟨a, dx, _, rfl, e1N _ _ h1, .ref a, h, tp, n, g, hh, gs, xss, rfl, W.ex e1N, st_of upd_same, fun _ H2 e2 => ?_, fun hc => absurd hc hg⟩
    refine ⟨true, T.xm_NoPlace_NoPlace, fun _ ea hea => ?_, fun z => Bool.noConfusion z⟩
    have isz : ∀ (c : V) (b : Bool), (∃ cv, (∀ u, RelV c u → u = cv) ∧ PySem.W.kitOne K (.ref A.C_NoPlace) cv = some b) → ∀ G σ', σ'[4]? = some (some (.ref ea)) → Ev (tCB (rIsN K A.C_NoPlace ea (.ref A.C_NoPlace) none) (tCons (tVar 4) (tCons (tC c) tNil))) σ' G (.bl b) := fun c b ⟨cv, h1, h2⟩ G σ' hσ =>
      ev_cb (ea_cons (ev_var hσ) (ea_cons ev_c ea_nil)) fun H3 e3 Q q => ⟨rfl, rfl, c, cv, b, rfl, h1, h2, q H3 (Ex.refl H3)⟩
    try dsimp only
    refine s_asgR (ed_tup (K := K) (ds := [.bool true, .bool true, .bool false, .bool false]) (eds_cons (ed_bl (isz (.ref A.C_WatchError) _ ⟨.ref A.C_WatchError, fun u h => h, T.kit_NoPlace_WatchError⟩ _ _ rfl)) (eds_cons (ed_bl (isz (.ty "ValueError") _ ⟨.type "ValueError", fun u h => h, T.kit_NoPlace_ValueError⟩ _ _ rfl)) (eds_cons (ed_bl (isz (.ref A.C_BadNumber) _ ⟨.ref A.C_BadNumber, fun u h => h, T.kit_NoPlace_BadNumber⟩ _ _ rfl)) (eds_cons (ed_bl (isz (.ref A.C_WrongLength) _ ⟨.ref A.C_WrongLength, fun u h => h, T.kit_NoPlace_WrongLength⟩ _ _ rfl)) eds_nil)))) (by show 4 ≤ 1000; decide)) fun w H3 e3 hw => ?_
    try dsimp only
    exact s_ret (v := .bl true) (ev_same (d := .tuple [.bool true, .bool true, .bool false, .bool false]) (er_ev (ev_var (i := 3) rfl) fun G e => dp_ex e hw) (ed_tup (eds_cons (ed_bl ev_c) (eds_cons (ed_bl ev_c) (eds_cons (ed_bl ev_c) (eds_cons (ed_bl ev_c) eds_nil)))) (by show 4 ≤ 1000; decide)) (flat_bools [true, true, false, false] (by decide))) fun H4 e4 => k H4 ((e1N.trans e2).trans (e3.trans e4))
theorem RowsL.dp {K : PySem.W.Frag} {H : Hp} {a : Addr} {xss : List (List Int)} (h : RowsL K H a xss) : Dp K H (.ref a) (.list (xss.map fun xs => .list (xs.map .int))) := (show Rows K H a xss from ⟨h.all⟩).dp
theorem flat_rowsB {xss : List (List Int)} (h : xss.length ≤ 400) (hx : ∀ xs ∈ xss, xs.length ≤ 1000) : Flat 4 (.list (xss.map fun xs => .list (xs.map .int))) :=
  ⟨by rw [List.length_map]; omega, fun d hd => by
    obtain ⟨xs, hm, rfl⟩ := List.mem_map.mp hd
    exact ⟨by rw [List.length_map]; have := hx xs hm; omega, fun d hd => by
      obtain ⟨i, _, rfl⟩ := List.mem_map.mp hd
      exact True.intro⟩⟩
theorem ev_lenR {K : PySem.W.Frag} {σ : L2.St} {H : Hp} {te : TE} {n : Nat} (h : EvR te σ H fun v G => ∃ p xs, v = .ref p ∧ SqL K G p xs ∧ xs.length = n) : Ev (tCB (rLenK K) (tCons te tNil)) σ H (.int (n : Int)) := fun H1 e Q q => h H1 e _ fun v H2 e2 hv => by
  obtain ⟨p, xs, rfl, hp, hl⟩ := hv
  exact ⟨.ref p, n, rfl, .inl ⟨xs, hp, hl.symm⟩, q H2 e2⟩
theorem er_rowsF {K : PySem.W.Frag} {A : Ads} {E : XK} {ta : TE} {σ : L2.St} {H : Hp} {v h : V} {n : Nat} {gs : List (Str × Int)} {xss : List (List Int)} (ha : Ev ta σ H v) (W : WatchOk K A v H h n gs xss) : EvR (tProp A.C_Watch (spRows K A) [] E ta) σ H fun v G => ∃ p, v = .ref p ∧ FreshR H G p xss := fun H1 e Q q => ha H1 e _ fun H2 e2 => by
  have hv := W.ex (e.trans e2)
  have gl := hv.gl
  have xl := hv.sh.len
  obtain ⟨a, dx, u, rfl, h1, _⟩ := id hv.w
  exact ⟨a, dx, _, rfl, h1, .ref a, h, xss, rfl, hv.w, by omega, fun p H' e' hF => q (.ref p) H' (e2.trans e') ⟨p, rfl, hF.below (e.trans e2)⟩⟩
theorem ev_wget {K : PySem.W.Frag} {A : Ads} {E : L2.St → XK} {ta t1 t2 : TE} {σ : L2.St} {H : Hp} {v h : V} {g hr : Int} {n : Nat} {gs : List (Str × Int)} {xss : List (List Int)} (h0 : Ev ta σ H v) (h1 : Ev t1 σ H (.int g)) (h2 : Ev t2 σ H (.int hr)) (W : WatchOk K A v H h n gs xss) (hg : 0 ≤ g ∧ g < (gs.length : Int)) : Ev (tOpS (rOwnIxS A.C_Watch (spGetE K A) E) ta (tTup (tCons t1 (tCons t2 tNil)))) σ H (.int (watVal xss (n : Int) g hr)) := fun H1 e Q q => h0 H1 e _ fun H2 e2 => (eu_tup (ea_cons h1 (ea_cons h2 ea_nil)) (by show 2 ≤ 100000; decide)) H2 (e.trans e2) _ fun p H3 hp e3 hp3 => by
  have hv := W.ex ((e.trans e2).trans e3)
  obtain ⟨a, dx, u, rfl, z1, _⟩ := id hv.w
  exact ⟨a, dx, _, rfl, z1, .ref a, h, p, n, g, hr, gs, xss, rfl, hv, st_of hp3, fun hc => absurd hg hc, fun _ H' e' => q H' ((e2.trans e3).trans e')⟩
theorem mod_back {n h : Nat} (hh : h < n) (l : Int) : ((h : Int) + (n : Int) * l) % (n : Int) = (h : Int) := by
  rw [Int.add_mul_emod_self_left, Int.emod_eq_of_lt (by omega) (by omega)]
def spShowsW (K : PySem.W.Frag) (A : Ads) : Sp := fun vs H Q _ => ∃ (v h hv : V) (p lp : Addr) (n : Nat) (gs : List (Str × Int)) (xss : List (List Int)) (l0 l1 : Int), vs = [v, hv, .ref p, .ref lp] ∧ WatchOk K A v H h n gs xss ∧ HouseIs A.C_House hv H (n : Int) gs ∧ (∀ g ∈ gs, Word g.1) ∧ (1 ≤ gs.length ∧ gs.length ≤ 4) ∧ n ≤ 24 ∧ RowsL K H p xss ∧ SqL K H lp [.int l0, .int l1] ∧ (0 ≤ l0 ∧ 0 ≤ l1) ∧ ∀ H', Ex H H' → Q (.bl true) H'
theorem ok_u_law_shows (T : Txt K mg A) : FnOk P w K mg base CX0 10 A.f_u_law_shows A.d_u_law_shows (["watch", "house", "rows", "laps"] : List Str) (spShowsW K A) := by
  refine T.F_u_law_shows.ok sc_u_law_shows (fun vs H Q E h => ?_) (fun cdv Ar outer s H vs Q E hr h => ?_)
  · obtain ⟨v, h, hv, p, lp, n, gs, xss, l0, l1, rfl, _⟩ := h
    rfl
  · obtain ⟨v, h, hv, p, lp, n, gs, xss, l0, l1, rfl, W, hh, wd, hm, hn, hR, hlp, hl, k⟩ := h
    refine ⟨_, (pss_cons (ps_set (i := 4) sc_u_law_shows.nd rfl (Or.inl rfl) (pe_callB len_K (by rfl) T.z_len (by decide +kernel) (pa_cons (pe_ix ix_lK (pv 2) pe_int (fun _ _ => rfl)) pa_nil)))
        (pss_cons (ps_set (i := 5) sc_u_law_shows.nd rfl (Or.inl rfl) (pe_prop (pv 0) T.cl_Watch T.P_Watch_rows (ok_Watch_rows T) (hr.mono (by omega)) (b_Watch_rows T) .nil pass0 rfl))
        (pss_cons (ps_if (PW.pt (pw_or (pt_not (pt_val (pe_call (ok_u_law_same T) (hr.mono (by omega)) rfl T.g_u_law_same T.k_u_law_same (b_u_law_same T) .nil pass0 (pa_cons (pv 5) (pa_cons (pv 2) pa_nil))))) (pw_or1 (pt_not (pt_val (pe_call (ok_u_law_same T) (hr.mono (by omega)) rfl T.g_u_law_same T.k_u_law_same (b_u_law_same T) .nil pass0 (pa_cons (pe_cmpS (op_ownC (op := .Eq) (E := fun _ => E0) (fun _ _ => rfl) T.M_House_eq (ok_House_eq T) (hr.mono (by omega)) (b_House_eq T) (pAt pass0)) (pe_fldK (pv 0) rfl) (pv 1) (nomark _)) (pa_cons pe_bl pa_nil)))))))) (pss_one (ps_ret pe_bl)) pss_nil)
        (pss_cons (ps_set (i := 6) sc_u_law_shows.nd rfl (Or.inl rfl) (pe_ix ix_lK (pv 5) pe_int (fun _ _ => rfl)))
        (pss_cons (ps_asg pe_int (pg_sub (pv 6) pe_int set_list))
        (pss_cons (ps_expr (pe_bm PySem.F.plainAttrs_list PySem.F.slot_list_append PySem.F.type_list_append mt_append (pv 5) (pa_cons (pe_lst pa_nil) pa_nil)))
        (pss_cons (ps_if (pt_not (pt_val (pe_call (ok_u_law_same T) (hr.mono (by omega)) rfl T.g_u_law_same T.k_u_law_same (b_u_law_same T) .nil pass0 (pa_cons (pe_prop (pv 0) T.cl_Watch T.P_Watch_rows (ok_Watch_rows T) (hr.mono (by omega)) (b_Watch_rows T) .nil pass0 rfl) (pa_cons (pv 2) pa_nil))))) (pss_one (ps_ret pe_bl)) pss_nil)
        (pss_cons (ps_for PassesOwn.never rfl (pi_range1 rfl T.z_range (pa_cons (pe_callB len_K (by rfl) T.z_len (by decide +kernel) (pa_cons (pv 2) pa_nil)) pa_nil)) (pg_name (i := 7) sc_u_law_shows.nd rfl (Or.inl rfl)) (pss_one (ps_for PassesOwn.never rfl (pi_range1 rfl T.z_range (pa_cons (pe_callB len_K (by rfl) T.z_len (by decide +kernel) (pa_cons (pe_ix ix_lK (pv 2) (pv 7) (fun _ _ => rfl)) pa_nil)) pa_nil)) (pg_name (i := 8) sc_u_law_shows.nd rfl (Or.inl rfl)) (pss_one (ps_for PassesOwn.never rfl (pi_listK (pe_lst (pa_cons (pv 8) (pa_cons (pe_op op_add (pv 8) (pe_op op_mul (pv 4) (pe_ix ix_lK (pv 3) pe_int (fun _ _ => rfl)))) (pa_cons (pe_op op_sub (pv 8) (pe_op op_mul (pv 4) (pe_ix ix_lK (pv 3) pe_int (fun _ _ => rfl)))) pa_nil))))) (pg_name (i := 9) sc_u_law_shows.nd rfl (Or.inl rfl)) (pss_one (ps_if (pt_not (pt_val (pe_call (ok_u_law_same T) (hr.mono (by omega)) rfl T.g_u_law_same T.k_u_law_same (b_u_law_same T) .nil pass0 (pa_cons (pe_ixOS (E := fun _ => E0) T.M_Watch_getitem T.FI_Watch_getitem (ok_Watch_getitem T) (hr.mono (by omega)) (b_Watch_getitem T) (pAt passL) (pv 0) (pe_tup (pa_cons (pv 7) (pa_cons (pv 9) pa_nil))) (fun _ _ => rfl)) (pa_cons (pe_ix ix_lK (pe_ix ix_lK (pv 2) (pv 7) (fun _ _ => rfl)) (pv 8) (fun _ _ => rfl)) pa_nil))))) (pss_one (ps_ret pe_bl)) pss_nil)))))))
        (pss_cons (ps_for PassesOwn.never rfl (pi_listK (pe_lst (pa_cons (pe_un un_neg pe_int) (pa_cons (pe_callB len_K (by rfl) T.z_len (by decide +kernel) (pa_cons (pv 2) pa_nil)) (pa_cons (pe_op op_add (pe_callB len_K (by rfl) T.z_len (by decide +kernel) (pa_cons (pv 2) pa_nil)) (pe_ix ix_lK (pv 3) pe_int (fun _ _ => rfl))) (pa_cons (pe_op op_sub (pe_un un_neg pe_int) (pe_ix ix_lK (pv 3) pe_int (fun _ _ => rfl))) pa_nil)))))) (pg_name (i := 10) sc_u_law_shows.nd rfl (Or.inl rfl)) (pss_one (ps_if (PW.pt (pw_or (pt_not (pt_val (pe_call (ok_u_law_no_gate T) (hr.mono (by omega)) rfl T.g_u_law_no_gate T.k_u_law_no_gate (b_u_law_no_gate T) .nil pass0 (pa_cons (pv 0) (pa_cons (pv 10) (pa_cons pe_int pa_nil)))))) (pw_or1 (pt_not (pt_val (pe_call (ok_u_law_no_gate T) (hr.mono (by omega)) rfl T.g_u_law_no_gate T.k_u_law_no_gate (b_u_law_no_gate T) .nil pass0 (pa_cons (pv 0) (pa_cons (pv 10) (pa_cons (pe_ix ix_lK (pv 3) pe_int (fun _ _ => rfl)) pa_nil))))))))) (pss_one (ps_ret pe_bl)) pss_nil)))
        (pss_one (ps_ret pe_bl))))))))))), ?_⟩
    obtain ⟨vs, hvs, hvl, hall⟩ := hR.all
    have nb := W.nb
    have xl := W.sh.len
    have nfH : PySem.W.notFirst K A.C_House (.ref A.C_House) = true := by unfold PySem.W.notFirst; simp
    obtain ⟨wa, wdx, wu, rfl, g1, _⟩ := id W.w
    have v0 : vs[0]? = some vs[0] := List.getElem?_eq_getElem (by omega)
    obtain ⟨t0, ht0, hT0⟩ := hall 0 _ v0
    rw [ht0] at v0
    have r0 : (xss.getD 0 []).length = n := W.sh.row' _ (in_getD (by omega))
    have lenR : ∀ {σ : L2.St} {G : Hp}, σ[2]? = some (some (.ref p)) → Ex H G → Ev (tCB (rLenK K) (tCons (tVar 2) tNil)) σ G (.int (gs.length : Int)) := fun h e => ev_cb (r := rLenK K) (ea_cons (ev_var h) ea_nil) fun H2 e2 Q q => ⟨.ref p, gs.length, rfl, .inl ⟨_, ex_l (e.trans e2) hvs, by omega⟩, q H2 (Ex.refl H2)⟩
    have lpE : ∀ {σ : L2.St} {G : Hp} {i : Int} {te : TE} {z : Int}, σ[3]? = some (some (.ref lp)) → Ex H G → Ev te σ G (.int i) → atI [V.int l0, .int l1] i = some (.int z) → Ev (tOp (rIxL K) (tVar 3) te) σ G (.int z) := fun h e he hz => ev_op (ev_var h) he (rv_ixL (K := K) (ex_l e hlp) hz)
    try dsimp only
    refine q_asg (v := .int (n : Int)) (ev_lenR (K := K) (n := n) (er_ev (ev_op (ev_var (i := 2) rfl) ev_c (rv_ixL (K := K) hvs (atI_nat (j := 0) v0))) fun G e => ⟨t0, _, rfl, ex_l e hT0, by rw [List.length_map, r0]⟩)) fun H1 e1 => ?_
    try dsimp only
    refine q_asgR (er_rowsF (K := K) (A := A) (ev_var (i := 0) rfl) (W.ex e1)) fun v H2 e2 hv' => ?_
    obtain ⟨tp, rfl, hF⟩ := hv'
    have e02 := e1.trans e2
    try dsimp only
    refine q_skip (et_orF (et_notT (et_B (ev_same (d := .list (xss.map fun xs : List Int => PyData.list (xs.map PyData.int))) (er_ev (ev_var (i := 5) rfl) fun G e => ((hF.ex e).rows (K := K)).dp) (er_ev (ev_var (i := 2) rfl) fun G e => (hR.ex (e02.trans e)).dp) (flat_rowsB (by omega) fun xs hx => by have := W.sh.row' _ hx; omega)))) (et_notT (et_B (ev_same (d := .bool true) (ed_bl (ev_is (ev_heq (K := K) (A := A) T.ty_House nfH (ev_whouse (ev_var (i := 0) rfl) (e02 _ _ g1) T.cl_Watch T.na_Watch_house) (ev_var (i := 1) rfl) (W.hs.ex e02) (hh.ex e02) wd wd) (by rw [decide_eq_true ⟨rfl, rfl⟩]))) (ed_bl ev_c) True.intro)))) fun H3 e3 => ?_
    obtain ⟨ftp, us, hus, hul, hua⟩ := hF.ex e3
    have u0 : us[0]? = some us[0] := List.getElem?_eq_getElem (by omega)
    obtain ⟨s0, hs0, fs0, hS0⟩ := hua 0 _ u0
    rw [hs0] at u0
    have tne : tp ≠ s0 := fun z => by
      rw [z, hS0] at hus
      have := congrArg (fun o => match o with | some (HO.lst l) => l[0]? | _ => none) hus
      have h1 : ((xss.getD 0 []).map V.int)[0]? = us[0]? := this
      rw [u0, List.getElem?_map, List.getElem?_eq_getElem (by omega)] at h1
      cases h1
    try dsimp only
    refine q_asg (v := .ref s0) (ev_op (ev_var (i := 5) rfl) ev_c (rv_ixL (K := K) (sq_of hus) (atI_nat (j := 0) u0))) fun H4 e4 => ?_
    try dsimp only
    refine q_setL (j := 0) (v := .int 97) (e4 _ _ hS0) ev_c (ev_var (i := 6) rfl) ev_c (by rw [List.length_map]; omega) fun H5 e5 => ?_
    have e24 := (e3.trans e4).trans e5
    have eS : Ex H1 (upd H5 s0 (.lst (((xss.getD 0 []).map V.int).set 0 (.int 97)))) := Ex.mut (e2.trans e24) fs0
    have hus5 : upd H5 s0 (.lst (((xss.getD 0 []).map V.int).set 0 (.int 97))) tp = some (.lst us) := by rw [upd_ne tne]; exact (e4.trans e5) _ _ hus
    try dsimp only
    refine q_appL hus5 (ev_var (i := 5) rfl) (ys := []) (el_lst ea_nil (by decide)) (by omega) fun b H6 hb e6 hbl => ?_
    have eT := Ex.mut (o := .lst (us ++ [.ref b])) (eS.trans e6) ftp
    have e0 := e1.trans eT
    generalize upd H6 tp (.lst (us ++ [.ref b])) = G at *
    clear hus5 eS hus hua hS0 hF eT e24
    try dsimp only
    refine q_skip (et_notT (et_B (ev_same (d := .list (xss.map fun xs : List Int => PyData.list (xs.map PyData.int))) (EvR.imp (er_rowsF (K := K) (A := A) (ev_var (i := 0) rfl) (W.ex e0)) fun v G ⟨q, z1, z2⟩ => by rw [z1]; exact (z2.rows (K := K)).dp) (er_ev (ev_var (i := 2) rfl) fun G e => (hR.ex (e0.trans e)).dp) (flat_rowsB (by omega) fun xs hx => by have := W.sh.row' _ hx; omega)))) fun G1 g1' => ?_
    have e01 := e0.trans g1'
    try dsimp only
    refine q_forR1 (j := 7) (n := (gs.length : Int)) (ea_cons (lenR rfl e01) ea_nil) (by omega) (fun i σ' F => ∃ v7 v8 v9 : Option V, σ' = [some (.ref wa), some hv, some (.ref p), some (.ref lp), some (.int (n : Int)), some (.ref tp), some (.ref s0), v7, v8, v9, none] ∧ Ex H F) (fun F e => ⟨_, _, _, rfl, e01.trans e⟩) ?_ ?_
    · rintro i σ' F hi ⟨v7, v8, v9, rfl, eF⟩
      have hi : i < gs.length := by omega
      have vi : vs[i]? = some vs[i] := List.getElem?_eq_getElem (by omega)
      obtain ⟨ti, hti, hTi⟩ := hall i _ vi
      rw [hti] at vi
      have ri : (xss.getD i []).length = n := W.sh.row' _ (in_getD (by omega))
      have rwE : ∀ {σ : L2.St} {G2 : Hp}, σ[2]? = some (some (.ref p)) → σ[7]? = some (some (.int (i : Int))) → Ex F G2 → Ev (tOp (rIxL K) (tVar 2) (tVar 7)) σ G2 (.ref ti) := fun s2 s7 e => ev_op (ev_var s2) (ev_var s7) (rv_ixL (K := K) (ex_l (eF.trans e) hvs) (atI_nat vi))
      try dsimp only
      refine s_forR1 (j := 8) (n := (n : Int)) (ea_cons (ev_lenR (K := K) (n := n) (er_ev (rwE rfl rfl (Ex.refl _)) fun G e => ⟨ti, _, rfl, ex_l (eF.trans e) hTi, by rw [List.length_map, ri]⟩)) ea_nil) (by omega) (fun j σ' F2 => ∃ v8 v9 : Option V, σ' = [some (.ref wa), some hv, some (.ref p), some (.ref lp), some (.int (n : Int)), some (.ref tp), some (.ref s0), some (.int (i : Int)), v8, v9, none] ∧ Ex F F2) (fun F2 e => ⟨_, _, rfl, e⟩) ?_ ?_
      · rintro j σ' F2 hj ⟨v8, v9, rfl, eF2⟩
        have hj : j < n := by omega
        have eH2 := eF.trans eF2
        try dsimp only
        refine s_forI (ei_list (K := K) (eb_L (K := K) (xs := [.int (j : Int), .int ((j : Int) + (n : Int) * l0), .int ((j : Int) - (n : Int) * l1)]) (el_lst (ea_cons (ev_var (i := 8) rfl) (ea_cons (ev_op (ev_var (i := 8) rfl) (ev_op (ev_var (i := 4) rfl) (lpE rfl eH2 ev_c (atI_nat (j := 0) rfl)) (rv_I (show CMul (n : Int) l0 from .inl ⟨by omega, by omega⟩))) rv_I0) (ea_cons (ev_op (ev_var (i := 8) rfl) (ev_op (ev_var (i := 4) rfl) (lpE rfl eH2 ev_c (atI_nat (j := 1) rfl)) (rv_I (show CMul (n : Int) l1 from .inl ⟨by omega, by omega⟩))) rv_I0) ea_nil))) (by show 3 ≤ 100000; decide)))) fun F3 e3 => ⟨fun k σ' F4 => ∃ v9 : Option V, σ' = [some (.ref wa), some hv, some (.ref p), some (.ref lp), some (.int (n : Int)), some (.ref tp), some (.ref s0), some (.int (i : Int)), some (.int (j : Int)), v9, none] ∧ Ex F3 F4, ⟨_, rfl, Ex.refl _⟩, fun k σ' F4 _ ⟨_, _, e⟩ => e, ?_, ?_⟩
        · rintro kq y σ' F4 F5 hk ⟨v9', rfl, eF4⟩ ⟨rfl, hy⟩
          obtain ⟨z, rfl, hz⟩ : ∃ z : Int, y = .int z ∧ z % (n : Int) = (j : Int) := by
            have : kq = 0 ∨ kq = 1 ∨ kq = 2 := by
              have hk : kq < 3 := hk
              omega
            rcases this with rfl | rfl | rfl
            · exact ⟨_, (Option.some.inj hy).symm, by have := mod_back hj 0; simpa using this⟩
            · exact ⟨_, (Option.some.inj hy).symm, mod_back hj l0⟩
            · exact ⟨_, (Option.some.inj hy).symm, by have := mod_back hj (-l1); rwa [Int.mul_neg, ← Int.sub_eq_add_neg] at this⟩
          have e0F := eF2.trans (e3.trans eF4)
          dsimp only [gName]
          have xj : ((xss.getD i []).map V.int)[j]? = some (.int ((xss.getD i []).getD j 0)) := by
            generalize xss.getD i [] = xi at *
            rw [List.getElem?_map, List.getD_eq_getElem?_getD, List.getElem?_eq_getElem (by omega)]
            rfl
          try dsimp only
          exact s_when (b := false) (et_notT (et_B (ev_same (d := .int ((xss.getD i []).getD j 0)) (ed_int (ev_is (ev_wget (K := K) (A := A) (ev_var (i := 0) rfl) (ev_var (i := 7) rfl) (ev_var (i := 9) rfl) (W.ex (eF.trans e0F)) ⟨by omega, by omega⟩) (by unfold watVal; rw [Int.toNat_natCast, hz, Int.toNat_natCast]))) (ed_int (ev_op (rwE rfl rfl e0F) (ev_var (i := 8) rfl) (rv_ixL (K := K) (ex_l (eF.trans e0F) hTi) (atI_nat xj)))) True.intro))) (fun z => Bool.noConfusion z) fun _ F6 f6 => ⟨_, rfl, eF4.trans f6⟩
        rintro σ' F4 ⟨v9', rfl, eF4⟩
        exact ⟨_, _, rfl, eF2.trans (e3.trans eF4)⟩
      rintro σ' F2 ⟨v8, v9, rfl, eF2⟩
      exact ⟨_, _, _, rfl, eF.trans eF2⟩
    rintro σ' F ⟨v7, v8, v9, rfl, eF⟩
    try dsimp only
    refine q_forI (ei_list (K := K) (eb_L (K := K) (xs := [.int (-1), .int (gs.length : Int), .int ((gs.length : Int) + l0), .int (-2 - l1)]) (el_lst (ea_cons (ev_un ev_c ru_neg) (ea_cons (lenR rfl eF) (ea_cons (ev_op (lenR rfl eF) (lpE rfl eF ev_c (atI_nat (j := 0) rfl)) rv_I0) (ea_cons (ev_op (ev_un ev_c ru_neg) (lpE rfl eF ev_c (atI_nat (j := 1) rfl)) rv_I0) ea_nil)))) (by show 4 ≤ 100000; decide)))) fun F3 e3 => ⟨fun k σ' F4 => ∃ v10 : Option V, σ' = [some (.ref wa), some hv, some (.ref p), some (.ref lp), some (.int (n : Int)), some (.ref tp), some (.ref s0), v7, v8, v9, v10] ∧ Ex F3 F4, ⟨_, rfl, Ex.refl _⟩, fun k σ' F4 _ ⟨_, _, e⟩ => e, ?_, ?_⟩
    · rintro kq u σ' F4 F5 hk ⟨v10, rfl, eF4⟩ ⟨rfl, hu⟩
      obtain ⟨z, rfl, hz⟩ : ∃ z : Int, u = .int z ∧ ¬ (0 ≤ z ∧ z < (gs.length : Int)) := by
        have : kq = 0 ∨ kq = 1 ∨ kq = 2 ∨ kq = 3 := by
          have hk : kq < 4 := hk
          omega
        rcases this with rfl | rfl | rfl | rfl
        · exact ⟨_, (Option.some.inj hu).symm, by omega⟩
        · exact ⟨_, (Option.some.inj hu).symm, by omega⟩
        · exact ⟨_, (Option.some.inj hu).symm, by omega⟩
        · exact ⟨_, (Option.some.inj hu).symm, by omega⟩
      have e0F := eF.trans (e3.trans eF4)
      dsimp only [gName]
      try dsimp only
      exact s_when (b := false) (et_orF (et_notT (et_B (ev_call (ea_cons (ev_var (i := 0) rfl) (ea_cons (ev_var (i := 10) rfl) (ea_cons ev_c ea_nil))) fun H2 e Q q _ => ⟨.ref wa, h, z, 0, n, gs, xss, rfl, W.ex (e0F.trans e), hz, fun H' e' => q H' e'⟩))) (et_notT (et_B (ev_call (ea_cons (ev_var (i := 0) rfl) (ea_cons (ev_var (i := 10) rfl) (ea_cons (lpE rfl e0F ev_c (atI_nat (j := 1) rfl)) ea_nil))) fun H2 e Q q _ => ⟨.ref wa, h, z, l1, n, gs, xss, rfl, W.ex (e0F.trans e), hz, fun H' e' => q H' e'⟩)))) (fun z => Bool.noConfusion z) fun _ F6 f6 => ⟨_, rfl, eF4.trans f6⟩
    rintro σ' F4 ⟨v10, rfl, eF4⟩
    exact s_ret ev_c fun F5 f5 => k F5 (eF.trans (e3.trans (eF4.trans f5)))
def rowD (xs : List Int) : PyData := .list (xs.map .int)
theorem eqv_rowsD : ∀ xss : List (List Int), PyData.eqvAll (xss.map rowD) (xss.map rowD) = true
  | [] => by simp [PyData.eqvAll]
  | x :: xs => by
    rw [List.map_cons, PyData.eqvAll, eqv_rowsD xs]
    unfold rowD
    rw [eqv_intsL]
    simp
theorem lay_rowsD : ∀ xss : List (List Int), PyData.canLayAll0 (xss.map rowD) = true
  | [] => by simp [PyData.canLayAll0]
  | x :: xs => by
    have := lay_rowsD xs
    have h2 := lay_ints x
    simp [PyData.canLayAll0, PyData.canLay0, rowD, this, h2]
theorem depth_rowsD : ∀ xss : List (List Int), PyData.depthAll (xss.map rowD) ≤ 2
  | [] => by simp [PyData.depthAll]
  | x :: xs => by
    have := depth_rowsD xs
    have h2 := depth_ints x
    simp [PyData.depthAll, PyData.depth, rowD]
    omega
theorem shaped_rowsD (xss : List (List Int)) : SeqAt.shaped (.list (xss.map rowD)) = true := by
  have h1 := lay_rowsD xss
  have h2 := depth_rowsD xss
  unfold SeqAt.shaped
  simp [PyData.canLay0, PyData.depth, h1]
  omega
theorem rv_neRows {K : PySem.W.Frag} {H : Hp} {a b : Addr} {xss : List (List Int)} (h1 : RowsL K H a xss) (h2 : RowsL K H b xss) : RV (rNeD K) (.ref a) (.ref b) H (.bl false) := fun H1 e Q q =>
  ⟨.list (xss.map rowD), .list (xss.map rowD), (h1.ex e).dp, (h2.ex e).dp, shaped_rowsD _, shaped_rowsD _, by rw [PyData.eqv, eqv_rowsD]; exact q H1 (Ex.refl H1)⟩
theorem dueW_non {K : PySem.W.Frag} {H : Hp} {dv : V} (h : Dp K H dv (dueW none)) : dv = .non := by cases h; rfl
theorem dueW_some {K : PySem.W.Frag} {H : Hp} {dv : V} : ∀ {e : WErr}, Dp K H dv (dueW (some e)) → dv ≠ .non
  | .wlen k, h => by cases h; exact fun z => nomatch z
  | .str x, h => by cases h; exact fun z => nomatch z
theorem flat_dueW : ∀ o : Option WErr, Flat 4 (dueW o)
  | none => True.intro
  | some (.wlen k) => ⟨by show 5 ≤ 40000; decide, fun d hd => by
    simp only [List.mem_cons, List.not_mem_nil, or_false] at hd
    rcases hd with rfl | rfl | rfl | rfl | rfl <;> exact True.intro⟩
  | some (.str x) => ⟨by show 6 ≤ 40000; decide, fun d hd => by
    simp only [List.mem_cons, List.not_mem_nil, or_false] at hd
    rcases hd with rfl | rfl | rfl | rfl | rfl | rfl <;> exact True.intro⟩
def spAnsW (K : PySem.W.Frag) (A : Ads) : Sp := fun vs H Q _ => ∃ (hv dv : V) (p lp : Addr) (n : Nat) (gs : List (Str × Int)) (zss : List (List Int)) (l0 l1 : Int), vs = [hv, .ref p, dv, .ref lp] ∧ HouseIs A.C_House hv H (n : Int) gs ∧ (∀ g ∈ gs, Word g.1) ∧ (1 ≤ gs.length ∧ gs.length ≤ 4) ∧ (1 ≤ n ∧ n ≤ 24) ∧ RowsL K H p zss ∧ zss.length ≤ 10 ∧ (∀ xs ∈ zss, xs.length ≤ 100) ∧ Dp K H dv (dueW (watchErr n gs.length zss)) ∧ SqL K H lp [.int l0, .int l1] ∧ (0 ≤ l0 ∧ 0 ≤ l1) ∧ ∀ H', Ex H H' → Q (.bl true) H'
theorem ok_u_law_answers (T : Txt K mg A) : FnOk P w K mg base CX0 11 A.f_u_law_answers A.d_u_law_answers (["house", "rows", "due", "laps"] : List Str) (spAnsW K A) := by
  refine T.F_u_law_answers.ok sc_u_law_answers (fun vs H Q E h => ?_) (fun cdv Ar outer s H vs Q E hr h => ?_)
  · obtain ⟨hv, dv, p, lp, n, gs, zss, l0, l1, rfl, _⟩ := h
    rfl
  · obtain ⟨hv, dv, p, lp, n, gs, zss, l0, l1, rfl, hh, wd, hm, hn, hR, hz, hx, hdv, hlp, hl, k⟩ := h
    refine ⟨_, (pss_cons (ps_setLc (i := 4) (own := [("row", 5)]) (g := gName 5) (tt := tYes) rfl sc_u_law_answers.nd rfl rfl (sw_true rfl rfl rfl (by decide +kernel)) (pi_listK (pv 1)) (blkOk_by (own := [("row", 5)]) (N := N_u_law_answers) (sc := defScope s_u_law_answers) (by decide +kernel)) (fun _ _ _ _ _ => (pg_name (i := 5) sc_u_law_answers.nd rfl (Or.inl rfl))) (fun _ _ _ _ _ => pts_nil) (fun _ _ _ _ _ => (pe_callTy list_K (by rfl) T.z_list (by decide +kernel) (pa_cons (pv 5) pa_nil))))
        (pss_cons (ps_set (i := 6) sc_u_law_answers.nd rfl (Or.inl rfl) pe_non)
        (pss_cons (ps_set (i := 7) sc_u_law_answers.nd rfl (Or.inl rfl) pe_non)
        (pss_cons (ps_try_mas (Wo := fun _ _ _ _ => False) rfl rfl sc_u_law_answers.nd takes0 (fun W pn xe tk _ => (pss_one (ps_set (i := 6) sc_u_law_answers.nd rfl (Or.inl rfl) (pe_makeS T.mk_Watch (ok_Watch_init T) (hr.mono (by omega)) rfl T.g_Watch (b_Watch_init T) .nil (fun σ => passAt tk σ) (pa_cons (pv 0) (pa_cons (pv 4) pa_nil)))))) (Clauses.named (i := 8) rfl rfl ⟨rfl, by decide, Or.inl T.g_WrongLength⟩ (fun a oe cls dd pn hz hf => (pss_one (ps_set (i := 7) sc_u_law_answers.nd rfl (Or.inl rfl) (pe_tup (pa_cons pe_str (pa_cons (pe_xf T.xf_WrongLength T.nf_WrongLength_length hz hf (pv 8)) (pa_cons (pe_callB (call_isX T.ex_WrongLength hz hf) (by rfl) T.z_isinstance (by decide +kernel) (pa_cons (pv 8) (pa_cons (pe_glob (v := .ref A.C_WatchError) rfl T.g_WatchError rfl) pa_nil))) (pa_cons (pe_callB (call_isX T.ex_WrongLength hz hf) (by rfl) T.z_isinstance (by decide +kernel) (pa_cons (pv 8) (pa_cons (pe_glob (v := .ref A.C_BadNumber) rfl T.g_BadNumber rfl) pa_nil))) (pa_cons (pe_callB (call_isX T.ex_WrongLength hz hf) (by rfl) T.z_isinstance (by decide +kernel) (pa_cons (pv 8) (pa_cons (pe_glob (v := .ref A.C_OtherHours) rfl T.g_OtherHours rfl) pa_nil))) pa_nil))))))))) (Clauses.named (i := 8) rfl rfl ⟨rfl, by decide, Or.inl T.g_BadNumber⟩ (fun a oe cls dd pn hz hf => (pss_one (ps_set (i := 7) sc_u_law_answers.nd rfl (Or.inl rfl) (pe_tup (pa_cons pe_str (pa_cons (pe_xf T.xf_BadNumber T.nf_BadNumber_name hz hf (pv 8)) (pa_cons (pe_xf T.xf_BadNumber T.nf_BadNumber_value hz hf (pv 8)) (pa_cons (pe_callB (call_isX T.ex_BadNumber hz hf) (by rfl) T.z_isinstance (by decide +kernel) (pa_cons (pv 8) (pa_cons (pe_glob (v := .ref A.C_WatchError) rfl T.g_WatchError rfl) pa_nil))) (pa_cons (pe_callB (call_isX T.ex_BadNumber hz hf) (by rfl) T.z_isinstance (by decide +kernel) (pa_cons (pv 8) (pa_cons (pe_glob (v := .ref A.C_WrongLength) rfl T.g_WrongLength rfl) pa_nil))) (pa_cons (pe_callB (call_isX T.ex_BadNumber hz hf) (by rfl) T.z_isinstance (by decide +kernel) (pa_cons (pv 8) (pa_cons (pe_glob (v := .ref A.C_NoPlace) rfl T.g_NoPlace rfl) pa_nil))) pa_nil)))))))))) Clauses.nil)))
        (pss_cons (ps_if (PW.pt (pw_or (pt_cmpR (neD_K hr.units) (pv 4) (pv 1) (nomark _)) (pw_or1 (pt_not (pt_val (pe_call (ok_u_law_same T) (hr.mono (by omega)) rfl T.g_u_law_same T.k_u_law_same (b_u_law_same T) .nil pass0 (pa_cons (pv 7) (pa_cons (pv 2) pa_nil)))))))) (pss_one (ps_ret pe_bl)) pss_nil)
        (pss_one (ps_ret (pe_or (pe_cmpR op_notN (pv 2) pe_non (nomark _)) (pe_one (pe_call (ok_u_law_shows T) (hr.mono (by omega)) rfl T.g_u_law_shows T.k_u_law_shows (b_u_law_shows T) .nil pass0 (pa_cons (pv 6) (pa_cons (pv 0) (pa_cons (pv 1) (pa_cons (pv 3) pa_nil)))))))))))))), ?_⟩
    try dsimp only
    refine q_asgR (er_mapR (K := K) (fun xs => xs) (ev_var (i := 1) rfl) hR (by omega) (fun x => rfl) fun t xs H1' e hx ht => en_copyR (ev_var (i := 5) rfl) ht).er fun v H1 e1 hv' => ?_
    obtain ⟨cp, rfl, hC⟩ := hv'
    rw [List.map_id'] at hC
    try dsimp only
    refine q_asg (v := .non) ev_c fun H2 e2 => ?_
    try dsimp only
    refine q_asg (v := .non) ev_c fun H3 e3 => ?_
    have e13 := (e1.trans e2).trans e3
    have hC3 := hC.ex (e2.trans e3)
    refine ⟨_, rfl, _, rfl, fun x dx hx' hdx hne => ?_⟩
    have eN : Ex H3 (upd (upd H3 dx (.own x)) x (.ins A.C_Watch dx [])) := (Ex.new hdx).trans (Ex.new (by rw [upd_ne (Ne.symm hne)]; exact hx'))
    have e1N := e13.trans eN
    have errTail : ∀ (er : WErr) (w : V) (G : Hp) (σ' : L2.St), watchErr n gs.length zss = some er → Ex H3 G → Dp K G w (dueWE er) → σ'[4]? = some (some (.ref cp)) → σ'[1]? = some (some (.ref p)) → σ'[7]? = some (some w) → σ'[2]? = some (some dv) →
        tSeq (tIfS (tOr (tTest (tOp (rNeD K) (tVar 4) (tVar 1))) (tNot (tB (tCall (sp_same K 4) [] E0 (tCons (tVar 7) (tCons (tVar 2) tNil)))))) (tRet (tC (V.bl false))) tNext) (tRet (tOrV (tOp (fun x y H Q => y = V.non ∧ Q (V.bl !decide (x = V.non)) H) (tVar 2) (tC V.non)) (tCall (spShowsW K A) [] E0 (tCons (tVar 6) (tCons (tVar 0) (tCons (tVar 1) (tCons (tVar 3) tNil))))))) { nx := fun x H' => Q V.non H', rt := Q } σ' G := fun er w G σ' he eG hw' s4 s1 s7 s2 => by
      have e0G := e13.trans eG
      rw [he] at hdv
      refine q_skip (et_orF (et_test (ev_op (ev_var s4) (ev_var s1) (rv_neRows (K := K) (hC3.ex eG) (hR.ex e0G)))) (et_notT (et_B (ev_same (d := dueWE er) (er_ev (ev_var s7) fun F e => dp_ex e hw') (er_ev (ev_var s2) fun F e => dp_ex (e0G.trans e) hdv) (flat_dueW (some er)))))) fun G1 g1 => ?_
      exact s_ret (v := .bl true) (ev_orV (a := true) (b := true) (fun G2 e Q q => ⟨dv, s2, rfl, by
        rw [decide_eq_false (dueW_some (dp_ex (e0G.trans g1) hdv))]
        exact q G2 (Ex.refl _)⟩) fun z => Bool.noConfusion z) fun G2 g2 => k G2 (e0G.trans (g1.trans g2))
    refine ⟨x, dx, hv, cp, n, gs, zss, rfl, upd_same, hh.ex e1N, by omega, hC3.ex eN, fun er he => ?_, fun hno w H' hk hU hxx => ?_⟩
    · cases er with
      | wlen j =>
        intro d H5 e hd'
        have e3' := eN.trans e
        refine ⟨true, T.xm_WrongLength_WrongLength, fun _ ea hea => ?_, fun z => Bool.noConfusion z⟩
        have rc : ∀ (c : V) (cv : Value) (b : Bool) (σ : L2.St) (G : Hp), σ[8]? = some (some (.ref ea)) → Ex H5 G → (∀ u, RelV c u → u = cv) → PySem.W.kitOne K (.ref A.C_WrongLength) cv = some b → Ev (tCB (rIsX K A.C_WrongLength ea (.ref A.C_WrongLength) (some d)) (tCons (tVar 8) (tCons (tC c) tNil))) σ G (.bl b) := fun c b2 b σ G hv eg hc hk =>
          ev_cb (ea_cons (ev_var hv) (ea_cons ev_c ea_nil)) fun H1 e1 Q q => ⟨rfl, d, _, _, _, _, rfl, e1 _ _ (eg _ _ hd'), rfl, hc, hk, q H1 (Ex.refl _)⟩
        refine s_asgR (ed_tup (K := K) (ds := [.str "WrongLength", .int (j : Int), .bool true, .bool false, .bool false]) (eds_cons (ed_str ev_c) (eds_cons (ed_int (ev_xf (ev_var (i := 8) rfl) hd' rfl)) (eds_cons (ed_bl (rc (.ref A.C_WatchError) (.ref A.C_WatchError) true _ _ rfl (Ex.refl _) (fun u h => by cases h; rfl) T.kit_WrongLength_WatchError)) (eds_cons (ed_bl (rc (.ref A.C_BadNumber) (.ref A.C_BadNumber) false _ _ rfl (Ex.refl _) (fun u h => by cases h; rfl) T.kit_WrongLength_BadNumber)) (eds_cons (ed_bl (rc (.ref A.C_OtherHours) (.ref A.C_OtherHours) false _ _ rfl (Ex.refl _) (fun u h => by cases h; rfl) T.kit_WrongLength_OtherHours)) eds_nil))))) (by show 5 ≤ 1000; decide)) fun w H6 e6 hw6 => ?_
        exact errTail (.wlen j) w H6 _ he (e3'.trans e6) hw6 rfl rfl rfl rfl
      | str z =>
        intro d H5 e hd'
        have e3' := eN.trans e
        refine ⟨false, T.xm_BadNumber_WrongLength, fun z => Bool.noConfusion z, fun _ => ⟨true, T.xm_BadNumber_BadNumber, fun _ ea hea => ?_, fun z => Bool.noConfusion z⟩⟩
        have rc : ∀ (c : V) (cv : Value) (b : Bool) (σ : L2.St) (G : Hp), σ[8]? = some (some (.ref ea)) → Ex H5 G → (∀ u, RelV c u → u = cv) → PySem.W.kitOne K (.ref A.C_BadNumber) cv = some b → Ev (tCB (rIsX K A.C_BadNumber ea (.ref A.C_BadNumber) (some d)) (tCons (tVar 8) (tCons (tC c) tNil))) σ G (.bl b) := fun c b2 b σ G hv eg hc hk =>
          ev_cb (ea_cons (ev_var hv) (ea_cons ev_c ea_nil)) fun H1 e1 Q q => ⟨rfl, d, _, _, _, _, rfl, e1 _ _ (eg _ _ hd'), rfl, hc, hk, q H1 (Ex.refl _)⟩
        refine s_asgR (ed_tup (K := K) (ds := [.str "BadNumber", .str "strength", .int z, .bool true, .bool false, .bool false]) (eds_cons (ed_str ev_c) (eds_cons (ed_str (ev_xf (ev_var (i := 8) rfl) hd' rfl)) (eds_cons (ed_int (ev_xf (ev_var (i := 8) rfl) hd' rfl)) (eds_cons (ed_bl (rc (.ref A.C_WatchError) (.ref A.C_WatchError) true _ _ rfl (Ex.refl _) (fun u h => by cases h; rfl) T.kit_BadNumber_WatchError)) (eds_cons (ed_bl (rc (.ref A.C_WrongLength) (.ref A.C_WrongLength) false _ _ rfl (Ex.refl _) (fun u h => by cases h; rfl) T.kit_BadNumber_WrongLength)) (eds_cons (ed_bl (rc (.ref A.C_NoPlace) (.ref A.C_NoPlace) false _ _ rfl (Ex.refl _) (fun u h => by cases h; rfl) T.kit_BadNumber_NoPlace)) eds_nil)))))) (by show 6 ≤ 1000; decide)) fun w H6 e6 hw6 => ?_
        exact errTail (.str z) w H6 _ he (e3'.trans e6) hw6 rfl rfl rfl rfl
    · have e' : Ex H3 H' := fun c o hc => hk c o (fun z => by rw [z, hx'] at hc; cases hc) (eN c o hc)
      have e0' := e13.trans e'
      have W : WatchOk K A (.ref x) H' hv n gs zss := ⟨⟨x, dx, w, rfl, hxx, hU H' fun b o _ _ h => h⟩, hh.ex e0', by omega, watch_good hno, by omega⟩
      rw [hno] at hdv
      have dn := dueW_non hdv
      subst dn
      refine ⟨rfl, ?_⟩
      try dsimp only
      refine q_skip (et_orF (et_test (ev_op (ev_var (i := 4) rfl) (ev_var (i := 1) rfl) (rv_neRows (K := K) (hC3.ex e') (hR.ex e0')))) (et_notT (et_B (ev_same (d := .none) (er_ev (ev_var (i := 7) rfl) fun F e => .non) (er_ev (ev_var (i := 2) rfl) fun F e => .non) True.intro)))) fun G1 g1 => ?_
      exact s_ret (v := .bl true) (ev_orV (a := false) (b := true) (ev_op (ev_var (i := 2) rfl) ev_c fun G2 e Q q => ⟨rfl, q G2 (Ex.refl _)⟩) fun _ => ev_call (ea_cons (ev_var (i := 6) rfl) (ea_cons (ev_var (i := 0) rfl) (ea_cons (ev_var (i := 1) rfl) (ea_cons (ev_var (i := 3) rfl) ea_nil)))) fun G2 e Q q _ => ⟨.ref x, hv, hv, p, lp, n, gs, zss, l0, l1, rfl, W.ex (g1.trans e), hh.ex (e0'.trans (g1.trans e)), wd, hm, by omega, hR.ex (e0'.trans (g1.trans e)), ex_l (e0'.trans (g1.trans e)) hlp, hl, fun H' e' => q H' e'⟩) fun G2 g2 => k G2 (e0'.trans (g1.trans g2))
theorem ne_lst {H : Hp} {a l : Addr} {o : HO} {xs : List V} (hl : H l = some (.lst xs)) (h : H a = some o) (ho : ∀ ys, o ≠ .lst ys) : a ≠ l := fun z => by rw [z, hl] at h; exact ho xs (Option.some.inj h).symm
theorem HouseIs.mut {C : Addr} {v : V} {H : Hp} {n : Int} {gs : List (Str × Int)} {l : Addr} {o : HO} {xs : List V} (hl : H l = some (.lst xs)) (h : HouseIs C v H n gs) : HouseIs C v (upd H l o) n gs := by
  obtain ⟨a, dx, p, q, rfl, h1, h2, h3⟩ := h
  exact ⟨a, dx, p, q, rfl, by rw [upd_ne (ne_lst hl h1 fun _ z => by cases z)]; exact h1, by rw [upd_ne (ne_lst hl h2 fun _ z => by cases z)]; exact h2, by rw [upd_ne (ne_lst hl h3 fun _ z => by cases z)]; exact h3⟩
theorem WatchOk.mut {K : PySem.W.Frag} {A : Ads} {v h : V} {H : Hp} {n : Nat} {gs : List (Str × Int)} {xss : List (List Int)} {l : Addr} {o : HO} {us : List V} (hl : H l = some (.lst us)) (q : WatchOk K A v H h n gs xss) : WatchOk K A v (upd H l o) h n gs xss := by
  refine ⟨?_, q.hs.mut hl, q.gl, q.sh, q.nb⟩
  obtain ⟨a, dx, w, rfl, h1, p, vs, rfl, h2, h3, h4⟩ := q.w
  refine ⟨a, dx, _, rfl, by rw [upd_ne (ne_lst hl h1 fun _ z => by cases z)]; exact h1, p, vs, rfl, by rw [upd_ne (ne_lst hl h2 fun _ z => by cases z)]; exact h2, h3, fun i v hv => ?_⟩
  obtain ⟨t, ht, hT⟩ := h4 i v hv
  exact ⟨t, ht, by rw [upd_ne (ne_lst hl hT fun _ z => by cases z)]; exact hT⟩
theorem rv_isN {x : V} {H : Hp} : RV (fun x y H Q => y = .non ∧ Q (.bl (decide (x = .non))) H) x .non H (.bl (decide (x = .non))) := fun H1 _ _ q => ⟨rfl, q H1 (Ex.refl H1)⟩
theorem ev_isT {K : PySem.W.Frag} {te : TE} {σ : L2.St} {H : Hp} {q : Addr} {xs : List V} (h : Ev te σ H (.ref q)) (hq : SqT K H q xs) : Ev (tCB (rIsi K) (tCons te (tCons (tC (.ty "tuple")) tNil))) σ H (.bl true) := fun H1 e Q k => h H1 e _ fun H2 e2 => isi (tyx_t (ex_t (e.trans e2) hq)) (by decide +kernel) (k H2 e2)
theorem ev_isTL {K : PySem.W.Frag} {te : TE} {σ : L2.St} {H : Hp} {q : Addr} {xs : List V} (h : Ev te σ H (.ref q)) (hq : H q = some (.lst xs)) : Ev (tCB (rIsi K) (tCons te (tCons (tC (.ty "tuple")) tNil))) σ H (.bl false) := fun H1 e Q k => h H1 e _ fun H2 e2 => isi (.base (.lst ((e.trans e2) _ _ hq))) (by decide +kernel) (k H2 e2)
theorem q_clear {K : PySem.W.Frag} {ta : TE} {tz : TS} {D : Ends} {σ : L2.St} {H : Hp} {l : Addr} {xs : List V} (hl : H l = some (.lst xs)) (ha : Ev ta σ H (.ref l)) (k : ∀ H1, Ex H H1 → tz D σ (upd H1 l (.lst []))) : tSeq (tDrop (tBM0 K "list" rClear ta)) tz D σ H :=
  ha H (Ex.refl H) _ fun H1 e1 => ⟨Or.inl ⟨rfl, xs, sq_of (e1 l _ hl)⟩, l, xs, rfl, rfl, e1 l _ hl, k H1 e1⟩
theorem flat_si (s : Str) (z : Int) (a b : Bool) : Flat 4 (.tuple [.str s, .int z, .bool a, .bool b]) := ⟨by show 4 ≤ 40000; decide, fun d hd => by
  simp only [List.mem_cons, List.not_mem_nil, or_false] at hd
  rcases hd with rfl | rfl | rfl | rfl <;> exact True.intro⟩
theorem flat_sb (s : Str) (a b c : Bool) : Flat 4 (.tuple [.str s, .bool a, .bool b, .bool c]) := ⟨by show 4 ≤ 40000; decide, fun d hd => by
  simp only [List.mem_cons, List.not_mem_nil, or_false] at hd
  rcases hd with rfl | rfl | rfl | rfl <;> exact True.intro⟩
def LotsDue (K : PySem.W.Frag) (H : Hp) (n m : Nat) (ls : List (Int × List Int)) (dv : V) : Prop := (ls.length ≠ m ∧ ∃ q xs, dv = .ref q ∧ SqT K H q xs ∧ Dp K H dv (.tuple [.str "WrongLength", .int (ls.length : Int), .bool true, .bool false])) ∨ (ls.length = m ∧ (∃ l ∈ ls, l.1 ≠ (n : Int)) ∧ ∃ q xs, dv = .ref q ∧ SqT K H q xs ∧ Dp K H dv (.tuple [.str "OtherHours", .bool true, .bool true, .bool false])) ∨ (ls.length = m ∧ (∀ l ∈ ls, l.1 = (n : Int)) ∧ ∃ q us, dv = .ref q ∧ H q = some (.lst us) ∧ RowsL K H q (ls.map fun l => rowOf n l.2))
def spLotsTold (K : PySem.W.Frag) (A : Ads) : Sp := fun vs H Q _ => ∃ (hv dv : V) (p : Addr) (n : Nat) (gs : List (Str × Int)) (ls : List (Int × List Int)), vs = [hv, .ref p, dv] ∧ HouseIs A.C_House hv H (n : Int) gs ∧ gs.length ≤ 4 ∧ (1 ≤ n ∧ n ≤ 24) ∧ LotsL K A H p ls ∧ ls.length ≤ 10 ∧ LotsDue K H n gs.length ls dv ∧ ∀ H', Ex H H' → Q (.bl true) H'
theorem ok_u_law_lots_told (T : Txt K mg A) : FnOk P w K mg base CX0 10 A.f_u_law_lots_told A.d_u_law_lots_told (["house", "lots", "due"] : List Str) (spLotsTold K A) := by
  refine T.F_u_law_lots_told.ok sc_u_law_lots_told (fun vs H Q E h => ?_) (fun cdv Ar outer s H vs Q E hr h => ?_)
  · obtain ⟨hv, dv, p, n, gs, ls, rfl, _⟩ := h
    rfl
  · obtain ⟨hv, dv, p, n, gs, ls, rfl, hh, hm, hn, hL, hl, hdv, k⟩ := h
    refine ⟨_, (pss_cons (ps_set (i := 3) sc_u_law_lots_told.nd rfl (Or.inl rfl) (pe_callTy list_K (by rfl) T.z_list (by decide +kernel) (pa_cons (pv 1) pa_nil)))
        (pss_cons (ps_set (i := 4) sc_u_law_lots_told.nd rfl (Or.inl rfl) pe_non)
        (pss_cons (ps_set (i := 5) sc_u_law_lots_told.nd rfl (Or.inl rfl) pe_non)
        (pss_cons (ps_try_mas (Wo := fun _ _ _ _ => False) rfl rfl sc_u_law_lots_told.nd takes0 (fun W pn xe tk _ => (pss_one (ps_set (i := 4) sc_u_law_lots_told.nd rfl (Or.inl rfl) (pe_cmethS (pe_glob (v := .ref A.C_Watch) rfl T.g_Watch rfl) T.CM_Watch_of_lots.choose_spec.1 T.CM_Watch_of_lots.choose_spec.2 (FnOk.raw (ok_Watch_of_lots T) (b_Watch_of_lots T) .nil) (hr.mono (by omega)) (fun σ => passAt tk σ) (pa_cons (pv 0) (pa_cons (pv 3) pa_nil)))))) (Clauses.named (i := 6) rfl rfl ⟨rfl, by decide, Or.inl T.g_WrongLength⟩ (fun a oe cls dd pn hz hf => (pss_one (ps_set (i := 5) sc_u_law_lots_told.nd rfl (Or.inl rfl) (pe_tup (pa_cons pe_str (pa_cons (pe_xf T.xf_WrongLength T.nf_WrongLength_length hz hf (pv 6)) (pa_cons (pe_callB (call_isX T.ex_WrongLength hz hf) (by rfl) T.z_isinstance (by decide +kernel) (pa_cons (pv 6) (pa_cons (pe_glob (v := .ref A.C_WatchError) rfl T.g_WatchError rfl) pa_nil))) (pa_cons (pe_callB (call_isX T.ex_WrongLength hz hf) (by rfl) T.z_isinstance (by decide +kernel) (pa_cons (pv 6) (pa_cons (pe_glob (v := .ref A.C_OtherHours) rfl T.g_OtherHours rfl) pa_nil))) pa_nil)))))))) (Clauses.named (i := 6) rfl rfl ⟨rfl, by decide, Or.inl T.g_OtherHours⟩ (fun a oe cls dd pn hz hf => (pss_one (ps_set (i := 5) sc_u_law_lots_told.nd rfl (Or.inl rfl) (pe_tup (pa_cons pe_str (pa_cons (pe_callB (call_isN T.ex_OtherHours hz hf) (by rfl) T.z_isinstance (by decide +kernel) (pa_cons (pv 6) (pa_cons (pe_glob (v := .ref A.C_WatchError) rfl T.g_WatchError rfl) pa_nil))) (pa_cons (pe_callB (call_isN T.ex_OtherHours hz hf) (by rfl) T.z_isinstance (by decide +kernel) (pa_cons (pv 6) (pa_cons (pe_bltn (v := .ty "ValueError") (by rfl) T.z_ValueError (by decide +kernel) rfl) pa_nil))) (pa_cons (pe_callB (call_isN T.ex_OtherHours hz hf) (by rfl) T.z_isinstance (by decide +kernel) (pa_cons (pv 6) (pa_cons (pe_glob (v := .ref A.C_WrongLength) rfl T.g_WrongLength rfl) pa_nil))) pa_nil)))))))) Clauses.nil)))
        (pss_cons (ps_if (pt_cmpR op_ne (pe_callB len_K (by rfl) T.z_len (by decide +kernel) (pa_cons (pv 3) pa_nil)) (pe_callB len_K (by rfl) T.z_len (by decide +kernel) (pa_cons (pv 1) pa_nil)) (nomark _)) (pss_one (ps_ret pe_bl)) pss_nil)
        (pss_cons (ps_if (pt_val (pe_callB isi_K (by rfl) T.z_isinstance (by decide +kernel) (pa_cons (pv 2) (pa_cons (pe_bltn (v := .ty "tuple") (by rfl) T.z_tuple (by decide +kernel) rfl) pa_nil)))) (pss_one (ps_ret (pe_and (pe_cmpR op_isN (pv 4) pe_non (nomark _)) (pe_one (pe_call (ok_u_law_same T) (hr.mono (by omega)) rfl T.g_u_law_same T.k_u_law_same (b_u_law_same T) .nil pass0 (pa_cons (pv 5) (pa_cons (pv 2) pa_nil))))))) pss_nil)
        (pss_cons (ps_expr (pe_bm0 PySem.F.plainAttrs_list PySem.F.slot_list_clear PySem.F.type_list_clear mt_clear (pv 3)))
        (pss_one (ps_ret (pe_and (pe_cmpR op_isN (pv 5) pe_non (nomark _)) (pe_one (pe_call (ok_u_law_same T) (hr.mono (by omega)) rfl T.g_u_law_same T.k_u_law_same (b_u_law_same T) .nil pass0 (pa_cons (pe_prop (pv 4) T.cl_Watch T.P_Watch_rows (ok_Watch_rows T) (hr.mono (by omega)) (b_Watch_rows T) .nil pass0 rfl) (pa_cons (pv 2) pa_nil)))))))))))))), ?_⟩
    obtain ⟨vs, hvs, hvl, hall⟩ := hL.all
    try dsimp only
    refine q_asgL (el_copyB (K := K) (ev_var (i := 1) rfl) hvs) fun cp H1 hcp e1 hc => ?_
    try dsimp only
    refine q_asg (v := .non) ev_c fun H2 e2 => ?_
    try dsimp only
    refine q_asg (v := .non) ev_c fun H3 e3 => ?_
    have e04 := (e1.trans e2).trans e3
    have eN := e2.trans e3
    have hc3 := eN _ _ hc
    have lenC : ∀ {σ : L2.St} {G : Hp}, σ[3]? = some (some (.ref cp)) → Ex H1 G → Ev (tCB (rLenK K) (tCons (tVar 3) tNil)) σ G (.int (ls.length : Int)) := fun h e => ev_cb (r := rLenK K) (ea_cons (ev_var h) ea_nil) fun H2 e2 Q q => ⟨.ref cp, ls.length, rfl, .inl ⟨_, sq_of ((e.trans e2) _ _ hc), hvl.symm⟩, q H2 (Ex.refl H2)⟩
    have lenL : ∀ {σ : L2.St} {G : Hp}, σ[1]? = some (some (.ref p)) → Ex H G → Ev (tCB (rLenK K) (tCons (tVar 1) tNil)) σ G (.int (ls.length : Int)) := fun h e => ev_cb (r := rLenK K) (ea_cons (ev_var h) ea_nil) fun H2 e2 Q q => ⟨.ref p, ls.length, rfl, .inl ⟨_, ex_l (e.trans e2) hvs, hvl.symm⟩, q H2 (Ex.refl H2)⟩
    refine ⟨rfl, _, rfl, _, rfl, hv, cp, n, gs, ls, rfl, hh.ex e04, by omega, ⟨by omega, by omega⟩, ⟨vs, sq_of hc3, hvl, fun i v l hv hl => (hall i v l hv hl).ex e04⟩, fun hne d H5 e5 hd' => ?_, fun hlen hex H5 e5 => ?_, fun hlen hall' w H5 e5 hw => ?_⟩
    · obtain ⟨q, xs, rfl, hq, hdq⟩ : ∃ q xs, dv = .ref q ∧ SqT K H q xs ∧ Dp K H dv (.tuple [.str "WrongLength", .int (ls.length : Int), .bool true, .bool false]) := by
        rcases hdv with ⟨_, h⟩ | ⟨h, _⟩ | ⟨h, _⟩
        · exact h
        · exact absurd h hne
        · exact absurd h hne
      refine ⟨true, T.xm_WrongLength_WrongLength, fun _ ea hea => ?_, fun z => Bool.noConfusion z⟩
      have rc : ∀ (c : V) (cv : Value) (b : Bool) (σ : L2.St) (G : Hp), σ[6]? = some (some (.ref ea)) → Ex H5 G → (∀ u, RelV c u → u = cv) → PySem.W.kitOne K (.ref A.C_WrongLength) cv = some b → Ev (tCB (rIsX K A.C_WrongLength ea (.ref A.C_WrongLength) (some d)) (tCons (tVar 6) (tCons (tC c) tNil))) σ G (.bl b) := fun c b2 b σ G hv eg hc hk =>
        ev_cb (ea_cons (ev_var hv) (ea_cons ev_c ea_nil)) fun H1 e1 Q q => ⟨rfl, d, _, _, _, _, rfl, e1 _ _ (eg _ _ hd'), rfl, hc, hk, q H1 (Ex.refl _)⟩
      refine s_asgR (ed_tup (K := K) (ds := [.str "WrongLength", .int (ls.length : Int), .bool true, .bool false]) (eds_cons (ed_str ev_c) (eds_cons (ed_int (ev_xf (ev_var (i := 6) rfl) hd' rfl)) (eds_cons (ed_bl (rc (.ref A.C_WatchError) (.ref A.C_WatchError) true _ _ rfl (Ex.refl _) (fun u h => by cases h; rfl) T.kit_WrongLength_WatchError)) (eds_cons (ed_bl (rc (.ref A.C_OtherHours) (.ref A.C_OtherHours) false _ _ rfl (Ex.refl _) (fun u h => by cases h; rfl) T.kit_WrongLength_OtherHours)) eds_nil)))) (by show 4 ≤ 1000; decide)) fun u H6 e6 hu => ?_
      try dsimp only
      refine q_skip (et_test (ev_is (ev_op (lenC rfl (eN.trans (e5.trans e6))) (lenL rfl (e04.trans (e5.trans e6))) (rv_ne rfl)) (by rw [dec_ii, decide_eq_true rfl]; rfl))) fun H7 e7 => ?_
      have e07 := (e04.trans (e5.trans e6)).trans e7
      try dsimp only
      refine q_when (b := true) (et_B (ev_isT (K := K) (ev_var (i := 2) rfl) (ex_t e07 hq))) (fun _ H8 e8 => ?_) (fun z => Bool.noConfusion z)
      exact s_ret (v := .bl true) (ev_andV (a := true) (b := true) (ev_op (ev_var (i := 4) rfl) ev_c rv_isN) fun _ => ev_same (d := .tuple [.str "WrongLength", .int (ls.length : Int), .bool true, .bool false]) (er_ev (ev_var (i := 5) rfl) fun G e => dp_ex ((e7.trans e8).trans e) hu) (er_ev (ev_var (i := 2) rfl) fun G e => dp_ex ((e07.trans e8).trans e) hdq) (flat_si _ _ _ _)) fun H9 e9 => k H9 ((e07.trans e8).trans e9)
    · obtain ⟨q, xs, rfl, hq, hdq⟩ : ∃ q xs, dv = .ref q ∧ SqT K H q xs ∧ Dp K H dv (.tuple [.str "OtherHours", .bool true, .bool true, .bool false]) := by
        rcases hdv with ⟨h, _⟩ | ⟨_, _, h⟩ | ⟨_, h, _⟩
        · exact absurd hlen h
        · exact h
        · obtain ⟨l, hl1, hl2⟩ := hex
          exact absurd (h l hl1) hl2
      refine ⟨false, T.xm_OtherHours_WrongLength, fun z => Bool.noConfusion z, fun _ => ⟨true, T.xm_OtherHours_OtherHours, fun _ ea hea => ?_, fun z => Bool.noConfusion z⟩⟩
      have isz : ∀ (c : V) (b : Bool), (∃ cv, (∀ u, RelV c u → u = cv) ∧ PySem.W.kitOne K (.ref A.C_OtherHours) cv = some b) → ∀ G σ', σ'[6]? = some (some (.ref ea)) → Ev (tCB (rIsN K A.C_OtherHours ea (.ref A.C_OtherHours) none) (tCons (tVar 6) (tCons (tC c) tNil))) σ' G (.bl b) := fun c b ⟨cv, h1, h2⟩ G σ' hσ =>
        ev_cb (ea_cons (ev_var hσ) (ea_cons ev_c ea_nil)) fun H3 e3 Q q => ⟨rfl, rfl, c, cv, b, rfl, h1, h2, q H3 (Ex.refl H3)⟩
      refine s_asgR (ed_tup (K := K) (ds := [.str "OtherHours", .bool true, .bool true, .bool false]) (eds_cons (ed_str ev_c) (eds_cons (ed_bl (isz (.ref A.C_WatchError) _ ⟨.ref A.C_WatchError, fun u h => h, T.kit_OtherHours_WatchError⟩ _ _ rfl)) (eds_cons (ed_bl (isz (.ty "ValueError") _ ⟨.type "ValueError", fun u h => h, T.kit_OtherHours_ValueError⟩ _ _ rfl)) (eds_cons (ed_bl (isz (.ref A.C_WrongLength) _ ⟨.ref A.C_WrongLength, fun u h => h, T.kit_OtherHours_WrongLength⟩ _ _ rfl)) eds_nil)))) (by show 4 ≤ 1000; decide)) fun u H6 e6 hu => ?_
      try dsimp only
      refine q_skip (et_test (ev_is (ev_op (lenC rfl (eN.trans (e5.trans e6))) (lenL rfl (e04.trans (e5.trans e6))) (rv_ne rfl)) (by rw [dec_ii, decide_eq_true rfl]; rfl))) fun H7 e7 => ?_
      have e07 := (e04.trans (e5.trans e6)).trans e7
      try dsimp only
      refine q_when (b := true) (et_B (ev_isT (K := K) (ev_var (i := 2) rfl) (ex_t e07 hq))) (fun _ H8 e8 => ?_) (fun z => Bool.noConfusion z)
      exact s_ret (v := .bl true) (ev_andV (a := true) (b := true) (ev_op (ev_var (i := 4) rfl) ev_c rv_isN) fun _ => ev_same (d := .tuple [.str "OtherHours", .bool true, .bool true, .bool false]) (er_ev (ev_var (i := 5) rfl) fun G e => dp_ex ((e7.trans e8).trans e) hu) (er_ev (ev_var (i := 2) rfl) fun G e => dp_ex ((e07.trans e8).trans e) hdq) (flat_sb _ _ _ _)) fun H9 e9 => k H9 ((e07.trans e8).trans e9)
    · obtain ⟨q, us, rfl, hq, hRq⟩ : ∃ q us, dv = .ref q ∧ H q = some (.lst us) ∧ RowsL K H q (ls.map fun l => rowOf n l.2) := by
        rcases hdv with ⟨h, _⟩ | ⟨_, ⟨l, hl1, hl2⟩, _⟩ | ⟨_, _, h⟩
        · exact absurd hlen h
        · exact absurd (hall' l hl1) hl2
        · exact h
      have e05 := e04.trans e5
      have xl := hw.sh.len
      try dsimp only
      refine q_skip (et_test (ev_is (ev_op (lenC rfl (eN.trans e5)) (lenL rfl e05) (rv_ne rfl)) (by rw [dec_ii, decide_eq_true rfl]; rfl))) fun H6 e6 => ?_
      have e06 := e05.trans e6
      try dsimp only
      refine q_skip (et_B (ev_isTL (K := K) (ev_var (i := 2) rfl) (e06 _ _ hq))) fun H7 e7 => ?_
      have hc7 := (e5.trans (e6.trans e7)) _ _ hc3
      try dsimp only
      refine q_clear hc7 (ev_var (i := 3) rfl) fun H8 e8 => ?_
      have hcN : H cp = none := hcp
      have e08 := Ex.mut (o := .lst []) (((e06.trans e7).trans e8)) hcN
      have hw8 := (hw.ex ((e6.trans e7).trans e8)).mut (o := .lst []) (e8 _ _ hc7)
      try dsimp only
      exact s_ret (v := .bl true) (ev_andV (a := true) (b := true) (ev_op (ev_var (i := 5) rfl) ev_c rv_isN) fun _ => ev_same (d := .list ((ls.map fun l => rowOf n l.2).map fun xs : List Int => PyData.list (xs.map PyData.int))) (EvR.imp (er_rowsF (K := K) (A := A) (ev_var (i := 4) rfl) hw8) fun v G ⟨q, z1, z2⟩ => by rw [z1]; exact (z2.rows (K := K)).dp) (er_ev (ev_var (i := 2) rfl) fun G e => (hRq.ex (e08.trans e)).dp) (flat_rowsB (by omega) fun xs hx => by have := hw.sh.row' _ hx; omega)) fun H9 e9 => k H9 (e08.trans e9)
theorem cut_takeV {vs : List V} {k : Nat} : cutV vs none (some (k : Int)) = vs.take k := by
  unfold cutV
  rw [HT.sIx_none, HT.sIx_nat, List.drop_zero, Nat.sub_zero, ← List.take_eq_take_min]
theorem cut_dropV {vs : List V} {k : Nat} (h : k ≤ vs.length) : cutV vs (some (k : Int)) none = vs.drop k := by
  unfold cutV
  rw [HT.sIx_none, HT.sIx_nat, Nat.min_eq_left h, List.take_of_length_le (by rw [List.length_drop]; omega)]
def LV (A : Ads) (G : Hp) (vs : List V) (ls : List (Int × List Int)) : Prop := vs.length = ls.length ∧ ∀ (i : Nat) v l, vs[i]? = some v → ls[i]? = some l → LotIs A.C_Lot v G l.1 l.2
theorem LV.ex {A : Ads} {G G' : Hp} {vs : List V} {ls : List (Int × List Int)} (h : LV A G vs ls) (e : Ex G G') : LV A G' vs ls := ⟨h.1, fun i v l hv hl => (h.2 i v l hv hl).ex e⟩
theorem LV.append {A : Ads} {G : Hp} {vs us : List V} {ls ks : List (Int × List Int)} (h : LV A G vs ls) (g : LV A G us ks) : LV A G (vs ++ us) (ls ++ ks) := ⟨by rw [List.length_append, List.length_append, h.1, g.1], fun i v l hv hl => by
  have hl1 := h.1
  by_cases c : i < vs.length
  · rw [List.getElem?_append_left c] at hv
    rw [List.getElem?_append_left (by omega)] at hl
    exact h.2 i v l hv hl
  · rw [List.getElem?_append_right (by omega)] at hv
    rw [List.getElem?_append_right (by omega), ← hl1] at hl
    exact g.2 _ v l hv hl⟩
theorem LV.take {A : Ads} {G : Hp} {vs : List V} {ls : List (Int × List Int)} (h : LV A G vs ls) (k : Nat) : LV A G (vs.take k) (ls.take k) := ⟨by rw [List.length_take, List.length_take, h.1], fun i v l hv hl => by
  rw [List.getElem?_take] at hv hl
  split at hv
  · rw [if_pos (by assumption)] at hl
    exact h.2 i v l hv hl
  · cases hv⟩
theorem LV.drop {A : Ads} {G : Hp} {vs : List V} {ls : List (Int × List Int)} (h : LV A G vs ls) (k : Nat) : LV A G (vs.drop k) (ls.drop k) := ⟨by rw [List.length_drop, List.length_drop, h.1], fun i v l hv hl => by
  rw [List.getElem?_drop] at hv hl
  exact h.2 _ v l hv hl⟩
abbrev ErX (A : Ads) (te : TE) (σ : L2.St) (H : Hp) (ls : List (Int × List Int)) : Prop := EvR te σ H fun v G => ∃ (p : Addr) (vs : List V), v = .ref p ∧ G p = some (.lst vs) ∧ LV A G vs ls ∧ ls.length ≤ 1000
theorem erx_cat {K : PySem.W.Frag} {A : Ads} {ta tb : TE} {σ : L2.St} {H : Hp} {ls ks : List (Int × List Int)} (h1 : ErX A ta σ H ls) (h2 : ErX A tb σ H ks) (hz : ls.length + ks.length ≤ 1000) : ErX A (tOp rCat ta tb) σ H (ls ++ ks) := fun H1 e Q q => h1 H1 e _ fun v H2 e2 hv => h2 H2 (e.trans e2) _ fun w H3 e3 hw => by
  obtain ⟨a, xs, rfl, ha, hA, _⟩ := hv
  obtain ⟨b, ys, rfl, hb, hB, _⟩ := hw
  have l1 := hA.1
  have l2 := hB.1
  exact ⟨a, b, xs, ys, rfl, rfl, e3 _ _ ha, hb, sz_of (show xs.length + ys.length ≤ 100000 by omega), fun p hp => q _ _ ((e2.trans e3).trans (Ex.new hp)) ⟨p, xs ++ ys, rfl, upd_same, ((hA.ex e3).append hB).ex (Ex.new hp), by rw [List.length_append]; omega⟩⟩
theorem erx_one {K : PySem.W.Frag} {A : Ads} {te : TE} {σ : L2.St} {H : Hp} {n : Int} {xs : List Int} (h : EvR te σ H fun v G => LotIs A.C_Lot v G n xs) : ErX A (tLst (tCons te tNil)) σ H [(n, xs)] := fun H1 e Q q => h H1 e _ fun v H2 e2 hv => ⟨by show 1 ≤ sizeLine; decide, fun p hp => q _ _ (e2.trans (Ex.new hp)) ⟨p, [v], rfl, upd_same, ⟨rfl, fun i u l hu hl => by
  have hi : i = 0 := by
    have : i < 1 := (List.getElem?_eq_some_iff.mp hu).1
    omega
  subst hi
  cases hu
  cases hl
  exact hv.ex (Ex.new hp)⟩, by show 1 ≤ 1000; decide⟩⟩
theorem erx_take {K : PySem.W.Frag} {A : Ads} {te tk : TE} {σ : L2.St} {H : Hp} {p : Addr} {vs : List V} {ls : List (Int × List Int)} {k : Nat} (h : Ev te σ H (.ref p)) (hk : Ev tk σ H (.int (k : Int))) (hp : H p = some (.lst vs)) (hV : LV A H vs ls) (hz : ls.length ≤ 1000) (hkl : k ≤ ls.length) : ErX A (tSl (rSlL K) te tNoPart (tPart tk)) σ H (ls.take k) := fun H1 e Q q => (er_L (el_isW (el_sl (K := K) h eo_none (eo_some hk) (sq_of hp)) (cut_takeV (k := k)))) H1 e Q fun v H2 e2 hv => by
  obtain ⟨l, rfl, hl⟩ := hv
  exact q _ H2 e2 ⟨l, vs.take k, rfl, hl, (hV.ex (e.trans e2)).take k, by rw [List.length_take]; omega⟩
theorem erx_drop {K : PySem.W.Frag} {A : Ads} {te tk : TE} {σ : L2.St} {H : Hp} {p : Addr} {vs : List V} {ls : List (Int × List Int)} {k : Nat} (h : Ev te σ H (.ref p)) (hk : Ev tk σ H (.int ((k : Int) + 1))) (hp : H p = some (.lst vs)) (hV : LV A H vs ls) (hz : ls.length ≤ 1000) (hkl : k + 1 ≤ ls.length) : ErX A (tSl (rSlL K) te (tPart tk) tNoPart) σ H (ls.drop (k + 1)) := fun H1 e Q q => (er_L (el_isW (el_sl (K := K) h (eo_some (ev_is hk (congrArg V.int (show (k : Int) + 1 = ((k + 1 : Nat) : Int) by omega)))) eo_none (sq_of hp)) (cut_dropV (k := k + 1) (by have := hV.1; omega)))) H1 e Q fun v H2 e2 hv => by
  obtain ⟨l, rfl, hl⟩ := hv
  exact q _ H2 e2 ⟨l, vs.drop (k + 1), rfl, hl, (hV.ex (e.trans e2)).drop (k + 1), by rw [List.length_drop]; omega⟩
theorem er_tupD {K : PySem.W.Frag} {σ : L2.St} {H : Hp} {ta : TA} {ds : List PyData} (h : EvDs K ta σ H ds) (hl : ds.length ≤ 1000) : EvR (tTup ta) σ H fun v H1 => ∃ q xs, v = .ref q ∧ SqT K H1 q xs ∧ Dp K H1 v (.tuple ds) := fun H1 e Q q =>
  h H1 e _ fun vs H2 e2 hs => by
    have l := (dp_get hs).1
    exact ⟨by rw [l]; exact Nat.le_trans hl (by decide), fun p hp => q _ _ (e2.trans (Ex.new hp)) ⟨p, vs, rfl, st_of upd_same, .tup (st_of upd_same) (dpa_ex (Ex.new hp) hs)⟩⟩
theorem ev_lotsTold {K : PySem.W.Frag} {A : Ads} {E : XK} {t1 t2 t3 : TE} {σ : L2.St} {H : Hp} {hv : V} {n : Nat} {gs : List (Str × Int)} {ls : List (Int × List Int)} (h1 : Ev t1 σ H hv) (h2 : EvR t2 σ H fun v G => ∃ p, v = .ref p ∧ LotsL K A G p ls) (h3 : EvR t3 σ H fun v G => LotsDue K G n gs.length ls v) (hh : HouseIs A.C_House hv H (n : Int) gs) (hm : gs.length ≤ 4) (hn : 1 ≤ n ∧ n ≤ 24) (hl : ls.length ≤ 10) : Ev (tCall (spLotsTold K A) [] E (tCons t1 (tCons t2 (tCons t3 tNil)))) σ H (.bl true) := fun H1 e Q q => h1 H1 e _ fun H2 e2 => h2 H2 (e.trans e2) _ fun v H3 e3 hv' => h3 H3 ((e.trans e2).trans e3) _ fun w H4 e4 hw => by
  obtain ⟨p, rfl, hL⟩ := hv'
  exact ⟨hv, w, p, n, gs, ls, rfl, hh.ex (((e.trans e2).trans e3).trans e4), hm, hn, hL.ex e4, hl, hw, fun H' e' => q H' (((e2.trans e3).trans e4).trans e')⟩
theorem ev_showsW {K : PySem.W.Frag} {A : Ads} {E : XK} {t1 t2 t3 t4 : TE} {σ : L2.St} {H : Hp} {hv : V} {lp : Addr} {n : Nat} {gs : List (Str × Int)} {xss : List (List Int)} {l0 l1 : Int} (h1 : EvR t1 σ H fun v G => ∃ h, WatchOk K A v G h n gs xss) (h2 : Ev t2 σ H hv) (h3 : EvR t3 σ H fun v G => ∃ p, v = .ref p ∧ RowsL K G p xss) (h4 : Ev t4 σ H (.ref lp)) (hh : HouseIs A.C_House hv H (n : Int) gs) (wd : ∀ g ∈ gs, Word g.1) (hm : 1 ≤ gs.length ∧ gs.length ≤ 4) (hn : n ≤ 24) (hlp : SqL K H lp [.int l0, .int l1]) (hl : 0 ≤ l0 ∧ 0 ≤ l1) : Ev (tCall (spShowsW K A) [] E (tCons t1 (tCons t2 (tCons t3 (tCons t4 tNil))))) σ H (.bl true) := fun H1 e Q q => h1 H1 e _ fun v H2 e2 hv' => h2 H2 (e.trans e2) _ fun H3 e3 => h3 H3 ((e.trans e2).trans e3) _ fun w H4 e4 hw => h4 H4 (((e.trans e2).trans e3).trans e4) _ fun H5 e5 => by
  obtain ⟨h, hv'⟩ := hv'
  obtain ⟨p, rfl, hp⟩ := hw
  have e25 := (e3.trans e4).trans e5
  have e05 := (e.trans e2).trans e25
  exact ⟨v, h, hv, p, lp, n, gs, xss, l0, l1, rfl, hv'.ex e25, hh.ex e05, wd, hm, hn, hp.ex e5, ex_l e05 hlp, hl, fun H' e' => q H' ((e2.trans e25).trans e')⟩
theorem er_ofLots {K : PySem.W.Frag} {A : Ads} {E : XK} {σ : L2.St} {H : Hp} {t1 t2 : TE} {hv : V} {n : Nat} {gs : List (Str × Int)} {ws : List V} {ls : List (Int × List Int)} {xss : List (List Int)} (h1 : Ev t1 σ H hv) (h2 : EvR t2 σ H fun v G => ∃ p, v = .ref p ∧ G p = some (.lst ws)) (hh : HouseIs A.C_House hv H (n : Int) gs) (hl : gs.length ≤ 100) (hn : 1 ≤ n ∧ n ≤ 360) (hV : LV A H ws ls) (hlen : ls.length = gs.length) (hall : ∀ l ∈ ls, l.1 = (n : Int)) (hrow : ls.map (fun l => rowOf n l.2) = xss) : EvR (ClX.tCMeth A.C_Watch (fun vs H Q E => spOfLots K A (vs ++ []) H Q E) E (tC (.ref A.C_Watch)) (tCons t1 (tCons t2 tNil))) σ H fun v G => ∃ h, WatchOk K A v G h n gs xss := fun H1 e Q q =>
  ⟨rfl, h1 H1 e _ fun H2 e2 => h2 H2 (e.trans e2) _ fun v H3 e3 hv' => by
    obtain ⟨p, rfl, hp⟩ := hv'
    have e03 := (e.trans e2).trans e3
    have hV3 := hV.ex e03
    exact ⟨hv, p, n, gs, ls, rfl, hh.ex e03, hl, hn, ⟨ws, sq_of hp, hV3.1, hV3.2⟩, fun hc => absurd hlen hc, fun _ ⟨l, h1, h2⟩ => absurd (hall l h1) h2, fun _ _ w H' e' hw => q w H' ((e2.trans e3).trans e') ⟨hv, by rw [← hrow]; exact hw⟩⟩⟩
def spOfLotsL (K : PySem.W.Frag) (A : Ads) : Sp := fun vs H Q _ => ∃ (hv : V) (p dp lp : Addr) (n : Nat) (gs : List (Str × Int)) (mss : List (List Int)) (ds : List Int) (l0 l1 : Int), vs = [hv, .int (n : Int), .ref p, .ref dp, .ref lp] ∧ HouseIs A.C_House hv H (n : Int) gs ∧ (∀ g ∈ gs, Word g.1) ∧ (1 ≤ gs.length ∧ gs.length ≤ 4) ∧ (1 ≤ n ∧ n ≤ 24) ∧ RowsL K H p mss ∧ mss.length = gs.length ∧ (∀ xs ∈ mss, Asc 0 (n : Int) xs) ∧ SqL K H dp (ds.map V.int) ∧ ds.length = 5 ∧ (0 ≤ ds.getD 2 0 ∧ ds.getD 2 0 < 4) ∧ SqL K H lp [.int l0, .int l1] ∧ (0 ≤ l0 ∧ 0 ≤ l1) ∧ ∀ H', Ex H H' → Q (.bl true) H'
theorem ok_u_law_of_lots (T : Txt K mg A) : FnOk P w K mg base CX0 12 A.f_u_law_of_lots A.d_u_law_of_lots (["house", "n", "members", "draws", "laps"] : List Str) (spOfLotsL K A) := by
  refine T.F_u_law_of_lots.ok sc_u_law_of_lots (fun vs H Q E h => ?_) (fun cdv Ar outer s H vs Q E hr h => ?_)
  · obtain ⟨hv, p, dp, lp, n, gs, mss, ds, l0, l1, rfl, _⟩ := h
    rfl
  · obtain ⟨hv, p, dp, lp, n, gs, mss, ds, l0, l1, rfl, hh, wd, hm, hn, hR, ml, hA, hd, dl, d2, hlp, hl, k⟩ := h
    refine ⟨_, (pss_cons (ps_set (i := 5) sc_u_law_of_lots.nd rfl (Or.inl rfl) (pe_callB len_K (by rfl) T.z_len (by decide +kernel) (pa_cons (pv 2) pa_nil)))
        (pss_cons (ps_setLc (i := 6) (own := [("lot", 7)]) (g := gName 7) (tt := tYes) rfl sc_u_law_of_lots.nd rfl rfl (sw_true rfl rfl rfl (by decide +kernel)) (pi_listK (pv 2)) (blkOk_by (own := [("lot", 7)]) (N := N_u_law_of_lots) (sc := defScope s_u_law_of_lots) (by decide +kernel)) (fun _ _ _ _ _ => (pg_name (i := 7) sc_u_law_of_lots.nd rfl (Or.inr rfl))) (fun _ _ _ _ _ => pts_nil) (fun _ _ _ _ _ => (pe_lc (own := [("h", 8)]) (g := gName 8) (tt := tYes) rfl sc_u_law_of_lots.nd (pi_range1 rfl T.z_range (pa_cons (pv 1) pa_nil)) (by dsimp only [cxOf, Cx.nox, Cx.blk, compEnvC]; show BlkOk _ (relS _ (defScope s_u_law_of_lots)) _ _; exact blkOk_by (own := [("h", 8)]) (N := N_u_law_of_lots) (by decide +kernel)) (fun _ _ _ _ _ => (pg_name (i := 8) sc_u_law_of_lots.nd rfl (Or.inl rfl))) (fun _ _ _ _ _ => pts_nil) (fun _ _ _ _ _ => (pe_callTy call_int1 (by rfl) T.z_int (by decide +kernel) (pa_cons (pe_cmpR in_K (pv 8) (pv 7) (by with_unfolding_all rfl)) pa_nil))))))
        (pss_cons (ps_setLc (i := 9) (own := [("lot", 7)]) (g := gName 7) (tt := tYes) rfl sc_u_law_of_lots.nd rfl rfl (sw_true rfl rfl rfl (by decide +kernel)) (pi_listK (pv 2)) (blkOk_by (own := [("lot", 7)]) (N := N_u_law_of_lots) (sc := defScope s_u_law_of_lots) (by decide +kernel)) (fun _ _ _ _ _ => (pg_name (i := 7) sc_u_law_of_lots.nd rfl (Or.inl rfl))) (fun _ _ _ _ _ => pts_nil) (fun _ _ _ _ _ => (pe_make T.mk_Lot (ok_Lot_init T) (hr.mono (by omega)) rfl T.g_Lot (b_Lot_init T) .nil passL (pa_cons (pv 1) (pa_cons (pe_callTy list_K (by rfl) T.z_list (by decide +kernel) (pa_cons (pv 7) pa_nil)) pa_nil)))))
        (pss_cons (ps_if (PW.pt (pw_or (pt_not (pt_val (pe_call (ok_u_law_lots_told T) (hr.mono (by omega)) rfl T.g_u_law_lots_told T.k_u_law_lots_told (b_u_law_lots_told T) .nil pass0 (pa_cons (pv 0) (pa_cons (pv 9) (pa_cons (pv 6) pa_nil)))))) (pw_or1 (pt_not (pt_val (pe_call (ok_u_law_shows T) (hr.mono (by omega)) rfl T.g_u_law_shows T.k_u_law_shows (b_u_law_shows T) .nil pass0 (pa_cons (ClX.pe_cmeth (pe_glob (v := .ref A.C_Watch) rfl T.g_Watch rfl) T.CM_Watch_of_lots.choose_spec.1 T.CM_Watch_of_lots.choose_spec.2 (FnOk.raw (ok_Watch_of_lots T) (b_Watch_of_lots T) .nil) (hr.mono (by omega)) passL (pa_cons (pv 0) (pa_cons (pe_callTy list_K (by rfl) T.z_list (by decide +kernel) (pa_cons (pv 9) pa_nil)) pa_nil))) (pa_cons (pv 0) (pa_cons (pv 6) (pa_cons (pv 4) pa_nil)))))))))) (pss_one (ps_ret pe_bl)) pss_nil)
        (pss_cons (ps_set (i := 10) sc_u_law_of_lots.nd rfl (Or.inr rfl) (pe_ix ix_lK (pe_lst (pa_cons (pe_op op_add (pv 1) pe_int) (pa_cons (pe_op op_mul pe_int (pv 1)) (pa_cons pe_int (pa_cons (pe_op op_sub (pv 1) pe_int) pa_nil))))) (pe_ix ix_lK (pv 3) pe_int (fun _ _ => rfl)) (fun _ _ => rfl)))
        (pss_cons (ps_if (pt_cmpR op_eq (pv 10) pe_int (nomark _)) (pss_one (ps_set (i := 10) sc_u_law_of_lots.nd rfl (Or.inr rfl) pe_int)) pss_nil)
        (pss_cons (ps_set (i := 11) sc_u_law_of_lots.nd rfl (Or.inl rfl) (pe_op op_mod (pe_callTy call_int1 (by rfl) T.z_int (by decide +kernel) (pa_cons (pe_ix ix_lK (pv 3) pe_int (fun _ _ => rfl)) pa_nil)) (pv 5)))
        (pss_cons (ps_set (i := 12) sc_u_law_of_lots.nd rfl (Or.inl rfl) (pe_op op_cat (pe_op op_cat (pe_slice sl_listK (pv 9) po_none (po_some (pv 11))) (pe_lst (pa_cons (pe_make T.mk_Lot (ok_Lot_init T) (hr.mono (by omega)) rfl T.g_Lot (b_Lot_init T) .nil passL (pa_cons (pv 10) (pa_cons (pe_lc (own := [("h", 8)]) (g := gName 8) rfl sc_u_law_of_lots.nd (pi_listK (pe_ix ix_lK (pv 2) (pv 11) (fun _ _ => rfl))) (blkOk_by (own := [("h", 8)]) (N := N_u_law_of_lots) (sc := defScope s_u_law_of_lots) (by decide +kernel)) (fun _ _ _ _ _ => (pg_name (i := 8) sc_u_law_of_lots.nd rfl (Or.inl rfl))) (fun _ _ _ _ _ => (pts_one (pt_cmpR op_lt (pv 8) (pv 10) (nomark _)))) (fun _ _ _ _ _ => (pv 8))) pa_nil))) pa_nil))) (pe_slice sl_listK (pv 9) (po_some (pe_op op_add (pv 11) pe_int)) po_none)))
        (pss_cons (ps_if (pt_cmpR op_eq (pe_ix ix_lK (pv 3) pe_int (fun _ _ => rfl)) pe_int (nomark _)) (pss_one (ps_ret (pe_call (ok_u_law_lots_told T) (hr.mono (by omega)) rfl T.g_u_law_lots_told T.k_u_law_lots_told (b_u_law_lots_told T) .nil pass0 (pa_cons (pv 0) (pa_cons (pv 12) (pa_cons (pe_tup (pa_cons pe_str (pa_cons pe_bl (pa_cons pe_bl (pa_cons pe_bl pa_nil))))) pa_nil)))))) pss_nil)
        (pss_cons (ps_if (pt_cmpR op_eq (pe_ix ix_lK (pv 3) pe_int (fun _ _ => rfl)) pe_int (nomark _)) (pss_one (ps_ret (pe_call (ok_u_law_lots_told T) (hr.mono (by omega)) rfl T.g_u_law_lots_told T.k_u_law_lots_told (b_u_law_lots_told T) .nil pass0 (pa_cons (pv 0) (pa_cons (pe_op op_cat (pv 12) (pe_lst (pa_cons (pe_ix ix_lK (pv 9) (pv 11) (fun _ _ => rfl)) pa_nil))) (pa_cons (pe_tup (pa_cons pe_str (pa_cons (pe_op op_add (pv 5) pe_int) (pa_cons pe_bl (pa_cons pe_bl pa_nil))))) pa_nil)))))) pss_nil)
        (pss_cons (ps_if (pt_cmpR op_eq (pe_ix ix_lK (pv 3) pe_int (fun _ _ => rfl)) pe_int (nomark _)) (pss_one (ps_ret (pe_call (ok_u_law_lots_told T) (hr.mono (by omega)) rfl T.g_u_law_lots_told T.k_u_law_lots_told (b_u_law_lots_told T) .nil pass0 (pa_cons (pv 0) (pa_cons (pe_slice sl_listK (pv 9) po_none (po_some (pv 11))) (pa_cons (pe_tup (pa_cons pe_str (pa_cons (pv 11) (pa_cons pe_bl (pa_cons pe_bl pa_nil))))) pa_nil)))))) pss_nil)
        (pss_one (ps_ret (pe_call (ok_u_law_lots_told T) (hr.mono (by omega)) rfl T.g_u_law_lots_told T.k_u_law_lots_told (b_u_law_lots_told T) .nil pass0 (pa_cons (pv 0) (pa_cons (pv 9) (pa_cons (pv 6) pa_nil))))))))))))))))), ?_⟩
    obtain ⟨vs, hvs, hvl, hall⟩ := hR.all
    have npos : (0 : Int) < (n : Int) := by omega
    have mpos : (0 : Int) < (gs.length : Int) := by omega
    have dE : ∀ {σ : L2.St} {G : Hp} {te : TE} {i : Int}, σ[3]? = some (some (.ref dp)) → Ex H G → Ev te σ G (.int i) → 0 ≤ i → i < 5 → Ev (tOp (rIxL K) (tVar 3) te) σ G (.int (ds.getD i.toNat 0)) := fun h e he h0 h1 => ev_op (ev_var h) he (rv_ixL (K := K) (ex_l e hd) (atI_ints h0 (by rw [dl]; omega)))
    have row_at : ∀ {i : Nat}, i < gs.length → ∃ t, vs[i]? = some (.ref t) ∧ SqL K H t ((mss.getD i []).map V.int) ∧ Asc 0 (n : Int) (mss.getD i []) := fun {i} hi => by
      have vi : vs[i]? = some vs[i] := List.getElem?_eq_getElem (by omega)
      obtain ⟨t, ht, hT⟩ := hall i _ vi
      exact ⟨t, by rw [vi, ht], hT, hA _ (in_getD (by omega))⟩
    try dsimp only
    refine q_asg (v := .int (gs.length : Int)) (ev_cb (r := rLenK K) (ea_cons (ev_var (i := 2) rfl) ea_nil) fun H2 e2 Q q => ⟨.ref p, gs.length, rfl, .inl ⟨_, ex_l e2 hvs, by omega⟩, q H2 (Ex.refl H2)⟩) fun H1 e1 => ?_
    try dsimp only
    refine q_asgR (en_lc (fun i w G => ∃ t, w = .ref t ∧ G t = some (.lst ((rowOf n (mss.getD i [])).map V.int))) (ei_list (K := K) (eb_ev (ev_var (i := 2) rfl) fun G e => ⟨p, rfl, ex_l (e1.trans e) hvs⟩)) (by omega) bd_at (fun i _ => rfl) (fun i H2 hi e2 => ?_)).er fun v H2 e2 hv' => ?_
    · obtain ⟨t, vi, hT, _⟩ := row_at (show i < gs.length by omega)
      rw [vi]
      generalize mss.getD i [] = xs at *
      refine en_L (el_isW (el_rngY (n := n) (fun h => V.int (if (h : Int) ∈ xs then 1 else 0)) (ea_cons (ev_var (i := 1) rfl) ea_nil) (by omega) (fun x => rfl) fun j H3 hj e3 => ev_is (ev_cb (ea_cons (ev_op (ev_var (i := 8) rfl) (ev_var (i := 7) rfl) (rv_inI (K := K) (ex_l ((e1.trans e2).trans e3) hT))) ea_nil) fun G e Q q => .inr ⟨_, rfl, q G (Ex.refl G)⟩) ?_) (by unfold rowOf; rw [List.map_map]; rfl))
      by_cases c : (j : Int) ∈ xs
      · rw [if_pos c, decide_eq_true c]; rfl
      · rw [if_neg c, decide_eq_false c]; rfl
    obtain ⟨qd, us, rfl, hq1, hq2, hq3⟩ := hv'
    have hRD : RowsL K H2 qd (mss.map (rowOf n)) := ⟨us, sq_of hq1, by rw [hq2, List.length_map, hvl], fun i v hv => by
      obtain ⟨t, rfl, ht⟩ := hq3 i v hv
      have hi : i < mss.length := by have := (List.getElem?_eq_some_iff.mp hv).1; omega
      refine ⟨t, rfl, ?_⟩
      rw [List.getD_eq_getElem?_getD, List.getElem?_map, List.getElem?_eq_getElem hi]
      rw [List.getD_eq_getElem?_getD, List.getElem?_eq_getElem hi] at ht
      exact sq_of ht⟩
    have e02 := e1.trans e2
    try dsimp only
    refine q_asgR (en_lc (fun i w G => LotIs A.C_Lot w G (n : Int) (mss.getD i [])) (ei_list (K := K) (eb_ev (ev_var (i := 2) rfl) fun G e => ⟨p, rfl, ex_l (e02.trans e) hvs⟩)) (by omega) bd_at (fun i _ => rfl) (fun i H3 hi e3 => ?_)).er fun v H3 e3 hv' => ?_
    · obtain ⟨t, vi, hT, hAi⟩ := row_at (show i < gs.length by omega)
      rw [vi]
      exact en_mkAsc (K := K) (A := A) (n := (n : Int)) (xs := mss.getD i []) (ev_var (i := 1) rfl) ((er_L (el_copyB (K := K) (ev_var (i := 7) rfl) (ex_l (e02.trans e3) hT))).imp fun v G ⟨q, z1, z2⟩ => ⟨q, z1, sq_of z2⟩) (by omega) hAi
    obtain ⟨lq, ws, rfl, hw1, hw2, hw3⟩ := hv'
    have e03 := e02.trans e3
    obtain ⟨ls, hls⟩ : ∃ ls : List (Int × List Int), ls = mss.map fun xs => ((n : Int), xs) := ⟨_, rfl⟩
    have lsl : ls.length = gs.length := by rw [hls, List.length_map, ml]
    have hV : LV A H3 ws ls := ⟨by omega, fun i v l hv hl => by
      have := hw3 i v hv
      rw [hls, List.getElem?_map] at hl
      have hi : i < mss.length := by have := (List.getElem?_eq_some_iff.mp hv).1; omega
      rw [List.getElem?_eq_getElem hi] at hl
      cases hl
      rw [List.getD_eq_getElem?_getD, List.getElem?_eq_getElem hi] at this
      exact this⟩
    have hLS : LotsL K A H3 lq ls := ⟨ws, sq_of hw1, hV.1, hV.2⟩
    have lrow : ls.map (fun l => rowOf n l.2) = mss.map (rowOf n) := by rw [hls, List.map_map]; rfl
    have lall : ∀ l ∈ ls, l.1 = (n : Int) := fun l hl => by
      rw [hls] at hl
      obtain ⟨xs, _, rfl⟩ := List.mem_map.mp hl
      rfl
    have due3 : ∀ {G : Hp}, Ex H3 G → LotsDue K G n gs.length ls (.ref qd) := fun e => .inr (.inr ⟨lsl, lall, qd, us, rfl, (e3.trans e) _ _ hq1, by rw [lrow]; exact hRD.ex (e3.trans e)⟩)
    have toldE : ∀ {σ : L2.St} {G : Hp}, σ[0]? = some (some hv) → σ[9]? = some (some (.ref lq)) → σ[6]? = some (some (.ref qd)) → Ex H3 G → Ev (tCall (spLotsTold K A) [] E0 (tCons (tVar 0) (tCons (tVar 9) (tCons (tVar 6) tNil)))) σ G (.bl true) := fun s0 s9 s6 e => ev_lotsTold (K := K) (A := A) (n := n) (gs := gs) (ls := ls) (ev_var s0) (er_ev (ev_var s9) fun G e' => ⟨lq, rfl, hLS.ex (e.trans e')⟩) (er_ev (ev_var s6) fun G e' => due3 (e.trans e')) (hh.ex (e03.trans e)) hm.2 hn (by omega)
    try dsimp only
    refine q_skip (et_orF (et_notT (et_B (toldE rfl rfl rfl (Ex.refl _)))) (et_notT (et_B (ev_showsW (K := K) (A := A) (xss := mss.map (rowOf n)) (er_ofLots (K := K) (A := A) (ls := ls) (ev_var (i := 0) rfl) (EvR.imp (er_L (el_copyB (K := K) (ev_var (i := 9) rfl) (sq_of hw1))) fun v G ⟨q, z1, z2⟩ => ⟨q, z1, z2⟩) (hh.ex e03) (by omega) ⟨by omega, by omega⟩ hV lsl lall lrow) (ev_var (i := 0) rfl) (er_ev (ev_var (i := 6) rfl) fun G e => ⟨qd, rfl, hRD.ex (e3.trans e)⟩) (ev_var (i := 4) rfl) (hh.ex e03) wd hm hn.2 (ex_l e03 hlp) hl)))) fun H4 e4 => ?_
    have e04 := e03.trans e4
    obtain ⟨R0, hR0, hRr⟩ : ∃ R0 : Int, ([(n : Int) + 1, 2 * (n : Int), 360, (n : Int) - 1] : List Int).getD (ds.getD 2 0).toNat 0 = R0 ∧ (0 ≤ R0 ∧ R0 ≤ 360 ∧ R0 ≠ (n : Int) ∧ (R0 = 0 → n = 1)) := by
      refine ⟨_, rfl, ?_⟩
      have : (ds.getD 2 0).toNat = 0 ∨ (ds.getD 2 0).toNat = 1 ∨ (ds.getD 2 0).toNat = 2 ∨ (ds.getD 2 0).toNat = 3 := by omega
      rcases this with e | e | e | e <;> rw [e]
      · show 0 ≤ (n : Int) + 1 ∧ (n : Int) + 1 ≤ 360 ∧ (n : Int) + 1 ≠ (n : Int) ∧ ((n : Int) + 1 = 0 → n = 1)
        omega
      · show 0 ≤ 2 * (n : Int) ∧ 2 * (n : Int) ≤ 360 ∧ 2 * (n : Int) ≠ (n : Int) ∧ (2 * (n : Int) = 0 → n = 1)
        omega
      · show (0 : Int) ≤ 360 ∧ (360 : Int) ≤ 360 ∧ (360 : Int) ≠ (n : Int) ∧ ((360 : Int) = 0 → n = 1)
        omega
      · show 0 ≤ (n : Int) - 1 ∧ (n : Int) - 1 ≤ 360 ∧ (n : Int) - 1 ≠ (n : Int) ∧ ((n : Int) - 1 = 0 → n = 1)
        omega
    try dsimp only
    refine q_asg (v := .int R0) (ev_is (ev_ixl (K := K) (xs := [(n : Int) + 1, 2 * (n : Int), 360, (n : Int) - 1]) (el_lst (ea_cons (ev_op (ev_var (i := 1) rfl) ev_c rv_I0) (ea_cons (ev_op ev_c (ev_var (i := 1) rfl) (rv_I (show CMul 2 (n : Int) from .inl ⟨by omega, by omega⟩))) (ea_cons ev_c (ea_cons (ev_op (ev_var (i := 1) rfl) ev_c rv_I0) ea_nil)))) (by show 4 ≤ 100000; decide)) (dE rfl e04 ev_c (by decide) (by decide)) d2) (congrArg V.int hR0)) fun H5 e5 => ?_
    have e05 := e04.trans e5
    try dsimp only
    refine q_alt (b := decide (R0 = 0)) (M := fun σ' G => ∃ R1 : Int, σ' = [some hv, some (.int (n : Int)), some (.ref p), some (.ref dp), some (.ref lp), some (.int (gs.length : Int)), some (.ref qd), none, none, some (.ref lq), some (.int R1), none, none] ∧ Ex H4 G ∧ 1 ≤ R1 ∧ R1 ≤ 360 ∧ R1 ≠ (n : Int)) (et_test (ev_is (ev_op (ev_var (i := 10) rfl) ev_c (rv_eq rfl)) (by rw [dec_ii]))) (fun hb G g Wk hW => ?_) (fun hb G g => ?_) fun σ' G hMs => ?_
    · have hb := of_decide_eq_true hb
      exact s_asg (v := .int 2) ev_c fun G1 g1 => hW _ _ ⟨2, rfl, (e5.trans g).trans g1, by decide, by decide, by have := hRr.2.2.2 hb; omega⟩
    · have hb := of_decide_eq_false hb
      exact ⟨R0, rfl, e5.trans g, by omega, hRr.2.1, hRr.2.2.1⟩
    clear hR0 hRr e05 e5
    obtain ⟨R1, rfl, eG, r1, r2, r3⟩ := hMs
    have e0G := e04.trans eG
    have a0 := Int.emod_nonneg (ds.getD 1 0) (b := (gs.length : Int)) (by omega)
    have a1 := Int.emod_lt_of_pos (ds.getD 1 0) mpos
    generalize hai : ds.getD 1 0 % (gs.length : Int) = az at *
    obtain ⟨ai, rfl⟩ := Int.eq_ofNat_of_zero_le a0
    try dsimp only
    refine q_asg (v := .int (ai : Int)) (ev_is (ev_op (ev_int (dE rfl e0G ev_c (by decide) (by decide))) (ev_var (i := 5) rfl) (rv_I mpos)) (congrArg V.int hai)) fun H6 e6 => ?_
    have e36 := e4.trans (eG.trans e6)
    have e06 := e03.trans e36
    obtain ⟨tr, vi, hT, hAi⟩ := row_at (show ai < gs.length by omega)
    obtain ⟨fl, hfl⟩ : ∃ fl : List (Int × List Int), fl = ls.take ai ++ [(R1, (mss.getD ai []).filter fun x => decide (x < R1))] ++ ls.drop (ai + 1) := ⟨_, rfl⟩
    have fll : fl.length = gs.length := by rw [hfl, List.length_append, List.length_append, List.length_take, List.length_drop]; show _ + 1 + _ = _; omega
    have hV6 := hV.ex e36
    have wl := hV.1
    have xl := hAi.len
    try dsimp only
    refine q_asgR (erx_cat (K := K) (A := A) (hz := by rw [List.length_append, List.length_take, List.length_drop]; show _ + 1 + _ ≤ _; omega) (erx_cat (K := K) (A := A) (hz := by rw [List.length_take]; show _ + 1 ≤ _; omega) (erx_take (K := K) (A := A) (ev_var (i := 9) rfl) (ev_var (i := 11) rfl) (e36 _ _ hw1) hV6 (by omega) (by omega)) (erx_one (K := K) (A := A) (er_mkAsc (K := K) (A := A) (n := R1) (xs := (mss.getD ai []).filter fun x => decide (x < R1)) (ev_var (i := 10) rfl) (EvR.imp (er_L (el_isW (el_map (K := K) (mss.getD ai []) (fun x => decide (x < R1)) (fun x => x) (ev_op (ev_var (i := 2) rfl) (ev_var (i := 11) rfl) (rv_ixL (K := K) (ex_l e06 hvs) (atI_nat vi))) (ex_l e06 hT) (by omega) (fun x => rfl) (fun x G e hx => et_test (ev_op (ev_var (i := 8) rfl) (ev_var (i := 10) rfl) rv_I0)) (fun x G e hx hp => ev_var (i := 8) rfl)) (by rw [List.map_id']))) fun v G ⟨q, z1, z2⟩ => ⟨q, z1, sq_of z2⟩) ⟨r1, r2⟩ ⟨hAi.1.filter _, fun x hx => ⟨(hAi.2 x (List.mem_filter.mp hx).1).1, of_decide_eq_true (List.mem_filter.mp hx).2⟩⟩))) (erx_drop (K := K) (A := A) (ev_var (i := 9) rfl) (ev_op (ev_var (i := 11) rfl) ev_c rv_I0) (e36 _ _ hw1) hV6 (by omega) (by omega))) fun fv H7 e7 hf => ?_
    obtain ⟨fq, fs, rfl, hf1, hfV, _⟩ := hf
    rw [← hfl] at hfV
    have e37 := e36.trans e7
    have e07 := e03.trans e37
    have hLF : LotsL K A H7 fq fl := ⟨fs, sq_of hf1, hfV.1, hfV.2⟩
    have fbad : ∃ l ∈ fl, l.1 ≠ (n : Int) := ⟨(R1, (mss.getD ai []).filter fun x => decide (x < R1)), by rw [hfl]; simp, r3⟩
    try dsimp only
    refine q_when (b := decide (ds.getD 0 0 = 0)) (et_test (ev_is (ev_op (dE rfl e07 ev_c (by decide) (by decide)) ev_c (rv_eq rfl)) (by rw [dec_ii]; rfl))) (fun hb H8 e8 => ?_) (fun hb H8 e8 => ?_)
    · exact s_ret (ev_lotsTold (K := K) (A := A) (n := n) (gs := gs) (ls := fl) (ev_var (i := 0) rfl) (er_ev (ev_var (i := 12) rfl) fun G e' => ⟨fq, rfl, hLF.ex (e8.trans e')⟩) (EvR.imp (er_tupD (K := K) (eds_cons (ed_str ev_c) (eds_cons (ed_bl ev_c) (eds_cons (ed_bl ev_c) (eds_cons (ed_bl ev_c) eds_nil)))) (by decide)) fun v G ⟨q, xs, z1, z2, z3⟩ => .inr (.inl ⟨fll, fbad, q, xs, z1, z2, z3⟩)) (hh.ex (e07.trans e8)) hm.2 hn (by omega)) fun H9 e9 => k H9 ((e07.trans e8).trans e9)
    have e08 := e07.trans e8
    try dsimp only
    refine q_when (b := decide (ds.getD 0 0 = 1)) (et_test (ev_is (ev_op (dE rfl e08 ev_c (by decide) (by decide)) ev_c (rv_eq rfl)) (by rw [dec_ii]; rfl))) (fun hb H9 e9 => ?_) (fun hb H9 e9 => ?_)
    · have e39 := (e37.trans e8).trans e9
      have wi : ws[ai]? = some ws[ai] := List.getElem?_eq_getElem (by omega)
      have li : ls[ai]? = some ls[ai] := List.getElem?_eq_getElem (by omega)
      have hLi := hV.2 ai _ _ wi li
      have hVf : LV A H9 fs fl := hfV.ex (e8.trans e9)
      exact s_ret (ev_lotsTold (K := K) (A := A) (n := n) (gs := gs) (ls := fl ++ [ls[ai]]) (ev_var (i := 0) rfl) (EvR.imp (erx_cat (K := K) (A := A) (hz := by show fl.length + 1 ≤ 1000; omega) (er_ev (ev_var (i := 12) rfl) fun G e' => ⟨fq, fs, rfl, ((e8.trans e9).trans e') _ _ hf1, hVf.ex e', by omega⟩) (erx_one (K := K) (A := A) (n := ls[ai].1) (xs := ls[ai].2) (er_ev (ev_op (ev_var (i := 9) rfl) (ev_var (i := 11) rfl) (rv_ixL (K := K) (sq_of (e39 _ _ hw1)) (atI_nat wi))) fun G e' => hLi.ex (e39.trans e')))) fun v G ⟨q, xs, z1, z2, z3, _⟩ => ⟨q, z1, ⟨xs, sq_of z2, z3.1, z3.2⟩⟩) (EvR.imp (er_tupD (K := K) (ds := [.str "WrongLength", .int ((gs.length : Int) + 1), .bool true, .bool false]) (eds_cons (ed_str ev_c) (eds_cons (ed_int (ev_op (ev_var (i := 5) rfl) ev_c rv_I0)) (eds_cons (ed_bl ev_c) (eds_cons (ed_bl ev_c) eds_nil)))) (by show 4 ≤ 1000; decide)) fun v G ⟨q, xs, z1, z2, z3⟩ => .inl ⟨by rw [List.length_append]; show fl.length + 1 ≠ _; omega, q, xs, z1, z2, by rw [List.length_append]; show Dp K G v (.tuple [.str "WrongLength", .int ((fl.length + 1 : Nat) : Int), .bool true, .bool false]); rw [fll, Int.natCast_add]; exact z3⟩) (hh.ex (e08.trans e9)) hm.2 hn (by rw [List.length_append]; show fl.length + 1 ≤ _; omega)) fun H10 e10 => k H10 ((e08.trans e9).trans e10)
    have e09 := e08.trans e9
    try dsimp only
    refine q_when (b := decide (ds.getD 0 0 = 2)) (et_test (ev_is (ev_op (dE rfl e09 ev_c (by decide) (by decide)) ev_c (rv_eq rfl)) (by rw [dec_ii]; rfl))) (fun hb H10 e10 => ?_) (fun hb H10 e10 => ?_)
    · have e3x := ((e37.trans e8).trans e9).trans e10
      have tl : (ls.take ai).length = ai := by rw [List.length_take]; omega
      exact s_ret (ev_lotsTold (K := K) (A := A) (n := n) (gs := gs) (ls := ls.take ai) (ev_var (i := 0) rfl) (EvR.imp (erx_take (K := K) (A := A) (ev_var (i := 9) rfl) (ev_var (i := 11) rfl) (e3x _ _ hw1) (hV.ex e3x) (by omega) (by omega)) fun v G ⟨q, xs, z1, z2, z3, _⟩ => ⟨q, z1, ⟨xs, sq_of z2, z3.1, z3.2⟩⟩) (EvR.imp (er_tupD (K := K) (ds := [.str "WrongLength", .int (ai : Int), .bool true, .bool false]) (eds_cons (ed_str ev_c) (eds_cons (ed_int (ev_var (i := 11) rfl)) (eds_cons (ed_bl ev_c) (eds_cons (ed_bl ev_c) eds_nil)))) (by show 4 ≤ 1000; decide)) fun v G ⟨q, xs, z1, z2, z3⟩ => .inl ⟨by omega, q, xs, z1, z2, by rw [tl]; exact z3⟩) (hh.ex (e09.trans e10)) hm.2 hn (by omega)) fun H11 e11 => k H11 ((e09.trans e10).trans e11)
    exact s_ret (toldE rfl rfl rfl (((e37.trans e8).trans e9).trans e10)) fun H11 e11 => k H11 ((e09.trans e10).trans e11)
def spLaw (K : PySem.W.Frag) : Sp := fun vs H Q _ => ∃ (a : Addr) (ns : List Int), vs = [.ref a] ∧ SqL K H a (ns.map V.int) ∧ ns.length ≤ 63 ∧ ∀ H', Q (.bl true) H'
theorem er_houseE {K : PySem.W.Frag} {A : Ads} {E : XK} {σ : L2.St} {H : Hp} {t1 t2 : TE} {n : Nat} {m : Nat} {gs : List (Str × Int)} (h1 : Ev t1 σ H (.int (n : Int))) (h2 : EvR t2 σ H fun v G => ∃ p, v = .ref p ∧ Gates K G p gs) (hg : GoodG gs m) (hn : 1 ≤ n ∧ n ≤ 24) (hm : 1 ≤ m ∧ m ≤ 4) (hc : m * n ≤ 48) :
    EvR (tMake A.C_House (spHouse K A) [] E (tCons t1 (tCons t2 tNil))) σ H fun v G => HouseIs A.C_House v G (n : Int) gs := fun H1 e Q q => h1 H1 e _ fun H2 e2 => h2 H2 (e.trans e2) _ fun v H3 e3 hv => by
  obtain ⟨p, rfl, hG⟩ := hv
  intro x dx hx hdx hne
  have eN : Ex H3 (upd (upd H3 dx (.own x)) x (.ins A.C_House dx [])) := (Ex.new hdx).trans (Ex.new (by rw [upd_ne (Ne.symm hne)]; exact hx))
  have good := house_good (n := (n : Int)) (by omega) (by rw [hg.len]; exact hm) hg.all hg.nd (by rw [hg.len, ← Int.natCast_mul, Nat.mul_comm]; omega)
  refine ⟨x, dx, p, n, gs, rfl, upd_same, hG.ex eN, by rw [hg.len]; omega, (fun g hm => by have := (hg.all g hm).1.len; omega), (fun er he => by rw [good] at he; cases he), fun _ np kp H' hk hn1 hn2 f1 f2 f3 => ⟨rfl, ?_⟩⟩
  have e' : Ex H3 H' := fun c o hc => hk c o (fun z => by rw [z, hx] at hc; cases hc) (eN c o hc)
  exact q _ H' ((e2.trans e3).trans e') ⟨x, dx, np, kp, rfl, f1, f2, f3⟩
theorem q_asgVia {K : PySem.W.Frag} {tl te : TE} {tt : TT} {g : TG} {vs : List Nat} {tz : TS} {D : Ends} {σ : L2.St} {H : Hp} {i : Nat} {P : V → Hp → Prop} (h : EvR tl σ H P) (k : ∀ v H1, Ex H H1 → P v H1 → tSeq (tAsg (tLc (iList K (tC v)) g tt te vs) (gName i)) tz D σ H1) : tSeq (tAsg (tLc (iList K tl) g tt te vs) (gName i)) tz D σ H :=
  h H (Ex.refl H) _ fun v H1 e p => k v H1 e p
theorem er_gatesD {K : PySem.W.Frag} {E : XK} {σ : L2.St} {H : Hp} {t1 t2 : TE} {ns : List Int} {m : Nat} (h1 : EvL t1 σ H (ns.map V.int)) (h2 : EvR t2 σ H fun v G => ∃ (p : Addr) (ss : List Int), v = .ref p ∧ SqL K G p (ss.map V.int) ∧ m ≤ ss.length ∧ ∀ s ∈ ss, 0 ≤ s ∧ s ≤ 60) (hm : ns.length = m) (hl : m ≤ 7) :
    EvR (tCall (spGates K) [] E (tCons t1 (tCons t2 tNil))) σ H fun v G => ∃ p gs, v = .ref p ∧ Gates K G p gs ∧ GoodG gs m := fun H1 e Q q => h1 H1 e _ fun a H2 _ e2 g2 => h2 H2 (e.trans e2) _ fun v H3 e3 hv => by
  obtain ⟨b, ss, rfl, g3, hs, ha⟩ := hv
  exact ⟨a, b, ns, ss, rfl, sq_of (e3 _ _ g2), g3, by omega, by omega, ha, fun v H' gs e' hn h4 hd hw hst => q v H' ((e2.trans e3).trans e') (by
    obtain ⟨p, z1, hG⟩ := hn.self
    refine ⟨p, gs, z1, hG, h4.trans hm, hd, fun g hg => ?_⟩
    exact hw g hg)⟩
theorem er_copyG {K : PySem.W.Frag} {σ : L2.St} {H : Hp} {te : TE} {p : Addr} {gs : List (Str × Int)} (h : Ev te σ H (.ref p)) (hG : Gates K H p gs) : EvR (tCB (rListK K) (tCons te tNil)) σ H fun v G => ∃ p, v = .ref p ∧ Gates K G p gs := by
  obtain ⟨vs, z1, z2, z3⟩ := hG.all
  exact fun H1 e Q q => (er_L (el_copyB (K := K) h z1)) H1 e Q fun v H2 e2 hv => by
    obtain ⟨l, rfl, hl⟩ := hv
    exact q _ H2 e2 ⟨l, rfl, ⟨vs, sq_of hl, z2, fun i v hv => (z3 i v hv).imp fun t ht => ⟨ht.1, fun g hg => ex_t (e.trans e2) (ht.2 g hg)⟩⟩⟩
theorem at_st {tz : TS} {D : Ends} {σ σ' : L2.St} {H : Hp} (h : σ = σ') (k : tz D σ' H) : tz D σ H := by rw [h]; exact k
theorem er_drawsF {K : PySem.W.Frag} {E : XK} {σ : L2.St} {H : Hp} {tc ts tm : TE} {c z : Int} {ms : List Int} (hc : Ev tc σ H (.int c)) (hs : Ev ts σ H (.int z)) (hm : EvL tm σ H (ms.map V.int)) (h0 : 0 ≤ c) (hz : -1000000 ≤ z ∧ z ≤ 1000000) (hl : ms.length ≤ 64)
    (hb : ∀ x ∈ ms, 1 ≤ x ∧ x.natAbs < 2 ^ 1000) : EvR (tCall (sp_draws K) [] E (tCons tc (tCons ts (tCons tm tNil)))) σ H fun v H1 => ∃ (p : Addr) (ds : List Int), v = .ref p ∧ H p = none ∧ H1 p = some (.lst (ds.map V.int)) ∧ Drawn ms ds := fun H1 e Q q =>
  hc H1 e _ fun H2 e2 => hs H2 (e.trans e2) _ fun H3 e3 => hm H3 ((e.trans e2).trans e3) _ fun m H4 _ e4 h4 =>
    ⟨c, z, m, ms, rfl, sq_of h4, h0, hz, hl, hb, fun p H' ds hp e' h' hD => q _ H' ((e2.trans e3).trans (e4.trans e')) ⟨p, ds, rfl, fresh_back (((e.trans e2).trans e3).trans e4) hp, h', hD⟩⟩
theorem hours_of {m : Nat} {x : Int} (hmb : 1 ≤ m ∧ m ≤ 4) : ∃ n : Nat, 1 + x % (if 48 / (m : Int) < 24 then 48 / (m : Int) else 24) = (n : Int) ∧ 1 ≤ n ∧ n ≤ 24 ∧ m * n ≤ 48 := by
  have b1 := Int.emod_nonneg x (b := if 48 / (m : Int) < 24 then 48 / (m : Int) else 24)
  have b2 := Int.emod_lt_of_pos x (b := if 48 / (m : Int) < 24 then 48 / (m : Int) else 24)
  have hmc : m = 1 ∨ m = 2 ∨ m = 3 ∨ m = 4 := by omega
  refine ⟨(1 + x % (if 48 / (m : Int) < 24 then 48 / (m : Int) else 24)).toNat, ?_⟩
  rcases hmc with rfl | rfl | rfl | rfl
  · have b1 : 0 ≤ x % 24 := b1 (by decide)
    have b2 : x % 24 < 24 := b2 (by decide)
    show 1 + x % 24 = ((1 + x % 24).toNat : Int) ∧ 1 ≤ (1 + x % 24).toNat ∧ (1 + x % 24).toNat ≤ 24 ∧ 1 * (1 + x % 24).toNat ≤ 48
    omega
  · have b1 : 0 ≤ x % 24 := b1 (by decide)
    have b2 : x % 24 < 24 := b2 (by decide)
    show 1 + x % 24 = ((1 + x % 24).toNat : Int) ∧ 1 ≤ (1 + x % 24).toNat ∧ (1 + x % 24).toNat ≤ 24 ∧ 2 * (1 + x % 24).toNat ≤ 48
    omega
  · have b1 : 0 ≤ x % 16 := b1 (by decide)
    have b2 : x % 16 < 16 := b2 (by decide)
    show 1 + x % 16 = ((1 + x % 16).toNat : Int) ∧ 1 ≤ (1 + x % 16).toNat ∧ (1 + x % 16).toNat ≤ 24 ∧ 3 * (1 + x % 16).toNat ≤ 48
    omega
  · have b1 : 0 ≤ x % 12 := b1 (by decide)
    have b2 : x % 12 < 12 := b2 (by decide)
    show 1 + x % 12 = ((1 + x % 12).toNat : Int) ∧ 1 ≤ (1 + x % 12).toNat ∧ (1 + x % 12).toNat ≤ 24 ∧ 4 * (1 + x % 12).toNat ≤ 48
    omega
theorem er_lawRows {K : PySem.W.Frag} {E : XK} {σ : L2.St} {H : Hp} {t1 t2 t3 : TE} {m n : Nat} {ms : List Int} (h1 : Ev t1 σ H (.int (m : Int))) (h2 : Ev t2 σ H (.int (n : Int))) (h3 : EvR t3 σ H fun v H1 => ∃ p ds, v = .ref p ∧ H1 p = some (.lst (ds.map V.int)) ∧ Drawn ms ds) (hl : m * n ≤ ms.length) (hm : m ≤ 100) (hn : n ≤ 100) :
    EvR (tCall (spLawRows K) [] E (tCons t1 (tCons t2 (tCons t3 tNil)))) σ H fun v H1 => ∃ p qs, v = .ref p ∧ RowsM H H1 p qs ∧ qs.length = m ∧ ∀ q ∈ qs, q.2.length = n ∧ ∀ x ∈ q.2, ∃ (i : Nat) (z : Int), ms[i]? = some z ∧ 0 ≤ x ∧ x < z := fun H1 e Q q =>
  h1 H1 e _ fun H2 e2 => h2 H2 (e.trans e2) _ fun H3 e3 => h3 H3 ((e.trans e2).trans e3) _ fun v H4 e4 hv => by
    obtain ⟨p, ds, rfl, hp, hD⟩ := hv
    refine ⟨m, n, p, ds, rfl, sq_of hp, by rw [hD.1]; exact hl, hm, hn, fun rp H' qs e' hM hql hqs => q _ H' ((e2.trans e3).trans (e4.trans e')) ⟨rp, qs, rfl, hM.base ((e.trans e2).trans (e3.trans e4)), hql, fun y hy => ⟨(hqs y hy).1, fun x hx => ?_⟩⟩⟩
    obtain ⟨i, hi⟩ := List.getElem?_of_mem ((hqs y hy).2 x hx)
    have hil : i < ms.length := by rw [← hD.1]; exact (List.getElem?_eq_some_iff.mp hi).1
    obtain ⟨d, h1, h2⟩ := hD.2 i _ (List.getElem?_eq_getElem hil)
    rw [hi] at h1
    cases h1
    exact ⟨i, _, List.getElem?_eq_getElem hil, h2⟩
theorem cut_upto {xs : List Int} {k : Nat} (h : k ≤ xs.length) : cutV (xs.map V.int) none (some (k : Int)) = (xs.take k).map V.int := by
  unfold cutV
  rw [HT.sIx_none, HT.sIx_nat, List.length_map, List.drop_zero, Nat.min_eq_left h, Nat.sub_zero, List.map_take]
theorem en_bits {E : XK} {σ : L2.St} {H : Hp} {tn tz : TE} {n z : Int} (h1 : Ev tn σ H (.int n)) (h2 : Ev tz σ H (.int z)) (hn : 0 ≤ n ∧ n ≤ 25) : EvNew (tCall spBits [] E (tCons tn (tCons tz tNil))) σ H fun v G => ∃ (p : Addr) (xs : List Int), v = .ref p ∧ G p = some (.lst (xs.map V.int)) ∧ Asc 0 n xs := fun H1 e Q q =>
  h1 H1 e _ fun H2 e2 => h2 H2 (e.trans e2) _ fun H3 e3 => ⟨n, z, rfl, hn, fun p H' xs hp e' h hA => q _ H' ((e2.trans e3).trans e') fun G g => ⟨p, xs, rfl, g p _ (fresh_back (e2.trans e3) hp) h, hA⟩⟩
theorem en_two {E : XK} {σ : L2.St} {H : Hp} {t : TE} {n : Int} (h : Ev t σ H (.int n)) (hn : 0 ≤ n ∧ n ≤ 25) : EvNew (tCall spTwo [] E (tCons t tNil)) σ H fun v _ => ∃ z : Int, v = .int z ∧ 1 ≤ z ∧ z ≤ 33554432 := fun H1 e Q q =>
  h H1 e _ fun H2 e2 => ⟨n, rfl, hn, fun z H' e' hz => q (.int z) H' (e2.trans e') fun _ _ => ⟨z, rfl, hz⟩⟩
theorem er_badRows {K : PySem.W.Frag} {E : XK} {σ : L2.St} {H : Hp} {t1 t2 t3 : TE} {p : Addr} {n m : Nat} {xss : List (List Int)} (h1 : Ev t1 σ H (.ref p)) (h2 : Ev t2 σ H (.int (n : Int))) (h3 : EvR t3 σ H fun v G => ∃ (p : Addr) (ds : List Int), v = .ref p ∧ G p = some (.lst (ds.map V.int)) ∧ Drawn [12, 4, 24, 4, 24, 4, 4, 10 ^ 60] ds) (hR : RowsL K H p xss) (hl : xss.length = m) (hx : ∀ xs ∈ xss, xs.length = n) (hm : 1 ≤ m ∧ m ≤ 4) (hn : 1 ≤ n ∧ n ≤ 24) :
    EvR (tCall (spBadRows K) [] E (tCons t1 (tCons t2 (tCons t3 tNil)))) σ H fun v G => ∃ r zss, v = .ref r ∧ RowsL K G r zss ∧ zss.length ≤ 10 ∧ ∀ xs ∈ zss, xs.length ≤ 100 := fun H1 e Q q => h1 H1 e _ fun H2 e2 => h2 H2 (e.trans e2) _ fun H3 e3 => h3 H3 ((e.trans e2).trans e3) _ fun v H4 e4 hv => by
  obtain ⟨dp, ds, rfl, hd, hD⟩ := hv
  have e04 := ((e.trans e2).trans e3).trans e4
  have d5 : 0 ≤ ds.getD 5 0 ∧ ds.getD 5 0 < 4 := drawn_at hD rfl
  have d6 : 0 ≤ ds.getD 6 0 ∧ ds.getD 6 0 < 4 := drawn_at hD rfl
  have dl : ds.length = 8 := hD.1
  exact ⟨p, dp, n, m, xss, ds, rfl, hR.ex e04, hl, hx, hm, hn, sq_of hd, dl, d5, d6, fun r H' zss e' f1 f2 f3 => q _ H' (((e2.trans e3).trans e4).trans e') ⟨r, zss, rfl, f1, f2, f3⟩⟩
theorem er_drawsM {K : PySem.W.Frag} {E : XK} {σ : L2.St} {H : Hp} {tc ts tm : TE} {c z : Int} {N : Nat} (hc : Ev tc σ H (.int c)) (hs : Ev ts σ H (.int z)) (hm : EvR tm σ H fun v G => ∃ (p : Addr) (ms : List Int), v = .ref p ∧ G p = some (.lst (ms.map V.int)) ∧ ms.length = N ∧ ∀ x ∈ ms, 1 ≤ x ∧ x ≤ 33554432) (h0 : 0 ≤ c) (hz : -1000000 ≤ z ∧ z ≤ 1000000) (hN : N ≤ 64) :
    EvR (tCall (sp_draws K) [] E (tCons tc (tCons ts (tCons tm tNil)))) σ H fun v H1 => ∃ (p : Addr) (ds : List Int), v = .ref p ∧ H1 p = some (.lst (ds.map V.int)) ∧ ds.length = N := fun H1 e Q q => hc H1 e _ fun H2 e2 => hs H2 (e.trans e2) _ fun H3 e3 => hm H3 ((e.trans e2).trans e3) _ fun v H4 e4 hv => by
  obtain ⟨mp, ms, rfl, hmp, ml, mb⟩ := hv
  refine ⟨c, z, mp, ms, rfl, sq_of hmp, h0, hz, by omega, fun x hx => ?_, fun p H' ds hp e' h' hD => q _ H' (((e2.trans e3).trans e4).trans e') ⟨p, ds, rfl, h', by rw [hD.1, ml]⟩⟩
  have := mb x hx
  exact ⟨this.1, Nat.lt_of_lt_of_le (show x.natAbs < 2 ^ 26 by omega) (Nat.pow_le_pow_right (by decide) (by decide))⟩
theorem ints_pick : ∀ us : List V, (∀ v ∈ us, ∃ z : Int, v = .int z ∧ 1 ≤ z ∧ z ≤ 33554432) → ∃ ms : List Int, us = ms.map V.int ∧ ms.length = us.length ∧ ∀ x ∈ ms, 1 ≤ x ∧ x ≤ 33554432
  | [], _ => ⟨[], rfl, rfl, fun x hx => nomatch hx⟩
  | u :: us, h => by
    obtain ⟨ms, h1, h2, h3⟩ := ints_pick us fun v hv => h v (List.mem_cons_of_mem _ hv)
    obtain ⟨z, rfl, hz⟩ := h u List.mem_cons_self
    refine ⟨z :: ms, by rw [h1]; rfl, by rw [List.length_cons, List.length_cons, h2], fun x hx => ?_⟩
    rcases List.mem_cons.mp hx with rfl | hx
    · exact hz
    · exact h3 x hx
theorem rows_pick {K : PySem.W.Frag} {G : Hp} {b : Addr} {vs : List V} {P : List Int → Prop} (hb : G b = some (.lst vs)) (h : ∀ v ∈ vs, ∃ (t : Addr) (xs : List Int), v = .ref t ∧ G t = some (.lst (xs.map V.int)) ∧ P xs) : ∃ yss : List (List Int), RowsL K G b yss ∧ yss.length = vs.length ∧ ∀ xs ∈ yss, P xs := by
  have key : ∀ us : List V, (∀ v ∈ us, ∃ (t : Addr) (xs : List Int), v = .ref t ∧ G t = some (.lst (xs.map V.int)) ∧ P xs) → ∃ yss : List (List Int), yss.length = us.length ∧ (∀ xs ∈ yss, P xs) ∧ ∀ (i : Nat) v, us[i]? = some v → ∃ t, v = .ref t ∧ SqL K G t ((yss.getD i []).map V.int) := by
    intro us
    induction us with
    | nil => exact fun _ => ⟨[], rfl, (fun xs hx => by cases hx), (fun i v hv => by cases hv)⟩
    | cons u us ih =>
      intro hu
      obtain ⟨yss, y1, y2, y3⟩ := ih fun v hv => hu v (List.mem_cons_of_mem _ hv)
      obtain ⟨t, xs, z1, z2, z3⟩ := hu u List.mem_cons_self
      refine ⟨xs :: yss, by rw [List.length_cons, List.length_cons, y1], fun ys hy => ?_, fun i v hv => ?_⟩
      · rcases List.mem_cons.mp hy with rfl | hy
        · exact z3
        · exact y2 ys hy
      · cases i with
        | zero => cases hv; exact ⟨t, z1, sq_of z2⟩
        | succ i => exact y3 i v hv
  obtain ⟨yss, y1, y2, y3⟩ := key vs h
  exact ⟨yss, ⟨vs, sq_of hb, y1.symm, y3⟩, y1, y2⟩
theorem er_rowsE {K : PySem.W.Frag} {A : Ads} {E : XK} {ta : TE} {σ : L2.St} {H : Hp} {n : Nat} {gs : List (Str × Int)} {xss : List (List Int)} (ha : EvR ta σ H fun v G => ∃ h, WatchOk K A v G h n gs xss) : EvR (tProp A.C_Watch (spRows K A) [] E ta) σ H fun v G => ∃ p, v = .ref p ∧ RowsL K G p xss ∧ ∃ us, G p = some (.lst us) := fun H1 e Q q => ha H1 e _ fun v H2 e2 hv => by
  obtain ⟨h, hv⟩ := hv
  have gl := hv.gl
  have xl := hv.sh.len
  obtain ⟨a, dx, u, rfl, h1, _⟩ := id hv.w
  exact ⟨a, dx, _, rfl, h1, .ref a, h, xss, rfl, hv.w, by omega, fun p H' e' hF => q (.ref p) H' (e2.trans e') ⟨p, rfl, hF.rows, hF.2.elim fun us z => ⟨us, z.1⟩⟩⟩
theorem er_emptyE {K : PySem.W.Frag} {A : Ads} {E : XK} {σ : L2.St} {H : Hp} {tn : TE} {v : V} {n : Nat} {gs : List (Str × Int)} (h1 : Ev tn σ H v) (hh : HouseIs A.C_House v H (n : Int) gs) (hl : gs.length ≤ 100) (hn : 1 ≤ n ∧ n ≤ 1000) : EvR (ClX.tCMeth A.C_Watch (fun vs H Q E => spEmpty K A (vs ++ []) H Q E) E (tC (.ref A.C_Watch)) (tCons tn tNil)) σ H fun w G => ∃ h, WatchOk K A w G h n gs (zeroR n gs.length) := fun H1 e Q q =>
  ⟨rfl, h1 H1 e _ fun H2 e2 => ⟨v, n, gs, rfl, hh.ex (e.trans e2), hl, hn, fun w H' e' hw => q w H' (e2.trans e') ⟨v, hw⟩⟩⟩
/-- what stands right of == -/
def WUn (K : PySem.W.Frag) (A : Ads) (H : Hp) (n : Nat) (gs : List (Str × Int)) (xss : List (List Int)) (w : V) (b : Bool) : Prop := (∃ (h' : V) (m : Nat) (fs : List (Str × Int)) (yss : List (List Int)), WatchOk K A w H h' m fs yss ∧ (∀ g ∈ fs, Word g.1) ∧ decide ((n = m ∧ gs = fs) ∧ xss = yss) = b) ∨ ((∃ p xs, w = .ref p ∧ H p = some (.lst xs)) ∧ b = false)
theorem nf_ofW {K : PySem.W.Frag} {C : Addr} {t : Value} (h : PySem.W.subIn K t (.ref C) = some false) : PySem.W.notFirst K C t = true := by
  unfold PySem.W.notFirst
  simp [h]
theorem weq_sp {K : PySem.W.Frag} {A : Ads} {H : Hp} {Q : VK} {E : XK} {v w h : V} {n : Nat} {gs : List (Str × Int)} {xss : List (List Int)} {b : Bool} (W : WatchOk K A v H h n gs xss) (wd : ∀ g ∈ gs, Word g.1) (hw : WUn K A H n gs xss w b) (q : ∀ H', Ex H H' → Q (.bl b) H') : spWEq K A [v, w] H Q E := by
  rcases hw with ⟨h', m, fs, yss, z1, z2, z3⟩ | ⟨z1, z2⟩
  · exact ⟨v, w, h, h', n, m, gs, fs, xss, yss, rfl, W, wd, .inl ⟨z1, z2, fun H' e => by rw [z3]; exact q H' e⟩⟩
  · subst z2
    exact ⟨v, w, h, h, n, n, gs, gs, xss, xss, rfl, W, wd, .inr ⟨z1, q⟩⟩
theorem wun_ty {K : PySem.W.Frag} {A : Ads} {H : Hp} {n : Nat} {gs : List (Str × Int)} {xss : List (List Int)} {w : V} {b : Bool} (ty : ∀ (H : Hp) (a dx : Addr) (fs : List (Str × V)), H a = some (.ins A.C_Watch dx fs) → TyX K H (.ref a) (.ref A.C_Watch)) (si : PySem.W.subIn K (.type "list") (.ref A.C_Watch) = some false) (h : WUn K A H n gs xss w b) : ∃ tb, TyX K H w tb ∧ PySem.W.notFirst K A.C_Watch tb = true := by
  rcases h with ⟨h', m, fs, yss, z1, _⟩ | ⟨⟨p, xs, rfl, z1⟩, _⟩
  · obtain ⟨b, dy, u, rfl, g1, _⟩ := id z1.w
    exact ⟨_, ty H b dy _ g1, by unfold PySem.W.notFirst; simp⟩
  · exact ⟨_, .base (.lst z1), nf_ofW si⟩
theorem ev_wEq {K : PySem.W.Frag} {A : Ads} {E : L2.St → XK} {ta tb : TE} {σ : L2.St} {H : Hp} {n : Nat} {gs : List (Str × Int)} {xss : List (List Int)} {b : Bool} (ty : ∀ (H : Hp) (a dx : Addr) (fs : List (Str × V)), H a = some (.ins A.C_Watch dx fs) → TyX K H (.ref a) (.ref A.C_Watch)) (si : PySem.W.subIn K (.type "list") (.ref A.C_Watch) = some false) (h1 : EvR ta σ H fun v G => ∃ h, WatchOk K A v G h n gs xss) (wd : ∀ g ∈ gs, Word g.1) (h2 : EvR tb σ H fun w G => WUn K A G n gs xss w b) : Ev (tOpS (rOwnC K A.C_Watch (spWEq K A) E) ta tb) σ H (.bl b) := fun H1 e Q q => h1 H1 e _ fun v H2 e2 hv => h2 H2 (e.trans e2) _ fun w H3 e3 hw => by
  obtain ⟨t, t1, t2⟩ := wun_ty ty si hw
  obtain ⟨h, hv⟩ := hv
  have hv3 := hv.ex e3
  obtain ⟨a, dx, p, rfl, g1, _⟩ := id hv3.w
  exact ⟨a, dx, _, t, rfl, g1, t1, t2, weq_sp hv3 wd hw fun H' e' => q H' ((e2.trans e3).trans e')⟩
theorem ev_wNe {K : PySem.W.Frag} {A : Ads} {E : L2.St → XK} {ta tb : TE} {σ : L2.St} {H : Hp} {n : Nat} {gs : List (Str × Int)} {xss : List (List Int)} {b : Bool} (ty : ∀ (H : Hp) (a dx : Addr) (fs : List (Str × V)), H a = some (.ins A.C_Watch dx fs) → TyX K H (.ref a) (.ref A.C_Watch)) (si : PySem.W.subIn K (.type "list") (.ref A.C_Watch) = some false) (h1 : EvR ta σ H fun v G => ∃ h, WatchOk K A v G h n gs xss) (wd : ∀ g ∈ gs, Word g.1) (h2 : EvR tb σ H fun w G => WUn K A G n gs xss w b) : Ev (tOpS (rOwnNe K A.C_Watch (spWEq K A) E) ta tb) σ H (.bl (!b)) := fun H1 e Q q => h1 H1 e _ fun v H2 e2 hv => h2 H2 (e.trans e2) _ fun w H3 e3 hw => by
  obtain ⟨t, t1, t2⟩ := wun_ty ty si hw
  obtain ⟨h, hv⟩ := hv
  have hv3 := hv.ex e3
  obtain ⟨a, dx, p, rfl, g1, _⟩ := id hv3.w
  exact ⟨a, dx, _, t, rfl, g1, t1, t2, weq_sp hv3 wd hw fun H' e' => ⟨b, rfl, q H' ((e2.trans e3).trans e')⟩⟩
theorem q_pop {K : PySem.W.Frag} {ta : TE} {tz : TS} {D : Ends} {σ : L2.St} {H : Hp} {l : Addr} {xs : List V} (hl : H l = some (.lst xs)) (ha : Ev ta σ H (.ref l)) (hn : 0 < xs.length) (k : ∀ H1, Ex H H1 → tz D σ (upd H1 l (.lst xs.dropLast))) : tSeq (tDrop (tBM0 K "list" rPop ta)) tz D σ H :=
  ha H (Ex.refl H) _ fun H1 e1 => ⟨Or.inl ⟨rfl, xs, sq_of (e1 l _ hl)⟩, l, xs, xs[xs.length - 1], rfl, rfl, e1 l _ hl, List.getElem?_eq_getElem (by omega), k H1 e1⟩
/-- one cell of a fresh table changed; rows that stand twice change twice -/
theorem fresh_cell {H0 G : Hp} {p tr : Addr} {vs : List V} {yss : List (List Int)} {n m ai bi : Nat} {w0 : Int} (hp0 : H0 p = none) (hvs : G p = some (.lst vs)) (hvl : vs.length = yss.length) (hall : ∀ (i : Nat) v, vs[i]? = some v → ∃ t, v = .ref t ∧ H0 t = none ∧ G t = some (.lst ((yss.getD i []).map V.int))) (hS : Shape (n : Int) m yss) (hm : 1 ≤ m) (hn : 1 ≤ n) (hai : ai < m) (hbi : bi < n) (vi : vs[ai]? = some (.ref tr)) (hw : 0 ≤ w0 ∧ w0 ≤ 96) (hne : w0 ≠ (yss.getD ai []).getD bi 0) :
    ∃ zss, FreshR H0 (upd G tr (.lst (((yss.getD ai []).set bi w0).map V.int))) p zss ∧ Shape (n : Int) m zss ∧ zss ≠ yss := by
  have yl := hS.len
  have rl : (yss.getD ai []).length = n := hS.row' _ (in_getD (by omega))
  have rv := hS.val _ (in_getD (d := []) (show ai < yss.length by omega))
  obtain ⟨t', ht', _, hT⟩ := hall ai _ vi
  cases ht'
  generalize hr0 : yss.getD ai [] = r0 at *
  have tne : p ≠ tr := fun z => by
    rw [z, hT] at hvs
    have := congrArg (fun o => match o with | some (HO.lst l) => l[0]? | _ => none) hvs
    obtain ⟨t0, ht0, _⟩ := hall 0 (vs[0]'(by omega)) (List.getElem?_eq_getElem (by omega))
    have h0 : vs[0]? = some (.ref t0) := by rw [← ht0]; exact List.getElem?_eq_getElem (by omega)
    have h1 : (r0.map V.int)[0]? = vs[0]? := this
    rw [h0, List.getElem?_map, List.getElem?_eq_getElem (by omega)] at h1
    cases h1
  refine ⟨(List.range yss.length).map fun j => if vs[j]? = some (.ref tr) then r0.set bi w0 else yss.getD j [], ⟨hp0, vs, by rw [upd_ne tne]; exact hvs, by simp [hvl], fun j v hv => ?_⟩, ⟨by simp [yl], fun xs hx => ?_, fun xs hx y hy => ?_⟩, fun z => ?_⟩
  · have hj : j < yss.length := by have := (List.getElem?_eq_some_iff.mp hv).1; omega
    obtain ⟨tj, rfl, htj0, hTj⟩ := hall j v hv
    refine ⟨tj, rfl, htj0, ?_⟩
    rw [List.getD_eq_getElem?_getD, List.getElem?_map, List.getElem?_range hj]
    by_cases c : tj = tr
    · subst c
      rw [upd_same]
      show _ = some (HO.lst ((if vs[j]? = some (.ref tj) then _ else _ : List Int).map V.int))
      rw [if_pos hv]
    · rw [upd_ne c]
      show _ = some (HO.lst ((if vs[j]? = some (.ref tr) then _ else _ : List Int).map V.int))
      rw [if_neg (fun z => c (by rw [hv] at z; cases z; rfl))]
      exact hTj
  · obtain ⟨j, hj, rfl⟩ := List.mem_map.mp hx
    have hj := List.mem_range.mp hj
    split
    · rw [List.length_set, rl]
    · exact hS.row _ (in_getD hj)
  · obtain ⟨j, hj, rfl⟩ := List.mem_map.mp hx
    have hj := List.mem_range.mp hj
    split at hy
    · rcases List.mem_or_eq_of_mem_set hy with h | h
      · exact rv y h
      · rw [h]; exact hw
    · exact hS.val _ (in_getD hj) y hy
  · have h1 := congrArg (fun l : List (List Int) => (l.getD ai []).getD bi 0) z
    have h2 : (((List.range yss.length).map fun j => if vs[j]? = some (V.ref tr) then r0.set bi w0 else yss.getD j []).getD ai []).getD bi 0 = w0 := by
      rw [List.getD_eq_getElem?_getD (l := List.map _ _), List.getElem?_map, List.getElem?_range (by omega)]
      show (if vs[ai]? = some (V.ref tr) then r0.set bi w0 else yss.getD ai [] : List Int).getD bi 0 = w0
      rw [if_pos vi, List.getD_eq_getElem?_getD, List.getElem?_set_self (by omega)]
      rfl
    have h3 : (((List.range yss.length).map fun j => if vs[j]? = some (V.ref tr) then r0.set bi w0 else yss.getD j []).getD ai []).getD bi 0 = (yss.getD ai []).getD bi 0 := h1
    rw [h2] at h3
    rw [hr0] at h3
    exact hne h3
/-! ### other gates -/
def bump1 (gs : List (Str × Int)) (ai : Nat) : List (Str × Int) := (List.range gs.length).map fun i => ((gs.getD i ("", 0)).1, ((gs.getD i ("", 0)).2 + (if i = ai then 1 else 0)) % 61)
theorem bump_at {gs : List (Str × Int)} {ai i : Nat} (hi : i < gs.length) : (bump1 gs ai)[i]? = some ((gs.getD i ("", 0)).1, ((gs.getD i ("", 0)).2 + (if i = ai then 1 else 0)) % 61) := by
  unfold bump1
  rw [List.getElem?_map, List.getElem?_range hi]
  rfl
theorem bump_good {gs : List (Str × Int)} {m ai : Nat} (h : GoodG gs m) (ha : ai < m) : GoodG (bump1 gs ai) m ∧ bump1 gs ai ≠ gs := by
  have gl := h.len
  have e : (bump1 gs ai).map (·.1) = gs.map (·.1) := by
    unfold bump1
    rw [List.map_map]
    refine List.ext_getElem (by simp) fun i h1 h2 => ?_
    simp at h1 h2
    simp [List.getD_eq_getElem?_getD, List.getElem?_eq_getElem h1]
  refine ⟨⟨by simp [bump1, gl], by rw [e]; exact h.nd, fun g hg => ?_⟩, fun z => ?_⟩
  · obtain ⟨i, hi, rfl⟩ := List.mem_map.mp hg
    have hi := List.mem_range.mp hi
    have hg := h.all _ (in_getD (d := (("" : Str), (0 : Int))) hi)
    refine ⟨hg.1, ?_, ?_⟩
    · show 0 ≤ (_ : Int) % 61
      omega
    · show (_ : Int) % 61 ≤ 60
      omega
  · have hg := h.all _ (in_getD (d := (("" : Str), (0 : Int))) (show ai < gs.length by omega))
    have h1 := congrArg (fun l => l[ai]?) z
    have h2 : (bump1 gs ai)[ai]? = gs[ai]? := h1
    rw [bump_at (by omega), List.getElem?_eq_getElem (by omega)] at h2
    have h3 := congrArg Prod.snd (Option.some.inj h2)
    have h4 : (gs.getD ai ("", 0)).2 = (gs[ai]'(by omega)).2 := by rw [List.getD_eq_getElem?_getD, List.getElem?_eq_getElem (by omega)]; rfl
    rw [← h4] at h3
    have h5 : ((gs.getD ai ("", 0)).2 + (if ai = ai then 1 else 0)) % 61 = (gs.getD ai ("", 0)).2 := h3
    rw [if_pos rfl] at h5
    omega
theorem head_good {g : Str × Int} {tl : List (Str × Int)} {m : Nat} {w : Str} (h : GoodG (g :: tl) m) (hw : Word w) (hn : w ∉ (g :: tl).map (·.1)) : GoodG ((w, g.2) :: tl) m ∧ (w, g.2) :: tl ≠ g :: tl := by
  have nd := List.nodup_cons.mp (show (g.1 :: tl.map (·.1)).Nodup from h.nd)
  refine ⟨⟨h.len, List.nodup_cons.mpr ⟨fun z => hn (List.mem_cons_of_mem _ z), nd.2⟩, fun x hx => ?_⟩, fun z => hn ?_⟩
  · rcases List.mem_cons.mp hx with rfl | hx
    · exact ⟨hw, (h.all g List.mem_cons_self).2⟩
    · exact h.all x (List.mem_cons_of_mem _ hx)
  · have := congrArg Prod.fst (List.cons.inj z).1
    rw [show w = g.1 from this]
    exact List.mem_cons_self
theorem cut7 (z : Str) : cutS z none (some 7) = txt (z.cps.toList.take 7) := by
  unfold cutS
  have e : z.length = z.cps.toList.length := by simp [Str.length]
  rw [show (some (7 : Int)) = some ((7 : Nat) : Int) from rfl, HT.sIx_nat, HT.sIx_none, List.drop_zero, Nat.sub_zero, e]
  by_cases c : 7 ≤ z.cps.toList.length
  · rw [Nat.min_eq_left c]; rfl
  · rw [Nat.min_eq_right (by omega), List.take_of_length_le (Nat.le_refl _), List.take_of_length_le (by omega)]; rfl
theorem z_word {z : Str} (h : Word z) : Word (txt (z.cps.toList.take 7 ++ [122])) := ⟨by rw [txt_len, List.length_append, List.length_take]; show 1 ≤ _ + 1 ∧ _ + 1 ≤ 8; omega, fun c hc => by
  rw [txt_list] at hc
  rcases List.mem_append.mp hc with h1 | h1
  · exact h.all c (List.mem_of_mem_take h1)
  · rw [List.mem_singleton.mp h1]; decide⟩
theorem er_oneU {te : TE} {σ : L2.St} {H : Hp} {xs : List V} (h : EvU te σ H xs) : EvR (tLst (tCons te tNil)) σ H fun v G => ∃ a t, v = .ref a ∧ G a = some (.lst [.ref t]) ∧ G t = some (.tup xs) := fun H1 e Q q => h H1 e _ fun t H2 _ e2 ht => ⟨by show 1 ≤ sizeLine; decide, fun a ha => q _ _ (e2.trans (Ex.new ha)) ⟨a, t, rfl, upd_same, (Ex.new ha) _ _ ht⟩⟩
theorem er_gcons {K : PySem.W.Frag} {ta tg : TE} {σ : L2.St} {H : Hp} {p : Addr} {w : Str} {s : Int} {g : Str × Int} {tl : List (Str × Int)} (h1 : EvU ta σ H [.str w, .int s]) (hg : Ev tg σ H (.ref p)) (hG : Gates K H p (g :: tl)) (hz : tl.length ≤ 1000) :
    EvR (tOp rCat (tLst (tCons ta tNil)) (tSl (rSlL K) tg (tPart (tC (.int 1))) tNoPart)) σ H fun v G => ∃ q, v = .ref q ∧ Gates K G q ((w, s) :: tl) := fun H1 e Q q => er_oneU h1 H1 e _ fun v H2 e2 hv => by
  obtain ⟨vs, hvs, hvl, hall⟩ := hG.all
  rw [List.length_cons] at hvl
  obtain ⟨a, t, rfl, ha, ht⟩ := hv
  have e12 := e.trans e2
  exact (er_L (el_isW (el_sl (K := K) hg (eo_some (i := 1) ev_c) eo_none hvs) (cut_dropV (vs := vs) (k := 1) (by omega)))) H2 e12 _ fun v H3 e3 hv => by
    obtain ⟨l, rfl, hl⟩ := hv
    refine ⟨a, l, [.ref t], vs.drop 1, rfl, rfl, e3 _ _ ha, hl, sz_of (show 1 + (vs.drop 1).length ≤ 100000 by rw [List.length_drop]; omega), fun c hc => q _ _ ((e2.trans e3).trans (Ex.new hc)) ⟨c, rfl, [.ref t] ++ vs.drop 1, sq_of upd_same, ?_, fun i v hv => ?_⟩⟩
    · rw [List.length_append, List.length_drop]
      show 1 + (vs.length - 1) = tl.length + 1
      omega
    · cases i with
      | zero =>
        cases hv
        exact ⟨t, rfl, fun x hx => by cases hx; exact st_of ((e3.trans (Ex.new hc)) _ _ ht)⟩
      | succ i =>
        have hv' : (vs.drop 1)[i]? = some v := hv
        rw [List.getElem?_drop, Nat.add_comm] at hv'
        obtain ⟨t', rfl, hT⟩ := hall (i + 1) v hv'
        exact ⟨t', rfl, fun x hx => ex_t ((e12.trans e3).trans (Ex.new hc)) (hT x hx)⟩
theorem ok_law (T : Txt K mg A) : FnOk P w K mg base CX0 20 A.f_law A.d_law (["script"] : List Str) (spLaw K) := by
  refine T.F_law.ok sc_law (fun vs H Q E h => ?_) (fun cdv Ar outer s H vs Q E hr h => ?_)
  · obtain ⟨a, ns, rfl, _⟩ := h
    rfl
  · obtain ⟨sa, ns, rfl, hS, hl, k⟩ := h
    refine ⟨_, (pss_cons (ps_set (i := 1) sc_law.nd rfl (Or.inl rfl) (pe_call (ok_u_law_draws T) (hr.mono (by omega)) rfl T.g_u_law_draws T.k_u_law_draws (b_u_law_draws T) .nil pass0 (pa_cons (pe_call (ok_u_law_cell T) (hr.mono (by omega)) rfl T.g_u_law_cell T.k_u_law_cell (b_u_law_cell T) .nil pass0 (pa_cons (pv 0) (pa_cons pe_int pa_nil))) (pa_cons pe_int (pa_cons (pe_lst (pa_cons pe_int (pa_cons pe_int (pa_cons pe_int pa_nil)))) pa_nil)))))
        (pss_cons (ps_set (i := 2) sc_law.nd rfl (Or.inr rfl) (pe_op op_add pe_int (pe_ix ix_lK (pv 1) pe_int (fun _ _ => rfl))))
        (pss_cons (ps_set (i := 3) sc_law.nd rfl (Or.inr rfl) (pe_op op_add pe_int (pe_op op_mod (pe_callTy call_int1 (by rfl) T.z_int (by decide +kernel) (pa_cons (pe_ix ix_lK (pv 1) pe_int (fun _ _ => rfl)) pa_nil)) (pe_callB (call_min2 rfl) (by rfl) T.z_min (by decide +kernel) (pa_cons pe_int (pa_cons (pe_op op_fdiv pe_int (pv 2)) pa_nil))))))
        (pss_cons (ps_set (i := 4) sc_law.nd rfl (Or.inl rfl) (pe_call (ok_u_law_draws T) (hr.mono (by omega)) rfl T.g_u_law_draws T.k_u_law_draws (b_u_law_draws T) .nil pass0 (pa_cons (pe_call (ok_u_law_cell T) (hr.mono (by omega)) rfl T.g_u_law_cell T.k_u_law_cell (b_u_law_cell T) .nil pass0 (pa_cons (pv 0) (pa_cons pe_int pa_nil))) (pa_cons pe_int (pa_cons (pe_lst (pa_cons (pe_op op_pow pe_int pe_int) (pa_cons (pe_op op_pow pe_int pe_int) (pa_cons (pe_op op_pow pe_int pe_int) (pa_cons (pe_op op_pow pe_int pe_int) pa_nil))))) pa_nil)))))
        (pss_cons (ps_set (i := 5) sc_law.nd rfl (Or.inr rfl) (pe_call (ok_u_law_gates T) (hr.mono (by omega)) rfl T.g_u_law_gates T.k_u_law_gates (b_u_law_gates T) .nil pass0 (pa_cons (pe_slice sl_listK (pv 4) po_none (po_some (pv 2))) (pa_cons (pe_call (ok_u_law_draws T) (hr.mono (by omega)) rfl T.g_u_law_draws T.k_u_law_draws (b_u_law_draws T) .nil pass0 (pa_cons (pe_call (ok_u_law_cell T) (hr.mono (by omega)) rfl T.g_u_law_cell T.k_u_law_cell (b_u_law_cell T) .nil pass0 (pa_cons (pv 0) (pa_cons pe_int pa_nil))) (pa_cons pe_int (pa_cons (pe_lst (pa_cons pe_int (pa_cons pe_int (pa_cons pe_int (pa_cons pe_int pa_nil))))) pa_nil)))) pa_nil))))
        (pss_cons (ps_set (i := 6) sc_law.nd rfl (Or.inl rfl) (pe_make T.mk_House (ok_House_init T) (hr.mono (by omega)) rfl T.g_House (b_House_init T) .nil passL (pa_cons (pv 3) (pa_cons (pe_callTy list_K (by rfl) T.z_list (by decide +kernel) (pa_cons (pv 5) pa_nil)) pa_nil))))
        (pss_cons (ps_set (i := 7) sc_law.nd rfl (Or.inl rfl) (pe_call (ok_u_law_draws T) (hr.mono (by omega)) rfl T.g_u_law_draws T.k_u_law_draws (b_u_law_draws T) .nil pass0 (pa_cons (pe_call (ok_u_law_cell T) (hr.mono (by omega)) rfl T.g_u_law_cell T.k_u_law_cell (b_u_law_cell T) .nil pass0 (pa_cons (pv 0) (pa_cons pe_int pa_nil))) (pa_cons pe_int (pa_cons (pe_lc (own := [("cell", 8)]) (g := gName 8) (tt := tYes) rfl sc_law.nd (pi_range1 rfl T.z_range (pa_cons (pe_op op_mul (pv 2) (pv 3)) pa_nil)) (blkOk_by (own := [("cell", 8)]) (N := N_law) (sc := defScope s_law) (by decide +kernel)) (fun _ _ _ _ _ => (pg_name (i := 8) sc_law.nd rfl (Or.inl rfl))) (fun _ _ _ _ _ => pts_nil) (fun _ _ _ _ _ => pe_int)) pa_nil)))))
        (pss_cons (ps_if (pt_cmpR op_eq (pe_ix ix_lK (pv 1) pe_int (fun _ _ => rfl)) pe_int (nomark _)) (pss_one (ps_setLc (i := 7) (own := [("x", 9)]) (g := gName 9) (tt := tYes) rfl sc_law.nd rfl rfl (sw_true rfl rfl rfl (by decide +kernel)) (pi_listK (pv 7)) (blkOk_by (own := [("x", 9)]) (N := N_law) (sc := defScope s_law) (by decide +kernel)) (fun _ _ _ _ _ => (pg_name (i := 9) sc_law.nd rfl (Or.inl rfl))) (fun _ _ _ _ _ => pts_nil) (fun _ _ _ _ _ => (pe_ix ix_lK (pe_lst (pa_cons pe_int (pa_cons pe_int (pa_cons pe_int (pa_cons pe_int pa_nil))))) (pe_op op_mod (pe_callTy call_int1 (by rfl) T.z_int (by decide +kernel) (pa_cons (pv 9) pa_nil)) pe_int) (fun _ _ => rfl))))) pss_nil)
        (pss_cons (ps_set (i := 10) sc_law.nd rfl (Or.inl rfl) (pe_call (ok_u_law_rows T) (hr.mono (by omega)) rfl T.g_u_law_rows T.k_u_law_rows (b_u_law_rows T) .nil pass0 (pa_cons (pv 2) (pa_cons (pv 3) (pa_cons (pv 7) pa_nil)))))
        (pss_cons (ps_set (i := 11) sc_law.nd rfl (Or.inl rfl) (pe_call (ok_u_law_draws T) (hr.mono (by omega)) rfl T.g_u_law_draws T.k_u_law_draws (b_u_law_draws T) .nil pass0 (pa_cons (pe_call (ok_u_law_cell T) (hr.mono (by omega)) rfl T.g_u_law_cell T.k_u_law_cell (b_u_law_cell T) .nil pass0 (pa_cons (pv 0) (pa_cons pe_int pa_nil))) (pa_cons pe_int (pa_cons (pe_lst (pa_cons (pe_op op_pow pe_int pe_int) (pa_cons (pe_op op_pow pe_int pe_int) pa_nil))) pa_nil)))))
        (pss_cons (ps_set (i := 12) sc_law.nd rfl (Or.inl rfl) (pe_call (ok_u_law_bad_rows T) (hr.mono (by omega)) rfl T.g_u_law_bad_rows T.k_u_law_bad_rows (b_u_law_bad_rows T) .nil pass0 (pa_cons (pv 10) (pa_cons (pv 3) (pa_cons (pe_call (ok_u_law_draws T) (hr.mono (by omega)) rfl T.g_u_law_draws T.k_u_law_draws (b_u_law_draws T) .nil pass0 (pa_cons (pe_call (ok_u_law_cell T) (hr.mono (by omega)) rfl T.g_u_law_cell T.k_u_law_cell (b_u_law_cell T) .nil pass0 (pa_cons (pv 0) (pa_cons pe_int pa_nil))) (pa_cons pe_int (pa_cons (pe_lst (pa_cons pe_int (pa_cons pe_int (pa_cons pe_int (pa_cons pe_int (pa_cons pe_int (pa_cons pe_int (pa_cons pe_int (pa_cons (pe_op op_pow pe_int pe_int) pa_nil))))))))) pa_nil)))) pa_nil)))))
        (pss_cons (ps_set (i := 13) sc_law.nd rfl (Or.inl rfl) (pe_call (ok_u_law_first_error T) (hr.mono (by omega)) rfl T.g_u_law_first_error T.k_u_law_first_error (b_u_law_first_error T) .nil pass0 (pa_cons (pv 12) (pa_cons (pv 2) (pa_cons (pv 3) pa_nil)))))
        (pss_cons (ps_if (pt_not (pt_val (pe_call (ok_u_law_answers T) (hr.mono (by omega)) rfl T.g_u_law_answers T.k_u_law_answers (b_u_law_answers T) .nil pass0 (pa_cons (pv 6) (pa_cons (pv 12) (pa_cons (pv 13) (pa_cons (pv 11) pa_nil))))))) (pss_one (ps_ret pe_bl)) pss_nil)
        (pss_cons (ps_setLc (i := 14) (own := [("row", 15)]) (g := gName 15) (tt := tYes) rfl sc_law.nd rfl rfl (sw_true rfl rfl rfl (by decide +kernel)) (pi_listK (pv 10)) (blkOk_by (own := [("row", 15)]) (N := N_law) (sc := defScope s_law) (by decide +kernel)) (fun _ _ _ _ _ => (pg_name (i := 15) sc_law.nd rfl (Or.inl rfl))) (fun _ _ _ _ _ => pts_nil) (fun _ _ _ _ _ => (pe_callTy list_K (by rfl) T.z_list (by decide +kernel) (pa_cons (pv 15) pa_nil))))
        (pss_cons (ps_set (i := 16) sc_law.nd rfl (Or.inl rfl) (pe_make T.mk_Watch (ok_Watch_init T) (hr.mono (by omega)) rfl T.g_Watch (b_Watch_init T) .nil passL (pa_cons (pv 6) (pa_cons (pv 14) pa_nil))))
        (pss_cons (ps_if (PW.pt (pw_or (pt_cmpR (neD_K hr.units) (pv 14) (pv 10) (nomark _)) (pw_or1 (pt_not (pt_val (pe_call (ok_u_law_shows T) (hr.mono (by omega)) rfl T.g_u_law_shows T.k_u_law_shows (b_u_law_shows T) .nil pass0 (pa_cons (pv 16) (pa_cons (pv 6) (pa_cons (pv 10) (pa_cons (pv 11) pa_nil)))))))))) (pss_one (ps_ret pe_bl)) pss_nil)
        (pss_cons (ps_set (i := 17) sc_law.nd rfl (Or.inr rfl) (pe_call (ok_u_law_draws T) (hr.mono (by omega)) rfl T.g_u_law_draws T.k_u_law_draws (b_u_law_draws T) .nil pass0 (pa_cons (pe_call (ok_u_law_cell T) (hr.mono (by omega)) rfl T.g_u_law_cell T.k_u_law_cell (b_u_law_cell T) .nil pass0 (pa_cons (pv 0) (pa_cons pe_int pa_nil))) (pa_cons pe_int (pa_cons (pe_lst (pa_cons pe_int (pa_cons pe_int (pa_cons pe_int (pa_cons pe_int (pa_cons pe_int pa_nil)))))) pa_nil)))))
        (pss_cons (ps_set (i := 15) sc_law.nd rfl (Or.inl rfl) (pe_ix ix_lK (pv 14) (pe_op op_mod (pe_callTy call_int1 (by rfl) T.z_int (by decide +kernel) (pa_cons (pe_ix ix_lK (pv 17) pe_int (fun _ _ => rfl)) pa_nil)) (pv 2)) (fun _ _ => rfl)))
        (pss_cons (ps_set (i := 18) sc_law.nd rfl (Or.inl rfl) (pe_op op_mod (pe_callTy call_int1 (by rfl) T.z_int (by decide +kernel) (pa_cons (pe_ix ix_lK (pv 17) pe_int (fun _ _ => rfl)) pa_nil)) (pv 3)))
        (pss_cons (ps_asg (pe_op op_mod (pe_callTy call_int1 (by rfl) T.z_int (by decide +kernel) (pa_cons (pe_op op_add (pe_op op_add (pe_ix ix_lK (pv 15) (pv 18) (fun _ _ => rfl)) pe_int) (pe_ix ix_lK (pv 17) pe_int (fun _ _ => rfl))) pa_nil)) pe_int) (pg_sub (pv 15) (pv 18) set_list))
        (pss_cons (ps_set (i := 19) sc_law.nd rfl (Or.inl rfl) (pe_make T.mk_Watch (ok_Watch_init T) (hr.mono (by omega)) rfl T.g_Watch (b_Watch_init T) .nil passL (pa_cons (pv 6) (pa_cons (pe_lc (own := [("one", 20)]) (g := gName 20) (tt := tYes) rfl sc_law.nd (pi_listK (pv 14)) (blkOk_by (own := [("one", 20)]) (N := N_law) (sc := defScope s_law) (by decide +kernel)) (fun _ _ _ _ _ => (pg_name (i := 20) sc_law.nd rfl (Or.inl rfl))) (fun _ _ _ _ _ => pts_nil) (fun _ _ _ _ _ => (pe_callTy list_K (by rfl) T.z_list (by decide +kernel) (pa_cons (pv 20) pa_nil)))) pa_nil))))
        (pss_cons (ps_if (pt_not (pt_val (pe_call (ok_u_law_shows T) (hr.mono (by omega)) rfl T.g_u_law_shows T.k_u_law_shows (b_u_law_shows T) .nil pass0 (pa_cons (pv 19) (pa_cons (pv 6) (pa_cons (pe_lc (own := [("one", 20)]) (g := gName 20) (tt := tYes) rfl sc_law.nd (pi_listK (pv 14)) (blkOk_by (own := [("one", 20)]) (N := N_law) (sc := defScope s_law) (by decide +kernel)) (fun _ _ _ _ _ => (pg_name (i := 20) sc_law.nd rfl (Or.inl rfl))) (fun _ _ _ _ _ => pts_nil) (fun _ _ _ _ _ => (pe_callTy list_K (by rfl) T.z_list (by decide +kernel) (pa_cons (pv 20) pa_nil)))) (pa_cons (pv 11) pa_nil))))))) (pss_one (ps_ret pe_bl)) pss_nil)
        (pss_cons (ps_expr (pe_bm0 PySem.F.plainAttrs_list PySem.F.slot_list_pop PySem.F.type_list_pop mt_pop (pv 14)))
        (pss_cons (ps_if (pt_not (pt_val (pe_call (ok_u_law_shows T) (hr.mono (by omega)) rfl T.g_u_law_shows T.k_u_law_shows (b_u_law_shows T) .nil pass0 (pa_cons (pv 16) (pa_cons (pv 6) (pa_cons (pv 10) (pa_cons (pv 11) pa_nil))))))) (pss_one (ps_ret pe_bl)) pss_nil)
        (pss_cons (ps_setLc (i := 21) (own := [("number", 23)]) (g := gName 23) (tt := tYes) rfl sc_law.nd rfl rfl (sw_true rfl rfl rfl (by decide +kernel)) (pi_listK (pe_call (ok_u_law_draws T) (hr.mono (by omega)) rfl T.g_u_law_draws T.k_u_law_draws (b_u_law_draws T) .nil pass0 (pa_cons (pe_call (ok_u_law_cell T) (hr.mono (by omega)) rfl T.g_u_law_cell T.k_u_law_cell (b_u_law_cell T) .nil pass0 (pa_cons (pv 0) (pa_cons pe_int pa_nil))) (pa_cons pe_int (pa_cons (pe_lc (own := [("g", 22)]) (g := gName 22) (tt := tYes) rfl sc_law.nd (pi_range1 rfl T.z_range (pa_cons (pv 2) pa_nil)) (blkOk_by (own := [("g", 22)]) (N := N_law) (sc := defScope s_law) (by decide +kernel)) (fun _ _ _ _ _ => (pg_name (i := 22) sc_law.nd rfl (Or.inl rfl))) (fun _ _ _ _ _ => pts_nil) (fun _ _ _ _ _ => (pe_call (ok_u_law_two T) (hr.mono (by omega)) rfl T.g_u_law_two T.k_u_law_two (b_u_law_two T) .nil pass0 (pa_cons (pv 3) pa_nil)))) pa_nil))))) (blkOk_by (own := [("number", 23)]) (N := N_law) (sc := defScope s_law) (by decide +kernel)) (fun _ _ _ _ _ => (pg_name (i := 23) sc_law.nd rfl (Or.inl rfl))) (fun _ _ _ _ _ => pts_nil) (fun _ _ _ _ _ => (pe_call (ok_u_law_bits T) (hr.mono (by omega)) rfl T.g_u_law_bits T.k_u_law_bits (b_u_law_bits T) .nil pass0 (pa_cons (pv 3) (pa_cons (pv 23) pa_nil)))))
        (pss_cons (ps_if (pt_not (pt_val (pe_call (ok_u_law_of_lots T) (hr.mono (by omega)) rfl T.g_u_law_of_lots T.k_u_law_of_lots (b_u_law_of_lots T) .nil pass0 (pa_cons (pv 6) (pa_cons (pv 3) (pa_cons (pv 21) (pa_cons (pv 17) (pa_cons (pv 11) pa_nil)))))))) (pss_one (ps_ret pe_bl)) pss_nil)
        (pss_cons (ps_setLc (i := 24) (own := [("g", 22)]) (g := gName 22) (tt := tYes) rfl sc_law.nd rfl rfl (sw_true rfl rfl rfl (by decide +kernel)) (pi_range1 rfl T.z_range (pa_cons (pv 2) pa_nil)) (blkOk_by (own := [("g", 22)]) (N := N_law) (sc := defScope s_law) (by decide +kernel)) (fun _ _ _ _ _ => (pg_name (i := 22) sc_law.nd rfl (Or.inl rfl))) (fun _ _ _ _ _ => pts_nil) (fun _ _ _ _ _ => (pe_lc (own := [("h", 25)]) (g := gName 25) (tt := tYes) rfl sc_law.nd (pi_range1 rfl T.z_range (pa_cons (pv 3) pa_nil)) (by dsimp only [cxOf, Cx.nox, Cx.blk, compEnvC]; show BlkOk _ (relS _ (defScope s_law)) _ _; exact blkOk_by (own := [("h", 25)]) (N := N_law) (by decide +kernel)) (fun _ _ _ _ _ => (pg_name (i := 25) sc_law.nd rfl (Or.inl rfl))) (fun _ _ _ _ _ => pts_nil) (fun _ _ _ _ _ => pe_int))))
        (pss_cons (ps_if (PW.pt (pw_or (pt_not (pt_val (pe_call (ok_u_law_same T) (hr.mono (by omega)) rfl T.g_u_law_same T.k_u_law_same (b_u_law_same T) .nil pass0 (pa_cons (pe_prop (ClX.pe_cmeth (pe_glob (v := .ref A.C_Watch) rfl T.g_Watch rfl) T.CM_Watch_empty.choose_spec.1 T.CM_Watch_empty.choose_spec.2 (FnOk.raw (ok_Watch_empty T) (b_Watch_empty T) .nil) (hr.mono (by omega)) pass0 (pa_cons (pv 6) pa_nil)) T.cl_Watch T.P_Watch_rows (ok_Watch_rows T) (hr.mono (by omega)) (b_Watch_rows T) .nil pass0 rfl) (pa_cons (pv 24) pa_nil))))) (pw_or1 (pt_not (pt_val (pe_call (ok_u_law_same T) (hr.mono (by omega)) rfl T.g_u_law_same T.k_u_law_same (b_u_law_same T) .nil pass0 (pa_cons (pe_cmpS (op_ownC (op := .Eq) (E := fun _ => E0) (fun _ _ => rfl) T.M_Watch_eq (ok_Watch_eq T) (hr.mono (by omega)) (b_Watch_eq T) (pAt pass0)) (ClX.pe_cmeth (pe_glob (v := .ref A.C_Watch) rfl T.g_Watch rfl) T.CM_Watch_empty.choose_spec.1 T.CM_Watch_empty.choose_spec.2 (FnOk.raw (ok_Watch_empty T) (b_Watch_empty T) .nil) (hr.mono (by omega)) pass0 (pa_cons (pv 6) pa_nil)) (pe_make T.mk_Watch (ok_Watch_init T) (hr.mono (by omega)) rfl T.g_Watch (b_Watch_init T) .nil passL (pa_cons (pv 6) (pa_cons (pv 24) pa_nil))) (nomark _)) (pa_cons pe_bl pa_nil)))))))) (pss_one (ps_ret pe_bl)) pss_nil)
        (pss_cons (ps_setLc (i := 26) (own := [("g", 22)]) (g := gName 22) (tt := tYes) rfl sc_law.nd rfl rfl (sw_true rfl rfl rfl (by decide +kernel)) (pi_range1 rfl T.z_range (pa_cons (pv 2) pa_nil)) (blkOk_by (own := [("g", 22)]) (N := N_law) (sc := defScope s_law) (by decide +kernel)) (fun _ _ _ _ _ => (pg_name (i := 22) sc_law.nd rfl (Or.inl rfl))) (fun _ _ _ _ _ => pts_nil) (fun _ _ _ _ _ => (pe_tup (pa_cons (pe_ix ix_tK (pe_ix ix_lK (pv 5) (pv 22) (fun _ _ => rfl)) pe_int (fun _ _ => rfl)) (pa_cons (pe_op op_mod (pe_callTy call_int1 (by rfl) T.z_int (by decide +kernel) (pa_cons (pe_op op_add (pe_ix ix_tK (pe_ix ix_lK (pv 5) (pv 22) (fun _ _ => rfl)) pe_int (fun _ _ => rfl)) (pe_callTy call_int1 (by rfl) T.z_int (by decide +kernel) (pa_cons (pe_cmpR op_eq (pv 22) (pe_op op_mod (pe_callTy call_int1 (by rfl) T.z_int (by decide +kernel) (pa_cons (pe_ix ix_lK (pv 17) pe_int (fun _ _ => rfl)) pa_nil)) (pv 2)) (nomark _)) pa_nil))) pa_nil)) pe_int) pa_nil)))))
        (pss_cons (ps_set (i := 27) sc_law.nd rfl (Or.inl rfl) (pe_op op_add_str (pe_slice sl_str (pe_ix ix_tK (pe_ix ix_lK (pv 5) pe_int (fun _ _ => rfl)) pe_int (fun _ _ => rfl)) po_none (po_some pe_int)) pe_str))
        (pss_cons (ps_if (PW.pt (pw_and (pt_cmpR op_eq (pe_op op_mod (pe_callTy call_int1 (by rfl) T.z_int (by decide +kernel) (pa_cons (pe_ix ix_lK (pv 17) pe_int (fun _ _ => rfl)) pa_nil)) pe_int) pe_int (nomark _)) (pw_and1 (pt_cmpR notin_K (pv 27) (pe_lc (own := [("gate", 28)]) (g := gName 28) (tt := tYes) rfl sc_law.nd (pi_listK (pv 5)) (blkOk_by (own := [("gate", 28)]) (N := N_law) (sc := defScope s_law) (by decide +kernel)) (fun _ _ _ _ _ => (pg_name (i := 28) sc_law.nd rfl (Or.inl rfl))) (fun _ _ _ _ _ => pts_nil) (fun _ _ _ _ _ => (pe_ix ix_tK (pv 28) pe_int (fun _ _ => rfl)))) (by with_unfolding_all rfl))))) (pss_one (ps_set (i := 26) sc_law.nd rfl (Or.inl rfl) (pe_op op_cat (pe_lst (pa_cons (pe_tup (pa_cons (pv 27) (pa_cons (pe_ix ix_tK (pe_ix ix_lK (pv 5) pe_int (fun _ _ => rfl)) pe_int (fun _ _ => rfl)) pa_nil))) pa_nil)) (pe_slice sl_listK (pv 5) (po_some pe_int) po_none)))) pss_nil)
        (pss_cons (ps_set (i := 29) sc_law.nd rfl (Or.inl rfl) (pe_make T.mk_Watch (ok_Watch_init T) (hr.mono (by omega)) rfl T.g_Watch (b_Watch_init T) .nil passL (pa_cons (pe_make T.mk_House (ok_House_init T) (hr.mono (by omega)) rfl T.g_House (b_House_init T) .nil passL (pa_cons (pv 3) (pa_cons (pe_callTy list_K (by rfl) T.z_list (by decide +kernel) (pa_cons (pv 5) pa_nil)) pa_nil))) (pa_cons (pe_lc (own := [("one", 20)]) (g := gName 20) (tt := tYes) rfl sc_law.nd (pi_listK (pv 10)) (blkOk_by (own := [("one", 20)]) (N := N_law) (sc := defScope s_law) (by decide +kernel)) (fun _ _ _ _ _ => (pg_name (i := 20) sc_law.nd rfl (Or.inl rfl))) (fun _ _ _ _ _ => pts_nil) (fun _ _ _ _ _ => (pe_callTy list_K (by rfl) T.z_list (by decide +kernel) (pa_cons (pv 20) pa_nil)))) pa_nil))))
        (pss_cons (ps_set (i := 30) sc_law.nd rfl (Or.inl rfl) (pe_make T.mk_Watch (ok_Watch_init T) (hr.mono (by omega)) rfl T.g_Watch (b_Watch_init T) .nil passL (pa_cons (pe_make T.mk_House (ok_House_init T) (hr.mono (by omega)) rfl T.g_House (b_House_init T) .nil passL (pa_cons (pv 3) (pa_cons (pv 26) pa_nil))) (pa_cons (pe_lc (own := [("one", 20)]) (g := gName 20) (tt := tYes) rfl sc_law.nd (pi_listK (pv 10)) (blkOk_by (own := [("one", 20)]) (N := N_law) (sc := defScope s_law) (by decide +kernel)) (fun _ _ _ _ _ => (pg_name (i := 20) sc_law.nd rfl (Or.inl rfl))) (fun _ _ _ _ _ => pts_nil) (fun _ _ _ _ _ => (pe_callTy list_K (by rfl) T.z_list (by decide +kernel) (pa_cons (pv 20) pa_nil)))) pa_nil))))
        (pss_cons (ps_set (i := 31) sc_law.nd rfl (Or.inl rfl) (pe_lst (pa_cons (pe_cmpS (op_ownC (op := .Eq) (E := fun _ => E0) (fun _ _ => rfl) T.M_Watch_eq (ok_Watch_eq T) (hr.mono (by omega)) (b_Watch_eq T) (pAt pass0)) (pv 16) (pv 29) (nomark _)) (pa_cons (pe_cmpS (op_ownC (op := .Eq) (E := fun _ => E0) (fun _ _ => rfl) T.M_Watch_eq (ok_Watch_eq T) (hr.mono (by omega)) (b_Watch_eq T) (pAt pass0)) (pv 29) (pv 16) (nomark _)) (pa_cons (pe_cmpS (op_ownC (op := .Eq) (E := fun _ => E0) (fun _ _ => rfl) T.M_Watch_eq (ok_Watch_eq T) (hr.mono (by omega)) (b_Watch_eq T) (pAt pass0)) (pv 16) (pv 19) (nomark _)) (pa_cons (pe_cmpS (op_ownC (op := .Eq) (E := fun _ => E0) (fun _ _ => rfl) T.M_Watch_eq (ok_Watch_eq T) (hr.mono (by omega)) (b_Watch_eq T) (pAt pass0)) (pv 16) (pv 30) (nomark _)) (pa_cons (pe_cmpS (op_ownC (op := .Eq) (E := fun _ => E0) (fun _ _ => rfl) T.M_Watch_eq (ok_Watch_eq T) (hr.mono (by omega)) (b_Watch_eq T) (pAt pass0)) (pv 16) (pe_prop (pv 16) T.cl_Watch T.P_Watch_rows (ok_Watch_rows T) (hr.mono (by omega)) (b_Watch_rows T) .nil pass0 rfl) (nomark _)) pa_nil)))))))
        (pss_cons (ps_if (PW.pt (pw_or (pt_not (pt_val (pe_call (ok_u_law_same T) (hr.mono (by omega)) rfl T.g_u_law_same T.k_u_law_same (b_u_law_same T) .nil pass0 (pa_cons (pv 31) (pa_cons (pe_lst (pa_cons pe_bl (pa_cons pe_bl (pa_cons pe_bl (pa_cons pe_bl (pa_cons pe_bl pa_nil)))))) pa_nil))))) (pw_or1 (pt_not (pt_val (pe_call (ok_u_law_same T) (hr.mono (by omega)) rfl T.g_u_law_same T.k_u_law_same (b_u_law_same T) .nil pass0 (pa_cons (ClX.pe_cval (pe_glob (v := .ref A.C_Watch) rfl T.g_Watch rfl)) (pa_cons pe_int pa_nil)))))))) (pss_one (ps_ret pe_bl)) pss_nil)
        (pss_cons (ps_if (pt_not (pt_val (pe_call (ok_u_law_same T) (hr.mono (by omega)) rfl T.g_u_law_same T.k_u_law_same (b_u_law_same T) .nil pass0 (pa_cons (pe_lst (pa_cons (pe_cmpS (op_neO (E := fun _ => E0) T.ne_Watch T.M_Watch_eq (ok_Watch_eq T) (hr.mono (by omega)) (b_Watch_eq T) (pAt pass0)) (pv 16) (pv 29) (nomark _)) (pa_cons (pe_cmpS (op_neO (E := fun _ => E0) T.ne_Watch T.M_Watch_eq (ok_Watch_eq T) (hr.mono (by omega)) (b_Watch_eq T) (pAt pass0)) (pv 16) (pv 19) (nomark _)) (pa_cons (pe_cmpS (op_neO (E := fun _ => E0) T.ne_Watch T.M_Watch_eq (ok_Watch_eq T) (hr.mono (by omega)) (b_Watch_eq T) (pAt pass0)) (pv 16) (pv 30) (nomark _)) (pa_cons (pe_cmpS (op_neO (E := fun _ => E0) T.ne_Watch T.M_Watch_eq (ok_Watch_eq T) (hr.mono (by omega)) (b_Watch_eq T) (pAt pass0)) (pv 16) (pe_prop (pv 16) T.cl_Watch T.P_Watch_rows (ok_Watch_rows T) (hr.mono (by omega)) (b_Watch_rows T) .nil pass0 rfl) (nomark _)) pa_nil))))) (pa_cons (pe_lst (pa_cons pe_bl (pa_cons pe_bl (pa_cons pe_bl (pa_cons pe_bl pa_nil))))) pa_nil))))) (pss_one (ps_ret pe_bl)) pss_nil)
        (pss_cons (ps_if (pt_not (pt_val (pe_call (ok_u_law_shows T) (hr.mono (by omega)) rfl T.g_u_law_shows T.k_u_law_shows (b_u_law_shows T) .nil pass0 (pa_cons (pv 16) (pa_cons (pv 6) (pa_cons (pv 10) (pa_cons (pv 11) pa_nil))))))) (pss_one (ps_ret pe_bl)) pss_nil)
        (pss_one (ps_ret (pe_call (ok_u_law_answers T) (hr.mono (by omega)) rfl T.g_u_law_answers T.k_u_law_answers (b_u_law_answers T) .nil pass0 (pa_cons (pv 6) (pa_cons (pv 12) (pa_cons (pv 13) (pa_cons (pv 11) pa_nil)))))))))))))))))))))))))))))))))))))))))))), ?_⟩
    try dsimp only
    refine q_asgR (er_draws (K := K) (ms := [4, 24, 2]) (ev_cell (k := 0) (ev_var rfl) ev_c hS) ev_c (el_lst (ea_cons ev_c (ea_cons ev_c (ea_cons ev_c ea_nil))) (by show 3 ≤ 100000; decide)) (cellA_nn _ _) (by decide) (by decide) (by decide +kernel)) fun v H1 e1 hp => ?_
    obtain ⟨dp, ds, rfl, hd, hD⟩ := hp
    have dl : ds.length = 3 := hD.1
    have d0 : 0 ≤ ds.getD 0 0 ∧ ds.getD 0 0 < 4 := drawn_at hD rfl
    have d1 : 0 ≤ ds.getD 1 0 ∧ ds.getD 1 0 < 24 := drawn_at hD rfl
    clear hD
    have dE : ∀ {σ : L2.St} {G : Hp} {te : TE} {i : Int}, σ[1]? = some (some (.ref dp)) → Ex H1 G → Ev te σ G (.int i) → 0 ≤ i → i < 3 → Ev (tOp (rIxL K) (tVar 1) te) σ G (.int (ds.getD i.toNat 0)) := fun h e he h0 h1 => ev_op (ev_var h) he (rv_ixL (K := K) (sq_of (e _ _ hd)) (atI_ints h0 (by rw [dl]; omega)))
    obtain ⟨m, hm⟩ : ∃ g : Nat, 1 + ds.getD 0 0 = (g : Int) := ⟨(1 + ds.getD 0 0).toNat, by omega⟩
    try dsimp only
    refine q_asg (v := .int (m : Int)) (ev_is (ev_op ev_c (dE rfl (Ex.refl _) ev_c (by decide) (by decide)) rv_I0) (congrArg V.int hm)) fun H2 e2 => ?_
    have hmb : 1 ≤ m ∧ m ≤ 4 := by omega
    obtain ⟨n, hn, hn1, hn2, hmn⟩ : ∃ n : Nat, 1 + ds.getD 1 0 % (if 48 / (m : Int) < 24 then 48 / (m : Int) else 24) = (n : Int) ∧ 1 ≤ n ∧ n ≤ 24 ∧ m * n ≤ 48 := hours_of hmb
    try dsimp only
    refine q_asg (v := .int (n : Int)) (ev_is (ev_op ev_c (ev_op (ev_int (dE rfl e2 ev_c (by decide) (by decide))) (ev_cb (ea_cons ev_c (ea_cons (ev_op ev_c (ev_var (i := 2) rfl) (rv_I (show CDiv 48 (m : Int) from ⟨by omega, by omega⟩))) ea_nil)) fun G e Q q => ⟨24, 48 / (m : Int), rfl, q G (Ex.refl G)⟩) (rv_I (show (0 : Int) < if 48 / (m : Int) < 24 then 48 / (m : Int) else 24 by
      have hmc : m = 1 ∨ m = 2 ∨ m = 3 ∨ m = 4 := by omega
      rcases hmc with rfl | rfl | rfl | rfl <;> decide))) rv_I0) (congrArg V.int hn)) fun H3 e3 => ?_
    clear hn hm d0 d1
    have e13 := e2.trans e3
    have e03 := e1.trans (e2.trans e3)
    have c12 : ∀ {σ : L2.St} {G : Hp}, Ev (tOp (rI CPow fun i j => V.int (i ^ j.toNat)) (tC (.int 10)) (tC (.int 12))) σ G (.int (10 ^ 12)) := ev_op ev_c ev_c (rv_I (show CPow 10 12 from ⟨by decide, by decide, by decide⟩))
    try dsimp only
    refine q_asgR (er_draws (K := K) (ms := [10 ^ 12, 10 ^ 12, 10 ^ 12, 10 ^ 12]) (ev_cell (k := 1) (ev_var rfl) ev_c (ex_l e03 hS)) ev_c (el_lst (ea_cons c12 (ea_cons c12 (ea_cons c12 (ea_cons c12 ea_nil)))) (by show 4 ≤ 100000; decide)) (cellA_nn _ _) (by decide) (by decide) (by decide +kernel)) fun v H4 e4 hp => ?_
    obtain ⟨np, nums, rfl, hnu, hDn⟩ := hp
    have nl : nums.length = 4 := hDn.1
    clear hDn
    have e04 := e03.trans e4
    try dsimp only
    refine q_asgR (er_gatesD (K := K) (m := m) (ns := nums.take m) (el_isW (el_sl (ev_var (i := 4) rfl) eo_none (eo_some (ev_var (i := 2) rfl)) (sq_of hnu)) (cut_upto (by omega))) ((er_draws (K := K) (ms := [61, 61, 61, 61]) (ev_cell (k := 2) (ev_var rfl) ev_c (ex_l e04 hS)) ev_c (el_lst (ea_cons ev_c (ea_cons ev_c (ea_cons ev_c (ea_cons ev_c ea_nil)))) (by show 4 ≤ 100000; decide)) (cellA_nn _ _) (by decide) (by decide) (by decide +kernel)).imp fun v G ⟨p, ss, z1, z2, z3⟩ => ⟨p, ss, z1, sq_of z2, by rw [z3.1]; exact hmb.2, fun s hs => by
      obtain ⟨i, hi, rfl⟩ := List.getElem_of_mem hs
      have hi4 : i < 4 := by have := z3.1; simp at this; omega
      have : i = 0 ∨ i = 1 ∨ i = 2 ∨ i = 3 := by omega
      have e : ss.getD i 0 = ss[i] := by rw [List.getD_eq_getElem?_getD, List.getElem?_eq_getElem hi]; rfl
      rw [← e]
      rcases this with rfl | rfl | rfl | rfl
      · have := drawn_at z3 (i := 0) (m := 61) rfl; omega
      · have := drawn_at z3 (i := 1) (m := 61) rfl; omega
      · have := drawn_at z3 (i := 2) (m := 61) rfl; omega
      · have := drawn_at z3 (i := 3) (m := 61) rfl; omega⟩) (by rw [List.length_take]; omega) (by omega)) fun v H5 e5 hv => ?_
    obtain ⟨gp, gs, rfl, hG, hgg⟩ := hv
    obtain rfl := hgg.len
    have wds : ∀ g ∈ gs, Word g.1 := fun g hg => (hgg.all g hg).1
    try dsimp only
    refine q_asgR (er_houseE (K := K) (A := A) (n := n) (gs := gs) (ev_var (i := 3) rfl) (er_copyG (K := K) (ev_var (i := 5) rfl) hG) hgg ⟨hn1, hn2⟩ hmb hmn) fun hv H6 e6 hh => ?_
    have e06 := (e04.trans e5).trans e6
    have e16 := ((e13.trans e4).trans e5).trans e6
    have npos : (0 : Int) < (n : Int) := by omega
    have mpos : (0 : Int) < (gs.length : Int) := by omega
    have mnE : ∀ {σ : L2.St} {G : Hp}, σ[2]? = some (some (.int (gs.length : Int))) → σ[3]? = some (some (.int (n : Int))) → Ev (tOp (rI CMul fun i j => V.int (i * j)) (tVar 2) (tVar 3)) σ G (.int ((gs.length * n : Nat) : Int)) := fun h1 h2 => ev_is (ev_op (ev_var h1) (ev_var h2) (rv_I (show CMul (gs.length : Int) (n : Int) from .inl ⟨by omega, by omega⟩))) (congrArg V.int (by rw [Int.natCast_mul]))
    have mbig : ∀ x ∈ List.replicate (gs.length * n) (97 : Int), 1 ≤ x ∧ x.natAbs < 2 ^ 1000 := fun x hx => by
      rw [(List.mem_replicate.mp hx).2]
      decide +kernel
    try dsimp only
    refine q_asgR (er_draws (K := K) (ms := List.replicate (gs.length * n) 97) (ev_cell (k := 3) (ev_var rfl) ev_c (ex_l e06 hS)) ev_c (el_isW (el_rngY (n := gs.length * n) (fun _ => V.int 97) (ea_cons (mnE rfl rfl) ea_nil) (by omega) (fun x => rfl) fun i G hi e => ev_c) (by rw [List.map_replicate, List.map_const', List.length_range])) (cellA_nn _ _) (by decide) (by rw [List.length_replicate]; omega) mbig) fun v H7 e7 hp => ?_
    obtain ⟨sp0, ss0, rfl, hs0, hD0⟩ := hp
    have e07 := e06.trans e7
    have e17 := e16.trans e7
    obtain ⟨f, hf⟩ : ∃ f : Int → Int, f = fun x => ([0, 1, 95, 96] : List Int).getD (x % 4).toNat 0 := ⟨_, rfl⟩
    have fb : ∀ x, 0 ≤ f x ∧ f x < 97 := fun x => by
      rw [hf]
      have : (x % 4).toNat = 0 ∨ (x % 4).toNat = 1 ∨ (x % 4).toNat = 2 ∨ (x % 4).toNat = 3 := by omega
      show 0 ≤ ([0, 1, 95, 96] : List Int).getD (x % 4).toNat 0 ∧ ([0, 1, 95, 96] : List Int).getD (x % 4).toNat 0 < 97
      rcases this with e | e | e | e <;> rw [e] <;> decide
    have s0l : ss0.length = gs.length * n := by rw [hD0.1, List.length_replicate]
    refine at_st (σ' := [some (.ref sa), some (.ref dp), some (.int (gs.length : Int)), some (.int (n : Int)), some (.ref np), some (.ref gp), some hv, some (.ref sp0), none, none, none, none, none, none, none, none, none, none, none, none, none, none, none, none, none, none, none, none, none, none, none, none]) rfl ?_
    
    try dsimp only
    refine q_alt (b := decide (ds.getD 2 0 = 1)) (M := fun σ' G => ∃ (sp : Addr) (ss : List Int), σ' = [some (.ref sa), some (.ref dp), some (.int (gs.length : Int)), some (.int (n : Int)), some (.ref np), some (.ref gp), some hv, some (.ref sp), none, none, none, none, none, none, none, none, none, none, none, none, none, none, none, none, none, none, none, none, none, none, none, none] ∧ Ex H7 G ∧ G sp = some (.lst (ss.map V.int)) ∧ Drawn (List.replicate (gs.length * n) 97) ss) (et_test (ev_is (ev_op (dE rfl e17 ev_c (by decide) (by decide)) ev_c (rv_eq rfl)) (by rw [dec_ii]; rfl))) (fun hb G g W hW => ?_) (fun hb G g => ⟨sp0, ss0, rfl, g, g _ _ hs0, hD0⟩) fun σ' G7 hMs => ?_
    · try dsimp only
      refine s_asgL (xs := (ss0.map f).map V.int) (el_mapA (K := K) ss0 f (ev_var (i := 7) rfl) (sq_of (g _ _ hs0)) (by omega) (fun x => rfl) fun x G' e' hx' => by
        rw [hf]
        exact ev_ixl (K := K) (xs := [0, 1, 95, 96]) (el_lst (ea_cons ev_c (ea_cons ev_c (ea_cons ev_c (ea_cons ev_c ea_nil)))) (by show 4 ≤ 100000; decide)) (ev_op (ev_int (ev_var (i := 9) rfl)) ev_c (rv_I (show (0 : Int) < 4 by decide))) ⟨by omega, by show _ % (4 : Int) < 4; omega⟩) fun sp1 G1 _ g1 h1 => hW _ _ ⟨sp1, ss0.map f, rfl, g.trans g1, h1, by rw [List.length_map]; exact hD0.1, fun i z hz => ?_⟩
      obtain ⟨d, h2, _⟩ := hD0.2 i z hz
      have hz97 := (List.mem_replicate.mp (List.mem_of_getElem? hz)).2
      exact ⟨f d, by rw [List.getElem?_map, h2]; rfl, by rw [hz97]; exact fb d⟩
    obtain ⟨sp, ss, rfl, eG, hsp, hDs⟩ := hMs
    clear hs0 hD0 fb hf s0l
    have e0G := e07.trans eG
    try dsimp only
    refine q_asgR (er_lawRows (K := K) (m := gs.length) (n := n) (ms := List.replicate (gs.length * n) 97) (ev_var (i := 2) rfl) (ev_var (i := 3) rfl) (er_ev (ev_var (i := 7) rfl) fun G e => ⟨sp, ss, rfl, e _ _ hsp, hDs⟩) (by rw [List.length_replicate]; exact Nat.le_refl _) (by omega) (by omega)) fun v H8 e8 hq => ?_
    obtain ⟨rp, qs, rfl, hM, hql, hqs⟩ := hq
    have hXS : Shape (n : Int) gs.length (qs.map (·.2)) := ⟨by rw [List.length_map]; exact hql, fun xs hx => by
      obtain ⟨q, hm, rfl⟩ := List.mem_map.mp hx
      rw [(hqs q hm).1], fun xs hx y hy => by
      obtain ⟨q, hm, rfl⟩ := List.mem_map.mp hx
      obtain ⟨i, z, h1, h2, h3⟩ := (hqs q hm).2 y hy
      rw [(List.mem_replicate.mp (List.mem_of_getElem? h1)).2] at h3
      omega⟩
    have hRX : RowsL K H8 rp (qs.map (·.2)) := hM.rows
    clear hM hqs hql hsp hDs mbig mnE
    generalize qs.map (·.2) = xss at *
    have xl := hXS.len
    have xr := hXS.row'
    have e08 := e0G.trans e8
    have c57 : ∀ {σ : L2.St} {G : Hp}, Ev (tOp (rI CPow fun i j => V.int (i ^ j.toNat)) (tC (.int 10)) (tC (.int 57))) σ G (.int (10 ^ 57)) := ev_op ev_c ev_c (rv_I (show CPow 10 57 from ⟨by decide, by decide, by decide⟩))
    try dsimp only
    refine q_asgR (er_draws (K := K) (ms := [10 ^ 57, 10 ^ 57]) (ev_cell (k := 4) (ev_var rfl) ev_c (ex_l e08 hS)) ev_c (el_lst (ea_cons c57 (ea_cons c57 ea_nil)) (by show 2 ≤ 100000; decide)) (cellA_nn _ _) (by decide) (by decide) (by decide +kernel)) fun v H9 e9 hp => ?_
    obtain ⟨lp, ls, rfl, hlq, hDl⟩ := hp
    obtain ⟨l0, l1, rfl, hl0, hl1⟩ : ∃ l0 l1 : Int, ls = [l0, l1] ∧ 0 ≤ l0 ∧ 0 ≤ l1 := by
      have h2 : ls.length = 2 := hDl.1
      match ls, h2, hDl with
      | [x, y], _, hD => exact ⟨x, y, rfl, (drawn_at hD (i := 0) (m := 10 ^ 57) rfl).1, (drawn_at hD (i := 1) (m := 10 ^ 57) rfl).1⟩
    clear hDl c57
    have e09 := e08.trans e9
    refine at_st (σ' := [some (.ref sa), some (.ref dp), some (.int (gs.length : Int)), some (.int (n : Int)), some (.ref np), some (.ref gp), some hv, some (.ref sp), none, none, some (.ref rp), some (.ref lp), none, none, none, none, none, none, none, none, none, none, none, none, none, none, none, none, none, none, none, none]) rfl ?_
    
    try dsimp only
    refine q_asgR (er_badRows (K := K) (n := n) (m := gs.length) (xss := xss) (ev_var (i := 10) rfl) (ev_var (i := 3) rfl) (er_draws (K := K) (ms := [12, 4, 24, 4, 24, 4, 4, 10 ^ 60]) (ev_cell (k := 5) (ev_var rfl) ev_c (ex_l e09 hS)) ev_c (el_lst (ea_cons ev_c (ea_cons ev_c (ea_cons ev_c (ea_cons ev_c (ea_cons ev_c (ea_cons ev_c (ea_cons ev_c (ea_cons (ev_op ev_c ev_c (rv_I (show CPow 10 60 from ⟨by decide, by decide, by decide⟩))) ea_nil)))))))) (by show 8 ≤ 100000; decide)) (cellA_nn _ _) (by decide) (by decide) (by decide +kernel)) (hRX.ex e9) xl xr hmb ⟨hn1, hn2⟩) fun v H10 e10 hv' => ?_
    obtain ⟨bp, zss, rfl, hRB, zl, zx⟩ := hv'
    try dsimp only
    refine q_asgR (er_call (P := fun v G => Dp K G v (dueW (watchErr n gs.length zss))) (vs := [.ref bp, .int (gs.length : Int), .int (n : Int)]) (ea_cons (ev_var (i := 12) rfl) (ea_cons (ev_var (i := 2) rfl) (ea_cons (ev_var (i := 3) rfl) ea_nil))) fun H' e' Q q => ⟨bp, gs.length, n, zss, rfl, hRB.ex e', zl, zx, fun v H'' e'' hv => q v H'' e'' hv⟩) fun dv H11 e11 hdv => ?_
    have e811 := (e9.trans e10).trans e11
    have e611 := ((e7.trans eG).trans e8).trans e811
    have hh11 := hh.ex e611
    have hRX11 := hRX.ex e811
    have hlq11 := (e10.trans e11) _ _ hlq
    have hRB11 := hRB.ex e11
    have hS11 := ex_l (e08.trans e811) hS
    have hG11 := hG.ex (e6.trans e611)
    clear hh hRX hlq hRB hS hG hd hnu dE
    have ansE : ∀ {σ : L2.St} {G : Hp}, σ[6]? = some (some hv) → σ[12]? = some (some (.ref bp)) → σ[13]? = some (some dv) → σ[11]? = some (some (.ref lp)) → Ex H11 G → Ev (tCall (spAnsW K A) [] E0 (tCons (tVar 6) (tCons (tVar 12) (tCons (tVar 13) (tCons (tVar 11) tNil))))) σ G (.bl true) := fun s6 s12 s13 s11 e => ev_call (ea_cons (ev_var s6) (ea_cons (ev_var s12) (ea_cons (ev_var s13) (ea_cons (ev_var s11) ea_nil)))) fun H2 e2 Q q _ =>
      ⟨hv, dv, bp, lp, n, gs, zss, l0, l1, rfl, hh11.ex (e.trans e2), wds, hmb, ⟨hn1, hn2⟩, hRB11.ex (e.trans e2), zl, zx, dp_ex (e.trans e2) hdv, sq_of ((e.trans e2) _ _ hlq11), ⟨hl0, hl1⟩, fun H' e' => q H' e'⟩
    refine at_st (σ' := [some (.ref sa), some (.ref dp), some (.int (gs.length : Int)), some (.int (n : Int)), some (.ref np), some (.ref gp), some hv, some (.ref sp), none, none, some (.ref rp), some (.ref lp), some (.ref bp), some dv, none, none, none, none, none, none, none, none, none, none, none, none, none, none, none, none, none, none]) rfl ?_
    
    try dsimp only
    refine q_skip (et_notT (et_B (ansE rfl rfl rfl rfl (Ex.refl _)))) fun H12 e12 => ?_
    try dsimp only
    refine q_asgXN (en_mapX (K := K) (fun xs => xs) (ev_var (i := 10) rfl) (hRX11.ex e12) (by omega) (fun x => rfl) fun t xs H1' e hx ht => en_copyR (ev_var (i := 15) rfl) ht) fun v H13 e13' hv' => ?_
    obtain ⟨hp, rfl, hF⟩ := fresh_rows hv' (List.length_map _)
    rw [List.map_id'] at hF
    try dsimp only
    refine q_asgR (en_watchH (K := K) (A := A) (n := n) (gs := gs) (xss := xss) (ev_var (i := 6) rfl) (er_ev (ev_var (i := 14) rfl) fun G e => ⟨hp, rfl, (hF.ex e).rows⟩) (hh11.ex (e12.trans e13')) (by omega) hXS ⟨by omega, by omega⟩) fun wv H14 e14 hW => ?_
    have e1114 := (e12.trans e13').trans e14
    have hF14 := hF.ex e14
    have shE : ∀ {σ : L2.St} {G : Hp} {i : Nat} {w h : V}, σ[i]? = some (some w) → σ[6]? = some (some hv) → σ[10]? = some (some (.ref rp)) → σ[11]? = some (some (.ref lp)) → Ex H11 G → WatchOk K A w G h n gs xss → Ev (tCall (spShowsW K A) [] E0 (tCons (tVar i) (tCons (tVar 6) (tCons (tVar 10) (tCons (tVar 11) tNil))))) σ G (.bl true) := fun si s6 s10 s11 e W => ev_showsW (K := K) (A := A) (er_ev (ev_var si) fun G e' => ⟨_, W.ex e'⟩) (ev_var s6) (er_ev (ev_var s10) fun G e' => ⟨rp, rfl, hRX11.ex (e.trans e')⟩) (ev_var s11) (hh11.ex e) wds hmb hn2 (sq_of (e _ _ hlq11)) ⟨hl0, hl1⟩
    refine at_st (σ' := [some (.ref sa), some (.ref dp), some (.int (gs.length : Int)), some (.int (n : Int)), some (.ref np), some (.ref gp), some hv, some (.ref sp), none, none, some (.ref rp), some (.ref lp), some (.ref bp), some dv, some (.ref hp), none, some wv, none, none, none, none, none, none, none, none, none, none, none, none, none, none, none]) rfl ?_
    
    try dsimp only
    refine q_skip (et_orF (et_test (ev_op (ev_var (i := 14) rfl) (ev_var (i := 10) rfl) (rv_neRows (K := K) hF14.rows (hRX11.ex e1114)))) (et_notT (et_B (shE rfl rfl rfl rfl e1114 hW)))) fun H15 e15 => ?_
    have e1115 := e1114.trans e15
    have hF15 := hF14.ex e15
    have hW15 := hW.ex e15
    clear hW hF hF14
    try dsimp only
    refine q_asgR (er_drawsF (K := K) (ms := [4, 4, 4, 24, 96]) (ev_cell (k := 6) (ev_var rfl) ev_c (ex_l e1115 hS11)) ev_c (el_lst (ea_cons ev_c (ea_cons ev_c (ea_cons ev_c (ea_cons ev_c (ea_cons ev_c ea_nil))))) (by show 5 ≤ 100000; decide)) (cellA_nn _ _) (by decide) (by decide) (by decide +kernel)) fun v H16 e16' hp' => ?_
    obtain ⟨wp, ws, rfl, hwp, hw, hDw⟩ := hp'
    have wl : ws.length = 5 := hDw.1
    have w2 : 0 ≤ ws.getD 2 0 ∧ ws.getD 2 0 < 4 := drawn_at hDw rfl
    have w4 : 0 ≤ ws.getD 4 0 ∧ ws.getD 4 0 < 96 := drawn_at hDw rfl
    clear hDw
    have wE : ∀ {σ : L2.St} {G : Hp} {te : TE} {i : Int}, σ[17]? = some (some (.ref wp)) → G wp = some (.lst (ws.map V.int)) → Ev te σ G (.int i) → 0 ≤ i → i < 5 → Ev (tOp (rIxL K) (tVar 17) te) σ G (.int (ws.getD i.toNat 0)) := fun h hg he h0 h1 => ev_op (ev_var h) he (rv_ixL (K := K) (sq_of hg) (atI_ints h0 (by rw [wl]; omega)))
    have a0 := Int.emod_nonneg (ws.getD 1 0) (b := (gs.length : Int)) (by omega)
    have a1 := Int.emod_lt_of_pos (ws.getD 1 0) mpos
    have b0 := Int.emod_nonneg (ws.getD 3 0) (b := (n : Int)) (by omega)
    have b1 := Int.emod_lt_of_pos (ws.getD 3 0) npos
    generalize hai : ws.getD 1 0 % (gs.length : Int) = az at *
    generalize hbi : ws.getD 3 0 % (n : Int) = bz at *
    obtain ⟨ai, rfl⟩ := Int.eq_ofNat_of_zero_le a0
    obtain ⟨bi, rfl⟩ := Int.eq_ofNat_of_zero_le b0
    have aiE : ∀ {σ : L2.St} {G : Hp}, σ[17]? = some (some (.ref wp)) → σ[2]? = some (some (.int (gs.length : Int))) → G wp = some (.lst (ws.map V.int)) → Ev (tOp (rI (fun x j => 0 < j) fun i j => V.int (i % j)) (tCB (fun xs H Q => (∃ i, xs = [V.int i] ∧ Q (V.int i) H) ∨ ∃ k, xs = [V.bl k] ∧ Q (V.int (if k = true then 1 else 0)) H) (tCons (tOp (rIxL K) (tVar 17) (tC (.int 1))) tNil)) (tVar 2)) σ G (.int (ai : Int)) := fun s17 s2 hg => ev_is (ev_op (ev_int (wE s17 hg ev_c (by decide) (by decide))) (ev_var s2) (rv_I mpos)) (congrArg V.int hai)
    obtain ⟨hp0, vs, hvs, hvl, hall⟩ := hF15.ex e16'
    have vi : vs[ai]? = some vs[ai] := List.getElem?_eq_getElem (by omega)
    obtain ⟨tr, htr, htr0, hT⟩ := hall ai _ vi
    rw [htr] at vi
    have rl : (xss.getD ai []).length = n := xr _ (in_getD (by omega))
    have xb := hXS.val _ (in_getD (d := []) (show ai < xss.length by omega)) _ (in_getD (d := 0) (show bi < (xss.getD ai []).length by omega))
    have xat : ((xss.getD ai []).map V.int)[bi]? = some (.int ((xss.getD ai []).getD bi 0)) := by
      rw [List.getElem?_map, List.getD_eq_getElem?_getD (l := xss.getD ai []), List.getElem?_eq_getElem (by omega)]
      rfl
    obtain ⟨w0, hw0, hw1, hw2, hw3⟩ : ∃ w0 : Int, ((xss.getD ai []).getD bi 0 + 1 + ws.getD 4 0) % 97 = w0 ∧ 0 ≤ w0 ∧ w0 ≤ 96 ∧ w0 ≠ (xss.getD ai []).getD bi 0 := ⟨_, rfl, by omega, by omega, by omega⟩
    have wtr : wp ≠ tr := fun z => by
      obtain ⟨_, vs', hvs', _, hall'⟩ := hF15
      have e1 : vs' = vs := by have := e16' _ _ hvs'; rw [hvs] at this; cases this; rfl
      subst e1
      obtain ⟨t', ht', _, hT'⟩ := hall' ai _ vi
      cases ht'
      rw [← z, hwp] at hT'
      cases hT'
    have whp : wp ≠ hp := fun z => by
      obtain ⟨_, vs', hvs', _⟩ := hF15
      rw [← z, hwp] at hvs'
      cases hvs'
    refine at_st (σ' := [some (.ref sa), some (.ref dp), some (.int (gs.length : Int)), some (.int (n : Int)), some (.ref np), some (.ref gp), some hv, some (.ref sp), none, none, some (.ref rp), some (.ref lp), some (.ref bp), some dv, some (.ref hp), none, some wv, some (.ref wp), none, none, none, none, none, none, none, none, none, none, none, none, none, none]) rfl ?_
    
    try dsimp only
    refine q_asg (v := .ref tr) (ev_op (ev_var (i := 14) rfl) (aiE rfl rfl hw) (rv_ixL (K := K) (sq_of hvs) (atI_nat vi))) fun H17 e17' => ?_
    try dsimp only
    refine q_asg (v := .int (bi : Int)) (ev_is (ev_op (ev_int (wE rfl (e17' _ _ hw) ev_c (by decide) (by decide))) (ev_var (i := 3) rfl) (rv_I npos)) (congrArg V.int hbi)) fun H18 e18 => ?_
    have e1618 := e17'.trans e18
    have hT18 := e1618 _ _ hT
    try dsimp only
    refine q_setL (l := tr) (xs := (xss.getD ai []).map V.int) (j := bi) (v := .int w0) hT18 (ev_is (ev_op (ev_int (ev_op (ev_op (ev_op (ev_var (i := 15) rfl) (ev_var (i := 18) rfl) (rv_ixL (K := K) (sq_of hT18) (atI_nat xat))) ev_c rv_I0) (wE rfl (e1618 _ _ hw) ev_c (by decide) (by decide)) rv_I0)) ev_c (rv_I (show (0 : Int) < 97 by decide))) (congrArg V.int hw0)) (ev_var (i := 15) rfl) (ev_var (i := 18) rfl) (by rw [List.length_map]; omega) fun H19 e19 => ?_
    have e1619 := e1618.trans e19
    obtain ⟨yss, hFY, hYS, hyx⟩ := fresh_cell (H0 := H12) (G := H19) (w0 := w0) hp0 (e1619 _ _ hvs) hvl (fun i v hv => (hall i v hv).imp fun t ht => ⟨ht.1, ht.2.1, e1619 _ _ ht.2.2⟩) hXS hmb.1 hn1 (by omega) (by omega) vi ⟨hw1, hw2⟩ hw3
    rw [← List.map_set (f := V.int)] at *
    have hWm : WatchOk K A wv (upd H19 tr (.lst (((xss.getD ai []).set bi w0).map V.int))) hv n gs xss := (hW15.ex (e16'.trans e1619)).mut (e1619 _ _ hT)
    have hwm : upd H19 tr (.lst (((xss.getD ai []).set bi w0).map V.int)) wp = some (.lst (ws.map V.int)) := by rw [upd_ne wtr]; exact e1619 _ _ hw
    have eM : Ex H11 (upd H19 tr (.lst (((xss.getD ai []).set bi w0).map V.int))) := e12.trans (Ex.mut ((((e13'.trans e14).trans e15).trans e16').trans e1619) htr0)
    generalize upd H19 tr (.lst (((xss.getD ai []).set bi w0).map V.int)) = G0 at *
    clear hW15 hF15 hall hvs hT hT18 xat hw hv'
    refine at_st (σ' := [some (.ref sa), some (.ref dp), some (.int (gs.length : Int)), some (.int (n : Int)), some (.ref np), some (.ref gp), some hv, some (.ref sp), none, none, some (.ref rp), some (.ref lp), some (.ref bp), some dv, some (.ref hp), some (.ref tr), some wv, some (.ref wp), some (.int (bi : Int)), none, none, none, none, none, none, none, none, none, none, none, none, none]) rfl ?_
    
    try dsimp only
    refine q_asgR (en_watchH (K := K) (A := A) (n := n) (gs := gs) (xss := yss) (ev_var (i := 6) rfl) (EvR.imp (er_mapR (K := K) (fun xs => xs) (ev_var (i := 14) rfl) hFY.rows (by have := hYS.len; omega) (fun x => rfl) fun t xs H1' e hx ht => en_copyR (ev_var (i := 20) rfl) ht).er fun v G hv => by rw [List.map_id'] at hv; exact hv) (hh11.ex eM) (by omega) hYS ⟨by omega, by omega⟩) fun ov G1 g1 hO => ?_
    try dsimp only
    refine q_skip (et_notT (et_B (ev_showsW (K := K) (A := A) (xss := yss) (er_ev (ev_var (i := 19) rfl) fun G e' => ⟨hv, hO.ex e'⟩) (ev_var (i := 6) rfl) (EvR.imp (er_mapR (K := K) (fun xs => xs) (ev_var (i := 14) rfl) (hFY.rows.ex g1) (by have := hYS.len; omega) (fun x => rfl) fun t xs H1' e hx ht => en_copyR (ev_var (i := 20) rfl) ht).er fun v G hv => by rw [List.map_id'] at hv; exact hv) (ev_var (i := 11) rfl) (hh11.ex (eM.trans g1)) wds hmb hn2 (sq_of ((eM.trans g1) _ _ hlq11)) ⟨hl0, hl1⟩))) fun G2 g2 => ?_
    obtain ⟨_, vs2, hvs2, hvl2, _⟩ := hFY.ex (g1.trans g2)
    try dsimp only
    refine q_pop hvs2 (ev_var (i := 14) rfl) (by have := hYS.len; omega) fun G3 g3 => ?_
    have g03 := (g1.trans g2).trans g3
    have hWp : WatchOk K A wv (upd G3 hp (.lst vs2.dropLast)) hv n gs xss := (hWm.ex g03).mut (g3 _ _ hvs2)
    have hOp : WatchOk K A ov (upd G3 hp (.lst vs2.dropLast)) hv n gs yss := (hO.ex (g2.trans g3)).mut (g3 _ _ hvs2)
    have hwp2 : upd G3 hp (.lst vs2.dropLast) wp = some (.lst (ws.map V.int)) := by rw [upd_ne whp]; exact g03 _ _ hwm
    have hp11 : H11 hp = none := fresh_back e12 hp0
    have eP : Ex H11 (upd G3 hp (.lst vs2.dropLast)) := Ex.mut (eM.trans g03) hp11
    clear hvs2
    generalize upd G3 hp (.lst vs2.dropLast) = P0 at *
    clear hWm hO hwm hFY eM
    refine at_st (σ' := [some (.ref sa), some (.ref dp), some (.int (gs.length : Int)), some (.int (n : Int)), some (.ref np), some (.ref gp), some hv, some (.ref sp), none, none, some (.ref rp), some (.ref lp), some (.ref bp), some dv, some (.ref hp), some (.ref tr), some wv, some (.ref wp), some (.int (bi : Int)), some ov, none, none, none, none, none, none, none, none, none, none, none, none]) rfl ?_
    
    try dsimp only
    refine q_skip (et_notT (et_B (shE rfl rfl rfl rfl eP hWp))) fun P1 p1 => ?_
    have eP1 := eP.trans p1
    try dsimp only
    refine q_asgVia (er_drawsM (K := K) (N := gs.length) (ev_cell (k := 7) (ev_var rfl) ev_c (ex_l eP1 hS11)) ev_c ((en_lcR1 (n := (gs.length : Int)) (fun i w G => ∃ z : Int, w = .int z ∧ 1 ≤ z ∧ z ≤ 33554432) (ea_cons (ev_var (i := 2) rfl) ea_nil) (by omega) (fun x => rfl) fun i G e hi => en_two (ev_var (i := 3) rfl) (by omega)).er.imp fun v G hv => by
      obtain ⟨q, us, rfl, z1, z2, z3⟩ := hv
      obtain ⟨ms, rfl, ml, mb⟩ := ints_pick us fun v hv => by
        obtain ⟨i, hi⟩ := List.getElem?_of_mem hv
        exact z3 i v hi
      exact ⟨q, ms, rfl, z1, by rw [ml, z2, Int.toNat_natCast], mb⟩) (cellA_nn _ _) (by decide) (by omega)) fun v P2 p2 hp' => ?_
    obtain ⟨nq, nus, rfl, hnq, nul⟩ := hp'
    try dsimp only
    refine q_asgR (en_lc (fun i w G => ∃ (p : Addr) (xs : List Int), w = .ref p ∧ G p = some (.lst (xs.map V.int)) ∧ Asc 0 (n : Int) xs) (ei_list (K := K) (eb_ev ev_c fun G e => ⟨nq, rfl, sq_of (e _ _ hnq)⟩)) (by rw [List.length_map]; omega) bd_at (fun i _ => rfl) (fun i H3 hi e3 => ?_)).er fun v P3 p3 hv' => ?_
    · have ni : (nus.map V.int)[i]? = some (.int (nus.getD i 0)) := by
        rw [List.length_map] at hi
        rw [List.getElem?_map, List.getD_eq_getElem?_getD, List.getElem?_eq_getElem hi]
        rfl
      rw [ni]
      exact en_bits (ev_var (i := 3) rfl) (ev_var (i := 23) rfl) (by omega)
    obtain ⟨mq, us, rfl, hmq, usl, husa⟩ := hv'
    obtain ⟨mss, hRM, msl, hAs⟩ := rows_pick (K := K) (P := fun xs => Asc 0 (n : Int) xs) hmq fun v hv => by
      obtain ⟨i, hi⟩ := List.getElem?_of_mem hv
      exact husa i v hi
    have ml : mss.length = gs.length := by rw [msl, usl, List.length_map, nul]
    have p03 := (p1.trans p2).trans p3
    have eP3 := eP.trans p03
    clear husa hmq usl msl hnq nul
    refine at_st (σ' := [some (.ref sa), some (.ref dp), some (.int (gs.length : Int)), some (.int (n : Int)), some (.ref np), some (.ref gp), some hv, some (.ref sp), none, none, some (.ref rp), some (.ref lp), some (.ref bp), some dv, some (.ref hp), some (.ref tr), some wv, some (.ref wp), some (.int (bi : Int)), some ov, none, some (.ref mq), none, none, none, none, none, none, none, none, none, none]) rfl ?_
    
    try dsimp only
    refine q_skip (et_notT (et_B (ev_call (ea_cons (ev_var (i := 6) rfl) (ea_cons (ev_var (i := 3) rfl) (ea_cons (ev_var (i := 21) rfl) (ea_cons (ev_var (i := 17) rfl) (ea_cons (ev_var (i := 11) rfl) ea_nil))))) fun H2 e Q q _ => ⟨hv, mq, wp, lp, n, gs, mss, ws, l0, l1, rfl, hh11.ex (eP3.trans e), wds, hmb, ⟨hn1, hn2⟩, hRM.ex e, ml, hAs, sq_of ((p03.trans e) _ _ hwp2), wl, w2, sq_of ((eP3.trans e) _ _ hlq11), ⟨hl0, hl1⟩, fun H' e' => q H' e'⟩))) fun P4 p4 => ?_
    have eP4 := eP3.trans p4
    try dsimp only
    refine q_asgR (en_lcR1 (n := (gs.length : Int)) (fun i w G => ∃ t, w = .ref t ∧ G t = some (.lst (((zeroR n gs.length).getD i []).map V.int))) (ea_cons (ev_var (i := 2) rfl) ea_nil) (by omega) (fun x => rfl) fun i G e hi => en_L (el_isW (el_rngY (n := n) (fun _ => V.int 0) (ea_cons (ev_var (i := 3) rfl) ea_nil) (by omega) (fun x => rfl) fun j G2 hj e2 => ev_c) (by
      unfold zeroR
      rw [List.getD_eq_getElem?_getD, List.getElem?_replicate, if_pos (by omega), Option.getD_some, List.map_replicate, List.map_const', List.length_range]))).er fun zv P5 p5 ht => ?_
    rw [Int.toNat_natCast] at ht
    obtain ⟨zp, rfl, hRZ⟩ := rows_of (K := K) ht (by simp [zeroR])
    clear ht
    have eP5 := eP4.trans p5
    refine at_st (σ' := [some (.ref sa), some (.ref dp), some (.int (gs.length : Int)), some (.int (n : Int)), some (.ref np), some (.ref gp), some hv, some (.ref sp), none, none, some (.ref rp), some (.ref lp), some (.ref bp), some dv, some (.ref hp), some (.ref tr), some wv, some (.ref wp), some (.int (bi : Int)), some ov, none, some (.ref mq), none, none, some (.ref zp), none, none, none, none, none, none, none]) rfl ?_
    
    try dsimp only
    refine q_skip (et_orF (et_notT (et_B (ev_same (d := .list ((zeroR n gs.length).map fun xs : List Int => PyData.list (xs.map PyData.int))) (EvR.imp (er_rowsE (K := K) (A := A) (er_emptyE (K := K) (A := A) (ev_var (i := 6) rfl) (hh11.ex eP5) (by omega) ⟨by omega, by omega⟩)) fun v G ⟨q, z1, z2, _⟩ => by rw [z1]; exact z2.dp) (er_ev (ev_var (i := 24) rfl) fun G e => (hRZ.ex e).dp) (flat_rowsB (by have := (zero_shape (n := n) (m := gs.length)).len; omega) fun xs hx => by have := (zero_shape (n := n) (m := gs.length)).row' _ hx; omega)))) (et_notT (et_B (ev_same (d := .bool true) (ed_bl (ev_wEq (K := K) (A := A) (b := true) T.ty_Watch T.si_list (er_emptyE (K := K) (A := A) (ev_var (i := 6) rfl) (hh11.ex eP5) (by omega) ⟨by omega, by omega⟩) wds (EvR.imp (en_watchH (K := K) (A := A) (n := n) (gs := gs) (xss := zeroR n gs.length) (ev_var (i := 6) rfl) (er_ev (ev_var (i := 24) rfl) fun G e => ⟨zp, rfl, hRZ.ex e⟩) (hh11.ex eP5) (by omega) zero_shape ⟨by omega, by omega⟩) fun v G q => .inl ⟨hv, n, gs, _, q, wds, decide_eq_true ⟨⟨rfl, rfl⟩, rfl⟩⟩))) (ed_bl ev_c) True.intro)))) fun P6 p6 => ?_
    have eP6 := eP5.trans p6
    have p06 := p03.trans ((p4.trans p5).trans p6)
    have hW6 := hWp.ex p06
    have hO6 := hOp.ex p06
    have hw6 := p06 _ _ hwp2
    have hG6 := hG11.ex eP6
    have hRX6 := hRX11.ex eP6
    clear hWp hOp hwp2 hRZ hRM
    obtain ⟨gvs, hgv, hgl, hga⟩ := id hG6.all
    have gat : ∀ {i : Nat}, i < gs.length → ∃ t, gvs[i]? = some (.ref t) ∧ SqT K P6 t [.str (gs.getD i ("", 0)).1, .int (gs.getD i ("", 0)).2] := fun {i} hi => by
      have e : gvs[i]? = some gvs[i] := List.getElem?_eq_getElem (by omega)
      obtain ⟨t, ht, hT⟩ := hga i _ e
      exact ⟨t, by rw [e, ht], hT _ (by rw [List.getD_eq_getElem?_getD, List.getElem?_eq_getElem hi]; rfl)⟩
    try dsimp only
    refine q_asgR (en_lcR1 (n := (gs.length : Int)) (fun i w G => ∃ t, w = .ref t ∧ G t = some (.tup [.str (gs.getD i ("", 0)).1, .int (((gs.getD i ("", 0)).2 + (if i = ai then 1 else 0)) % 61)])) (ea_cons (ev_var (i := 2) rfl) ea_nil) (by omega) (fun x => rfl) fun i G e hi => ?_).er fun av P7 p7 ht => ?_
    · obtain ⟨t, ht, hT⟩ := gat (show i < gs.length by omega)
      exact en_U (eu_tup (vs := [.str (gs.getD i ("", 0)).1, .int (((gs.getD i ("", 0)).2 + (if i = ai then 1 else 0)) % 61)]) (ea_cons (ev_op (ev_op (ev_var (i := 5) rfl) (ev_var (i := 22) rfl) (rv_ixL (K := K) (ex_l e hgv) (atI_nat ht))) ev_c (rv_ixT (K := K) (ex_t e hT) (atI_nat (j := 0) rfl))) (ea_cons (ev_op (ev_int (ev_op (ev_op (ev_op (ev_var (i := 5) rfl) (ev_var (i := 22) rfl) (rv_ixL (K := K) (ex_l e hgv) (atI_nat ht))) ev_c (rv_ixT (K := K) (ex_t e hT) (atI_nat (j := 1) rfl))) (ev_is (ev_cb (ea_cons (ev_is (ev_op (ev_var (i := 22) rfl) (aiE rfl rfl (e _ _ hw6)) (rv_eq rfl)) (by rw [dec_ii])) ea_nil) fun G' e' Q q => .inr ⟨decide ((i : Int) = (ai : Int)), rfl, q G' (Ex.refl G')⟩) (congrArg V.int (show (if decide ((i : Int) = (ai : Int)) = true then (1 : Int) else 0) = (if i = ai then 1 else 0) by
        by_cases c : i = ai
        · rw [if_pos c, if_pos (decide_eq_true (by omega))]
        · rw [if_neg c, if_neg (by rw [decide_eq_false (by omega)]; simp)]))) rv_I0)) ev_c (rv_I (show (0 : Int) < 61 by decide))) ea_nil)) (by show 2 ≤ 100000; decide))
    rw [Int.toNat_natCast] at ht
    obtain ⟨aq, aus, rfl, ha1, ha2, ha3⟩ := ht
    have hGA : Gates K P7 aq (bump1 gs ai) := ⟨aus, sq_of ha1, by simp [bump1, ha2], fun i v hv => by
      obtain ⟨t, rfl, ht⟩ := ha3 i v hv
      have hi : i < gs.length := by have := (List.getElem?_eq_some_iff.mp hv).1; omega
      refine ⟨t, rfl, fun g hg => ?_⟩
      rw [bump_at hi] at hg
      cases hg
      exact st_of ht⟩
    obtain ⟨hgA, hneA⟩ := bump_good hgg (show ai < gs.length by omega)
    clear ha1 ha2 ha3
    have eP7 := eP6.trans p7
    obtain ⟨t0, ht0, hT0⟩ := gat (show 0 < gs.length by omega)
    obtain ⟨g0, gtl, hg0⟩ : ∃ g tl, gs = g :: tl := by
      cases hc : gs with
      | nil => rw [hc] at hmb; exact absurd hmb.1 (by decide)
      | cons g tl => exact ⟨g, tl, rfl⟩
    have hg00 : gs.getD 0 ("", 0) = g0 := by rw [hg0]; rfl
    rw [hg00] at hT0
    have gw := hgg.all g0 (by rw [hg0]; exact List.mem_cons_self)
    have gwl := gw.1.len
    have n0E : ∀ {σ : L2.St} {G : Hp}, σ[5]? = some (some (.ref gp)) → Ex P6 G → Ev (tOp (rIxT K) (tOp (rIxL K) (tVar 5) (tC (.int 0))) (tC (.int 0))) σ G (.str g0.1) := fun s5 e => ev_op (ev_op (ev_var s5) ev_c (rv_ixL (K := K) (ex_l e hgv) (atI_nat (j := 0) ht0))) ev_c (rv_ixT (K := K) (ex_t e hT0) (atI_nat (j := 0) rfl))
    have s0E : ∀ {σ : L2.St} {G : Hp}, σ[5]? = some (some (.ref gp)) → Ex P6 G → Ev (tOp (rIxT K) (tOp (rIxL K) (tVar 5) (tC (.int 0))) (tC (.int 1))) σ G (.int g0.2) := fun s5 e => ev_op (ev_op (ev_var s5) ev_c (rv_ixL (K := K) (ex_l e hgv) (atI_nat (j := 0) ht0))) ev_c (rv_ixT (K := K) (ex_t e hT0) (atI_nat (j := 1) rfl))
    obtain ⟨rn, hrn⟩ : ∃ rn : Str, txt (g0.1.cps.toList.take 7 ++ [122]) = rn := ⟨_, rfl⟩
    have rnw : Word rn := by rw [← hrn]; exact z_word gw.1
    try dsimp only
    refine q_asg (v := .str rn) (ev_is (ev_op (ev_slS (n0E rfl p7) eo_none (eo_some (i := 7) ev_c) (by omega)) ev_c (rv_addS (x := cutS g0.1 none (some 7)) (y := txt [122]) (by rw [cut7, txt_len, List.length_take]; show _ + 1 ≤ _; omega))) (by rw [cut7, txt_add, hrn])) fun P8 p8 => ?_
    have eP8 := eP7.trans p8
    have p68 := p7.trans p8
    refine at_st (σ' := [some (.ref sa), some (.ref dp), some (.int (gs.length : Int)), some (.int (n : Int)), some (.ref np), some (.ref gp), some hv, some (.ref sp), none, none, some (.ref rp), some (.ref lp), some (.ref bp), some dv, some (.ref hp), some (.ref tr), some wv, some (.ref wp), some (.int (bi : Int)), some ov, none, some (.ref mq), none, none, some (.ref zp), none, some (.ref aq), some (.str rn), none, none, none, none]) rfl ?_
    
    have names : EvL (tLc (iList K (tVar 5)) (gName 28) tYes (tOp (rIxT K) (tVar 28) (tC (.int 0))) [28]) [some (.ref sa), some (.ref dp), some (.int (gs.length : Int)), some (.int (n : Int)), some (.ref np), some (.ref gp), some hv, some (.ref sp), none, none, some (.ref rp), some (.ref lp), some (.ref bp), some dv, some (.ref hp), some (.ref tr), some wv, some (.ref wp), some (.int (bi : Int)), some ov, none, some (.ref mq), none, none, some (.ref zp), none, some (.ref aq), some (.str rn), none, none, none, none] P8 ((gs.map (·.1)).map V.str) := by
      refine el_isW (el_lc (fun _ => true) (fun i => V.str (gs.getD i ("", 0)).1) (ei_list (K := K) (eb_ev (ev_var (i := 5) rfl) fun G e => ⟨gp, rfl, ex_l (p68.trans e) hgv⟩)) (by omega) bd_at (fun i _ => rfl) (fun _ _ _ _ => yes_T) fun i H5 hi e5 _ => ?_) ?_
      · obtain ⟨t, ht, hT⟩ := gat (show i < gs.length by omega)
        rw [ht]
        exact ev_op (ev_var (i := 28) rfl) ev_c (rv_ixT (K := K) (ex_t (p68.trans e5) hT) (atI_nat (j := 0) rfl))
      · rw [hgl, given_all]
        refine List.ext_getElem (by simp) fun i h1 h2 => ?_
        simp at h1 h2
        simp [List.getD_eq_getElem?_getD, List.getElem?_eq_getElem h1]
    try dsimp only
    refine q_alt (b := decide (ws.getD 4 0 % 2 = 1) && !decide (rn ∈ gs.map (·.1))) (M := fun σ' G => ∃ (q : Addr) (fs : List (Str × Int)), σ' = [some (.ref sa), some (.ref dp), some (.int (gs.length : Int)), some (.int (n : Int)), some (.ref np), some (.ref gp), some hv, some (.ref sp), none, none, some (.ref rp), some (.ref lp), some (.ref bp), some dv, some (.ref hp), some (.ref tr), some wv, some (.ref wp), some (.int (bi : Int)), some ov, none, some (.ref mq), none, none, some (.ref zp), none, some (.ref q), some (.str rn), none, none, none, none] ∧ Ex P8 G ∧ Gates K G q fs ∧ GoodG fs gs.length ∧ fs ≠ gs) (et_and (et_test (ev_is (ev_op (ev_op (ev_int (wE rfl (p68 _ _ hw6) ev_c (by decide) (by decide))) ev_c (rv_I (show (0 : Int) < 2 by decide))) ev_c (rv_eq rfl)) (by rw [dec_ii]; rfl))) fun _ => et_test (ev_opL (ev_var (i := 27) rfl) names fun q H5 hq e5 => by rw [← inV_strs]; exact rv_inL (K := K) (neg := true) (sq_of hq) rfl (strs_flat _))) (fun hb G g W hW' => ?_) (fun hb G g => ⟨aq, bump1 gs ai, rfl, g, hGA.ex (p8.trans g), hgA, hneA⟩) fun σ' P9 hMs => ?_
    · have hb := (Bool.and_eq_true _ _ ▸ hb : _ ∧ _).2
      have hnot : rn ∉ gs.map (·.1) := by simpa using hb
      try dsimp only
      refine s_asgR (er_gcons (K := K) (w := rn) (s := g0.2) (g := g0) (tl := gtl) (eu_tup (ea_cons (ev_var (i := 27) rfl) (ea_cons (s0E rfl (p68.trans g)) ea_nil)) (by show 2 ≤ 100000; decide)) (ev_var (i := 5) rfl) (by rw [← hg0]; exact hG6.ex (p68.trans g)) (by have := congrArg List.length hg0; rw [List.length_cons] at this; omega)) fun v G1 g1 hv' => ?_
      obtain ⟨q, rfl, hq⟩ := hv'
      have hgood := head_good (w := rn) (by rw [← hg0]; exact hgg) rnw (by rw [← hg0]; exact hnot)
      exact hW' _ _ ⟨q, (rn, g0.2) :: gtl, rfl, g.trans g1, hq, hgood.1, by rw [hg0]; exact hgood.2⟩
    obtain ⟨fq, fs, rfl, eP9', hGF, hgf, hfne⟩ := hMs
    have fl := hgf.len
    have wdf : ∀ g ∈ fs, Word g.1 := fun g hg => (hgf.all g hg).1
    have p69 := p68.trans eP9'
    clear names hGA hgA hneA gat hgv hga hT0 ht0 n0E s0E
    try dsimp only
    refine q_asgR (er_watchN (K := K) (A := A) (n := n) (gs := gs) (xss := xss) (er_houseE (K := K) (A := A) (n := n) (gs := gs) (ev_var (i := 3) rfl) (er_copyG (K := K) (ev_var (i := 5) rfl) (hG6.ex p69)) hgg ⟨hn1, hn2⟩ hmb hmn) (EvR.imp (er_mapR (K := K) (fun xs => xs) (ev_var (i := 10) rfl) (hRX6.ex p69) (by omega) (fun x => rfl) fun t xs H1' e hx ht => en_copyR (ev_var (i := 20) rfl) ht).er fun v G hv => by rw [List.map_id'] at hv; exact hv) (by omega) hXS ⟨by omega, by omega⟩) fun tv P10 p10 hTw => ?_
    obtain ⟨th, hTw⟩ := hTw
    have p610 := p69.trans p10
    have hXF : Shape (n : Int) fs.length xss := by rw [fl]; exact hXS
    try dsimp only
    refine q_asgR (er_watchN (K := K) (A := A) (n := n) (gs := fs) (xss := xss) (er_houseE (K := K) (A := A) (n := n) (gs := fs) (ev_var (i := 3) rfl) (er_ev (ev_var (i := 26) rfl) fun G e => ⟨fq, rfl, hGF.ex (p10.trans e)⟩) hgf ⟨hn1, hn2⟩ hmb hmn) (EvR.imp (er_mapR (K := K) (fun xs => xs) (ev_var (i := 10) rfl) (hRX6.ex p610) (by omega) (fun x => rfl) fun t xs H1' e hx ht => en_copyR (ev_var (i := 20) rfl) ht).er fun v G hv => by rw [List.map_id'] at hv; exact hv) (by omega) hXF ⟨by omega, by omega⟩) fun fv P11 p11 hFw => ?_
    obtain ⟨fh, hFw⟩ := hFw
    have p611 := p610.trans p11
    have eP11 := eP6.trans p611
    have hW11 := hW6.ex p611
    have hO11 := hO6.ex p611
    have hT11 := hTw.ex p11
    refine at_st (σ' := [some (.ref sa), some (.ref dp), some (.int (gs.length : Int)), some (.int (n : Int)), some (.ref np), some (.ref gp), some hv, some (.ref sp), none, none, some (.ref rp), some (.ref lp), some (.ref bp), some dv, some (.ref hp), some (.ref tr), some wv, some (.ref wp), some (.int (bi : Int)), some ov, none, some (.ref mq), none, none, some (.ref zp), none, some (.ref fq), some (.str rn), none, some tv, some fv, none]) rfl ?_
    
    have uT : ∀ {G : Hp}, Ex P11 G → WUn K A G n gs xss tv true := fun e => .inl ⟨th, n, gs, xss, hT11.ex e, wds, decide_eq_true ⟨⟨rfl, rfl⟩, rfl⟩⟩
    have uW : ∀ {G : Hp}, Ex P11 G → WUn K A G n gs xss wv true := fun e => .inl ⟨hv, n, gs, xss, hW11.ex e, wds, decide_eq_true ⟨⟨rfl, rfl⟩, rfl⟩⟩
    have uO : ∀ {G : Hp}, Ex P11 G → WUn K A G n gs xss ov false := fun e => .inl ⟨hv, n, gs, yss, hO11.ex e, wds, decide_eq_false fun z => hyx z.2.symm⟩
    have uF : ∀ {G : Hp}, Ex P11 G → WUn K A G n gs xss fv false := fun e => .inl ⟨fh, n, fs, xss, hFw.ex e, wdf, decide_eq_false fun z => hfne z.1.2.symm⟩
    have rE : ∀ {σ : L2.St} {G : Hp}, σ[16]? = some (some wv) → Ex P11 G → EvR (tProp A.C_Watch (spRows K A) [] E0 (tVar 16)) σ G fun w G' => WUn K A G' n gs xss w false := fun s16 e => EvR.imp (er_rowsE (K := K) (A := A) (er_ev (ev_var s16) fun G e' => ⟨hv, hW11.ex (e.trans e')⟩)) fun v G ⟨q, z1, _, us, z2⟩ => .inr ⟨⟨q, us, z1, z2⟩, rfl⟩
    have wvE : ∀ {σ : L2.St} {G : Hp}, σ[16]? = some (some wv) → Ex P11 G → EvR (tVar 16) σ G fun v G' => ∃ h, WatchOk K A v G' h n gs xss := fun s16 e => er_ev (ev_var s16) fun G e' => ⟨hv, hW11.ex (e.trans e')⟩
    try dsimp only
    refine q_asgL (xs := [true, true, false, false, false].map V.bl) (el_lst (ea_cons (ev_wEq (K := K) (A := A) (b := true) T.ty_Watch T.si_list (wvE rfl (Ex.refl _)) wds (er_ev (ev_var (i := 29) rfl) fun G e => uT e)) (ea_cons (ev_wEq (K := K) (A := A) (b := true) T.ty_Watch T.si_list (er_ev (ev_var (i := 29) rfl) fun G e' => ⟨th, hT11.ex e'⟩) wds (er_ev (ev_var (i := 16) rfl) fun G e => uW e)) (ea_cons (ev_wEq (K := K) (A := A) (b := false) T.ty_Watch T.si_list (wvE rfl (Ex.refl _)) wds (er_ev (ev_var (i := 19) rfl) fun G e => uO e)) (ea_cons (ev_wEq (K := K) (A := A) (b := false) T.ty_Watch T.si_list (wvE rfl (Ex.refl _)) wds (er_ev (ev_var (i := 30) rfl) fun G e => uF e)) (ea_cons (ev_wEq (K := K) (A := A) (b := false) T.ty_Watch T.si_list (wvE rfl (Ex.refl _)) wds (rE rfl (Ex.refl _))) ea_nil))))) (by show 5 ≤ 100000; decide)) fun kp P12 _ p12 hkp => ?_
    have dpb : ∀ (bs : List Bool) {G : Hp}, DpAll K G (bs.map V.bl) (bs.map PyData.bool) := fun bs {G} => by
      induction bs with
      | nil => exact .nil
      | cons b bs ih => exact .cons (.bl b) ih
    have edb : ∀ {te : TE} {σ : L2.St} {G : Hp} (bs : List Bool), EvL te σ G (bs.map V.bl) → EvR te σ G fun v H1 => Dp K H1 v (.list (bs.map .bool)) := fun bs h => (er_L h).imp fun v G ⟨p, z1, z2⟩ => by rw [z1]; exact .lst (sq_of z2) (dpb bs)
    obtain ⟨mc, rdW, ⟨t1, c1⟩⟩ := T.rd_Watch
    try dsimp only
    refine q_skip (et_orF (et_notT (et_B (ev_same (d := .list ([true, true, false, false, false].map .bool)) (er_ev (ev_var (i := 31) rfl) fun G e => .lst (sq_of (e _ _ hkp)) (dpb _)) (edb [true, true, false, false, false] (el_lst (ea_cons ev_c (ea_cons ev_c (ea_cons ev_c (ea_cons ev_c (ea_cons ev_c ea_nil))))) (by show 5 ≤ 100000; decide))) (flat_boolsL _ (by decide))))) (et_notT (et_B (ev_same (d := .int 96) (ed_int (fun H1 e Q q => ⟨A.C_Watch, mc, _, _, rfl, rdW, c1, q H1 (Ex.refl H1)⟩)) (ed_int ev_c) True.intro)))) fun P13 p13 => ?_
    have p1113 := p12.trans p13
    try dsimp only
    refine q_skip (et_notT (et_B (ev_same (d := .list ([false, true, true, true].map .bool)) (edb [false, true, true, true] (el_lst (ea_cons (ev_wNe (K := K) (A := A) (b := true) T.ty_Watch T.si_list (wvE rfl p1113) wds (er_ev (ev_var (i := 29) rfl) fun G e => uT (p1113.trans e))) (ea_cons (ev_wNe (K := K) (A := A) (b := false) T.ty_Watch T.si_list (wvE rfl p1113) wds (er_ev (ev_var (i := 19) rfl) fun G e => uO (p1113.trans e))) (ea_cons (ev_wNe (K := K) (A := A) (b := false) T.ty_Watch T.si_list (wvE rfl p1113) wds (er_ev (ev_var (i := 30) rfl) fun G e => uF (p1113.trans e))) (ea_cons (ev_wNe (K := K) (A := A) (b := false) T.ty_Watch T.si_list (wvE rfl p1113) wds (rE rfl p1113)) ea_nil)))) (by show 4 ≤ 100000; decide))) (edb [false, true, true, true] (el_lst (ea_cons ev_c (ea_cons ev_c (ea_cons ev_c (ea_cons ev_c ea_nil)))) (by show 4 ≤ 100000; decide))) (flat_boolsL _ (by decide))))) fun P14 p14 => ?_
    have p1114 := p1113.trans p14
    have eP14 := eP11.trans p1114
    try dsimp only
    refine q_skip (et_notT (et_B (shE rfl rfl rfl rfl eP14 (hW11.ex p1114)))) fun P15 p15 => ?_
    exact s_ret (ansE rfl rfl rfl rfl (eP14.trans p15)) fun G' g' => k G'
theorem all_mk {l : PySem.W.OpenLaw} {w : World} {K : PySem.W.Frag} {h : Heap} {mg : Str → Option Value} {fa : Addr} (X : K.In h) (G : h.Ns mainGlobals mg) (hfa : mg "law" = some (.ref fa))
    {od0 an0 : Option Addr} {sl0 : Array (Option Value)} {oc0 kV0 dc0 pm0 cd0 ct0 : Value} {f0 : Addr}
    {od1 an1 : Option Addr} {sl1 : Array (Option Value)} {oc1 kV1 dc1 pm1 cd1 ct1 : Value} {f1 : Addr}
    {od2 an2 : Option Addr} {sl2 : Array (Option Value)} {oc2 kV2 dc2 pm2 cd2 ct2 : Value} {f2 : Addr}
    {od3 an3 : Option Addr} {sl3 : Array (Option Value)} {oc3 kV3 dc3 pm3 cd3 ct3 : Value} {f3 : Addr}
    {od4 an4 : Option Addr} {sl4 : Array (Option Value)} {oc4 kV4 dc4 pm4 cd4 ct4 : Value} {f4 : Addr}
    {od5 an5 : Option Addr} {sl5 : Array (Option Value)} {oc5 kV5 dc5 pm5 cd5 ct5 : Value} {f5 : Addr}
    {od6 an6 : Option Addr} {sl6 : Array (Option Value)} {oc6 kV6 dc6 pm6 cd6 ct6 : Value} {f6 : Addr}
    {od7 an7 : Option Addr} {sl7 : Array (Option Value)} {oc7 kV7 dc7 pm7 cd7 ct7 : Value} {f7 : Addr}
    {od8 an8 : Option Addr} {sl8 : Array (Option Value)} {oc8 kV8 dc8 pm8 cd8 ct8 : Value} {f8 : Addr}
    {od9 an9 : Option Addr} {sl9 : Array (Option Value)} {oc9 kV9 dc9 pm9 cd9 ct9 : Value} {f9 : Addr}
    {od10 an10 : Option Addr} {sl10 : Array (Option Value)} {oc10 kV10 dc10 pm10 cd10 ct10 : Value} {f10 : Addr}
    {od11 an11 : Option Addr} {sl11 : Array (Option Value)} {oc11 kV11 dc11 pm11 cd11 ct11 : Value} {f11 : Addr}
    {od12 an12 : Option Addr} {sl12 : Array (Option Value)} {oc12 kV12 dc12 pm12 cd12 ct12 : Value} {f12 : Addr}
    {od13 an13 : Option Addr} {sl13 : Array (Option Value)} {oc13 kV13 dc13 pm13 cd13 ct13 : Value} {f13 : Addr}
    {od14 an14 : Option Addr} {sl14 : Array (Option Value)} {oc14 kV14 dc14 pm14 cd14 ct14 : Value} {f14 : Addr}
    {od15 an15 : Option Addr} {sl15 : Array (Option Value)} {oc15 kV15 dc15 pm15 cd15 ct15 : Value} {f15 : Addr}
    {od16 an16 : Option Addr} {sl16 : Array (Option Value)} {oc16 kV16 dc16 pm16 cd16 ct16 : Value} {f16 : Addr}
    {od17 an17 : Option Addr} {sl17 : Array (Option Value)} {oc17 kV17 dc17 pm17 cd17 ct17 : Value} {f17 : Addr}
    {od18 an18 : Option Addr} {sl18 : Array (Option Value)} {oc18 kV18 dc18 pm18 cd18 ct18 : Value} {f18 : Addr}
    {od19 an19 : Option Addr} {sl19 : Array (Option Value)} {oc19 kV19 dc19 pm19 cd19 ct19 : Value} {f19 : Addr}
    {od20 an20 : Option Addr} {sl20 : Array (Option Value)} {oc20 kV20 dc20 pm20 cd20 ct20 : Value} {f20 : Addr}
    {od21 an21 : Option Addr} {sl21 : Array (Option Value)} {oc21 kV21 dc21 pm21 cd21 ct21 : Value} {f21 : Addr}
    {od22 an22 : Option Addr} {sl22 : Array (Option Value)} {oc22 kV22 dc22 pm22 cd22 ct22 : Value} {f22 : Addr}
    {od23 an23 : Option Addr} {sl23 : Array (Option Value)} {oc23 kV23 dc23 pm23 cd23 ct23 : Value} {f23 : Addr}
    {od24 an24 : Option Addr} {sl24 : Array (Option Value)} {oc24 kV24 dc24 pm24 cd24 ct24 : Value} {f24 : Addr}
    {od25 an25 : Option Addr} {sl25 : Array (Option Value)} {oc25 kV25 dc25 pm25 cd25 ct25 : Value} {f25 : Addr}
    {od26 an26 : Option Addr} {sl26 : Array (Option Value)} {oc26 kV26 dc26 pm26 cd26 ct26 : Value} {f26 : Addr}
    {od27 an27 : Option Addr} {sl27 : Array (Option Value)} {oc27 kV27 dc27 pm27 cd27 ct27 : Value} {f27 : Addr}
    {od28 an28 : Option Addr} {sl28 : Array (Option Value)} {oc28 kV28 dc28 pm28 cd28 ct28 : Value} {f28 : Addr}
    {od29 an29 : Option Addr} {sl29 : Array (Option Value)} {oc29 kV29 dc29 pm29 cd29 ct29 : Value} {f29 : Addr}
    {od30 an30 : Option Addr} {sl30 : Array (Option Value)} {oc30 kV30 dc30 pm30 cd30 ct30 : Value} {f30 : Addr}
    {od31 an31 : Option Addr} {sl31 : Array (Option Value)} {oc31 kV31 dc31 pm31 cd31 ct31 : Value} {f31 : Addr}
    {od32 an32 : Option Addr} {sl32 : Array (Option Value)} {oc32 kV32 dc32 pm32 cd32 ct32 : Value} {f32 : Addr}
    {od33 an33 : Option Addr} {sl33 : Array (Option Value)} {oc33 kV33 dc33 pm33 cd33 ct33 : Value} {f33 : Addr}
    {od34 an34 : Option Addr} {sl34 : Array (Option Value)} {oc34 kV34 dc34 pm34 cd34 ct34 : Value} {f34 : Addr}
    {od35 an35 : Option Addr} {sl35 : Array (Option Value)} {oc35 kV35 dc35 pm35 cd35 ct35 : Value} {f35 : Addr}
    {od36 an36 : Option Addr} {sl36 : Array (Option Value)} {oc36 kV36 dc36 pm36 cd36 ct36 : Value} {f36 : Addr}
    {od37 an37 : Option Addr} {sl37 : Array (Option Value)} {oc37 kV37 dc37 pm37 cd37 ct37 : Value} {f37 : Addr}
    {od38 an38 : Option Addr} {sl38 : Array (Option Value)} {oc38 kV38 dc38 pm38 cd38 ct38 : Value} {f38 : Addr}
    {C_BadNumber : Addr} {C_TooMany : Addr} {C_RepeatedHour : Addr} {C_OtherHours : Addr} {C_WrongLength : Addr} {C_NoPlace : Addr} {C_BadName : Addr} {C_RepeatedName : Addr} {C_WatchError : Addr} {C_Lot : Addr} {C_House : Addr} {C_Watch : Addr}
    {t_LONGEST_NAME : Tok} {t_LETTERS : Tok}
    {nm_BadNumber q_BadNumber : Str} {N_BadNumber : Addr} {bs_BadNumber : List Value} {sn_BadNumber : List Str} {sub_BadNumber : List Value} {ab_BadNumber : Bool} {col_BadNumber : Option Bool} {dd_BadNumber : Option Addr} {m0_BadNumber m1_BadNumber m2_BadNumber m3_BadNumber m5_BadNumber : Option Value}
    {nm_TooMany q_TooMany : Str} {N_TooMany : Addr} {bs_TooMany : List Value} {sn_TooMany : List Str} {sub_TooMany : List Value} {ab_TooMany : Bool} {col_TooMany : Option Bool} {dd_TooMany : Option Addr} {m0_TooMany m1_TooMany m2_TooMany m3_TooMany m5_TooMany : Option Value}
    {nm_BadName q_BadName : Str} {N_BadName : Addr} {bs_BadName : List Value} {sn_BadName : List Str} {sub_BadName : List Value} {ab_BadName : Bool} {col_BadName : Option Bool} {dd_BadName : Option Addr} {m0_BadName m1_BadName m2_BadName m3_BadName m5_BadName : Option Value}
    {nm_RepeatedName q_RepeatedName : Str} {N_RepeatedName : Addr} {bs_RepeatedName : List Value} {sn_RepeatedName : List Str} {sub_RepeatedName : List Value} {ab_RepeatedName : Bool} {col_RepeatedName : Option Bool} {dd_RepeatedName : Option Addr} {m0_RepeatedName m1_RepeatedName m2_RepeatedName m3_RepeatedName m5_RepeatedName : Option Value}
    {nm_WrongLength q_WrongLength : Str} {N_WrongLength : Addr} {bs_WrongLength : List Value} {sn_WrongLength : List Str} {sub_WrongLength : List Value} {ab_WrongLength : Bool} {col_WrongLength : Option Bool} {dd_WrongLength : Option Addr} {m0_WrongLength m1_WrongLength m2_WrongLength m3_WrongLength m5_WrongLength : Option Value}
    {nm_RepeatedHour q_RepeatedHour : Str} {N_RepeatedHour : Addr} {bs_RepeatedHour : List Value} {sn_RepeatedHour : List Str} {sub_RepeatedHour : List Value} {ab_RepeatedHour : Bool} {col_RepeatedHour : Option Bool} {dd_RepeatedHour : Option Addr} {m0_RepeatedHour m1_RepeatedHour m2_RepeatedHour m3_RepeatedHour m5_RepeatedHour : Option Value}
    {tk_House_MOST_HOURS : Tok}
    {tk_House_MOST_GATES : Tok}
    {tk_House_MOST_CELLS : Tok}
    {tk_House_MOST_STAKE : Tok}
    {tk_Watch_MOST : Tok}
    {tk_Lot_MOST : Tok}
    {p16 : Addr} {rest16 : List Value}
    {p17 : Addr} {rest17 : List Value}
    {p18 : Addr} {rest18 : List Value}
    (g_BadNumber : PySem.W.nsIn K mainGlobals "BadNumber" = some (some (.ref C_BadNumber)))
    (g_TooMany : PySem.W.nsIn K mainGlobals "TooMany" = some (some (.ref C_TooMany)))
    (g_RepeatedHour : PySem.W.nsIn K mainGlobals "RepeatedHour" = some (some (.ref C_RepeatedHour)))
    (g_OtherHours : PySem.W.nsIn K mainGlobals "OtherHours" = some (some (.ref C_OtherHours)))
    (g_WrongLength : PySem.W.nsIn K mainGlobals "WrongLength" = some (some (.ref C_WrongLength)))
    (g_NoPlace : PySem.W.nsIn K mainGlobals "NoPlace" = some (some (.ref C_NoPlace)))
    (g_BadName : PySem.W.nsIn K mainGlobals "BadName" = some (some (.ref C_BadName)))
    (g_RepeatedName : PySem.W.nsIn K mainGlobals "RepeatedName" = some (some (.ref C_RepeatedName)))
    (g_WatchError : PySem.W.nsIn K mainGlobals "WatchError" = some (some (.ref C_WatchError)))
    (g_Lot : PySem.W.nsIn K mainGlobals "Lot" = some (some (.ref C_Lot)))
    (g_House : PySem.W.nsIn K mainGlobals "House" = some (some (.ref C_House)))
    (g_Watch : PySem.W.nsIn K mainGlobals "Watch" = some (some (.ref C_Watch)))
    (a0 : PySem.W.findIn K (.ref C_BadNumber) "__init__" = some (some (.ref f0)))
    (l0 : K.lookup f0 = some ⟨oc0, od0, .func (PySem.W.fnOf "__init__" "BadNumber.__init__" (defArgs s_BadNumber_init) (defBody s_BadNumber_init) (defScope s_BadNumber_init) .none kV0 dc0 pm0 an0 cd0 ct0), sl0⟩)
    (c0 : PySem.W.codeIn K cd0 "BadNumber.__init__" = true)
    (k0 : PySem.W.keepIn K (.ref f0) = true)
    (a1 : PySem.W.findIn K (.ref C_TooMany) "__init__" = some (some (.ref f1)))
    (l1 : K.lookup f1 = some ⟨oc1, od1, .func (PySem.W.fnOf "__init__" "TooMany.__init__" (defArgs s_TooMany_init) (defBody s_TooMany_init) (defScope s_TooMany_init) .none kV1 dc1 pm1 an1 cd1 ct1), sl1⟩)
    (c1 : PySem.W.codeIn K cd1 "TooMany.__init__" = true)
    (k1 : PySem.W.keepIn K (.ref f1) = true)
    (a2 : PySem.W.findIn K (.ref C_RepeatedHour) "__init__" = some (some (.ref f2)))
    (l2 : K.lookup f2 = some ⟨oc2, od2, .func (PySem.W.fnOf "__init__" "RepeatedHour.__init__" (defArgs s_RepeatedHour_init) (defBody s_RepeatedHour_init) (defScope s_RepeatedHour_init) .none kV2 dc2 pm2 an2 cd2 ct2), sl2⟩)
    (c2 : PySem.W.codeIn K cd2 "RepeatedHour.__init__" = true)
    (k2 : PySem.W.keepIn K (.ref f2) = true)
    (a3 : PySem.W.findIn K (.ref C_WrongLength) "__init__" = some (some (.ref f3)))
    (l3 : K.lookup f3 = some ⟨oc3, od3, .func (PySem.W.fnOf "__init__" "WrongLength.__init__" (defArgs s_WrongLength_init) (defBody s_WrongLength_init) (defScope s_WrongLength_init) .none kV3 dc3 pm3 an3 cd3 ct3), sl3⟩)
    (c3 : PySem.W.codeIn K cd3 "WrongLength.__init__" = true)
    (k3 : PySem.W.keepIn K (.ref f3) = true)
    (a4 : PySem.W.findIn K (.ref C_BadName) "__init__" = some (some (.ref f4)))
    (l4 : K.lookup f4 = some ⟨oc4, od4, .func (PySem.W.fnOf "__init__" "BadName.__init__" (defArgs s_BadName_init) (defBody s_BadName_init) (defScope s_BadName_init) .none kV4 dc4 pm4 an4 cd4 ct4), sl4⟩)
    (c4 : PySem.W.codeIn K cd4 "BadName.__init__" = true)
    (k4 : PySem.W.keepIn K (.ref f4) = true)
    (a5 : PySem.W.findIn K (.ref C_RepeatedName) "__init__" = some (some (.ref f5)))
    (l5 : K.lookup f5 = some ⟨oc5, od5, .func (PySem.W.fnOf "__init__" "RepeatedName.__init__" (defArgs s_RepeatedName_init) (defBody s_RepeatedName_init) (defScope s_RepeatedName_init) .none kV5 dc5 pm5 an5 cd5 ct5), sl5⟩)
    (c5 : PySem.W.codeIn K cd5 "RepeatedName.__init__" = true)
    (k5 : PySem.W.keepIn K (.ref f5) = true)
    (a6 : PySem.W.findIn K (.ref C_Lot) "__init__" = some (some (.ref f6)))
    (l6 : K.lookup f6 = some ⟨oc6, od6, .func (PySem.W.fnOf "__init__" "Lot.__init__" (defArgs s_Lot_init) (defBody s_Lot_init) (defScope s_Lot_init) .none kV6 dc6 pm6 an6 cd6 ct6), sl6⟩)
    (c6 : PySem.W.codeIn K cd6 "Lot.__init__" = true)
    (k6 : PySem.W.keepIn K (.ref f6) = true)
    (a7 : PySem.W.findIn K (.ref C_Lot) "__contains__" = some (some (.ref f7)))
    (l7 : K.lookup f7 = some ⟨oc7, od7, .func (PySem.W.fnOf "__contains__" "Lot.__contains__" (defArgs s_Lot_contains) (defBody s_Lot_contains) (defScope s_Lot_contains) .none kV7 dc7 pm7 an7 cd7 ct7), sl7⟩)
    (c7 : PySem.W.codeIn K cd7 "Lot.__contains__" = true)
    (k7 : PySem.W.keepIn K (.ref f7) = true)
    (a8 : PySem.W.nsIn K mainGlobals "check_name" = some (some (.ref f8)))
    (l8 : K.lookup f8 = some ⟨oc8, od8, .func (PySem.W.fnOf "check_name" "check_name" (defArgs s_check_name) (defBody s_check_name) (defScope s_check_name) .none kV8 dc8 pm8 an8 cd8 ct8), sl8⟩)
    (c8 : PySem.W.codeIn K cd8 "check_name" = true)
    (k8 : PySem.W.keepIn K (.ref f8) = true)
    (a9 : PySem.W.nsIn K mainGlobals "check_new_name" = some (some (.ref f9)))
    (l9 : K.lookup f9 = some ⟨oc9, od9, .func (PySem.W.fnOf "check_new_name" "check_new_name" (defArgs s_check_new_name) (defBody s_check_new_name) (defScope s_check_new_name) .none kV9 dc9 pm9 an9 cd9 ct9), sl9⟩)
    (c9 : PySem.W.codeIn K cd9 "check_new_name" = true)
    (k9 : PySem.W.keepIn K (.ref f9) = true)
    (a10 : PySem.W.findIn K (.ref C_House) "__init__" = some (some (.ref f10)))
    (l10 : K.lookup f10 = some ⟨oc10, od10, .func (PySem.W.fnOf "__init__" "House.__init__" (defArgs s_House_init) (defBody s_House_init) (defScope s_House_init) .none kV10 dc10 pm10 an10 cd10 ct10), sl10⟩)
    (c10 : PySem.W.codeIn K cd10 "House.__init__" = true)
    (k10 : PySem.W.keepIn K (.ref f10) = true)
    (a11 : PySem.W.findIn K (.ref C_House) "__len__" = some (some (.ref f11)))
    (l11 : K.lookup f11 = some ⟨oc11, od11, .func (PySem.W.fnOf "__len__" "House.__len__" (defArgs s_House_len) (defBody s_House_len) (defScope s_House_len) .none kV11 dc11 pm11 an11 cd11 ct11), sl11⟩)
    (c11 : PySem.W.codeIn K cd11 "House.__len__" = true)
    (k11 : PySem.W.keepIn K (.ref f11) = true)
    (a12 : PySem.W.findIn K (.ref C_House) "__eq__" = some (some (.ref f12)))
    (l12 : K.lookup f12 = some ⟨oc12, od12, .func (PySem.W.fnOf "__eq__" "House.__eq__" (defArgs s_House_eq) (defBody s_House_eq) (defScope s_House_eq) .none kV12 dc12 pm12 an12 cd12 ct12), sl12⟩)
    (c12 : PySem.W.codeIn K cd12 "House.__eq__" = true)
    (k12 : PySem.W.keepIn K (.ref f12) = true)
    (a13 : PySem.W.nsIn K mainGlobals "is_gate" = some (some (.ref f13)))
    (l13 : K.lookup f13 = some ⟨oc13, od13, .func (PySem.W.fnOf "is_gate" "is_gate" (defArgs s_is_gate) (defBody s_is_gate) (defScope s_is_gate) .none kV13 dc13 pm13 an13 cd13 ct13), sl13⟩)
    (c13 : PySem.W.codeIn K cd13 "is_gate" = true)
    (k13 : PySem.W.keepIn K (.ref f13) = true)
    (a14 : PySem.W.nsIn K mainGlobals "_check_row" = some (some (.ref f14)))
    (l14 : K.lookup f14 = some ⟨oc14, od14, .func (PySem.W.fnOf "_check_row" "_check_row" (defArgs s_u_check_row) (defBody s_u_check_row) (defScope s_u_check_row) .none kV14 dc14 pm14 an14 cd14 ct14), sl14⟩)
    (c14 : PySem.W.codeIn K cd14 "_check_row" = true)
    (k14 : PySem.W.keepIn K (.ref f14) = true)
    (a15 : PySem.W.findIn K (.ref C_Watch) "__init__" = some (some (.ref f15)))
    (l15 : K.lookup f15 = some ⟨oc15, od15, .func (PySem.W.fnOf "__init__" "Watch.__init__" (defArgs s_Watch_init) (defBody s_Watch_init) (defScope s_Watch_init) .none kV15 dc15 pm15 an15 cd15 ct15), sl15⟩)
    (c15 : PySem.W.codeIn K cd15 "Watch.__init__" = true)
    (k15 : PySem.W.keepIn K (.ref f15) = true)
    (pa_16 : PySem.W.findCls K (.ref C_Watch) (.type "type") "empty" = some (.get (.builtin "classmethod.__get__") (.ref p16) .none (.ref C_Watch)))
    (a16 : PySem.W.recIn K p16 "classmethod" = some (.ref f16 :: rest16))
    (l16 : K.lookup f16 = some ⟨oc16, od16, .func (PySem.W.fnOf "empty" "Watch.empty" (defArgs s_Watch_empty) (defBody s_Watch_empty) (defScope s_Watch_empty) .none kV16 dc16 pm16 an16 cd16 ct16), sl16⟩)
    (c16 : PySem.W.codeIn K cd16 "Watch.empty" = true)
    (k16 : PySem.W.keepIn K (.ref f16) = true)
    (pa_17 : PySem.W.findCls K (.ref C_Watch) (.type "type") "of_lots" = some (.get (.builtin "classmethod.__get__") (.ref p17) .none (.ref C_Watch)))
    (a17 : PySem.W.recIn K p17 "classmethod" = some (.ref f17 :: rest17))
    (l17 : K.lookup f17 = some ⟨oc17, od17, .func (PySem.W.fnOf "of_lots" "Watch.of_lots" (defArgs s_Watch_of_lots) (defBody s_Watch_of_lots) (defScope s_Watch_of_lots) .none kV17 dc17 pm17 an17 cd17 ct17), sl17⟩)
    (c17 : PySem.W.codeIn K cd17 "Watch.of_lots" = true)
    (k17 : PySem.W.keepIn K (.ref f17) = true)
    (pa_18 : PySem.W.findIn K (.ref C_Watch) "rows" = some (some (.ref p18)))
    (a18 : PySem.W.recIn K p18 "property" = some (.ref f18 :: rest18))
    (l18 : K.lookup f18 = some ⟨oc18, od18, .func (PySem.W.fnOf "rows" "Watch.rows" (defArgs s_Watch_rows) (defBody s_Watch_rows) (defScope s_Watch_rows) .none kV18 dc18 pm18 an18 cd18 ct18), sl18⟩)
    (c18 : PySem.W.codeIn K cd18 "Watch.rows" = true)
    (k18 : PySem.W.keepIn K (.ref f18) = true)
    (a19 : PySem.W.findIn K (.ref C_Watch) "__getitem__" = some (some (.ref f19)))
    (l19 : K.lookup f19 = some ⟨oc19, od19, .func (PySem.W.fnOf "__getitem__" "Watch.__getitem__" (defArgs s_Watch_getitem) (defBody s_Watch_getitem) (defScope s_Watch_getitem) .none kV19 dc19 pm19 an19 cd19 ct19), sl19⟩)
    (c19 : PySem.W.codeIn K cd19 "Watch.__getitem__" = true)
    (k19 : PySem.W.keepIn K (.ref f19) = true)
    (a20 : PySem.W.findIn K (.ref C_Watch) "__eq__" = some (some (.ref f20)))
    (l20 : K.lookup f20 = some ⟨oc20, od20, .func (PySem.W.fnOf "__eq__" "Watch.__eq__" (defArgs s_Watch_eq) (defBody s_Watch_eq) (defScope s_Watch_eq) .none kV20 dc20 pm20 an20 cd20 ct20), sl20⟩)
    (c20 : PySem.W.codeIn K cd20 "Watch.__eq__" = true)
    (k20 : PySem.W.keepIn K (.ref f20) = true)
    (a21 : PySem.W.nsIn K mainGlobals "_law_cell" = some (some (.ref f21)))
    (l21 : K.lookup f21 = some ⟨oc21, od21, .func (PySem.W.fnOf "_law_cell" "_law_cell" (defArgs s_u_law_cell) (defBody s_u_law_cell) (defScope s_u_law_cell) .none kV21 dc21 pm21 an21 cd21 ct21), sl21⟩)
    (c21 : PySem.W.codeIn K cd21 "_law_cell" = true)
    (k21 : PySem.W.keepIn K (.ref f21) = true)
    (a22 : PySem.W.nsIn K mainGlobals "_law_draws" = some (some (.ref f22)))
    (l22 : K.lookup f22 = some ⟨oc22, od22, .func (PySem.W.fnOf "_law_draws" "_law_draws" (defArgs s_u_law_draws) (defBody s_u_law_draws) (defScope s_u_law_draws) .none kV22 dc22 pm22 an22 cd22 ct22), sl22⟩)
    (c22 : PySem.W.codeIn K cd22 "_law_draws" = true)
    (k22 : PySem.W.keepIn K (.ref f22) = true)
    (a23 : PySem.W.nsIn K mainGlobals "_law_two" = some (some (.ref f23)))
    (l23 : K.lookup f23 = some ⟨oc23, od23, .func (PySem.W.fnOf "_law_two" "_law_two" (defArgs s_u_law_two) (defBody s_u_law_two) (defScope s_u_law_two) .none kV23 dc23 pm23 an23 cd23 ct23), sl23⟩)
    (c23 : PySem.W.codeIn K cd23 "_law_two" = true)
    (k23 : PySem.W.keepIn K (.ref f23) = true)
    (a24 : PySem.W.nsIn K mainGlobals "_law_bits" = some (some (.ref f24)))
    (l24 : K.lookup f24 = some ⟨oc24, od24, .func (PySem.W.fnOf "_law_bits" "_law_bits" (defArgs s_u_law_bits) (defBody s_u_law_bits) (defScope s_u_law_bits) .none kV24 dc24 pm24 an24 cd24 ct24), sl24⟩)
    (c24 : PySem.W.codeIn K cd24 "_law_bits" = true)
    (k24 : PySem.W.keepIn K (.ref f24) = true)
    (a25 : PySem.W.nsIn K mainGlobals "_law_name" = some (some (.ref f25)))
    (l25 : K.lookup f25 = some ⟨oc25, od25, .func (PySem.W.fnOf "_law_name" "_law_name" (defArgs s_u_law_name) (defBody s_u_law_name) (defScope s_u_law_name) .none kV25 dc25 pm25 an25 cd25 ct25), sl25⟩)
    (c25 : PySem.W.codeIn K cd25 "_law_name" = true)
    (k25 : PySem.W.keepIn K (.ref f25) = true)
    (a26 : PySem.W.nsIn K mainGlobals "_law_names" = some (some (.ref f26)))
    (l26 : K.lookup f26 = some ⟨oc26, od26, .func (PySem.W.fnOf "_law_names" "_law_names" (defArgs s_u_law_names) (defBody s_u_law_names) (defScope s_u_law_names) .none kV26 dc26 pm26 an26 cd26 ct26), sl26⟩)
    (c26 : PySem.W.codeIn K cd26 "_law_names" = true)
    (k26 : PySem.W.keepIn K (.ref f26) = true)
    (a27 : PySem.W.nsIn K mainGlobals "_law_gates" = some (some (.ref f27)))
    (l27 : K.lookup f27 = some ⟨oc27, od27, .func (PySem.W.fnOf "_law_gates" "_law_gates" (defArgs s_u_law_gates) (defBody s_u_law_gates) (defScope s_u_law_gates) .none kV27 dc27 pm27 an27 cd27 ct27), sl27⟩)
    (c27 : PySem.W.codeIn K cd27 "_law_gates" = true)
    (k27 : PySem.W.keepIn K (.ref f27) = true)
    (a28 : PySem.W.nsIn K mainGlobals "_law_rows" = some (some (.ref f28)))
    (l28 : K.lookup f28 = some ⟨oc28, od28, .func (PySem.W.fnOf "_law_rows" "_law_rows" (defArgs s_u_law_rows) (defBody s_u_law_rows) (defScope s_u_law_rows) .none kV28 dc28 pm28 an28 cd28 ct28), sl28⟩)
    (c28 : PySem.W.codeIn K cd28 "_law_rows" = true)
    (k28 : PySem.W.keepIn K (.ref f28) = true)
    (a29 : PySem.W.nsIn K mainGlobals "_law_is_int" = some (some (.ref f29)))
    (l29 : K.lookup f29 = some ⟨oc29, od29, .func (PySem.W.fnOf "_law_is_int" "_law_is_int" (defArgs s_u_law_is_int) (defBody s_u_law_is_int) (defScope s_u_law_is_int) .none kV29 dc29 pm29 an29 cd29 ct29), sl29⟩)
    (c29 : PySem.W.codeIn K cd29 "_law_is_int" = true)
    (k29 : PySem.W.keepIn K (.ref f29) = true)
    (a30 : PySem.W.nsIn K mainGlobals "_law_same" = some (some (.ref f30)))
    (l30 : K.lookup f30 = some ⟨oc30, od30, .func (PySem.W.fnOf "_law_same" "_law_same" (defArgs s_u_law_same) (defBody s_u_law_same) (defScope s_u_law_same) .none kV30 dc30 pm30 an30 cd30 ct30), sl30⟩)
    (c30 : PySem.W.codeIn K cd30 "_law_same" = true)
    (k30 : PySem.W.keepIn K (.ref f30) = true)
    (a31 : PySem.W.nsIn K mainGlobals "_law_bad_rows" = some (some (.ref f31)))
    (l31 : K.lookup f31 = some ⟨oc31, od31, .func (PySem.W.fnOf "_law_bad_rows" "_law_bad_rows" (defArgs s_u_law_bad_rows) (defBody s_u_law_bad_rows) (defScope s_u_law_bad_rows) .none kV31 dc31 pm31 an31 cd31 ct31), sl31⟩)
    (c31 : PySem.W.codeIn K cd31 "_law_bad_rows" = true)
    (k31 : PySem.W.keepIn K (.ref f31) = true)
    (a32 : PySem.W.nsIn K mainGlobals "_law_first_error" = some (some (.ref f32)))
    (l32 : K.lookup f32 = some ⟨oc32, od32, .func (PySem.W.fnOf "_law_first_error" "_law_first_error" (defArgs s_u_law_first_error) (defBody s_u_law_first_error) (defScope s_u_law_first_error) .none kV32 dc32 pm32 an32 cd32 ct32), sl32⟩)
    (c32 : PySem.W.codeIn K cd32 "_law_first_error" = true)
    (k32 : PySem.W.keepIn K (.ref f32) = true)
    (a33 : PySem.W.nsIn K mainGlobals "_law_no_gate" = some (some (.ref f33)))
    (l33 : K.lookup f33 = some ⟨oc33, od33, .func (PySem.W.fnOf "_law_no_gate" "_law_no_gate" (defArgs s_u_law_no_gate) (defBody s_u_law_no_gate) (defScope s_u_law_no_gate) .none kV33 dc33 pm33 an33 cd33 ct33), sl33⟩)
    (c33 : PySem.W.codeIn K cd33 "_law_no_gate" = true)
    (k33 : PySem.W.keepIn K (.ref f33) = true)
    (a34 : PySem.W.nsIn K mainGlobals "_law_shows" = some (some (.ref f34)))
    (l34 : K.lookup f34 = some ⟨oc34, od34, .func (PySem.W.fnOf "_law_shows" "_law_shows" (defArgs s_u_law_shows) (defBody s_u_law_shows) (defScope s_u_law_shows) .none kV34 dc34 pm34 an34 cd34 ct34), sl34⟩)
    (c34 : PySem.W.codeIn K cd34 "_law_shows" = true)
    (k34 : PySem.W.keepIn K (.ref f34) = true)
    (a35 : PySem.W.nsIn K mainGlobals "_law_answers" = some (some (.ref f35)))
    (l35 : K.lookup f35 = some ⟨oc35, od35, .func (PySem.W.fnOf "_law_answers" "_law_answers" (defArgs s_u_law_answers) (defBody s_u_law_answers) (defScope s_u_law_answers) .none kV35 dc35 pm35 an35 cd35 ct35), sl35⟩)
    (c35 : PySem.W.codeIn K cd35 "_law_answers" = true)
    (k35 : PySem.W.keepIn K (.ref f35) = true)
    (a36 : PySem.W.nsIn K mainGlobals "_law_lots_told" = some (some (.ref f36)))
    (l36 : K.lookup f36 = some ⟨oc36, od36, .func (PySem.W.fnOf "_law_lots_told" "_law_lots_told" (defArgs s_u_law_lots_told) (defBody s_u_law_lots_told) (defScope s_u_law_lots_told) .none kV36 dc36 pm36 an36 cd36 ct36), sl36⟩)
    (c36 : PySem.W.codeIn K cd36 "_law_lots_told" = true)
    (k36 : PySem.W.keepIn K (.ref f36) = true)
    (a37 : PySem.W.nsIn K mainGlobals "_law_of_lots" = some (some (.ref f37)))
    (l37 : K.lookup f37 = some ⟨oc37, od37, .func (PySem.W.fnOf "_law_of_lots" "_law_of_lots" (defArgs s_u_law_of_lots) (defBody s_u_law_of_lots) (defScope s_u_law_of_lots) .none kV37 dc37 pm37 an37 cd37 ct37), sl37⟩)
    (c37 : PySem.W.codeIn K cd37 "_law_of_lots" = true)
    (k37 : PySem.W.keepIn K (.ref f37) = true)
    (a38 : PySem.W.nsIn K mainGlobals "law" = some (some (.ref f38)))
    (l38 : K.lookup f38 = some ⟨oc38, od38, .func (PySem.W.fnOf "law" "law" (defArgs s_law) (defBody s_law) (defScope s_law) .none kV38 dc38 pm38 an38 cd38 ct38), sl38⟩)
    (c38 : PySem.W.codeIn K cd38 "law" = true)
    (k38 : PySem.W.keepIn K (.ref f38) = true)
    (kc_LONGEST_NAME : PySem.W.nsIn K mainGlobals "_LONGEST_NAME" = some (some (.int 8 t_LONGEST_NAME)))
    (kc_LETTERS : PySem.W.nsIn K mainGlobals "_LETTERS" = some (some (.str "abcdefghijklmnopqrstuvwxyz" t_LETTERS)))
    (z_abs : PySem.W.nsIn K mainGlobals "abs" = some none)
    (z_len : PySem.W.nsIn K mainGlobals "len" = some none)
    (z_int : PySem.W.nsIn K mainGlobals "int" = some none)
    (z_bool : PySem.W.nsIn K mainGlobals "bool" = some none)
    (z_str : PySem.W.nsIn K mainGlobals "str" = some none)
    (z_list : PySem.W.nsIn K mainGlobals "list" = some none)
    (z_tuple : PySem.W.nsIn K mainGlobals "tuple" = some none)
    (z_isinstance : PySem.W.nsIn K mainGlobals "isinstance" = some none)
    (z_range : PySem.W.nsIn K mainGlobals "range" = some none)
    (z_ValueError : PySem.W.nsIn K mainGlobals "ValueError" = some none)
    (z_min : PySem.W.nsIn K mainGlobals "min" = some none)
    (hdW : PySem.W.hasDictIn K C_Watch = true)
    (tyW : PySem.W.typeIn K (.ref C_Watch) = some (.type "type"))
    (meC_Watch : PySem.W.subIn K (.ref C_Watch) (.ref C_Watch) = some true)
    (siLW : PySem.W.subIn K (.type "list") (.ref C_Watch) = some false)
    (exC_BadNumber : PySem.W.subIn K (.ref C_BadNumber) (.type "BaseException") = some true)
    (hdC_BadNumber : PySem.W.hasDictIn K C_BadNumber = true)
    (tyC_BadNumber : PySem.W.typeIn K (.ref C_BadNumber) = some (.type "type"))
    (meC_BadNumber : PySem.W.subIn K (.ref C_BadNumber) (.ref C_BadNumber) = some true)
    (xL_BadNumber : K.lookup C_BadNumber = some (excClassObj nm_BadNumber q_BadNumber C_BadNumber N_BadNumber bs_BadNumber [.ref C_WatchError, .type "ValueError", .type "Exception", .type "BaseException", .type "object"] true sn_BadNumber sub_BadNumber ab_BadNumber col_BadNumber dd_BadNumber m0_BadNumber m1_BadNumber m2_BadNumber m3_BadNumber m5_BadNumber "ValueError.__new__"))
    (sa_BadNumber : PySem.W.findIn K (.ref C_BadNumber) "__setattr__" = some (some (.builtin "object.__setattr__")))
    (kC_BadNumber : PySem.W.keepIn K (.ref C_BadNumber) = true)
    (ti_BadNumber : PySem.W.typeIn K (.ref f0) = some (.type "function"))
    (ga_BadNumber : PySem.W.findIn K (.ref C_BadNumber) "__getattribute__" = some (some (.builtin "BaseException.__getattribute__")))
    (gg_BadNumber : PySem.W.findIn K (.ref C_BadNumber) "__getattr__" = some none)
    (ha_BadNumber : PySem.W.findIn K (.ref C_BadNumber) "__class__" = some (some (.builtin "object.__class__")))
    (hn_ : PySem.W.specialIn K (.builtin "object.__class__") "__get__" = some (some (.builtin "getset_descriptor.__get__")))
    (ht_ : PySem.W.takesIn K (.builtin "object.__class__") = some true)
    (hm_BadNumber : PySem.W.mroIn K C_BadNumber (.type "object") = some true)
    (nf_BadNumber_name : PySem.W.findIn K (.ref C_BadNumber) "name" = some none)
    (nf_BadNumber_value : PySem.W.findIn K (.ref C_BadNumber) "value" = some none)
    (exC_TooMany : PySem.W.subIn K (.ref C_TooMany) (.type "BaseException") = some true)
    (tyC_TooMany : PySem.W.typeIn K (.ref C_TooMany) = some (.type "type"))
    (xL_TooMany : K.lookup C_TooMany = some (excClassObj nm_TooMany q_TooMany C_TooMany N_TooMany bs_TooMany [.ref C_WatchError, .type "ValueError", .type "Exception", .type "BaseException", .type "object"] true sn_TooMany sub_TooMany ab_TooMany col_TooMany dd_TooMany m0_TooMany m1_TooMany m2_TooMany m3_TooMany m5_TooMany "ValueError.__new__"))
    (sa_TooMany : PySem.W.findIn K (.ref C_TooMany) "__setattr__" = some (some (.builtin "object.__setattr__")))
    (kC_TooMany : PySem.W.keepIn K (.ref C_TooMany) = true)
    (ti_TooMany : PySem.W.typeIn K (.ref f1) = some (.type "function"))
    (nf_TooMany_name : PySem.W.findIn K (.ref C_TooMany) "name" = some none)
    (nf_TooMany_most : PySem.W.findIn K (.ref C_TooMany) "most" = some none)
    (exC_BadName : PySem.W.subIn K (.ref C_BadName) (.type "BaseException") = some true)
    (tyC_BadName : PySem.W.typeIn K (.ref C_BadName) = some (.type "type"))
    (xL_BadName : K.lookup C_BadName = some (excClassObj nm_BadName q_BadName C_BadName N_BadName bs_BadName [.ref C_WatchError, .type "ValueError", .type "Exception", .type "BaseException", .type "object"] true sn_BadName sub_BadName ab_BadName col_BadName dd_BadName m0_BadName m1_BadName m2_BadName m3_BadName m5_BadName "ValueError.__new__"))
    (sa_BadName : PySem.W.findIn K (.ref C_BadName) "__setattr__" = some (some (.builtin "object.__setattr__")))
    (kC_BadName : PySem.W.keepIn K (.ref C_BadName) = true)
    (ti_BadName : PySem.W.typeIn K (.ref f4) = some (.type "function"))
    (nf_BadName_name : PySem.W.findIn K (.ref C_BadName) "name" = some none)
    (exC_RepeatedName : PySem.W.subIn K (.ref C_RepeatedName) (.type "BaseException") = some true)
    (tyC_RepeatedName : PySem.W.typeIn K (.ref C_RepeatedName) = some (.type "type"))
    (xL_RepeatedName : K.lookup C_RepeatedName = some (excClassObj nm_RepeatedName q_RepeatedName C_RepeatedName N_RepeatedName bs_RepeatedName [.ref C_WatchError, .type "ValueError", .type "Exception", .type "BaseException", .type "object"] true sn_RepeatedName sub_RepeatedName ab_RepeatedName col_RepeatedName dd_RepeatedName m0_RepeatedName m1_RepeatedName m2_RepeatedName m3_RepeatedName m5_RepeatedName "ValueError.__new__"))
    (sa_RepeatedName : PySem.W.findIn K (.ref C_RepeatedName) "__setattr__" = some (some (.builtin "object.__setattr__")))
    (kC_RepeatedName : PySem.W.keepIn K (.ref C_RepeatedName) = true)
    (ti_RepeatedName : PySem.W.typeIn K (.ref f5) = some (.type "function"))
    (nf_RepeatedName_name : PySem.W.findIn K (.ref C_RepeatedName) "name" = some none)
    (exC_WrongLength : PySem.W.subIn K (.ref C_WrongLength) (.type "BaseException") = some true)
    (hdC_WrongLength : PySem.W.hasDictIn K C_WrongLength = true)
    (tyC_WrongLength : PySem.W.typeIn K (.ref C_WrongLength) = some (.type "type"))
    (meC_WrongLength : PySem.W.subIn K (.ref C_WrongLength) (.ref C_WrongLength) = some true)
    (xL_WrongLength : K.lookup C_WrongLength = some (excClassObj nm_WrongLength q_WrongLength C_WrongLength N_WrongLength bs_WrongLength [.ref C_WatchError, .type "ValueError", .type "Exception", .type "BaseException", .type "object"] true sn_WrongLength sub_WrongLength ab_WrongLength col_WrongLength dd_WrongLength m0_WrongLength m1_WrongLength m2_WrongLength m3_WrongLength m5_WrongLength "ValueError.__new__"))
    (sa_WrongLength : PySem.W.findIn K (.ref C_WrongLength) "__setattr__" = some (some (.builtin "object.__setattr__")))
    (kC_WrongLength : PySem.W.keepIn K (.ref C_WrongLength) = true)
    (ti_WrongLength : PySem.W.typeIn K (.ref f3) = some (.type "function"))
    (ga_WrongLength : PySem.W.findIn K (.ref C_WrongLength) "__getattribute__" = some (some (.builtin "BaseException.__getattribute__")))
    (gg_WrongLength : PySem.W.findIn K (.ref C_WrongLength) "__getattr__" = some none)
    (ha_WrongLength : PySem.W.findIn K (.ref C_WrongLength) "__class__" = some (some (.builtin "object.__class__")))
    (hm_WrongLength : PySem.W.mroIn K C_WrongLength (.type "object") = some true)
    (nf_WrongLength_length : PySem.W.findIn K (.ref C_WrongLength) "length" = some none)
    (exC_RepeatedHour : PySem.W.subIn K (.ref C_RepeatedHour) (.type "BaseException") = some true)
    (tyC_RepeatedHour : PySem.W.typeIn K (.ref C_RepeatedHour) = some (.type "type"))
    (xL_RepeatedHour : K.lookup C_RepeatedHour = some (excClassObj nm_RepeatedHour q_RepeatedHour C_RepeatedHour N_RepeatedHour bs_RepeatedHour [.ref C_WatchError, .type "ValueError", .type "Exception", .type "BaseException", .type "object"] true sn_RepeatedHour sub_RepeatedHour ab_RepeatedHour col_RepeatedHour dd_RepeatedHour m0_RepeatedHour m1_RepeatedHour m2_RepeatedHour m3_RepeatedHour m5_RepeatedHour "ValueError.__new__"))
    (sa_RepeatedHour : PySem.W.findIn K (.ref C_RepeatedHour) "__setattr__" = some (some (.builtin "object.__setattr__")))
    (kC_RepeatedHour : PySem.W.keepIn K (.ref C_RepeatedHour) = true)
    (ti_RepeatedHour : PySem.W.typeIn K (.ref f2) = some (.type "function"))
    (nf_RepeatedHour_hour : PySem.W.findIn K (.ref C_RepeatedHour) "hour" = some none)
    (exC_NoPlace : PySem.W.subIn K (.ref C_NoPlace) (.type "BaseException") = some true)
    (hdC_NoPlace : PySem.W.hasDictIn K C_NoPlace = true)
    (tyC_NoPlace : PySem.W.typeIn K (.ref C_NoPlace) = some (.type "type"))
    (meC_NoPlace : PySem.W.subIn K (.ref C_NoPlace) (.ref C_NoPlace) = some true)
    (xP_NoPlace : PySem.W.excIn K C_NoPlace [.type "ValueError", .type "Exception", .type "BaseException", .type "object"] "ValueError.__new__" = true)
    (kP_NoPlace : PySem.W.keepIn K (.ref C_NoPlace) = true)
    (ga_NoPlace : PySem.W.findIn K (.ref C_NoPlace) "__getattribute__" = some (some (.builtin "BaseException.__getattribute__")))
    (gg_NoPlace : PySem.W.findIn K (.ref C_NoPlace) "__getattr__" = some none)
    (ha_NoPlace : PySem.W.findIn K (.ref C_NoPlace) "__class__" = some (some (.builtin "object.__class__")))
    (hm_NoPlace : PySem.W.mroIn K C_NoPlace (.type "object") = some true)
    (exC_OtherHours : PySem.W.subIn K (.ref C_OtherHours) (.type "BaseException") = some true)
    (hdC_OtherHours : PySem.W.hasDictIn K C_OtherHours = true)
    (tyC_OtherHours : PySem.W.typeIn K (.ref C_OtherHours) = some (.type "type"))
    (meC_OtherHours : PySem.W.subIn K (.ref C_OtherHours) (.ref C_OtherHours) = some true)
    (xP_OtherHours : PySem.W.excIn K C_OtherHours [.type "ValueError", .type "Exception", .type "BaseException", .type "object"] "ValueError.__new__" = true)
    (kP_OtherHours : PySem.W.keepIn K (.ref C_OtherHours) = true)
    (ga_OtherHours : PySem.W.findIn K (.ref C_OtherHours) "__getattribute__" = some (some (.builtin "BaseException.__getattribute__")))
    (gg_OtherHours : PySem.W.findIn K (.ref C_OtherHours) "__getattr__" = some none)
    (ha_OtherHours : PySem.W.findIn K (.ref C_OtherHours) "__class__" = some (some (.builtin "object.__class__")))
    (hm_OtherHours : PySem.W.mroIn K C_OtherHours (.type "object") = some true)
    (sub_BadNumber_WrongLength : PySem.W.subIn K (.ref C_BadNumber) (.ref C_WrongLength) = some false)
    (sub_OtherHours_WrongLength : PySem.W.subIn K (.ref C_OtherHours) (.ref C_WrongLength) = some false)
    (exC_WatchError : PySem.W.subIn K (.ref C_WatchError) (.type "BaseException") = some true)
    (hdC_WatchError : PySem.W.hasDictIn K C_WatchError = true)
    (tyC_WatchError : PySem.W.typeIn K (.ref C_WatchError) = some (.type "type"))
    (meC_WatchError : PySem.W.subIn K (.ref C_WatchError) (.ref C_WatchError) = some true)
    (sub_WrongLength_WatchError : PySem.W.subIn K (.ref C_WrongLength) (.ref C_WatchError) = some true)
    (sub_WrongLength_BadNumber : PySem.W.subIn K (.ref C_WrongLength) (.ref C_BadNumber) = some false)
    (sub_WrongLength_OtherHours : PySem.W.subIn K (.ref C_WrongLength) (.ref C_OtherHours) = some false)
    (sub_BadNumber_WatchError : PySem.W.subIn K (.ref C_BadNumber) (.ref C_WatchError) = some true)
    (sub_BadNumber_NoPlace : PySem.W.subIn K (.ref C_BadNumber) (.ref C_NoPlace) = some false)
    (sub_NoPlace_WatchError : PySem.W.subIn K (.ref C_NoPlace) (.ref C_WatchError) = some true)
    (sub_NoPlace_ValueError : PySem.W.subIn K (.ref C_NoPlace) (.type "ValueError") = some true)
    (sub_NoPlace_BadNumber : PySem.W.subIn K (.ref C_NoPlace) (.ref C_BadNumber) = some false)
    (sub_NoPlace_WrongLength : PySem.W.subIn K (.ref C_NoPlace) (.ref C_WrongLength) = some false)
    (sub_OtherHours_WatchError : PySem.W.subIn K (.ref C_OtherHours) (.ref C_WatchError) = some true)
    (sub_OtherHours_ValueError : PySem.W.subIn K (.ref C_OtherHours) (.type "ValueError") = some true)
    (pg_House : PySem.W.plainGet K C_House Str.empty = true)
    (hd_House : PySem.W.hasDictIn K C_House = true)
    (po_House : PySem.W.plainOver K C_House = true)
    (sa_House : PySem.W.findIn K (.ref C_House) "__setattr__" = some (some (.builtin "object.__setattr__")))
    (mk_House : PySem.W.makesIn K C_House = true)
    (kc_House : PySem.W.keepIn K (.ref C_House) = true)
    (if_10 : PySem.W.isFn K (.ref f10) = true)
    (na_House_hours : PySem.W.findIn K (.ref C_House) "hours" = some none)
    (na_House_names : PySem.W.findIn K (.ref C_House) "names" = some none)
    (na_House_stakes : PySem.W.findIn K (.ref C_House) "stakes" = some none)
    (ha_House : PySem.W.findIn K (.ref C_House) "__class__" = some (some (.builtin "object.__class__")))
    (hm_House : PySem.W.mroIn K C_House (.type "object") = some true)
    (rd_House : PySem.W.readsIn K C_House (.type "type") = true)
    (gt_House : PySem.W.specialIn K (.ref C_House) "__getattribute__" = some (some (.builtin "type.__getattribute__")))
    (cv_House_MOST_HOURS : PySem.W.findCls K (.ref C_House) (.type "type") "MOST_HOURS" = some (.val (.int 24 tk_House_MOST_HOURS)))
    (cv_House_MOST_GATES : PySem.W.findCls K (.ref C_House) (.type "type") "MOST_GATES" = some (.val (.int 4 tk_House_MOST_GATES)))
    (cv_House_MOST_CELLS : PySem.W.findCls K (.ref C_House) (.type "type") "MOST_CELLS" = some (.val (.int 48 tk_House_MOST_CELLS)))
    (cv_House_MOST_STAKE : PySem.W.findCls K (.ref C_House) (.type "type") "MOST_STAKE" = some (.val (.int 60 tk_House_MOST_STAKE)))
    (pg_Watch : PySem.W.plainGet K C_Watch Str.empty = true)
    (hd_Watch : PySem.W.hasDictIn K C_Watch = true)
    (po_Watch : PySem.W.plainOver K C_Watch = true)
    (sa_Watch : PySem.W.findIn K (.ref C_Watch) "__setattr__" = some (some (.builtin "object.__setattr__")))
    (mk_Watch : PySem.W.makesIn K C_Watch = true)
    (kc_Watch : PySem.W.keepIn K (.ref C_Watch) = true)
    (if_15 : PySem.W.isFn K (.ref f15) = true)
    (na_Watch_house : PySem.W.findIn K (.ref C_Watch) "house" = some none)
    (na_Watch_rows : PySem.W.findIn K (.ref C_Watch) "_rows" = some none)
    (nn_Watch : PySem.W.findIn K (.ref C_Watch) "__ne__" = some (some (.builtin "object.__ne__")))
    (hm_Watch : PySem.W.mroIn K C_Watch (.type "object") = some true)
    (ha_Watch : PySem.W.findIn K (.ref C_Watch) "__class__" = some (some (.builtin "object.__class__")))
    (rd_Watch : PySem.W.readsIn K C_Watch (.type "type") = true)
    (gt_Watch : PySem.W.specialIn K (.ref C_Watch) "__getattribute__" = some (some (.builtin "type.__getattribute__")))
    (cv_Watch_MOST : PySem.W.findCls K (.ref C_Watch) (.type "type") "MOST" = some (.val (.int 96 tk_Watch_MOST)))
    (pg_Lot : PySem.W.plainGet K C_Lot Str.empty = true)
    (hd_Lot : PySem.W.hasDictIn K C_Lot = true)
    (po_Lot : PySem.W.plainOver K C_Lot = true)
    (sa_Lot : PySem.W.findIn K (.ref C_Lot) "__setattr__" = some (some (.builtin "object.__setattr__")))
    (mk_Lot : PySem.W.makesIn K C_Lot = true)
    (kc_Lot : PySem.W.keepIn K (.ref C_Lot) = true)
    (if_6 : PySem.W.isFn K (.ref f6) = true)
    (na_Lot_hours : PySem.W.findIn K (.ref C_Lot) "hours" = some none)
    (na_Lot_members : PySem.W.findIn K (.ref C_Lot) "_members" = some none)
    (ha_Lot : PySem.W.findIn K (.ref C_Lot) "__class__" = some (some (.builtin "object.__class__")))
    (hm_Lot : PySem.W.mroIn K C_Lot (.type "object") = some true)
    (rd_Lot : PySem.W.readsIn K C_Lot (.type "type") = true)
    (gt_Lot : PySem.W.specialIn K (.ref C_Lot) "__getattribute__" = some (some (.builtin "type.__getattribute__")))
    (cv_Lot_MOST : PySem.W.findCls K (.ref C_Lot) (.type "type") "MOST" = some (.val (.int 360 tk_Lot_MOST)))
    (if_7 : PySem.W.isFn K (.ref f7) = true)
    (if_11 : PySem.W.isFn K (.ref f11) = true)
    (if_12 : PySem.W.isFn K (.ref f12) = true)
    (fi_16 : PySem.W.fnIn K f16 = true)
    (fi_17 : PySem.W.fnIn K f17 = true)
    (pg_18 : PySem.W.specialIn K (.ref p18) "__get__" = some (some (.builtin "property.__get__")))
    (pt_18 : PySem.W.takesIn K (.ref p18) = some true)
    (if_19 : PySem.W.isFn K (.ref f19) = true)
    (fi_19 : PySem.W.fnIn K f19 = true)
    (if_20 : PySem.W.isFn K (.ref f20) = true)
    : ∃ fd : FuncData, (∀ (s : Shared) (v : Value), BindsTo s fd ⟨[v], []⟩ [("script", v)]) ∧ ∀ base : Heap, K.In base → base.Ns mainGlobals mg → FnOk l.prog w K mg base CX0 20 fa fd ["script"] ((spLaw K)) := by
  have e := hfa.symm.trans (PySem.W.mg_of X G a38)
  cases e
  let A : Ads := {
    f_BadNumber_init := f0,
    d_BadNumber_init := PySem.W.fnOf "__init__" "BadNumber.__init__" (defArgs s_BadNumber_init) (defBody s_BadNumber_init) (defScope s_BadNumber_init) .none kV0 dc0 pm0 an0 cd0 ct0,
    f_TooMany_init := f1,
    d_TooMany_init := PySem.W.fnOf "__init__" "TooMany.__init__" (defArgs s_TooMany_init) (defBody s_TooMany_init) (defScope s_TooMany_init) .none kV1 dc1 pm1 an1 cd1 ct1,
    f_RepeatedHour_init := f2,
    d_RepeatedHour_init := PySem.W.fnOf "__init__" "RepeatedHour.__init__" (defArgs s_RepeatedHour_init) (defBody s_RepeatedHour_init) (defScope s_RepeatedHour_init) .none kV2 dc2 pm2 an2 cd2 ct2,
    f_WrongLength_init := f3,
    d_WrongLength_init := PySem.W.fnOf "__init__" "WrongLength.__init__" (defArgs s_WrongLength_init) (defBody s_WrongLength_init) (defScope s_WrongLength_init) .none kV3 dc3 pm3 an3 cd3 ct3,
    f_BadName_init := f4,
    d_BadName_init := PySem.W.fnOf "__init__" "BadName.__init__" (defArgs s_BadName_init) (defBody s_BadName_init) (defScope s_BadName_init) .none kV4 dc4 pm4 an4 cd4 ct4,
    f_RepeatedName_init := f5,
    d_RepeatedName_init := PySem.W.fnOf "__init__" "RepeatedName.__init__" (defArgs s_RepeatedName_init) (defBody s_RepeatedName_init) (defScope s_RepeatedName_init) .none kV5 dc5 pm5 an5 cd5 ct5,
    f_Lot_init := f6,
    d_Lot_init := PySem.W.fnOf "__init__" "Lot.__init__" (defArgs s_Lot_init) (defBody s_Lot_init) (defScope s_Lot_init) .none kV6 dc6 pm6 an6 cd6 ct6,
    f_Lot_contains := f7,
    d_Lot_contains := PySem.W.fnOf "__contains__" "Lot.__contains__" (defArgs s_Lot_contains) (defBody s_Lot_contains) (defScope s_Lot_contains) .none kV7 dc7 pm7 an7 cd7 ct7,
    f_check_name := f8,
    d_check_name := PySem.W.fnOf "check_name" "check_name" (defArgs s_check_name) (defBody s_check_name) (defScope s_check_name) .none kV8 dc8 pm8 an8 cd8 ct8,
    f_check_new_name := f9,
    d_check_new_name := PySem.W.fnOf "check_new_name" "check_new_name" (defArgs s_check_new_name) (defBody s_check_new_name) (defScope s_check_new_name) .none kV9 dc9 pm9 an9 cd9 ct9,
    f_House_init := f10,
    d_House_init := PySem.W.fnOf "__init__" "House.__init__" (defArgs s_House_init) (defBody s_House_init) (defScope s_House_init) .none kV10 dc10 pm10 an10 cd10 ct10,
    f_House_len := f11,
    d_House_len := PySem.W.fnOf "__len__" "House.__len__" (defArgs s_House_len) (defBody s_House_len) (defScope s_House_len) .none kV11 dc11 pm11 an11 cd11 ct11,
    f_House_eq := f12,
    d_House_eq := PySem.W.fnOf "__eq__" "House.__eq__" (defArgs s_House_eq) (defBody s_House_eq) (defScope s_House_eq) .none kV12 dc12 pm12 an12 cd12 ct12,
    f_is_gate := f13,
    d_is_gate := PySem.W.fnOf "is_gate" "is_gate" (defArgs s_is_gate) (defBody s_is_gate) (defScope s_is_gate) .none kV13 dc13 pm13 an13 cd13 ct13,
    f_u_check_row := f14,
    d_u_check_row := PySem.W.fnOf "_check_row" "_check_row" (defArgs s_u_check_row) (defBody s_u_check_row) (defScope s_u_check_row) .none kV14 dc14 pm14 an14 cd14 ct14,
    f_Watch_init := f15,
    d_Watch_init := PySem.W.fnOf "__init__" "Watch.__init__" (defArgs s_Watch_init) (defBody s_Watch_init) (defScope s_Watch_init) .none kV15 dc15 pm15 an15 cd15 ct15,
    f_Watch_empty := f16,
    d_Watch_empty := PySem.W.fnOf "empty" "Watch.empty" (defArgs s_Watch_empty) (defBody s_Watch_empty) (defScope s_Watch_empty) .none kV16 dc16 pm16 an16 cd16 ct16,
    f_Watch_of_lots := f17,
    d_Watch_of_lots := PySem.W.fnOf "of_lots" "Watch.of_lots" (defArgs s_Watch_of_lots) (defBody s_Watch_of_lots) (defScope s_Watch_of_lots) .none kV17 dc17 pm17 an17 cd17 ct17,
    f_Watch_rows := f18,
    d_Watch_rows := PySem.W.fnOf "rows" "Watch.rows" (defArgs s_Watch_rows) (defBody s_Watch_rows) (defScope s_Watch_rows) .none kV18 dc18 pm18 an18 cd18 ct18,
    f_Watch_getitem := f19,
    d_Watch_getitem := PySem.W.fnOf "__getitem__" "Watch.__getitem__" (defArgs s_Watch_getitem) (defBody s_Watch_getitem) (defScope s_Watch_getitem) .none kV19 dc19 pm19 an19 cd19 ct19,
    f_Watch_eq := f20,
    d_Watch_eq := PySem.W.fnOf "__eq__" "Watch.__eq__" (defArgs s_Watch_eq) (defBody s_Watch_eq) (defScope s_Watch_eq) .none kV20 dc20 pm20 an20 cd20 ct20,
    f_u_law_cell := f21,
    d_u_law_cell := PySem.W.fnOf "_law_cell" "_law_cell" (defArgs s_u_law_cell) (defBody s_u_law_cell) (defScope s_u_law_cell) .none kV21 dc21 pm21 an21 cd21 ct21,
    f_u_law_draws := f22,
    d_u_law_draws := PySem.W.fnOf "_law_draws" "_law_draws" (defArgs s_u_law_draws) (defBody s_u_law_draws) (defScope s_u_law_draws) .none kV22 dc22 pm22 an22 cd22 ct22,
    f_u_law_two := f23,
    d_u_law_two := PySem.W.fnOf "_law_two" "_law_two" (defArgs s_u_law_two) (defBody s_u_law_two) (defScope s_u_law_two) .none kV23 dc23 pm23 an23 cd23 ct23,
    f_u_law_bits := f24,
    d_u_law_bits := PySem.W.fnOf "_law_bits" "_law_bits" (defArgs s_u_law_bits) (defBody s_u_law_bits) (defScope s_u_law_bits) .none kV24 dc24 pm24 an24 cd24 ct24,
    f_u_law_name := f25,
    d_u_law_name := PySem.W.fnOf "_law_name" "_law_name" (defArgs s_u_law_name) (defBody s_u_law_name) (defScope s_u_law_name) .none kV25 dc25 pm25 an25 cd25 ct25,
    f_u_law_names := f26,
    d_u_law_names := PySem.W.fnOf "_law_names" "_law_names" (defArgs s_u_law_names) (defBody s_u_law_names) (defScope s_u_law_names) .none kV26 dc26 pm26 an26 cd26 ct26,
    f_u_law_gates := f27,
    d_u_law_gates := PySem.W.fnOf "_law_gates" "_law_gates" (defArgs s_u_law_gates) (defBody s_u_law_gates) (defScope s_u_law_gates) .none kV27 dc27 pm27 an27 cd27 ct27,
    f_u_law_rows := f28,
    d_u_law_rows := PySem.W.fnOf "_law_rows" "_law_rows" (defArgs s_u_law_rows) (defBody s_u_law_rows) (defScope s_u_law_rows) .none kV28 dc28 pm28 an28 cd28 ct28,
    f_u_law_is_int := f29,
    d_u_law_is_int := PySem.W.fnOf "_law_is_int" "_law_is_int" (defArgs s_u_law_is_int) (defBody s_u_law_is_int) (defScope s_u_law_is_int) .none kV29 dc29 pm29 an29 cd29 ct29,
    f_u_law_same := f30,
    d_u_law_same := PySem.W.fnOf "_law_same" "_law_same" (defArgs s_u_law_same) (defBody s_u_law_same) (defScope s_u_law_same) .none kV30 dc30 pm30 an30 cd30 ct30,
    f_u_law_bad_rows := f31,
    d_u_law_bad_rows := PySem.W.fnOf "_law_bad_rows" "_law_bad_rows" (defArgs s_u_law_bad_rows) (defBody s_u_law_bad_rows) (defScope s_u_law_bad_rows) .none kV31 dc31 pm31 an31 cd31 ct31,
    f_u_law_first_error := f32,
    d_u_law_first_error := PySem.W.fnOf "_law_first_error" "_law_first_error" (defArgs s_u_law_first_error) (defBody s_u_law_first_error) (defScope s_u_law_first_error) .none kV32 dc32 pm32 an32 cd32 ct32,
    f_u_law_no_gate := f33,
    d_u_law_no_gate := PySem.W.fnOf "_law_no_gate" "_law_no_gate" (defArgs s_u_law_no_gate) (defBody s_u_law_no_gate) (defScope s_u_law_no_gate) .none kV33 dc33 pm33 an33 cd33 ct33,
    f_u_law_shows := f34,
    d_u_law_shows := PySem.W.fnOf "_law_shows" "_law_shows" (defArgs s_u_law_shows) (defBody s_u_law_shows) (defScope s_u_law_shows) .none kV34 dc34 pm34 an34 cd34 ct34,
    f_u_law_answers := f35,
    d_u_law_answers := PySem.W.fnOf "_law_answers" "_law_answers" (defArgs s_u_law_answers) (defBody s_u_law_answers) (defScope s_u_law_answers) .none kV35 dc35 pm35 an35 cd35 ct35,
    f_u_law_lots_told := f36,
    d_u_law_lots_told := PySem.W.fnOf "_law_lots_told" "_law_lots_told" (defArgs s_u_law_lots_told) (defBody s_u_law_lots_told) (defScope s_u_law_lots_told) .none kV36 dc36 pm36 an36 cd36 ct36,
    f_u_law_of_lots := f37,
    d_u_law_of_lots := PySem.W.fnOf "_law_of_lots" "_law_of_lots" (defArgs s_u_law_of_lots) (defBody s_u_law_of_lots) (defScope s_u_law_of_lots) .none kV37 dc37 pm37 an37 cd37 ct37,
    f_law := fa,
    d_law := PySem.W.fnOf "law" "law" (defArgs s_law) (defBody s_law) (defScope s_law) .none kV38 dc38 pm38 an38 cd38 ct38,
    C_BadNumber := C_BadNumber,
    C_TooMany := C_TooMany,
    C_RepeatedHour := C_RepeatedHour,
    C_OtherHours := C_OtherHours,
    C_WrongLength := C_WrongLength,
    C_NoPlace := C_NoPlace,
    C_BadName := C_BadName,
    C_RepeatedName := C_RepeatedName,
    C_WatchError := C_WatchError,
    C_Lot := C_Lot,
    C_House := C_House,
    C_Watch := C_Watch,
    p_Watch_empty := p16,
    p_Watch_of_lots := p17,
    p_Watch_rows := p18 }
  have T : Txt K mg A := {
    F_BadNumber_init := fun_mk (st := s_BadNumber_init) l0 c0 k0,
    F_TooMany_init := fun_mk (st := s_TooMany_init) l1 c1 k1,
    F_RepeatedHour_init := fun_mk (st := s_RepeatedHour_init) l2 c2 k2,
    F_WrongLength_init := fun_mk (st := s_WrongLength_init) l3 c3 k3,
    F_BadName_init := fun_mk (st := s_BadName_init) l4 c4 k4,
    F_RepeatedName_init := fun_mk (st := s_RepeatedName_init) l5 c5 k5,
    F_Lot_init := fun_mk (st := s_Lot_init) l6 c6 k6,
    F_Lot_contains := fun_mk (st := s_Lot_contains) l7 c7 k7,
    F_check_name := fun_mk (st := s_check_name) l8 c8 k8,
    g_check_name := PySem.W.mg_of X G a8,
    k_check_name := k8,
    F_check_new_name := fun_mk (st := s_check_new_name) l9 c9 k9,
    g_check_new_name := PySem.W.mg_of X G a9,
    k_check_new_name := k9,
    F_House_init := fun_mk (st := s_House_init) l10 c10 k10,
    F_House_len := fun_mk (st := s_House_len) l11 c11 k11,
    F_House_eq := fun_mk (st := s_House_eq) l12 c12 k12,
    F_is_gate := fun_mk (st := s_is_gate) l13 c13 k13,
    g_is_gate := PySem.W.mg_of X G a13,
    k_is_gate := k13,
    F_u_check_row := fun_mk (st := s_u_check_row) l14 c14 k14,
    g_u_check_row := PySem.W.mg_of X G a14,
    k_u_check_row := k14,
    F_Watch_init := fun_mk (st := s_Watch_init) l15 c15 k15,
    F_Watch_empty := fun_mk (st := s_Watch_empty) l16 c16 k16,
    F_Watch_of_lots := fun_mk (st := s_Watch_of_lots) l17 c17 k17,
    F_Watch_rows := fun_mk (st := s_Watch_rows) l18 c18 k18,
    F_Watch_getitem := fun_mk (st := s_Watch_getitem) l19 c19 k19,
    F_Watch_eq := fun_mk (st := s_Watch_eq) l20 c20 k20,
    F_u_law_cell := fun_mk (st := s_u_law_cell) l21 c21 k21,
    g_u_law_cell := PySem.W.mg_of X G a21,
    k_u_law_cell := k21,
    F_u_law_draws := fun_mk (st := s_u_law_draws) l22 c22 k22,
    g_u_law_draws := PySem.W.mg_of X G a22,
    k_u_law_draws := k22,
    F_u_law_two := fun_mk (st := s_u_law_two) l23 c23 k23,
    g_u_law_two := PySem.W.mg_of X G a23,
    k_u_law_two := k23,
    F_u_law_bits := fun_mk (st := s_u_law_bits) l24 c24 k24,
    g_u_law_bits := PySem.W.mg_of X G a24,
    k_u_law_bits := k24,
    F_u_law_name := fun_mk (st := s_u_law_name) l25 c25 k25,
    g_u_law_name := PySem.W.mg_of X G a25,
    k_u_law_name := k25,
    F_u_law_names := fun_mk (st := s_u_law_names) l26 c26 k26,
    g_u_law_names := PySem.W.mg_of X G a26,
    k_u_law_names := k26,
    F_u_law_gates := fun_mk (st := s_u_law_gates) l27 c27 k27,
    g_u_law_gates := PySem.W.mg_of X G a27,
    k_u_law_gates := k27,
    F_u_law_rows := fun_mk (st := s_u_law_rows) l28 c28 k28,
    g_u_law_rows := PySem.W.mg_of X G a28,
    k_u_law_rows := k28,
    F_u_law_is_int := fun_mk (st := s_u_law_is_int) l29 c29 k29,
    g_u_law_is_int := PySem.W.mg_of X G a29,
    k_u_law_is_int := k29,
    F_u_law_same := fun_mk (st := s_u_law_same) l30 c30 k30,
    g_u_law_same := PySem.W.mg_of X G a30,
    k_u_law_same := k30,
    F_u_law_bad_rows := fun_mk (st := s_u_law_bad_rows) l31 c31 k31,
    g_u_law_bad_rows := PySem.W.mg_of X G a31,
    k_u_law_bad_rows := k31,
    F_u_law_first_error := fun_mk (st := s_u_law_first_error) l32 c32 k32,
    g_u_law_first_error := PySem.W.mg_of X G a32,
    k_u_law_first_error := k32,
    F_u_law_no_gate := fun_mk (st := s_u_law_no_gate) l33 c33 k33,
    g_u_law_no_gate := PySem.W.mg_of X G a33,
    k_u_law_no_gate := k33,
    F_u_law_shows := fun_mk (st := s_u_law_shows) l34 c34 k34,
    g_u_law_shows := PySem.W.mg_of X G a34,
    k_u_law_shows := k34,
    F_u_law_answers := fun_mk (st := s_u_law_answers) l35 c35 k35,
    g_u_law_answers := PySem.W.mg_of X G a35,
    k_u_law_answers := k35,
    F_u_law_lots_told := fun_mk (st := s_u_law_lots_told) l36 c36 k36,
    g_u_law_lots_told := PySem.W.mg_of X G a36,
    k_u_law_lots_told := k36,
    F_u_law_of_lots := fun_mk (st := s_u_law_of_lots) l37 c37 k37,
    g_u_law_of_lots := PySem.W.mg_of X G a37,
    k_u_law_of_lots := k37,
    F_law := fun_mk (st := s_law) l38 c38 k38,
    g_law := hfa,
    k_law := k38,
    c_LONGEST_NAME := ⟨_, PySem.W.mg_of X G kc_LONGEST_NAME⟩,
    c_LETTERS := ⟨_, PySem.W.mg_of X G kc_LETTERS⟩,
    z_abs := PySem.W.mg_none_of X G z_abs,
    z_len := PySem.W.mg_none_of X G z_len,
    z_int := PySem.W.mg_none_of X G z_int,
    z_bool := PySem.W.mg_none_of X G z_bool,
    z_str := PySem.W.mg_none_of X G z_str,
    z_list := PySem.W.mg_none_of X G z_list,
    z_tuple := PySem.W.mg_none_of X G z_tuple,
    z_isinstance := PySem.W.mg_none_of X G z_isinstance,
    z_range := PySem.W.mg_none_of X G z_range,
    z_ValueError := PySem.W.mg_none_of X G z_ValueError,
    z_min := PySem.W.mg_none_of X G z_min,
    g_BadNumber := PySem.W.mg_of X G g_BadNumber,
    g_TooMany := PySem.W.mg_of X G g_TooMany,
    g_RepeatedHour := PySem.W.mg_of X G g_RepeatedHour,
    g_OtherHours := PySem.W.mg_of X G g_OtherHours,
    g_WrongLength := PySem.W.mg_of X G g_WrongLength,
    g_NoPlace := PySem.W.mg_of X G g_NoPlace,
    g_BadName := PySem.W.mg_of X G g_BadName,
    g_RepeatedName := PySem.W.mg_of X G g_RepeatedName,
    g_WatchError := PySem.W.mg_of X G g_WatchError,
    g_Lot := PySem.W.mg_of X G g_Lot,
    g_House := PySem.W.mg_of X G g_House,
    g_Watch := PySem.W.mg_of X G g_Watch,
    si_list := siLW,
    kit_list_Watch := kit_no hdW tyW meC_Watch siLW,
    ox_BadNumber := ⟨⟨nm_BadNumber, q_BadNumber, N_BadNumber, bs_BadNumber, _, sn_BadNumber, sub_BadNumber, ab_BadNumber, col_BadNumber, dd_BadNumber, m0_BadNumber, m1_BadNumber, m2_BadNumber, m3_BadNumber, m5_BadNumber, xL_BadNumber, rfl⟩, sa_BadNumber, exC_BadNumber, tyC_BadNumber, kC_BadNumber⟩,
    ni_BadNumber := a0,
    ti_BadNumber := ti_BadNumber,
    nf_BadNumber_name := nf_BadNumber_name,
    nf_BadNumber_value := nf_BadNumber_value,
    xf_BadNumber := ⟨ga_BadNumber, gg_BadNumber, exC_BadNumber, hdC_BadNumber⟩,
    ex_BadNumber := ⟨ga_BadNumber, gg_BadNumber, exC_BadNumber, hdC_BadNumber, ha_BadNumber, hn_, ht_, hm_BadNumber⟩,
    ox_TooMany := ⟨⟨nm_TooMany, q_TooMany, N_TooMany, bs_TooMany, _, sn_TooMany, sub_TooMany, ab_TooMany, col_TooMany, dd_TooMany, m0_TooMany, m1_TooMany, m2_TooMany, m3_TooMany, m5_TooMany, xL_TooMany, rfl⟩, sa_TooMany, exC_TooMany, tyC_TooMany, kC_TooMany⟩,
    ni_TooMany := a1,
    ti_TooMany := ti_TooMany,
    nf_TooMany_name := nf_TooMany_name,
    nf_TooMany_most := nf_TooMany_most,
    ox_BadName := ⟨⟨nm_BadName, q_BadName, N_BadName, bs_BadName, _, sn_BadName, sub_BadName, ab_BadName, col_BadName, dd_BadName, m0_BadName, m1_BadName, m2_BadName, m3_BadName, m5_BadName, xL_BadName, rfl⟩, sa_BadName, exC_BadName, tyC_BadName, kC_BadName⟩,
    ni_BadName := a4,
    ti_BadName := ti_BadName,
    nf_BadName_name := nf_BadName_name,
    ox_RepeatedName := ⟨⟨nm_RepeatedName, q_RepeatedName, N_RepeatedName, bs_RepeatedName, _, sn_RepeatedName, sub_RepeatedName, ab_RepeatedName, col_RepeatedName, dd_RepeatedName, m0_RepeatedName, m1_RepeatedName, m2_RepeatedName, m3_RepeatedName, m5_RepeatedName, xL_RepeatedName, rfl⟩, sa_RepeatedName, exC_RepeatedName, tyC_RepeatedName, kC_RepeatedName⟩,
    ni_RepeatedName := a5,
    ti_RepeatedName := ti_RepeatedName,
    nf_RepeatedName_name := nf_RepeatedName_name,
    ox_WrongLength := ⟨⟨nm_WrongLength, q_WrongLength, N_WrongLength, bs_WrongLength, _, sn_WrongLength, sub_WrongLength, ab_WrongLength, col_WrongLength, dd_WrongLength, m0_WrongLength, m1_WrongLength, m2_WrongLength, m3_WrongLength, m5_WrongLength, xL_WrongLength, rfl⟩, sa_WrongLength, exC_WrongLength, tyC_WrongLength, kC_WrongLength⟩,
    ni_WrongLength := a3,
    ti_WrongLength := ti_WrongLength,
    nf_WrongLength_length := nf_WrongLength_length,
    xf_WrongLength := ⟨ga_WrongLength, gg_WrongLength, exC_WrongLength, hdC_WrongLength⟩,
    ex_WrongLength := ⟨ga_WrongLength, gg_WrongLength, exC_WrongLength, hdC_WrongLength, ha_WrongLength, hn_, ht_, hm_WrongLength⟩,
    ox_RepeatedHour := ⟨⟨nm_RepeatedHour, q_RepeatedHour, N_RepeatedHour, bs_RepeatedHour, _, sn_RepeatedHour, sub_RepeatedHour, ab_RepeatedHour, col_RepeatedHour, dd_RepeatedHour, m0_RepeatedHour, m1_RepeatedHour, m2_RepeatedHour, m3_RepeatedHour, m5_RepeatedHour, xL_RepeatedHour, rfl⟩, sa_RepeatedHour, exC_RepeatedHour, tyC_RepeatedHour, kC_RepeatedHour⟩,
    ni_RepeatedHour := a2,
    ti_RepeatedHour := ti_RepeatedHour,
    nf_RepeatedHour_hour := nf_RepeatedHour_hour,
    xP_NoPlace := xP_NoPlace,
    kP_NoPlace := kP_NoPlace,
    bP_NoPlace := exC_NoPlace,
    tP_NoPlace := tyC_NoPlace,
    ex_NoPlace := ⟨ga_NoPlace, gg_NoPlace, exC_NoPlace, hdC_NoPlace, ha_NoPlace, hn_, ht_, hm_NoPlace⟩,
    xP_OtherHours := xP_OtherHours,
    kP_OtherHours := kP_OtherHours,
    bP_OtherHours := exC_OtherHours,
    tP_OtherHours := tyC_OtherHours,
    ex_OtherHours := ⟨ga_OtherHours, gg_OtherHours, exC_OtherHours, hdC_OtherHours, ha_OtherHours, hn_, ht_, hm_OtherHours⟩,
    xm_WrongLength_WrongLength := PySem.W.exm_ref exC_WrongLength hdC_WrongLength tyC_WrongLength meC_WrongLength,
    xm_BadNumber_WrongLength := PySem.W.exm_ref exC_WrongLength hdC_WrongLength tyC_WrongLength sub_BadNumber_WrongLength,
    xm_BadNumber_BadNumber := PySem.W.exm_ref exC_BadNumber hdC_BadNumber tyC_BadNumber meC_BadNumber,
    xm_NoPlace_NoPlace := PySem.W.exm_ref exC_NoPlace hdC_NoPlace tyC_NoPlace meC_NoPlace,
    xm_OtherHours_WrongLength := PySem.W.exm_ref exC_WrongLength hdC_WrongLength tyC_WrongLength sub_OtherHours_WrongLength,
    xm_OtherHours_OtherHours := PySem.W.exm_ref exC_OtherHours hdC_OtherHours tyC_OtherHours meC_OtherHours,
    kit_WrongLength_WatchError := kit_yes hdC_WatchError tyC_WatchError sub_WrongLength_WatchError,
    kit_WrongLength_BadNumber := kit_no hdC_BadNumber tyC_BadNumber meC_BadNumber sub_WrongLength_BadNumber,
    kit_WrongLength_OtherHours := kit_no hdC_OtherHours tyC_OtherHours meC_OtherHours sub_WrongLength_OtherHours,
    kit_BadNumber_WatchError := kit_yes hdC_WatchError tyC_WatchError sub_BadNumber_WatchError,
    kit_BadNumber_WrongLength := kit_no hdC_WrongLength tyC_WrongLength meC_WrongLength sub_BadNumber_WrongLength,
    kit_BadNumber_NoPlace := kit_no hdC_NoPlace tyC_NoPlace meC_NoPlace sub_BadNumber_NoPlace,
    kit_NoPlace_WatchError := kit_yes hdC_WatchError tyC_WatchError sub_NoPlace_WatchError,
    kit_NoPlace_ValueError := kit_bi (by decide +kernel) sub_NoPlace_ValueError,
    kit_NoPlace_BadNumber := kit_no hdC_BadNumber tyC_BadNumber meC_BadNumber sub_NoPlace_BadNumber,
    kit_NoPlace_WrongLength := kit_no hdC_WrongLength tyC_WrongLength meC_WrongLength sub_NoPlace_WrongLength,
    kit_OtherHours_WatchError := kit_yes hdC_WatchError tyC_WatchError sub_OtherHours_WatchError,
    kit_OtherHours_ValueError := kit_bi (by decide +kernel) sub_OtherHours_ValueError,
    kit_OtherHours_WrongLength := kit_no hdC_WrongLength tyC_WrongLength meC_WrongLength sub_OtherHours_WrongLength,
    cl_House := ⟨pg_House, hd_House, po_House, sa_House⟩,
    mk_House := ⟨mk_House, a10, if_10, kc_House⟩,
    na_House_hours := na_House_hours,
    na_House_names := na_House_names,
    na_House_stakes := na_House_stakes,
    ty_House := fun H a dx fs e => .base (.ins e ⟨pg_House, hd_House, po_House, sa_House⟩ ha_House hn_ ht_ hm_House),
    rd_House := ⟨.type "type", ⟨rd_House, gt_House⟩, ⟨_, cv_House_MOST_HOURS, ⟨_, rfl⟩⟩, ⟨_, cv_House_MOST_GATES, ⟨_, rfl⟩⟩, ⟨_, cv_House_MOST_CELLS, ⟨_, rfl⟩⟩, ⟨_, cv_House_MOST_STAKE, ⟨_, rfl⟩⟩⟩,
    cl_Watch := ⟨pg_Watch, hd_Watch, po_Watch, sa_Watch⟩,
    mk_Watch := ⟨mk_Watch, a15, if_15, kc_Watch⟩,
    na_Watch_house := na_Watch_house,
    na_Watch_rows := na_Watch_rows,
    ne_Watch := ⟨hm_Watch, nn_Watch⟩,
    ty_Watch := fun H a dx fs e => .base (.ins e ⟨pg_Watch, hd_Watch, po_Watch, sa_Watch⟩ ha_Watch hn_ ht_ hm_Watch),
    rd_Watch := ⟨.type "type", ⟨rd_Watch, gt_Watch⟩, ⟨_, cv_Watch_MOST, ⟨_, rfl⟩⟩⟩,
    cl_Lot := ⟨pg_Lot, hd_Lot, po_Lot, sa_Lot⟩,
    mk_Lot := ⟨mk_Lot, a6, if_6, kc_Lot⟩,
    na_Lot_hours := na_Lot_hours,
    na_Lot_members := na_Lot_members,
    ty_Lot := fun H a dx fs e => .base (.ins e ⟨pg_Lot, hd_Lot, po_Lot, sa_Lot⟩ ha_Lot hn_ ht_ hm_Lot),
    rd_Lot := ⟨.type "type", ⟨rd_Lot, gt_Lot⟩, ⟨_, cv_Lot_MOST, ⟨_, rfl⟩⟩⟩,
    M_Lot_contains := ⟨a7, if_7, k7⟩,
    M_House_len := ⟨a11, if_11, k11⟩,
    M_House_eq := ⟨a12, if_12, k12⟩,
    CM_Watch_empty := ⟨.type "type", ⟨rd_Watch, gt_Watch⟩, ⟨pa_16, ⟨_, a16⟩, fi_16⟩⟩,
    CM_Watch_of_lots := ⟨.type "type", ⟨rd_Watch, gt_Watch⟩, ⟨pa_17, ⟨_, a17⟩, fi_17⟩⟩,
    P_Watch_rows := ⟨pa_18, pg_18, pt_18, ⟨_, a18⟩⟩,
    M_Watch_getitem := ⟨a19, if_19, k19⟩,
    FI_Watch_getitem := fi_19,
    M_Watch_eq := ⟨a20, if_20, k20⟩ }
  exact ⟨A.d_law, fun s v => .of_eq rfl, fun base _ _ => ok_law T⟩
end
theorem walk {l : PySem.W.OpenLaw} {q : Program} {loose : List Str} {XP : (Str → Option Value) → Heap → Prop} {YP : World → Heap → Prop} {d : DefRec} {K : Params → PySem.W.Frag} (hn : l.most = some 63) (hdf : d.params.defaults = [])
    (hY : ∀ (w : World) (h : Heap), YP w h → (K w.params).In h)
    (F : ∀ (w : World) (mg : Str → Option Value) (fa : Addr) (h : Heap), (K w.params).In h → h.Ns mainGlobals mg → mg d.name = some (.ref fa) →
      ∃ fd : FuncData, (∀ (s : Shared) (u : Value), BindsTo s fd ⟨[u], []⟩ [("script", u)]) ∧ ∀ base : Heap, (K w.params).In base → base.Ns mainGlobals mg → FnOk l.prog w (K w.params) mg base CX0 20 fa fd ["script"] ((spLaw) (K w.params))) :
    PySem.W.WalkO q loose XP YP l.row.toRowW d [] (fun f vs => PySem.call f vs) :=
  L2.walk_of (n := 63) (k := 20) (x := "script") (CX := fun _ => CX0) (sp := fun w => (spLaw) (K w.params)) hn (by decide) hdf ⟨rfl, by decide, by decide⟩ hY F (fun _ _ a ns hl _ hS => ⟨a, ns, rfl, hS, hl, fun _ => rfl⟩) fun _ _ _ _ _ z => z
end Pf
open PySem PySem.W PyProof.Rows
set_option maxRecDepth 100000 in
set_option maxHeartbeats 0 in
theorem PySem.Challenge.cw_watchbeats_k29_watch_told_holds : PySem.Challenge.rw_watchbeats_k29_watch_told.Holds := by
  w_on; o_law; k_head; (case hw => w_witness2)
  k_fill
  refine Pf.walk (l := PySem.Challenge.rw_watchbeats_k29_watch_told) rfl rfl (fun w h Y => PySem.W.kIn_of Y) ?F
  case F =>
    intro w mg fa h KX G hmg
    refine' Pf.all_mk KX G hmg ?g_BadNumber ?g_TooMany ?g_RepeatedHour ?g_OtherHours ?g_WrongLength ?g_NoPlace ?g_BadName ?g_RepeatedName ?g_WatchError ?g_Lot ?g_House ?g_Watch ?a0 ?l0 ?c0 ?k0 ?a1 ?l1 ?c1 ?k1 ?a2 ?l2 ?c2 ?k2 ?a3 ?l3 ?c3 ?k3 ?a4 ?l4 ?c4 ?k4 ?a5 ?l5 ?c5 ?k5 ?a6 ?l6 ?c6 ?k6 ?a7 ?l7 ?c7 ?k7 ?a8 ?l8 ?c8 ?k8 ?a9 ?l9 ?c9 ?k9 ?a10 ?l10 ?c10 ?k10 ?a11 ?l11 ?c11 ?k11 ?a12 ?l12 ?c12 ?k12 ?a13 ?l13 ?c13 ?k13 ?a14 ?l14 ?c14 ?k14 ?a15 ?l15 ?c15 ?k15 ?pa_16 ?a16 ?l16 ?c16 ?k16 ?pa_17 ?a17 ?l17 ?c17 ?k17 ?pa_18 ?a18 ?l18 ?c18 ?k18 ?a19 ?l19 ?c19 ?k19 ?a20 ?l20 ?c20 ?k20 ?a21 ?l21 ?c21 ?k21 ?a22 ?l22 ?c22 ?k22 ?a23 ?l23 ?c23 ?k23 ?a24 ?l24 ?c24 ?k24 ?a25 ?l25 ?c25 ?k25 ?a26 ?l26 ?c26 ?k26 ?a27 ?l27 ?c27 ?k27 ?a28 ?l28 ?c28 ?k28 ?a29 ?l29 ?c29 ?k29 ?a30 ?l30 ?c30 ?k30 ?a31 ?l31 ?c31 ?k31 ?a32 ?l32 ?c32 ?k32 ?a33 ?l33 ?c33 ?k33 ?a34 ?l34 ?c34 ?k34 ?a35 ?l35 ?c35 ?k35 ?a36 ?l36 ?c36 ?k36 ?a37 ?l37 ?c37 ?k37 ?a38 ?l38 ?c38 ?k38 ?kc_LONGEST_NAME ?kc_LETTERS ?z_abs ?z_len ?z_int ?z_bool ?z_str ?z_list ?z_tuple ?z_isinstance ?z_range ?z_ValueError ?z_min ?hdW ?tyW ?meC_Watch ?siLW ?exC_BadNumber ?hdC_BadNumber ?tyC_BadNumber ?meC_BadNumber ?xL_BadNumber ?sa_BadNumber ?kC_BadNumber ?ti_BadNumber ?ga_BadNumber ?gg_BadNumber ?ha_BadNumber ?hn_ ?ht_ ?hm_BadNumber ?nf_BadNumber_name ?nf_BadNumber_value ?exC_TooMany ?tyC_TooMany ?xL_TooMany ?sa_TooMany ?kC_TooMany ?ti_TooMany ?nf_TooMany_name ?nf_TooMany_most ?exC_BadName ?tyC_BadName ?xL_BadName ?sa_BadName ?kC_BadName ?ti_BadName ?nf_BadName_name ?exC_RepeatedName ?tyC_RepeatedName ?xL_RepeatedName ?sa_RepeatedName ?kC_RepeatedName ?ti_RepeatedName ?nf_RepeatedName_name ?exC_WrongLength ?hdC_WrongLength ?tyC_WrongLength ?meC_WrongLength ?xL_WrongLength ?sa_WrongLength ?kC_WrongLength ?ti_WrongLength ?ga_WrongLength ?gg_WrongLength ?ha_WrongLength ?hm_WrongLength ?nf_WrongLength_length ?exC_RepeatedHour ?tyC_RepeatedHour ?xL_RepeatedHour ?sa_RepeatedHour ?kC_RepeatedHour ?ti_RepeatedHour ?nf_RepeatedHour_hour ?exC_NoPlace ?hdC_NoPlace ?tyC_NoPlace ?meC_NoPlace ?xP_NoPlace ?kP_NoPlace ?ga_NoPlace ?gg_NoPlace ?ha_NoPlace ?hm_NoPlace ?exC_OtherHours ?hdC_OtherHours ?tyC_OtherHours ?meC_OtherHours ?xP_OtherHours ?kP_OtherHours ?ga_OtherHours ?gg_OtherHours ?ha_OtherHours ?hm_OtherHours ?sub_BadNumber_WrongLength ?sub_OtherHours_WrongLength ?exC_WatchError ?hdC_WatchError ?tyC_WatchError ?meC_WatchError ?sub_WrongLength_WatchError ?sub_WrongLength_BadNumber ?sub_WrongLength_OtherHours ?sub_BadNumber_WatchError ?sub_BadNumber_NoPlace ?sub_NoPlace_WatchError ?sub_NoPlace_ValueError ?sub_NoPlace_BadNumber ?sub_NoPlace_WrongLength ?sub_OtherHours_WatchError ?sub_OtherHours_ValueError ?pg_House ?hd_House ?po_House ?sa_House ?mk_House ?kc_House ?if_10 ?na_House_hours ?na_House_names ?na_House_stakes ?ha_House ?hm_House ?rd_House ?gt_House ?cv_House_MOST_HOURS ?cv_House_MOST_GATES ?cv_House_MOST_CELLS ?cv_House_MOST_STAKE ?pg_Watch ?hd_Watch ?po_Watch ?sa_Watch ?mk_Watch ?kc_Watch ?if_15 ?na_Watch_house ?na_Watch_rows ?nn_Watch ?hm_Watch ?ha_Watch ?rd_Watch ?gt_Watch ?cv_Watch_MOST ?pg_Lot ?hd_Lot ?po_Lot ?sa_Lot ?mk_Lot ?kc_Lot ?if_6 ?na_Lot_hours ?na_Lot_members ?ha_Lot ?hm_Lot ?rd_Lot ?gt_Lot ?cv_Lot_MOST ?if_7 ?if_11 ?if_12 ?fi_16 ?fi_17 ?pg_18 ?pt_18 ?if_19 ?fi_19 ?if_20
    (case g_BadNumber => k_is)
    (case g_TooMany => k_is)
    (case g_RepeatedHour => k_is)
    (case g_OtherHours => k_is)
    (case g_WrongLength => k_is)
    (case g_NoPlace => k_is)
    (case g_BadName => k_is)
    (case g_RepeatedName => k_is)
    (case g_WatchError => k_is)
    (case g_Lot => k_is)
    (case g_House => k_is)
    (case g_Watch => k_is)
    (case a0 => k_is)
    (case l0 => k_is)
    (case c0 => k_is)
    (case k0 => k_is)
    (case a1 => k_is)
    (case l1 => k_is)
    (case c1 => k_is)
    (case k1 => k_is)
    (case a2 => k_is)
    (case l2 => k_is)
    (case c2 => k_is)
    (case k2 => k_is)
    (case a3 => k_is)
    (case l3 => k_is)
    (case c3 => k_is)
    (case k3 => k_is)
    (case a4 => k_is)
    (case l4 => k_is)
    (case c4 => k_is)
    (case k4 => k_is)
    (case a5 => k_is)
    (case l5 => k_is)
    (case c5 => k_is)
    (case k5 => k_is)
    (case a6 => k_is)
    (case l6 => k_is)
    (case c6 => k_is)
    (case k6 => k_is)
    (case a7 => k_is)
    (case l7 => k_is)
    (case c7 => k_is)
    (case k7 => k_is)
    (case a8 => k_is)
    (case l8 => k_is)
    (case c8 => k_is)
    (case k8 => k_is)
    (case a9 => k_is)
    (case l9 => k_is)
    (case c9 => k_is)
    (case k9 => k_is)
    (case a10 => k_is)
    (case l10 => k_is)
    (case c10 => k_is)
    (case k10 => k_is)
    (case a11 => k_is)
    (case l11 => k_is)
    (case c11 => k_is)
    (case k11 => k_is)
    (case a12 => k_is)
    (case l12 => k_is)
    (case c12 => k_is)
    (case k12 => k_is)
    (case a13 => k_is)
    (case l13 => k_is)
    (case c13 => k_is)
    (case k13 => k_is)
    (case a14 => k_is)
    (case l14 => k_is)
    (case c14 => k_is)
    (case k14 => k_is)
    (case a15 => k_is)
    (case l15 => k_is)
    (case c15 => k_is)
    (case k15 => k_is)
    (case pa_16 => k_is)
    (case a16 => k_is)
    (case l16 => k_is)
    (case c16 => k_is)
    (case k16 => k_is)
    (case pa_17 => k_is)
    (case a17 => k_is)
    (case l17 => k_is)
    (case c17 => k_is)
    (case k17 => k_is)
    (case pa_18 => k_is)
    (case a18 => k_is)
    (case l18 => k_is)
    (case c18 => k_is)
    (case k18 => k_is)
    (case a19 => k_is)
    (case l19 => k_is)
    (case c19 => k_is)
    (case k19 => k_is)
    (case a20 => k_is)
    (case l20 => k_is)
    (case c20 => k_is)
    (case k20 => k_is)
    (case a21 => k_is)
    (case l21 => k_is)
    (case c21 => k_is)
    (case k21 => k_is)
    (case a22 => k_is)
    (case l22 => k_is)
    (case c22 => k_is)
    (case k22 => k_is)
    (case a23 => k_is)
    (case l23 => k_is)
    (case c23 => k_is)
    (case k23 => k_is)
    (case a24 => k_is)
    (case l24 => k_is)
    (case c24 => k_is)
    (case k24 => k_is)
    (case a25 => k_is)
    (case l25 => k_is)
    (case c25 => k_is)
    (case k25 => k_is)
    (case a26 => k_is)
    (case l26 => k_is)
    (case c26 => k_is)
    (case k26 => k_is)
    (case a27 => k_is)
    (case l27 => k_is)
    (case c27 => k_is)
    (case k27 => k_is)
    (case a28 => k_is)
    (case l28 => k_is)
    (case c28 => k_is)
    (case k28 => k_is)
    (case a29 => k_is)
    (case l29 => k_is)
    (case c29 => k_is)
    (case k29 => k_is)
    (case a30 => k_is)
    (case l30 => k_is)
    (case c30 => k_is)
    (case k30 => k_is)
    (case a31 => k_is)
    (case l31 => k_is)
    (case c31 => k_is)
    (case k31 => k_is)
    (case a32 => k_is)
    (case l32 => k_is)
    (case c32 => k_is)
    (case k32 => k_is)
    (case a33 => k_is)
    (case l33 => k_is)
    (case c33 => k_is)
    (case k33 => k_is)
    (case a34 => k_is)
    (case l34 => k_is)
    (case c34 => k_is)
    (case k34 => k_is)
    (case a35 => k_is)
    (case l35 => k_is)
    (case c35 => k_is)
    (case k35 => k_is)
    (case a36 => k_is)
    (case l36 => k_is)
    (case c36 => k_is)
    (case k36 => k_is)
    (case a37 => k_is)
    (case l37 => k_is)
    (case c37 => k_is)
    (case k37 => k_is)
    (case a38 => k_is)
    (case l38 => k_is)
    (case c38 => k_is)
    (case k38 => k_is)
    (case kc_LONGEST_NAME => k_is)
    (case kc_LETTERS => k_is)
    (case z_abs => k_is)
    (case z_len => k_is)
    (case z_int => k_is)
    (case z_bool => k_is)
    (case z_str => k_is)
    (case z_list => k_is)
    (case z_tuple => k_is)
    (case z_isinstance => k_is)
    (case z_range => k_is)
    (case z_ValueError => k_is)
    (case z_min => k_is)
    (case hdW => k_is)
    (case tyW => k_is)
    (case meC_Watch => first | rfl | k_is)
    (case siLW => k_is)
    (case exC_BadNumber => k_is)
    (case hdC_BadNumber => k_is)
    (case tyC_BadNumber => k_is)
    (case meC_BadNumber => first | rfl | k_is)
    (case xL_BadNumber => k_is)
    (case sa_BadNumber => k_is)
    (case kC_BadNumber => k_is)
    (case ti_BadNumber => k_is)
    (case ga_BadNumber => k_is)
    (case gg_BadNumber => k_is)
    (case ha_BadNumber => k_is)
    (case hn_ => k_is)
    (case ht_ => k_is)
    (case hm_BadNumber => k_is)
    (case nf_BadNumber_name => k_is)
    (case nf_BadNumber_value => k_is)
    (case exC_TooMany => k_is)
    (case tyC_TooMany => k_is)
    (case xL_TooMany => k_is)
    (case sa_TooMany => k_is)
    (case kC_TooMany => k_is)
    (case ti_TooMany => k_is)
    (case nf_TooMany_name => k_is)
    (case nf_TooMany_most => k_is)
    (case exC_BadName => k_is)
    (case tyC_BadName => k_is)
    (case xL_BadName => k_is)
    (case sa_BadName => k_is)
    (case kC_BadName => k_is)
    (case ti_BadName => k_is)
    (case nf_BadName_name => k_is)
    (case exC_RepeatedName => k_is)
    (case tyC_RepeatedName => k_is)
    (case xL_RepeatedName => k_is)
    (case sa_RepeatedName => k_is)
    (case kC_RepeatedName => k_is)
    (case ti_RepeatedName => k_is)
    (case nf_RepeatedName_name => k_is)
    (case exC_WrongLength => k_is)
    (case hdC_WrongLength => k_is)
    (case tyC_WrongLength => k_is)
    (case meC_WrongLength => first | rfl | k_is)
    (case xL_WrongLength => k_is)
    (case sa_WrongLength => k_is)
    (case kC_WrongLength => k_is)
    (case ti_WrongLength => k_is)
    (case ga_WrongLength => k_is)
    (case gg_WrongLength => k_is)
    (case ha_WrongLength => k_is)
    (case hm_WrongLength => k_is)
    (case nf_WrongLength_length => k_is)
    (case exC_RepeatedHour => k_is)
    (case tyC_RepeatedHour => k_is)
    (case xL_RepeatedHour => k_is)
    (case sa_RepeatedHour => k_is)
    (case kC_RepeatedHour => k_is)
    (case ti_RepeatedHour => k_is)
    (case nf_RepeatedHour_hour => k_is)
    (case exC_NoPlace => k_is)
    (case hdC_NoPlace => k_is)
    (case tyC_NoPlace => k_is)
    (case meC_NoPlace => first | rfl | k_is)
    (case xP_NoPlace => k_exc)
    (case kP_NoPlace => k_is)
    (case ga_NoPlace => k_is)
    (case gg_NoPlace => k_is)
    (case ha_NoPlace => k_is)
    (case hm_NoPlace => k_is)
    (case exC_OtherHours => k_is)
    (case hdC_OtherHours => k_is)
    (case tyC_OtherHours => k_is)
    (case meC_OtherHours => first | rfl | k_is)
    (case xP_OtherHours => k_exc)
    (case kP_OtherHours => k_is)
    (case ga_OtherHours => k_is)
    (case gg_OtherHours => k_is)
    (case ha_OtherHours => k_is)
    (case hm_OtherHours => k_is)
    (case sub_BadNumber_WrongLength => k_is)
    (case sub_OtherHours_WrongLength => k_is)
    (case exC_WatchError => k_is)
    (case hdC_WatchError => k_is)
    (case tyC_WatchError => k_is)
    (case meC_WatchError => first | rfl | k_is)
    (case sub_WrongLength_WatchError => k_is)
    (case sub_WrongLength_BadNumber => k_is)
    (case sub_WrongLength_OtherHours => k_is)
    (case sub_BadNumber_WatchError => k_is)
    (case sub_BadNumber_NoPlace => k_is)
    (case sub_NoPlace_WatchError => k_is)
    (case sub_NoPlace_ValueError => k_is)
    (case sub_NoPlace_BadNumber => k_is)
    (case sub_NoPlace_WrongLength => k_is)
    (case sub_OtherHours_WatchError => k_is)
    (case sub_OtherHours_ValueError => k_is)
    (case pg_House => k_is)
    (case hd_House => k_is)
    (case po_House => k_is)
    (case sa_House => k_is)
    (case mk_House => k_is)
    (case kc_House => k_is)
    (case if_10 => k_is)
    (case na_House_hours => k_is)
    (case na_House_names => k_is)
    (case na_House_stakes => k_is)
    (case ha_House => k_is)
    (case hm_House => k_is)
    (case rd_House => k_is)
    (case gt_House => k_is)
    (case cv_House_MOST_HOURS => k_is)
    (case cv_House_MOST_GATES => k_is)
    (case cv_House_MOST_CELLS => k_is)
    (case cv_House_MOST_STAKE => k_is)
    (case pg_Watch => k_is)
    (case hd_Watch => k_is)
    (case po_Watch => k_is)
    (case sa_Watch => k_is)
    (case mk_Watch => k_is)
    (case kc_Watch => k_is)
    (case if_15 => k_is)
    (case na_Watch_house => k_is)
    (case na_Watch_rows => k_is)
    (case nn_Watch => k_is)
    (case hm_Watch => k_is)
    (case ha_Watch => k_is)
    (case rd_Watch => k_is)
    (case gt_Watch => k_is)
    (case cv_Watch_MOST => k_is)
    (case pg_Lot => k_is)
    (case hd_Lot => k_is)
    (case po_Lot => k_is)
    (case sa_Lot => k_is)
    (case mk_Lot => k_is)
    (case kc_Lot => k_is)
    (case if_6 => k_is)
    (case na_Lot_hours => k_is)
    (case na_Lot_members => k_is)
    (case ha_Lot => k_is)
    (case hm_Lot => k_is)
    (case rd_Lot => k_is)
    (case gt_Lot => k_is)
    (case cv_Lot_MOST => k_is)
    (case if_7 => k_is)
    (case if_11 => k_is)
    (case if_12 => k_is)
    (case fi_16 => k_is)
    (case fi_17 => k_is)
    (case pg_18 => k_is)
    (case pt_18 => k_is)
    (case if_19 => k_is)
    (case fi_19 => k_is)
    (case if_20 => k_is)
#print axioms PySem.Challenge.cw_watchbeats_k29_watch_told_holds
