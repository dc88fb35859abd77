import PyProof.Rows.All
import Wide.All
import OpenK.AllK
import Wide.FinOn
import HandS.ForMost
import HandS.ForExc
import HandS.Wide
import HandS.IsInst
import HandS.Small
import HandS.Zip
import HandS.More
import HandS.FStr
import HandS.DeepEq
import HandS.Exc
import HandS.Lambda
import HandS.ExcIs
import HandS.SetFor
import HandS.EndTab
import HandS.HeadWalk
import HandS.HeadHook4
import HandS.Head2
import HandS.HeadEnd
import PyProof.Draws
import HandS.Zip0
import HandS.Iter
import HandS.Star
import HandS.Style
import HandS.Conv
import PyProof.WalkInts
import PyProof.WalksMore
import PyProof.EqAt
import PyProof.EqKinds
import PyProof.TupleCall
import HandS.Base
import HandS.Call
import HandS.List
import HandS.Dict
import HandS.Set
import HandS.SetBool
import HandS.Strs
import PyProof.SetRoads
import HandS.WordsDict
import HandS.SortInts
import KE.KIsAll
import KE.KTryMore
import KE.KExcIs
import HandS.ExcField
import PySem.Challenge.RW_stepnames_k09_whole_put_back
set_option Elab.async false
set_option linter.all false
set_option maxRecDepth 100000
set_option maxHeartbeats 4000000
namespace My
open PySem PySem.Spec PyProof.Rows L2
def letters : List Str := ["a", "b", "c", "d", "e", "f"]
def top (i : Nat) : Stmt := PySem.Challenge.pw_stepnames_k09_whole_put_back.main.body.getD i (.Pass ⟨0, 0, 0, 0⟩)
abbrev s_is_whole : Stmt := top 12
abbrev s_has_form : Stmt := top 13
abbrev s_parts_of : Stmt := top 14
abbrev s_filled_with : Stmt := top 15
abbrev s_is_effect : Stmt := top 16
abbrev s_refuse_bad_steps : Stmt := top 20
abbrev s_can_be : Stmt := top 21
abbrev s_refuse_bad_sum : Stmt := top 25
abbrev s_sums_within : Stmt := top 26
abbrev s_put_back : Stmt := top 28
abbrev s_put_together : Stmt := top 29
abbrev s_refuse_no_sum : Stmt := top 30
abbrev s_cut : Stmt := top 32
abbrev s_tight : Stmt := top 33
abbrev s_put_cut : Stmt := top 34
abbrev s_put_next : Stmt := top 35
abbrev s_put_tight : Stmt := top 36
abbrev s_Way_init : Stmt := inClass (top 38) 0
abbrev s_least : Stmt := top 39
abbrev s_boxes_in_order : Stmt := top 40
abbrev s_put_steps : Stmt := top 41
abbrev s_law_start : Stmt := top 43
abbrev s_law_drawn : Stmt := top 44
abbrev s_law_same : Stmt := top 45
abbrev s_law_sum : Stmt := top 47
abbrev s_law_any : Stmt := top 48
abbrev s_law_quiet : Stmt := top 49
abbrev s_law_moved : Stmt := top 54
abbrev s_law_kind : Stmt := top 46
abbrev s_law : Stmt := top 55
def d_is_whole : He.DefD := ⟨("is_whole", none), "is_whole", "is_whole", defArgs s_is_whole, defBody s_is_whole, defScope s_is_whole, [], []⟩
def d_has_form : He.DefD := ⟨("has_form", none), "has_form", "has_form", defArgs s_has_form, defBody s_has_form, defScope s_has_form, [], []⟩
def d_parts_of : He.DefD := ⟨("parts_of", none), "parts_of", "parts_of", defArgs s_parts_of, defBody s_parts_of, defScope s_parts_of, [], []⟩
def d_filled_with : He.DefD := ⟨("filled_with", none), "filled_with", "filled_with", defArgs s_filled_with, defBody s_filled_with, defScope s_filled_with, [], []⟩
def d_is_effect : He.DefD := ⟨("is_effect", none), "is_effect", "is_effect", defArgs s_is_effect, defBody s_is_effect, defScope s_is_effect, [], []⟩
def d_refuse_bad_steps : He.DefD := ⟨("refuse_bad_steps", none), "refuse_bad_steps", "refuse_bad_steps", defArgs s_refuse_bad_steps, defBody s_refuse_bad_steps, defScope s_refuse_bad_steps, [], []⟩
def d_can_be : He.DefD := ⟨("can_be", none), "can_be", "can_be", defArgs s_can_be, defBody s_can_be, defScope s_can_be, [], []⟩
def d_refuse_bad_sum : He.DefD := ⟨("refuse_bad_sum", none), "refuse_bad_sum", "refuse_bad_sum", defArgs s_refuse_bad_sum, defBody s_refuse_bad_sum, defScope s_refuse_bad_sum, [], []⟩
def d_sums_within : He.DefD := ⟨("sums_within", none), "sums_within", "sums_within", defArgs s_sums_within, defBody s_sums_within, defScope s_sums_within, [], []⟩
def d_put_back : He.DefD := ⟨("put_back", none), "put_back", "put_back", defArgs s_put_back, defBody s_put_back, defScope s_put_back, [], []⟩
def d_put_together : He.DefD := ⟨("put_together", none), "put_together", "put_together", defArgs s_put_together, defBody s_put_together, defScope s_put_together, [], []⟩
def d_refuse_no_sum : He.DefD := ⟨("refuse_no_sum", none), "refuse_no_sum", "refuse_no_sum", defArgs s_refuse_no_sum, defBody s_refuse_no_sum, defScope s_refuse_no_sum, [], []⟩
def d_cut : He.DefD := ⟨("cut", none), "cut", "cut", defArgs s_cut, defBody s_cut, defScope s_cut, [], []⟩
def d_tight : He.DefD := ⟨("tight", none), "tight", "tight", defArgs s_tight, defBody s_tight, defScope s_tight, [], []⟩
def d_put_cut : He.DefD := ⟨("put_cut", none), "put_cut", "put_cut", defArgs s_put_cut, defBody s_put_cut, defScope s_put_cut, [], []⟩
def d_put_next : He.DefD := ⟨("put_next", none), "put_next", "put_next", defArgs s_put_next, defBody s_put_next, defScope s_put_next, [], []⟩
def d_put_tight : He.DefD := ⟨("put_tight", none), "put_tight", "put_tight", defArgs s_put_tight, defBody s_put_tight, defScope s_put_tight, [], []⟩
def d_Way_init : He.DefD := ⟨("Way", some "__init__"), "__init__", "Way.__init__", defArgs s_Way_init, defBody s_Way_init, defScope s_Way_init, [], []⟩
def d_least : He.DefD := ⟨("least", none), "least", "least", defArgs s_least, defBody s_least, defScope s_least, [], []⟩
def d_boxes_in_order : He.DefD := ⟨("boxes_in_order", none), "boxes_in_order", "boxes_in_order", defArgs s_boxes_in_order, defBody s_boxes_in_order, defScope s_boxes_in_order, [], []⟩
def d_put_steps : He.DefD := ⟨("put_steps", none), "put_steps", "put_steps", defArgs s_put_steps, defBody s_put_steps, defScope s_put_steps, [], []⟩
def d_law_start : He.DefD := ⟨("_law_start", none), "_law_start", "_law_start", defArgs s_law_start, defBody s_law_start, defScope s_law_start, [], []⟩
def d_law_drawn : He.DefD := ⟨("_law_drawn", none), "_law_drawn", "_law_drawn", defArgs s_law_drawn, defBody s_law_drawn, defScope s_law_drawn, [], []⟩
def d_law_same : He.DefD := ⟨("_law_same", none), "_law_same", "_law_same", defArgs s_law_same, defBody s_law_same, defScope s_law_same, [], []⟩
def d_law_kind : He.DefD := ⟨("_law_kind", none), "_law_kind", "_law_kind", defArgs s_law_kind, defBody s_law_kind, defScope s_law_kind, [], []⟩
def d_law_sum : He.DefD := ⟨("_law_sum", none), "_law_sum", "_law_sum", defArgs s_law_sum, defBody s_law_sum, defScope s_law_sum, [], []⟩
def d_law_any : He.DefD := ⟨("_law_any", none), "_law_any", "_law_any", defArgs s_law_any, defBody s_law_any, defScope s_law_any, [], []⟩
def d_law_quiet : He.DefD := ⟨("_law_quiet", none), "_law_quiet", "_law_quiet", defArgs s_law_quiet, defBody s_law_quiet, defScope s_law_quiet, [], []⟩
def d_law_moved : He.DefD := ⟨("_law_moved", none), "_law_moved", "_law_moved", defArgs s_law_moved, defBody s_law_moved, defScope s_law_moved, [], []⟩
def d_law : He.DefD := ⟨("law", none), "law", "law", defArgs s_law, defBody s_law, defScope s_law, [], []⟩
def fnl : List He.DefD := [d_is_whole, d_has_form, d_parts_of, d_filled_with, d_is_effect, d_refuse_bad_steps, d_can_be, d_refuse_bad_sum, d_sums_within, d_put_back, d_put_together, d_refuse_no_sum, d_cut, d_tight, d_put_cut, d_put_next, d_put_tight, d_Way_init, d_least, d_boxes_in_order, d_put_steps, d_law_start, d_law_drawn, d_law_same, d_law_kind, d_law_sum, d_law_any, d_law_quiet, d_law_moved, d_law]
def fal : List He.Fa := [.free "len", .free "isinstance", .free "range", .free "int", .free "list", .free "dict", .free "tuple", .free "set", .free "sorted", .free "type", .free "any", .free "all", .free "min", .free "max", .free "enumerate", .free "zip", .free "reversed", .free "bool", .free "str", .free "super", .free "ValueError", .glo "is_whole", .glo "has_form", .glo "parts_of", .glo "filled_with", .glo "is_effect", .glo "refuse_bad_steps", .glo "can_be", .glo "refuse_bad_sum", .glo "sums_within", .glo "put_back", .glo "put_together", .glo "refuse_no_sum", .glo "cut", .glo "tight", .glo "put_cut", .glo "put_next", .glo "put_tight", .glo "least", .glo "boxes_in_order", .glo "put_steps", .glo "_law_start", .glo "_law_drawn", .glo "_law_same", .glo "_law_kind", .glo "_law_sum", .glo "_law_any", .glo "_law_quiet", .glo "_law_moved", .glo "law", .glo "Way", .glo "LETTERS", .glo "WORDS_WITH_TWO_PARTS", .glo "StepError", .glo "BadSum", .glo "BadSteps", .glo "NoName", .glo "NoMore", .glo "NoSum", .glo "BadText", .int "LARGEST" 999, .int "MOST_STEPS" 200, .int "LAST_BOX" 199, .int "MOST_SUMS" 60, .int "MOST_WITHIN" 15, .cls "Way", .noat "Way" "part", .noat "Way" "inner", .noat "Way" "effect", .noat "Way" "turned", .noat "Way" "many", .mkr "Way", .exc "BadSum", .exc "NoSum", .exm "BadSum" "StepError" true, .exm "NoSum" "StepError" true]
def loosel : List PySem.Str := (["StepError", "BadSum", "BadSteps", "NoName", "NoMore", "NoSum", "BadText", "LETTERS"] : List PySem.Str) ++ (["LARGEST", "WORDS_WITH_TWO_PARTS", "is_whole", "has_form", "parts_of", "filled_with", "is_effect", "MOST_STEPS"] : List PySem.Str) ++ (["LAST_BOX", "refuse_bad_steps", "can_be", "MOST_SUMS", "MOST_WITHIN", "refuse_bad_sum", "sums_within", "put_back"] : List PySem.Str) ++ (["put_together", "refuse_no_sum", "cut", "tight", "put_cut", "put_next", "put_tight", "Way"] : List PySem.Str) ++ (["least", "boxes_in_order", "put_steps", "_law_start", "_law_drawn", "_law_same", "_law_kind", "_law_sum"] : List PySem.Str) ++ (["_law_any", "_law_quiet", "_law_parts", "_law_all", "_law_names", "_law_given", "_law_moved"] : List PySem.Str)
def excB (K : PySem.W.Frag) (x : Str) : Bool := He.eqO (PySem.W.findIn K (.ref (He.ga K x)) "__getattribute__") (some (some (.builtin "BaseException.__getattribute__"))) && (He.eqO (PySem.W.findIn K (.ref (He.ga K x)) "__getattr__") (some none) && (decide (PySem.W.subIn K (.ref (He.ga K x)) (.type "BaseException") = some true) && (PySem.W.hasDictIn K (He.ga K x) &&
  (He.eqO (PySem.W.findIn K (.ref (He.ga K x)) "__class__") (some (some (.builtin "object.__class__"))) && (He.eqO (PySem.W.specialIn K (.builtin "object.__class__") "__get__") (some (some (.builtin "getset_descriptor.__get__"))) && (decide (PySem.W.takesIn K (.builtin "object.__class__") = some true) && decide (PySem.W.mroIn K (He.ga K x) (.type "object") = some true)))))))
def kinB (K : PySem.W.Frag) (x y : Str) (b : Bool) : Bool := decide (PySem.W.kitOne K (.ref (He.ga K x)) (.ref (He.ga K y)) = some b)
def kindB (K : PySem.W.Frag) (x : Str) (i : Nat) : Bool := excB K x && (decide (PySem.W.kitOne K (.ref (He.ga K x)) (.type "ValueError") = some true) && (kinB K x "BadSum" (i == 0) && (kinB K x "BadSteps" (i == 1) && (kinB K x "NoName" (i == 2) && (kinB K x "NoMore" (i == 3) && (kinB K x "NoSum" (i == 4) && kinB K x "BadText" (i == 5)))))))
def exB (K : PySem.W.Frag) : Bool := (He.tupB K "LETTERS" (letters.map He.Dv.str) && (He.tupB K "WORDS_WITH_TWO_PARTS" [.str "add", .str "less", .str "times"] && (kindB K "BadSum" 0 && kindB K "NoSum" 4)))
def tfl : List He.Defn := [("law", none)]
abbrev RO : PySem.W.OpenRow := PySem.W.OpenLaw.row PySem.Challenge.rw_stepnames_k09_whole_put_back
abbrev hk : PySem.W.Hook := He.hookX 5 fal fnl [] tfl exB
def ob (s : PySem.W.SharedT) : He.AlX := He.obsX 5 fal fnl [] tfl exB (HandSHeadRun.getT s)
theorem ob_eq (s : PySem.W.SharedT) : ob s = hk.obs s.abs := He.obsX_eq (HandSHeadRun.getT_eq s)
set_option maxHeartbeats 0 in
theorem run (w : World) : HandSHeadRun.RunEq RO (PySem.W.view RO.prog [55]) hk ob 4000 loosel w := by
  intro os
  kernel_rfl
end My
/-! Wk: walking rules, by the head of a reading. -/
namespace Wk
open PySem L2
/-! ### the built-in names are what they were -/
structure Blt (mg : Str → Option Value) : Prop where
  len : mg "len" = none
  isinstance : mg "isinstance" = none
  range : mg "range" = none
  int : mg "int" = none
  list : mg "list" = none
  dict : mg "dict" = none
  tuple : mg "tuple" = none
  set : mg "set" = none
  sorted : mg "sorted" = none
  type : mg "type" = none
  any : mg "any" = none
  all : mg "all" = none
  min : mg "min" = none
  max : mg "max" = none
  enumerate : mg "enumerate" = none
  zip : mg "zip" = none
  reversed : mg "reversed" = none
  bool : mg "bool" = none
  str : mg "str" = none
  super : mg "super" = none
/-! ### heaps -/
/-- from H to H' all but W is kept, and every tuple -/
structure Fr (W : List Addr) (H H' : Hp) : Prop where
  keep : ∀ b o, b ∉ W → H b = some o → H' b = some o
  tup : ∀ b xs, H b = some (.tup xs) → H' b = some (.tup xs)
theorem Fr.refl {W : List Addr} {H : Hp} : Fr W H H := ⟨fun _ _ _ h => h, fun _ _ h => h⟩
theorem Fr.trans {W : List Addr} {H H1 H2 : Hp} (a : Fr W H H1) (b : Fr W H1 H2) : Fr W H H2 :=
  ⟨fun c o n h => b.keep c o n (a.keep c o n h), fun c xs h => b.tup c xs (a.tup c xs h)⟩
theorem Fr.mono {W W' : List Addr} {H H' : Hp} (a : Fr W H H') (h : ∀ b, b ∈ W → b ∈ W') : Fr W' H H' :=
  ⟨fun c o n x => a.keep c o (fun q => n (h c q)) x, a.tup⟩
theorem Fr.nil {W : List Addr} {H H' : Hp} (a : Fr [] H H') : Fr W H H' := a.mono fun _ h => by cases h
/-- what was not there may change -/
theorem Fr.drop {W : List Addr} {p : Addr} {H H' : Hp} (a : Fr (p :: W) H H') (h : H p = none) : Fr W H H' :=
  ⟨fun c o n x => a.keep c o (fun q => by
    rcases List.mem_cons.mp q with e | e
    · rw [e, h] at x; cases x
    · exact n e) x, a.tup⟩
theorem Fr.new {H : Hp} {p : Addr} {o : HO} (h : H p = none) : Fr [] H (upd H p o) :=
  ⟨fun b u _ q => by rw [upd_ne (ne_of_none q h)]; exact q, fun b u q => by rw [upd_ne (ne_of_none q h)]; exact q⟩
/-- a store into what is no tuple -/
theorem Fr.set {H : Hp} {p : Addr} {o u : HO} (h : H p = some u) (hu : ∀ xs, u ≠ .tup xs) : Fr [p] H (upd H p o) :=
  ⟨fun b w n q => by rw [upd_ne (fun e => n (by rw [e]; exact List.mem_singleton.mpr rfl))]; exact q,
   fun b xs q => by
    rw [upd_ne (fun e => ?_)]
    · exact q
    · rw [e, h] at q; exact hu xs (Option.some.inj q)⟩
theorem Fr.get {W : List Addr} {H H' : Hp} {b : Addr} {o : HO} (a : Fr W H H') (h : H b = some o) (n : b ∉ W) : H' b = some o := a.keep b o n h
theorem Fr.get0 {H H' : Hp} {b : Addr} {o : HO} (a : Fr [] H H') (h : H b = some o) : H' b = some o := a.keep b o (by simp) h
theorem Fr.gett {W : List Addr} {H H' : Hp} {b : Addr} {xs : List V} (a : Fr W H H') (h : H b = some (.tup xs)) : H' b = some (.tup xs) := a.tup b xs h
theorem Fr.getl {W : List Addr} {H H' : Hp} {b : Addr} {xs : List V} (a : Fr W H H') (n : b ∉ W) (h : H b = some (.lst xs)) : H' b = some (.lst xs) := a.keep b _ n h
theorem Fr.getd {W : List Addr} {H H' : Hp} {b : Addr} {xs : List (Key × V)} (a : Fr W H H') (n : b ∉ W) (h : H b = some (.dK xs)) : H' b = some (.dK xs) := a.keep b _ n h
theorem Fr.geti {W : List Addr} {H H' : Hp} {b C dx : Addr} {fs : List (Str × V)} (a : Fr W H H') (n : b ∉ W) (h : H b = some (.ins C dx fs)) : H' b = some (.ins C dx fs) := a.keep b _ n h
theorem ni1 {a b : Addr} (h : a ≠ b) : a ∉ [b] := by simpa using h
theorem ni2 {a b c : Addr} (h : a ≠ b) (h' : a ≠ c) : a ∉ [b, c] := by simp [h, h']
theorem fr_last {W W' : List Addr} {H H1 H' : Hp} (f : Fr W' H1 H') (w : ∀ b, b ∈ W' → b ∈ W) (g : Fr W H H1) : Fr W H H' := g.trans (f.mono w)
theorem nn_l {H : Hp} {p b : Addr} {xs : List V} (n : H p = none) (h : H b = some (.lst xs)) : p ≠ b := (ne_of_none h n).symm
theorem nn_d {H : Hp} {p b : Addr} {xs : List (Key × V)} (n : H p = none) (h : H b = some (.dK xs)) : p ≠ b := (ne_of_none h n).symm
theorem nn_i {H : Hp} {p b C dx : Addr} {xs : List (Str × V)} (n : H p = none) (h : H b = some (.ins C dx xs)) : p ≠ b := (ne_of_none h n).symm
theorem Fr.sqln {K : PySem.W.Frag} {W : List Addr} {H H' : Hp} {b : Addr} {xs : List V} (a : Fr W H H') (n : b ∉ W) (h : SqL K H b xs) : SqL K H' b xs := by
  rcases h with (h | ⟨o, h⟩) | h
  · exact .inl (.inl (a.get h n))
  · exact .inl (.inr ⟨o, a.get h n⟩)
  · exact .inr h
/-- not there behind, not there before -/
theorem Fr.back {H H' : Hp} {p : Addr} (a : Fr [] H H') (h : H' p = none) : H p = none := by
  cases e : H p with
  | none => rfl
  | some o => rw [a.get0 e] at h; cases h
theorem Fr.seql {K : PySem.W.Frag} {W : List Addr} {H H' : Hp} {b : Addr} {xs : List V} (a : Fr W H H') (h : SqL K H b xs) (n : b ∉ W) : SqL K H' b xs := by
  rcases h with (h | ⟨o, h⟩) | h
  · exact .inl (.inl (a.get h n))
  · exact .inl (.inr ⟨o, a.get h n⟩)
  · exact .inr h
theorem Fr.seqt {K : PySem.W.Frag} {W : List Addr} {H H' : Hp} {b : Addr} {xs : List V} (a : Fr W H H') (h : SqT K H b xs) (n : b ∉ W) : SqT K H' b xs := by
  rcases h with (h | ⟨o, h⟩) | h
  · exact .inl (.inl (a.get h n))
  · exact .inl (.inr ⟨o, a.get h n⟩)
  · exact .inr h

/-- len of a list, a tuple -/
def rLenW (K : PySem.W.Frag) : List V → Hp → VK → Prop := fun xs H Q => ∃ p ys, xs = [.ref p] ∧ (SqL K H p ys ∨ SqT K H p ys) ∧ Q (.int ys.length) H
theorem call_lenN {X : Cx} : CallR X (.builtin "len") (rLenW X.K) := call_len_seq
def NewT (Q : VK) (xs : List V) (H : Hp) : Prop := xs.length ≤ sizeLine ∧ ∀ p, H p = none → Q (.ref p) (upd H p (.tup xs))
def NewL (Q : VK) (xs : List V) (H : Hp) : Prop := xs.length ≤ sizeLine ∧ ∀ p, H p = none → Q (.ref p) (upd H p (.lst xs))
def ForB (J : It) (g : TG) (tb : TS) (D : Ends) (σ : St) (H : Hp) : Prop := ∃ W : Nat → Nat → St → Hp → Prop, (∃ m, W 0 m σ H) ∧ ∀ i m σ H, W i m σ H →
  (J.stop i H ∧ D.nx σ H) ∨ (J.go i H ∧ ∃ N : St → Hp → Prop, (∀ σ' H', N σ' H' → ∃ m', m' < m ∧ W (i + 1) m' σ' H') ∧ ∀ x H', J.yld i H x H' → g x σ H' fun σ2 H2 => tb { D with nx := N, ct := N, bk := D.nx } σ2 H2)
def IlB (K : PySem.W.Frag) (R : It → Hp → Prop) (x : V) (H : Hp) : Prop := ∃ a, x = .ref a ∧ (∃ xs, SqL K H a xs) ∧ R (Itl K a) H
def ItB (K : PySem.W.Frag) (R : It → Hp → Prop) (x : V) (H : Hp) : Prop := ∃ a, x = .ref a ∧ (∃ xs, SqT K H a xs) ∧ R (Itt K a) H
def RgB1 (R : It → Hp → Prop) (vs : List V) (H : Hp) : Prop := ∃ j : Int, vs = [.int j] ∧ -(2 ^ 62) ≤ j ∧ j < 2 ^ 62 ∧ R (Itr 0 j.toNat) H
def LcP (D : Addr) (Pv : Addr → Nat → List V → Hp → Prop) (i : Nat) (H : Hp) : Prop := ∃ acc, acc.length ≤ i ∧ H D = some (.lst acc) ∧ Pv D i acc H
/-- behind an element's value -/
def LcE (D : Addr) (Pv : Addr → Nat → List V → Hp → Prop) (i : Nat) (y : V) (H : Hp) : Prop := ∃ acc, H D = some (.lst acc) ∧ acc.length < sizeLine ∧ LcP D Pv (i + 1) (upd H D (.lst (acc ++ [y])))
def LcB (J : It) (g : TG) (tt : TT) (te : TE) (vs : List Nat) (σ : St) (Q : VK) (H1 : Hp) : Prop := ∀ D, H1 D = none → ∃ W : Nat → Nat → Hp → Prop, (∃ m, W 0 m (upd H1 D (.lst []))) ∧ ∀ i m H, W i m H →
  (J.stop i H ∧ Q (.ref D) H) ∨ (J.go i H ∧ ∃ Nx : Hp → Prop, (∀ H', Nx H' → ∃ m', m' < m ∧ W (i + 1) m' H') ∧ ∀ x H', J.yld i H x H' → g x (wipe σ vs) H' fun σ2 H2 => wipe σ2 vs = wipe σ vs ∧ tt σ2 H2 fun b H3 =>
    if b = true then te σ2 H3 fun y H4 => ∃ acc, H4 D = some (.lst acc) ∧ acc.length < sizeLine ∧ Nx (upd H4 D (.lst (acc ++ [y]))) else Nx H3)
def FldB (K : PySem.W.Frag) (f : Str) (Q : VK) (x : V) (H : Hp) : Prop := ∃ a C dx fs v, x = .ref a ∧ H a = some (.ins C dx fs) ∧ Cls K C ∧ NoAttr K C f ∧ fs.lookup f = some v ∧ Q v H
def SfB (K : PySem.W.Frag) (f : Str) (R : Hp → Prop) (y x : V) (H : Hp) : Prop := ∃ a C dx fs, x = .ref a ∧ H a = some (.ins C dx fs) ∧ Cls K C ∧ NoAttr K C f ∧ fs.length < 1000 ∧ R (upd H a (.ins C dx (putF f y fs)))
def AuB (K : PySem.W.Frag) (f : Str) (tv : TE) (rd : V → V → Hp → VK → Prop) (σ : St) (R : Hp → Prop) (x : V) (H : Hp) : Prop := ∃ a C dx fs v, x = .ref a ∧ H a = some (.ins C dx fs) ∧ Cls K C ∧ NoAttr K C f ∧ fs.lookup f = some v ∧
  tv σ H fun y H2 => rd v y H2 fun z H3 => ∃ dx' fs', H3 a = some (.ins C dx' fs') ∧ fs'.length < 1000 ∧ R (upd H3 a (.ins C dx' (putF f z fs')))
def MeB (C : Addr) (m : Str) (R : V → Hp → Prop) (x : V) (H : Hp) : Prop := ∃ a dx fs, x = .ref a ∧ H a = some (.ins C dx fs) ∧ fs.lookup m = none ∧ R x H
def MkB (C : Addr) (sp : Sp) (Q : VK) (E : XK) (vs : List V) (H : Hp) : Prop := ∀ x dx, H x = none → H dx = none → dx ≠ x → sp (.ref x :: vs) (upd (upd H dx (.own x)) x (.ins C dx [])) (fun v H2 => v = .non ∧ Q (.ref x) H2) E
def rIsNW : R2 := fun x y H Q => y = .non ∧ Q (.bl (decide (x = .non))) H
theorem op_isNW {X : Cx} : OpR X (compareOp .Is) rIsNW := op_isN
/-- a test that is a value's truth -/
def tTruW (K : PySem.W.Frag) (ta : TE) : TT := fun σ H R => ta σ H fun x H' => ∃ k, TruV K x H' k ∧ R k H'
def TrB (K : PySem.W.Frag) (R : Bool → Hp → Prop) (x : V) (H : Hp) : Prop := ∃ k, TruV K x H k ∧ R k H
def WhB (P : St → Hp → Prop) (tb : TS) (rt : VK) (nx : St → Hp → Prop) (σ : St) (H : Hp) : Prop := ∃ N : St → Hp → Prop, (∀ σ' H', N σ' H' → P σ' H') ∧ tb ⟨N, rt, nx, N⟩ σ H
def rTyIs : R2 := fun x y H Q => ∃ a b, x = .ty a ∧ y = .ty b ∧ Q (.bl (decide (a = b))) H
theorem op_tyIs {X : Cx} : OpR X (compareOp .Is) rTyIs := op_isTyB
/-- an own exception class without own __init__ -/
structure ExcX (K : PySem.W.Frag) (mg : Str → Option Value) (x : Str) (C : Addr) : Prop where
  m : mg x = some (.ref C)
  xp : PySem.W.excIn K C [.type "ValueError", .type "Exception", .type "BaseException", .type "object"] "ValueError.__new__" = true
  kp : PySem.W.keepIn K (.ref C) = true
  bp : PySem.W.subIn K (.ref C) (.type "BaseException") = some true
  tp : PySem.W.typeIn K (.ref C) = some (.type "type")
def tRaiseA (C : Addr) (W : WX) (t : TA) : TS := fun _ σ H => t σ H fun vs H1 => vs.length ≤ sizeLine ∧ W (.ref C) none σ H1
def RaB (C : Addr) (W : WX) (σ : St) (vs : List V) (H : Hp) : Prop := vs.length ≤ sizeLine ∧ W (.ref C) none σ H
theorem ps_raiseA {X : Cx} {C : Addr} {x : Str} {W : WX} {e : Expr} {es : List Expr} {t : TA} {p pos pos2 : Pos} (hc : X.calm = true) (tk : Takes X W) (T : ExcX X.K X.mg x C) (ha : PA X (e :: es) t) (hg : Gl X x := by rfl) (hdb : (x == ("__debug__" : Str)) = false := by decide)
    (he : starEach (e :: es) X.env = (false, eval e X.env) :: starEach es X.env := by rfl) (hpl : (backTo pos (starEach es X.env)).any (·.1) = false := by rfl) : PS X (.Raise (some (.Call (.Name x p) (e :: es) [] pos)) none pos2) (tRaiseA C W t) :=
  ps_raise hc tk (pmk_ownA PySem.F.excBase_ValueError T.xp T.m T.kp (raises_own T.bp T.tp) hg ha hdb he hpl)
/-- f'..' of two parts or more -/
def tJn (ts : List TE) : TE := fun σ H Q => tJs ts Str.empty σ H fun out H1 => Q (.str out) H1
theorem pe_jn {X : Cx} {v1 v2 : Expr} {rest : List Expr} {ts : List TE} {pos : Pos} (h : PJ X (v1 :: v2 :: rest) ts) : PE X (.JoinedStr (v1 :: v2 :: rest) pos) (tJn ts) := pe_joined h
def JsB (ts : List TE) (acc : Str) (σ : St) (R : Str → Hp → Prop) (x : V) (H : Hp) : Prop := ∃ y : Str, x = .str y ∧ (acc ++ y).length ≤ sizeLine ∧ tJs ts (acc ++ y) σ H R
def FmB (Q : VK) (x : V) (H : Hp) : Prop := (∃ y : Str, x = .str y ∧ y.length ≤ sizeLine ∧ Q (.str y) H) ∨ ∃ i : Int, x = .int i ∧ i.natAbs.log2 < 1920 ∧ Q (.str (toString i)) H
def DgB (x y : V) (H : Hp) (Q : VK) : Prop := ∃ a v, x = .ref a ∧ DGet H a y (some v) ∧ Q v H
def DiB (y x : V) (H : Hp) (Q : VK) : Prop := ∃ a o, x = .ref a ∧ DGet H a y o ∧ Q (.bl o.isSome) H
def DnB (y x : V) (H : Hp) (Q : VK) : Prop := ∃ a o, x = .ref a ∧ DGet H a y o ∧ Q (.bl (!o.isSome)) H
def DpB (x y v : V) (H : Hp) (R : Hp → Prop) : Prop := ∃ a H4, x = .ref a ∧ DPut H a y v H4 ∧ R H4
def NewD (Q : VK) (H : Hp) : Prop := ∀ p, H p = none → Q (.ref p) (upd H p (.dK []))
def StB (R : It → Hp → Prop) (v : V) (H : Hp) : Prop := ∃ x, v = .str x ∧ R (Its x) H
/-- int of a truth value -/
def rIntB : List V → Hp → VK → Prop := fun xs H Q => ∃ k, xs = [.bl k] ∧ Q (.int (if k then 1 else 0)) H
theorem call_intN {X : Cx} : CallR X (.type "int") rIntB := fun pins s σ H xs us Q I r h => call_int1 pins s σ H xs us Q I r (.inr h)
section
variable {σ : St} {H : Hp} {i : Nat} {v x y z : V} {ta tb te tv : TE} {b : Bool} {K : PySem.W.Frag} {a C dx : Addr} {f : Str} {t u : TS} {Q : VK} {nx bk ct : St → Hp → Prop} {rt : VK}
/-! ### statements -/
theorem w_seq (h : t ⟨u ⟨nx, rt, bk, ct⟩, rt, bk, ct⟩ σ H) : tSeq t u ⟨nx, rt, bk, ct⟩ σ H := h
theorem w_next (h : nx σ H) : tNext ⟨nx, rt, bk, ct⟩ σ H := h
theorem w_asg {g : TG} (h : te σ H fun x H1 => g x σ H1 nx) : tAsg te g ⟨nx, rt, bk, ct⟩ σ H := h
theorem w_name {σ' : St} {Q : St → Hp → Prop} (e : σ.set i (some v) = σ') (h : Q σ' H) : gName i v σ H Q := by
  rw [← e] at h; exact h
theorem w_ret (h : te σ H rt) : tRet te ⟨nx, rt, bk, ct⟩ σ H := h
theorem w_retN (h : rt .non H) : tRetN ⟨nx, rt, bk, ct⟩ σ H := h
theorem w_drop (h : te σ H fun _ H1 => nx σ H1) : tDrop te ⟨nx, rt, bk, ct⟩ σ H := h
theorem w_ifS {c : TT} (h : c σ H fun b H1 => if b = true then t ⟨nx, rt, bk, ct⟩ σ H1 else u ⟨nx, rt, bk, ct⟩ σ H1) : tIfS c t u ⟨nx, rt, bk, ct⟩ σ H := h
/-- the yes way shown once, from A -/
theorem w_ifS2 {c : TT} (A : Hp → Prop) (ht : ∀ H1, A H1 → t ⟨nx, rt, bk, ct⟩ σ H1) (h : (∀ H1, A H1 → t ⟨nx, rt, bk, ct⟩ σ H1) → c σ H fun b H1 => if b = true then t ⟨nx, rt, bk, ct⟩ σ H1 else u ⟨nx, rt, bk, ct⟩ σ H1) : tIfS c t u ⟨nx, rt, bk, ct⟩ σ H := h ht
theorem w_gsub {to ti : TE} {s : TSet} {Q : St → Hp → Prop} (h : to σ H fun o H1 => ti σ H1 fun i H2 => s o i v H2 fun H3 => Q σ H3) : gSub to ti s v σ H Q := h
theorem w_gnil {Q : St → Hp → Prop} (h : Q σ H) : gNil [] σ H Q := ⟨rfl, h⟩
theorem w_gcons {g : TG} {gs : TGs} {xs : List V} {Q : St → Hp → Prop} (h : g x σ H fun σ' H' => gs xs σ' H' Q) : gCons g gs (x :: xs) σ H Q := ⟨x, xs, rfl, h⟩
theorem w_gtup {n : Nat} {gs : TGs} {xs : List V} {Q : St → Hp → Prop} (hs : SqT K H a xs) (hn : xs.length = n) (h : gs xs σ H Q) : gTup K n gs (.ref a) σ H Q := ⟨a, xs, rfl, hs, hn, h⟩
theorem w_fld (h : tv σ H fun y H1 => ta σ H1 fun x H2 => SfB K f (fun H => nx σ H) y x H2) : sFld K ta tv f ⟨nx, rt, bk, ct⟩ σ H := h
theorem w_setL {xs ys : List V} {k : Int} {j : Nat} {p : Addr} {Q : Hp → Prop} (h : H p = some (.lst xs)) (hk : ixN xs.length k = some j) (e : xs.set j v = ys) (q : ∀ H1, Fr [p] H H1 → H1 p = some (.lst ys) → Q H1) : rSetL (.ref p) (.int k) v H Q :=
  ⟨p, xs, k, j, rfl, rfl, h, hk, q _ (Fr.set h (by intro z y; cases y)) (by rw [upd_same, e])⟩
theorem atI_map {ns : List Int} {k : Int} (h0 : 0 ≤ k) (h1 : k < ns.length) : ∃ c, atI (ns.map V.int) k = some (.int c) := by
  obtain ⟨n, rfl⟩ : ∃ n : Nat, k = (n : Int) := ⟨k.toNat, by omega⟩
  have hk : n < ns.length := by omega
  exact ⟨ns[n], atI_nat (by rw [List.getElem?_map, List.getElem?_eq_getElem hk]; rfl)⟩


/-! ### tests -/
theorem w_test {R : Bool → Hp → Prop} (h : te σ H fun x H' => ∃ k, x = .bl k ∧ R k H') : tTest te σ H R := h
theorem w_tB {R : Bool → Hp → Prop} (h : te σ H fun x H' => ∃ k, x = .bl k ∧ R k H') : tB te σ H R := h
theorem w_exbl {R : Bool → Prop} (h : R b) : ∃ k, V.bl b = V.bl k ∧ R k := ⟨b, rfl, h⟩
theorem w_and {c d : TT} {R : Bool → Hp → Prop} (h : c σ H fun b H1 => if b = true then d σ H1 R else R false H1) : tAnd c d σ H R := h
theorem w_or {c d : TT} {R : Bool → Hp → Prop} (h : c σ H fun b H1 => if b = true then R true H1 else d σ H1 R) : tOr c d σ H R := h
theorem w_not {c : TT} {R : Bool → Hp → Prop} (h : c σ H fun b H1 => R (!b) H1) : tNot c σ H R := h
theorem w_andV (h : ta σ H fun x H1 => ∃ c, x = .bl c ∧ if c = true then tb σ H1 Q else Q (.bl false) H1) : tAndV ta tb σ H Q := h
theorem w_orV (h : ta σ H fun x H1 => ∃ c, x = .bl c ∧ if c = true then Q (.bl true) H1 else tb σ H1 Q) : tOrV ta tb σ H Q := h
theorem w_notV (h : ta σ H fun x H1 => ∃ c, x = .bl c ∧ Q (.bl (!c)) H1) : tNotV ta σ H Q := h
theorem w_if {c : TT} (h : c σ H fun b H1 => if b = true then ta σ H1 Q else tb σ H1 Q) : tIf c ta tb σ H Q := h
theorem w_yes {R : Bool → Hp → Prop} (h : R true H) : tYes σ H R := h
theorem w_iteD {p : Prop} [Decidable p] {A B : Prop} (h1 : p → A) (h2 : ¬ p → B) : if decide p = true then A else B := by
  by_cases h : p
  · rw [decide_eq_true h, if_pos rfl]; exact h1 h
  · rw [decide_eq_false h, if_neg Bool.false_ne_true]; exact h2 h
theorem w_iteND {p : Prop} [Decidable p] {A B : Prop} (h1 : ¬ p → A) (h2 : p → B) : if (!decide p) = true then A else B := by
  by_cases h : p
  · rw [decide_eq_true h]; exact (by simpa using h2 h)
  · rw [decide_eq_false h]; exact (by simpa using h1 h)
theorem w_iteb {b : Bool} {A B : Prop} (h1 : b = true → A) (h2 : b = false → B) : if b = true then A else B := by
  cases b with
  | true => exact h1 rfl
  | false => exact h2 rfl
theorem w_t {A B : Prop} (h : A) : if true = true then A else B := h
theorem w_f {A B : Prop} (h : B) : if false = true then A else B := by rw [if_neg Bool.false_ne_true]; exact h
theorem w_ist {b : Bool} {A B : Prop} (e : b = true) (h : A) : if b = true then A else B := by rw [e]; exact h
theorem w_isf {b : Bool} {A B : Prop} (e : b = false) (h : B) : if b = true then A else B := by rw [e]; exact w_f h
theorem w_iteS {i j : Str} {A B : Prop} (h1 : i = j → A) (h2 : i ≠ j → B) : if decide (V.str i = V.str j) = true then A else B :=
  w_iteD (fun h => h1 (V.str.inj h)) fun h => h2 fun e => h (by rw [e])
/-- ints compared by ==, != -/
theorem w_iteI {i j : Int} {A B : Prop} (h1 : i = j → A) (h2 : i ≠ j → B) : if decide (V.int i = V.int j) = true then A else B :=
  w_iteD (fun h => h1 (V.int.inj h)) fun h => h2 fun e => h (by rw [e])
theorem w_iteNI {i j : Int} {A B : Prop} (h1 : i ≠ j → A) (h2 : i = j → B) : if (!decide (V.int i = V.int j)) = true then A else B :=
  w_iteND (fun h => h1 fun e => h (by rw [e])) fun h => h2 (V.int.inj h)

/-! ### expressions -/
theorem w_var (h : σ[i]? = some (some v)) (q : Q v H) : tVar i σ H Q := ⟨v, h, q⟩
theorem w_c (q : Q v H) : tC v σ H Q := q
theorem w_op {r : R2} (h : ta σ H fun x H1 => tb σ H1 fun y H2 => r x y H2 Q) : tOp r ta tb σ H Q := h
theorem w_un {r : V → Hp → VK → Prop} (h : ta σ H fun x H1 => r x H1 Q) : tUn r ta σ H Q := h
theorem w_tup {t : TA} (h : t σ H fun xs H1 => NewT Q xs H1) : tTup t σ H Q := h
theorem w_lst {t : TA} (h : t σ H fun xs H1 => NewL Q xs H1) : tLst t σ H Q := h
theorem w_newT {xs : List V} (h : xs.length ≤ 1000) (q : ∀ p H1, H p = none → Fr [] H H1 → H1 p = some (.tup xs) → Q (.ref p) H1) : NewT Q xs H := ⟨Nat.le_of_lt (small1000 h), fun p hp => q p _ hp (.new hp) upd_same⟩
theorem w_newL {xs : List V} (h : xs.length ≤ 1000) (q : ∀ p H1, H p = none → Fr [] H H1 → H1 p = some (.lst xs) → Q (.ref p) H1) : NewL Q xs H := ⟨Nat.le_of_lt (small1000 h), fun p hp => q p _ hp (.new hp) upd_same⟩
theorem w_nil {R : List V → Hp → Prop} (q : R [] H) : tNil σ H R := q
theorem w_cons {tr : TA} {R : List V → Hp → Prop} (h : ta σ H fun x H1 => tr σ H1 fun xs H2 => R (x :: xs) H2) : tCons ta tr σ H R := h
theorem w_cb {r : List V → Hp → VK → Prop} {t : TA} (h : t σ H fun vs H1 => r vs H1 Q) : tCB r t σ H Q := h
theorem w_call {sp : Sp} {E : XK} {t : TA} (h : t σ H fun vs H1 => sp vs H1 Q E) : tCall sp [] E t σ H Q := by
  unfold tCall; simp only [List.append_nil]; exact h
theorem w_bm {T : String} {r : V → List V → Hp → VK → Prop} {t : TA} (h : te σ H fun x H1 => tyV K T x H1 ∧ t σ H1 fun xs H2 => r x xs H2 Q) : tBM K T r te t σ H Q := h
theorem w_bm0 {T : String} {r : V → List V → Hp → VK → Prop} (h : te σ H fun x H1 => tyV K T x H1 ∧ r x [] H1 Q) : tBM0 K T r te σ H Q := h
theorem w_tyl {p : Addr} {xs : List V} {A : Prop} (h : H p = some (.lst xs)) (q : A) : tyV K "list" (.ref p) H ∧ A := ⟨Or.inl ⟨rfl, _, SqL.of h⟩, q⟩
theorem w_sl {r : V → Option Int → Option Int → Hp → VK → Prop} {tl th : TO} (h : te σ H fun x H1 => tl σ H1 fun l H2 => th σ H2 fun u H3 => r x l u H3 Q) : tSl r te tl th σ H Q := h
theorem w_nopart {R : Option Int → Hp → Prop} (q : R none H) : tNoPart σ H R := q
theorem w_part {R : Option Int → Hp → Prop} (h : te σ H fun x H1 => ∃ i, x = .int i ∧ R (some i) H1) : tPart te σ H R := h
theorem w_exint {R : Int → Prop} {i : Int} (h : R i) : ∃ j, V.int i = V.int j ∧ R j := ⟨i, rfl, h⟩
theorem w_tfld (h : ta σ H fun x H1 => FldB K f Q x H1) : tFld K ta f σ H Q := h
theorem w_getfld {fs : List (Str × V)} (ho : H a = some (.ins C dx fs)) (c : Cls K C) (n : NoAttr K C f) (l : fs.lookup f = some v) (q : Q v H) : FldB K f Q (.ref a) H := ⟨a, C, dx, fs, v, rfl, ho, c, n, l, q⟩
theorem w_putfld {fs gs : List (Str × V)} {R : Hp → Prop} (ho : H a = some (.ins C dx fs)) (c : Cls K C) (n : NoAttr K C f) (hl : fs.length < 1000) (e : putF f y fs = gs) (q : ∀ H1, Fr [a] H H1 → H1 a = some (.ins C dx gs) → R H1) : SfB K f R y (.ref a) H :=
  ⟨a, C, dx, fs, rfl, ho, c, n, hl, q _ (Fr.set ho (by intro z e; cases e)) (by rw [upd_same, e])⟩
theorem w_fldaug {rd : V → V → Hp → VK → Prop} (h : ta σ H fun x H1 => AuB K f tv rd σ (fun H => nx σ H) x H1) : sFldAug K ta tv rd f ⟨nx, rt, bk, ct⟩ σ H := h
theorem w_augI {fs gs : List (Str × V)} {R : Hp → Prop} {i j : Int} (ho : H a = some (.ins C dx fs)) (c : Cls K C) (n : NoAttr K C f) (l : fs.lookup f = some (.int i)) (hl : fs.length < 1000) (e : putF f (.int (i + j)) fs = gs) (q : ∀ H1, Fr [a] H H1 → H1 a = some (.ins C dx gs) → R H1) : AuB K f (tC (.int j)) rAdd σ R (.ref a) H :=
  ⟨a, C, dx, fs, _, rfl, ho, c, n, l, i, j, rfl, rfl, dx, fs, ho, hl, q _ (Fr.set ho (by intro z e; cases e)) (by rw [upd_same, e])⟩
theorem w_meth {m : Str} {sp : Sp} {E : XK} {t : TA} (h : ta σ H fun x H1 => MeB C m (fun x H1 => t σ H1 fun vs H2 => sp (x :: vs) H2 Q E) x H1) : tMeth C m sp [] E ta t σ H Q := by
  unfold tMeth; simp only [List.append_nil]; exact h
theorem w_meb {m : Str} {R : V → Hp → Prop} {fs : List (Str × V)} (ho : H a = some (.ins C dx fs)) (l : fs.lookup m = none) (q : R (.ref a) H) : MeB C m R (.ref a) H := ⟨a, dx, fs, rfl, ho, l, q⟩
theorem w_make {sp : Sp} {E : XK} {t : TA} (h : t σ H fun vs H1 => MkB C sp Q E vs H1) : tMake C sp [] E t σ H Q := by
  unfold tMake; simp only [List.append_nil]; exact h
theorem w_mkb {sp : Sp} {E : XK} {vs : List V} (h : ∀ x dx H1, H x = none → H dx = none → dx ≠ x → Fr [] H H1 → H1 x = some (.ins C dx []) → sp (.ref x :: vs) H1 (fun v H2 => v = .non ∧ Q (.ref x) H2) E) : MkB C sp Q E vs H := fun x dx hx hd n =>
  h x dx _ hx hd n ((Fr.new hd).trans (Fr.new (by rw [upd_ne (Ne.symm n)]; exact hx))) upd_same
/-! ### by values -/
theorem w_I0 {g : Int → Int → V} {i j : Int} (q : Q (g i j) H) : rI0 g (.int i) (.int j) H Q := ⟨i, j, rfl, rfl, q⟩
theorem w_I {Cn : Int → Int → Prop} {g : Int → Int → V} {i j : Int} (c : Cn i j) (q : Q (g i j) H) : rI Cn g (.int i) (.int j) H Q := ⟨i, j, rfl, rfl, c, q⟩
theorem w_eq (h : scal x y = true) (q : Q (.bl (decide (x = y))) H) : rEq x y H Q := ⟨h, q⟩
theorem w_ne (h : scal x y = true) (q : Q (.bl (!decide (x = y))) H) : rNe x y H Q := ⟨h, q⟩
theorem w_ixL {p : Addr} {xs : List V} {i : Int} (h : SqL K H p xs) (e : atI xs i = some v) (q : Q v H) : rIxL K (.ref p) (.int i) H Q := ⟨p, xs, i, v, rfl, rfl, h, e, q⟩
theorem w_ix2 {p : Addr} {xs : List V} {c d : V} {k : Int} (h : SqL K H p xs) (e : xs = [c, d]) (h0 : 0 ≤ k) (h1 : k < 2) (q1 : Q c H) (q2 : Q d H) : rIxL K (.ref p) (.int k) H Q := by
  subst e
  have e : k = 0 ∨ k = 1 := by omega
  rcases e with rfl | rfl
  · exact w_ixL h rfl q1
  · exact w_ixL h rfl q2
theorem w_ix3 {p : Addr} {xs : List V} {c d e : V} {k : Int} (h : SqL K H p xs) (eq : xs = [c, d, e]) (h0 : 0 ≤ k) (h1 : k < 3) (q1 : Q c H) (q2 : Q d H) (q3 : Q e H) : rIxL K (.ref p) (.int k) H Q := by
  subst eq
  have e : k = 0 ∨ k = 1 ∨ k = 2 := by omega
  rcases e with rfl | rfl | rfl
  · exact w_ixL h rfl q1
  · exact w_ixL h rfl q2
  · exact w_ixL h rfl q3
theorem w_ix4 {p : Addr} {xs : List V} {c d e f : V} {k : Int} (h : SqL K H p xs) (eq : xs = [c, d, e, f]) (h0 : 0 ≤ k) (h1 : k < 4) (q1 : Q c H) (q2 : Q d H) (q3 : Q e H) (q4 : Q f H) : rIxL K (.ref p) (.int k) H Q := by
  subst eq
  have e : k = 0 ∨ k = 1 ∨ k = 2 ∨ k = 3 := by omega
  rcases e with rfl | rfl | rfl | rfl
  · exact w_ixL h rfl q1
  · exact w_ixL h rfl q2
  · exact w_ixL h rfl q3
  · exact w_ixL h rfl q4
theorem w_ixT {p : Addr} {xs : List V} {i : Int} (h : SqT K H p xs) (e : atI xs i = some v) (q : Q v H) : rIxT K (.ref p) (.int i) H Q := ⟨p, xs, i, v, rfl, rfl, h, e, q⟩
theorem w_ixS {w : Str} {i : Int} {c : Nat} (h : w.length ≤ sizeLine) (e : atI w.cps.toList i = some c) (q : Q (.str ⟨#[c]⟩) H) : rIxS (.str w) (.int i) H Q := ⟨w, i, c, rfl, rfl, h, e, q⟩
theorem w_lenL {p : Addr} {xs : List V} {n : Int} (h : SqL K H p xs) (e : (xs.length : Int) = n) (q : Q (.int n) H) : rLenW K [.ref p] H Q := ⟨p, xs, rfl, .inl h, by rw [e]; exact q⟩
theorem w_lenT {p : Addr} {xs : List V} {n : Int} (h : SqT K H p xs) (e : (xs.length : Int) = n) (q : Q (.int n) H) : rLenW K [.ref p] H Q := ⟨p, xs, rfl, .inr h, by rw [e]; exact q⟩
theorem w_app {l : Addr} {xs : List V} (h : H l = some (.lst xs)) (hz : xs.length < 100000) (q : ∀ H1, Fr [l] H H1 → H1 l = some (.lst (xs ++ [y])) → Q .non H1) : rAppend (.ref l) [y] H Q :=
  ⟨l, xs, y, rfl, rfl, h, Nat.lt_of_lt_of_le hz (by decide), q _ (Fr.set h (by intro z e; cases e)) upd_same⟩
theorem w_cat {l m : Addr} {xs zs : List V} (h : H l = some (.lst xs)) (h' : H m = some (.lst zs)) (hz : xs.length + zs.length ≤ 100000) (q : ∀ p H1, H p = none → Fr [] H H1 → H1 p = some (.lst (xs ++ zs)) → Q (.ref p) H1) : rCat (.ref l) (.ref m) H Q :=
  ⟨l, m, xs, zs, rfl, rfl, h, h', Nat.le_trans hz (by decide), fun p hp => q p _ hp (.new hp) upd_same⟩
theorem w_in {p : Addr} {xs : List V} (h : SqL K H p xs ∨ SqT K H p xs) (hx : flatV x = true) (ha : xs.all flatV = true) (q : Q (.bl (inV x xs)) H) : rIn K false x (.ref p) H Q := ⟨p, xs, rfl, h, hx, ha, q⟩
theorem w_inT {p : Addr} {xs : List V} (h : SqT K H p xs) (hx : flatV x = true) (ha : xs.all flatV = true) (q : Q (.bl (inV x xs)) H) : rIn K false x (.ref p) H Q := ⟨p, xs, rfl, .inr h, hx, ha, q⟩
theorem w_notIn {p : Addr} {xs : List V} (h : SqL K H p xs ∨ SqT K H p xs) (hx : flatV x = true) (ha : xs.all flatV = true) (q : Q (.bl (!inV x xs)) H) : rIn K true x (.ref p) H Q := ⟨p, xs, rfl, h, hx, ha, q⟩
/-! ### loops -/
theorem w_for {wi : TI} {g : TG} {tb : TS} (h : wi σ H fun J H1 => ForB J g tb ⟨nx, rt, bk, ct⟩ σ H1) : tFor wi g tb ⟨nx, rt, bk, ct⟩ σ H := h
theorem w_ilist {tl : TE} {R : It → Hp → Prop} (h : tl σ H fun x H1 => IlB K R x H1) : iList K tl σ H R := h
theorem w_ilb {R : It → Hp → Prop} {xs : List V} (hx : SqL K H a xs) (q : R (Itl K a) H) : IlB K R (.ref a) H := ⟨a, rfl, ⟨xs, hx⟩, q⟩
theorem w_itup {tl : TE} {R : It → Hp → Prop} (h : tl σ H fun x H1 => ItB K R x H1) : iTup K tl σ H R := h
theorem w_itb {R : It → Hp → Prop} {xs : List V} (hx : SqT K H a xs) (q : R (Itt K a) H) : ItB K R (.ref a) H := ⟨a, rfl, ⟨xs, hx⟩, q⟩
theorem w_rng1 {t : TA} {R : It → Hp → Prop} (h : t σ H fun vs H1 => RgB1 R vs H1) : iRng1 t σ H R := h
theorem w_rgb1 {R : It → Hp → Prop} {j : Int} (h0 : 0 ≤ j) (h1 : j ≤ 1000000) (q : R (Itr 0 j.toNat) H) : RgB1 R [.int j] H := ⟨j, rfl, by omega, by omega, q⟩
theorem forL {xs : List V} {g : TG} {tb : TS} (Pv : Nat → St → Hp → Prop) (h0 : Pv 0 σ H) (hl : ∀ i σ H, i ≤ xs.length → Pv i σ H → SqL K H a xs)
    (hs : ∀ i x σ H, xs[i]? = some x → Pv i σ H → g x σ H fun σ2 H2 => tb ⟨Pv (i + 1), rt, nx, Pv (i + 1)⟩ σ2 H2) (hd : ∀ σ H, Pv xs.length σ H → nx σ H) : ForB (Itl K a) g tb ⟨nx, rt, bk, ct⟩ σ H :=
  for_list (D := ⟨nx, rt, bk, ct⟩) Pv h0 hl hs hd
theorem forT {xs : List V} {g : TG} {tb : TS} (Pv : Nat → St → Hp → Prop) (h0 : Pv 0 σ H) (hl : ∀ i σ H, i ≤ xs.length → Pv i σ H → SqT K H a xs)
    (hs : ∀ i x σ H, xs[i]? = some x → Pv i σ H → g x σ H fun σ2 H2 => tb ⟨Pv (i + 1), rt, nx, Pv (i + 1)⟩ σ2 H2) (hd : ∀ σ H, Pv xs.length σ H → nx σ H) : ForB (Itt K a) g tb ⟨nx, rt, bk, ct⟩ σ H :=
  for_tup (D := ⟨nx, rt, bk, ct⟩) Pv h0 hl hs hd
theorem forR {lo : Int} {n : Nat} {g : TG} {tb : TS} (Pv : Nat → St → Hp → Prop) (h0 : Pv 0 σ H)
    (hs : ∀ i σ H, i < n → Pv i σ H → g (.int (lo + i)) σ H fun σ2 H2 => tb ⟨Pv (i + 1), rt, nx, Pv (i + 1)⟩ σ2 H2) (hd : ∀ σ H, Pv n σ H → nx σ H) : ForB (Itr lo n) g tb ⟨nx, rt, bk, ct⟩ σ H :=
  for_range (D := ⟨nx, rt, bk, ct⟩) Pv h0 hs hd
/-! ### comprehensions -/
theorem w_lc {wi : TI} {g : TG} {tt : TT} {vs : List Nat} (h : wi σ H fun J H1 => LcB J g tt te vs σ Q H1) : tLc wi g tt te vs σ H Q := h
theorem w_wipe {σ' τ : St} {A : Prop} {vs : List Nat} (h : wipe σ' vs = wipe τ vs) (q : A) : wipe σ' vs = wipe τ vs ∧ A := ⟨h, q⟩
theorem lcE {D : Addr} {Pv : Addr → Nat → List V → Hp → Prop} {acc : List V} (h : H D = some (.lst acc)) (ha : acc.length ≤ i) (hi : i < 50000) (q : ∀ H5, Fr [D] H H5 → H5 D = some (.lst (acc ++ [y])) → Pv D (i + 1) (acc ++ [y]) H5) : LcE D Pv i y H :=
  ⟨acc, h, Nat.lt_of_le_of_lt ha (Nat.lt_of_lt_of_le hi (by decide)), acc ++ [y], by rw [List.length_append]; exact Nat.succ_le_succ ha, upd_same, q _ (Fr.set h (by intro z e; cases e)) upd_same⟩
theorem lcN {D : Addr} {Pv : Addr → Nat → List V → Hp → Prop} {acc : List V} (h : H D = some (.lst acc)) (ha : acc.length ≤ i) (q : Pv D (i + 1) acc H) : LcP D Pv (i + 1) H := ⟨acc, Nat.le_succ_of_le ha, h, q⟩
theorem lcL {xs : List V} {g : TG} {tt : TT} {vs : List Nat} (Pv : Addr → Nat → List V → Hp → Prop)
    (h0 : ∀ D H', H D = none → Fr [] H H' → H' D = some (.lst []) → Pv D 0 [] H') (hl : ∀ D i acc H', H D = none → Pv D i acc H' → SqL K H' a xs)
    (hs : ∀ D i x acc H', H D = none → xs[i]? = some x → i < xs.length → acc.length ≤ i → H' D = some (.lst acc) → Pv D i acc H' → g x (wipe σ vs) H' fun σ2 H2 => wipe σ2 vs = wipe σ vs ∧ tt σ2 H2 fun b H3 =>
      if b = true then te σ2 H3 fun y H4 => LcE D Pv i y H4 else LcP D Pv (i + 1) H3)
    (hd : ∀ D acc H', H D = none → H' D = some (.lst acc) → acc.length ≤ xs.length → Pv D xs.length acc H' → Q (.ref D) H') : LcB (Itl K a) g tt te vs σ Q H := fun D hD =>
  lc_list (K := K) (xs := xs) (LcP D Pv) ⟨[], Nat.le_refl _, upd_same, h0 D _ hD (.new hD) upd_same⟩ (fun i H' _ ⟨acc, _, _, p⟩ => hl D i acc H' hD p)
    (fun i x H' hx ⟨acc, ha, hA, p⟩ => hs D i x acc H' hD hx (List.getElem?_eq_some_iff.mp hx).1 ha hA p) (fun H' ⟨acc, ha, hA, p⟩ => hd D acc H' hD hA ha p)
theorem lcT {xs : List V} {g : TG} {tt : TT} {vs : List Nat} (Pv : Addr → Nat → List V → Hp → Prop)
    (h0 : ∀ D H', H D = none → Fr [] H H' → H' D = some (.lst []) → Pv D 0 [] H') (hl : ∀ D i acc H', H D = none → Pv D i acc H' → SqT K H' a xs)
    (hs : ∀ D i x acc H', H D = none → xs[i]? = some x → i < xs.length → acc.length ≤ i → H' D = some (.lst acc) → Pv D i acc H' → g x (wipe σ vs) H' fun σ2 H2 => wipe σ2 vs = wipe σ vs ∧ tt σ2 H2 fun b H3 =>
      if b = true then te σ2 H3 fun y H4 => LcE D Pv i y H4 else LcP D Pv (i + 1) H3)
    (hd : ∀ D acc H', H D = none → H' D = some (.lst acc) → acc.length ≤ xs.length → Pv D xs.length acc H' → Q (.ref D) H') : LcB (Itt K a) g tt te vs σ Q H := fun D hD =>
  lc_tup (K := K) (xs := xs) (LcP D Pv) ⟨[], Nat.le_refl _, upd_same, h0 D _ hD (.new hD) upd_same⟩ (fun i H' _ ⟨acc, _, _, p⟩ => hl D i acc H' hD p)
    (fun i x H' hx ⟨acc, ha, hA, p⟩ => hs D i x acc H' hD hx (List.getElem?_eq_some_iff.mp hx).1 ha hA p) (fun H' ⟨acc, ha, hA, p⟩ => hd D acc H' hD hA ha p)
theorem lcR {lo : Int} {n : Nat} {g : TG} {tt : TT} {vs : List Nat} (Pv : Addr → Nat → List V → Hp → Prop)
    (h0 : ∀ D H', H D = none → Fr [] H H' → H' D = some (.lst []) → Pv D 0 [] H')
    (hs : ∀ D i acc H', H D = none → i < n → acc.length ≤ i → H' D = some (.lst acc) → Pv D i acc H' → g (.int (lo + i)) (wipe σ vs) H' fun σ2 H2 => wipe σ2 vs = wipe σ vs ∧ tt σ2 H2 fun b H3 =>
      if b = true then te σ2 H3 fun y H4 => LcE D Pv i y H4 else LcP D Pv (i + 1) H3)
    (hd : ∀ D acc H', H D = none → H' D = some (.lst acc) → acc.length ≤ n → Pv D n acc H' → Q (.ref D) H') : LcB (Itr lo n) g tt te vs σ Q H := fun D hD =>
  lc_range (LcP D Pv) ⟨[], Nat.le_refl _, upd_same, h0 D _ hD (.new hD) upd_same⟩
    (fun i H' hi ⟨acc, ha, hA, p⟩ => hs D i acc H' hD hi ha hA p) (fun H' ⟨acc, ha, hA, p⟩ => hd D acc H' hD hA ha p)
theorem w_intB {k : Bool} (q : Q (.int (if k then 1 else 0)) H) : rIntB [.bl k] H Q := ⟨k, rfl, q⟩
theorem qint {j k : Int} (h : Q (.int j) H) (e : j = k) : Q (.int k) H := e ▸ h
/-! ### while, truth, raise, texts joined, pop, extend -/
theorem w_tru {R : Bool → Hp → Prop} (h : ta σ H fun x H' => TrB K R x H') : tTruW K ta σ H R := h
theorem w_trl {R : Bool → Hp → Prop} {p : Addr} {xs : List V} (h : H p = some (.lst xs)) (q : R (!xs.isEmpty) H) : TrB K R (.ref p) H := ⟨_, .inl ⟨xs, SqL.of h, rfl⟩, q⟩
theorem w_while {c : TT} {tb : TS} (Pv : Nat → St → Hp → Prop) (m0 : Nat) (h0 : Pv m0 σ H) (hs : ∀ m σ H, Pv m σ H → c σ H fun b H1 => if b = true then WhB (fun σ' H' => ∃ m', m' < m ∧ Pv m' σ' H') tb rt nx σ H1 else nx σ H1) : tWhile c tb ⟨nx, rt, bk, ct⟩ σ H :=
  ⟨Pv, ⟨m0, h0⟩, fun m τ G p => hs m τ G p⟩
theorem w_whb {P : St → Hp → Prop} {tb : TS} (h : tb ⟨P, rt, nx, P⟩ σ H) : WhB P tb rt nx σ H := ⟨P, fun _ _ p => p, h⟩
theorem w_chain {r r' : R2} {tc : TE} (h : ta σ H fun x H1 => tb σ H1 fun y H2 => r x y H2 fun z H3 => ∃ k, z = .bl k ∧ (if k = true then tc σ H3 fun w' H4 => r' y w' H4 Q else Q (.bl false) H3)) : tChain r r' ta tb tc σ H Q := h
theorem w_tyIs {c d : String} (q : Q (.bl (decide (c = d))) H) : rTyIs (.ty c) (.ty d) H Q := ⟨c, d, rfl, rfl, q⟩
theorem w_ty4 {T : String} (h : RZ.Ty4 H x T) (q : Q (.ty T) H) : RZ.rTy4 [x] H Q := ⟨x, T, rfl, h, q⟩
theorem w_raise {C : Addr} {W : WX} {t : TA} (h : t σ H fun vs H1 => RaB C W σ vs H1) : tRaiseA C W t ⟨nx, rt, bk, ct⟩ σ H := h
theorem w_rab {C : Addr} {W : WX} (q : W (.ref C) none σ H) : RaB C W σ [x] H := ⟨Nat.le_of_lt (small1000 (by decide : 1 ≤ 1000)), q⟩
theorem w_jn {ts : List TE} (h : tJs ts Str.empty σ H fun out H1 => Q (.str out) H1) : tJn ts σ H Q := h
theorem w_js {t : TE} {ts : List TE} {acc : Str} {R : Str → Hp → Prop} (h : t σ H fun x H1 => JsB ts acc σ R x H1) : tJs (t :: ts) acc σ H R := h
theorem w_jsn {acc : Str} {R : Str → Hp → Prop} (h : R acc H) : tJs [] acc σ H R := h
theorem w_jsb {ts : List TE} {acc y : Str} {R : Str → Hp → Prop} (hl : acc.length + y.length ≤ 100000) (h : tJs ts (acc ++ y) σ H R) : JsB ts acc σ R (.str y) H :=
  ⟨y, rfl, by rw [Str.length_append]; exact Nat.le_trans hl (by decide), h⟩
theorem w_fmt (h : ta σ H fun x H1 => FmB Q x H1) : tFmt ta σ H Q := h
theorem w_fms {y : Str} (hl : y.length ≤ 100000) (q : Q (.str y) H) : FmB Q (.str y) H := .inl ⟨y, rfl, Nat.le_trans hl (by decide), q⟩
theorem w_fmi {j : Int} (h0 : 0 ≤ j) (h1 : j ≤ 100000) (q : ∀ y : Str, y.length ≤ 6 → Q (.str y) H) : FmB Q (.int j) H :=
  .inr ⟨j, rfl, (by
    rcases Nat.eq_zero_or_pos j.natAbs with e | e
    · rw [e]; decide
    · exact (Nat.log2_lt (by omega)).mpr (Nat.lt_of_le_of_lt (show j.natAbs ≤ 2 ^ 20 by omega) (Nat.pow_lt_pow_right (by decide) (by decide)))), q _ (PyProof.Rows.toString_length_le h0 (by decide) (by omega))⟩
theorem w_pop {l : Addr} {xs : List V} (h : H l = some (.lst (xs ++ [y]))) (q : ∀ H1, Fr [l] H H1 → H1 l = some (.lst xs) → Q y H1) : rPop (.ref l) [] H Q :=
  ⟨l, xs ++ [y], y, rfl, rfl, h, by simp, q _ (Fr.set h (by intro z e; cases e)) (by rw [upd_same, List.dropLast_concat])⟩
theorem w_ext {l b : Addr} {xs zs : List V} (h : H l = some (.lst xs)) (h' : H b = some (.lst zs)) (hz : xs.length + zs.length ≤ 100000) (q : ∀ H1, Fr [l] H H1 → H1 l = some (.lst (xs ++ zs)) → Q .non H1) : rExtend (.ref l) [.ref b] H Q :=
  ⟨l, b, xs, zs, rfl, rfl, h, h', Nat.le_trans hz (by decide), q _ (Fr.set h (by intro z e; cases e)) upd_same⟩
theorem w_isN (q : Q (.bl (decide (x = .non))) H) : rIsNW x .non H Q := ⟨rfl, q⟩
theorem w_isiT {tp : Addr} {cs : List V} {t : String} {us : List Value} {b : Bool} (hc : H tp = some (.tup cs)) (hp : Paired ClsV cs us) (h : TyX K H x (.type t)) (e : PySem.W.kitAny K (.type t) us = some b) (q : Q (.bl b) H) : rIsiT K [x, .ref tp] H Q := ⟨x, tp, cs, .type t, us, b, rfl, hc, hp, h, e, q⟩
theorem w_ixS1 {p : Addr} {xs : List V} {j : Int} (h : SqL K H p xs) (e : atI xs j = some v) (q : Q v H) : rIx K (.ref p) (.int j) H Q := .inl ⟨p, xs, j, v, rfl, rfl, h, e, q⟩
theorem w_ixS2 {p : Addr} {xs : List V} {j : Int} (h : SqT K H p xs) (e : atI xs j = some v) (q : Q v H) : rIx K (.ref p) (.int j) H Q := .inr (.inl ⟨p, xs, j, v, rfl, rfl, h, e, q⟩)
theorem w_eqD {d e : PyData} (h : Dp K H x d) (h' : Dp K H y e) (s1 : SeqAt.shaped d = true) (s2 : SeqAt.shaped e = true) (q : Q (.bl (PyData.eqv d e)) H) : rEqD K x y H Q := ⟨d, e, h, h', s1, s2, q⟩
theorem w_neD {d e : PyData} (h : Dp K H x d) (h' : Dp K H y e) (s1 : SeqAt.shaped d = true) (s2 : SeqAt.shaped e = true) (q : Q (.bl (!PyData.eqv d e)) H) : rNeD K x y H Q := ⟨d, e, h, h', s1, s2, q⟩
/-! ### dicts -/
theorem w_dget {td ty : TE} (h : td σ H fun x H1 => ty σ H1 fun y H2 => DgB x y H2 Q) : tDGet td ty σ H Q := h
theorem w_din {td ty : TE} (h : ty σ H fun y H1 => td σ H1 fun x H2 => DiB y x H2 Q) : tDIn ty td σ H Q := h
theorem w_dnotin {td ty : TE} (h : ty σ H fun y H1 => td σ H1 fun x H2 => DnB y x H2 Q) : tDNotIn ty td σ H Q := h
theorem w_dput {td ty tv : TE} (h : tv σ H fun v H1 => td σ H1 fun x H2 => ty σ H2 fun y H3 => DpB x y v H3 fun H4 => nx σ H4) : sDPut td ty tv ⟨nx, rt, bk, ct⟩ σ H := h
theorem w_dnew (h : NewD Q H) : tDNewK σ H Q := h
theorem w_newD (q : ∀ p H1, H p = none → Fr [] H H1 → H1 p = some (.dK []) → Q (.ref p) H1) : NewD Q H := fun p hp => q p _ hp (.new hp) upd_same
theorem w_dgs {kvs : List (Key × V)} {k : Str} (h : H a = some (.dK kvs)) (e : valV kvs (Sum.inr k) = some v) (q : Q v H) : DgB (.ref a) (.str k) H Q := ⟨a, v, rfl, by rw [← e]; exact DGet.k (k := Sum.inr k) h, q⟩
theorem w_dgi {kvs : List (Key × V)} {k : Int} (h : H a = some (.dK kvs)) (e : valV kvs (Sum.inl k) = some v) (q : Q v H) : DgB (.ref a) (.int k) H Q := ⟨a, v, rfl, by rw [← e]; exact DGet.k (k := Sum.inl k) h, q⟩
theorem w_dis {kvs : List (Key × V)} {k : Str} (h : H a = some (.dK kvs)) (q : Q (.bl (valV kvs (Sum.inr k)).isSome) H) : DiB (.str k) (.ref a) H Q := ⟨a, _, rfl, DGet.k (k := Sum.inr k) h, q⟩
theorem w_dii {kvs : List (Key × V)} {k : Int} (h : H a = some (.dK kvs)) (q : Q (.bl (valV kvs (Sum.inl k)).isSome) H) : DiB (.int k) (.ref a) H Q := ⟨a, _, rfl, DGet.k (k := Sum.inl k) h, q⟩
theorem w_dns {kvs : List (Key × V)} {k : Str} (h : H a = some (.dK kvs)) (q : Q (.bl (!(valV kvs (Sum.inr k)).isSome)) H) : DnB (.str k) (.ref a) H Q := ⟨a, _, rfl, DGet.k (k := Sum.inr k) h, q⟩
theorem w_dps {kvs : List (Key × V)} {k : Str} {R : Hp → Prop} (h : H a = some (.dK kvs)) (hl : kvs.length < 1000) (q : ∀ H1, Fr [a] H H1 → H1 a = some (.dK (putK kvs (Sum.inr k) v)) → R H1) : DpB (.ref a) (.str k) v H R :=
  ⟨a, _, rfl, DPut.k (k := Sum.inr k) h (Nat.lt_of_lt_of_le hl (by decide)), q _ (Fr.set h (by intro z e; cases e)) upd_same⟩
theorem w_dpi {kvs : List (Key × V)} {k : Int} {R : Hp → Prop} (h : H a = some (.dK kvs)) (hl : kvs.length < 1000) (q : ∀ H1, Fr [a] H H1 → H1 a = some (.dK (putK kvs (Sum.inl k) v)) → R H1) : DpB (.ref a) (.int k) v H R :=
  ⟨a, _, rfl, DPut.k (k := Sum.inl k) h (Nat.lt_of_lt_of_le hl (by decide)), q _ (Fr.set h (by intro z e; cases e)) upd_same⟩
/-! ### slices -/
theorem w_slT {xs ys : List V} {lo hi : Option Int} (h : SqT K H a xs) (n : ¬ (HT.sIx xs.length 0 lo = 0 ∧ HT.sIx xs.length xs.length hi = xs.length)) (e : cutV xs lo hi = ys) (q : ∀ p H1, H p = none → Fr [] H H1 → H1 p = some (.tup ys) → Q (.ref p) H1) : rSlT K (.ref a) lo hi H Q :=
  ⟨a, xs, rfl, h, n, fun p hp => by rw [e]; exact q p _ hp (.new hp) upd_same⟩
theorem w_slL {xs ys : List V} {lo hi : Option Int} (h : SqL K H a xs) (e : cutV xs lo hi = ys) (q : ∀ p H1, H p = none → Fr [] H H1 → H1 p = some (.lst ys) → Q (.ref p) H1) : rSlL K (.ref a) lo hi H Q :=
  ⟨a, xs, rfl, h, fun p hp => by rw [e]; exact q p _ hp (.new hp) upd_same⟩
/-! ### isinstance -/
theorem w_isi {t : String} {u : String} {b : Bool} (h : TyX K H x (.type t)) (e : kitB t u = some b) (q : Q (.bl b) H) : rIsi K [x, .ty u] H Q := ⟨x, .ty u, .type t, .type u, b, rfl, .ty u, h, kit_ty e, q⟩
theorem ty_tup {xs : List V} (h : H a = some (.tup xs)) : TyX K H (.ref a) (.type "tuple") := .base (.tup h)
theorem ty_lst {xs : List V} (h : H a = some (.lst xs)) : TyX K H (.ref a) (.type "list") := .base (.lst h)
theorem ty_int {j : Int} : TyX K H (.int j) (.type "int") := .base (.int j)
theorem ty_str {z : Str} : TyX K H (.str z) (.type "str") := .base (.str z)
theorem ty_bl {z : Bool} : TyX K H (.bl z) (.type "bool") := .base (.bl z)
theorem ty_non : TyX K H .non (.type "NoneType") := .base .non
/-! ### a text, sign by sign -/
theorem w_istr {te : TE} {R : It → Hp → Prop} (h : te σ H fun v H1 => StB R v H1) : iStr te σ H R := h
theorem w_stb {z : Str} {R : It → Hp → Prop} (q : R (Its z) H) : StB R (.str z) H := ⟨z, rfl, q⟩
theorem forS {z : Str} {g : TG} {tb : TS} (Pv : Nat → St → Hp → Prop) (h0 : Pv 0 σ H)
    (hs : ∀ i c σ H, z.cps[i]? = some c → Pv i σ H → g (.str ⟨#[c]⟩) σ H fun σ2 H2 => tb ⟨Pv (i + 1), rt, nx, Pv (i + 1)⟩ σ2 H2) (hd : ∀ σ H, Pv z.cps.size σ H → nx σ H) : ForB (Its z) g tb ⟨nx, rt, bk, ct⟩ σ H := by
  refine ⟨fun j m τ G => m + j = z.cps.size ∧ Pv j τ G, ⟨z.cps.size, Nat.add_zero _, h0⟩, fun j m τ G hh => ?_⟩
  obtain ⟨e, pv⟩ := hh
  rcases Nat.lt_or_ge j z.cps.size with hj | hj
  · refine Or.inr ⟨hj, Pv (j + 1), fun τ' G' pv' => ⟨m - 1, by omega, by omega, pv'⟩, fun u G' yy => ?_⟩
    obtain ⟨e1, c, hc, e2⟩ := yy
    subst e1 e2
    exact hs j c _ _ hc pv
  · have ej : j = z.cps.size := by omega
    subst ej
    exact Or.inl ⟨Nat.le_refl _, hd _ _ pv⟩
theorem sIx_one (n d : Nat) : HT.sIx (n + 1) d (some 1) = 1 := by
  have h := HT.sIx_nat (n + 1) d 1
  have e : HT.sIx (n + 1) d (some 1) = min 1 (n + 1) := h
  rw [e]; omega
theorem cut_tail (c : V) (xs : List V) : cutV (c :: xs) (some 1) none = xs := by
  unfold cutV
  rw [List.length_cons, sIx_one, HT.sIx_none]
  simp
theorem tail_not (c : V) (xs : List V) : ¬ (HT.sIx (c :: xs).length 0 (some 1) = 0 ∧ HT.sIx (c :: xs).length (c :: xs).length none = (c :: xs).length) := by
  rw [List.length_cons, sIx_one]
  omega
theorem take_snoc {α : Type} {xs : List α} {i : Nat} {x : α} (h : xs[i]? = some x) : xs.take (i + 1) = xs.take i ++ [x] := by
  rw [List.take_succ, h]; rfl
end
section
variable {X : Cx}
theorem pt_tru {e : Expr} {te : TE} (ha : PE X e te) (he : ∀ whole, isTrue e X.env whole = (do let v ← whole; standAt e.pos; holding [v] (truthy v)) := by intro _; rfl) : PT X e (tTruW X.K te) := pt_truth ha he
theorem pe_globR {x : Str} {a : Addr} {pos : Pos} (hg : Gl X x) (hm : X.mg x = some (.ref a)) (hd : (x == ("__debug__" : Str)) = false := by decide) : PE X (.Name x pos) (tC (.ref a)) := pe_glob hg hm rfl hd
theorem pe_globI {x : Str} {n : Int} {pos : Pos} (hg : Gl X x) (hm : ∃ t, X.mg x = some (.int n t)) (hd : (x == ("__debug__" : Str)) = false := by decide) : PE X (.Name x pos) (tC (.int n)) := by
  obtain ⟨t, h⟩ := hm
  exact pe_glob hg h ⟨_, rfl⟩ hd
end
end Wk
namespace My
open PySem L2 Wk
/-- a def of the text, by its promise -/
structure Df (P : Program) (w : World) (K : PySem.W.Frag) (mg : Str → Option Value) (base : Heap) (CX : CXT) (k : Nat) (x : Str) (ps : List Str) (sp : Sp) : Prop where
  ex : ∃ (f : Addr) (fd : FuncData), mg x = some (.ref f) ∧ PySem.W.keepIn K (.ref f) = true ∧ Binds K fd ps [] ∧ FnOk P w K mg base CX k f fd ps sp
section
variable {X : Cx}
theorem pe_df {k j : Nat} {x : Str} {ps : List Str} {sp : Sp} {e : Expr} {es : List Expr} {t : TA} {p pos : Pos} (D : Df X.prog X.w X.K X.mg X.base CX0 k x ps sp) (hr : Room j X.A) (hj : k ≤ j) (ha : PA X (e :: es) t) (hg : Gl X x := by rfl)
    (he : starEach (e :: es) X.env = (false, eval e X.env) :: starEach es X.env := by rfl) (hpl : (backTo pos (starEach es X.env)).any (·.1) = false := by rfl) (hdb : (x == ("__debug__" : Str)) = false := by decide) : PE X (.Call (.Name x p) (e :: es) [] pos) (tCall sp [] E0 t) := by
  obtain ⟨f, fd, hm, hk, hb, F⟩ := D.ex
  exact pe_call F (hr.mono hj) hg hm hk hb .nil pass0 ha hdb he hpl
end
section
variable {X : Cx}
theorem pe_dfx {k j : Nat} {x : Str} {ps : List Str} {sp : Sp} {e : Expr} {es : List Expr} {t : TA} {p pos : Pos} {E : XK} (D : Df X.prog X.w X.K X.mg X.base (L2.CX X.prog X.w) k x ps sp) (hr : Room j X.A) (hj : k ≤ j) (tk : Takes X (fun cls d _ H => E cls d H)) (ha : PA X (e :: es) t) (hg : Gl X x := by rfl)
    (he : starEach (e :: es) X.env = (false, eval e X.env) :: starEach es X.env := by rfl) (hpl : (backTo pos (starEach es X.env)).any (·.1) = false := by rfl) (hdb : (x == ("__debug__" : Str)) = false := by decide) : PE X (.Call (.Name x p) (e :: es) [] pos) (tCall sp [] E t) := by
  obtain ⟨f, fd, hm, hk, hb, F⟩ := D.ex
  exact pe_call F (hr.mono hj) hg hm hk hb .nil (passes_call tk (fun _ _ _ _ h => h)) ha hdb he hpl
end
/-! ### sums as data -/
inductive Op where
  | add | less | times
  deriving DecidableEq
def Op.word : Op → Str
  | .add => "add"
  | .less => "less"
  | .times => "times"
inductive Sm where
  | num (n : Int) | name (c : Str) | ask | say (s : Sm) | bin (o : Op) (a b : Sm)
def Sm.size : Sm → Nat
  | .num _ => 1
  | .name _ => 1
  | .ask => 1
  | .say s => s.size + 1
  | .bin _ a b => a.size + b.size + 1
def Sm.depth : Sm → Nat
  | .num _ => 1
  | .name _ => 1
  | .ask => 1
  | .say s => s.depth + 1
  | .bin _ a b => max a.depth b.depth + 1
/-- numbers and letters as they may be -/
def Sm.ok : Sm → Prop
  | .num n => 0 ≤ n ∧ n < 1000
  | .name c => c ∈ letters
  | .ask => True
  | .say s => s.ok
  | .bin _ a b => a.ok ∧ b.ok
def IsSum (H : Hp) : V → Sm → Prop
  | v, .num n => ∃ p, v = .ref p ∧ H p = some (.tup [.str "num", .int n])
  | v, .name c => ∃ p, v = .ref p ∧ H p = some (.tup [.str "name", .str c])
  | v, .ask => ∃ p, v = .ref p ∧ H p = some (.tup [.str "ask"])
  | v, .say s => ∃ p x, v = .ref p ∧ H p = some (.tup [.str "say", x]) ∧ IsSum H x s
  | v, .bin o a b => ∃ p x y, v = .ref p ∧ H p = some (.tup [.str o.word, x, y]) ∧ IsSum H x a ∧ IsSum H y b
theorem IsSum.mono {W : List Addr} {H H' : Hp} (f : Fr W H H') : ∀ {s : Sm} {v : V}, IsSum H v s → IsSum H' v s
  | .num _, _, ⟨p, e, h⟩ => ⟨p, e, f.gett h⟩
  | .name _, _, ⟨p, e, h⟩ => ⟨p, e, f.gett h⟩
  | .ask, _, ⟨p, e, h⟩ => ⟨p, e, f.gett h⟩
  | .say _, _, ⟨p, x, e, h, h1⟩ => ⟨p, x, e, f.gett h, IsSum.mono f h1⟩
  | .bin _ _ _, _, ⟨p, x, y, e, h, h1, h2⟩ => ⟨p, x, y, e, f.gett h, IsSum.mono f h1, IsSum.mono f h2⟩
theorem fr_su {W : List Addr} {H H1 : Hp} {v : V} {s : Sm} (f : Fr W H H1) (h : IsSum H v s) : IsSum H1 v s := IsSum.mono f h
theorem Sm.size_pos (s : Sm) : 1 ≤ s.size := by cases s <;> simp [Sm.size]
theorem Sm.depth_pos (s : Sm) : 1 ≤ s.depth := by cases s <;> simp [Sm.depth]
/-! ### the state of drawing -/
def Known (K : PySem.W.Frag) (a : Addr) (xs : List V) : Prop :=
  ∃ (o : Obj) (its : Array Value) (n : Nat), K.lookup a = some o ∧ o.cls = .type "list" ∧ o.dict = none ∧ o.data = .seq its n ∧ its.size ≤ sizeLine ∧ Vals xs its.toList
/-- the script, apart from what may be written -/
def Scr (K : PySem.W.Frag) (H : Hp) (a : Addr) (xs : List V) (Ws : List Addr) : Prop := (Rd H a (.lst xs) ∧ a ∉ Ws) ∨ Known K a xs
theorem Scr.sq {K : PySem.W.Frag} {H : Hp} {a : Addr} {xs : List V} {Ws : List Addr} (h : Scr K H a xs Ws) : SqL K H a xs := by
  rcases h with ⟨h, _⟩ | h
  · exact .inl h
  · exact .inr h
theorem rd_fr {W : List Addr} {H H' : Hp} {a : Addr} {u : HO} (f : Fr W H H') (h : Rd H a u) (n : a ∉ W) : Rd H' a u := by
  rcases h with h | ⟨o, h⟩
  · exact .inl (f.get h n)
  · exact .inr ⟨o, f.get h n⟩
theorem Scr.fr {K : PySem.W.Frag} {H H' : Hp} {a : Addr} {xs : List V} {Ws W : List Addr} (h : Scr K H a xs Ws) (f : Fr W H H') (hw : ∀ b ∈ W, b ∈ Ws) : Scr K H' a xs Ws := by
  rcases h with ⟨h, n⟩ | h
  · exact .inl ⟨rd_fr f h fun q => n (hw a q), n⟩
  · exact .inr h
/-- the state at st: the script, how many cells are begun, a mixed number, what is left of a cell; Ws: what else may be written -/
def StAt (K : PySem.W.Frag) (Ws : List Addr) (H : Hp) (st : Addr) : Prop :=
  ∃ (a : Addr) (ns : List Int) (i m r : Int), H st = some (.lst [.ref a, .int i, .int m, .int r]) ∧ Scr K H a (ns.map V.int) (st :: Ws) ∧ 0 ≤ i ∧ 0 ≤ m ∧ m < 2147483647
theorem StAt.fr {K : PySem.W.Frag} {Ws W : List Addr} {H H' : Hp} {st : Addr} (h : StAt K Ws H st) (f : Fr W H H') (n : st ∉ W) (hw : ∀ b ∈ W, b ∈ Ws) : StAt K Ws H' st := by
  obtain ⟨a, ns, i, m, r, h1, h2, h3⟩ := h
  exact ⟨a, ns, i, m, r, f.get h1 n, h2.fr f fun b q => List.mem_cons_of_mem _ (hw b q), h3⟩
theorem StAt.fr1 {K : PySem.W.Frag} {Ws : List Addr} {H H' : Hp} {st q : Addr} (h : StAt K Ws H st) (f : Fr [q] H H') (n : st ≠ q) (hw : q ∈ Ws) : StAt K Ws H' st :=
  h.fr f (by simpa using n) (fun b hb => by rw [List.mem_singleton.mp hb]; exact hw)
theorem StAt.fr0 {K : PySem.W.Frag} {Ws : List Addr} {H H' : Hp} {st : Addr} (h : StAt K Ws H st) (f : Fr [] H H') : StAt K Ws H' st := h.fr f (by simp) (by simp)
theorem fr_st0 {K : PySem.W.Frag} {Ws : List Addr} {H H' : Hp} {st : Addr} (f : Fr [] H H') (h : StAt K Ws H st) : StAt K Ws H' st := h.fr0 f
theorem fr_st1 {K : PySem.W.Frag} {Ws : List Addr} {H H' : Hp} {st q : Addr} (f : Fr [q] H H') (n : st ≠ q) (hw : q ∈ Ws) (h : StAt K Ws H st) : StAt K Ws H' st := h.fr1 f n hw
theorem nn_st {K : PySem.W.Frag} {Ws : List Addr} {H : Hp} {p st : Addr} (n : H p = none) (h : StAt K Ws H st) : p ≠ st := by
  obtain ⟨a, ns, i, m, r, h1, _⟩ := h
  exact nn_l n h1
/-- one more thing that may be written, made anew -/
theorem StAt.more {K : PySem.W.Frag} {Ws : List Addr} {H H' : Hp} {st q : Addr} (h : StAt K Ws H st) (f : Fr [] H H') (n : H q = none) : StAt K (q :: Ws) H' st := by
  obtain ⟨a, ns, i, m, r, h1, h2, h3⟩ := h
  refine ⟨a, ns, i, m, r, f.get0 h1, ?_, h3⟩
  rcases h2 with ⟨h, n2⟩ | h
  · refine .inl ⟨rd_fr f h (by simp), ?_⟩
    have nq : a ≠ q := by
      rcases h with h | ⟨o, h⟩
      · exact ne_of_none h n
      · exact ne_of_none h n
    simp only [List.mem_cons, not_or] at n2 ⊢
    exact ⟨n2.1, nq, n2.2⟩
  · exact .inr h
theorem StAt.less {K : PySem.W.Frag} {Ws Ws' : List Addr} {H : Hp} {st : Addr} (h : StAt K Ws H st) (hw : ∀ b ∈ Ws', b ∈ Ws) : StAt K Ws' H st := by
  obtain ⟨a, ns, i, m, r, h1, h2, h3⟩ := h
  refine ⟨a, ns, i, m, r, h1, ?_, h3⟩
  rcases h2 with ⟨h, n2⟩ | h
  · refine .inl ⟨h, ?_⟩
    simp only [List.mem_cons, not_or] at n2 ⊢
    exact ⟨n2.1, fun q => n2.2 (hw a q)⟩
  · exact .inr h
theorem atI_mem {xs : List V} {k : Int} (h0 : 0 ≤ k) (h1 : k < xs.length) : ∃ x, atI xs k = some x ∧ x ∈ xs := by
  obtain ⟨n, rfl⟩ : ∃ n : Nat, k = (n : Int) := ⟨k.toNat, by omega⟩
  have hk : n < xs.length := by omega
  exact ⟨xs[n], atI_nat (List.getElem?_eq_getElem hk), List.getElem_mem hk⟩
def spStart (K : PySem.W.Frag) : Sp := fun vs H Q _ => ∃ (a : Addr) (ns : List Int), vs = [.ref a] ∧ SqL K H a (ns.map V.int) ∧ ∀ (st : Addr) (H' : Hp), H st = none → StAt K [] H' st → Fr [] H H' → Q (.ref st) H'
def spDrawn (K : PySem.W.Frag) : Sp := fun vs H Q _ => ∃ (Ws : List Addr) (st : Addr) (n : Int), vs = [.ref st, .int n] ∧ StAt K Ws H st ∧ 0 < n ∧ n.natAbs < 2 ^ 200 ∧
  ∀ (v : Int) (H' : Hp), 0 ≤ v → v < n → StAt K Ws H' st → Fr [st] H H' → Q (.int v) H'
theorem u_drawn {K : PySem.W.Frag} {Ws : List Addr} {H : Hp} {Q : VK} {E : XK} {st : Addr} {n : Int} (h : StAt K Ws H st) (hn : 0 < n) (hn2 : n.natAbs < 2 ^ 200) (k : ∀ (v : Int) (H' : Hp), 0 ≤ v → v < n → StAt K Ws H' st → Fr [st] H H' → Q (.int v) H') : spDrawn K [.ref st, .int n] H Q E :=
  ⟨Ws, st, n, rfl, h, hn, hn2, k⟩
def spSum (K : PySem.W.Frag) (n : Nat) : Sp := fun vs H Q _ => ∃ (Ws : List Addr) (st rm : Addr) (d r : Int), vs = [.ref st, .int d, .ref rm] ∧ StAt K Ws H st ∧ rm ∈ Ws ∧ H rm = some (.lst [.int r]) ∧ 1 ≤ r ∧ r ≤ 1000 ∧ d < n ∧
  ∀ (v : V) (s : Sm) (H' : Hp), IsSum H' v s → s.ok → ((s.depth : Int) ≤ d ∨ s.depth = 1) → (s.size : Int) ≤ r → H' rm = some (.lst [.int (r - s.size)]) → StAt K Ws H' st → Fr [st, rm] H H' → Q v H'
theorem u_sum {K : PySem.W.Frag} {n : Nat} {Ws : List Addr} {H : Hp} {Q : VK} {E : XK} {st rm : Addr} {d r : Int} (h : StAt K Ws H st) (hw : rm ∈ Ws) (hr : H rm = some (.lst [.int r])) (h1 : 1 ≤ r) (h2 : r ≤ 1000) (hd : d < n)
    (k : ∀ (v : V) (s : Sm) (H' : Hp), IsSum H' v s → s.ok → ((s.depth : Int) ≤ d ∨ s.depth = 1) → (s.size : Int) ≤ r → H' rm = some (.lst [.int (r - s.size)]) → StAt K Ws H' st → Fr [st, rm] H H' → Q v H') : spSum K n [.ref st, .int d, .ref rm] H Q E :=
  ⟨Ws, st, rm, d, r, rfl, h, hw, hr, h1, h2, hd, k⟩
theorem StAt.ne {K : PySem.W.Frag} {Ws : List Addr} {H : Hp} {st rm : Addr} {xs : List V} (h : StAt K Ws H st) (hr : H rm = some (.lst xs)) (hx : xs.length ≠ 4) : st ≠ rm := by
  obtain ⟨a, ns, i, m, r, h1, _⟩ := h
  exact ne_of h1 hr (by
    intro e
    apply hx
    rw [← HO.lst.inj e]
    rfl)
theorem depth_bin {o : Op} {a b : Sm} {n : Nat} (h1 : a.depth ≤ n) (h2 : b.depth ≤ n) : (Sm.bin o a b).depth ≤ n + 1 := Nat.succ_le_succ (Nat.max_le.mpr ⟨h1, h2⟩)
theorem idx2 {a b : Int} {k : Int} (h0 : 0 ≤ k) (h1 : k < 2) : ∃ z, atI [V.int a, V.int b] k = some (.int z) ∧ (z = a ∨ z = b) := by
  have e : k = 0 ∨ k = 1 := by omega
  rcases e with rfl | rfl
  · exact ⟨a, rfl, .inl rfl⟩
  · exact ⟨b, rfl, .inr rfl⟩
theorem idx3i {a b c : Int} {k : Int} (h0 : 0 ≤ k) (h1 : k < 3) : ∃ z, atI [V.int a, V.int b, V.int c] k = some (.int z) ∧ (z = a ∨ z = b ∨ z = c) := by
  have e : k = 0 ∨ k = 1 ∨ k = 2 := by omega
  rcases e with rfl | rfl | rfl
  · exact ⟨a, rfl, .inl rfl⟩
  · exact ⟨b, rfl, .inr (.inl rfl)⟩
  · exact ⟨c, rfl, .inr (.inr rfl)⟩
theorem idx4i {a b c d : Int} {k : Int} (h0 : 0 ≤ k) (h1 : k < 4) : ∃ z, atI [V.int a, V.int b, V.int c, V.int d] k = some (.int z) ∧ (z = a ∨ z = b ∨ z = c ∨ z = d) := by
  have e : k = 0 ∨ k = 1 ∨ k = 2 ∨ k = 3 := by omega
  rcases e with rfl | rfl | rfl | rfl
  · exact ⟨a, rfl, .inl rfl⟩
  · exact ⟨b, rfl, .inr (.inl rfl)⟩
  · exact ⟨c, rfl, .inr (.inr (.inl rfl))⟩
  · exact ⟨d, rfl, .inr (.inr (.inr rfl))⟩
theorem op3 {k : Int} (h0 : 0 ≤ k) (h1 : k < 3) : ∃ o : Op, atI [V.str "add", V.str "less", V.str "times"] k = some (.str o.word) := by
  have e : k = 0 ∨ k = 1 ∨ k = 2 := by omega
  rcases e with rfl | rfl | rfl
  · exact ⟨.add, rfl⟩
  · exact ⟨.less, rfl⟩
  · exact ⟨.times, rfl⟩
theorem idx3 {a b c : V} {k : Int} (h0 : 0 ≤ k) (h1 : k < 3) : ∃ z, atI [a, b, c] k = some z ∧ (z = a ∨ z = b ∨ z = c) := by
  have e : k = 0 ∨ k = 1 ∨ k = 2 := by omega
  rcases e with rfl | rfl | rfl
  · exact ⟨a, rfl, .inl rfl⟩
  · exact ⟨b, rfl, .inr (.inl rfl)⟩
  · exact ⟨c, rfl, .inr (.inr rfl)⟩
theorem idx4 {a b c d : V} {k : Int} (h0 : 0 ≤ k) (h1 : k < 4) : ∃ z, atI [a, b, c, d] k = some z ∧ (z = a ∨ z = b ∨ z = c ∨ z = d) := by
  have e : k = 0 ∨ k = 1 ∨ k = 2 ∨ k = 3 := by omega
  rcases e with rfl | rfl | rfl | rfl
  · exact ⟨a, rfl, .inl rfl⟩
  · exact ⟨b, rfl, .inr (.inl rfl)⟩
  · exact ⟨c, rfl, .inr (.inr (.inl rfl))⟩
  · exact ⟨d, rfl, .inr (.inr (.inr rfl))⟩
theorem letter_at {k : Int} (h0 : 0 ≤ k) (h1 : k < 6) : ∃ c : Nat, atI ("abcdef" : Str).cps.toList k = some c ∧ (⟨#[c]⟩ : Str) ∈ letters := by
  have e : k = 0 ∨ k = 1 ∨ k = 2 ∨ k = 3 ∨ k = 4 ∨ k = 5 := by omega
  rcases e with rfl | rfl | rfl | rfl | rfl | rfl
  · exact ⟨97, by decide +kernel, by decide +kernel⟩
  · exact ⟨98, by decide +kernel, by decide +kernel⟩
  · exact ⟨99, by decide +kernel, by decide +kernel⟩
  · exact ⟨100, by decide +kernel, by decide +kernel⟩
  · exact ⟨101, by decide +kernel, by decide +kernel⟩
  · exact ⟨102, by decide +kernel, by decide +kernel⟩
theorem str_small : ("abcdef" : Str).length ≤ sizeLine := Nat.le_trans (show ("abcdef" : Str).length ≤ 6 by decide +kernel) (by decide)
/-! ### a sum without effects, the sums within -/
def Sm.quiet : Sm → Sm
  | .num n => .num n
  | .name c => .name c
  | .ask => .num 7
  | .say s => s.quiet
  | .bin o a b => .bin o a.quiet b.quiet
theorem Sm.quiet_ok : ∀ {s : Sm}, s.ok → s.quiet.ok
  | .num _, h => h
  | .name _, h => h
  | .ask, _ => ⟨by decide, by decide⟩
  | .say s, h => Sm.quiet_ok (s := s) h
  | .bin _ _ _, h => ⟨Sm.quiet_ok h.1, Sm.quiet_ok h.2⟩
theorem Sm.quiet_size : ∀ s : Sm, s.quiet.size ≤ s.size
  | .num _ => Nat.le_refl _
  | .name _ => Nat.le_refl _
  | .ask => Nat.le_refl _
  | .say s => Nat.le_succ_of_le (Sm.quiet_size s)
  | .bin _ a b => Nat.succ_le_succ (Nat.add_le_add (Sm.quiet_size a) (Sm.quiet_size b))
theorem Sm.quiet_depth : ∀ s : Sm, s.quiet.depth ≤ s.depth
  | .num _ => Nat.le_refl _
  | .name _ => Nat.le_refl _
  | .ask => Nat.le_refl _
  | .say s => Nat.le_succ_of_le (Sm.quiet_depth s)
  | .bin _ a b => by
    have h1 := Sm.quiet_depth a
    have h2 := Sm.quiet_depth b
    show max a.quiet.depth b.quiet.depth + 1 ≤ max a.depth b.depth + 1
    omega
def Sm.subs : Sm → List Sm
  | .say s => [s]
  | .bin _ a b => [a, b]
  | _ => []
def Sm.all : Sm → List Sm
  | .num n => [.num n]
  | .name c => [.name c]
  | .ask => [.ask]
  | .say s => .say s :: s.all
  | .bin o a b => .bin o a b :: (a.all ++ b.all)
theorem Sm.all_length : ∀ s : Sm, s.all.length = s.size
  | .num _ => rfl
  | .name _ => rfl
  | .ask => rfl
  | .say s => congrArg (· + 1) (Sm.all_length s)
  | .bin _ a b => by
    show (a.all ++ b.all).length + 1 = a.size + b.size + 1
    rw [List.length_append, Sm.all_length a, Sm.all_length b]
theorem Sm.all_eq (s : Sm) : s.all = s :: (s.subs.flatMap Sm.all) := by
  cases s <;> simp [Sm.all, Sm.subs]
theorem Sm.subs_depth {s t : Sm} (h : t ∈ s.subs) : t.depth + 1 ≤ s.depth := by
  cases s with
  | say s => simp only [Sm.subs, List.mem_singleton] at h; subst h; exact Nat.le_refl _
  | bin o a b =>
    have e : (Sm.bin o a b).depth = max a.depth b.depth + 1 := rfl
    simp only [Sm.subs, List.mem_cons, List.not_mem_nil, or_false] at h
    rcases h with rfl | rfl <;> omega
  | num _ => cases h
  | name _ => cases h
  | ask => cases h
theorem Sm.subs_size {s t : Sm} (h : t ∈ s.subs) : t.size + 1 ≤ s.size := by
  cases s with
  | say s => simp only [Sm.subs, List.mem_singleton] at h; subst h; exact Nat.le_refl _
  | bin o a b =>
    have e : (Sm.bin o a b).size = a.size + b.size + 1 := rfl
    simp only [Sm.subs, List.mem_cons, List.not_mem_nil, or_false] at h
    rcases h with rfl | rfl <;> omega
  | num _ => cases h
  | name _ => cases h
  | ask => cases h
/-- a list of sums -/
def AllSum (H : Hp) : List V → List Sm → Prop
  | [], [] => True
  | v :: vs, s :: ss => IsSum H v s ∧ AllSum H vs ss
  | _, _ => False
theorem AllSum.mono {W : List Addr} {H H' : Hp} (f : Fr W H H') : ∀ {vs : List V} {ss : List Sm}, AllSum H vs ss → AllSum H' vs ss
  | [], [], _ => trivial
  | _ :: _, _ :: _, h => ⟨h.1.mono f, AllSum.mono f h.2⟩
theorem fr_as {W : List Addr} {H H1 : Hp} {vs : List V} {ss : List Sm} (f : Fr W H H1) (h : AllSum H vs ss) : AllSum H1 vs ss := AllSum.mono f h
theorem AllSum.length {H : Hp} : ∀ {vs : List V} {ss : List Sm}, AllSum H vs ss → vs.length = ss.length
  | [], [], _ => rfl
  | _ :: _, _ :: _, h => congrArg (· + 1) (AllSum.length h.2)
theorem AllSum.app {H : Hp} : ∀ {vs ws : List V} {ss ts : List Sm}, AllSum H vs ss → AllSum H ws ts → AllSum H (vs ++ ws) (ss ++ ts)
  | [], _, [], _, _, h => h
  | _ :: _, _, _ :: _, _, h, h' => ⟨h.1, AllSum.app h.2 h'⟩
theorem AllSum.at {H : Hp} : ∀ {vs : List V} {ss : List Sm} {i : Nat} {v : V}, AllSum H vs ss → vs[i]? = some v → ∃ s, ss[i]? = some s ∧ IsSum H v s
  | _ :: _, s :: _, 0, _, h, e => by
    cases e
    exact ⟨s, rfl, h.1⟩
  | _ :: _, _ :: _, i + 1, _, h, e => AllSum.at (i := i) h.2 e
/-- what stands straight within, by the tuple -/
theorem IsSum.tup {H : Hp} {v : V} {s : Sm} (h : IsSum H v s) : ∃ p xs, v = .ref p ∧ H p = some (.tup xs) := by
  cases s with
  | num n => obtain ⟨p, e, q⟩ := h; exact ⟨p, _, e, q⟩
  | name n => obtain ⟨p, e, q⟩ := h; exact ⟨p, _, e, q⟩
  | ask => obtain ⟨p, e, q⟩ := h; exact ⟨p, _, e, q⟩
  | say s => obtain ⟨p, x, e, q, _⟩ := h; exact ⟨p, _, e, q⟩
  | bin o a b => obtain ⟨p, x, y, e, q, _⟩ := h; exact ⟨p, _, e, q⟩
def spQuiet (n : Nat) : Sp := fun vs H Q _ => ∃ (v : V) (s : Sm), vs = [v] ∧ IsSum H v s ∧ s.depth ≤ n ∧ ∀ (v' : V) (H' : Hp), IsSum H' v' s.quiet → Fr [] H H' → Q v' H'
theorem u_quiet {n : Nat} {H : Hp} {Q : VK} {E : XK} {v : V} {s : Sm} (h : IsSum H v s) (hd : s.depth ≤ n) (k : ∀ (v' : V) (H' : Hp), IsSum H' v' s.quiet → Fr [] H H' → Q v' H') : spQuiet n [v] H Q E := ⟨v, s, rfl, h, hd, k⟩
def spParts : Sp := fun vs H Q _ => ∃ (v : V) (s : Sm), vs = [v] ∧ IsSum H v s ∧ ∀ (p : Addr) (us : List V) (H' : Hp), H p = none → H' p = some (.lst us) → AllSum H' us s.subs → Fr [] H H' → Q (.ref p) H'
theorem u_parts {H : Hp} {Q : VK} {E : XK} {v : V} {s : Sm} (h : IsSum H v s) (k : ∀ (p : Addr) (us : List V) (H' : Hp), H p = none → H' p = some (.lst us) → AllSum H' us s.subs → Fr [] H H' → Q (.ref p) H') : spParts [v] H Q E := ⟨v, s, rfl, h, k⟩
def spAll (n : Nat) : Sp := fun vs H Q _ => ∃ (v : V) (s : Sm), vs = [v] ∧ IsSum H v s ∧ s.depth ≤ n ∧ s.size ≤ 10000 ∧ ∀ (p : Addr) (us : List V) (H' : Hp), H p = none → H' p = some (.lst us) → AllSum H' us s.all → Fr [] H H' → Q (.ref p) H'
theorem u_all {n : Nat} {H : Hp} {Q : VK} {E : XK} {v : V} {s : Sm} (h : IsSum H v s) (hd : s.depth ≤ n) (hz : s.size ≤ 10000) (k : ∀ (p : Addr) (us : List V) (H' : Hp), H p = none → H' p = some (.lst us) → AllSum H' us s.all → Fr [] H H' → Q (.ref p) H') : spAll n [v] H Q E := ⟨v, s, rfl, h, hd, hz, k⟩
theorem subs_all_len (s : Sm) (i : Nat) : ((s.subs.take i).flatMap Sm.all).length + 1 ≤ s.size := by
  cases s with
  | say s =>
    have h := Sm.all_length s
    match i with
    | 0 => simp [Sm.subs, Sm.size]
    | i + 1 => simp [Sm.subs, Sm.size, h]
  | bin o a b =>
    have h := Sm.all_length a
    have h' := Sm.all_length b
    match i with
    | 0 => simp [Sm.subs, Sm.size]
    | 1 => simp [Sm.subs, Sm.size, h]
    | i + 2 => simp [Sm.subs, Sm.size, h, h']
  | num _ => simp [Sm.subs, Sm.size]
  | name _ => simp [Sm.subs, Sm.size]
  | ask => simp [Sm.subs, Sm.size]
/-! ### names and given numbers -/
def nkv (f : Str → Int) (l : List Str) : List (Key × V) := l.map fun c => (Sum.inr c, V.int (f c))
theorem valV_nkv (f : Str → Int) (c : Str) : ∀ l : List Str, valV (nkv f l) (Sum.inr c) = if c ∈ l then some (V.int (f c)) else none
  | [] => by simp [nkv, valV_nil]
  | a :: r => by
    show valV ((Sum.inr a, V.int (f a)) :: nkv f r) (Sum.inr c) = _
    by_cases e : a = c
    · subst e
      rw [valV_pos rfl, if_pos (List.mem_cons_self)]
    · rw [valV_neg (fun q => e (Sum.inr.inj q)), valV_nkv f c r]
      have h : (c ∈ a :: r) ↔ c ∈ r := by
        rw [List.mem_cons]
        exact ⟨fun h => h.resolve_left fun q => e q.symm, Or.inr⟩
      by_cases m : c ∈ r
      · rw [if_pos m, if_pos (h.mpr m)]
      · rw [if_neg m, if_neg fun q => m (h.mp q)]
theorem nkv_put {f : Str → Int} {l : List Str} {c : Str} {v : Int} (h : c ∉ l) : putK (nkv f l) (Sum.inr c) (.int v) = nkv (fun x => if x = c then v else f x) (l ++ [c]) := by
  rw [putK_new _ (by rw [valV_nkv, if_neg h])]
  unfold nkv
  rw [List.map_append]
  have e : l.map (fun c => ((Sum.inr c : Key), V.int (f c))) = l.map (fun x => ((Sum.inr x : Key), V.int (if x = c then v else f x))) := by
    refine List.map_congr_left fun x hx => ?_
    rw [if_neg (fun q : x = c => h (by rw [← q]; exact hx))]
  rw [e]
  simp
theorem letters_nodup : letters.Nodup := by decide +kernel
theorem sign_at {i : Nat} {c : Nat} (h : ("abcdef" : Str).cps[i]? = some c) : letters[i]? = some ⟨#[c]⟩ := by
  have e : ("abcdef" : Str).cps = #[97, 98, 99, 100, 101, 102] := by decide +kernel
  rw [e] at h
  match i, h with
  | 0, h => obtain rfl : 97 = c := Option.some.inj h; decide +kernel
  | 1, h => obtain rfl : 98 = c := Option.some.inj h; decide +kernel
  | 2, h => obtain rfl : 99 = c := Option.some.inj h; decide +kernel
  | 3, h => obtain rfl : 100 = c := Option.some.inj h; decide +kernel
  | 4, h => obtain rfl : 101 = c := Option.some.inj h; decide +kernel
  | 5, h => obtain rfl : 102 = c := Option.some.inj h; decide +kernel
  | n + 6, h => simp at h
theorem sign_size : ("abcdef" : Str).cps.size = 6 := by decide +kernel
theorem letter_new {i : Nat} {c : Str} (h : letters[i]? = some c) : c ∉ letters.take i := by
  intro m
  obtain ⟨j, hj⟩ := List.getElem?_of_mem m
  rw [List.getElem?_take] at hj
  split at hj
  · have := nd_ix letters_nodup h hj
    omega
  · cases hj
def NamesAt (H : Hp) (p : Addr) (f : Str → Int) : Prop := H p = some (.dK (nkv f letters)) ∧ ∀ c, 0 ≤ f c ∧ f c < 1000
def GivenAt (H : Hp) (p : Addr) (gs : List Int) : Prop := H p = some (.lst (gs.map V.int)) ∧ 60 ≤ gs.length ∧ gs.length ≤ 62 ∧ ∀ g ∈ gs, 0 ≤ g ∧ g < 1000
def spNames (K : PySem.W.Frag) : Sp := fun vs H Q _ => ∃ (Ws : List Addr) (st : Addr), vs = [.ref st] ∧ StAt K Ws H st ∧ ∀ (p : Addr) (f : Str → Int) (H' : Hp), H p = none → NamesAt H' p f → StAt K Ws H' st → Fr [st] H H' → Q (.ref p) H'
theorem u_names {K : PySem.W.Frag} {Ws : List Addr} {H : Hp} {Q : VK} {E : XK} {st : Addr} (h : StAt K Ws H st) (k : ∀ (p : Addr) (f : Str → Int) (H' : Hp), H p = none → NamesAt H' p f → StAt K Ws H' st → Fr [st] H H' → Q (.ref p) H') : spNames K [.ref st] H Q E := ⟨Ws, st, rfl, h, k⟩
def spGiven (K : PySem.W.Frag) : Sp := fun vs H Q _ => ∃ (Ws : List Addr) (st : Addr), vs = [.ref st] ∧ StAt K Ws H st ∧ ∀ (p : Addr) (gs : List Int) (H' : Hp), H p = none → GivenAt H' p gs → StAt K Ws H' st → Fr [st] H H' → Q (.ref p) H'
theorem u_given {K : PySem.W.Frag} {Ws : List Addr} {H : Hp} {Q : VK} {E : XK} {st : Addr} (h : StAt K Ws H st) (k : ∀ (p : Addr) (gs : List Int) (H' : Hp), H p = none → GivenAt H' p gs → StAt K Ws H' st → Fr [st] H H' → Q (.ref p) H') : spGiven K [.ref st] H Q E := ⟨Ws, st, rfl, h, k⟩
def spAny (K : PySem.W.Frag) : Sp := fun vs H Q _ => ∃ (Ws : List Addr) (st : Addr), vs = [.ref st] ∧ StAt K Ws H st ∧ ∀ (v : V) (s : Sm) (H' : Hp), IsSum H' v s → s.ok → s.depth ≤ 15 → s.size ≤ 60 → StAt K Ws H' st → Fr [st] H H' → Q v H'
theorem u_any {K : PySem.W.Frag} {Ws : List Addr} {H : Hp} {Q : VK} {E : XK} {st : Addr} (h : StAt K Ws H st) (k : ∀ (v : V) (s : Sm) (H' : Hp), IsSum H' v s → s.ok → s.depth ≤ 15 → s.size ≤ 60 → StAt K Ws H' st → Fr [st] H H' → Q v H') : spAny K [.ref st] H Q E := ⟨Ws, st, rfl, h, k⟩
/-! ### what a sum comes to -/
def Op.app : Op → Int → Int → Int
  | .add, x, y => (x + y) % 1000
  | .less, x, y => (x - y) % 1000
  | .times, x, y => x * y % 1000
theorem Op.app_range (o : Op) (x y : Int) : 0 ≤ o.app x y ∧ o.app x y < 1000 := by
  cases o <;> exact ⟨Int.emod_nonneg _ (by decide), Int.emod_lt_of_pos _ (by decide)⟩
/-- its number, what is said and how many are asked for behind it -/
def Sm.ev (f : Str → Int) (gs : List Int) : Sm → List Int → Nat → Int × List Int × Nat
  | .num n, sd, k => (n, sd, k)
  | .name c, sd, k => (f c, sd, k)
  | .ask, sd, k => (gs.getD k 0, sd, k + 1)
  | .say s, sd, k => ((s.ev f gs sd k).1, (s.ev f gs sd k).2.1 ++ [(s.ev f gs sd k).1], (s.ev f gs sd k).2.2)
  | .bin o a b, sd, k => (o.app (a.ev f gs sd k).1 (b.ev f gs (a.ev f gs sd k).2.1 (a.ev f gs sd k).2.2).1, (b.ev f gs (a.ev f gs sd k).2.1 (a.ev f gs sd k).2.2).2)
/-- the same of sums in turn -/
def evs (f : Str → Int) (gs : List Int) : List Sm → List Int → Nat → List Int × List Int × Nat
  | [], sd, k => ([], sd, k)
  | s :: r, sd, k => ((s.ev f gs sd k).1 :: (evs f gs r (s.ev f gs sd k).2.1 (s.ev f gs sd k).2.2).1, (evs f gs r (s.ev f gs sd k).2.1 (s.ev f gs sd k).2.2).2)
theorem evs_snoc (f : Str → Int) (gs : List Int) (t : Sm) : ∀ (l : List Sm) (sd : List Int) (k : Nat), evs f gs (l ++ [t]) sd k =
    ((evs f gs l sd k).1 ++ [(t.ev f gs (evs f gs l sd k).2.1 (evs f gs l sd k).2.2).1], (t.ev f gs (evs f gs l sd k).2.1 (evs f gs l sd k).2.2).2)
  | [], sd, k => rfl
  | s :: r, sd, k => by
    show ((s.ev f gs sd k).1 :: (evs f gs (r ++ [t]) _ _).1, (evs f gs (r ++ [t]) _ _).2) = _
    rw [evs_snoc f gs t r]
    rfl
theorem evs_length (f : Str → Int) (gs : List Int) : ∀ (l : List Sm) (sd : List Int) (k : Nat), (evs f gs l sd k).1.length = l.length
  | [], _, _ => rfl
  | _ :: r, _, _ => congrArg (· + 1) (evs_length f gs r _ _)
def Sm.asks : Sm → Nat
  | .ask => 1
  | .say s => s.asks
  | .bin _ a b => a.asks + b.asks
  | _ => 0
def asksL : List Sm → Nat
  | [] => 0
  | s :: r => s.asks + asksL r
theorem asksL_app : ∀ l m : List Sm, asksL (l ++ m) = asksL l + asksL m
  | [], m => (Nat.zero_add _).symm
  | s :: r, m => by
    show s.asks + asksL (r ++ m) = s.asks + asksL r + asksL m
    rw [asksL_app r m, Nat.add_assoc]
theorem Sm.ev_asked (f : Str → Int) (gs : List Int) : ∀ (s : Sm) (sd : List Int) (k : Nat), (s.ev f gs sd k).2.2 = k + s.asks
  | .num _, _, _ => rfl
  | .name _, _, _ => rfl
  | .ask, _, _ => rfl
  | .say s, sd, k => Sm.ev_asked f gs s sd k
  | .bin o a b, sd, k => by
    show (b.ev f gs _ _).2.2 = k + (a.asks + b.asks)
    rw [Sm.ev_asked f gs b, Sm.ev_asked f gs a, Nat.add_assoc]
theorem evs_asked (f : Str → Int) (gs : List Int) : ∀ (l : List Sm) (sd : List Int) (k : Nat), (evs f gs l sd k).2.2 = k + asksL l
  | [], _, _ => rfl
  | s :: r, sd, k => by
    show (evs f gs r _ _).2.2 = k + (s.asks + asksL r)
    rw [evs_asked f gs r, Sm.ev_asked f gs s, Nat.add_assoc]
theorem Sm.ev_said (f : Str → Int) (gs : List Int) : ∀ (s : Sm) (sd : List Int) (k : Nat), (s.ev f gs sd k).2.1.length ≤ sd.length + s.size
  | .num _, _, _ => Nat.le_add_right _ _
  | .name _, _, _ => Nat.le_add_right _ _
  | .ask, _, _ => Nat.le_add_right _ _
  | .say s, sd, k => by
    have h := Sm.ev_said f gs s sd k
    show ((s.ev f gs sd k).2.1 ++ [_]).length ≤ sd.length + (s.size + 1)
    rw [List.length_append, List.length_singleton]
    omega
  | .bin o a b, sd, k => by
    have h := Sm.ev_said f gs a sd k
    have h' := Sm.ev_said f gs b (a.ev f gs sd k).2.1 (a.ev f gs sd k).2.2
    show (b.ev f gs (a.ev f gs sd k).2.1 (a.ev f gs sd k).2.2).2.1.length ≤ sd.length + (a.size + b.size + 1)
    omega
def sizeL : List Sm → Nat
  | [] => 0
  | s :: r => s.size + sizeL r
theorem sizeL_app : ∀ l m : List Sm, sizeL (l ++ m) = sizeL l + sizeL m
  | [], m => (Nat.zero_add _).symm
  | s :: r, m => by
    show s.size + sizeL (r ++ m) = s.size + sizeL r + sizeL m
    rw [sizeL_app r m, Nat.add_assoc]
theorem evs_said (f : Str → Int) (gs : List Int) : ∀ (l : List Sm) (sd : List Int) (k : Nat), (evs f gs l sd k).2.1.length ≤ sd.length + sizeL l
  | [], _, _ => Nat.le_add_right _ _
  | s :: r, sd, k => by
    have h := Sm.ev_said f gs s sd k
    have h' := evs_said f gs r (s.ev f gs sd k).2.1 (s.ev f gs sd k).2.2
    show (evs f gs r (s.ev f gs sd k).2.1 (s.ev f gs sd k).2.2).2.1.length ≤ sd.length + (s.size + sizeL r)
    omega
def Good (f : Str → Int) (gs : List Int) : Prop := (∀ c, 0 ≤ f c ∧ f c < 1000) ∧ ∀ g ∈ gs, 0 ≤ g ∧ g < 1000
theorem getD_range {gs : List Int} (h : ∀ g ∈ gs, 0 ≤ g ∧ g < 1000) (k : Nat) : 0 ≤ gs.getD k 0 ∧ gs.getD k 0 < 1000 := by
  rcases Nat.lt_or_ge k gs.length with hk | hk
  · rw [List.getD_eq_getElem?_getD, List.getElem?_eq_getElem hk]
    exact h _ (List.getElem_mem hk)
  · rw [List.getD_eq_getElem?_getD, List.getElem?_eq_none hk]
    exact ⟨Int.le_refl 0, by decide⟩
theorem Sm.ev_range {f : Str → Int} {gs : List Int} (g : Good f gs) : ∀ {s : Sm}, s.ok → ∀ (sd : List Int) (k : Nat), 0 ≤ (s.ev f gs sd k).1 ∧ (s.ev f gs sd k).1 < 1000
  | .num _, h, _, _ => h
  | .name c, _, _, _ => g.1 c
  | .ask, _, _, k => getD_range g.2 k
  | .say s, h, sd, k => Sm.ev_range g (s := s) h sd k
  | .bin o a b, _, _, _ => o.app_range _ _
theorem subs_asks (s : Sm) (h : s ≠ .ask) : asksL s.subs = s.asks := by
  cases s <;> first | rfl | exact absurd rfl h | skip
theorem subs_asks_le (s : Sm) (i : Nat) : asksL (s.subs.take i) ≤ s.asks := by
  cases s with
  | say s =>
    match i with
    | 0 => exact Nat.zero_le _
    | i + 1 => simp [Sm.subs, asksL, Sm.asks]
  | bin o a b =>
    match i with
    | 0 => exact Nat.zero_le _
    | 1 => simp [Sm.subs, asksL, Sm.asks]
    | i + 2 => simp [Sm.subs, asksL, Sm.asks]
  | num _ => simp [Sm.subs, asksL]
  | name _ => simp [Sm.subs, asksL]
  | ask => simp [Sm.subs, asksL]
theorem subs_size_le (s : Sm) (i : Nat) : sizeL (s.subs.take i) + 1 ≤ s.size := by
  cases s with
  | say s =>
    match i with
    | 0 => simp [sizeL, Sm.size]
    | i + 1 => simp [Sm.subs, sizeL, Sm.size]
  | bin o a b =>
    match i with
    | 0 => simp [sizeL, Sm.size]
    | 1 => simp [Sm.subs, sizeL, Sm.size]
    | i + 2 => simp [Sm.subs, sizeL, Sm.size]
  | num _ => simp [Sm.subs, sizeL, Sm.size]
  | name _ => simp [Sm.subs, sizeL, Sm.size]
  | ask => simp [Sm.subs, sizeL, Sm.size]
theorem subs_ok {s t : Sm} (h : s.ok) (m : t ∈ s.subs) : t.ok := by
  cases s with
  | say s => simp only [Sm.subs, List.mem_singleton] at m; subst m; exact h
  | bin o a b =>
    simp only [Sm.subs, List.mem_cons, List.not_mem_nil, or_false] at m
    rcases m with rfl | rfl
    · exact h.1
    · exact h.2
  | num _ => cases m
  | name _ => cases m
  | ask => cases m
theorem evs_range {f : Str → Int} {gs : List Int} (g : Good f gs) : ∀ (l : List Sm), (∀ t ∈ l, t.ok) → ∀ (sd : List Int) (k : Nat), ∀ x ∈ (evs f gs l sd k).1, 0 ≤ x ∧ x < 1000
  | [], _, _, _, x, hx => by cases hx
  | s :: r, h, sd, k, x, hx => by
    rcases List.mem_cons.mp hx with e | m
    · rw [e]
      exact Sm.ev_range g (h s List.mem_cons_self) sd k
    · exact evs_range g r (fun t ht => h t (List.mem_cons_of_mem _ ht)) _ _ x m
theorem subs_len2 (s : Sm) : s.subs.length ≤ 2 := by cases s <;> simp [Sm.subs]
/-! ### the law's own reckoning -/
structure ToldAt (H : Hp) (td gv : Addr) (gs : List Int) (sl : Addr) (sd : List Int) (k : Nat) : Prop where
  pair : H td = some (.lst [.ref sl, .int k])
  said : H sl = some (.lst (sd.map V.int))
  gvn : H gv = some (.lst (gs.map V.int))
  n1 : gv ≠ sl
  n2 : td ≠ sl
  n3 : gv ≠ td
theorem fr_td {H H' : Hp} {W : List Addr} {td gv sl : Addr} {gs sd : List Int} {k : Nat} (f : Fr W H H') (n1 : td ∉ W) (n2 : sl ∉ W) (n3 : gv ∉ W) (h : ToldAt H td gv gs sl sd k) : ToldAt H' td gv gs sl sd k :=
  ⟨f.get h.pair n1, f.get h.said n2, f.get h.gvn n3, h.n1, h.n2, h.n3⟩
theorem fr_td0 {H H' : Hp} {td gv sl : Addr} {gs sd : List Int} {k : Nat} (f : Fr [] H H') (h : ToldAt H td gv gs sl sd k) : ToldAt H' td gv gs sl sd k := fr_td f (by simp) (by simp) (by simp) h
def NamesV (H : Hp) (nd : Addr) (f : Str → Int) : Prop := ∃ kvs, H nd = some (.dK kvs) ∧ ∀ c ∈ letters, valV kvs (Sum.inr c) = some (.int (f c))
theorem NamesV.fr {W : List Addr} {H H' : Hp} {nd : Addr} {f : Str → Int} (h : NamesV H nd f) (a : Fr W H H') (n : nd ∉ W) : NamesV H' nd f := by
  obtain ⟨kvs, h1, h2⟩ := h
  exact ⟨kvs, a.get h1 n, h2⟩
theorem NamesAt.v {H : Hp} {p : Addr} {f : Str → Int} (h : NamesAt H p f) : NamesV H p f := ⟨_, h.1, fun c hc => by rw [valV_nkv, if_pos hc]⟩
theorem fr_nv {W : List Addr} {H H' : Hp} {nd : Addr} {f : Str → Int} (a : Fr W H H') (n : nd ∉ W) (h : NamesV H nd f) : NamesV H' nd f := h.fr a n
theorem ni3 {a b c d : Addr} (h : a ≠ b) (h' : a ≠ c) (h'' : a ≠ d) : a ∉ [b, c, d] := by simp [h, h', h'']
def spLWorth (n : Nat) : Sp := fun vs H Q _ => ∃ (v : V) (s : Sm) (nd td gv sl : Addr) (gs sd : List Int) (f : Str → Int) (k : Nat), vs = [v, .ref nd, .ref gv, .ref td] ∧ IsSum H v s ∧ s.ok ∧ s.depth ≤ n ∧ Good f gs ∧
  NamesV H nd f ∧ ToldAt H td gv gs sl sd k ∧ k + s.asks ≤ gs.length ∧ sd.length + s.size ≤ 1000 ∧
  ∀ H' : Hp, ToldAt H' td gv gs sl (s.ev f gs sd k).2.1 (s.ev f gs sd k).2.2 → Fr [td, sl] H H' → Q (.int (s.ev f gs sd k).1) H'
theorem u_lworth {n : Nat} {H : Hp} {Q : VK} {E : XK} {v : V} {s : Sm} {nd td gv sl : Addr} {gs sd : List Int} {f : Str → Int} {k : Nat} (h1 : IsSum H v s) (h2 : s.ok) (h3 : s.depth ≤ n) (h4 : Good f gs)
    (h6 : NamesV H nd f) (h7 : ToldAt H td gv gs sl sd k) (h8 : k + s.asks ≤ gs.length) (h9 : sd.length + s.size ≤ 1000) (q : ∀ H' : Hp, ToldAt H' td gv gs sl (s.ev f gs sd k).2.1 (s.ev f gs sd k).2.2 → Fr [td, sl] H H' → Q (.int (s.ev f gs sd k).1) H') : spLWorth n [v, .ref nd, .ref gv, .ref td] H Q E :=
  ⟨v, s, nd, td, gv, sl, gs, sd, f, k, rfl, h1, h2, h3, h4, h6, h7, h8, h9, q⟩
/-- what is told: a tuple of the number, the new list of what is said, how many were asked for -/
def spTold : Sp := fun vs H Q _ => ∃ (v : V) (s : Sm) (nd gv : Addr) (gs : List Int) (f : Str → Int), vs = [v, .ref nd, .ref gv] ∧ IsSum H v s ∧ s.ok ∧ s.depth ≤ 15 ∧ s.size ≤ 60 ∧ Good f gs ∧ NamesV H nd f ∧ H gv = some (.lst (gs.map V.int)) ∧ s.asks ≤ gs.length ∧
  ∀ (t sl : Addr) (H' : Hp), H t = none → H sl = none → H' t = some (.tup [.int (s.ev f gs [] 0).1, .ref sl, .int (s.ev f gs [] 0).2.2]) → H' sl = some (.lst ((s.ev f gs [] 0).2.1.map V.int)) → Fr [] H H' → Q (.ref t) H'
theorem u_told {H : Hp} {Q : VK} {E : XK} {v : V} {s : Sm} {nd gv : Addr} {gs : List Int} {f : Str → Int} (h1 : IsSum H v s) (h2 : s.ok) (h3 : s.depth ≤ 15) (h4 : s.size ≤ 60) (h5 : Good f gs) (h6 : NamesV H nd f) (h7 : H gv = some (.lst (gs.map V.int))) (h8 : s.asks ≤ gs.length)
    (q : ∀ (t sl : Addr) (H' : Hp), H t = none → H sl = none → H' t = some (.tup [.int (s.ev f gs [] 0).1, .ref sl, .int (s.ev f gs [] 0).2.2]) → H' sl = some (.lst ((s.ev f gs [] 0).2.1.map V.int)) → Fr [] H H' → Q (.ref t) H') : spTold [v, .ref nd, .ref gv] H Q E := ⟨v, s, nd, gv, gs, f, rfl, h1, h2, h3, h4, h5, h6, h7, h8, q⟩
theorem Sm.asks_le : ∀ s : Sm, s.asks ≤ s.size
  | .num _ => Nat.zero_le _
  | .name _ => Nat.zero_le _
  | .ask => Nat.le_refl _
  | .say s => Nat.le_succ_of_le (Sm.asks_le s)
  | .bin _ a b => Nat.le_succ_of_le (Nat.add_le_add (Sm.asks_le a) (Sm.asks_le b))
def Sm.isAsk : Sm → Bool
  | .ask => true
  | _ => false
theorem Sm.asks_all : ∀ s : Sm, (s.all.filter Sm.isAsk).length = s.asks
  | .num _ => rfl
  | .name _ => rfl
  | .ask => rfl
  | .say s => Sm.asks_all s
  | .bin o a b => by
    show ((a.all ++ b.all).filter Sm.isAsk).length = a.asks + b.asks
    rw [List.filter_append, List.length_append, Sm.asks_all a, Sm.asks_all b]
def Sm.word : Sm → Str
  | .num _ => "num"
  | .name _ => "name"
  | .ask => "ask"
  | .say _ => "say"
  | .bin o _ _ => o.word
def Sm.letter : Sm → Str
  | .name c => c
  | _ => "a"
theorem ask_word : ∀ s : Sm, decide (s.word = "ask") = s.isAsk
  | .num _ => by show decide (("num" : Str) = "ask") = false; decide +kernel
  | .name _ => by show decide (("name" : Str) = "ask") = false; decide +kernel
  | .ask => by show decide (("ask" : Str) = "ask") = true; decide +kernel
  | .say _ => by show decide (("say" : Str) = "ask") = false; decide +kernel
  | .bin .add _ _ => by show decide (("add" : Str) = "ask") = false; decide +kernel
  | .bin .less _ _ => by show decide (("less" : Str) = "ask") = false; decide +kernel
  | .bin .times _ _ => by show decide (("times" : Str) = "ask") = false; decide +kernel
theorem name_word : ∀ s : Sm, s.word = "name" → s = .name s.letter
  | .num _, h => absurd h (show ¬ ("num" : Str) = "name" by decide +kernel)
  | .name _, _ => rfl
  | .ask, h => absurd h (show ¬ ("ask" : Str) = "name" by decide +kernel)
  | .say _, h => absurd h (show ¬ ("say" : Str) = "name" by decide +kernel)
  | .bin .add _ _, h => absurd h (show ¬ ("add" : Str) = "name" by decide +kernel)
  | .bin .less _ _, h => absurd h (show ¬ ("less" : Str) = "name" by decide +kernel)
  | .bin .times _ _, h => absurd h (show ¬ ("times" : Str) = "name" by decide +kernel)
/-- a tuple that begins with a word; behind the word name stands a letter -/
def PartAt (H : Hp) (v : V) (w c : Str) : Prop := ∃ p xs, v = .ref p ∧ H p = some (.tup xs) ∧ xs[0]? = some (.str w) ∧ (w = "name" → xs[1]? = some (.str c))
def Parts (H : Hp) : List V → List (Str × Str) → Prop
  | [], [] => True
  | v :: vs, p :: ps => PartAt H v p.1 p.2 ∧ Parts H vs ps
  | _, _ => False
theorem fr_pt {W : List Addr} {H H' : Hp} (f : Fr W H H') : ∀ {vs : List V} {ps : List (Str × Str)}, Parts H vs ps → Parts H' vs ps
  | [], [], _ => trivial
  | _ :: _, _ :: _, ⟨⟨p, xs, e, h, r⟩, t⟩ => ⟨⟨p, xs, e, f.gett h, r⟩, fr_pt f t⟩
theorem Parts.at {H : Hp} : ∀ {vs : List V} {ps : List (Str × Str)} {i : Nat} {v : V}, Parts H vs ps → vs[i]? = some v → ∃ p, ps[i]? = some p ∧ PartAt H v p.1 p.2
  | _ :: _, p :: _, 0, _, h, e => by
    cases e
    exact ⟨p, rfl, h.1⟩
  | _ :: _, _ :: _, i + 1, _, h, e => Parts.at (i := i) h.2 e
theorem Parts.length {H : Hp} : ∀ {vs : List V} {ps : List (Str × Str)}, Parts H vs ps → vs.length = ps.length
  | [], [], _ => rfl
  | _ :: _, _ :: _, h => congrArg (· + 1) (Parts.length h.2)
theorem IsSum.part {H : Hp} {v : V} {s : Sm} (h : IsSum H v s) : PartAt H v s.word s.letter := by
  cases s with
  | num n => obtain ⟨p, e, q⟩ := h; exact ⟨p, _, e, q, rfl, fun z => absurd z (show ¬ ("num" : Str) = "name" by decide +kernel)⟩
  | name n => obtain ⟨p, e, q⟩ := h; exact ⟨p, _, e, q, rfl, fun _ => rfl⟩
  | ask => obtain ⟨p, e, q⟩ := h; exact ⟨p, _, e, q, rfl, fun z => absurd z (show ¬ ("ask" : Str) = "name" by decide +kernel)⟩
  | say s => obtain ⟨p, x, e, q, _⟩ := h; exact ⟨p, _, e, q, rfl, fun z => absurd z (show ¬ ("say" : Str) = "name" by decide +kernel)⟩
  | bin o a b =>
    obtain ⟨p, x, y, e, q, _⟩ := h
    exact ⟨p, _, e, q, rfl, fun z => by cases name_word (.bin o a b) z⟩
theorem AllSum.parts {H : Hp} : ∀ {vs : List V} {ss : List Sm}, AllSum H vs ss → Parts H vs (ss.map fun s => (s.word, s.letter))
  | [], [], _ => trivial
  | _ :: _, _ :: _, h => ⟨h.1.part, AllSum.parts h.2⟩
def asksOf (ps : List (Str × Str)) : Nat := (ps.filter fun p => decide (p.1 = ("ask" : Str))).length
theorem asksOf_sums (ss : List Sm) : asksOf (ss.map fun s => (s.word, s.letter)) = (ss.filter Sm.isAsk).length := by
  unfold asksOf
  rw [List.filter_map, List.length_map]
  congr 1
  refine List.filter_congr fun s _ => ?_
  exact ask_word s
def spRefuse (CN CM : Addr) : Sp := fun vs H Q E => ∃ (pl nd gv : Addr) (us gs : List V) (ps : List (Str × Str)) (kvs : List (Key × V)), vs = [.ref pl, .ref nd, .ref gv] ∧ H pl = some (.lst us) ∧ Parts H us ps ∧ us.length ≤ 1000 ∧ H nd = some (.dK kvs) ∧ H gv = some (.lst gs) ∧ gs.length ≤ 1000 ∧
  (∀ p ∈ ps, p.2.length ≤ 1000) ∧
  (((∃ p ∈ ps, p.1 = "name" ∧ valV kvs (Sum.inr p.2) = none) ∧ ∀ H', Fr [] H H' → E (.ref CN) none H') ∨
   ((∀ p ∈ ps, p.1 = "name" → (valV kvs (Sum.inr p.2)).isSome = true) ∧ gs.length < asksOf ps ∧ ∀ H', Fr [] H H' → E (.ref CM) none H') ∨
   ((∀ p ∈ ps, p.1 = "name" → (valV kvs (Sum.inr p.2)).isSome = true) ∧ asksOf ps ≤ gs.length ∧ ∀ H', Fr [] H H' → Q .non H'))
def spWorthP (CN CM : Addr) : Sp := fun vs H Q E => ∃ (v : V) (s : Sm) (nd gv : Addr) (kvs : List (Key × V)) (gs : List Int), vs = [v, .ref nd, .ref gv] ∧ IsSum H v s ∧ s.ok ∧ s.depth ≤ 15 ∧ s.size ≤ 60 ∧ H nd = some (.dK kvs) ∧ H gv = some (.lst (gs.map V.int)) ∧ gs.length ≤ 1000 ∧
  (((∃ c, Sm.name c ∈ s.all ∧ valV kvs (Sum.inr c) = none) ∧ ∀ H', Fr [] H H' → E (.ref CN) none H') ∨
   ((∀ c, Sm.name c ∈ s.all → (valV kvs (Sum.inr c)).isSome = true) ∧ gs.length < s.asks ∧ ∀ H', Fr [] H H' → E (.ref CM) none H') ∨
   (∃ f : Str → Int, NamesV H nd f ∧ Good f gs ∧ s.asks ≤ gs.length ∧
    ∀ (t sl : Addr) (H' : Hp), H t = none → H sl = none → H' t = some (.tup [.int (s.ev f gs [] 0).1, .ref sl, .int (s.ev f gs [] 0).2.2]) → H' sl = some (.lst ((s.ev f gs [] 0).2.1.map V.int)) → Fr [] H H' → Q (.ref t) H'))
theorem all_ok : ∀ (u : Sm), u.ok → ∀ t ∈ u.all, t.ok
  | .num _, h, t, ht => by rw [List.mem_singleton.mp ht]; exact h
  | .name _, h, t, ht => by rw [List.mem_singleton.mp ht]; exact h
  | .ask, h, t, ht => by rw [List.mem_singleton.mp ht]; exact h
  | .say s, h, t, ht => by
    rcases List.mem_cons.mp ht with e | m
    · rw [e]; exact h
    · exact all_ok s h t m
  | .bin o a b, h, t, ht => by
    rcases List.mem_cons.mp ht with e | m
    · rw [e]; exact h
    · rcases List.mem_append.mp m with m | m
      · exact all_ok a h.1 t m
      · exact all_ok b h.2 t m
theorem letters_len : ∀ c ∈ letters, c.length ≤ 1 := by decide +kernel
theorem letter_in {s : Sm} (h : s.ok) : s.letter ∈ letters := by
  cases s with
  | name c => exact h
  | num _ => exact (show ("a" : Str) ∈ letters by decide +kernel)
  | ask => exact (show ("a" : Str) ∈ letters by decide +kernel)
  | say _ => exact (show ("a" : Str) ∈ letters by decide +kernel)
  | bin _ _ _ => exact (show ("a" : Str) ∈ letters by decide +kernel)
theorem name_ok {s : Sm} {c : Str} (h : s.ok) (m : Sm.name c ∈ s.all) : c ∈ letters := all_ok s h _ m
/-! ### the same, and of the same kinds -/
inductive Alike (H : Hp) : Nat → V → V → Prop where
  | int (n : Nat) (i : Int) : Alike H n (.int i) (.int i)
  | str (n : Nat) (z : Str) : Alike H n (.str z) (.str z)
  | bl (n : Nat) (z : Bool) : Alike H n (.bl z) (.bl z)
  | tup (n : Nat) (a b : Addr) (xs ys : List V) (ha : H a = some (.tup xs)) (hb : H b = some (.tup ys)) (hl : xs.length = ys.length) (hz : xs.length ≤ 1000) (h : ∀ (i : Nat) x y, xs[i]? = some x → ys[i]? = some y → Alike H n x y) : Alike H (n + 1) (.ref a) (.ref b)
  | lst (n : Nat) (a b : Addr) (xs ys : List V) (ha : H a = some (.lst xs)) (hb : H b = some (.lst ys)) (hl : xs.length = ys.length) (hz : xs.length ≤ 1000) (h : ∀ (i : Nat) x y, xs[i]? = some x → ys[i]? = some y → Alike H n x y) : Alike H (n + 1) (.ref a) (.ref b)
theorem Alike.mono {H H' : Hp} (f : Fr [] H H') {n : Nat} {x y : V} (h : Alike H n x y) : Alike H' n x y := by
  induction h with
  | int n i => exact .int n i
  | str n z => exact .str n z
  | bl n z => exact .bl n z
  | tup n a b xs ys ha hb hl hz h ih => exact .tup n a b xs ys (f.get0 ha) (f.get0 hb) hl hz ih
  | lst n a b xs ys ha hb hl hz h ih => exact .lst n a b xs ys (f.get0 ha) (f.get0 hb) hl hz ih
theorem fr_al {H H' : Hp} {n : Nat} {x y : V} (f : Fr [] H H') (h : Alike H n x y) : Alike H' n x y := h.mono f
theorem alike_ints {H : Hp} {a b : Addr} {ns : List Int} {n : Nat} (ha : H a = some (.lst (ns.map V.int))) (hb : H b = some (.lst (ns.map V.int))) (hz : ns.length ≤ 1000) : Alike H (n + 1) (.ref a) (.ref b) :=
  .lst n a b _ _ ha hb rfl (by rw [List.length_map]; exact hz) fun i x y hx hy => by
    rw [hx] at hy
    obtain rfl := Option.some.inj hy
    rw [List.getElem?_map] at hx
    cases e : ns[i]? with
    | none => rw [e] at hx; cases hx
    | some z => rw [e] at hx; obtain rfl := Option.some.inj hx; exact .int n z
def spSame (n : Nat) : Sp := fun vs H Q _ => ∃ (x y : V), vs = [x, y] ∧ Alike H n x y ∧ ∀ H', Fr [] H H' → Q (.bl true) H'
theorem u_same {n : Nat} {H : Hp} {Q : VK} {E : XK} {x y : V} (h : Alike H n x y) (k : ∀ H', Fr [] H H' → Q (.bl true) H') : spSame n [x, y] H Q E := ⟨x, y, rfl, h, k⟩
/-! ### Effects -/
def ef (gv sl : Addr) (k : Nat) : List (Str × V) := [("given", .ref gv), ("said", .ref sl), ("asked", .int k)]
theorem ef_given (gv sl : Addr) (k : Nat) : (ef gv sl k).lookup ("given" : Str) = some (V.ref gv) := by
  have e : (("given" : Str) == "given") = true := by decide +kernel
  simp [ef, List.lookup]
theorem ef_said (gv sl : Addr) (k : Nat) : (ef gv sl k).lookup ("said" : Str) = some (V.ref sl) := by
  have e : (("said" : Str) == "given") = false := by decide +kernel
  simp [ef, List.lookup, e]
theorem ef_asked (gv sl : Addr) (k : Nat) : (ef gv sl k).lookup ("asked" : Str) = some (V.int k) := by
  have e : (("asked" : Str) == "given") = false := by decide +kernel
  have e' : (("asked" : Str) == "said") = false := by decide +kernel
  simp [ef, List.lookup, e, e']
theorem ef_none {gv sl : Addr} {k : Nat} {m : Str} (h1 : (m == ("given" : Str)) = false) (h2 : (m == ("said" : Str)) = false) (h3 : (m == ("asked" : Str)) = false) : (ef gv sl k).lookup m = none := by
  simp [ef, List.lookup, h1, h2, h3]
theorem ga : ¬ (("given" : Str) = "asked") := by decide +kernel
theorem sa : ¬ (("said" : Str) = "asked") := by decide +kernel
theorem gs' : ¬ (("given" : Str) = "said") := by decide +kernel
theorem ef_put (gv sl : Addr) (k : Nat) : putF "asked" (.int ((k : Int) + 1)) (ef gv sl k) = ef gv sl (k + 1) := by
  show (if ("given" : Str) = "asked" then _ else (("given" : Str), V.ref gv) :: (if ("said" : Str) = "asked" then _ else (("said" : Str), V.ref sl) :: (if ("asked" : Str) = "asked" then [(("asked" : Str), V.int ((k : Int) + 1))] else _))) = _
  rw [if_neg ga, if_neg sa, if_pos rfl]
  rfl
theorem ef_put3 (gv sl : Addr) : putF "asked" (.int 0) (putF "said" (.ref sl) (putF "given" (.ref gv) [])) = ef gv sl 0 := by
  show putF "asked" (.int 0) (if ("given" : Str) = "said" then _ else (("given" : Str), V.ref gv) :: [(("said" : Str), V.ref sl)]) = _
  rw [if_neg gs']
  show (if ("given" : Str) = "asked" then _ else (("given" : Str), V.ref gv) :: (if ("said" : Str) = "asked" then _ else (("said" : Str), V.ref sl) :: [(("asked" : Str), V.int 0)])) = _
  rw [if_neg ga, if_neg sa]
  rfl
structure EffAt (C : Addr) (H : Hp) (e dx gv : Addr) (gs : List Int) (sl : Addr) (sd : List Int) (k : Nat) : Prop where
  ins : H e = some (.ins C dx (ef gv sl k))
  said : H sl = some (.lst (sd.map V.int))
  gvn : H gv = some (.lst (gs.map V.int))
  ne : gv ≠ sl
theorem fr_ef {C : Addr} {H H' : Hp} {W : List Addr} {e dx gv sl : Addr} {gs sd : List Int} {k : Nat} (f : Fr W H H') (n1 : e ∉ W) (n2 : sl ∉ W) (n3 : gv ∉ W) (h : EffAt C H e dx gv gs sl sd k) : EffAt C H' e dx gv gs sl sd k :=
  ⟨f.get h.ins n1, f.get h.said n2, f.get h.gvn n3, h.ne⟩
theorem fr_ef0 {C : Addr} {H H' : Hp} {e dx gv sl : Addr} {gs sd : List Int} {k : Nat} (f : Fr [] H H') (h : EffAt C H e dx gv gs sl sd k) : EffAt C H' e dx gv gs sl sd k := fr_ef f (by simp) (by simp) (by simp) h
def spInitE (C : Addr) : Sp := fun vs H Q _ => ∃ (e dx gv : Addr), vs = [.ref e, .ref gv] ∧ H e = some (.ins C dx []) ∧ ∀ (sl : Addr) (H' : Hp), H sl = none → H' e = some (.ins C dx (ef gv sl 0)) → H' sl = some (.lst []) → Fr [e] H H' → Q .non H'
def spSayE (C : Addr) : Sp := fun vs H Q _ => ∃ (e dx gv sl : Addr) (k : Nat) (v : V) (xs : List V), vs = [.ref e, v] ∧ H e = some (.ins C dx (ef gv sl k)) ∧ H sl = some (.lst xs) ∧ xs.length ≤ 1000 ∧ ∀ H' : Hp, H' sl = some (.lst (xs ++ [v])) → Fr [sl] H H' → Q .non H'
def spAskE (C : Addr) : Sp := fun vs H Q _ => ∃ (e dx gv sl : Addr) (k : Nat) (gs : List Int), vs = [.ref e] ∧ H e = some (.ins C dx (ef gv sl k)) ∧ H gv = some (.lst (gs.map V.int)) ∧ k < gs.length ∧ ∀ H' : Hp, H' e = some (.ins C dx (ef gv sl (k + 1))) → Fr [e] H H' → Q (.int (gs.getD k 0)) H'
theorem u_initE {C : Addr} {H : Hp} {Q : VK} {E : XK} {e dx gv : Addr} (h : H e = some (.ins C dx [])) (k : ∀ (sl : Addr) (H' : Hp), H sl = none → H' e = some (.ins C dx (ef gv sl 0)) → H' sl = some (.lst []) → Fr [e] H H' → Q .non H') : spInitE C [.ref e, .ref gv] H Q E := ⟨e, dx, gv, rfl, h, k⟩
theorem u_sayE {C : Addr} {H : Hp} {Q : VK} {E : XK} {e dx gv sl : Addr} {k : Nat} {v : V} {xs : List V} (h : H e = some (.ins C dx (ef gv sl k))) (h' : H sl = some (.lst xs)) (hx : xs.length ≤ 1000) (q : ∀ H' : Hp, H' sl = some (.lst (xs ++ [v])) → Fr [sl] H H' → Q .non H') : spSayE C [.ref e, v] H Q E := ⟨e, dx, gv, sl, k, v, xs, rfl, h, h', hx, q⟩
theorem u_askE {C : Addr} {H : Hp} {Q : VK} {E : XK} {e dx gv sl : Addr} {k : Nat} {gs : List Int} (h : H e = some (.ins C dx (ef gv sl k))) (h' : H gv = some (.lst (gs.map V.int))) (hk : k < gs.length) (q : ∀ H' : Hp, H' e = some (.ins C dx (ef gv sl (k + 1))) → Fr [e] H H' → Q (.int (gs.getD k 0)) H') : spAskE C [.ref e] H Q E := ⟨e, dx, gv, sl, k, gs, rfl, h, h', hk, q⟩
def spJoined : Sp := fun vs H Q _ => ∃ (o : Op) (x y : Int), vs = [.str o.word, .int x, .int y] ∧ x.natAbs < 2 ^ 60 ∧ y.natAbs < 2 ^ 60 ∧ Q (.int (o.app x y)) H
/-- a node's own part -/
def Sm.top (f : Str → Int) (gs : List Int) : Sm → List Int → List Int → Nat → Int × List Int × Nat
  | .num n, _, sd, k => (n, sd, k)
  | .name c, _, sd, k => (f c, sd, k)
  | .ask, _, sd, k => (gs.getD k 0, sd, k + 1)
  | .say _, ws, sd, k => (ws.getD 0 0, sd ++ [ws.getD 0 0], k)
  | .bin o _ _, ws, sd, k => (o.app (ws.getD 0 0) (ws.getD 1 0), sd, k)
theorem ev_top (f : Str → Int) (gs : List Int) (s : Sm) (sd : List Int) (k : Nat) : s.ev f gs sd k = s.top f gs (evs f gs s.subs sd k).1 (evs f gs s.subs sd k).2.1 (evs f gs s.subs sd k).2.2 := by
  cases s <;> rfl
def spComes (C : Addr) : Sp := fun vs H Q _ => ∃ (v : V) (s : Sm) (wl nd e dx gv sl : Addr) (ws gs sd : List Int) (f : Str → Int) (k : Nat), vs = [v, .ref wl, .ref nd, .ref e] ∧ IsSum H v s ∧ s.ok ∧ H wl = some (.lst (ws.map V.int)) ∧ wl ≠ sl ∧ ws.length = s.subs.length ∧ (∀ x ∈ ws, 0 ≤ x ∧ x < 1000) ∧
  NamesV H nd f ∧ EffAt C H e dx gv gs sl sd k ∧ (s = .ask → k < gs.length) ∧ sd.length ≤ 1000 ∧
  ∀ H' : Hp, EffAt C H' e dx gv gs sl (s.top f gs ws sd k).2.1 (s.top f gs ws sd k).2.2 → Fr [e, sl] H H' → Q (.int (s.top f gs ws sd k).1) H'
theorem u_comes {C : Addr} {H : Hp} {Q : VK} {E : XK} {v : V} {s : Sm} {wl nd e dx gv sl : Addr} {ws gs sd : List Int} {f : Str → Int} {k : Nat} (h1 : IsSum H v s) (h2 : s.ok) (h3 : H wl = some (.lst (ws.map V.int))) (h3' : wl ≠ sl) (h4 : ws.length = s.subs.length) (h5 : ∀ x ∈ ws, 0 ≤ x ∧ x < 1000)
    (h6 : NamesV H nd f) (h7 : EffAt C H e dx gv gs sl sd k) (h8 : s = .ask → k < gs.length) (h9 : sd.length ≤ 1000) (q : ∀ H' : Hp, EffAt C H' e dx gv gs sl (s.top f gs ws sd k).2.1 (s.top f gs ws sd k).2.2 → Fr [e, sl] H H' → Q (.int (s.top f gs ws sd k).1) H') : spComes C [v, .ref wl, .ref nd, .ref e] H Q E :=
  ⟨v, s, wl, nd, e, dx, gv, sl, ws, gs, sd, f, k, rfl, h1, h2, h3, h3', h4, h5, h6, h7, h8, h9, q⟩
def spPartsOf : Sp := fun vs H Q _ => ∃ (v : V) (s : Sm), vs = [v] ∧ IsSum H v s ∧ ∀ (p : Addr) (us : List V) (H' : Hp), H' p = some (.tup us) → AllSum H' us s.subs → Fr [] H H' → Q (.ref p) H'
theorem u_partsOf {H : Hp} {Q : VK} {E : XK} {v : V} {s : Sm} (h : IsSum H v s) (k : ∀ (p : Addr) (us : List V) (H' : Hp), H' p = some (.tup us) → AllSum H' us s.subs → Fr [] H H' → Q (.ref p) H') : spPartsOf [v] H Q E := ⟨v, s, rfl, h, k⟩
def spWorked (C : Addr) (n : Nat) : Sp := fun vs H Q _ => ∃ (v : V) (s : Sm) (nd e dx gv sl : Addr) (gs sd : List Int) (f : Str → Int) (k : Nat), vs = [v, .ref nd, .ref e] ∧ IsSum H v s ∧ s.ok ∧ s.depth ≤ n ∧ Good f gs ∧
  NamesV H nd f ∧ EffAt C H e dx gv gs sl sd k ∧ k + s.asks ≤ gs.length ∧ sd.length + s.size ≤ 1000 ∧
  ∀ H' : Hp, EffAt C H' e dx gv gs sl (s.ev f gs sd k).2.1 (s.ev f gs sd k).2.2 → Fr [e, sl] H H' → Q (.int (s.ev f gs sd k).1) H'
theorem u_worked {C : Addr} {n : Nat} {H : Hp} {Q : VK} {E : XK} {v : V} {s : Sm} {nd e dx gv sl : Addr} {gs sd : List Int} {f : Str → Int} {k : Nat} (h1 : IsSum H v s) (h2 : s.ok) (h3 : s.depth ≤ n) (h4 : Good f gs)
    (h6 : NamesV H nd f) (h7 : EffAt C H e dx gv gs sl sd k) (h8 : k + s.asks ≤ gs.length) (h9 : sd.length + s.size ≤ 1000) (q : ∀ H' : Hp, EffAt C H' e dx gv gs sl (s.ev f gs sd k).2.1 (s.ev f gs sd k).2.2 → Fr [e, sl] H H' → Q (.int (s.ev f gs sd k).1) H') : spWorked C n [v, .ref nd, .ref e] H Q E :=
  ⟨v, s, nd, e, dx, gv, sl, gs, sd, f, k, rfl, h1, h2, h3, h4, h6, h7, h8, h9, q⟩
def spWhole : Sp := fun vs H Q _ => ∃ (x : V) (m : Int), vs = [x, .int m] ∧ ((∃ i, x = .int i ∧ Q (.bl (decide (0 ≤ i) && decide (i ≤ m))) H) ∨ ((∃ t, RZ.Ty4 H x t ∧ t ≠ "int") ∧ Q (.bl false) H))
def spForm : Sp := fun vs H Q _ => ∃ (v : V) (s : Sm), vs = [v] ∧ IsSum H v s ∧ s.ok ∧ Q (.bl true) H
/-- what is still to be looked at: sums and how deep they stand -/
def Stk (H : Hp) : List V → List (Sm × Nat) → Prop
  | [], [] => True
  | v :: vs, p :: ps => (∃ q x, v = .ref q ∧ H q = some (.tup [x, .int p.2]) ∧ IsSum H x p.1) ∧ Stk H vs ps
  | _, _ => False
theorem fr_stk {W : List Addr} {H H' : Hp} (f : Fr W H H') : ∀ {vs : List V} {ps : List (Sm × Nat)}, Stk H vs ps → Stk H' vs ps
  | [], [], _ => trivial
  | _ :: _, _ :: _, ⟨⟨q, x, e, h, i⟩, r⟩ => ⟨⟨q, x, e, f.gett h, i.mono f⟩, fr_stk f r⟩
theorem Stk.app {H : Hp} : ∀ {vs ws : List V} {ss ts : List (Sm × Nat)}, Stk H vs ss → Stk H ws ts → Stk H (vs ++ ws) (ss ++ ts)
  | [], _, [], _, _, h => h
  | _ :: _, _, _ :: _, _, h, h' => ⟨h.1, Stk.app h.2 h'⟩
theorem Stk.last {H : Hp} : ∀ {vs : List V} {ss : List (Sm × Nat)}, Stk H vs ss → vs ≠ [] → ∃ ws v ts p, vs = ws ++ [v] ∧ ss = ts ++ [p] ∧ Stk H ws ts ∧ ∃ q x, v = .ref q ∧ H q = some (.tup [x, .int p.2]) ∧ IsSum H x p.1
  | [], _, _, h => absurd rfl h
  | [v], [p], h, _ => ⟨[], v, [], p, rfl, rfl, trivial, h.1⟩
  | v :: v' :: vs, p :: p' :: ps, h, _ => by
    obtain ⟨ws, u, ts, r, e1, e2, h1, h2⟩ := Stk.last (vs := v' :: vs) (ss := p' :: ps) h.2 (by simp)
    exact ⟨v :: ws, u, p :: ts, r, by rw [e1]; rfl, by rw [e2]; rfl, ⟨h.1, h1⟩, h2⟩
  | [_], _ :: _ :: _, h, _ => h.2.elim
  | _ :: _ :: _, [_], h, _ => h.2.elim
theorem Stk.length {H : Hp} : ∀ {vs : List V} {ss : List (Sm × Nat)}, Stk H vs ss → vs.length = ss.length
  | [], [], _ => rfl
  | _ :: _, _ :: _, h => congrArg (· + 1) (Stk.length h.2)
def stkAll (W : List (Sm × Nat)) : List Sm := W.flatMap fun p => p.1.all
theorem stkAll_app (W W' : List (Sm × Nat)) : stkAll (W ++ W') = stkAll W ++ stkAll W' := List.flatMap_append
theorem stk_len (W : List (Sm × Nat)) : W.length ≤ (stkAll W).length := by
  induction W with
  | nil => exact Nat.zero_le _
  | cons p W ih =>
    have h := Sm.all_length p.1
    have h' := p.1.size_pos
    show W.length + 1 ≤ (p.1.all ++ stkAll W).length
    rw [List.length_append]
    omega
def spWithin : Sp := fun vs H Q _ => ∃ (v : V) (s : Sm), vs = [v] ∧ IsSum H v s ∧ s.ok ∧ s.depth ≤ 15 ∧ s.size ≤ 60 ∧ ∀ (p : Addr) (us : List V) (ss : List Sm) (H' : Hp), H p = none → H' p = some (.lst us) → AllSum H' us ss → ss.Perm s.all → Fr [] H H' → Q (.ref p) H'
theorem u_within {H : Hp} {Q : VK} {E : XK} {v : V} {s : Sm} (h1 : IsSum H v s) (h2 : s.ok) (h3 : s.depth ≤ 15) (h4 : s.size ≤ 60) (q : ∀ (p : Addr) (us : List V) (ss : List Sm) (H' : Hp), H p = none → H' p = some (.lst us) → AllSum H' us ss → ss.Perm s.all → Fr [] H H' → Q (.ref p) H') : spWithin [v] H Q E := ⟨v, s, rfl, h1, h2, h3, h4, q⟩
def spSumD (K : PySem.W.Frag) (n : Nat) : Sp := fun vs H Q E => 1 ≤ n ∧ spSum K n vs H Q E
section
variable {P : Program} {w : World} {K : PySem.W.Frag} {mg : Str → Option Value} {base : Heap} {f : Addr} {fd : FuncData}
theorem none_df {sp : Sp} {ps : List Str} {k : Nat} (no : ∀ vs H Q E, ¬ sp vs H Q E) : FnOk P w K mg base CX0 k f fd ps sp :=
  ⟨fun vs H Q E h => absurd h (no vs H Q E), fun A outer s H args us vs Q E _ _ _ _ h => absurd h (no vs H Q E)⟩
end
/-- one level down; at the bottom nothing is asked -/
def spSameD (n : Nat) : Sp := fun vs H Q E => 1 ≤ n ∧ spSame (n - 1) vs H Q E
theorem ev_take {f : Str → Int} {gs : List Int} {n : Nat} : ∀ (s : Sm) (sd : List Int) (k : Nat), k + s.asks ≤ n → s.ev f (gs.take n) sd k = s.ev f gs sd k
  | .num _, _, _, _ => rfl
  | .name _, _, _, _ => rfl
  | .ask, sd, k, h => by
    have h' : k < n := h
    show ((gs.take n).getD k 0, sd, k + 1) = (gs.getD k 0, sd, k + 1)
    rw [List.getD_eq_getElem?_getD, List.getD_eq_getElem?_getD, List.getElem?_take, if_pos h']
  | .say s, sd, k, h => by
    show ((s.ev f (gs.take n) sd k).1, (s.ev f (gs.take n) sd k).2.1 ++ [(s.ev f (gs.take n) sd k).1], (s.ev f (gs.take n) sd k).2.2) = _
    rw [ev_take s sd k h]
    rfl
  | .bin o a b, sd, k, h => by
    have h' : k + (a.asks + b.asks) ≤ n := h
    have e1 := ev_take (f := f) (gs := gs) a sd k (by omega : k + a.asks ≤ n)
    have e2 := ev_take (f := f) (gs := gs) b (a.ev f gs sd k).2.1 (a.ev f gs sd k).2.2 (show (a.ev f gs sd k).2.2 + b.asks ≤ n by rw [Sm.ev_asked]; omega)
    show (o.app (a.ev f (gs.take n) sd k).1 (b.ev f (gs.take n) (a.ev f (gs.take n) sd k).2.1 (a.ev f (gs.take n) sd k).2.2).1, (b.ev f (gs.take n) (a.ev f (gs.take n) sd k).2.1 (a.ev f (gs.take n) sd k).2.2).2) = _
    rw [e1, e2]
    rfl
theorem ev_due (f : Str → Int) (gs : List Int) (s : Sm) : (s.ev f gs [] 0).2.2 = s.asks := by rw [Sm.ev_asked, Nat.zero_add]
theorem valV_drop {kvs : List (Key × V)} {k : Key} : valV (dropK kvs k) k = none := by
  unfold valV dropK
  rw [Option.map_eq_none_iff, List.find?_eq_none]
  intro x hx
  have := (List.mem_filter.mp hx).2
  simpa using this
/-! ### a lambda is made: all but the tables stays -/
theorem ext_sum {H H' : Hp} (e : LamX.ExtN H H') : ∀ {s : Sm} {v : V}, IsSum H v s → IsSum H' v s
  | .num _, _, ⟨p, a, h⟩ => ⟨p, a, e p _ h fun _ z => by cases z⟩
  | .name _, _, ⟨p, a, h⟩ => ⟨p, a, e p _ h fun _ z => by cases z⟩
  | .ask, _, ⟨p, a, h⟩ => ⟨p, a, e p _ h fun _ z => by cases z⟩
  | .say _, _, ⟨p, x, a, h, i⟩ => ⟨p, x, a, e p _ h (fun _ z => by cases z), ext_sum e i⟩
  | .bin _ _ _, _, ⟨p, x, y, a, h, i, j⟩ => ⟨p, x, y, a, e p _ h (fun _ z => by cases z), ext_sum e i, ext_sum e j⟩
theorem ext_l {H H' : Hp} (e : LamX.ExtN H H') {p : Addr} {xs : List V} (h : H p = some (.lst xs)) : H' p = some (.lst xs) := e p _ h fun _ z => by cases z
theorem ext_d {H H' : Hp} (e : LamX.ExtN H H') {p : Addr} {xs : List (Key × V)} (h : H p = some (.dK xs)) : H' p = some (.dK xs) := e p _ h fun _ z => by cases z
theorem ext_st {K : PySem.W.Frag} {H H' : Hp} (e : LamX.ExtN H H') {Ws : List Addr} {st : Addr} (h : StAt K Ws H st) : StAt K Ws H' st := by
  obtain ⟨a, ns, i, m, r, h1, h2, h3⟩ := h
  refine ⟨a, ns, i, m, r, ext_l e h1, ?_, h3⟩
  rcases h2 with ⟨h, n⟩ | h
  · rcases h with h | ⟨o, h⟩
    · exact .inl ⟨.inl (ext_l e h), n⟩
    · exact .inl ⟨.inr ⟨o, e _ _ h fun _ z => by cases z⟩, n⟩
  · exact .inr h
/-- what is written is none of the tables and none of the code objects -/
theorem tabs_fr {T : List (Addr × Str)} {W : List Addr} {H H' : Hp} (t : LamX.Tabs T H) (f : Fr W H H') (n : ∀ b ∈ W, ∀ o, H b = some o → (∃ xs, o = .lst xs) ∨ ∃ ks, o = .dK ks) : LamX.Tabs T H' := fun p hp => by
  obtain ⟨ps, h1, h2, h3⟩ := t p hp
  have out : ∀ b o, H b = some o → (∀ xs, o ≠ .lst xs) → (∀ ks, o ≠ .dK ks) → b ∉ W := fun b o h z1 z2 m => by
    rcases n b m o h with ⟨xs, e⟩ | ⟨ks, e⟩
    · exact z1 xs e
    · exact z2 ks e
  refine ⟨ps, f.get h1 (out _ _ h1 (fun _ z => by cases z) fun _ z => by cases z), h2, fun pos cv hc => ?_⟩
  obtain ⟨c, e1, e2⟩ := h3 pos cv hc
  exact ⟨c, e1, f.get e2 (out _ _ e2 (fun _ z => by unfold LamX.CodeO at z; cases z) fun _ z => by unfold LamX.CodeO at z; cases z)⟩
/-! ### what was handed in is what it was -/
theorem nkv_mem {f : Str → Int} {l : List Str} {p : Key × V} (h : p ∈ nkv f l) : ∃ c, c ∈ l ∧ p = (Sum.inr c, .int (f c)) := by
  obtain ⟨c, hc, e⟩ := List.mem_map.mp h
  exact ⟨c, hc, e.symm⟩
theorem eqv_names {K : PySem.W.Frag} {H : Hp} {a b : Addr} {f : Str → Int} (ha : H a = some (.dK (nkv f letters))) (hb : H b = some (.dK (nkv f letters))) : EqV K H 2 (.ref a) (.ref b) :=
  .inr (.inr (.inr ⟨a, b, _, _, rfl, rfl, ha, hb, rfl, fun p hp => by
    obtain ⟨c, hc, rfl⟩ := nkv_mem hp
    exact ⟨.int (f c), by rw [valV_nkv, if_pos hc], .inl ⟨rfl, rfl⟩⟩⟩))
theorem paired_self {F : V → V → Prop} : ∀ {xs : List V}, (∀ x ∈ xs, F x x) → Paired F xs xs
  | [], _ => .nil
  | x :: r, h => .cons (h x List.mem_cons_self) (paired_self fun y hy => h y (List.mem_cons_of_mem _ hy))
theorem eqv_given {K : PySem.W.Frag} {H : Hp} {a b : Addr} {gs : List Int} (ha : H a = some (.lst (gs.map V.int))) (hb : H b = some (.lst (gs.map V.int))) : EqV K H 2 (.ref a) (.ref b) :=
  .inr (.inr (.inl ⟨a, b, _, _, rfl, rfl, SqL.of ha, SqL.of hb, paired_self fun x hx => by
    obtain ⟨g, _, rfl⟩ := List.mem_map.mp hx
    exact .inl ⟨rfl, rfl⟩⟩))
theorem cut_few {gs : List Int} {n : Nat} (h : n ≤ gs.length) : cutV (gs.map V.int) none (some (n : Int)) = (gs.take n).map V.int := by
  unfold cutV
  rw [HT.sIx_none, HT.sIx_nat, List.drop_zero, List.length_map, Nat.min_eq_left h, Nat.sub_zero, List.map_take]
theorem cut_rest {gs : List Int} (h : 1 ≤ gs.length) : cutV (gs.map V.int) (some 1) none = (gs.drop 1).map V.int := by
  unfold cutV
  rw [HT.sIx_none, show HT.sIx (gs.map V.int).length 0 (some 1) = min 1 (gs.map V.int).length from HT.sIx_nat _ _ 1, List.length_map, Nat.min_eq_left h, List.map_drop]
  exact List.take_of_length_le (by rw [List.length_drop, List.length_map]; omega)
theorem alike_told {H : Hp} {t1 t2 s1 s2 : Addr} {a c : Int} {ns : List Int} (h1 : H t1 = some (.tup [.int a, .ref s1, .int c])) (h2 : H t2 = some (.tup [.int a, .ref s2, .int c])) (e1 : H s1 = some (.lst (ns.map V.int))) (e2 : H s2 = some (.lst (ns.map V.int))) (hz : ns.length ≤ 1000) : Alike H 3 (.ref t1) (.ref t2) :=
  .tup 2 t1 t2 _ _ h1 h2 rfl (by simp only [List.length_cons, List.length_nil]; decide) fun i x y hx hy => by
    match i with
    | 0 => cases hx; cases hy; exact .int 2 a
    | 1 => cases hx; cases hy; exact alike_ints e1 e2 hz
    | 2 => cases hx; cases hy; exact .int 2 c
    | i + 3 => cases hx
theorem StAt.dict {K : PySem.W.Frag} {Ws : List Addr} {H : Hp} {st q : Addr} {kvs : List (Key × V)} (h : StAt K Ws H st) (hq : H q = some (.dK kvs)) : StAt K (q :: Ws) H st := by
  obtain ⟨a, ns, i, m, r, h1, h2, h3⟩ := h
  refine ⟨a, ns, i, m, r, h1, ?_, h3⟩
  rcases h2 with ⟨h, n2⟩ | h
  · refine .inl ⟨h, ?_⟩
    have nq : a ≠ q := fun e => by
      subst e
      rcases h with h | ⟨o, h⟩
      · rw [h] at hq; cases hq
      · rw [h] at hq; cases hq
    simp only [List.mem_cons, not_or] at n2 ⊢
    exact ⟨n2.1, nq, n2.2⟩
  · exact .inr h
theorem dp_strs {K : PySem.W.Frag} {H : Hp} : ∀ ys : List Str, DpAll K H (ys.map V.str) (ys.map PyData.str)
  | [] => .nil
  | y :: r => .cons (.str y) (dp_strs r)
theorem lay_strs : ∀ {ys : List Str}, (∀ y ∈ ys, PyData.canLay0 (.str y) = true) → PyData.canLayAll0 (ys.map PyData.str) = true
  | [], _ => rfl
  | y :: r, h => by
    show (PyData.canLay0 (.str y) && PyData.canLayAll0 (r.map PyData.str)) = true
    rw [h y List.mem_cons_self, lay_strs fun z hz => h z (List.mem_cons_of_mem _ hz)]
    rfl
theorem shaped_strs {ys : List Str} (h : ∀ y ∈ ys, PyData.canLay0 (.str y) = true) (hd : PyData.depthAll (ys.map PyData.str) ≤ 3) : SeqAt.shaped (.list (ys.map PyData.str)) = true := by
  unfold SeqAt.shaped
  rw [show PyData.canLay0 (.list (ys.map PyData.str)) = PyData.canLayAll0 (ys.map PyData.str) from rfl, lay_strs h, Bool.true_and, decide_eq_true_eq]
  show PyData.depthAll (ys.map PyData.str) + 1 ≤ 64
  omega
theorem depth_strs : ∀ ys : List Str, PyData.depthAll (ys.map PyData.str) ≤ 3
  | [] => by simp [PyData.depthAll]
  | y :: r => by
    have := depth_strs r
    simp only [List.map_cons, PyData.depthAll, PyData.depth]
    omega
theorem lay_letters : ∀ c ∈ letters, PyData.canLay0 (.str c) = true := by decide +kernel
section
open PySem.Spec PyProof.Rows
theorem fun_of {K : PySem.W.Frag} {x q : Str} {st : Stmt} {f : Addr} {fd : FuncData} (h : FunD K x q (defArgs st) (defBody st) (defScope st) [] [] f fd) : Fun K x q st f fd := by
  obtain ⟨⟨oc, od, dV, kV, doc, pm, an, cdv, ct, osl, e, lk, cd, dv, _⟩, kp⟩ := h
  rcases dv with ⟨_, e2⟩ | ⟨e2, _⟩
  · subst e2
    exact ⟨⟨oc, od, kV, doc, pm, an, cdv, ct, osl, e, lk, cd⟩, kp⟩
  · exact absurd rfl e2
theorem fn_imp {P : Program} {w : World} {K : PySem.W.Frag} {mg : Str → Option Value} {base : Heap} {CX : CXT} {k : Nat} {f : Addr} {fd : FuncData} {ps : List Str} {sp sp' : Sp} (F : FnOk P w K mg base CX k f fd ps sp) (h : ∀ vs H Q E, sp' vs H Q E → sp vs H Q E) : FnOk P w K mg base CX k f fd ps sp' :=
  ⟨fun vs H Q E z => F.len vs H Q E (h _ _ _ _ z), fun A outer s H args us vs Q E hr e0 hb r z => F.run A outer s H args us vs Q E hr e0 hb r (h _ _ _ _ z)⟩
end
end My
/-! En: enumerate over a tuple; more walking rules -/
namespace RZ
open PySem
open PySem.Sem (wp)
theorem draws_tup {prog : Program} {w : World} {A : Around} (hh : A.handled = none) (it l : Addr) (hne : l ≠ it) (items : Array Value) :
    Draws prog w A it [it, l] items.size (fun i v => items[i]? = some v) (fun i h => h.IsTupleIter it l i ∧ h.IsTuple l items) where
  live := fun _ _ st => let ⟨o, ho, _⟩ := st.1; ⟨o, ho⟩
  frame := fun _ _ _ st hk => ⟨st.1.at fun o e => hk it (by simp) o e, let ⟨o, ho, r⟩ := st.2; ⟨o, hk l (by simp) o ho, r⟩⟩
  item := fun i s Q E hi st hQ => by
    refine nextOf_tuple_item st.1 st.2 (x := items[i]) (by simp [hi]) fun h' hit' hs' => ?_
    exact hQ _ h' s.toks (by simp [hi]) ⟨hit', st.2.extBut hs'.extBut hne⟩ hs'
  done := fun s Q E st hE => nextOf_tuple_end hh st.1 st.2 (by simp) hE
theorem meets_enum_newT (l : Addr) (items : Array Value) (n : Nat) (dct : Option Addr) (sl : Array (Option Value)) :
    Meets (Builtin.«enumerate.__new__» ⟨[.type "enumerate", .ref l], []⟩) (fun _ R s => s.heap.get? l = some { cls := .type "tuple", dict := dct, data := .seq items n, slots := sl } ∧
      R (.ok (.ret (.ref (s.heap.push { cls := .type "tuple_iterator", data := .fields #[.ref l, .int 0 0] }).objs.size)))
        { s with heap := (s.heap.push { cls := .type "tuple_iterator", data := .fields #[.ref l, .int 0 0] }).push { cls := .type "enumerate", data := .fields #[.none, .bool false, .ref s.heap.objs.size, rawInt 0, .none, .none] } }) :=
  .of_wp fun prog w A R s h => by
    obtain ⟨hp, g, d, tk, os⟩ := s; obtain ⟨hl, h⟩ := h
    have hsub := sub_enumerate
    have hL : Heap.IsTuple (Shared.heap ⟨hp, g, d, tk, os⟩) l items := ⟨_, hl, rfl, n, rfl⟩
    wp_walk using AutoSeq1.wpAny_loadPart' hl
    refine wpAny_stack_any fun st => wpAny_pure ?_
    split
    · rename_i c _ _ _ _ _
      cases (c == Value.type "enumerate")
      · wp_walk using AutoSeq1.wpAny_loadPart' hl, wpAny_pyIter_tuple hL
        exact ⟨_, rfl, h⟩
      · wp_walk using AutoSeq1.wpAny_loadPart' hl, wpAny_pyIter_tuple hL
        exact ⟨_, rfl, h⟩
    · wp_walk using AutoSeq1.wpAny_loadPart' hl, wpAny_pyIter_tuple hL
      exact ⟨_, rfl, h⟩
section
variable {prog : Program} {w : World} {A : Around} {E : Value → Shared → Prop} {s : Shared}
theorem call_enum_tuple {l : Addr} {items : Array Value} {Q : Value → Shared → Prop} (hL : s.heap.IsTuple l items)
    (h : ∀ h', IsEnum h' (s.heap.objs.size + 1) s.heap.objs.size 0 .none → h'.IsTupleIter s.heap.objs.size l 0 → h'.objs.size = s.heap.objs.size + 2 →
      (∀ b o, s.heap.get? b = some o → h'.get? b = some o) → Q (.ref (s.heap.objs.size + 1)) { s with heap := h' }) :
    wpAny (model prog w) A (call (.type "enumerate") [.ref l]) Q E s := by
  obtain ⟨⟨c, dct, dt, sl⟩, hl, hc, n, hd⟩ := hL
  replace hc : c = .type "tuple" := hc
  replace hd : dt = .seq items n := hd
  subst hc hd
  refine callType_new F.called_enumerate (by decide) (F.typeCall_enumerate_1 _) (F.newCall_enumerate_1 _) (fun obj => F.args_object_init_2 obj _) F.entry_enumerate_new
    (meets_enum_newT l items n dct sl) ⟨hl, ?_⟩
  have hz : (s.heap.push { cls := .type "tuple_iterator", data := .fields #[.ref l, .int 0 0] }).objs.size = s.heap.objs.size + 1 := Heap.size_push ..
  show _ ∧ _
  rw [hz]
  have he : IsEnum ((s.heap.push { cls := .type "tuple_iterator", data := .fields #[.ref l, .int 0 0] }).push
      { cls := .type "enumerate", data := .fields #[.none, .bool false, .ref s.heap.objs.size, rawInt 0, .none, .none] }) (s.heap.objs.size + 1) s.heap.objs.size 0 .none := by
    have := Heap.get?_push_size (s.heap.push { cls := .type "tuple_iterator", data := .fields #[.ref l, .int 0 0] })
      (o := { cls := .type "enumerate", data := .fields #[.none, .bool false, .ref s.heap.objs.size, rawInt 0, .none, .none] }) rfl
    rw [hz] at this; exact this
  refine ⟨⟨_, he, rfl⟩, h _ he ⟨_, Heap.get?_push_of_some _ (Heap.get?_push_size _ rfl), rfl, rfl⟩ (by rw [Heap.size_push, hz]) fun b o x => Heap.get?_push_of_some _ (Heap.get?_push_of_some _ x)⟩
end
end RZ
namespace L2
open PySem PySem.Spec PyProof.Rows
/-- enumerate of a tuple -/
def IteT (K : PySem.W.Frag) (a : Addr) : It :=
  ⟨fun i H => ∃ (xs : List V) (x : V), SqT K H a xs ∧ xs[i]? = some x, fun i H v H' => ∃ T x, v = .ref T ∧ H T = none ∧ H' = upd H T (.tup [.int (i : Nat), x]) ∧ ∀ xs, SqT K H a xs → xs[i]? = some x, fun i H => ∃ xs : List V, SqT K H a xs ∧ xs.length ≤ i⟩
theorem turn_enumT {P : Program} {w : World} {K : PySem.W.Frag} {elts : List Expr} {kk : Nat} {tpos : Pos} (a e it : Addr) (hai : a ≠ it) (hae : a ≠ e) :
    Turn P w K (.Tuple elts kk tpos) (IteT K a) [e, it] e (fun i h => (∃ old, IsEnum h e it ((i : Nat) : Int) old) ∧ h.IsTupleIter it a i ∧ e ≠ it) where
  mem := by simp
  obj := fun i h st b hb => by
    obtain ⟨⟨old, he⟩, ⟨o, ho, hc, hd⟩, _⟩ := st
    have e' : b = e ∨ b = it := by simpa using hb
    rcases e' with z | z
    · rw [z]; exact ⟨_, he, fun v q => nomatch q⟩
    · rw [z]; exact ⟨o, ho, fun v q => by rw [hd] at q; cases q⟩
  keep := fun i h h' st k => let ⟨⟨old, he⟩, hi, hne⟩ := st; ⟨⟨old, k e (by simp) _ he⟩, hi.at fun o q => k it (by simp) o q, hne⟩
  item := by
    intro X hP hw hK hc i pins s σ H E I hf st hg
    subst hP hw hK
    obtain ⟨⟨old, he⟩, hit, hne⟩ := st
    obtain ⟨xs, x, hq, hx⟩ := hg
    obtain ⟨its, rv, p, hz⟩ := I.tuple hq
    obtain ⟨u, hu, ru⟩ := rv.get hx
    have hel : e < s.heap.objs.size := Heap.lt_size he
    have hil : it < s.heap.objs.size := by obtain ⟨_, q, _⟩ := hit; exact Heap.lt_size q
    have hlt : i < its.toArray.size := by
      have := rv.length
      have h2 := (List.getElem?_eq_some_iff.mp hx).1
      simp; omega
    refine wpAny_pyNext_enum_itemD (RZ.draws_tup (prog := X.prog) (w := X.w) (A := X.A.in1) (show X.A.in1.handled = none from I.ok.hd hc) it a hai its.toArray) he ⟨hit, p⟩ hlt hne (by simp [hne, hae.symm]) fun u' h' tk hPx ho hit' hT hsz hk => ?_
    have eu : u' = u := by
      have hu2 : its.toArray[i]? = some u := by simpa using hu
      have : its.toArray[i]? = some u' := hPx
      rw [hu2] at this
      exact (Option.some.inj this).symm
    subst eu
    refine ⟨_, rfl, wpAny_letOwnedTupleGo_enum (s := { s with heap := h', toks := tk + 1 }) ho fun h'' he' sb => ?_⟩
    have hT2 : h''.get? s.heap.objs.size = some { cls := .type "tuple", data := .seq #[.int i tk, u'] } := (sb.2 _ (Nat.ne_of_gt hel)).trans hT
    have new : ObjOk X.prog X.w (upd H s.heap.objs.size (.tup [.int (i : Nat), x])) h'' s.heap.objs.size (.tup [.int (i : Nat), x]) :=
      ⟨by show 2 ≤ sizeLine; decide, [.int i tk, u'], .cons ⟨_, rfl⟩ (.cons ru .nil), ⟨_, hT2, rfl, _, rfl⟩⟩
    have I1 : Inv X pins σ (upd H s.heap.objs.size (.tup [.int (i : Nat), x])) { s with heap := h'', toks := tk + 1 } :=
      I.turnedNew (ch := [e, it]) (fun b ob hb q => (sb.2 b (fun z => hb (by simp [z]))).trans (hk b ob (fun z => hb (by simp [z])) (fun z => hb (by simp [z])) q)) hf (Nat.le_refl _) new
    refine ⟨.ref s.heap.objs.size, _, I1, rfl, ⟨_, x, rfl, I.hok.fresh (Nat.le_refl _), rfl, fun ys hy => by rw [I.tuple_inj hy hq]; exact hx⟩, ⟨⟨u', ?_⟩, hit'.1.at fun o q => (sb.2 it (Ne.symm hne)).trans q, hne⟩, fun b hb => ?_⟩
    · have e1 : ((i + 1 : Nat) : Int) = (i : Int) + 1 := by omega
      rw [e1]; exact he'
    · have hb' : b < s.heap.objs.size := by
        have e' : b = e ∨ b = it := by simpa using hb
        rcases e' with z | z
        · rw [z]; exact hel
        · rw [z]; exact hil
      rw [upd_ne (Nat.ne_of_lt hb')]
      exact (hf b hb).1
  done := by
    intro X hP hw hK hc i pins s σ H E I hf st hg
    subst hP hw hK
    obtain ⟨⟨old, he⟩, hit, hne⟩ := st
    obtain ⟨xs, hq, hx⟩ := hg
    obtain ⟨its, rv, p, hz⟩ := I.tuple hq
    obtain ⟨f0, f1, f2, f3, f4, f5⟩ := hf it (by simp)
    have hl := rv.length
    have hT : s.TypeIs (.ref e) "enumerate" := ⟨_, he, rfl⟩
    unfold pyNext
    refine wpAny_bind (wpAny_attempt (wpAny_callSpecial?_slot (name := Str.ofString "__next__") hT F.slot_enumerate_next
      (wpAny_call_entry F.slot_enumerate_next hT F.entry_enumerate_next ?_ (F.args_enumerate_next_1 _))))
    show wpAny _ _ (field (.ref e) 2 >>= _) _ _ _
    refine wpAny_bind (wpAny_field he rfl (x := .ref it) rfl ?_)
    refine wpAny_bind (RZ.nextOf_tuple_end (I.ok.hd hc) hit p (by simp; omega) fun h' x he' hx' => ?_)
    obtain ⟨o, ho, hcc⟩ := hx'
    refine wpAny_bind (wpAny_isInstance (T := "StopIteration") (b := true) ⟨o, ho, hcc⟩ isSubtype_stop ?_)
    exact wpAny_pure ⟨rfl, I.turned (t' := s.toks) (fun b o hb q => he' b o hb q) f0 f1 f3 f4 f5⟩
  self := fun A i s Q E st h => let ⟨⟨_, he⟩, _⟩ := st; wpAny_pyIter_enum he h
def iEnumT (K : PySem.W.Frag) (ta : TA) : TI := fun σ H R => ta σ H fun vs H1 => ∃ a xs, vs = [.ref a] ∧ SqT K H1 a xs ∧ R (IteT K a) H1
theorem pi_enumT {X : Cx} {e : Expr} {ta : TA} {p pos tpos : Pos} {elts : List Expr} {kk : Nat} (hg : Gl X "enumerate") (hm : X.mg "enumerate" = none) (ha : PA X [e] ta) (hs : starEach [e] X.env = [(false, eval e X.env)] := by rfl) :
    PI X (.Tuple elts kk tpos) (.Call (.Name "enumerate" p) [e] [] pos) (iEnumT X.K ta) := by
  refine ⟨fun pins s σ H R I h => ?_⟩
  refine Call_ (ld_blt I hg hm boot_enumerate (PyProof.Rows.callWith_type1 (thn (ha.run pos pins s σ H _ I h) fun us s1 ⟨vs, H1, I1, r1, q1⟩ => ?_) hs rfl))
  obtain ⟨a, xs, ex, hq, q⟩ := q1
  subst ex
  cases r1 with
  | cons r rr =>
    cases rr
    cases r
    obtain ⟨its, rv, p', hz⟩ := I1.tuple hq
    have hal : a < s1.heap.objs.size := by obtain ⟨_, q, _⟩ := p'; exact Heap.lt_size q
    refine RZ.call_enum_tuple p' fun h' he hit hsz hk => wpAny_pyIter_enum he ?_
    have I2 : Inv X pins σ H1 { s1 with heap := h' } := I1.kept (t' := s1.toks) hk
    refine ⟨s1.heap.objs.size + 1, [s1.heap.objs.size + 1, s1.heap.objs.size], _, _, H1, rfl, I2, turn_enumT a (s1.heap.objs.size + 1) s1.heap.objs.size (Nat.ne_of_lt hal) (Nat.ne_of_lt (Nat.lt_succ_of_lt hal)), ⟨⟨.none, he⟩, hit, Nat.succ_ne_self _⟩, fun b hb => ?_, q⟩
    have e' : b = s1.heap.objs.size + 1 ∨ b = s1.heap.objs.size := by simpa using hb
    have hle : s1.heap.objs.size ≤ b := by
      rcases e' with z | z
      · rw [z]; exact Nat.le_add_right _ _
      · rw [z]; exact Nat.le_refl _
    exact I1.fpOk hle (I1.hok.fresh hle)
end L2
namespace Wk
open PySem L2
section
variable {σ : St} {H : Hp} {i : Nat} {v x y z : V} {ta tb te tv : TE} {b : Bool} {K : PySem.W.Frag} {a C dx : Addr} {f : Str} {t u : TS} {Q : VK} {nx bk ct : St → Hp → Prop} {rt : VK}
/-! ### enumerate of a tuple -/
def EnB (K : PySem.W.Frag) (R : It → Hp → Prop) (vs : List V) (H : Hp) : Prop := ∃ a xs, vs = [.ref a] ∧ SqT K H a xs ∧ R (IteT K a) H
theorem w_enumT {t : TA} {R : It → Hp → Prop} (h : t σ H fun vs H1 => EnB K R vs H1) : iEnumT K t σ H R := h
theorem w_enb {xs : List V} {R : It → Hp → Prop} (h : SqT K H a xs) (q : R (IteT K a) H) : EnB K R [.ref a] H := ⟨a, xs, rfl, h, q⟩
theorem forET {xs : List V} {g : TG} {tb : TS} (Pv : Nat → St → Hp → Prop) (h0 : Pv 0 σ H) (hl : ∀ i σ H, i ≤ xs.length → Pv i σ H → SqT K H a xs)
    (hs : ∀ i x σ H T H', xs[i]? = some x → Pv i σ H → H T = none → Fr [] H H' → H' T = some (.tup [.int (i : Nat), x]) → g (.ref T) σ H' fun σ2 H2 => tb ⟨Pv (i + 1), rt, nx, Pv (i + 1)⟩ σ2 H2)
    (hd : ∀ σ H, Pv xs.length σ H → nx σ H) : ForB (IteT K a) g tb ⟨nx, rt, bk, ct⟩ σ H := by
  refine ⟨fun j m τ G => m + j = xs.length ∧ Pv j τ G, ⟨xs.length, Nat.add_zero _, h0⟩, fun j m τ G hh => ?_⟩
  obtain ⟨e, pv⟩ := hh
  have hj : j ≤ xs.length := by omega
  have hq := hl j τ G hj pv
  rcases Nat.lt_or_ge j xs.length with hlt | hge
  · refine Or.inr ⟨⟨xs, xs[j], hq, List.getElem?_eq_getElem hlt⟩, Pv (j + 1), fun τ' G' pv' => ⟨m - 1, by omega, by omega, pv'⟩, fun v G' yy => ?_⟩
    obtain ⟨T, x, rfl, hT, rfl, hx⟩ := yy
    exact hs j x τ G T _ (hx xs hq) pv hT (.new hT) upd_same
  · have ej : j = xs.length := by omega
    subst ej
    exact Or.inl ⟨⟨xs, hq, Nat.le_refl _⟩, hd _ _ pv⟩
/-! ### a star in a tuple -/
def StarB (K : PySem.W.Frag) (t : TA) (σ : St) (R : List V → Hp → Prop) (x : V) (H : Hp) : Prop := ∃ p xs, x = V.ref p ∧ (SqT K H p xs ∨ SqL K H p xs) ∧ t σ H fun ys H2 => R (xs ++ ys) H2
theorem w_star {t : TA} {R : List V → Hp → Prop} (h : te σ H fun x H1 => StarB K t σ R x H1) : StX.tStar K te t σ H R := h
theorem w_stT {p : Addr} {xs : List V} {t : TA} {R : List V → Hp → Prop} (h : SqT K H p xs) (q : t σ H fun ys H2 => R (xs ++ ys) H2) : StarB K t σ R (.ref p) H := ⟨p, xs, rfl, .inl h, q⟩
theorem w_stL {p : Addr} {xs : List V} {t : TA} {R : List V → Hp → Prop} (h : SqL K H p xs) (q : t σ H fun ys H2 => R (xs ++ ys) H2) : StarB K t σ R (.ref p) H := ⟨p, xs, rfl, .inr h, q⟩
/-! ### tuples -/
def rTupOf (K : PySem.W.Frag) : List V → Hp → VK → Prop := fun xs H Q => ∃ p ys, xs = [.ref p] ∧ ((SqL K H p ys ∧ ∀ l, H l = none → Q (.ref l) (upd H l (.tup ys))) ∨ (SqT K H p ys ∧ Q (.ref p) H))
theorem call_tupOf {X : Cx} : CallR X (.type "tuple") (rTupOf X.K) := call_tuple_of
theorem w_tupOf {p : Addr} {ys : List V} (h : SqL K H p ys) (q : ∀ r H1, H r = none → Fr [] H H1 → H1 r = some (.tup ys) → Q (.ref r) H1) : rTupOf K [.ref p] H Q := ⟨p, ys, rfl, .inl ⟨h, fun r hr => q r _ hr (.new hr) upd_same⟩⟩
theorem w_catT {p r : Addr} {xs ys : List V} (h : SqT K H p xs) (h' : SqT K H r ys) (hx : xs ≠ []) (hy : ys ≠ []) (hz : xs.length + ys.length ≤ 100000) (q : ∀ d H1, H d = none → Fr [] H H1 → H1 d = some (.tup (xs ++ ys)) → Q (.ref d) H1) : rCatT K (.ref p) (.ref r) H Q :=
  ⟨p, r, xs, ys, rfl, rfl, h, h', hx, Nat.le_trans hz (by decide), fun e => absurd e hy, fun _ d hd => q d _ hd (.new hd) upd_same⟩
theorem w_catT0 {p r : Addr} {xs : List V} (h : SqT K H p xs) (h' : SqT K H r []) (hx : xs ≠ []) (hz : xs.length ≤ 100000) (q : Q (.ref p) H) : rCatT K (.ref p) (.ref r) H Q :=
  ⟨p, r, xs, [], rfl, rfl, h, h', hx, Nat.le_trans hz (by decide), fun _ => q, fun e => absurd rfl e⟩
/-! ### list.reverse, two names at once -/
theorem w_rev {l : Addr} {xs : List V} (h : H l = some (.lst xs)) (q : ∀ H1, Fr [l] H H1 → H1 l = some (.lst xs.reverse) → Q .non H1) : rReverse (.ref l) [] H Q := ⟨l, xs, rfl, rfl, h, q _ (Fr.set h (by intro z e; cases e)) upd_same⟩
def ParB (i j : Nat) (nx : St → Hp → Prop) (σ : St) (vs : List V) (H : Hp) : Prop := ∃ v w, vs = [v, w] ∧ nx ((σ.set i (some v)).set j (some w)) H
theorem w_par {i j : Nat} {ta : TA} (h : ta σ H fun vs H1 => ParB i j nx σ vs H1) : tPar i j ta ⟨nx, rt, bk, ct⟩ σ H := h
theorem w_parb {i j : Nat} {v w : V} {σ' : St} (e : (σ.set i (some v)).set j (some w) = σ') (q : nx σ' H) : ParB i j nx σ [v, w] H := ⟨v, w, rfl, e ▸ q⟩
theorem w_getset {i j : Nat} : True := trivial
end
end Wk
/-! C1: steps as data -/
namespace My
open PySem L2 Wk
inductive Rst where
  | num (n : Int) | name (c : Str) | ask | say (b : Nat) | bin (o : Op) (b c : Nat)
  deriving DecidableEq
def Rst.vals : Rst → List V
  | .num n => [.str "num", .int n]
  | .name c => [.str "name", .str c]
  | .ask => [.str "ask"]
  | .say b => [.str "say", .int b]
  | .bin o b c => [.str o.word, .int b, .int c]
structure Stp where
  box : Nat
  rest : Rst
  deriving DecidableEq
def IsStp (H : Hp) (v : V) (t : Stp) : Prop := ∃ p, v = .ref p ∧ H p = some (.tup (.int (t.box : Nat) :: t.rest.vals))
theorem IsStp.mono {W : List Addr} {H H' : Hp} (f : Fr W H H') {v : V} {t : Stp} (h : IsStp H v t) : IsStp H' v t := by
  obtain ⟨p, e, h⟩ := h
  exact ⟨p, e, f.gett h⟩
def AllStp (H : Hp) : List V → List Stp → Prop
  | [], [] => True
  | v :: vs, t :: ts => IsStp H v t ∧ AllStp H vs ts
  | _, _ => False
theorem AllStp.mono {W : List Addr} {H H' : Hp} (f : Fr W H H') : ∀ {vs : List V} {ts : List Stp}, AllStp H vs ts → AllStp H' vs ts
  | [], [], _ => trivial
  | _ :: _, _ :: _, h => ⟨h.1.mono f, AllStp.mono f h.2⟩
theorem fr_stps {W : List Addr} {H H1 : Hp} {vs : List V} {ts : List Stp} (f : Fr W H H1) (h : AllStp H vs ts) : AllStp H1 vs ts := AllStp.mono f h
theorem AllStp.length {H : Hp} : ∀ {vs : List V} {ts : List Stp}, AllStp H vs ts → vs.length = ts.length
  | [], [], _ => rfl
  | _ :: _, _ :: _, h => congrArg (· + 1) (AllStp.length h.2)
theorem AllStp.app {H : Hp} : ∀ {vs ws : List V} {ss ts : List Stp}, AllStp H vs ss → AllStp H ws ts → AllStp H (vs ++ ws) (ss ++ ts)
  | [], _, [], _, _, h => h
  | _ :: _, _, _ :: _, _, h, h' => ⟨h.1, AllStp.app h.2 h'⟩
theorem AllStp.at {H : Hp} : ∀ {vs : List V} {ts : List Stp} {i : Nat} {v : V}, AllStp H vs ts → vs[i]? = some v → ∃ t, ts[i]? = some t ∧ IsStp H v t
  | _ :: _, s :: _, 0, _, h, e => by
    cases e
    exact ⟨s, rfl, h.1⟩
  | _ :: _, _ :: _, i + 1, _, h, e => AllStp.at (i := i) h.2 e
theorem AllStp.at2 {H : Hp} : ∀ {vs : List V} {ts : List Stp} {i : Nat} {t : Stp}, AllStp H vs ts → ts[i]? = some t → ∃ v, vs[i]? = some v ∧ IsStp H v t
  | v :: _, s :: _, 0, _, h, e => by
    cases e
    exact ⟨v, rfl, h.1⟩
  | _ :: _, _ :: _, i + 1, _, h, e => AllStp.at2 (i := i) h.2 e
  | [], _ :: _, _, _, h, _ => h.elim
/-- the items of a sum's tuple, its parts as they are given -/
def Sm.vals : Sm → List V → List V
  | .num n, _ => [.str "num", .int n]
  | .name c, _ => [.str "name", .str c]
  | .ask, _ => [.str "ask"]
  | .say _, xs => .str "say" :: xs
  | .bin o _ _, xs => .str o.word :: xs
theorem IsSum.items {H : Hp} {v : V} {s : Sm} (h : IsSum H v s) : ∃ p xs, v = .ref p ∧ H p = some (.tup (s.vals xs)) ∧ AllSum H xs s.subs := by
  cases s with
  | num n => obtain ⟨p, e, q⟩ := h; exact ⟨p, [], e, q, trivial⟩
  | name n => obtain ⟨p, e, q⟩ := h; exact ⟨p, [], e, q, trivial⟩
  | ask => obtain ⟨p, e, q⟩ := h; exact ⟨p, [], e, q, trivial⟩
  | say s => obtain ⟨p, x, e, q, hx⟩ := h; exact ⟨p, [x], e, q, hx, trivial⟩
  | bin o a b => obtain ⟨p, x, y, e, q, hx, hy⟩ := h; exact ⟨p, [x, y], e, q, hx, hy, trivial⟩
/-- a sum's own step behind its box -/
def Sm.rst : Sm → List Nat → Rst
  | .num n, _ => .num n
  | .name c, _ => .name c
  | .ask, _ => .ask
  | .say _, bs => .say (bs.getD 0 0)
  | .bin o _ _, bs => .bin o (bs.getD 0 0) (bs.getD 1 0)
/-- filled_with's items -/
def fillV (xs ys : List V) : List V := if ys.isEmpty then xs else xs.take 1 ++ ys
theorem fill_rst {s : Sm} {xs : List V} {bs : List Nat} (h : bs.length = s.subs.length) : fillV (s.vals xs) (bs.map fun b => V.int (b : Nat)) = (s.rst bs).vals := by
  cases s with
  | num n => match bs, h with | [], _ => rfl
  | name n => match bs, h with | [], _ => rfl
  | ask => match bs, h with | [], _ => rfl
  | say s => match bs, h with | [b], _ => rfl
  | bin o a b => match bs, h with | [b, c], _ => rfl
/-! ### cut -/
def Sm.cut : Sm → Nat → List Stp
  | .num n, k => [⟨k, .num n⟩]
  | .name c, k => [⟨k, .name c⟩]
  | .ask, k => [⟨k, .ask⟩]
  | .say s, k => s.cut k ++ [⟨k + s.size, .say (k + s.size - 1)⟩]
  | .bin o a b, k => a.cut k ++ b.cut (k + a.size) ++ [⟨k + a.size + b.size, .bin o (k + a.size - 1) (k + a.size + b.size - 1)⟩]
theorem Sm.cut_length : ∀ (s : Sm) (k : Nat), (s.cut k).length = s.size
  | .num _, _ => rfl
  | .name _, _ => rfl
  | .ask, _ => rfl
  | .say s, k => by
    show (s.cut k ++ [_]).length = s.size + 1
    rw [List.length_append, Sm.cut_length s]; rfl
  | .bin o a b, k => by
    show (a.cut k ++ b.cut (k + a.size) ++ [_]).length = a.size + b.size + 1
    rw [List.length_append, List.length_append, Sm.cut_length a, Sm.cut_length b]; rfl
/-- the steps of sums in turn, their boxes -/
def cuts : List Sm → Nat → List Stp
  | [], _ => []
  | s :: r, k => s.cut k ++ cuts r (k + s.size)
def cutBoxes : List Sm → Nat → List Nat
  | [], _ => []
  | s :: r, k => (k + s.size - 1) :: cutBoxes r (k + s.size)
theorem cuts_length : ∀ (l : List Sm) (k : Nat), (cuts l k).length = sizeL l
  | [], _ => rfl
  | s :: r, k => by
    show (s.cut k ++ cuts r (k + s.size)).length = s.size + sizeL r
    rw [List.length_append, Sm.cut_length, cuts_length r]
theorem cutBoxes_length : ∀ (l : List Sm) (k : Nat), (cutBoxes l k).length = l.length
  | [], _ => rfl
  | s :: r, k => congrArg (· + 1) (cutBoxes_length r _)
theorem cuts_snoc (t : Sm) : ∀ (l : List Sm) (k : Nat), cuts (l ++ [t]) k = cuts l k ++ t.cut (k + sizeL l)
  | [], k => by simp [cuts, sizeL]
  | s :: r, k => by
    show s.cut k ++ cuts (r ++ [t]) (k + s.size) = (s.cut k ++ cuts r (k + s.size)) ++ t.cut (k + (s.size + sizeL r))
    rw [cuts_snoc t r, List.append_assoc, Nat.add_assoc]
theorem cutBoxes_snoc (t : Sm) : ∀ (l : List Sm) (k : Nat), cutBoxes (l ++ [t]) k = cutBoxes l k ++ [k + sizeL l + t.size - 1]
  | [], k => by simp [cutBoxes, sizeL]
  | s :: r, k => by
    show (k + s.size - 1) :: cutBoxes (r ++ [t]) (k + s.size) = (k + s.size - 1) :: cutBoxes r (k + s.size) ++ [k + (s.size + sizeL r) + t.size - 1]
    rw [cutBoxes_snoc t r, Nat.add_assoc k s.size]
    rfl
theorem Sm.size_eq (s : Sm) : s.size = sizeL s.subs + 1 := by cases s <;> simp [Sm.size, Sm.subs, sizeL]
theorem Sm.cut_eq (s : Sm) (k : Nat) : s.cut k = cuts s.subs k ++ [⟨k + sizeL s.subs, s.rst (cutBoxes s.subs k)⟩] := by
  cases s with
  | num n => simp [Sm.cut, Sm.subs, cuts, sizeL, Sm.rst]
  | name n => simp [Sm.cut, Sm.subs, cuts, sizeL, Sm.rst]
  | ask => simp [Sm.cut, Sm.subs, cuts, sizeL, Sm.rst]
  | say s => simp [Sm.cut, Sm.subs, cuts, sizeL, Sm.rst, cutBoxes]
  | bin o a b => simp [Sm.cut, Sm.subs, cuts, sizeL, Sm.rst, cutBoxes, Nat.add_assoc]
/-! ### tight -/
def Sm.tight : Sm → Nat → List Stp
  | .num n, k => [⟨k, .num n⟩]
  | .name c, k => [⟨k, .name c⟩]
  | .ask, k => [⟨k, .ask⟩]
  | .say s, k => s.tight k ++ [⟨k, .say k⟩]
  | .bin o a b, k => a.tight k ++ b.tight (k + 1) ++ [⟨k, .bin o k (k + 1)⟩]
theorem Sm.tight_length : ∀ (s : Sm) (k : Nat), (s.tight k).length = s.size
  | .num _, _ => rfl
  | .name _, _ => rfl
  | .ask, _ => rfl
  | .say s, k => by
    show (s.tight k ++ [_]).length = s.size + 1
    rw [List.length_append, Sm.tight_length s]; rfl
  | .bin o a b, k => by
    show (a.tight k ++ b.tight (k + 1) ++ [_]).length = a.size + b.size + 1
    rw [List.length_append, List.length_append, Sm.tight_length a, Sm.tight_length b]; rfl
def tights : List Sm → Nat → List Stp
  | [], _ => []
  | s :: r, k => s.tight k ++ tights r (k + 1)
theorem tights_length : ∀ (l : List Sm) (k : Nat), (tights l k).length = sizeL l
  | [], _ => rfl
  | s :: r, k => by
    show (s.tight k ++ tights r (k + 1)).length = s.size + sizeL r
    rw [List.length_append, Sm.tight_length, tights_length r]
theorem tights_snoc (t : Sm) : ∀ (l : List Sm) (k : Nat), tights (l ++ [t]) k = tights l k ++ t.tight (k + l.length)
  | [], k => by simp [tights]
  | s :: r, k => by
    show s.tight k ++ tights (r ++ [t]) (k + 1) = (s.tight k ++ tights r (k + 1)) ++ t.tight (k + (r.length + 1))
    rw [tights_snoc t r, List.append_assoc, Nat.add_assoc, Nat.add_comm 1]
def upFrom (k : Nat) (n : Nat) : List Nat := (List.range n).map (k + ·)
theorem upFrom_length (k n : Nat) : (upFrom k n).length = n := by simp [upFrom]
theorem upFrom_snoc (k n : Nat) : upFrom k (n + 1) = upFrom k n ++ [k + n] := by simp [upFrom, List.range_succ]
theorem Sm.tight_eq (s : Sm) (k : Nat) : s.tight k = tights s.subs k ++ [⟨k, s.rst (upFrom k s.subs.length)⟩] := by
  cases s with
  | num n => simp [Sm.tight, Sm.subs, tights, Sm.rst]
  | name n => simp [Sm.tight, Sm.subs, tights, Sm.rst]
  | ask => simp [Sm.tight, Sm.subs, tights, Sm.rst]
  | say s => simp [Sm.tight, Sm.subs, tights, Sm.rst, upFrom]
  | bin o a b => simp [Sm.tight, Sm.subs, tights, Sm.rst, upFrom, List.range_succ]
/-! ### what the defs promise -/
def spFilled : Sp := fun vs H Q _ => ∃ (p q : Addr) (xs ys : List V), vs = [.ref p, .ref q] ∧ H p = some (.tup xs) ∧ xs ≠ [] ∧ xs.length ≤ 100 ∧ H q = some (.lst ys) ∧ ys.length ≤ 100 ∧ ∀ (r : Addr) (H' : Hp), H' r = some (.tup (fillV xs ys)) → Fr [] H H' → Q (.ref r) H'
theorem u_filled {H : Hp} {Q : VK} {E : XK} {p q : Addr} {xs ys : List V} (h1 : H p = some (.tup xs)) (h2 : xs ≠ []) (h3 : xs.length ≤ 100) (h4 : H q = some (.lst ys)) (h5 : ys.length ≤ 100) (k : ∀ (r : Addr) (H' : Hp), H' r = some (.tup (fillV xs ys)) → Fr [] H H' → Q (.ref r) H') : spFilled [.ref p, .ref q] H Q E := ⟨p, q, xs, ys, rfl, h1, h2, h3, h4, h5, k⟩
def spNext : Sp := fun vs H Q _ => ∃ (p l : Addr) (xs us : List V), vs = [.ref p, .ref l] ∧ H p = some (.tup xs) ∧ xs.length ≤ 100 ∧ H l = some (.lst us) ∧ us.length ≤ 1000 ∧
  ∀ (q : Addr) (H' : Hp), H' q = some (.tup (.int (us.length : Nat) :: xs)) → H' l = some (.lst (us ++ [.ref q])) → Fr [l] H H' → Q (.int (us.length : Nat)) H'
theorem u_next {H : Hp} {Q : VK} {E : XK} {p l : Addr} {xs us : List V} (h1 : H p = some (.tup xs)) (h2 : xs.length ≤ 100) (h3 : H l = some (.lst us)) (h4 : us.length ≤ 1000)
    (k : ∀ (q : Addr) (H' : Hp), H' q = some (.tup (.int (us.length : Nat) :: xs)) → H' l = some (.lst (us ++ [.ref q])) → Fr [l] H H' → Q (.int (us.length : Nat)) H') : spNext [.ref p, .ref l] H Q E := ⟨p, l, xs, us, rfl, h1, h2, h3, h4, k⟩
def spGoodSum : Sp := fun vs H Q _ => ∃ (v : V) (s : Sm), vs = [v] ∧ IsSum H v s ∧ s.ok ∧ s.depth ≤ 15 ∧ s.size ≤ 60 ∧ ∀ H' : Hp, Fr [] H H' → Q .non H'
theorem u_goodsum {H : Hp} {Q : VK} {E : XK} {v : V} {s : Sm} (h1 : IsSum H v s) (h2 : s.ok) (h3 : s.depth ≤ 15) (h4 : s.size ≤ 60) (k : ∀ H' : Hp, Fr [] H H' → Q .non H') : spGoodSum [v] H Q E := ⟨v, s, rfl, h1, h2, h3, h4, k⟩
def spPutCut (n : Nat) : Sp := fun vs H Q _ => ∃ (v : V) (s : Sm) (l : Addr) (us : List V) (ts : List Stp), vs = [v, .ref l] ∧ IsSum H v s ∧ s.depth ≤ n ∧ H l = some (.lst us) ∧ AllStp H us ts ∧ us.length + s.size ≤ 1000 ∧
  ∀ (us' : List V) (H' : Hp), H' l = some (.lst us') → AllStp H' us' (ts ++ s.cut us.length) → Fr [l] H H' → Q (.int ((us.length + s.size - 1 : Nat))) H'
theorem u_putcut {n : Nat} {H : Hp} {Q : VK} {E : XK} {v : V} {s : Sm} {l : Addr} {us : List V} {ts : List Stp} (h1 : IsSum H v s) (h2 : s.depth ≤ n) (h3 : H l = some (.lst us)) (h4 : AllStp H us ts) (h5 : us.length + s.size ≤ 1000)
    (k : ∀ (us' : List V) (H' : Hp), H' l = some (.lst us') → AllStp H' us' (ts ++ s.cut us.length) → Fr [l] H H' → Q (.int ((us.length + s.size - 1 : Nat))) H') : spPutCut n [v, .ref l] H Q E := ⟨v, s, l, us, ts, rfl, h1, h2, h3, h4, h5, k⟩
def spPutTight (n : Nat) : Sp := fun vs H Q _ => ∃ (v : V) (s : Sm) (b : Nat) (l : Addr) (us : List V) (ts : List Stp), vs = [v, .int (b : Nat), .ref l] ∧ IsSum H v s ∧ s.ok ∧ s.depth ≤ n ∧ n ≤ 20 ∧ H l = some (.lst us) ∧ AllStp H us ts ∧ us.length + s.size ≤ 1000 ∧
  ∀ (us' : List V) (H' : Hp), H' l = some (.lst us') → AllStp H' us' (ts ++ s.tight b) → Fr [l] H H' → Q .non H'
theorem u_puttight {n : Nat} {H : Hp} {Q : VK} {E : XK} {v : V} {s : Sm} {b : Nat} {l : Addr} {us : List V} {ts : List Stp} (h1 : IsSum H v s) (h1' : s.ok) (h2 : s.depth ≤ n) (h2' : n ≤ 20) (h3 : H l = some (.lst us)) (h4 : AllStp H us ts) (h5 : us.length + s.size ≤ 1000)
    (k : ∀ (us' : List V) (H' : Hp), H' l = some (.lst us') → AllStp H' us' (ts ++ s.tight b) → Fr [l] H H' → Q .non H') : spPutTight n [v, .int (b : Nat), .ref l] H Q E := ⟨v, s, b, l, us, ts, rfl, h1, h1', h2, h2', h3, h4, h5, k⟩
/-- a new list of these steps -/
def spSteps (f : Sm → List Stp) : Sp := fun vs H Q _ => ∃ (v : V) (s : Sm), vs = [v] ∧ IsSum H v s ∧ s.ok ∧ s.depth ≤ 15 ∧ s.size ≤ 60 ∧ ∀ (l : Addr) (us : List V) (H' : Hp), H l = none → H' l = some (.lst us) → AllStp H' us (f s) → Fr [] H H' → Q (.ref l) H'
theorem u_steps {f : Sm → List Stp} {H : Hp} {Q : VK} {E : XK} {v : V} {s : Sm} (h1 : IsSum H v s) (h2 : s.ok) (h3 : s.depth ≤ 15) (h4 : s.size ≤ 60) (k : ∀ (l : Addr) (us : List V) (H' : Hp), H l = none → H' l = some (.lst us) → AllStp H' us (f s) → Fr [] H H' → Q (.ref l) H') : spSteps f [v] H Q E := ⟨v, s, rfl, h1, h2, h3, h4, k⟩
def spCut : Sp := spSteps fun s => s.cut 0
def spTight : Sp := spSteps fun s => s.tight 0
/-! ### lists of like steps are alike -/
theorem rst_alike {H : Hp} {n : Nat} {r : Rst} {i : Nat} {x : V} (hx : r.vals[i]? = some x) : Alike H n x x := by
  cases r with
  | num k => match i with | 0 => cases hx; exact .str n _ | 1 => cases hx; exact .int n _ | i + 2 => cases hx
  | name k => match i with | 0 => cases hx; exact .str n _ | 1 => cases hx; exact .str n _ | i + 2 => cases hx
  | ask => match i with | 0 => cases hx; exact .str n _ | i + 1 => cases hx
  | say b => match i with | 0 => cases hx; exact .str n _ | 1 => cases hx; exact .int n _ | i + 2 => cases hx
  | bin o b c => match i with | 0 => cases hx; exact .str n _ | 1 => cases hx; exact .int n _ | 2 => cases hx; exact .int n _ | i + 3 => cases hx
theorem vals_len (r : Rst) : r.vals.length ≤ 3 := by cases r <;> simp [Rst.vals]
theorem stp_alike {H : Hp} {n : Nat} {v w : V} {t : Stp} (h : IsStp H v t) (h' : IsStp H w t) : Alike H (n + 1) v w := by
  obtain ⟨p, rfl, hp⟩ := h
  obtain ⟨q, rfl, hq⟩ := h'
  refine .tup n p q _ _ hp hq rfl (by have := vals_len t.rest; simp only [List.length_cons]; omega) fun i x y hx hy => ?_
  rw [hx] at hy
  obtain rfl := Option.some.inj hy
  match i with
  | 0 => cases hx; exact .int n _
  | i + 1 => exact rst_alike hx
theorem stps_alike {H : Hp} {n : Nat} {a b : Addr} {us vs : List V} {ts : List Stp} (ha : H a = some (.lst us)) (hb : H b = some (.lst vs)) (h : AllStp H us ts) (h' : AllStp H vs ts) (hz : ts.length ≤ 1000) : Alike H (n + 2) (.ref a) (.ref b) :=
  .lst (n + 1) a b us vs ha hb (by rw [h.length, h'.length]) (by rw [h.length]; exact hz) fun i x y hx hy => by
    obtain ⟨t, ht, q⟩ := h.at hx
    obtain ⟨t', ht', q'⟩ := h'.at hy
    rw [ht] at ht'
    obtain rfl := Option.some.inj ht'
    exact stp_alike q q'
/-! ### sums as data, == -/
def Sm.data : Sm → PyData
  | .num n => .tuple [.str "num", .int n]
  | .name c => .tuple [.str "name", .str c]
  | .ask => .tuple [.str "ask"]
  | .say s => .tuple [.str "say", s.data]
  | .bin o a b => .tuple [.str o.word, a.data, b.data]
theorem dp_sum {K : PySem.W.Frag} {H : Hp} : ∀ {s : Sm} {v : V}, IsSum H v s → Dp K H v s.data
  | .num n, _, ⟨p, e, h⟩ => e ▸ .tup (SqT.of h) (.cons (.str _) (.cons (.int _) .nil))
  | .name c, _, ⟨p, e, h⟩ => e ▸ .tup (SqT.of h) (.cons (.str _) (.cons (.str _) .nil))
  | .ask, _, ⟨p, e, h⟩ => e ▸ .tup (SqT.of h) (.cons (.str _) .nil)
  | .say s, _, ⟨p, x, e, h, h1⟩ => e ▸ .tup (SqT.of h) (.cons (.str _) (.cons (dp_sum h1) .nil))
  | .bin o a b, _, ⟨p, x, y, e, h, h1, h2⟩ => e ▸ .tup (SqT.of h) (.cons (.str _) (.cons (dp_sum h1) (.cons (dp_sum h2) .nil)))
theorem dp_sums {K : PySem.W.Frag} {H : Hp} : ∀ {vs : List V} {ss : List Sm}, AllSum H vs ss → DpAll K H vs (ss.map Sm.data)
  | [], [], _ => .nil
  | _ :: _, _ :: _, h => .cons (dp_sum h.1) (dp_sums h.2)
theorem lay_word (o : Op) : PyData.canLay0 (.str o.word) = true := by cases o <;> decide +kernel
theorem lay_num : PyData.canLay0 (.str "num") = true := by decide +kernel
theorem lay_name : PyData.canLay0 (.str "name") = true := by decide +kernel
theorem lay_ask : PyData.canLay0 (.str "ask") = true := by decide +kernel
theorem lay_say : PyData.canLay0 (.str "say") = true := by decide +kernel
theorem lay_sum : ∀ {s : Sm}, s.ok → PyData.canLay0 s.data = true
  | .num n, _ => by
    show (PyData.canLay0 (.str "num") && (PyData.canLay0 (.int n) && PyData.canLayAll0 [])) = true
    rw [lay_num]; rfl
  | .name c, h => by
    show (PyData.canLay0 (.str "name") && (PyData.canLay0 (.str c) && PyData.canLayAll0 [])) = true
    rw [lay_name, lay_letters c h]; rfl
  | .ask, _ => by
    show (PyData.canLay0 (.str "ask") && PyData.canLayAll0 []) = true
    rw [lay_ask]; rfl
  | .say s, h => by
    show (PyData.canLay0 (.str "say") && (PyData.canLay0 s.data && PyData.canLayAll0 [])) = true
    rw [lay_say, lay_sum (s := s) h]; rfl
  | .bin o a b, h => by
    show (PyData.canLay0 (.str o.word) && (PyData.canLay0 a.data && (PyData.canLay0 b.data && PyData.canLayAll0 []))) = true
    rw [lay_word, lay_sum h.1, lay_sum h.2]; rfl
theorem depth_sum : ∀ s : Sm, PyData.depth s.data ≤ s.depth + 1
  | .num n => by simp [Sm.data, PyData.depth, PyData.depthAll, Sm.depth]
  | .name n => by simp [Sm.data, PyData.depth, PyData.depthAll, Sm.depth]
  | .ask => by simp [Sm.data, PyData.depth, PyData.depthAll, Sm.depth]
  | .say s => by
    have := depth_sum s
    simp only [Sm.data, PyData.depth, PyData.depthAll, Sm.depth]
    omega
  | .bin o a b => by
    have := depth_sum a
    have := depth_sum b
    simp only [Sm.data, PyData.depth, PyData.depthAll, Sm.depth]
    omega
theorem shaped_sum {s : Sm} (h : s.ok) (hd : s.depth ≤ 40) : SeqAt.shaped s.data = true := by
  have := depth_sum s
  unfold SeqAt.shaped
  rw [lay_sum h, Bool.true_and, decide_eq_true_eq]
  omega
theorem lay_sums : ∀ {ss : List Sm}, (∀ t ∈ ss, t.ok) → PyData.canLayAll0 (ss.map Sm.data) = true
  | [], _ => rfl
  | s :: r, h => by
    show (PyData.canLay0 s.data && PyData.canLayAll0 (r.map Sm.data)) = true
    rw [lay_sum (h s List.mem_cons_self), lay_sums fun t ht => h t (List.mem_cons_of_mem _ ht)]; rfl
theorem depth_sums {n : Nat} : ∀ {ss : List Sm}, (∀ t ∈ ss, t.depth ≤ n) → PyData.depthAll (ss.map Sm.data) ≤ n + 1
  | [], _ => by simp [PyData.depthAll]
  | s :: r, h => by
    have h1 := depth_sum s
    have h2 := h s List.mem_cons_self
    have := depth_sums (ss := r) fun t ht => h t (List.mem_cons_of_mem _ ht)
    simp only [List.map_cons, PyData.depthAll]
    omega
theorem shaped_sums {ss : List Sm} {n : Nat} (h : ∀ t ∈ ss, t.ok) (hd : ∀ t ∈ ss, t.depth ≤ n) (hn : n ≤ 40) : SeqAt.shaped (.list (ss.map Sm.data)) = true := by
  have := depth_sums hd
  unfold SeqAt.shaped
  rw [show PyData.canLay0 (.list (ss.map Sm.data)) = PyData.canLayAll0 (ss.map Sm.data) from rfl, lay_sums h, Bool.true_and, decide_eq_true_eq]
  show PyData.depthAll (ss.map Sm.data) + 1 ≤ 64
  omega
theorem eqv_nil (ds : List PyData) : PyData.eqv (.list ds) (.list []) = ds.isEmpty := by cases ds <;> simp [PyData.eqv, PyData.eqvAll]
theorem eqv_nilT (ds : List PyData) : PyData.eqv (.tuple ds) (.tuple []) = ds.isEmpty := by cases ds <;> simp [PyData.eqv, PyData.eqvAll]
theorem dp_ints {K : PySem.W.Frag} {H : Hp} : ∀ ns : List Int, DpAll K H (ns.map V.int) (ns.map PyData.int)
  | [] => .nil
  | n :: r => .cons (.int n) (dp_ints r)
theorem lay_ints : ∀ ns : List Int, PyData.canLayAll0 (ns.map PyData.int) = true
  | [] => rfl
  | n :: r => by
    show (PyData.canLay0 (.int n) && PyData.canLayAll0 (r.map PyData.int)) = true
    rw [lay_ints r]; rfl
theorem depth_ints : ∀ ns : List Int, PyData.depthAll (ns.map PyData.int) ≤ 1
  | [] => by simp [PyData.depthAll]
  | n :: r => by
    have := depth_ints r
    simp only [List.map_cons, PyData.depthAll, PyData.depth]
    omega
theorem shaped_intsT (ns : List Int) : SeqAt.shaped (.tuple (ns.map PyData.int)) = true := by
  have := depth_ints ns
  unfold SeqAt.shaped
  rw [show PyData.canLay0 (.tuple (ns.map PyData.int)) = PyData.canLayAll0 (ns.map PyData.int) from rfl, lay_ints, Bool.true_and, decide_eq_true_eq]
  show PyData.depthAll (ns.map PyData.int) + 1 ≤ 64
  omega
theorem sizeL_take (s : Sm) (i : Nat) : sizeL (s.subs.take i) ≤ sizeL s.subs := by
  have := subs_size_le s i
  have := s.size_eq
  omega
theorem vals_word (s : Sm) (xs : List V) : (s.vals xs)[0]? = some (.str s.word) := by cases s <;> rfl
theorem vals_ne (s : Sm) (xs : List V) : s.vals xs ≠ [] := by cases s <;> simp [Sm.vals]
theorem vals_le {H : Hp} {s : Sm} {xs : List V} (h : AllSum H xs s.subs) : (s.vals xs).length ≤ 3 := by
  have := h.length
  cases s <;> simp [Sm.vals, Sm.subs] at * <;> omega
theorem rst_of_subs {s : Sm} {bs : List Nat} (h : bs.length = s.subs.length) (hne : bs ≠ []) : (s.rst bs).vals = .str s.word :: bs.map fun b => V.int (b : Nat) := by
  cases s with
  | num n => exact absurd (List.length_eq_zero_iff.mp h) hne
  | name n => exact absurd (List.length_eq_zero_iff.mp h) hne
  | ask => exact absurd (List.length_eq_zero_iff.mp h) hne
  | say s => match bs, h with | [b], _ => rfl
  | bin o a b => match bs, h with | [b, c], _ => rfl
theorem dp_nats {K : PySem.W.Frag} {H : Hp} : ∀ bs : List Nat, DpAll K H (bs.map fun b => V.int (b : Nat)) (bs.map fun b => PyData.int (b : Nat))
  | [] => .nil
  | n :: r => .cons (.int n) (dp_nats r)
theorem shaped_natsT (bs : List Nat) : SeqAt.shaped (.tuple (bs.map fun b => PyData.int (b : Nat))) = true := by
  have := shaped_intsT (bs.map fun b : Nat => (b : Int))
  rw [List.map_map] at this
  exact this
theorem shaped_nilT : SeqAt.shaped (.tuple []) = true := rfl
theorem shaped_nil : SeqAt.shaped (.list []) = true := rfl
theorem qbl' {b c : Bool} {Q : VK} {H : Hp} (h : Q (.bl b) H) (e : b = c) : Q (.bl c) H := e ▸ h
end My
/-! Wr2: enumerate of a list, any, all, max, min, reversed lists, list(range) -/
namespace RZ
open PySem
open PySem.Sem (wp)
section
variable {prog : Program} {w : World} {A : Around} {E : Value → Shared → Prop} {s : Shared} {l : Addr} {xs : Array (Int × Tok)}
theorem iter_intTup {Q : Value → Shared → Prop} (hl : s.heap.IsTuple l (intItems xs))
    (h : ∀ s₂ : Shared, s₂ = { s with heap := s.heap.push { cls := .type "tuple_iterator", data := .fields #[.ref l, .int 0 0] } } →
      (s₂.heap.IsTupleIter s.heap.objs.size l 0 ∧ s₂.heap.IsTuple l (intItems xs)) → (∀ b ∈ [s.heap.objs.size, l], b < s₂.heap.objs.size) → l ≠ s.heap.objs.size → Q (.ref s.heap.objs.size) s₂) :
    wpAny (model prog w) A (pyIter (.ref l)) Q E s := by
  have hlt : l < s.heap.objs.size := by obtain ⟨_, e, _⟩ := hl; exact Heap.lt_size e
  refine wpAny_pyIter_tuple hl (h _ rfl ⟨⟨_, Heap.get?_push_size _ rfl, rfl, rfl⟩, hl.push _⟩ (fun b hb => ?_) (Nat.ne_of_lt hlt))
  show b < (s.heap.push _).objs.size
  rw [Heap.size_push]
  rcases List.mem_cons.mp hb with rfl | hb
  · exact Nat.lt_succ_self _
  · rcases List.mem_cons.mp hb with rfl | hb
    · exact Nat.lt_succ_of_lt hlt
    · cases hb
theorem old_keptT {h' : Heap} (hk : ∀ b o, b ∉ [s.heap.objs.size] → (s.heap.push { cls := .type "tuple_iterator", data := .fields #[.ref l, .int 0 0] }).get? b = some o → h'.get? b = some o) :
    ∀ b o, s.heap.get? b = some o → h'.get? b = some o := fun b o e => by
  refine hk b o (fun hm => ?_) (Heap.get?_push_of_some _ e)
  rcases List.mem_cons.mp hm with e1 | hm
  · exact absurd (e1 ▸ Heap.lt_size e) (Nat.lt_irrefl _)
  · cases hm
theorem min_intTup {Q : Value → Shared → Prop} (hh : A.handled = none) (hl : s.heap.IsTuple l (intItems xs)) (hne : 0 < xs.size)
    (h : ∀ v h' tk, (intItems xs)[argBest (fun i j => decide (numAt xs i < numAt xs j)) (xs.size - 1)]? = some v → (∀ b o, s.heap.get? b = some o → h'.get? b = some o) → Q v { s with heap := h', toks := tk }) :
    wpAny (model prog w) A (call (.builtin "min") [.ref l]) Q E s := by
  refine call_min_walk (iter_intTup hl fun s₂ e st hfp hlI => ?_)
  subst e
  refine ⟨_, _, _, _, _, _, _, rfl, Walks.tuple (A := A.in1) hh _ l hlI (intItems xs), st, hfp, by simpa [intItems] using hne, CmpOf.ints_lt (numAt xs) (fun _ _ => intItems_at), fun v h' tk hP hk => ?_⟩
  exact h v h' tk (by simpa [intItems] using hP) (old_keptT hk)
end
end RZ
namespace L2
open PySem PySem.Spec PyProof.Rows
section
variable {X : Cx}
theorem allInts_items {its : List Value} {ns : List Int} (r : Vals (ns.map V.int) its) : ∃ xs : Array (Int × Tok), its.toArray = intItems xs ∧ ∀ i, i < ns.length → numAt xs i = ns.getD i 0 := by
  induction ns generalizing its with
  | nil => cases r; exact ⟨#[], by simp [intItems], fun i h => by simp at h⟩
  | cons n r' ih =>
    cases r with
    | cons rx rr =>
      obtain ⟨t, rfl⟩ := rx
      obtain ⟨xs, e, hx⟩ := ih rr
      refine ⟨#[(n, t)] ++ xs, ?_, fun i h => ?_⟩
      · rw [intItems, Array.map_append]
        have : xs.map (fun p : Int × Tok => Value.int p.1 p.2) = intItems xs := rfl
        rw [this, ← e]
        simp
      · cases i with
        | zero =>
          simp only [numAt]
          rw [Array.getElem?_append_left (by simp)]
          simp
        | succ i =>
          have := hx i (by simp at h; omega)
          simp only [numAt] at this ⊢
          rw [Array.getElem?_append_right (by simp)]
          simpa using this
def rMinT (K : PySem.W.Frag) : List V → Hp → VK → Prop := fun vs H Q => ∃ (a : Addr) (i j : Int), vs = [V.ref a] ∧ SqT K H a [.int i, .int j] ∧ Q (.int (if j < i then j else i)) H
theorem cr_minT (hc : X.calm = true) : CallR X (.builtin "min") (rMinT X.K) := by
  intro pins s σ H vs us Q I r h
  obtain ⟨a, i, j, rfl, hs, q⟩ := h
  obtain ⟨its, rv, hl, _⟩ := I.tuple hs
  rw [Vals.ref1 r]
  obtain ⟨xs, e, hx⟩ := allInts_items (ns := [i, j]) rv
  have hsz : xs.size = 2 := by
    have h1 := rv.length
    have h2 : its.toArray.size = xs.size := by rw [e]; simp [intItems]
    simp at h1 h2
    omega
  have hl' : s.heap.IsTuple a (intItems xs) := by rw [← e]; exact hl
  have n0 : numAt xs 0 = i := hx 0 (by simp)
  have n1 : numAt xs 1 = j := hx 1 (by simp)
  refine RZ.min_intTup (I.ok.hd hc) hl' (by omega) fun v h' tk hv hk => ?_
  obtain ⟨t, ev⟩ := intItems_at hv
  subst ev
  refine ⟨.int _, H, I.kept hk, ⟨t, rfl⟩, ?_⟩
  have e2 : numAt xs (argBest (fun i j => decide (numAt xs i < numAt xs j)) (xs.size - 1)) = if j < i then j else i := by
    rw [hsz]
    show numAt xs (if decide (numAt xs (0 + 1) < numAt xs 0) = true then 0 + 1 else 0) = _
    rw [n0, show numAt xs (0 + 1) = j from n1]
    by_cases h : j < i
    · rw [if_pos (decide_eq_true h), if_pos h]; exact n1
    · rw [if_neg (by simpa using h), if_neg h]; exact n0
  rw [e2]
  exact q
end
end L2
namespace Wk
open PySem L2
section
variable {X : Cx} {K : PySem.W.Frag}
theorem pe_fldK {e : Expr} {f : Str} {ta : TE} {pos : Pos} (hK : X.K = K) (he : PE X e ta) (hb : attributeBase e f X.env (eval e X.env) = eval e X.env) : PE X (.Attribute e f pos) (tFld K ta f) := hK ▸ pe_fld he hb
theorem pi_listK {tg l : Expr} {tl : TE} (hK : X.K = K) (hl : PE X l tl) : PI X tg l (iList K tl) := hK ▸ pi_list hl
theorem pi_tupK {tg l : Expr} {tl : TE} (hK : X.K = K) (hl : PE X l tl) : PI X tg l (iTup K tl) := hK ▸ pi_tup hl
end
section
variable {σ : St} {H : Hp} {i : Nat} {v x y z : V} {ta tb te tv : TE} {b : Bool} {K : PySem.W.Frag} {a C dx : Addr} {f : Str} {t u : TS} {Q : VK} {nx bk ct : St → Hp → Prop} {rt : VK}
def EnLB (K : PySem.W.Frag) (R : It → Hp → Prop) (vs : List V) (H : Hp) : Prop := ∃ a xs, vs = [.ref a] ∧ SqL K H a xs ∧ R (Ite K a) H
theorem w_enumL {t : TA} {R : It → Hp → Prop} (h : t σ H fun vs H1 => EnLB K R vs H1) : iEnum K t σ H R := h
theorem w_enlb {xs : List V} {R : It → Hp → Prop} (h : SqL K H a xs) (q : R (Ite K a) H) : EnLB K R [.ref a] H := ⟨a, xs, rfl, h, q⟩
theorem forEL {xs : List V} {g : TG} {tb : TS} (Pv : Nat → St → Hp → Prop) (h0 : Pv 0 σ H) (hl : ∀ i σ H, i ≤ xs.length → Pv i σ H → SqL K H a xs)
    (hs : ∀ i x σ H T H', xs[i]? = some x → Pv i σ H → H T = none → Fr [] H H' → H' T = some (.tup [.int (i : Nat), x]) → g (.ref T) σ H' fun σ2 H2 => tb ⟨Pv (i + 1), rt, nx, Pv (i + 1)⟩ σ2 H2)
    (hd : ∀ σ H, Pv xs.length σ H → nx σ H) : ForB (Ite K a) g tb ⟨nx, rt, bk, ct⟩ σ H := by
  refine ⟨fun j m τ G => m + j = xs.length ∧ Pv j τ G, ⟨xs.length, Nat.add_zero _, h0⟩, fun j m τ G hh => ?_⟩
  obtain ⟨e, pv⟩ := hh
  have hj : j ≤ xs.length := by omega
  have hq := hl j τ G hj pv
  rcases Nat.lt_or_ge j xs.length with hlt | hge
  · refine Or.inr ⟨⟨xs, xs[j], hq, List.getElem?_eq_getElem hlt⟩, Pv (j + 1), fun τ' G' pv' => ⟨m - 1, by omega, by omega, pv'⟩, fun v G' yy => ?_⟩
    obtain ⟨T, x, rfl, hT, rfl, hx⟩ := yy
    exact hs j x τ G T _ (hx xs hq) pv hT (.new hT) upd_same
  · have ej : j = xs.length := by omega
    subst ej
    exact Or.inl ⟨⟨xs, hq, Nat.le_refl _⟩, hd _ _ pv⟩
/-- a comprehension over enumerate of a list -/
theorem lcEn {xs : List V} {g : TG} {tt : TT} {vs : List Nat} (Pv : Addr → Nat → List V → Hp → Prop)
    (h0 : ∀ D H', H D = none → Fr [] H H' → H' D = some (.lst []) → Pv D 0 [] H') (hl : ∀ D i acc H', H D = none → Pv D i acc H' → SqL K H' a xs)
    (hs : ∀ D i x acc H' T H'', H D = none → xs[i]? = some x → i < xs.length → acc.length ≤ i → H' D = some (.lst acc) → Pv D i acc H' → H' T = none → Fr [] H' H'' → H'' T = some (.tup [.int (i : Nat), x]) → g (.ref T) (wipe σ vs) H'' fun σ2 H2 => wipe σ2 vs = wipe σ vs ∧ tt σ2 H2 fun b H3 =>
      if b = true then te σ2 H3 fun y H4 => LcE D Pv i y H4 else LcP D Pv (i + 1) H3)
    (hd : ∀ D acc H', H D = none → H' D = some (.lst acc) → acc.length ≤ xs.length → Pv D xs.length acc H' → Q (.ref D) H') : LcB (Ite K a) g tt te vs σ Q H := by
  intro D hD
  refine ⟨fun j m G => m + j = xs.length ∧ LcP D Pv j G, ⟨xs.length, Nat.add_zero _, [], Nat.le_refl _, upd_same, h0 D _ hD (.new hD) upd_same⟩, fun j m G hh => ?_⟩
  obtain ⟨e, acc, ha, hA, pv⟩ := hh
  have hq := hl D j acc G hD pv
  rcases Nat.lt_or_ge j xs.length with hlt | hge
  · refine Or.inr ⟨⟨xs, xs[j], hq, List.getElem?_eq_getElem hlt⟩, LcP D Pv (j + 1), fun G' pv' => ⟨m - 1, by omega, by omega, pv'⟩, fun v G' yy => ?_⟩
    obtain ⟨T, x, rfl, hT, rfl, hx⟩ := yy
    exact hs D j x acc G T _ hD (hx xs hq) hlt ha hA pv hT (.new hT) upd_same
  · have ej : j = xs.length := by omega
    subst ej
    exact Or.inl ⟨⟨xs, hq, Nat.le_refl _⟩, hd D acc G hD hA ha pv⟩
/-! ### xs[::-1], any, all, max, min, list(range) -/
def RevB (K : PySem.W.Frag) (Q : VK) (x : V) (H : Hp) : Prop := ∃ a xs, x = .ref a ∧ SqL K H a xs ∧ ∀ p, H p = none → Q (.ref p) (upd H p (.lst xs.reverse))
theorem w_revL (h : te σ H fun x H1 => RevB K Q x H1) : tRevL K te σ H Q := h
theorem w_revb {xs : List V} (h : SqL K H a xs) (q : ∀ p H1, H p = none → Fr [] H H1 → H1 p = some (.lst xs.reverse) → Q (.ref p) H1) : RevB K Q (.ref a) H := ⟨a, xs, rfl, h, fun p hp => q p _ hp (.new hp) upd_same⟩
theorem w_any {bs : List Bool} (h : SqL K H a (bs.map V.bl)) (q : Q (.bl (bs.any id)) H) : rAny K [.ref a] H Q := ⟨a, bs, rfl, h, q⟩
theorem w_all {bs : List Bool} (h : SqL K H a (bs.map V.bl)) (q : Q (.bl (bs.all id)) H) : rAll K [.ref a] H Q := ⟨a, bs, rfl, h, q⟩
theorem w_max {ns : List Int} (h : SqL K H a (ns.map V.int)) (hn : 0 < ns.length) (q : ∀ m, m ∈ ns → (∀ y, y ∈ ns → y ≤ m) → Q (.int m) H) : rMax K [.ref a] H Q := ⟨a, ns, rfl, h, hn, q⟩
def rMax2 : List V → Hp → VK → Prop := fun xs H Q => ∃ i j : Int, xs = [.int i, .int j] ∧ Q (.int (if j > i then j else i)) H
theorem call_maxW {X : Cx} (hc : X.calm = true) : CallR X (.builtin "max") rMax2 := call_max2 hc
def rMin2 : List V → Hp → VK → Prop := fun xs H Q => ∃ i j : Int, xs = [.int i, .int j] ∧ Q (.int (if j < i then j else i)) H
theorem call_minW {X : Cx} (hc : X.calm = true) : CallR X (.builtin "min") rMin2 := call_min2 hc
theorem w_max2 {i j : Int} (q : Q (.int (if j > i then j else i)) H) : rMax2 [.int i, .int j] H Q := ⟨i, j, rfl, q⟩
theorem w_min2 {i j : Int} (q : Q (.int (if j < i then j else i)) H) : rMin2 [.int i, .int j] H Q := ⟨i, j, rfl, q⟩
theorem w_minT {i j : Int} (h : SqT K H a [.int i, .int j]) (q : Q (.int (if j < i then j else i)) H) : rMinT K [.ref a] H Q := ⟨a, i, j, rfl, h, q⟩
/-- what follows a value shown once -/
theorem w_join (v : V) (F : Hp → Prop) (tail : ∀ H', F H' → Q v H') (h : (∀ H', F H' → Q v H') → te σ H Q) : te σ H Q := h tail
theorem w_joinE (F : V → Hp → Prop) (tail : ∀ v' H', F v' H' → Q v' H') (h : (∀ v' H', F v' H' → Q v' H') → te σ H Q) : te σ H Q := h tail
def RgL2 (Q : VK) (x y : V) (H : Hp) : Prop := ∃ i j, x = .int i ∧ y = .int j ∧ RgOk i j ∧ ∀ q, H q = none → Q (.ref q) (upd H q (.lst (rgV i j)))
theorem w_lrg2 (h : ta σ H fun x H1 => tb σ H1 fun y H2 => RgL2 Q x y H2) : tLstRg (tRg2 ta tb) σ H Q := h
theorem w_lrgb {i j : Int} (h0 : 0 ≤ i) (h1 : i ≤ j) (h2 : j ≤ 100000) (q : ∀ p H1, H p = none → Fr [] H H1 → H1 p = some (.lst (rgV i j)) → Q (.ref p) H1) : RgL2 Q (.int i) (.int j) H :=
  ⟨i, j, rfl, rfl, RgOk.of_le h0 (by omega) (by omega) (by omega), fun p hp => q p _ hp (.new hp) upd_same⟩
end
end Wk
/-! C2: the ways of least -/
namespace My
open PySem L2 Wk
def Sm.isEff : Sm → Bool
  | .say _ => true
  | .ask => true
  | _ => false
def Sm.eff : Sm → Bool
  | .say _ => true
  | .ask => true
  | .bin _ a b => a.eff || b.eff
  | _ => false
theorem Sm.eff_eq (s : Sm) : s.eff = (s.isEff || (s.subs.map Sm.eff).any id) := by cases s <;> simp [Sm.eff, Sm.isEff, Sm.subs]
def boxesFrom : Nat → List Nat → Nat
  | _, [] => 1
  | k, m :: r => max (m + k) (boxesFrom (k + 1) r)
def boxesIn (ms : List Nat) : Nat := boxesFrom 0 ms
def Sm.many : Sm → Nat
  | .say s => boxesIn [s.many]
  | .bin _ a b => if decide (boxesIn [b.many, a.many] < boxesIn [a.many, b.many]) && !(a.eff && b.eff) then boxesIn [b.many, a.many] else boxesIn [a.many, b.many]
  | _ => 1
def Sm.turn : Sm → Bool
  | .bin _ a b => decide (boxesIn [b.many, a.many] < boxesIn [a.many, b.many]) && !(a.eff && b.eff)
  | _ => false
theorem Sm.turn_eq (s : Sm) : s.turn = (decide (boxesIn (s.subs.map Sm.many).reverse < boxesIn (s.subs.map Sm.many)) && !((s.subs.map Sm.eff).all id)) := by
  cases s <;> simp [Sm.turn, Sm.subs]
theorem Sm.many_eq (s : Sm) : s.many = if s.turn then boxesIn (s.subs.map Sm.many).reverse else boxesIn (s.subs.map Sm.many) := by
  cases s <;> simp [Sm.many, Sm.turn, Sm.subs, boxesIn, boxesFrom]
theorem one_le_boxes : ∀ (ms : List Nat) (k : Nat), 1 ≤ boxesFrom k ms
  | [], _ => Nat.le_refl 1
  | _ :: r, k => Nat.le_trans (one_le_boxes r (k + 1)) (Nat.le_max_right _ _)
theorem Sm.many_pos (s : Sm) : 1 ≤ s.many := by
  rw [Sm.many_eq]
  split <;> exact one_le_boxes _ _
theorem ite_le {c : Prop} [Decidable c] {x y z : Nat} (h1 : x ≤ z) (h2 : y ≤ z) : (if c then x else y) ≤ z := by split <;> assumption
theorem Sm.many_le : ∀ s : Sm, s.many ≤ s.size
  | .num _ => Nat.le_refl 1
  | .name _ => Nat.le_refl 1
  | .ask => Nat.le_refl 1
  | .say s => by
    have := Sm.many_le s
    have := s.size_pos
    simp only [Sm.many, boxesIn, boxesFrom, Sm.size]
    omega
  | .bin _ a b => by
    have := Sm.many_le a
    have := Sm.many_le b
    have := a.size_pos
    have := b.size_pos
    simp only [Sm.many, boxesIn, boxesFrom, Sm.size]
    exact ite_le (by omega) (by omega)
/-- [1] and each many with how many are held -/
def heldL : Nat → List Nat → List Nat
  | _, [] => []
  | k, m :: r => (m + k) :: heldL (k + 1) r
theorem heldL_snoc (m : Nat) : ∀ (l : List Nat) (k : Nat), heldL k (l ++ [m]) = heldL k l ++ [m + (k + l.length)]
  | [], k => rfl
  | x :: r, k => by
    show (x + k) :: heldL (k + 1) (r ++ [m]) = (x + k) :: heldL (k + 1) r ++ [m + (k + (r.length + 1))]
    rw [heldL_snoc m r]
    have : k + 1 + r.length = k + (r.length + 1) := by omega
    rw [this]; rfl
theorem heldL_length : ∀ (l : List Nat) (k : Nat), (heldL k l).length = l.length
  | [], _ => rfl
  | _ :: r, k => congrArg (· + 1) (heldL_length r _)
theorem boxes_max : ∀ (ms : List Nat) (k : Nat), boxesFrom k ms ∈ 1 :: heldL k ms ∧ ∀ y ∈ 1 :: heldL k ms, y ≤ boxesFrom k ms
  | [], k => ⟨List.mem_cons_self, fun y hy => by simp [heldL] at hy; subst hy; exact Nat.le_refl 1⟩
  | m :: r, k => by
    obtain ⟨h1, h2⟩ := boxes_max r (k + 1)
    refine ⟨?_, fun y hy => ?_⟩
    · show max (m + k) (boxesFrom (k + 1) r) ∈ _
      rcases Nat.le_total (m + k) (boxesFrom (k + 1) r) with h | h
      · rw [Nat.max_eq_right h]
        rcases List.mem_cons.mp h1 with e | e
        · rw [e]; exact List.mem_cons_self
        · exact List.mem_cons_of_mem _ (List.mem_cons_of_mem _ e)
      · rw [Nat.max_eq_left h]
        exact List.mem_cons_of_mem _ List.mem_cons_self
    · show y ≤ max (m + k) (boxesFrom (k + 1) r)
      rcases List.mem_cons.mp hy with e | e
      · rw [e]; exact Nat.le_trans (one_le_boxes r (k + 1)) (Nat.le_max_right _ _)
      · rcases List.mem_cons.mp e with e | e
        · rw [e]; exact Nat.le_max_left _ _
        · exact Nat.le_trans (h2 y (List.mem_cons_of_mem _ e)) (Nat.le_max_right _ _)
theorem boxes_is {ms : List Nat} {k : Nat} {m : Int} (h1 : m ∈ (1 :: heldL k ms).map (fun n : Nat => (n : Int))) (h2 : ∀ y, y ∈ (1 :: heldL k ms).map (fun n : Nat => (n : Int)) → y ≤ m) : m = (boxesFrom k ms : Nat) := by
  obtain ⟨g1, g2⟩ := boxes_max ms k
  obtain ⟨n, hn, rfl⟩ := List.mem_map.mp h1
  have a := g2 n hn
  have b := h2 _ (List.mem_map.mpr ⟨_, g1, rfl⟩)
  omega
/-! ### the steps of least -/
def Sm.least : Sm → Nat → List Stp
  | .num n, k => [⟨k, .num n⟩]
  | .name c, k => [⟨k, .name c⟩]
  | .ask, k => [⟨k, .ask⟩]
  | .say s, k => s.least k ++ [⟨k, .say k⟩]
  | .bin o a b, k => if (Sm.bin o a b).turn then b.least k ++ a.least (k + 1) ++ [⟨k, .bin o (k + 1) k⟩] else a.least k ++ b.least (k + 1) ++ [⟨k, .bin o k (k + 1)⟩]
theorem Sm.least_length : ∀ (s : Sm) (k : Nat), (s.least k).length = s.size
  | .num _, _ => rfl
  | .name _, _ => rfl
  | .ask, _ => rfl
  | .say s, k => by
    show (s.least k ++ [_]).length = s.size + 1
    rw [List.length_append, Sm.least_length s]; rfl
  | .bin o a b, k => by
    show (if (Sm.bin o a b).turn then b.least k ++ a.least (k + 1) ++ [_] else a.least k ++ b.least (k + 1) ++ [_]).length = a.size + b.size + 1
    split
    · rw [List.length_append, List.length_append, Sm.least_length a, Sm.least_length b]
      show b.size + a.size + 1 = _
      omega
    · rw [List.length_append, List.length_append, Sm.least_length a, Sm.least_length b]; rfl
def leasts : List Sm → Nat → List Stp
  | [], _ => []
  | s :: r, k => s.least k ++ leasts r (k + 1)
theorem leasts_length : ∀ (l : List Sm) (k : Nat), (leasts l k).length = sizeL l
  | [], _ => rfl
  | s :: r, k => by
    show (s.least k ++ leasts r (k + 1)).length = s.size + sizeL r
    rw [List.length_append, Sm.least_length, leasts_length r]
theorem leasts_snoc (t : Sm) : ∀ (l : List Sm) (k : Nat), leasts (l ++ [t]) k = leasts l k ++ t.least (k + l.length)
  | [], k => by simp [leasts]
  | s :: r, k => by
    show s.least k ++ leasts (r ++ [t]) (k + 1) = (s.least k ++ leasts r (k + 1)) ++ t.least (k + (r.length + 1))
    rw [leasts_snoc t r, List.append_assoc, Nat.add_assoc, Nat.add_comm 1]
/-- the parts in the order of their steps -/
def Sm.order (s : Sm) : List Sm := if s.turn then s.subs.reverse else s.subs
def Sm.spots (s : Sm) (k : Nat) : List Nat := if s.turn then (upFrom k s.subs.length).reverse else upFrom k s.subs.length
theorem Sm.order_length (s : Sm) : s.order.length = s.subs.length := by unfold Sm.order; split <;> simp
theorem Sm.spots_length (s : Sm) (k : Nat) : (s.spots k).length = s.subs.length := by unfold Sm.spots; split <;> simp [upFrom]
theorem Sm.order_mem {s t : Sm} (h : t ∈ s.order) : t ∈ s.subs := by
  unfold Sm.order at h
  split at h
  · exact List.mem_reverse.mp h
  · exact h
theorem Sm.order_size (s : Sm) : sizeL s.order = sizeL s.subs := by
  unfold Sm.order
  split
  · cases s <;> simp [Sm.subs, sizeL]; omega
  · rfl
theorem sizeL_take_le : ∀ (l : List Sm) (i : Nat), sizeL (l.take i) ≤ sizeL l
  | [], _ => by simp [sizeL]
  | s :: r, 0 => Nat.zero_le _
  | s :: r, i + 1 => by
    have := sizeL_take_le r i
    show s.size + sizeL (r.take i) ≤ s.size + sizeL r
    omega
theorem Sm.least_eq (s : Sm) (k : Nat) : s.least k = leasts s.order k ++ [⟨k, s.rst (s.spots k)⟩] := by
  cases s with
  | num n => simp [Sm.least, Sm.order, Sm.turn, Sm.subs, leasts, Sm.rst]
  | name n => simp [Sm.least, Sm.order, Sm.turn, Sm.subs, leasts, Sm.rst]
  | ask => simp [Sm.least, Sm.order, Sm.turn, Sm.subs, leasts, Sm.rst]
  | say s => simp [Sm.least, Sm.order, Sm.turn, Sm.subs, leasts, Sm.rst, Sm.spots, upFrom]
  | bin o a b =>
    unfold Sm.order Sm.spots
    simp only [Sm.least]
    cases (Sm.bin o a b).turn <;> simp [Sm.subs, leasts, Sm.rst, upFrom, List.range_succ]
/-! ### ways -/
def wayF (pv : V) (il : Addr) (e t : Bool) (m : Nat) : List (Str × V) := [("part", pv), ("inner", .ref il), ("effect", .bl e), ("turned", .bl t), ("many", .int (m : Nat))]
def IsWay (C : Addr) (ok : Addr → Prop) (H : Hp) : V → Sm → Prop
  | v, .num n => ∃ x dx il pv, v = .ref x ∧ ok x ∧ ok il ∧ H x = some (.ins C dx (wayF pv il (Sm.num n).eff (Sm.num n).turn (Sm.num n).many)) ∧ IsSum H pv (.num n) ∧ H il = some (.lst [])
  | v, .name n => ∃ x dx il pv, v = .ref x ∧ ok x ∧ ok il ∧ H x = some (.ins C dx (wayF pv il (Sm.name n).eff (Sm.name n).turn (Sm.name n).many)) ∧ IsSum H pv (.name n) ∧ H il = some (.lst [])
  | v, .ask => ∃ x dx il pv, v = .ref x ∧ ok x ∧ ok il ∧ H x = some (.ins C dx (wayF pv il Sm.ask.eff Sm.ask.turn Sm.ask.many)) ∧ IsSum H pv .ask ∧ H il = some (.lst [])
  | v, .say s => ∃ x dx il pv w, v = .ref x ∧ ok x ∧ ok il ∧ H x = some (.ins C dx (wayF pv il (Sm.say s).eff (Sm.say s).turn (Sm.say s).many)) ∧ IsSum H pv (.say s) ∧ H il = some (.lst [w]) ∧ IsWay C ok H w s
  | v, .bin o a b => ∃ x dx il pv w1 w2, v = .ref x ∧ ok x ∧ ok il ∧ H x = some (.ins C dx (wayF pv il (Sm.bin o a b).eff (Sm.bin o a b).turn (Sm.bin o a b).many)) ∧ IsSum H pv (.bin o a b) ∧ H il = some (.lst [w1, w2]) ∧ IsWay C ok H w1 a ∧ IsWay C ok H w2 b
theorem IsWay.mono {C : Addr} {ok ok' : Addr → Prop} {W : List Addr} {H H' : Hp} (f : Fr W H H') (hw : ∀ b ∈ W, ¬ ok b) (hk : ∀ b, ok b → ok' b) : ∀ {s : Sm} {v : V}, IsWay C ok H v s → IsWay C ok' H' v s
  | .num _, _, ⟨x, dx, il, pv, e, o1, o2, h1, h2, h3⟩ => ⟨x, dx, il, pv, e, hk _ o1, hk _ o2, f.geti (fun m => hw _ m o1) h1, h2.mono f, f.getl (fun m => hw _ m o2) h3⟩
  | .name _, _, ⟨x, dx, il, pv, e, o1, o2, h1, h2, h3⟩ => ⟨x, dx, il, pv, e, hk _ o1, hk _ o2, f.geti (fun m => hw _ m o1) h1, h2.mono f, f.getl (fun m => hw _ m o2) h3⟩
  | .ask, _, ⟨x, dx, il, pv, e, o1, o2, h1, h2, h3⟩ => ⟨x, dx, il, pv, e, hk _ o1, hk _ o2, f.geti (fun m => hw _ m o1) h1, h2.mono f, f.getl (fun m => hw _ m o2) h3⟩
  | .say _, _, ⟨x, dx, il, pv, w, e, o1, o2, h1, h2, h3, h4⟩ => ⟨x, dx, il, pv, w, e, hk _ o1, hk _ o2, f.geti (fun m => hw _ m o1) h1, h2.mono f, f.getl (fun m => hw _ m o2) h3, IsWay.mono f hw hk h4⟩
  | .bin _ _ _, _, ⟨x, dx, il, pv, w1, w2, e, o1, o2, h1, h2, h3, h4, h5⟩ => ⟨x, dx, il, pv, w1, w2, e, hk _ o1, hk _ o2, f.geti (fun m => hw _ m o1) h1, h2.mono f, f.getl (fun m => hw _ m o2) h3, IsWay.mono f hw hk h4, IsWay.mono f hw hk h5⟩
theorem some_ne {H : Hp} {b : Addr} {o : HO} (h : H b = some o) : H b ≠ none := by rw [h]; exact fun z => by cases z
theorem way_alive {C : Addr} {ok : Addr → Prop} {H : Hp} : ∀ {s : Sm} {v : V}, IsWay C ok H v s → IsWay C (fun b => H b ≠ none) H v s
  | .num _, _, ⟨x, dx, il, pv, e, o1, o2, h1, h2, h3⟩ => ⟨x, dx, il, pv, e, (some_ne h1), (some_ne h3), h1, h2, h3⟩
  | .name _, _, ⟨x, dx, il, pv, e, o1, o2, h1, h2, h3⟩ => ⟨x, dx, il, pv, e, (some_ne h1), (some_ne h3), h1, h2, h3⟩
  | .ask, _, ⟨x, dx, il, pv, e, o1, o2, h1, h2, h3⟩ => ⟨x, dx, il, pv, e, (some_ne h1), (some_ne h3), h1, h2, h3⟩
  | .say _, _, ⟨x, dx, il, pv, w, e, o1, o2, h1, h2, h3, h4⟩ => ⟨x, dx, il, pv, w, e, (some_ne h1), (some_ne h3), h1, h2, h3, way_alive h4⟩
  | .bin _ _ _, _, ⟨x, dx, il, pv, w1, w2, e, o1, o2, h1, h2, h3, h4, h5⟩ => ⟨x, dx, il, pv, w1, w2, e, (some_ne h1), (some_ne h3), h1, h2, h3, way_alive h4, way_alive h5⟩
def AllWay (C : Addr) (ok : Addr → Prop) (H : Hp) : List V → List Sm → Prop
  | [], [] => True
  | v :: vs, s :: ss => IsWay C ok H v s ∧ AllWay C ok H vs ss
  | _, _ => False
theorem AllWay.mono {C : Addr} {ok ok' : Addr → Prop} {W : List Addr} {H H' : Hp} (f : Fr W H H') (hw : ∀ b ∈ W, ¬ ok b) (hk : ∀ b, ok b → ok' b) : ∀ {vs : List V} {ss : List Sm}, AllWay C ok H vs ss → AllWay C ok' H' vs ss
  | [], [], _ => trivial
  | _ :: _, _ :: _, h => ⟨h.1.mono f hw hk, AllWay.mono f hw hk h.2⟩
theorem AllWay.mono0 {C : Addr} {ok : Addr → Prop} {H H' : Hp} (f : Fr [] H H') {vs : List V} {ss : List Sm} (h : AllWay C ok H vs ss) : AllWay C ok H' vs ss := h.mono f (by simp) fun _ z => z
theorem IsWay.mono0 {C : Addr} {ok : Addr → Prop} {H H' : Hp} (f : Fr [] H H') {v : V} {s : Sm} (h : IsWay C ok H v s) : IsWay C ok H' v s := h.mono f (by simp) fun _ z => z
theorem AllWay.length {C : Addr} {ok : Addr → Prop} {H : Hp} : ∀ {vs : List V} {ss : List Sm}, AllWay C ok H vs ss → vs.length = ss.length
  | [], [], _ => rfl
  | _ :: _, _ :: _, h => congrArg (· + 1) (AllWay.length h.2)
theorem AllWay.app {C : Addr} {ok : Addr → Prop} {H : Hp} : ∀ {vs ws : List V} {ss ts : List Sm}, AllWay C ok H vs ss → AllWay C ok H ws ts → AllWay C ok H (vs ++ ws) (ss ++ ts)
  | [], _, [], _, _, h => h
  | _ :: _, _, _ :: _, _, h, h' => ⟨h.1, AllWay.app h.2 h'⟩
theorem AllWay.rev {C : Addr} {ok : Addr → Prop} {H : Hp} : ∀ {vs : List V} {ss : List Sm}, AllWay C ok H vs ss → AllWay C ok H vs.reverse ss.reverse
  | [], [], _ => trivial
  | v :: vs, s :: ss, h => by
    rw [List.reverse_cons, List.reverse_cons]
    exact AllWay.app (AllWay.rev h.2) ⟨h.1, trivial⟩
theorem AllWay.at {C : Addr} {ok : Addr → Prop} {H : Hp} : ∀ {vs : List V} {ss : List Sm} {i : Nat} {v : V}, AllWay C ok H vs ss → vs[i]? = some v → ∃ s, ss[i]? = some s ∧ IsWay C ok H v s
  | _ :: _, s :: _, 0, _, h, e => by
    cases e
    exact ⟨s, rfl, h.1⟩
  | _ :: _, _ :: _, i + 1, _, h, e => AllWay.at (i := i) h.2 e
theorem IsWay.items {C : Addr} {ok : Addr → Prop} {H : Hp} {v : V} {s : Sm} (h : IsWay C ok H v s) : ∃ x dx il pv ws, v = .ref x ∧ ok x ∧ ok il ∧ H x = some (.ins C dx (wayF pv il s.eff s.turn s.many)) ∧ IsSum H pv s ∧ H il = some (.lst ws) ∧ AllWay C ok H ws s.subs := by
  cases s with
  | num n => obtain ⟨x, dx, il, pv, e, o1, o2, h1, h2, h3⟩ := h; exact ⟨x, dx, il, pv, [], e, o1, o2, h1, h2, h3, trivial⟩
  | name n => obtain ⟨x, dx, il, pv, e, o1, o2, h1, h2, h3⟩ := h; exact ⟨x, dx, il, pv, [], e, o1, o2, h1, h2, h3, trivial⟩
  | ask => obtain ⟨x, dx, il, pv, e, o1, o2, h1, h2, h3⟩ := h; exact ⟨x, dx, il, pv, [], e, o1, o2, h1, h2, h3, trivial⟩
  | say s => obtain ⟨x, dx, il, pv, w, e, o1, o2, h1, h2, h3, h4⟩ := h; exact ⟨x, dx, il, pv, [w], e, o1, o2, h1, h2, h3, h4, trivial⟩
  | bin o a b => obtain ⟨x, dx, il, pv, w1, w2, e, o1, o2, h1, h2, h3, h4, h5⟩ := h; exact ⟨x, dx, il, pv, [w1, w2], e, o1, o2, h1, h2, h3, h4, h5, trivial⟩
theorem IsWay.of {C : Addr} {ok : Addr → Prop} {H : Hp} {s : Sm} {x dx il : Addr} {pv : V} {ws : List V} (o1 : ok x) (o2 : ok il) (h1 : H x = some (.ins C dx (wayF pv il s.eff s.turn s.many))) (h2 : IsSum H pv s) (h3 : H il = some (.lst ws)) (h4 : AllWay C ok H ws s.subs) : IsWay C ok H (.ref x) s := by
  cases s with
  | num n => match ws, h4 with | [], _ => exact ⟨x, dx, il, pv, rfl, o1, o2, h1, h2, h3⟩
  | name n => match ws, h4 with | [], _ => exact ⟨x, dx, il, pv, rfl, o1, o2, h1, h2, h3⟩
  | ask => match ws, h4 with | [], _ => exact ⟨x, dx, il, pv, rfl, o1, o2, h1, h2, h3⟩
  | say s => match ws, h4 with | [w], h4 => exact ⟨x, dx, il, pv, w, rfl, o1, o2, h1, h2, h3, h4.1⟩
  | bin o a b => match ws, h4 with | [w1, w2], h4 => exact ⟨x, dx, il, pv, w1, w2, rfl, o1, o2, h1, h2, h3, h4.1, h4.2.1⟩
/-! the fields -/
theorem wf_part (pv : V) (il : Addr) (e t : Bool) (m : Nat) : (wayF pv il e t m).lookup ("part" : Str) = some pv := by
  have q : (("part" : Str) == "part") = true := by decide +kernel
  simp [wayF, List.lookup]
theorem wf_inner (pv : V) (il : Addr) (e t : Bool) (m : Nat) : (wayF pv il e t m).lookup ("inner" : Str) = some (.ref il) := by
  have q : (("inner" : Str) == "part") = false := by decide +kernel
  simp [wayF, List.lookup, q]
theorem wf_effect (pv : V) (il : Addr) (e t : Bool) (m : Nat) : (wayF pv il e t m).lookup ("effect" : Str) = some (.bl e) := by
  have q : (("effect" : Str) == "part") = false := by decide +kernel
  have q2 : (("effect" : Str) == "inner") = false := by decide +kernel
  simp [wayF, List.lookup, q, q2]
theorem wf_turned (pv : V) (il : Addr) (e t : Bool) (m : Nat) : (wayF pv il e t m).lookup ("turned" : Str) = some (.bl t) := by
  have q : (("turned" : Str) == "part") = false := by decide +kernel
  have q2 : (("turned" : Str) == "inner") = false := by decide +kernel
  have q3 : (("turned" : Str) == "effect") = false := by decide +kernel
  simp [wayF, List.lookup, q, q2, q3]
theorem wf_many (pv : V) (il : Addr) (e t : Bool) (m : Nat) : (wayF pv il e t m).lookup ("many" : Str) = some (.int (m : Nat)) := by
  have q : (("many" : Str) == "part") = false := by decide +kernel
  have q2 : (("many" : Str) == "inner") = false := by decide +kernel
  have q3 : (("many" : Str) == "effect") = false := by decide +kernel
  have q4 : (("many" : Str) == "turned") = false := by decide +kernel
  simp [wayF, List.lookup, q, q2, q3, q4]
def way1 (pv : V) : List (Str × V) := [("part", pv)]
def way2 (pv : V) (il : Addr) : List (Str × V) := [("part", pv), ("inner", .ref il)]
def way3 (pv : V) (il : Addr) (e : Bool) : List (Str × V) := [("part", pv), ("inner", .ref il), ("effect", .bl e)]
def way4 (pv : V) (il : Addr) (e t : Bool) : List (Str × V) := [("part", pv), ("inner", .ref il), ("effect", .bl e), ("turned", .bl t)]
theorem way_put1 (pv : V) : putF "part" pv [] = way1 pv := rfl
theorem putF_neg {x y : Str} {v w : V} {r : List (Str × V)} (h : ¬ y = x) : putF x v ((y, w) :: r) = (y, w) :: putF x v r := by
  show (if y = x then _ else _) = _
  rw [if_neg h]
theorem way_put2 (pv : V) (il : Addr) : putF "inner" (.ref il) (way1 pv) = way2 pv il := by
  unfold way1
  rw [putF_neg (by decide +kernel)]; rfl
theorem way_put3 (pv : V) (il : Addr) (e : Bool) : putF "effect" (.bl e) (way2 pv il) = way3 pv il e := by
  unfold way2
  rw [putF_neg (by decide +kernel), putF_neg (by decide +kernel)]; rfl
theorem way_put4 (pv : V) (il : Addr) (e t : Bool) : putF "turned" (.bl t) (way3 pv il e) = way4 pv il e t := by
  unfold way3
  rw [putF_neg (by decide +kernel), putF_neg (by decide +kernel), putF_neg (by decide +kernel)]; rfl
theorem way_put5 (pv : V) (il : Addr) (e t : Bool) (m : Nat) : putF "many" (.int (m : Nat)) (way4 pv il e t) = wayF pv il e t m := by
  unfold way4
  rw [putF_neg (by decide +kernel), putF_neg (by decide +kernel), putF_neg (by decide +kernel), putF_neg (by decide +kernel)]; rfl
theorem way2_inner (pv : V) (il : Addr) : (way2 pv il).lookup ("inner" : Str) = some (.ref il) := by
  have q : (("inner" : Str) == "part") = false := by decide +kernel
  simp [way2, List.lookup, q]
theorem way3_inner (pv : V) (il : Addr) (e : Bool) : (way3 pv il e).lookup ("inner" : Str) = some (.ref il) := by
  have q : (("inner" : Str) == "part") = false := by decide +kernel
  simp [way3, List.lookup, q]
theorem way4_turned (pv : V) (il : Addr) (e t : Bool) : (way4 pv il e t).lookup ("turned" : Str) = some (.bl t) := by
  have q : (("turned" : Str) == "part") = false := by decide +kernel
  have q2 : (("turned" : Str) == "inner") = false := by decide +kernel
  have q3 : (("turned" : Str) == "effect") = false := by decide +kernel
  simp [way4, List.lookup, q, q2, q3]
theorem rg_up (b n : Nat) : rgV (b : Int) ((b : Int) + (n : Int)) = (upFrom b n).map (fun b => V.int (b : Nat)) := by
  unfold rgV upFrom
  rw [List.map_map, show (((b : Int) + (n : Int)) - (b : Int)).toNat = n by omega]
  refine List.map_congr_left fun i _ => ?_
  show V.int ((b : Int) + (i : Int)) = V.int ((b + i : Nat) : Int)
  congr 1
/-! ### what the defs promise -/
def spIsEff : Sp := fun vs H Q _ => ∃ (v : V) (s : Sm), vs = [v] ∧ IsSum H v s ∧ ∀ H' : Hp, Fr [] H H' → Q (.bl s.isEff) H'
theorem u_isEff {H : Hp} {Q : VK} {E : XK} {v : V} {s : Sm} (h : IsSum H v s) (k : ∀ H' : Hp, Fr [] H H' → Q (.bl s.isEff) H') : spIsEff [v] H Q E := ⟨v, s, rfl, h, k⟩
def spBoxesIn (C : Addr) : Sp := fun vs H Q _ => ∃ (l : Addr) (ws : List V) (ss : List Sm) (ok : Addr → Prop), vs = [.ref l] ∧ H l = some (.lst ws) ∧ AllWay C ok H ws ss ∧ ss.length ≤ 2 ∧ ∀ H' : Hp, Fr [] H H' → Q (.int (boxesIn (ss.map Sm.many) : Nat)) H'
theorem u_boxesIn {C : Addr} {H : Hp} {Q : VK} {E : XK} {l : Addr} {ws : List V} {ss : List Sm} {ok : Addr → Prop} (h1 : H l = some (.lst ws)) (h2 : AllWay C ok H ws ss) (h3 : ss.length ≤ 2) (k : ∀ H' : Hp, Fr [] H H' → Q (.int (boxesIn (ss.map Sm.many) : Nat)) H') : spBoxesIn C [.ref l] H Q E := ⟨l, ws, ss, ok, rfl, h1, h2, h3, k⟩
def spInitW (C : Addr) (n : Nat) : Sp := fun vs H Q _ => ∃ (x dx : Addr) (v : V) (s : Sm), vs = [.ref x, v] ∧ H x = some (.ins C dx []) ∧ IsSum H v s ∧ s.depth ≤ n ∧ ∀ H' : Hp, IsWay C (fun b => b = x ∨ H b = none) H' (.ref x) s → Fr [x] H H' → Q .non H'
theorem u_initW {C : Addr} {n : Nat} {H : Hp} {Q : VK} {E : XK} {x dx : Addr} {v : V} {s : Sm} (h1 : H x = some (.ins C dx [])) (h2 : IsSum H v s) (h3 : s.depth ≤ n) (k : ∀ H' : Hp, IsWay C (fun b => b = x ∨ H b = none) H' (.ref x) s → Fr [x] H H' → Q .non H') : spInitW C n [.ref x, v] H Q E := ⟨x, dx, v, s, rfl, h1, h2, h3, k⟩
def spPutSteps (C : Addr) (n : Nat) : Sp := fun vs H Q _ => ∃ (v : V) (s : Sm) (b : Nat) (l : Addr) (us : List V) (ts : List Stp) (ok : Addr → Prop), vs = [v, .int (b : Nat), .ref l] ∧ IsWay C ok H v s ∧ ¬ ok l ∧ s.depth ≤ n ∧ H l = some (.lst us) ∧ AllStp H us ts ∧ us.length + s.size ≤ 1000 ∧ b + s.size ≤ 1000 ∧
  ∀ (us' : List V) (H' : Hp), H' l = some (.lst us') → AllStp H' us' (ts ++ s.least b) → Fr [l] H H' → Q .non H'
theorem u_putsteps {C : Addr} {n : Nat} {H : Hp} {Q : VK} {E : XK} {v : V} {s : Sm} {b : Nat} {l : Addr} {us : List V} {ts : List Stp} {ok : Addr → Prop} (h1 : IsWay C ok H v s) (h2 : ¬ ok l) (h3 : s.depth ≤ n) (h4 : H l = some (.lst us)) (h5 : AllStp H us ts) (h6 : us.length + s.size ≤ 1000) (h7 : b + s.size ≤ 1000)
    (k : ∀ (us' : List V) (H' : Hp), H' l = some (.lst us') → AllStp H' us' (ts ++ s.least b) → Fr [l] H H' → Q .non H') : spPutSteps C n [v, .int (b : Nat), .ref l] H Q E := ⟨v, s, b, l, us, ts, ok, rfl, h1, h2, h3, h4, h5, h6, h7, k⟩
/-- a new tuple of the boxes and the new list of the steps -/
def spLeast : Sp := fun vs H Q _ => ∃ (v : V) (s : Sm), vs = [v] ∧ IsSum H v s ∧ s.ok ∧ s.depth ≤ 15 ∧ s.size ≤ 60 ∧ ∀ (t l : Addr) (us : List V) (H' : Hp), H t = none → H l = none → H' t = some (.tup [.int (s.many : Nat), .ref l]) → H' l = some (.lst us) → AllStp H' us (s.least 0) → Fr [] H H' → Q (.ref t) H'
theorem u_least {H : Hp} {Q : VK} {E : XK} {v : V} {s : Sm} (h1 : IsSum H v s) (h2 : s.ok) (h3 : s.depth ≤ 15) (h4 : s.size ≤ 60) (k : ∀ (t l : Addr) (us : List V) (H' : Hp), H t = none → H l = none → H' t = some (.tup [.int (s.many : Nat), .ref l]) → H' l = some (.lst us) → AllStp H' us (s.least 0) → Fr [] H H' → Q (.ref t) H') : spLeast [v] H Q E := ⟨v, s, rfl, h1, h2, h3, h4, k⟩
/-! ### the law's own reckoning of the boxes -/
def spLMany (n : Nat) : Sp := fun vs H Q _ => ∃ (v : V) (s : Sm), vs = [v] ∧ IsSum H v s ∧ s.ok ∧ s.depth ≤ n ∧ s.depth ≤ 16 ∧ s.size ≤ 60 ∧ ∀ H' : Hp, Fr [] H H' → Q (.int (s.many : Nat)) H'
theorem u_lmany {n : Nat} {H : Hp} {Q : VK} {E : XK} {v : V} {s : Sm} (h : IsSum H v s) (h0 : s.ok) (h1 : s.depth ≤ n) (h1' : s.depth ≤ 16) (h2 : s.size ≤ 60) (k : ∀ H' : Hp, Fr [] H H' → Q (.int (s.many : Nat)) H') : spLMany n [v] H Q E := ⟨v, s, rfl, h, h0, h1, h1', h2, k⟩
def Sm.first : Sm → Int
  | .bin _ a b => if 1 + (b.many : Int) > (a.many : Int) then 1 + (b.many : Int) else (a.many : Int)
  | _ => 0
def Sm.second : Sm → Int
  | .bin _ a b => if (a.eff && b.eff) = true then 100 else (if 1 + (a.many : Int) > (b.many : Int) then 1 + (a.many : Int) else (b.many : Int))
  | _ => 0
def spLWays (n : Nat) : Sp := fun vs H Q _ => ∃ (v : V) (o : Op) (a b : Sm), vs = [v] ∧ IsSum H v (.bin o a b) ∧ (Sm.bin o a b).ok ∧ (Sm.bin o a b).depth ≤ n + 1 ∧ (Sm.bin o a b).depth ≤ 16 ∧ (Sm.bin o a b).size ≤ 60 ∧ ∀ (t : Addr) (H' : Hp), H t = none → H' t = some (.tup [.int (Sm.bin o a b).first, .int (Sm.bin o a b).second]) → Fr [] H H' → Q (.ref t) H'
theorem u_lways {n : Nat} {H : Hp} {Q : VK} {E : XK} {v : V} {o : Op} {a b : Sm} (h : IsSum H v (.bin o a b)) (h0 : (Sm.bin o a b).ok) (h1 : (Sm.bin o a b).depth ≤ n + 1) (h1' : (Sm.bin o a b).depth ≤ 16) (h2 : (Sm.bin o a b).size ≤ 60) (k : ∀ (t : Addr) (H' : Hp), H t = none → H' t = some (.tup [.int (Sm.bin o a b).first, .int (Sm.bin o a b).second]) → Fr [] H H' → Q (.ref t) H') : spLWays n [v] H Q E := ⟨v, o, a, b, rfl, h, h0, h1, h1', h2, k⟩
theorem dec_congr {p q : Prop} [Decidable p] [Decidable q] (h : p ↔ q) : decide p = decide q := by simp [h]
theorem bin_turn (o : Op) (a b : Sm) (hz : (Sm.bin o a b).size ≤ 60) : (Sm.bin o a b).turn = decide ((Sm.bin o a b).second < (Sm.bin o a b).first) := by
  have h1 := a.many_pos
  have h2 := b.many_pos
  have h3 := a.many_le
  have h4 := b.many_le
  have h5 : a.size + b.size + 1 ≤ 60 := hz
  simp only [Sm.turn, Sm.first, Sm.second, boxesIn, boxesFrom]
  rcases Bool.eq_false_or_eq_true (a.eff && b.eff) with he | he
  · simp only [he, if_true, Bool.not_true, Bool.and_false]
    symm
    rw [decide_eq_false_iff_not]
    split <;> omega
  · simp only [he, Bool.not_false, Bool.and_true]
    rw [if_neg Bool.false_ne_true]
    refine dec_congr ?_
    constructor <;> intro h <;> split at * <;> split at * <;> omega
theorem bin_many (o : Op) (a b : Sm) (hz : (Sm.bin o a b).size ≤ 60) : ((Sm.bin o a b).many : Int) = if (Sm.bin o a b).second < (Sm.bin o a b).first then (Sm.bin o a b).second else (Sm.bin o a b).first := by
  have ht := bin_turn o a b hz
  have h1 := a.many_pos
  have h2 := b.many_pos
  rw [Sm.many_eq, ht]
  by_cases c : (Sm.bin o a b).second < (Sm.bin o a b).first
  · rw [decide_eq_true c, if_pos rfl, if_pos c]
    have e : (Sm.bin o a b).turn = true := by rw [ht]; exact decide_eq_true c
    have ne : (a.eff && b.eff) = false := by
      rcases Bool.eq_false_or_eq_true (a.eff && b.eff) with q | q
      · have e' : (decide (boxesIn [b.many, a.many] < boxesIn [a.many, b.many]) && !(a.eff && b.eff)) = true := e
        rw [q, Bool.not_true, Bool.and_false] at e'
        cases e'
      · exact q
    simp only [Sm.subs, List.map_cons, List.map_nil, List.reverse_cons, List.reverse_nil, List.nil_append, List.singleton_append, boxesIn, boxesFrom, Sm.second, ne]
    rw [if_neg Bool.false_ne_true]
    split <;> omega
  · rw [decide_eq_false c, if_neg Bool.false_ne_true, if_neg c]
    simp only [Sm.subs, List.map_cons, List.map_nil, boxesIn, boxesFrom, Sm.first]
    split <;> omega
def spLBest (n : Nat) : Sp := fun vs H Q _ => ∃ (v : V) (s : Sm) (b : Nat), vs = [v, .int (b : Nat)] ∧ IsSum H v s ∧ s.ok ∧ s.depth ≤ n ∧ s.depth ≤ 16 ∧ s.size ≤ 60 ∧ ∀ (l : Addr) (us : List V) (H' : Hp), H l = none → H' l = some (.lst us) → AllStp H' us (s.least b) → Fr [] H H' → Q (.ref l) H'
theorem u_lbest {n : Nat} {H : Hp} {Q : VK} {E : XK} {v : V} {s : Sm} {b : Nat} (h : IsSum H v s) (h0 : s.ok) (h1 : s.depth ≤ n) (h1' : s.depth ≤ 16) (h2 : s.size ≤ 60) (k : ∀ (l : Addr) (us : List V) (H' : Hp), H l = none → H' l = some (.lst us) → AllStp H' us (s.least b) → Fr [] H H' → Q (.ref l) H') : spLBest n [v, .int (b : Nat)] H Q E := ⟨v, s, b, rfl, h, h0, h1, h1', h2, k⟩
theorem all_eff : ∀ s : Sm, s.all.any Sm.isEff = s.eff
  | .num _ => rfl
  | .name _ => rfl
  | .ask => rfl
  | .say s => rfl
  | .bin o a b => by
    show (false || (a.all ++ b.all).any Sm.isEff) = (a.eff || b.eff)
    rw [List.any_append, all_eff a, all_eff b, Bool.false_or]
theorem filter_isEmpty (s : Sm) : (s.all.filter Sm.isEff).isEmpty = !s.eff := by
  rw [← all_eff s]
  induction s.all with
  | nil => rfl
  | cons t r ih =>
    rw [List.filter_cons, List.any_cons]
    cases t.isEff
    · exact ih
    · rfl
theorem AllSum.mem {H : Hp} : ∀ {vs : List V} {ss : List Sm} {v : V}, AllSum H vs ss → v ∈ vs → ∃ s, s ∈ ss ∧ IsSum H v s
  | _ :: _, s :: _, v, h, m => by
    rcases List.mem_cons.mp m with e | m
    · exact ⟨s, List.mem_cons_self, e ▸ h.1⟩
    · obtain ⟨t, ht, q⟩ := AllSum.mem h.2 m
      exact ⟨t, List.mem_cons_of_mem _ ht, q⟩
theorem isEff_word (s : Sm) : inV (.str s.word) [V.str "say", V.str "ask"] = s.isEff := by
  cases s with
  | num n => show inV (.str "num") _ = false; decide +kernel
  | name n => show inV (.str "name") _ = false; decide +kernel
  | ask => show inV (.str "ask") _ = true; decide +kernel
  | say s => show inV (.str "say") _ = true; decide +kernel
  | bin o a b =>
    cases o with
    | add => show inV (.str "add") _ = false; decide +kernel
    | less => show inV (.str "less") _ = false; decide +kernel
    | times => show inV (.str "times") _ = false; decide +kernel
/-- the scope of a comprehension that is a name's value -/
def lcScope : Stmt → Scope
  | .Assign _ (.ListComp _ _ sc _) _ => sc
  | s => defScope s
theorem all_depth : ∀ (s : Sm), ∀ t ∈ s.all, t.depth ≤ s.depth
  | .num _, t, h => by rw [List.mem_singleton.mp h]; exact Nat.le_refl _
  | .name _, t, h => by rw [List.mem_singleton.mp h]; exact Nat.le_refl _
  | .ask, t, h => by rw [List.mem_singleton.mp h]; exact Nat.le_refl _
  | .say s, t, h => by
    rcases List.mem_cons.mp h with e | m
    · rw [e]; exact Nat.le_refl _
    · exact Nat.le_succ_of_le (all_depth s t m)
  | .bin o a b, t, h => by
    have e0 : (Sm.bin o a b).depth = max a.depth b.depth + 1 := rfl
    rcases List.mem_cons.mp h with e | m
    · rw [e]; exact Nat.le_refl _
    · rcases List.mem_append.mp m with m | m
      · have := all_depth a t m; omega
      · have := all_depth b t m; omega
end My
/-! sets of ints and texts from a list, with their tables; sorted of one of texts -/
namespace Sx
open PySem PySem.Spec PyProof.Rows L2
def vk : Value → Key
  | .int k _ => .inl k
  | .str x _ => .inr x
  | _ => .inl 0
def ek (e : Int × Value) : Key := vk e.2
def EntK (P : Program) (w : World) (e : Int × Value) : Prop := (mixKind P w).is (ek e) e.2 = true ∧ e.1 = (mixKind P w).hash (ek e)
theorem vk_of {P : Program} {w : World} {k : Key} {v : Value} (h : (mixKind P w).is k v = true) : vk v = k := by
  rcases keyIs_shape h with ⟨i, t, rfl, rfl⟩ | ⟨x, t, rfl, rfl⟩ <;> rfl
theorem scan_of {P : Program} {w : World} {k : Key} {v : Value} (h : (mixKind P w).is k v = true) : v.scannable = true := by
  rcases keyIs_shape h with ⟨i, t, rfl, rfl⟩ | ⟨x, t, rfl, rfl⟩ <;> rfl
/-- the set at a: its members, their number, its table fit to be walked -/
def SetY (P : Program) (w : World) (h : Heap) (a : Addr) (S : Key → Bool) (n : Nat) : Prop :=
  ∃ o es ep t, h.get? a = some o ∧ o.ExactSet ∧ o.data = .set es ep t ∧ (∀ e ∈ es.toList, EntK P w e) ∧ (es.toList.map ek).Nodup ∧ (∀ k, S k = true ↔ k ∈ es.toList.map ek) ∧
    (es.size < scanBound ∧ t.fits es.size = true ∧ es.size = n) ∧ Ris t.place.toList ∧ (w.params.followText "set-order" = true ∨ t.led = true)
section
variable {P : Program} {w : World} {h h' : Heap} {a : Addr} {S : Key → Bool} {n : Nat}
theorem SetY.at (R : SetY P w h a S n) (k : ∀ o, h.get? a = some o → h'.get? a = some o) : SetY P w h' a S n :=
  let ⟨o, es, ep, t, ho, r⟩ := R
  ⟨o, es, ep, t, k o ho, r⟩
theorem SetY.congr {S' : Key → Bool} (R : SetY P w h a S n) (e : ∀ k, S' k = S k) : SetY P w h a S' n := (funext e : S' = S) ▸ R
theorem ent_elems {l : List (Int × Value)} (g : ∀ e ∈ l, EntK P w e) : ElemsOf (mixKind P w) l := fun e he => ⟨⟨ek e, g e he⟩, scan_of (g e he).1⟩
theorem ent_is {e : Int × Value} (g : EntK P w e) (k : Key) : (mixKind P w).is k e.2 = true ↔ ek e = k := ⟨fun z => vk_of z, fun z => z ▸ g.1⟩
theorem ent_mem {l : List (Int × Value)} (g : ∀ e ∈ l, EntK P w e) (k : Key) : k ∈ l.map ek ↔ ∃ e ∈ l, (mixKind P w).is k e.2 = true := by
  rw [List.mem_map]
  exact ⟨fun ⟨e, he, q⟩ => ⟨e, he, (ent_is (g e he) k).2 q⟩, fun ⟨e, he, q⟩ => ⟨e, he, (ent_is (g e he) k).1 q⟩⟩
end
section
variable {P : Program} {w : World} {A : Around} {E : Value → Shared → Prop} {s : Shared} {a : Addr} {S : Key → Bool} {n : Nat}
theorem tailY {g : Bool → Sem Unit} (hg : ∀ (b : Bool) (s₁ : Shared) (Q' : Unit → Shared → Prop), Q' () s₁ → wpAny (model P w) A (g b) Q' E s₁)
    {o : Obj} {es : Array (Int × Value)} {ep : Nat} {t : SetTable} (ho : s.heap.get? a = some o) (hex : o.ExactSet) (hd : o.data = .set es ep t)
    {es1 : Array (Int × Value)} {t2 : SetTable} {S' : Key → Bool} (g1 : ∀ e ∈ es1.toList, EntK P w e) (nd1 : (es1.toList.map ek).Nodup) (m1 : ∀ k, S' k = true ↔ k ∈ es1.toList.map ek)
    (hb1 : es1.size < scanBound) (hf2 : t2.fits es1.size = true) (hr : Ris t2.place.toList) (hl : w.params.followText "set-order" = true ∨ t2.led = true) {wasDummy : Bool} {R : Option Bool → Shared → Prop}
    (hR : ∀ h', Heap.SameBut a s.heap h' → SetY P w h' a S' es1.size → R (some true) { s with heap := h' }) :
    wpAny (model P w) A (do
        storeSet a es1 t2
        if (!wasDummy && t2.tooFull) = true then do
            g (relayAll t2 es1 (SetTable.grown es1.size)).2.2
            storeSet a (relayAll t2 es1 (SetTable.grown es1.size)).1 (relayAll t2 es1 (SetTable.grown es1.size)).2.1
            pure (some true)
          else pure (some true)) R E s := by
  refine wpAny_bind (wpAny_storeSet_of ho hd ?_ (fits_of_scanBound hb1))
  have oA := store_at (es' := es1) (t' := t2) ho hd
  have sA := Heap.SameBut.update s.heap a (Obj.putSet es1 t2)
  split
  · have p1 := relayAll_perm t2 es1 (SetTable.grown es1.size)
    have p2 := relayAll_fits t2 es1 (SetTable.grown es1.size)
    have p3 := relayAll_ris t2 es1 (SetTable.grown es1.size)
    have p4 := relayAll_led t2 es1 (SetTable.grown es1.size)
    generalize relayAll t2 es1 (SetTable.grown es1.size) = Z at p1 p2 p3 p4 ⊢
    obtain ⟨es2, t3, gave⟩ := Z
    dsimp only at p1 p2 p3 p4 ⊢
    have z : es2.size = es1.size := by rw [← Array.length_toList, p1.length_eq, Array.length_toList]
    have zb : es2.size < scanBound := z ▸ hb1
    refine wpAny_bind (hg _ _ _ ?_)
    refine wpAny_bind (wpAny_storeSet_of oA rfl ?_ (fits_of_scanBound zb))
    have oB := store_at (es' := es2) (t' := t3) oA rfl
    refine wpAny_pure (hR _ (sA.trans (Heap.SameBut.update _ a _)) ?_)
    exact ⟨_, es2, _, t3, oB, hex, rfl, fun e he => g1 e (p1.mem_iff.mp he), (p1.map ek).nodup_iff.mpr nd1, fun k => (m1 k).trans (p1.map ek).mem_iff.symm, ⟨zb, p2, z⟩, p3, hl.imp id fun q => p4.trans q⟩
  · exact wpAny_pure (hR _ sA ⟨_, es1, _, t2, oA, hex, rfl, g1, nd1, m1, ⟨hb1, hf2, rfl⟩, hr, hl⟩)
theorem addY {k : Key} {v : Value} {Q : Bool → Shared → Prop} (hk : (mixKind P w).is k v = true) (R : SetY P w s.heap a S n) (room : n + 1 < scanBound)
    (hQ : ∀ h', Heap.SameBut a s.heap h' → SetY P w h' a (fun j => S j || decide (j = k)) (if S k = true then n else n + 1) → Q (!S k) { s with heap := h' }) :
    wpAny (model P w) A (setAddHashed a v ((mixKind P w).hash k)) Q E s := by
  obtain ⟨o, es, ep, t, ho, hex, hd, g, nd, hm, ⟨hb, hf, hn⟩, hr, hl⟩ := R
  have sc : v.scannable = true := scan_of hk
  have el := ent_elems g
  unfold setAddHashed setAddHashedIn
  refine wpAny_holding (wpAny_bind (wpAny_setState_of ho hd hf ?_))
  dsimp only
  rw [byScan_of sc hb el]
  simp only [↓reduceIte]
  unfold setAddByScan
  refine wpAny_bind ?_
  refine wpAny_bind (wpAny_rule ?_)
  refine wpAny_bind (wpAny_setScan_of hk ho hd hf el ?_)
  cases hfi : List.findIdx? (fun e => (mixKind P w).is k e.2) es.toList with
  | some j =>
    dsimp only
    obtain ⟨hj, pj, _⟩ := List.findIdx?_eq_some_iff_getElem.mp hfi
    have inS : S k = true := (hm k).2 ((ent_mem g k).2 ⟨es.toList[j], List.getElem_mem hj, pj⟩)
    refine wpAny_pure (wpAny_pure ?_)
    have q := hQ s.heap (Heap.SameBut.refl a s.heap) ⟨o, es, ep, t, ho, hex, hd, g, nd, fun i => by
      rw [Bool.or_eq_true, decide_eq_true_eq, ← hm i]
      exact ⟨fun z => z.elim id (fun e => e ▸ inS), .inl⟩, ⟨hb, hf, by rw [if_pos inS]; exact hn⟩, hr, hl⟩
    rw [inS] at q
    exact q
  | none =>
    dsimp only
    have out : k ∉ es.toList.map ek := fun z => by
      obtain ⟨e, he, q⟩ := (ent_mem g k).1 z
      have c := List.findIdx?_eq_none_iff.mp hfi e he
      rw [q] at c
      cases c
    have noS : S k = false := Bool.eq_false_iff.mpr fun z => out ((hm k).1 z)
    have p1 := layNew_perm t es ((mixKind P w).hash k) v
    have p2 := layNew_fits t es ((mixKind P w).hash k) v
    have p3 := layNew_ris t es ((mixKind P w).hash k) v hr
    have p4 := layNew_led t es ((mixKind P w).hash k) v
    generalize layNew t es ((mixKind P w).hash k) v = Z at p1 p2 p3 p4 ⊢
    obtain ⟨es1, t1, wasDummy, gave⟩ := Z
    dsimp only at p1 p2 p3 p4 ⊢
    rw [Array.toList_push] at p1
    have pc : es1.toList.Perm (((mixKind P w).hash k, v) :: es.toList) := p1.trans (List.perm_append_singleton _ _)
    have ekv : ek ((mixKind P w).hash k, v) = k := vk_of hk
    have pk : (es1.toList.map ek).Perm (k :: es.toList.map ek) := by
      have z := pc.map ek
      rw [List.map_cons, ekv] at z
      exact z
    have g1 : ∀ e ∈ es1.toList, EntK P w e := fun e he => by
      rcases List.mem_cons.mp (pc.mem_iff.mp he) with z | z
      · rw [z]
        unfold EntK
        rw [ekv]
        exact ⟨hk, rfl⟩
      · exact g e z
    have nd1 : (es1.toList.map ek).Nodup := pk.nodup_iff.mpr (List.nodup_cons.mpr ⟨out, nd⟩)
    have m1 : ∀ i, (S i || decide (i = k)) = true ↔ i ∈ es1.toList.map ek := fun i => by
      rw [Bool.or_eq_true, decide_eq_true_eq, hm i, pk.mem_iff, List.mem_cons]
      exact Or.comm
    have z1 : es1.size = n + 1 := by rw [← Array.length_toList, pc.length_eq, List.length_cons, Array.length_toList, hn]
    have zb : es1.size < scanBound := z1 ▸ room
    have led : w.params.followText "set-order" = true ∨ t1.led = true := hl.imp id fun q => p4.trans q
    have fin : ∀ h', Heap.SameBut a s.heap h' → SetY P w h' a (fun j => S j || decide (j = k)) es1.size → Q true { s with heap := h' } := fun h' sb r => by
      have q := hQ h' sb
      rw [noS] at q
      rw [z1] at r
      exact q r
    refine wpAny_bind ?_
    refine (fun {Q' : Unit → Shared → Prop} (q : Q' () s) => (by cases gave <;> first | exact wpAny_pure q | exact wpAny_rule q : wpAny (model P w) A _ Q' E s)) ?_
    split
    · refine wpAny_bind ?_
      rw [hashByValue_scannable 8 sc]
      refine wpAny_pure ?_
      refine tailY ?_ ho hex hd g1 nd1 m1 zb ?_ ?_ ?_ ?_
      · intro b s₁ Q' q; cases b <;> first | exact wpAny_pure q | exact wpAny_rule q
      · first | (split <;> first | exact p2 | exact SetTable.fits_plain_off p2) | exact p2
      · first | (split <;> exact p3) | exact p3
      · first | (split <;> exact led) | exact led
      · intro h' sb r; dsimp only; exact wpAny_pure (fin h' sb r)
    · refine wpAny_bind (wpAny_pure ?_)
      simp only [↓reduceIte]
      refine tailY ?_ ho hex hd g1 nd1 m1 zb p2 p3 led ?_
      · intro b s₁ Q' q; cases b <;> first | exact wpAny_pure q | exact wpAny_rule q
      · intro h' sb r; dsimp only; exact wpAny_pure (fin h' sb r)
/-! ### set(xs), xs a list -/
def inK (ks : List Key) (j : Key) : Bool := ks.any fun y => decide (j = y)
theorem inK_iff {ks : List Key} {j : Key} : inK ks j = true ↔ j ∈ ks := by
  unfold inK
  rw [List.any_eq_true]
  exact ⟨fun ⟨y, h, e⟩ => of_decide_eq_true e ▸ h, fun h => ⟨j, h, decide_eq_true rfl⟩⟩
theorem newY {h : Heap} {ks : List Key} (ho : h.get? a = some { cls := .type "set", dict := none, data := .set #[] 0 (.fresh 0 0 (!w.params.followText "set-order")) }) : SetY P w h a (fun j => inK (ks.take 0) j) 0 :=
  ⟨_, #[], 0, _, ho, ⟨rfl, rfl, rfl⟩, rfl, (fun e he => by simp at he), (by simp), (fun k => by simp [inK]), ⟨by decide, rfl, rfl⟩, List.Pairwise.nil, by
    show _ ∨ (!w.params.followText "set-order") = true
    cases w.params.followText "set-order"
    · exact .inr rfl
    · exact .inl rfl⟩
theorem loopY {I : Addr} {fp wr : List Addr} {G : Array GenState → Array GenState → Prop} {m : Nat} {Pv : Nat → Value → Prop} {St : Nat → Shared → Prop} {R : Result → Shared → Prop}
    (W : WalksS P w A.in1 I fp wr G m Pv St) (D : Addr) (nD : D ∉ fp) (ks : List Key) (hm : m = ks.length) (hb : ks.length + 1 < scanBound) (hval : ∀ i v, Pv i v → ∃ k, ks[i]? = some k ∧ (mixKind P w).is k v = true) :
    ∀ (j i : Nat) (s : Shared), m - i = j → i ≤ m → St i s → (∃ c, c ≤ i ∧ SetY P w s.heap D (fun j => inK (ks.take i) j) c) →
      (∀ s' c, Moved (D :: wr) G s s' → c ≤ m → SetY P w s'.heap D (fun j => inK ks j) c → R (.ok (.ret .none)) s') →
      codeAny (model P w) A (.builtin "set.update.loop" ⟨[.ref D, .ref I], []⟩) R s := by
  have nw : D ∉ wr := fun h => nD (W.sub _ h)
  have sub : ∀ b ∈ wr, b ∈ D :: wr := fun b hb => List.mem_cons_of_mem _ hb
  intro j
  induction j with
  | zero =>
    intro i s hj hi st ⟨c, hc, hS⟩ hR
    obtain rfl : i = m := by omega
    refine codeAny_builtin F.entry_set_update_loop ?_
    rw [Around.under_plainId F.plain_set_update_loop _]
    show wpAny _ A.in1 (pyNext (.ref I) >>= _) _ _ s
    refine wpAny_bind (W.done s _ _ st fun s' mv => ?_)
    show wpAny _ A.in1 (ret Value.none) _ _ s'
    rw [show ks.take i = ks from List.take_of_length_le (by omega)] at hS
    exact wpAny_pure (hR s' c (mv.mono sub) hc (hS.at fun o e => mv.heap D o nw e))
  | succ j ih =>
    intro i s hj hi st ⟨c, hc, hS⟩ hR
    have lt : i < m := by omega
    refine codeAny_builtin F.entry_set_update_loop ?_
    rw [Around.under_plainId F.plain_set_update_loop _]
    show wpAny _ A.in1 (pyNext (.ref I) >>= _) _ _ s
    refine wpAny_bind (W.item i s _ _ lt st fun v s' hP st' mv => ?_)
    obtain ⟨k, hk, hv⟩ := hval i v hP
    have hS' : SetY P w s'.heap D (fun j => inK (ks.take i) j) c := hS.at fun o e => mv.heap D o nw e
    show wpAny _ A.in1 (holding [v] (setAdd D v) >>= _) _ _ s'
    refine wpAny_bind (wpAny_holding ?_)
    unfold setAdd
    refine wpAny_holding ?_
    refine wpAny_bind ((mixKind P w).pyHash hv ?_)
    refine addY (s := { s' with toks := s'.toks + 1 }) hv hS' (by omega) fun h' sb hS2 => ?_
    have hS3 : SetY P w h' D (fun j => inK (ks.take (i + 1)) j) (if inK (ks.take i) k = true then c else c + 1) := hS2.congr fun j => by
      unfold inK
      rw [List.take_add_one, hk, List.any_append]
      simp
    have hc3 : (if inK (ks.take i) k = true then c else c + 1) ≤ i + 1 := by
      split <;> omega
    refine wpAny_pure ⟨plainId_quiet F.plain_set_update_loop _, ih (i + 1) _ (by omega) lt (W.frame _ s' _ _ st' (Nat.le_succ _) fun b hb o e => ?_) ⟨_, hc3, hS3⟩ fun s'' c2 mv2 hc2 hS4 => ?_⟩
    · exact (sb.2 b fun h => nD (h ▸ hb)).trans e
    · refine hR s'' c2 (Moved.trans W.gtrans ((mv.mono sub).then_heap (Nat.le_succ _) fun b o hb e => ?_) mv2) hc2 hS4
      exact (sb.2 b fun h => hb (h ▸ List.mem_cons_self)).trans e
end
section
variable {P : Program} {w : World} {A : Around} {E : Value → Shared → Prop} {s : Shared}
theorem callY {l : Addr} {items : Array Value} (ks : List Key) {Q : Value → Shared → Prop} (hh : A.handled = none) (hl : s.heap.IsList l items) (hlen : items.size = ks.length) (hit : ∀ (i : Nat) (v : Value), items[i]? = some v → ∃ k, ks[i]? = some k ∧ (mixKind P w).is k v = true) (hb : ks.length + 1 < scanBound)
    (h : ∀ (h' : Heap) (tk c : Nat), SetY P w h' s.heap.objs.size (fun j => inK ks j) c → c ≤ ks.length → (∀ b o, s.heap.get? b = some o → h'.get? b = some o) → Q (.ref s.heap.objs.size) { s with heap := h', toks := tk }) :
    wpAny (model P w) A (call (.type "set") [.ref l]) Q E s := by
  obtain ⟨c, tl, hmro⟩ := F.called_set.mro
  have k1 := F.called_set.made
  have k2 := F.called_set.sub
  refine wpAny_call (codeAny_of_tree ?_)
  show wpAny _ _ (callAny (.type "set") _) _ _ _
  refine wpAny_pure ⟨Code.quiet_builtin _ (by decide +kernel), codeAny_builtin F.entry_type_call ?_⟩
  rw [Around.under_plain (weight_type_call_type "set" [.ref l] []) rfl]
  have k3 := F.called_set.notType
  have k4 := F.called_set.canCreate
  have k5 := F.typeCall_set_1 (.ref l)
  repeat (any_goals (first | assumption | wp_step))
  refine codeAny_mono (code_set_led1 (.ref l) (E := E) (Q₁ := fun obj s₁ => obj = .ref s.heap.objs.size ∧ s₁ = { s with heap := s.heap.push { cls := .type "set", dict := none, data := .set #[] 0 (.fresh 0 0 (!w.params.followText "set-order")) } }) ⟨rfl, rfl⟩) fun r s₁ hr => ?_
  cases r with
  | error e => exact hr
  | ok fl =>
    cases fl with
    | ret obj =>
      obtain ⟨rfl, rfl⟩ := hr
      have hS : (s.heap.push { cls := .type "set", dict := none, data := .set #[] 0 (.fresh 0 0 (!w.params.followText "set-order")) }).get? s.heap.objs.size = some { cls := .type "set", dict := none, data := .set #[] 0 (.fresh 0 0 (!w.params.followText "set-order")) } := Heap.get?_push_size _ rfl
      have hT : Shared.TypeIs { s with heap := s.heap.push { cls := .type "set", dict := none, data := .set #[] 0 (.fresh 0 0 (!w.params.followText "set-order")) } } (.ref s.heap.objs.size) "set" := ⟨_, hS, rfl⟩
      have k6 := F.called_set.init.lookup
      have k7 := F.called_set.init.bind (.ref s.heap.objs.size)
      repeat (any_goals (first | assumption | wp_step))
      refine codeAny_mono (codeAny_call_builtin (R := wants (fun r s₂ => r = .none ∧ ∃ h' tk c, s₂ = { s with heap := h', toks := tk } ∧ SetY P w h' s.heap.objs.size (fun j => inK ks j) c ∧ c ≤ ks.length ∧
          (∀ b o, s.heap.get? b = some o → h'.get? b = some o)) E) F.called_set.init.plain F.entry_set_init (check_set_init_1 hT ?_)) fun r₂ s₂ hr₂ => ?_
      · obtain ⟨ol, hol, hcl, nl, hdl⟩ := hl
        obtain ⟨ocls, odict, odata, oslots⟩ := ol
        simp only at hcl hdl
        subst hcl; subst hdl
        have hol' : (s.heap.push { cls := .type "set", dict := none, data := .set #[] 0 (.fresh 0 0 (!w.params.followText "set-order")) }).get? l = some { cls := .type "list", dict := odict, data := .seq items nl, slots := oslots } := Heap.get?_push_of_some _ hol
        have k8 := F.sub_list_set
        have k9 := F.sub_list_frozenset
        have k10 : (Value.type "list" == Value.type "dict") = false := by decide
        have hl1 : (s.heap.push { cls := .type "set", dict := none, data := .set #[] 0 (.fresh 0 0 (!w.params.followText "set-order")) }).IsList l items := ⟨_, hol', rfl, nl, rfl⟩
        unfold Builtin.«set.__init__» noKeywords Builtin.Frozenset.updateFrom
        generalize hPI : pyIter = PI
        wp_walk
        subst hPI
        refine wpAny_pyIter_list hl1 ?_
        refine wpAny_bind (wpAny_runValue ?_)
        have ltl : l < s.heap.objs.size := Heap.lt_size hol
        have z1 : (s.heap.push { cls := .type "set", dict := none, data := .set #[] 0 (.fresh 0 0 (!w.params.followText "set-order")) }).objs.size = s.heap.objs.size + 1 := Heap.size_push ..
        refine loopY ((Walks.list (by simp [hh]) _ l (by rw [z1]; exact Nat.ne_of_lt (Nat.lt_succ_of_lt ltl)) items).toS) s.heap.objs.size (by rw [z1]; simp only [List.mem_cons, List.not_mem_nil, or_false, not_or]; exact ⟨Nat.ne_of_lt (Nat.lt_succ_self _), Nat.ne_of_gt ltl⟩) ks hlen hb hit (items.size - 0) 0 _ (by omega) (Nat.zero_le _)
          ⟨⟨_, Heap.get?_push_size _ rfl, rfl, rfl⟩, (hl1.push _)⟩ ⟨0, Nat.le_refl 0, newY (Heap.get?_push_of_some _ hS)⟩ fun s' c' mv hc' hS' => ?_
        obtain ⟨h', g2, d', tk', os'⟩ := s'
        obtain rfl : g2 = s.gens := mv.gens
        obtain rfl : d' = s.drawn := mv.drawn
        obtain rfl : os' = s.os := mv.os
        show wpAny _ _ _ _ _ _
        refine wpAny_pure ?_
        show wpAny _ _ (ret Value.none) _ _ _
        refine wpAny_pure ⟨rfl, h', tk', c', rfl, hS', hlen ▸ hc', fun b o e => ?_⟩
        have b0 : b < s.heap.objs.size := Heap.lt_size e
        exact mv.heap b o (by rw [z1]; simp only [List.mem_cons, List.not_mem_nil, or_false, not_or]; exact ⟨Nat.ne_of_lt b0, Nat.ne_of_lt (Nat.lt_succ_of_lt b0)⟩) (Heap.get?_push_of_some _ (Heap.get?_push_of_some _ e))
      · cases r₂ with
        | error e => exact hr₂
        | ok fl₂ =>
          cases fl₂ with
          | ret r =>
            obtain ⟨rfl, h', tk, c', rfl, hS', hc', hk'⟩ := hr₂
            repeat (any_goals (first | assumption | wp_step))
            exact h _ _ _ hS' hc' hk'
          | _ => exact hr₂.elim
    | _ => exact hr.elim
end
end Sx
/-! sets of ints and texts from a list, with their tables; sorted of one of texts -/
namespace Sx
open PySem PySem.Spec PyProof.Rows L2
/-! ### the rules -/
def SetYO (P : Program) (w : World) (a : Addr) (S : Key → Bool) (n : Nat) : HO := .ext fun h => SetY P w h a S n
theorem setY_ok {w : World} {P : Program} {H : Hp} {h : Heap} {a : Addr} {S : Key → Bool} {n : Nat} (R : SetY P w h a S n) : ObjOk P w H h a (SetYO P w a S n) :=
  have ⟨o, _, _, _, ho, _⟩ := R
  ⟨R, ⟨o, ho⟩, fun _ _ p _ => SetY.at p (by assumption)⟩
section
variable {P : Program} {w : World} {A : Around} {E : Value → Shared → Prop} {s : Shared} {a : Addr}
theorem strs_of {P : Program} {w : World} : ∀ l : List Value, (∀ v ∈ l, ∃ x, (mixKind P w).is (.inr x) v = true) → ∃ xs : List Str, StrsAre l xs ∧ l.map vk = xs.map Sum.inr
  | [], _ => ⟨[], .nil, rfl⟩
  | v :: l, h => by
    obtain ⟨xs, h1, h2⟩ := strs_of l fun u hu => h u (List.mem_cons_of_mem _ hu)
    obtain ⟨x, hx⟩ := h v List.mem_cons_self
    rcases keyIs_shape (show keyIs (.inr x) v = true from hx) with ⟨i, t, e, _⟩ | ⟨y, t, e, rfl⟩
    · cases e
    · cases e
      exact ⟨x :: xs, .cons x t h1, by rw [List.map_cons, List.map_cons, h2]; rfl⟩
theorem nodup_inr : ∀ {xs : List Str}, (xs.map (Sum.inr : Str → Key)).Nodup → xs.Nodup
  | [], _ => List.nodup_nil
  | x :: r, h => by
    obtain ⟨h1, h2⟩ := List.nodup_cons.mp h
    exact List.nodup_cons.mpr ⟨fun m => h1 (List.mem_map.mpr ⟨x, m, rfl⟩), nodup_inr h2⟩
theorem sortedY {S : Key → Bool} {n : Nat} {Q : Value → Shared → Prop} (R : SetY P w s.heap a S n) (hh : A.handled = none) (h64 : n < 64) (ht : ∀ k, S k = true → ∃ x, k = .inr x)
    (hQ : ∀ s' p (out : Array Value) (c : Nat) (ys : List Str), (∀ b o, s.heap.get? b = some o → s'.heap.get? b = some o) → s'.gens = s.gens → s'.os = s.os → s.heap.objs.size ≤ p →
      s'.heap.get? p = some (seqObj "list" out c) → StrsAre out.toList ys → sortedS ys = true → ys.Nodup → (∀ x, x ∈ ys ↔ S (.inr x) = true) → ys.length = n → Q (.ref p) s') :
    wpAny (model P w) A (call (.builtin "sorted") [.ref a]) Q E s := by
  obtain ⟨o, es, ep, t, ho, hex, hd, g, nd, hm, ⟨hb, hf, hn⟩, hr, hl⟩ := R
  refine Calls.call_function_entry kind_sorted plain_sorted entry_sorted (args_sorted1 _) ?_
  unfold Builtin.«sorted»
  refine wpAny_bind (m := checkCount "sorted" 1 1 _) (wpAny_pure ?_)
  refine wpAny_bind (collect_set (A := A.in1) hh ⟨o, ho, hex.1, hd⟩ hf hb hr hl fun s1 vs k1 hz g1 o1 pm => ?_)
  have vl : vs.length = n := by rw [pm.length_eq, List.length_map, Array.length_toList]; exact hn
  have pk : (vs.map vk).Perm (es.toList.map ek) := by
    have q := pm.map vk
    rw [List.map_map] at q
    exact q
  obtain ⟨xs, hS, hx⟩ := strs_of (P := P) (w := w) vs fun v hv => by
    obtain ⟨e, he, q⟩ := List.mem_map.mp (pm.mem_iff.mp hv)
    obtain ⟨x, z⟩ := ht (ek e) ((hm _).2 (List.mem_map.mpr ⟨e, he, rfl⟩))
    refine ⟨x, ?_⟩
    rw [← q, ← z]
    exact (g e he).1
  rw [hx] at pk
  refine wpAny_bind (wpAny_newList ?_ (by rw [vl, sizeLine_eq]; omega))
  have hoL : (s1.heap.push (seqObj "list" vs.toArray 0)).get? s1.heap.objs.size = some (seqObj "list" vs.toArray 0) := Heap.get?_push_size _ rfl
  refine wpAny_bind (wpAny_holding (wpAny_call_entry slot_list_sort ⟨_, hoL, rfl⟩ entry_list_sort (list_sort_treeK strKind_oneLt hoL hS.keysOf (fun v₁ v₂ rest e => keyKind_strs (by rw [← e]; exact hS)) (by rw [vl]; exact h64) fun st' hp hs => ⟨_, rfl, ?_⟩) (args_list_sort _)))
  obtain ⟨ys, a1, a2, a3⟩ := sorted_out_str hS hp hs
  obtain ⟨c, hc⟩ := sortedHeap_at (vs := vs) (out := (arrOf st').map (·.2)) hoL
  have pn : (ys.map (Sum.inr : Str → Key)).Perm (es.toList.map ek) := (a2.map _).trans pk
  refine wpAny_pure ⟨_, rfl, hQ _ s1.heap.objs.size _ c ys (fun b u e => ?_) g1 o1 hz hc a1 a3 (nodup_inr (pn.nodup_iff.mpr nd)) (fun x => ?_) ?_⟩
  · have q := k1 b u e
    have lt := Heap.lt_size q
    show (sortedHeap (s1.heap.push (seqObj "list" vs.toArray 0)) s1.heap.objs.size vs _).get? b = some u
    rw [sortedHeap_old (Nat.ne_of_lt lt) (by rw [size_push']; exact Nat.lt_succ_of_lt lt)]
    exact Heap.get?_push_of_some _ q
  · rw [hm, ← pn.mem_iff, List.mem_map]
    exact ⟨fun h => ⟨x, h, rfl⟩, fun ⟨y, h, e⟩ => Sum.inr.inj e ▸ h⟩
  · have z := pn.length_eq
    rw [List.length_map, List.length_map] at z
    rw [z, ← hn, Array.length_toList]
end
section
variable {X : Cx}
theorem setY_get {pins : List (Addr × Obj)} {σ : L2.St} {H : Hp} {s : Shared} {a : Addr} {S : Key → Bool} {n : Nat} (I : Inv X pins σ H s) (ha : H a = some (SetYO X.prog X.w a S n)) : SetY X.prog X.w s.heap a S n := (I.hok a _ ha).1
/-- sorted(found) of texts, fewer than 64 -/
def rSortTx (P : Program) (w : World) : List V → Hp → VK → Prop := fun vs H Q => ∃ (a : Addr) (S : Key → Bool) (n : Nat), vs = [V.ref a] ∧ H a = some (SetYO P w a S n) ∧ n < 64 ∧ (∀ k, S k = true → ∃ x, k = .inr x) ∧
  ∀ (ys : List Str) (p : Addr), sortedS ys = true → ys.Nodup → (∀ x, x ∈ ys ↔ S (.inr x) = true) → ys.length = n → H p = none → Q (.ref p) (upd H p (.lst (ys.map V.str)))
theorem cr_sortTx (hc : X.calm = true) : CallR X (.builtin "sorted") (rSortTx X.prog X.w) := by
  intro pins s σ H vs us Q I r h
  obtain ⟨a, S, n, rfl, ha, h64, ht, q⟩ := h
  rw [Vals.ref1 r]
  refine sortedY (setY_get I ha) (I.ok.hd hc) h64 ht fun s' p out c ys k g o hp hg hi hs hd hm hl => ?_
  have hn : H p = none := I.hok.fresh hp
  have J : Inv X pins σ (upd H p (.lst (ys.map V.str))) { s with heap := s'.heap, gens := s'.gens, drawn := s'.drawn, toks := s'.toks } :=
    I.call (ch := []) (Un.laid k hp hn) (I.hok.laid k hp ⟨by rw [List.length_map, hl, sizeLine_eq]; omega, out.toList, c, vals_of_strs hi, hg⟩) (by rw [g]; exact I.bare) (fun _ z => nomatch z)
  have e : s' = { s with heap := s'.heap, gens := s'.gens, drawn := s'.drawn, toks := s'.toks } := by
    obtain ⟨_, _, _, _, _⟩ := s'
    cases o
    rfl
  rw [e]
  exact ⟨.ref p, _, J, rfl, q ys p hs hd hm hl hn⟩
def rSetKs (K : PySem.W.Frag) (P : Program) (w : World) : List V → Hp → VK → Prop := fun xs H Q => ∃ (l : Addr) (ks : List Key), xs = [V.ref l] ∧ SqL K H l (ks.map kV) ∧ ks.length + 1 < scanBound ∧
  ∀ (p : Addr) (c : Nat), c ≤ ks.length → H p = none → Q (.ref p) (upd H p (SetYO P w p (inK ks) c))
theorem cr_setKs (hc : X.calm = true) : CallR X (.type "set") (rSetKs X.K X.prog X.w) := by
  intro pins s σ H vs us Q I r h
  obtain ⟨l, ks, rfl, hs, hb, q⟩ := h
  obtain ⟨its, rv, hl, _⟩ := I.list hs
  rw [Vals.ref1 r]
  have e1 := rv.length
  rw [List.length_map] at e1
  refine callY ks (I.ok.hd hc) hl.isList (by rw [List.size_toArray]; exact e1.symm) (fun i v hv => ?_) hb fun h' tk c R hcn k => ?_
  · rw [List.getElem?_toArray] at hv
    have hi : i < ks.length := e1 ▸ (List.getElem?_eq_some_iff.mp hv).1
    have hk : (ks.map kV)[i]? = some (kV ks[i]) := by rw [List.getElem?_map, List.getElem?_eq_getElem hi]; rfl
    obtain ⟨u, hu, ru⟩ := Vals.get rv hk
    rw [hv] at hu
    obtain rfl := Option.some.inj hu
    exact ⟨ks[i], List.getElem?_eq_getElem hi, kV_is ru⟩
  · exact ⟨.ref _, upd H s.heap.objs.size (SetYO X.prog X.w s.heap.objs.size (inK ks) c), I.laid (t' := tk) k (Nat.le_refl _) (setY_ok R), rfl, q _ c hcn (I.hok.fresh (Nat.le_refl _))⟩
end
end Sx
/-! Sw: {e for x in xs} of ints; len of sets; sorted of a set of ints made of a list -/
namespace PpSet
open PySem PySem.Spec PyProof.Rows L2
section
variable {X : Cx}
/-- set.add of an int -/
theorem addI_ok {pins : List (Addr × Obj)} {σ : L2.St} {H : Hp} {s : Shared} {E : Value → Shared → Prop} {D : Addr} {S : Int → Bool} {n : Nat} {y : Int} {tk : Tok} {Q : Value → Shared → Prop} (I : Inv X pins σ H s) (hD : H D = some (SetO X.w D S n)) (room : n + 1 < scanBound)
    (h : ∀ s', Inv X pins σ (upd H D (SetO X.w D (fun j => S j || decide (j = y)) (if S y = true then n else n + 1))) s' → Q .none s') : wpAny (model X.prog X.w) X.A (call (.builtin "set.add") [.ref D, .int y tk]) Q E s := by
  refine setR_add (setO_get I hD) room fun h' sb new => ?_
  have he : ∃ u, h'.get? D = some u := by
    have ⟨o, _, _, _, ho, _⟩ := new
    exact ⟨o, ho⟩
  exact h _ (I.write (e := D) (t' := s.toks + 1) (by rw [hD]; trivial) (.inl rfl) (fun b u hb hu => (sb.2 b hb).trans hu) he (setO_new new))
def tScI (w : World) (wi : TI) (g : TG) (tt : TT) (te : TE) (vs : List Nat) : TE := fun σ H Q => wi σ H fun J H1 => ∀ D, H1 D = none → ∃ W : Nat → Nat → Hp → Prop, (∃ m, W 0 m (upd H1 D (SetO w D (fun _ => false) 0))) ∧ ∀ i m H, W i m H →
  (J.stop i H ∧ Q (.ref D) H) ∨ (J.go i H ∧ ∃ Nx : Hp → Prop, (∀ H', Nx H' → ∃ m', m' < m ∧ W (i + 1) m' H') ∧ ∀ x H', J.yld i H x H' → g x (wipe σ vs) H' fun σ2 H2 => wipe σ2 vs = wipe σ vs ∧ tt σ2 H2 fun b H3 =>
    if b = true then te σ2 H3 fun y H4 => ∃ (c : Int) (S : Int → Bool) (n : Nat), y = .int c ∧ H4 D = some (SetO w D S n) ∧ n + 1 < scanBound ∧ Nx (upd H4 D (SetO w D (fun j => S j || decide (j = c)) (if S c = true then n else n + 1))) else Nx H3)
theorem scI_core {pins : List (Addr × Obj)} {s : Shared} {σ : L2.St} {H : Hp} {Q : VK} {elt tg iter : Expr} {ifs : List Expr} {scope : Scope} {own : List (PySem.Str × Nat)} {pos pos' : Pos} {wi : TI} {g : TG} {tt : TT} {te : TE} {use : Option (Value → Sem Unit)} {Qf : Value → Shared → Prop}
    (hc : X.calm = true) (hN : X.N.Nodup) (I : Inv X pins σ H s) (hi : PI X tg iter wi) (ok : BlkOk X.N X.env.scope scope own)
    (hg : ∀ (s : Shared) (H : Hp) (C : Addr) (cl : List (PySem.Str × Addr)) (fp : List Addr), PG (X.blk s H scope (compEnvC scope cl C X.env) fp) tg g) (ht : ∀ (s : Shared) (H : Hp) (C : Addr) (cl : List (PySem.Str × Addr)) (fp : List Addr), PTs (X.blk s H scope (compEnvC scope cl C X.env) fp) ifs tt)
    (he : ∀ (s : Shared) (H : Hp) (C : Addr) (cl : List (PySem.Str × Addr)) (fp : List Addr), PE (X.blk s H scope (compEnvC scope cl C X.env) fp) elt te) (hs : ∀ x, foldedSetIterable iter X.env x = pure x)
    (h : tScI X.w wi g tt te (own.map (·.2)) σ H Q)
    (hRR : ∀ D C s' m H', Inv X pins σ H' s' → Q (.ref D) H' → s'.heap.Ns C m → FpOk X pins H' C → compPost (model X.prog X.w) X.A X.xe use Qf (.ref D) C (.ok .next) s') :
    wpAny (model X.prog X.w) X.A (comprehension (.SetComp elt [⟨tg, iter, ifs, 0⟩] scope pos) scope X.env pos' (newSet (.type "set")) false (eval iter X.env) use) Qf X.xe s := by
  have hfree : ∀ y ∈ scope.names, y.2 = .free → ∃ c, X.env.cells.lookup y.1 = some c := fun y hy e => by
    rcases ok.free y hy e with k | k
    · exact I.ok.has _ (.inl k)
    · exact I.ok.has _ (.inr k)
  refine wpAny_comprehension_free (use := use) rfl hs (closure_ok hfree) ok.kind (fun y hy e => by rw [ok.uniq y hy, e])
    (thn (hi.run pins s σ H _ I h) fun xv s1 hx => thn hx fun itv s2 h2 => ?_)
  obtain ⟨it, fp, tn, J, H2, e, I2, T, st2, f2, q⟩ := h2
  subst e
  refine newSet_ok (newEnv_comp ?_)
  generalize hD : s2.heap.objs.size = D
  have hDn : H2 D = none := I2.hok.fresh (Nat.le_of_eq hD)
  obtain ⟨W, ⟨m0, w0⟩, turn⟩ := q D hDn
  -- the new list
  generalize hs3 : ({ s2 with heap := s2.heap.push { cls := .type "set", dict := none, data := .set #[] 0 (.fresh 0 0 (!X.w.params.followText "set-order")) } } : Shared) = s3
  have I3 : Inv X pins σ (upd H2 D (SetO X.w D (fun _ => false) 0)) s3 := by
    rw [← hs3]
    refine I2.laid (t' := s2.toks) (fun b o e => Heap.get?_push_of_some _ e) (Nat.le_of_eq hD) ?_
    rw [← hD]
    exact setO_new (setR_fresh X.w)
  have h3 : s3.heap = s2.heap.push { cls := .type "set", dict := none, data := .set #[] 0 (.fresh 0 0 (!X.w.params.followText "set-order")) } := by rw [← hs3]
  have sz : ∀ b ∈ fp, b < s2.heap.objs.size := fun b hb => by
    obtain ⟨o, e, _⟩ := T.obj _ _ st2 b hb
    exact Heap.lt_size e
  have f3 : ∀ b ∈ fp, FpOk X pins (upd H2 D (SetO X.w D (fun _ => false) 0)) b ∧ b < s3.heap.objs.size := fun b hb => by
    have hlt := sz b hb
    refine ⟨⟨?_, (f2 b hb).2⟩, by rw [h3, Heap.size_push]; exact Nat.lt_succ_of_lt hlt⟩
    rw [upd_ne (by rw [← hD]; exact Nat.ne_of_lt hlt)]
    exact (f2 b hb).1
  have st3 : tn 0 s3.heap := T.keep _ _ _ st2 fun b _ o e => by rw [h3]; exact Heap.get?_push_of_some _ e
  have I4 := block_start I3 ok hN f3
  have pg := hg s3 (upd H2 D (SetO X.w D (fun _ => false) 0)) s3.heap.objs.size (cellsFrom (s3.heap.objs.size + 1) scope.names (cloFrom X.env.cells scope.names [])) fp
  have pt := ht s3 (upd H2 D (SetO X.w D (fun _ => false) 0)) s3.heap.objs.size (cellsFrom (s3.heap.objs.size + 1) scope.names (cloFrom X.env.cells scope.names [])) fp
  have pe := he s3 (upd H2 D (SetO X.w D (fun _ => false) 0)) s3.heap.objs.size (cellsFrom (s3.heap.objs.size + 1) scope.names (cloFrom X.env.cells scope.names [])) fp
  show codeAny _ _ (.compStart (.SetComp elt [⟨tg, iter, ifs, 0⟩] scope pos) 0 (.ref it) (.ref D) (compEnvC scope (cellsFrom (s3.heap.objs.size + 1) scope.names (cloFrom X.env.cells scope.names [])) s3.heap.objs.size X.env)) (compPost (model X.prog X.w) X.A X.xe use Qf (.ref D) s3.heap.objs.size) { s3 with heap := pushCells (s3.heap.push { cls := .type "dict", data := .dict #[] }) scope.names }
  have nfp : ∀ b ∈ fp, (upd H2 D (SetO X.w D (fun _ => false) 0)) b = none := fun b hb => (f3 b hb).1.1
  generalize hce : compEnvC scope (cellsFrom (s3.heap.objs.size + 1) scope.names (cloFrom X.env.cells scope.names [])) s3.heap.objs.size X.env = ce at I4 pg pt pe ⊢
  have cL : ce.locals = s3.heap.objs.size := by subst hce; rfl
  generalize hH3 : upd H2 D (SetO X.w D (fun _ => false) 0) = H3 at I3 I4 pg pt pe w0 nfp f3
  generalize hs4 : ({ s3 with heap := pushCells (s3.heap.push { cls := .type "dict", data := .dict #[] }) scope.names } : Shared) = s4 at I4 ⊢
  have st4 : tn 0 s4.heap := T.keep _ _ _ st3 fun b _ o e => by rw [← hs4]; exact pushCells_keeps _ _ _ _ (Heap.get?_push_of_some _ e)
  have stat : ∀ {σ' : L2.St} {H' : Hp} {s' : Shared}, Inv (X.blk s3 H3 scope ce fp) [] σ' H' s' → (∀ b ∈ fp, H' b = none) → ∀ b ∈ fp, FpOk (X.blk s3 H3 scope ce fp) [] H' b := fun {σ' H' s'} I' hn b hb =>
    ⟨hn b hb, (I'.ok.exf b hb).1, I'.ok.exfs b hb, .inl hb, fun x c e => (I'.ok.exf b hb).2 x c e, fun p hp => absurd (show p ∈ ([] : List (Addr × Obj)) ++ [] from hp) (by simp)⟩
  have loop : codeAny (model X.prog X.w) X.A (.compLoop (.SetComp elt [⟨tg, iter, ifs, 0⟩] scope pos) 0 (.ref it) (.ref D) ce) (compPost (model X.prog X.w) X.A X.xe use Qf (.ref D) s3.heap.objs.size) s4 := by
    refine compLoopS_any (fun n s' => ∃ i H', Inv (X.blk s3 H3 scope ce fp) [] (wipe σ (own.map (·.2))) H' s' ∧ tn i s'.heap ∧ (∀ b ∈ fp, H' b = none) ∧ W i n H') ?_ m0 ⟨0, H3, I4, st4, nfp, w0⟩
    rintro n s5 ⟨i, H5, I5, st5, n5, w5⟩
    rcases turn i n H5 w5 with ⟨stop, qq⟩ | ⟨go, Nx, hNx, step⟩
    · have td := T.done (X.blk s3 H3 scope ce fp) rfl rfl rfl hc i [] s5 _ H5 (fun _ _ => False) I5 (stat I5 n5) st5 stop
      refine thnF td fun r s6 ⟨hr, I6⟩ => ?_
      subst hr
      -- back in the def's context
      have I7 : Inv X pins σ H5 s6 := I3.call' (ch := fp) I6.os I6.base I6.hok I6.bare fun b hb => ⟨(f3 b hb).1.2.2.2.1, (f3 b hb).1.2.1, (f3 b hb).1.2.2.2.2.1, (f3 b hb).1.2.2.2.2.2⟩
      have nC : H5 s3.heap.objs.size = none := by
        have z : H5 ce.locals = none := I6.free
        rw [cL] at z
        exact z
      obtain ⟨m, hn, _⟩ := I6.loc
      have hn : s6.heap.Ns ce.locals m := hn
      rw [cL] at hn
      exact hRR D s3.heap.objs.size s6 m H5 I7 qq hn (I3.fpOk (Nat.le_refl _) nC)
    · have ti := T.item (X.blk s3 H3 scope ce fp) rfl rfl rfl hc i [] s5 _ H5 (fun _ _ => False) I5 (stat I5 n5) st5 go
      refine thnF ti fun r s6 ⟨u, hr, h6⟩ => ?_
      subst hr
      refine thnF h6 fun _ s7 ⟨x, H7, I7, r7, y7, st7, n7⟩ => ?_
      have I7' := I7.pinned (stat I7 n7) (T.obj _ _ st7)
      refine thnF (pg.run _ s7 _ H7 x u _ I7' r7 (step x H7 y7)) fun _ s8 ⟨σ8, H8, I8, hw8, q8⟩ => ?_
      refine thnF (pt.run _ s8 σ8 H8 _ I8 q8) fun b s9 ⟨H9, I9, q9⟩ => ?_
      -- the turn's end
      have fin : ∀ {s' : Shared} {H' : Hp}, Inv (X.blk s3 H3 scope ce fp) ([] ++ pinsAt fp s7.heap) σ8 H' s' → Nx H' → ∃ m, m < n ∧ ∃ i H', Inv (X.blk s3 H3 scope ce fp) [] (wipe σ (own.map (·.2))) H' s' ∧ tn i s'.heap ∧ (∀ b ∈ fp, H' b = none) ∧ W i m H' := fun {s' H'} I' nx => by
        obtain ⟨m', hm, w'⟩ := hNx H' nx
        have pin' : ∀ b ∈ fp, ∀ o, s7.heap.get? b = some o → s'.heap.get? b = some o ∧ H' b = none := fun b hb o e =>
          let z := I'.pin (b, o) (List.mem_append_right _ (List.mem_append_right _ (mem_pinsAt hb e)))
          ⟨z.1, z.2.1⟩
        have hl : (wipe σ (own.map (·.2))).length = σ8.length := by rw [← hw8, wipe_length]
        refine ⟨m', hm, i + 1, H', (I'.unpinned (pins := [])).weak hl (fun j v e => ?_), T.keep _ _ _ st7 fun b hb o e => (pin' b hb o e).1, fun b hb => ?_, w'⟩
        · rw [← hw8] at e
          exact (wipe_some e).1
        · obtain ⟨o, e, _⟩ := T.obj _ _ st7 b hb
          exact (pin' b hb o e).2
      cases b with
      | false =>
        simp only [Bool.false_eq_true, if_false] at q9 ⊢
        exact fin I9 q9
      | true =>
        simp only [if_true] at q9 ⊢
        refine thnF (pe.run _ s9 σ8 H9 _ I9 q9) fun z s10 ⟨yv, H10, I10, r10, cb, S0, n0, ey, hD10, hz10, nx⟩ => ?_
        subst ey
        obtain ⟨tk10, rfl⟩ := (show ∃ t, z = Value.int cb t from r10)
        exact addI_ok (X := X.blk s3 H3 scope ce fp) I10 hD10 hz10 fun s11 I11 => fin I11 nx
  exact codeAny_compStart_set loop (T.self X.A 0 _ _ _ st4 loop)
/-- as a value -/
theorem pe_scI {elt tg iter : Expr} {ifs : List Expr} {scope : Scope} {own : List (PySem.Str × Nat)} {pos : Pos} {wi : TI} {g : TG} {tt : TT} {te : TE} (hc : X.calm = true) (hN : X.N.Nodup) (hi : PI X tg iter wi) (ok : BlkOk X.N X.env.scope scope own)
    (hg : ∀ (s : Shared) (H : Hp) (C : Addr) (cl : List (PySem.Str × Addr)) (fp : List Addr), PG (X.blk s H scope (compEnvC scope cl C X.env) fp) tg g) (ht : ∀ (s : Shared) (H : Hp) (C : Addr) (cl : List (PySem.Str × Addr)) (fp : List Addr), PTs (X.blk s H scope (compEnvC scope cl C X.env) fp) ifs tt)
    (he : ∀ (s : Shared) (H : Hp) (C : Addr) (cl : List (PySem.Str × Addr)) (fp : List Addr), PE (X.blk s H scope (compEnvC scope cl C X.env) fp) elt te) (hs : ∀ x, foldedSetIterable iter X.env x = pure x := by intro _; rfl) :
    PE X (.SetComp elt [⟨tg, iter, ifs, 0⟩] scope pos) (tScI X.w wi g tt te (own.map (·.2))) := by
  refine ⟨fun pins s σ H Q I h => ?_⟩
  rw [eval_SetComp]
  refine scI_core hc hN I hi ok hg ht he hs h fun D C s' m H' I' q hn f => ⟨m, hn, fun h'' sb => ?_⟩
  obtain ⟨f0, f1, f2, f3, f4, f5⟩ := f
  exact ⟨.ref D, H', I'.turned (t' := s'.toks) (fun b o hb e => (sb.2 b hb).trans e) f0 f1 f3 f4 f5, rfl, q⟩

/-- what a set holds, as a list without a pair alike -/
def Holds (S : Int → Bool) (n : Nat) : Prop := ∃ ys : List Int, ys.Nodup ∧ (∀ k, k ∈ ys ↔ S k = true) ∧ ys.length = n
def rLenO (w : World) : List V → Hp → VK → Prop := fun xs H Q => ∃ (a : Addr) (S : Int → Bool) (n : Nat), xs = [V.ref a] ∧ H a = some (SetO w a S n) ∧ (Holds S n → Q (.int (n : Nat)) H)
theorem call_lenO : CallR X (.builtin "len") (rLenO X.w) := by
  intro pins s σ H xs us Q I r h
  obtain ⟨a, S, n, rfl, ha, q⟩ := h
  have R := setO_get I ha
  rw [Vals.ref1 r]
  obtain ⟨o, es, ep, t, ho, hex, hd, g, nd, hm, hb, hf, hn, hr, hl⟩ := R
  refine call_len_set ho hex hd hf (by unfold scanBound at hb; omega) ⟨.int n, H, I.tok _, ⟨_, by rw [hn]⟩, q ⟨es.toList.map keyOf, nd, fun k => (hm k).symm, by rw [List.length_map, Array.length_toList, hn]⟩⟩
end
end PpSet
namespace Sx
open PySem PySem.Spec PyProof.Rows L2
theorem nodup_inl : ∀ {xs : List Int}, (xs.map (Sum.inl : Int → Key)).Nodup → xs.Nodup
  | [], _ => List.nodup_nil
  | x :: r, h => by
    obtain ⟨h1, h2⟩ := List.nodup_cons.mp h
    exact List.nodup_cons.mpr ⟨fun m => h1 (List.mem_map.mpr ⟨x, m, rfl⟩), nodup_inl h2⟩
theorem setY_toR {P : Program} {w : World} {h : Heap} {a : Addr} {S : Key → Bool} {n : Nat} (R : SetY P w h a S n) (hi : ∀ k, S k = true → ∃ i, k = .inl i) : SetR w h a (fun i => S (.inl i)) n := by
  obtain ⟨o, es, ep, t, ho, hex, hd, g, nd, hm, ⟨hb, hf, hn⟩, hr, hl⟩ := R
  have key : ∀ e ∈ es.toList, ek e = .inl (keyOf e) ∧ GoodE e := fun e he => by
    obtain ⟨i, ei⟩ := hi (ek e) ((hm _).mpr (List.mem_map.mpr ⟨e, he, rfl⟩))
    have ge := g e he
    have sh := ge.1
    rw [ei] at sh
    obtain ⟨t, et⟩ : ∃ t, e.2 = Value.int i t := by
      rcases keyIs_shape (k := Sum.inl i) (v := e.2) sh with ⟨j, t, ej, ev⟩ | ⟨x, t, ej, ev⟩
      · cases ej
        exact ⟨t, ev⟩
      · cases ej
    have ek2 : keyOf e = i := by unfold keyOf; rw [et]
    refine ⟨by rw [ek2]; exact ei, i, t, et, ?_⟩
    have h2 := ge.2
    rw [ei] at h2
    exact h2
  have em : es.toList.map ek = (es.toList.map keyOf).map Sum.inl := by
    rw [List.map_map]
    exact List.map_congr_left fun e he => (key e he).1
  refine ⟨o, es, ep, t, ho, hex, hd, fun e he => (key e he).2, ?_, fun k => ?_, hb, hf, hn, hr, hl⟩
  · rw [em] at nd
    exact nodup_inl nd
  · rw [hm, em, List.mem_map]
    exact ⟨fun ⟨x, hx, e⟩ => Sum.inl.inj e ▸ hx, fun hx => ⟨k, hx, rfl⟩⟩
section
variable {X : Cx}
/-- sorted of a set of ints that a list made -/
def rSortIn (P : Program) (w : World) : List V → Hp → VK → Prop := fun vs H Q => ∃ (a : Addr) (S : Key → Bool) (n : Nat), vs = [V.ref a] ∧ H a = some (SetYO P w a S n) ∧ (PpSet.Holds (fun i => S (.inl i)) n → n < 64) ∧ (∀ k, S k = true → ∃ i, k = .inl i) ∧
  ∀ (ns : List Int) (p : Addr), ns.Pairwise (· < ·) → (∀ k : Int, k ∈ ns ↔ S (.inl k) = true) → ns.length = n → H p = none → Q (.ref p) (upd H p (.lst (ns.map V.int)))
theorem cr_sortIn (hc : X.calm = true) : CallR X (.builtin "sorted") (rSortIn X.prog X.w) := by
  intro pins s σ H vs us Q I r h
  obtain ⟨a, S, n, rfl, ha, h64, hi, q⟩ := h
  have R := setY_toR (setY_get I ha) hi
  have h64 : n < 64 := by
    obtain ⟨o, es, ep, t, ho, hex, hd, g, nd, hm, hb, hf, hn, hr, hl⟩ := R
    exact h64 ⟨es.toList.map keyOf, nd, fun k => (hm k).symm, by rw [List.length_map, Array.length_toList, hn]⟩
  rw [Vals.ref1 r]
  refine sorted_set R (I.ok.hd hc) h64 fun s' p out c ns k g o hp hg hia hs hm hl => ?_
  have hlen : (ns.map V.int).length ≤ sizeLine := by rw [List.length_map, hl, sizeLine_eq]; omega
  have hn : H p = none := I.hok.fresh hp
  have J : Inv X pins σ (upd H p (.lst (ns.map V.int))) { s with heap := s'.heap, gens := s'.gens, drawn := s'.drawn, toks := s'.toks } :=
    I.call (ch := []) (Un.laid k hp hn) (I.hok.laid k hp ⟨hlen, out.toList, c, vals_of_ints hia, hg⟩) (by rw [g]; exact I.bare) (fun _ z => nomatch z)
  have e : s' = { s with heap := s'.heap, gens := s'.gens, drawn := s'.drawn, toks := s'.toks } := by
    rw [← o]
  rw [e]
  exact ⟨.ref p, _, J, rfl, q ns p hs hm hl hn⟩
/-- len of such a set, of ints -/
def rLenY (P : Program) (w : World) : List V → Hp → VK → Prop := fun xs H Q => ∃ (a : Addr) (S : Key → Bool) (n : Nat), xs = [V.ref a] ∧ H a = some (SetYO P w a S n) ∧ (∀ k, S k = true → ∃ i, k = .inl i) ∧ (PpSet.Holds (fun i => S (.inl i)) n → Q (.int (n : Nat)) H)
theorem call_lenY : CallR X (.builtin "len") (rLenY X.prog X.w) := by
  intro pins s σ H xs us Q I r h
  obtain ⟨a, S, n, rfl, ha, hi, q⟩ := h
  have R := setY_toR (setY_get I ha) hi
  rw [Vals.ref1 r]
  obtain ⟨o, es, ep, t, ho, hex, hd, g, nd, hm, hb, hf, hn, hr, hl⟩ := R
  refine call_len_set ho hex hd hf (by unfold scanBound at hb; omega) ⟨.int n, H, I.tok _, ⟨_, by rw [hn]⟩, q ⟨es.toList.map keyOf, nd, fun k => (hm k).symm, by rw [List.length_map, Array.length_toList, hn]⟩⟩
end
end Sx
namespace Wk
open PySem L2
section
variable {σ : St} {H : Hp} {i : Nat} {v x y z : V} {ta tb te tv : TE} {b : Bool} {K : PySem.W.Frag} {a C dx : Addr} {Q : VK} {w : World} {P : Program}
def ScB (w : World) (J : It) (g : TG) (tt : TT) (te : TE) (vs : List Nat) (σ : St) (Q : VK) (H1 : Hp) : Prop := ∀ D, H1 D = none → ∃ W : Nat → Nat → Hp → Prop, (∃ m, W 0 m (upd H1 D (SetO w D (fun _ => false) 0))) ∧ ∀ i m H, W i m H →
  (J.stop i H ∧ Q (.ref D) H) ∨ (J.go i H ∧ ∃ Nx : Hp → Prop, (∀ H', Nx H' → ∃ m', m' < m ∧ W (i + 1) m' H') ∧ ∀ x H', J.yld i H x H' → g x (wipe σ vs) H' fun σ2 H2 => wipe σ2 vs = wipe σ vs ∧ tt σ2 H2 fun b H3 =>
    if b = true then te σ2 H3 fun y H4 => ∃ (c : Int) (S : Int → Bool) (n : Nat), y = .int c ∧ H4 D = some (SetO w D S n) ∧ n + 1 < scanBound ∧ Nx (upd H4 D (SetO w D (fun j => S j || decide (j = c)) (if S c = true then n else n + 1))) else Nx H3)
theorem w_scI {wi : TI} {g : TG} {tt : TT} {vs : List Nat} (h : wi σ H fun J H1 => ScB w J g tt te vs σ Q H1) : PpSet.tScI w wi g tt te vs σ H Q := h
def ScE (w : World) (D : Addr) (Pv : Addr → Nat → Hp → Prop) (i : Nat) (y : V) (H : Hp) : Prop := ∃ (c : Int) (S : Int → Bool) (n : Nat), y = .int c ∧ H D = some (SetO w D S n) ∧ n + 1 < scanBound ∧ Pv D (i + 1) (upd H D (SetO w D (fun j => S j || decide (j = c)) (if S c = true then n else n + 1)))
theorem scE {D : Addr} {Pv : Addr → Nat → Hp → Prop} {c : Int} {S : Int → Bool} {n : Nat} (h : H D = some (SetO w D S n)) (hn : n ≤ 1000) (q : ∀ H5, Fr [D] H H5 → H5 D = some (SetO w D (fun j => S j || decide (j = c)) (if S c = true then n else n + 1)) → Pv D (i + 1) H5) : ScE w D Pv i (.int c) H :=
  ⟨c, S, n, rfl, h, by unfold scanBound; omega, q _ (Fr.set h (by intro z e; cases e)) upd_same⟩
theorem scL {xs : List V} {g : TG} {tt : TT} {vs : List Nat} (Pv : Addr → Nat → Hp → Prop)
    (h0 : ∀ D H', H D = none → Fr [] H H' → H' D = some (SetO w D (fun _ => false) 0) → Pv D 0 H') (hl : ∀ D i H', H D = none → Pv D i H' → SqL K H' a xs)
    (hs : ∀ D i x H', H D = none → xs[i]? = some x → i < xs.length → Pv D i H' → g x (wipe σ vs) H' fun σ2 H2 => wipe σ2 vs = wipe σ vs ∧ tt σ2 H2 fun b H3 => if b = true then te σ2 H3 fun y H4 => ScE w D Pv i y H4 else Pv D (i + 1) H3)
    (hd : ∀ D H', H D = none → Pv D xs.length H' → Q (.ref D) H') : ScB w (Itl K a) g tt te vs σ Q H := by
  intro D hD
  refine ⟨fun j m G => m + j = xs.length ∧ Pv D j G, ⟨xs.length, Nat.add_zero _, h0 D _ hD (.new hD) upd_same⟩, fun j m G hh => ?_⟩
  obtain ⟨e, pv⟩ := hh
  have hq := hl D j G hD pv
  rcases Nat.lt_or_ge j xs.length with hlt | hge
  · refine Or.inr ⟨⟨xs, xs[j], hq, List.getElem?_eq_getElem hlt⟩, Pv D (j + 1), fun G' pv' => ⟨m - 1, by omega, by omega, pv'⟩, fun v G' yy => ?_⟩
    obtain ⟨rfl, hx⟩ := yy
    exact hs D j v _ hD (hx xs hq) hlt pv
  · have ej : j = xs.length := by omega
    subst ej
    exact Or.inl ⟨⟨xs, hq, Nat.le_refl _⟩, hd D G hD pv⟩
theorem w_lenO {S : Int → Bool} {n : Nat} (h : H a = some (SetO w a S n)) (q : PpSet.Holds S n → Q (.int (n : Nat)) H) : PpSet.rLenO w [.ref a] H Q := ⟨a, S, n, rfl, h, q⟩
theorem w_lenY {S : Key → Bool} {n : Nat} (h : H a = some (Sx.SetYO P w a S n)) (hi : ∀ k, S k = true → ∃ i, k = .inl i) (q : PpSet.Holds (fun i => S (.inl i)) n → Q (.int (n : Nat)) H) : Sx.rLenY P w [.ref a] H Q := ⟨a, S, n, rfl, h, hi, q⟩
/-- set of a list of ints -/
theorem w_setI {ns : List Int} {l : Addr} (h : SqL K H l (ns.map V.int)) (hz : ns.length ≤ 4000) (q : ∀ p c H1, c ≤ ns.length → H p = none → Fr [] H H1 → H1 p = some (Sx.SetYO P w p (Sx.inK (ns.map Sum.inl)) c) → Q (.ref p) H1) : Sx.rSetKs K P w [.ref l] H Q := by
  refine ⟨l, ns.map Sum.inl, rfl, ?_, by rw [List.length_map]; unfold scanBound; omega, fun p c hc n => ?_⟩
  · rw [List.map_map]
    exact h
  · rw [List.length_map] at hc
    exact q p c _ hc n (.new n) upd_same
theorem w_sortIn {ns0 : List Int} {p : Addr} {c : Nat} (h : H p = some (Sx.SetYO P w p (Sx.inK (ns0.map Sum.inl)) c)) (h64 : (∃ ys : List Int, ys.Nodup ∧ (∀ k, k ∈ ys ↔ k ∈ ns0) ∧ ys.length = c) → c < 64)
    (q : ∀ (ns : List Int) (r : Addr) H1, ns.Pairwise (· < ·) → (∀ k : Int, k ∈ ns ↔ k ∈ ns0) → ns.length = c → H r = none → Fr [] H H1 → H1 r = some (.lst (ns.map V.int)) → Q (.ref r) H1) : Sx.rSortIn P w [.ref p] H Q := by
  have mem : ∀ k : Int, Sx.inK (ns0.map Sum.inl) (Sum.inl k) = true ↔ k ∈ ns0 := fun k => by
    rw [Sx.inK_iff, List.mem_map]
    exact ⟨fun ⟨y, hy, e⟩ => Sum.inl.inj e ▸ hy, fun h => ⟨k, h, rfl⟩⟩
  refine ⟨p, _, c, rfl, h, fun ⟨ys, a1, a2, a3⟩ => h64 ⟨ys, a1, fun k => (a2 k).trans (mem k), a3⟩, fun k hk => ?_, fun ns r h1 h2 h3 n => q ns r _ h1 (fun k => (h2 k).trans (mem k)) h3 n (.new n) upd_same⟩
  obtain ⟨x, _, e⟩ := List.mem_map.mp (Sx.inK_iff.mp hk)
  exact ⟨x, e.symm⟩
/-- how many unlike: c of ns -/
theorem holds_dedup {S : Int → Bool} {n : Nat} (h : PpSet.Holds S n) : ∃ ys : List Int, ys.Nodup ∧ (∀ k, k ∈ ys ↔ S k = true) ∧ ys.length = n := h
end
end Wk
/-! C3: steps that can be; has_form, parts_of by the items -/
namespace My
open PySem L2 Wk
/-! ### forms by items -/
def wholeV (m : Int) : V → Bool
  | .int i => decide (0 ≤ i) && decide (i ≤ m)
  | _ => false
def formV : List V → Bool
  | [] => false
  | w :: r =>
    if w = .str "num" then (match r with | [x] => wholeV 999 x | _ => false)
    else if w = .str "name" then (match r with | [x] => inV x (letters.map V.str) | _ => false)
    else if inV w [.str "add", .str "less", .str "times"] then decide (r.length = 2)
    else if w = .str "say" then decide (r.length = 1)
    else decide (w = .str "ask") && decide (r.length = 0)
theorem form_cons (w : V) (r : List V) : formV (w :: r) = if w = .str "num" then (match r with | [x] => wholeV 999 x | _ => false)
    else if w = .str "name" then (match r with | [x] => inV x (letters.map V.str) | _ => false)
    else if inV w [.str "add", .str "less", .str "times"] then decide (r.length = 2)
    else if w = .str "say" then decide (r.length = 1)
    else decide (w = .str "ask") && decide (r.length = 0) := rfl
/-- an int or a text -/
def Flat2 (x : V) : Prop := (∃ i, x = .int i) ∨ ∃ z, x = .str z
/-- items that begin with a text; behind num and name ints and texts alone -/
def Items (xs : List V) : Prop := xs = [] ∨ ∃ w r, xs = .str w :: r ∧ xs.length ≤ 100 ∧ (w = "num" ∨ w = "name" → ∀ x ∈ r, Flat2 x)
def spFormG : Sp := fun vs H Q _ => (∃ (p : Addr) (xs : List V), vs = [.ref p] ∧ H p = some (.tup xs) ∧ Items xs ∧ Q (.bl (formV xs)) H) ∨ (∃ i : Int, vs = [.int i] ∧ Q (.bl false) H)
def partWords : List Str := ["say", "add", "less", "times"]
def partsV : List V → List V
  | .str w :: r => if w ∈ partWords then r else []
  | _ => []
def spPartsG : Sp := fun vs H Q _ => ∃ (p : Addr) (w : Str) (r : List V), vs = [.ref p] ∧ H p = some (.tup (.str w :: r)) ∧ r.length ≤ 100 ∧ ∀ (q : Addr) (H' : Hp), H' q = some (.tup (partsV (.str w :: r))) → Fr [] H H' → Q (.ref q) H'
theorem u_partsG {H : Hp} {Q : VK} {E : XK} {p : Addr} {w : Str} {r : List V} (h : H p = some (.tup (.str w :: r))) (hz : r.length ≤ 100) (k : ∀ (q : Addr) (H' : Hp), H' q = some (.tup (partsV (.str w :: r))) → Fr [] H H' → Q (.ref q) H') : spPartsG [.ref p] H Q E := ⟨p, w, r, rfl, h, hz, k⟩
theorem sum_items (s : Sm) (xs : List V) : ∃ r, s.vals xs = .str s.word :: r := by cases s <;> exact ⟨_, rfl⟩
theorem op_part (o : Op) : o.word ∈ partWords := by cases o <;> decide +kernel
theorem parts_yes {w : Str} {r : List V} (h : w ∈ partWords) : partsV (.str w :: r) = r := if_pos h
theorem parts_no {w : Str} {r : List V} (h : ¬ w ∈ partWords) : partsV (.str w :: r) = [] := if_neg h
theorem word_part (s : Sm) : s.word ∈ partWords ↔ s.subs ≠ [] := by
  cases s with
  | num n => exact ⟨fun h => absurd h (show ¬ ("num" : Str) ∈ partWords by decide +kernel), fun h => absurd rfl h⟩
  | name n => exact ⟨fun h => absurd h (show ¬ ("name" : Str) ∈ partWords by decide +kernel), fun h => absurd rfl h⟩
  | ask => exact ⟨fun h => absurd h (show ¬ ("ask" : Str) ∈ partWords by decide +kernel), fun h => absurd rfl h⟩
  | say s => exact ⟨fun _ => by simp [Sm.subs], fun _ => show ("say" : Str) ∈ partWords by decide +kernel⟩
  | bin o a b => exact ⟨fun _ => by simp [Sm.subs], fun _ => op_part o⟩
theorem sum_partsV {H : Hp} {s : Sm} {xs : List V} (h : AllSum H xs s.subs) : partsV (s.vals xs) = xs := by
  cases s with
  | num n => match xs, h with | [], _ => exact parts_no (by decide +kernel)
  | name n => match xs, h with | [], _ => exact parts_no (by decide +kernel)
  | ask => match xs, h with | [], _ => exact parts_no (by decide +kernel)
  | say s => exact parts_yes (by decide +kernel)
  | bin o a b => exact parts_yes (op_part o)
theorem partsOf_imp (vs : List V) (H : Hp) (Q : VK) (E : XK) (h : spPartsOf vs H Q E) : spPartsG vs H Q E := by
  obtain ⟨v, s, rfl, hs, k⟩ := h
  obtain ⟨p, xs, rfl, hp, hxs⟩ := hs.items
  obtain ⟨r, er⟩ := sum_items s xs
  have vl := vals_le hxs
  rw [er] at hp vl
  refine ⟨p, s.word, r, rfl, hp, by simp at vl; omega, fun q H' hq f => k q xs H' ?_ (hxs.mono f) f⟩
  rw [hq, ← er, sum_partsV hxs]
theorem in_letters {c : Str} : inV (.str c) (letters.map V.str) = decide (c ∈ letters) := by
  unfold inV
  rw [List.any_map]
  rw [Bool.eq_iff_iff, List.any_eq_true, decide_eq_true_eq]
  constructor
  · rintro ⟨d, hd, e⟩
    have : d = c := by simpa [eqV] using e
    exact this ▸ hd
  · intro h
    exact ⟨c, h, by simp [eqV]⟩
def Rst.ok : Rst → Prop
  | .num n => 0 ≤ n ∧ n < 1000
  | .name c => c ∈ letters
  | _ => True
theorem form_num (x : V) : formV [.str "num", x] = wholeV 999 x := by
  rw [form_cons, if_pos rfl]
theorem form_name (x : V) : formV [.str "name", x] = inV x (letters.map V.str) := by
  rw [form_cons, if_neg (by decide +kernel), if_pos rfl]
theorem form_op (o : Op) (r : List V) : formV (.str o.word :: r) = decide (r.length = 2) := by
  rw [form_cons, if_neg (by cases o <;> decide +kernel), if_neg (by cases o <;> decide +kernel), if_pos (by cases o <;> decide +kernel)]
theorem form_say (r : List V) : formV (.str "say" :: r) = decide (r.length = 1) := by
  rw [form_cons, if_neg (by decide +kernel), if_neg (by decide +kernel), if_neg (by decide +kernel), if_pos rfl]
theorem form_ask (r : List V) : formV (.str "ask" :: r) = decide (r.length = 0) := by
  rw [form_cons, if_neg (by decide +kernel), if_neg (by decide +kernel), if_neg (by decide +kernel), if_neg (by decide +kernel), decide_eq_true rfl, Bool.true_and]
theorem form_rst {r : Rst} (h : r.ok) : formV r.vals = true := by
  cases r with
  | num n =>
    show formV [.str "num", .int n] = true
    rw [form_num]
    obtain ⟨h0, h1⟩ : 0 ≤ n ∧ n < 1000 := h
    show (decide (0 ≤ n) && decide (n ≤ 999)) = true
    rw [decide_eq_true h0, decide_eq_true (by omega)]; rfl
  | name c =>
    show formV [.str "name", .str c] = true
    rw [form_name, in_letters]
    exact decide_eq_true h
  | ask => exact form_ask []
  | say b => exact form_say [_]
  | bin o b c => exact form_op o [_, _]
theorem form_sum {H : Hp} {s : Sm} {xs : List V} (h : AllSum H xs s.subs) (hok : s.ok) : formV (s.vals xs) = true := by
  cases s with
  | num n =>
    show formV [.str "num", .int n] = true
    exact form_rst (r := .num n) hok
  | name c => exact form_rst (r := .name c) hok
  | ask => exact form_ask []
  | say s =>
    show formV (.str "say" :: xs) = true
    rw [form_say]
    exact decide_eq_true h.length
  | bin o a b =>
    show formV (.str o.word :: xs) = true
    rw [form_op]
    exact decide_eq_true h.length
theorem rst_Items (r : Rst) : Items r.vals := by
  cases r with
  | num n => exact .inr ⟨"num", _, rfl, by simp [Rst.vals], fun _ x hx => by rw [List.mem_singleton.mp hx]; exact .inl ⟨n, rfl⟩⟩
  | name n => exact .inr ⟨"name", _, rfl, by simp [Rst.vals], fun _ x hx => by rw [List.mem_singleton.mp hx]; exact .inr ⟨n, rfl⟩⟩
  | ask => exact .inr ⟨"ask", _, rfl, by simp [Rst.vals], fun _ x hx => by cases hx⟩
  | say b => exact .inr ⟨"say", _, rfl, by simp [Rst.vals], fun h => by rcases h with h | h <;> exact absurd h (by decide +kernel)⟩
  | bin o b c => exact .inr ⟨o.word, _, rfl, by simp [Rst.vals], fun h => by rcases h with h | h <;> exact absurd h (by cases o <;> decide +kernel)⟩
theorem sum_Items {H : Hp} {s : Sm} {xs : List V} (h : AllSum H xs s.subs) : Items (s.vals xs) := by
  have vl := vals_le h
  cases s with
  | num n => exact .inr ⟨"num", _, rfl, by simp [Sm.vals], fun _ x hx => by rw [List.mem_singleton.mp hx]; exact .inl ⟨n, rfl⟩⟩
  | name n => exact .inr ⟨"name", _, rfl, by simp [Sm.vals], fun _ x hx => by rw [List.mem_singleton.mp hx]; exact .inr ⟨n, rfl⟩⟩
  | ask => exact .inr ⟨"ask", _, rfl, by simp [Sm.vals], fun _ x hx => by cases hx⟩
  | say b => exact .inr ⟨"say", _, rfl, by omega, fun h => by rcases h with h | h <;> exact absurd h (by decide +kernel)⟩
  | bin o b c => exact .inr ⟨o.word, _, rfl, by omega, fun h => by rcases h with h | h <;> exact absurd h (by cases o <;> decide +kernel)⟩
theorem form_imp (vs : List V) (H : Hp) (Q : VK) (E : XK) (h : spForm vs H Q E) : spFormG vs H Q E := by
  obtain ⟨v, s, rfl, hs, hok, k⟩ := h
  obtain ⟨p, xs, rfl, hp, hxs⟩ := hs.items
  exact .inl ⟨p, _, rfl, hp, sum_Items hxs, by rw [form_sum hxs hok]; exact k⟩
/-! ### steps that can be -/
def Rst.bxs : Rst → List Nat
  | .say b => [b]
  | .bin _ b c => [b, c]
  | _ => []
theorem rst_parts (r : Rst) : ∃ w, ∃ t, r.vals = .str w :: t ∧ t.length ≤ 2 ∧ partsV r.vals = r.bxs.map fun b => V.int (b : Nat) := by
  cases r with
  | num n => exact ⟨"num", _, rfl, by simp, parts_no (by decide +kernel)⟩
  | name n => exact ⟨"name", _, rfl, by simp, parts_no (by decide +kernel)⟩
  | ask => exact ⟨"ask", _, rfl, by simp, parts_no (by decide +kernel)⟩
  | say b => exact ⟨"say", _, rfl, by simp, parts_yes (by decide +kernel)⟩
  | bin o b c => exact ⟨o.word, _, rfl, by simp, parts_yes (op_part o)⟩
/-- steps that can be, where the boxes in F are filled -/
def okFrom : (Nat → Prop) → List Stp → Prop
  | _, [] => True
  | F, t :: r => t.box < 200 ∧ t.rest.ok ∧ (∀ b ∈ t.rest.bxs, b < 200 ∧ F b) ∧ okFrom (fun b => b = t.box ∨ F b) r
def okSteps (ts : List Stp) : Prop := ts ≠ [] ∧ ts.length ≤ 200 ∧ okFrom (fun _ => False) ts
def FilledAt (H : Hp) (fl : Addr) (F : Nat → Prop) (n : Nat) : Prop := ∃ kvs : List (Key × V), H fl = some (.dK kvs) ∧ kvs.length ≤ n ∧ ∀ b : Nat, (valV kvs (Sum.inl (b : Int))).isSome = true ↔ F b
def spCanBe : Sp := fun vs H Q _ => ∃ (v : V) (t : Stp) (fl : Addr) (F : Nat → Prop) (n : Nat), vs = [v, .ref fl] ∧ IsStp H v t ∧ FilledAt H fl F n ∧ t.box < 200 ∧ t.rest.ok ∧ (∀ b ∈ t.rest.bxs, b < 200 ∧ F b) ∧ ∀ H' : Hp, Fr [] H H' → Q (.bl true) H'
theorem u_canbe {H : Hp} {Q : VK} {E : XK} {v : V} {t : Stp} {fl : Addr} {F : Nat → Prop} {n : Nat} (h1 : IsStp H v t) (h2 : FilledAt H fl F n) (h3 : t.box < 200) (h4 : t.rest.ok) (h5 : ∀ b ∈ t.rest.bxs, b < 200 ∧ F b) (k : ∀ H' : Hp, Fr [] H H' → Q (.bl true) H') : spCanBe [v, .ref fl] H Q E := ⟨v, t, fl, F, n, rfl, h1, h2, h3, h4, h5, k⟩
def spGoodSteps : Sp := fun vs H Q _ => ∃ (l : Addr) (us : List V) (ts : List Stp), vs = [.ref l] ∧ H l = some (.lst us) ∧ AllStp H us ts ∧ okSteps ts ∧ ∀ H' : Hp, Fr [] H H' → Q .non H'
theorem u_goodsteps {H : Hp} {Q : VK} {E : XK} {l : Addr} {us : List V} {ts : List Stp} (h1 : H l = some (.lst us)) (h2 : AllStp H us ts) (h3 : okSteps ts) (k : ∀ H' : Hp, Fr [] H H' → Q .non H') : spGoodSteps [.ref l] H Q E := ⟨l, us, ts, rfl, h1, h2, h3, k⟩
/-- how many unlike boxes -/
def boxCount (ts : List Stp) : Nat := (ts.map Stp.box).eraseDups.length
def spBoxes : Sp := fun vs H Q _ => ∃ (l : Addr) (us : List V) (ts : List Stp), vs = [.ref l] ∧ H l = some (.lst us) ∧ AllStp H us ts ∧ okSteps ts ∧ ∀ (c : Nat) (H' : Hp), (∃ ys : List Nat, ys.Nodup ∧ (∀ x, x ∈ ys ↔ x ∈ ts.map Stp.box) ∧ ys.length = c) → Fr [] H H' → Q (.int (c : Nat)) H'
theorem u_boxes {H : Hp} {Q : VK} {E : XK} {l : Addr} {us : List V} {ts : List Stp} (h1 : H l = some (.lst us)) (h2 : AllStp H us ts) (h3 : okSteps ts) (k : ∀ (c : Nat) (H' : Hp), (∃ ys : List Nat, ys.Nodup ∧ (∀ x, x ∈ ys ↔ x ∈ ts.map Stp.box) ∧ ys.length = c) → Fr [] H H' → Q (.int (c : Nat)) H') : spBoxes [.ref l] H Q E := ⟨l, us, ts, rfl, h1, h2, h3, k⟩
theorem okFrom_at : ∀ {ts : List Stp} {F : Nat → Prop} {i : Nat} {t : Stp}, okFrom F ts → ts[i]? = some t → t.box < 200 ∧ t.rest.ok ∧ ∀ b ∈ t.rest.bxs, b < 200 ∧ (F b ∨ ∃ u ∈ ts.take i, u.box = b)
  | u :: r, F, 0, t, h, e => by
    cases e
    exact ⟨h.1, h.2.1, fun b hb => ⟨(h.2.2.1 b hb).1, .inl (h.2.2.1 b hb).2⟩⟩
  | u :: r, F, i + 1, t, h, e => by
    obtain ⟨h1, h2, h3⟩ := okFrom_at (i := i) h.2.2.2 e
    refine ⟨h1, h2, fun b hb => ⟨(h3 b hb).1, ?_⟩⟩
    rcases (h3 b hb).2 with (q | q) | ⟨w, hw, q⟩
    · exact .inr ⟨u, by simp, q.symm⟩
    · exact .inl q
    · exact .inr ⟨w, by rw [List.take_succ_cons]; exact List.mem_cons_of_mem _ hw, q⟩
theorem putK_length (kvs : List (Key × V)) (k : Key) (v : V) : (putK kvs k v).length ≤ kvs.length + 1 := by
  unfold putK
  split
  · simp
  · simp
theorem nodup_toNat : ∀ {ys : List Int}, ys.Nodup → (∀ y ∈ ys, 0 ≤ y) → (ys.map Int.toNat).Nodup
  | [], _, _ => List.nodup_nil
  | y :: r, h, p => by
    obtain ⟨h1, h2⟩ := List.nodup_cons.mp h
    refine List.nodup_cons.mpr ⟨fun m => ?_, nodup_toNat h2 fun z hz => p z (List.mem_cons_of_mem _ hz)⟩
    obtain ⟨z, hz, e⟩ := List.mem_map.mp m
    have a := p y List.mem_cons_self
    have b := p z (List.mem_cons_of_mem _ hz)
    have : z = y := by omega
    exact h1 (this ▸ hz)
end My
/-! C4: how many are held; the boxes of laid steps; orders -/
namespace My
open PySem L2 Wk
def Sm.lay (tw : Sm → Bool) : Sm → Nat → List Stp
  | .num n, k => [⟨k, .num n⟩]
  | .name c, k => [⟨k, .name c⟩]
  | .ask, k => [⟨k, .ask⟩]
  | .say s, k => s.lay tw k ++ [⟨k, .say k⟩]
  | .bin o a b, k => if tw (.bin o a b) then b.lay tw k ++ a.lay tw (k + 1) ++ [⟨k, .bin o (k + 1) k⟩] else a.lay tw k ++ b.lay tw (k + 1) ++ [⟨k, .bin o k (k + 1)⟩]
theorem least_lay : ∀ (s : Sm) (k : Nat), s.least k = s.lay Sm.turn k
  | .num _, _ => rfl
  | .name _, _ => rfl
  | .ask, _ => rfl
  | .say s, k => by simp only [Sm.least, Sm.lay, least_lay s]
  | .bin o a b, k => by simp only [Sm.least, Sm.lay, least_lay a, least_lay b]
theorem tight_lay : ∀ (s : Sm) (k : Nat), s.tight k = s.lay (fun _ => false) k
  | .num _, _ => rfl
  | .name _, _ => rfl
  | .ask, _ => rfl
  | .say s, k => by simp only [Sm.tight, Sm.lay, tight_lay s]
  | .bin o a b, k => by simp [Sm.tight, Sm.lay, tight_lay a, tight_lay b]
def Sm.need (tw : Sm → Bool) : Sm → Nat
  | .say s => s.need tw
  | .bin o a b => if tw (.bin o a b) then max (b.need tw) (a.need tw + 1) else max (a.need tw) (b.need tw + 1)
  | _ => 1
theorem Sm.need_pos (tw : Sm → Bool) : ∀ s : Sm, 1 ≤ s.need tw
  | .num _ => Nat.le_refl 1
  | .name _ => Nat.le_refl 1
  | .ask => Nat.le_refl 1
  | .say s => Sm.need_pos tw s
  | .bin o a b => by
    have := Sm.need_pos tw a
    have := Sm.need_pos tw b
    simp only [Sm.need]
    split <;> omega
theorem need_many : ∀ s : Sm, s.need Sm.turn = s.many
  | .num _ => rfl
  | .name _ => rfl
  | .ask => rfl
  | .say s => by
    have := s.many_pos
    simp only [Sm.need, Sm.many, boxesIn, boxesFrom, need_many s]
    omega
  | .bin o a b => by
    have h1 := a.many_pos
    have h2 := b.many_pos
    rw [Sm.many_eq]
    simp only [Sm.need, need_many a, need_many b, Sm.subs, List.map_cons, List.map_nil, List.reverse_cons, List.reverse_nil, List.nil_append, List.singleton_append, boxesIn, boxesFrom]
    cases (Sm.bin o a b).turn
    · rw [if_neg Bool.false_ne_true, if_neg Bool.false_ne_true]; omega
    · rw [if_pos rfl, if_pos rfl]; omega
theorem many_le_need : ∀ s : Sm, s.many ≤ s.need (fun _ => false)
  | .num _ => Nat.le_refl 1
  | .name _ => Nat.le_refl 1
  | .ask => Nat.le_refl 1
  | .say s => by
    have := many_le_need s
    have := s.many_pos
    simp only [Sm.need, Sm.many, boxesIn, boxesFrom]
    omega
  | .bin o a b => by
    have h1 := many_le_need a
    have h2 := many_le_need b
    have h3 := a.many_pos
    have h4 : (Sm.bin o a b).many ≤ boxesIn [a.many, b.many] := by
      rw [Sm.many_eq, Sm.turn_eq]
      simp only [Sm.subs, List.map_cons, List.map_nil, List.reverse_cons, List.reverse_nil, List.nil_append, List.singleton_append]
      by_cases c : boxesIn [b.many, a.many] < boxesIn [a.many, b.many]
      · exact ite_le (Nat.le_of_lt c) (Nat.le_refl _)
      · rw [decide_eq_false c, Bool.false_and, if_neg Bool.false_ne_true]; exact Nat.le_refl _
    simp only [boxesIn, boxesFrom] at h4
    simp only [Sm.need, Bool.false_eq_true, if_false]
    omega
/-- first and second in the order told -/
def Sm.fst (tw : Sm → Bool) (o : Op) (a b : Sm) : Sm := if tw (.bin o a b) then b else a
def Sm.snd (tw : Sm → Bool) (o : Op) (a b : Sm) : Sm := if tw (.bin o a b) then a else b
def Rst.flip (tw : Sm → Bool) (o : Op) (a b : Sm) (k : Nat) : Rst := if tw (.bin o a b) then .bin o (k + 1) k else .bin o k (k + 1)
theorem lay_bin (tw : Sm → Bool) (o : Op) (a b : Sm) (k : Nat) : (Sm.bin o a b).lay tw k = (Sm.fst tw o a b).lay tw k ++ (Sm.snd tw o a b).lay tw (k + 1) ++ [⟨k, Rst.flip tw o a b k⟩] := by
  simp only [Sm.lay, Sm.fst, Sm.snd, Rst.flip]
  cases tw (.bin o a b) <;> rfl
theorem need_bin (tw : Sm → Bool) (o : Op) (a b : Sm) : (Sm.bin o a b).need tw = max ((Sm.fst tw o a b).need tw) ((Sm.snd tw o a b).need tw + 1) := by
  simp only [Sm.need, Sm.fst, Sm.snd]
  cases tw (.bin o a b) <;> rfl
theorem flip_bxs (tw : Sm → Bool) (o : Op) (a b : Sm) (k : Nat) : ∀ c, c ∈ (Rst.flip tw o a b k).bxs ↔ c = k ∨ c = k + 1 := by
  intro c
  unfold Rst.flip
  cases tw (.bin o a b)
  · simp [Rst.bxs]
  · simp [Rst.bxs, or_comm]
theorem size_bin (tw : Sm → Bool) (o : Op) (a b : Sm) : (Sm.bin o a b).size = (Sm.fst tw o a b).size + (Sm.snd tw o a b).size + 1 := by
  show a.size + b.size + 1 = _
  unfold Sm.fst Sm.snd
  cases tw (.bin o a b)
  · rfl
  · show _ = b.size + a.size + 1
    omega
/-- by the order told -/
theorem Sm.byLay {p : Sm → Prop} (tw : Sm → Bool) (hn : ∀ n, p (.num n)) (hc : ∀ c, p (.name c)) (ha : p .ask) (hs : ∀ s, p s → p (.say s)) (hb : ∀ o a b, p (Sm.fst tw o a b) → p (Sm.snd tw o a b) → p (.bin o a b)) : ∀ s, p s
  | .num n => hn n
  | .name c => hc c
  | .ask => ha
  | .say s => hs s (Sm.byLay tw hn hc ha hs hb s)
  | .bin o a b => hb o a b (by unfold Sm.fst; split; exact Sm.byLay tw hn hc ha hs hb b; exact Sm.byLay tw hn hc ha hs hb a) (by unfold Sm.snd; split; exact Sm.byLay tw hn hc ha hs hb a; exact Sm.byLay tw hn hc ha hs hb b)
theorem lay_length (tw : Sm → Bool) (s : Sm) : ∀ k : Nat, (s.lay tw k).length = s.size := by
  refine Sm.byLay (p := fun s => ∀ k : Nat, (s.lay tw k).length = s.size) tw (fun _ _ => rfl) (fun _ _ => rfl) (fun _ => rfl) (fun s ih k => ?_) (fun o a b h1 h2 k => ?_) s
  · show (s.lay tw k ++ [_]).length = s.size + 1
    rw [List.length_append, ih]; rfl
  · rw [lay_bin, List.length_append, List.length_append, h1, h2, size_bin tw]; rfl
/-! ### the boxes -/
theorem lay_boxes (tw : Sm → Bool) (s : Sm) : ∀ k c : Nat, c ∈ (s.lay tw k).map Stp.box ↔ k ≤ c ∧ c < k + s.need tw := by
  refine Sm.byLay (p := fun s => ∀ k c : Nat, c ∈ (s.lay tw k).map Stp.box ↔ k ≤ c ∧ c < k + s.need tw) tw ?_ ?_ ?_ (fun s ih k c => ?_) (fun o a b h1 h2 k c => ?_) s
  · intro n k c
    show c ∈ [k] ↔ k ≤ c ∧ c < k + 1
    rw [List.mem_singleton]; omega
  · intro n k c
    show c ∈ [k] ↔ k ≤ c ∧ c < k + 1
    rw [List.mem_singleton]; omega
  · intro k c
    show c ∈ [k] ↔ k ≤ c ∧ c < k + 1
    rw [List.mem_singleton]; omega
  · show c ∈ (s.lay tw k ++ [_]).map Stp.box ↔ k ≤ c ∧ c < k + s.need tw
    have := s.need_pos tw
    rw [List.map_append, List.mem_append, ih]
    show _ ∨ c ∈ [k] ↔ _
    rw [List.mem_singleton]; omega
  · rw [lay_bin, need_bin, List.map_append, List.map_append, List.mem_append, List.mem_append, h1, h2]
    show _ ∨ c ∈ [k] ↔ _
    have := (Sm.fst tw o a b).need_pos tw
    have := (Sm.snd tw o a b).need_pos tw
    rw [List.mem_singleton]; omega
theorem card_range : ∀ {n : Nat} {ys : List Nat}, ys.Nodup → (∀ x, x ∈ ys ↔ x < n) → ys.length = n := by
  intro n ys h1 h2
  have p : ys.Perm (List.range n) := (List.perm_ext_iff_of_nodup h1 List.nodup_range).mpr fun x => by rw [h2, List.mem_range]
  rw [p.length_eq, List.length_range]
/-- steps that can be, before others -/
theorem okFrom_app : ∀ {A B : List Stp} {F : Nat → Prop}, okFrom F A → okFrom (fun b => b ∈ A.map Stp.box ∨ F b) B → okFrom F (A ++ B)
  | [], B, F, _, h => okFrom_imp h fun b hb => by simpa using hb
  | t :: r, B, F, h, h' => ⟨h.1, h.2.1, h.2.2.1, okFrom_app h.2.2.2 (okFrom_imp h' fun b hb => by
      rcases hb with hb | hb
      · rcases List.mem_cons.mp hb with e | m
        · exact .inr (.inl e)
        · exact .inl m
      · exact .inr (.inr hb))⟩
where
  okFrom_imp : ∀ {A : List Stp} {F G : Nat → Prop}, okFrom F A → (∀ b, F b → G b) → okFrom G A
    | [], _, _, _, _ => trivial
    | t :: r, F, G, h, k => ⟨h.1, h.2.1, fun b hb => ⟨(h.2.2.1 b hb).1, k b (h.2.2.1 b hb).2⟩, okFrom_imp h.2.2.2 fun b hb => by
        rcases hb with q | q
        · exact .inl q
        · exact .inr (k b q)⟩
theorem lay_ok (tw : Sm → Bool) (s : Sm) : s.ok → ∀ (k : Nat) (F : Nat → Prop), k + s.need tw ≤ 200 → okFrom F (s.lay tw k) := by
  refine Sm.byLay (p := fun s => s.ok → ∀ (k : Nat) (F : Nat → Prop), k + s.need tw ≤ 200 → okFrom F (s.lay tw k)) tw ?_ ?_ ?_ (fun s ih h k F hk => ?_) (fun o a b h1 h2 h k F hk => ?_) s
  · intro n h k F hk
    have hk' : k + 1 ≤ 200 := hk
    exact ⟨by show k < 200; omega, h, fun b hb => (by cases hb), trivial⟩
  · intro n h k F hk
    have hk' : k + 1 ≤ 200 := hk
    exact ⟨by show k < 200; omega, h, fun b hb => (by cases hb), trivial⟩
  · intro h k F hk
    have hk' : k + 1 ≤ 200 := hk
    exact ⟨by show k < 200; omega, trivial, fun b hb => (by cases hb), trivial⟩
  · have np := s.need_pos tw
    have hk' : k + s.need tw ≤ 200 := hk
    refine okFrom_app (ih h k F hk) ⟨by show k < 200; omega, trivial, fun b hb => ?_, trivial⟩
    rw [show b = k from List.mem_singleton.mp hb]
    exact ⟨by omega, .inl ((lay_boxes tw s k k).mpr ⟨Nat.le_refl _, by omega⟩)⟩
  · have n1 := (Sm.fst tw o a b).need_pos tw
    have n2 := (Sm.snd tw o a b).need_pos tw
    rw [need_bin] at hk
    have o1 : (Sm.fst tw o a b).ok := by unfold Sm.fst; split; exact h.2; exact h.1
    have o2 : (Sm.snd tw o a b).ok := by unfold Sm.snd; split; exact h.1; exact h.2
    rw [lay_bin, List.append_assoc]
    refine okFrom_app (h1 o1 k F (by omega)) (okFrom_app (h2 o2 (k + 1) _ (by omega)) ⟨by show k < 200; omega, ?_, fun c hc => ?_, trivial⟩)
    · unfold Rst.flip; split <;> trivial
    · rcases (flip_bxs tw o a b k c).mp hc with e | e
      · rw [e]
        exact ⟨by omega, .inr (.inl ((lay_boxes tw _ k k).mpr ⟨Nat.le_refl _, by omega⟩))⟩
      · rw [e]
        exact ⟨by omega, .inl ((lay_boxes tw _ (k + 1) (k + 1)).mpr ⟨Nat.le_refl _, by omega⟩)⟩
theorem need_le (tw : Sm → Bool) (s : Sm) : s.need tw ≤ s.size := by
  refine Sm.byLay (p := fun s => s.need tw ≤ s.size) tw (fun _ => Nat.le_refl 1) (fun _ => Nat.le_refl 1) (Nat.le_refl 1) (fun s ih => ?_) (fun o a b h1 h2 => ?_) s
  · exact Nat.le_succ_of_le ih
  · have := (Sm.fst tw o a b).size_pos
    have := (Sm.snd tw o a b).size_pos
    rw [need_bin, size_bin tw]
    omega
theorem lay_okSteps (tw : Sm → Bool) {s : Sm} (h : s.ok) (hz : s.size ≤ 60) : okSteps (s.lay tw 0) := by
  have hl := lay_length tw s 0
  have := s.size_pos
  have := need_le tw s
  exact ⟨fun e => by rw [e] at hl; simp at hl; omega, by omega, lay_ok tw s h 0 _ (by omega)⟩
/-! cut -/
theorem cut_box : ∀ (s : Sm) (k : Nat), (s.cut k).map Stp.box = (List.range s.size).map (k + ·)
  | .num _, k => by simp [Sm.cut, Sm.size, List.range_succ]
  | .name _, k => by simp [Sm.cut, Sm.size, List.range_succ]
  | .ask, k => by simp [Sm.cut, Sm.size, List.range_succ]
  | .say s, k => by
    show (s.cut k ++ [_]).map Stp.box = (List.range (s.size + 1)).map (k + ·)
    rw [List.map_append, cut_box s, List.range_succ, List.map_append]
    rfl
  | .bin o a b, k => by
    show (a.cut k ++ b.cut (k + a.size) ++ [_]).map Stp.box = (List.range (a.size + b.size + 1)).map (k + ·)
    rw [List.map_append, List.map_append, cut_box a, cut_box b, List.range_succ, List.map_append, List.range_add, List.map_append, List.map_map]
    simp [Function.comp_def, Nat.add_assoc]
theorem cut_ok : ∀ (s : Sm), s.ok → ∀ (k : Nat) (F : Nat → Prop), k + s.size ≤ 200 → okFrom F (s.cut k)
  | .num n, h, k, F, hk => ⟨by have : k + 1 ≤ 200 := hk; show k < 200; omega, h, fun b hb => (by cases hb), trivial⟩
  | .name n, h, k, F, hk => ⟨by have : k + 1 ≤ 200 := hk; show k < 200; omega, h, fun b hb => (by cases hb), trivial⟩
  | .ask, h, k, F, hk => ⟨by have : k + 1 ≤ 200 := hk; show k < 200; omega, trivial, fun b hb => (by cases hb), trivial⟩
  | .say s, h, k, F, hk => by
    have hk' : k + (s.size + 1) ≤ 200 := hk
    have sp := s.size_pos
    refine okFrom_app (cut_ok s h k F (by omega)) ⟨by show k + s.size < 200; omega, trivial, fun b hb => ?_, trivial⟩
    rw [show b = k + s.size - 1 from List.mem_singleton.mp hb]
    exact ⟨by omega, .inl (by rw [cut_box, List.mem_map]; exact ⟨s.size - 1, List.mem_range.mpr (by omega), by omega⟩)⟩
  | .bin o a b, h, k, F, hk => by
    have hk' : k + (a.size + b.size + 1) ≤ 200 := hk
    have sa := a.size_pos
    have sb := b.size_pos
    show okFrom F (a.cut k ++ b.cut (k + a.size) ++ [_])
    rw [List.append_assoc]
    refine okFrom_app (cut_ok a h.1 k F (by omega)) (okFrom_app (cut_ok b h.2 (k + a.size) _ (by omega)) ⟨by show k + a.size + b.size < 200; omega, trivial, fun c hc => ?_, trivial⟩)
    have hc' : c = k + a.size - 1 ∨ c = k + a.size + b.size - 1 := by simpa [Rst.bxs] using hc
    rcases hc' with e | e
    · rw [e]
      exact ⟨by omega, .inr (.inl (by rw [cut_box, List.mem_map]; exact ⟨a.size - 1, List.mem_range.mpr (by omega), by omega⟩))⟩
    · rw [e]
      exact ⟨by omega, .inl (by rw [cut_box, List.mem_map]; exact ⟨b.size - 1, List.mem_range.mpr (by omega), by omega⟩)⟩
theorem cut_okSteps {s : Sm} (h : s.ok) (hz : s.size ≤ 60) : okSteps (s.cut 0) := by
  have hl := Sm.cut_length s 0
  have := s.size_pos
  exact ⟨fun e => by rw [e] at hl; simp at hl; omega, by omega, cut_ok s h 0 _ (by omega)⟩
/-! ### who uses what, how many are held -/
def Sm.users (tw : Sm → Bool) : Sm → Nat → Nat → List Nat
  | .num _, _, u => [u]
  | .name _, _, u => [u]
  | .ask, _, u => [u]
  | .say s, m, u => s.users tw m (m + s.size) ++ [u]
  | .bin o a b, m, u => if tw (.bin o a b) then b.users tw m (m + b.size + a.size) ++ a.users tw (m + b.size) (m + b.size + a.size) ++ [u] else a.users tw m (m + a.size + b.size) ++ b.users tw (m + a.size) (m + a.size + b.size) ++ [u]
theorem users_bin (tw : Sm → Bool) (o : Op) (a b : Sm) (m u : Nat) : (Sm.bin o a b).users tw m u =
    (Sm.fst tw o a b).users tw m (m + (Sm.fst tw o a b).size + (Sm.snd tw o a b).size) ++ (Sm.snd tw o a b).users tw (m + (Sm.fst tw o a b).size) (m + (Sm.fst tw o a b).size + (Sm.snd tw o a b).size) ++ [u] := by
  simp only [Sm.users, Sm.fst, Sm.snd]
  cases tw (.bin o a b) <;> rfl
theorem users_length (tw : Sm → Bool) (s : Sm) : ∀ m u : Nat, (s.users tw m u).length = s.size := by
  refine Sm.byLay (p := fun s => ∀ m u : Nat, (s.users tw m u).length = s.size) tw (fun _ _ _ => rfl) (fun _ _ _ => rfl) (fun _ _ => rfl) (fun s ih m u => ?_) (fun o a b h1 h2 m u => ?_) s
  · show (s.users tw m _ ++ [_]).length = s.size + 1
    rw [List.length_append, ih]; rfl
  · rw [users_bin, List.length_append, List.length_append, h1, h2, size_bin tw]; rfl
def cntm : List Nat → Nat → Nat → Nat
  | [], _, _ => 0
  | v :: r, m, k => (if m ≤ k ∧ k < v then 1 else 0) + cntm r (m + 1) k
theorem cntm_app : ∀ (A B : List Nat) (m k : Nat), cntm (A ++ B) m k = cntm A m k + cntm B (m + A.length) k
  | [], B, m, k => by simp [cntm]
  | v :: r, B, m, k => by
    show (if m ≤ k ∧ k < v then 1 else 0) + cntm (r ++ B) (m + 1) k = (if m ≤ k ∧ k < v then 1 else 0) + cntm r (m + 1) k + cntm B (m + (r.length + 1)) k
    have e : m + 1 + r.length = m + (r.length + 1) := by omega
    rw [cntm_app r B, e, Nat.add_assoc]
theorem cntm_early : ∀ (A : List Nat) (m k : Nat), k < m → cntm A m k = 0
  | [], _, _, _ => rfl
  | v :: r, m, k, h => by
    show (if m ≤ k ∧ k < v then 1 else 0) + cntm r (m + 1) k = 0
    rw [if_neg (by omega), cntm_early r (m + 1) k (by omega)]
theorem cntm_one (u m k : Nat) : cntm [u] m k = if m ≤ k ∧ k < u then 1 else 0 := by simp [cntm]
theorem users_late (tw : Sm → Bool) (s : Sm) : ∀ m u k : Nat, m + s.size ≤ k → m + s.size ≤ u → cntm (s.users tw m u) m k = if k < u then 1 else 0 := by
  refine Sm.byLay (p := fun s => ∀ m u k : Nat, m + s.size ≤ k → m + s.size ≤ u → cntm (s.users tw m u) m k = if k < u then 1 else 0) tw ?_ ?_ ?_ (fun s ih m u k hk hu => ?_) (fun o a b h1 h2 m u k hk hu => ?_) s
  · intro n m u k hk hu
    have hk' : m + 1 ≤ k := hk
    show cntm [u] m k = _
    rw [cntm_one]
    by_cases c : k < u
    · rw [if_pos ⟨by omega, c⟩, if_pos c]
    · rw [if_neg (by omega), if_neg c]
  · intro n m u k hk hu
    have hk' : m + 1 ≤ k := hk
    show cntm [u] m k = _
    rw [cntm_one]
    by_cases c : k < u
    · rw [if_pos ⟨by omega, c⟩, if_pos c]
    · rw [if_neg (by omega), if_neg c]
  · intro m u k hk hu
    have hk' : m + 1 ≤ k := hk
    show cntm [u] m k = _
    rw [cntm_one]
    by_cases c : k < u
    · rw [if_pos ⟨by omega, c⟩, if_pos c]
    · rw [if_neg (by omega), if_neg c]
  · have hk' : m + (s.size + 1) ≤ k := hk
    show cntm (s.users tw m (m + s.size) ++ [u]) m k = _
    rw [cntm_app, users_length, ih m (m + s.size) k (by omega) (by omega), cntm_one, if_neg (by omega : ¬ k < m + s.size), Nat.zero_add]
    by_cases c : k < u
    · rw [if_pos ⟨by omega, c⟩, if_pos c]
    · rw [if_neg (by omega), if_neg c]
  · rw [size_bin tw] at hk hu
    rw [users_bin, cntm_app, cntm_app, List.length_append, users_length, users_length, h1 _ _ k (by omega) (by omega), h2 _ _ k (by omega) (by omega), cntm_one, if_neg (by omega), Nat.zero_add]
    by_cases c : k < u
    · rw [if_pos ⟨by omega, c⟩, if_pos c]
    · rw [if_neg (by omega), if_neg c]
/-- at each of its own steps no more than need, at one just so many -/
theorem users_need (tw : Sm → Bool) (s : Sm) : ∀ m u : Nat, m + s.size ≤ u → (∀ k, m ≤ k → k < m + s.size → cntm (s.users tw m u) m k ≤ s.need tw) ∧ ∃ k, m ≤ k ∧ k < m + s.size ∧ cntm (s.users tw m u) m k = s.need tw := by
  refine Sm.byLay (p := fun s => ∀ m u : Nat, m + s.size ≤ u → (∀ k, m ≤ k → k < m + s.size → cntm (s.users tw m u) m k ≤ s.need tw) ∧ ∃ k, m ≤ k ∧ k < m + s.size ∧ cntm (s.users tw m u) m k = s.need tw) tw ?_ ?_ ?_ (fun s ih m u hu => ?_) (fun o a b h1 h2 m u hu => ?_) s
  · intro n m u hu
    have hu' : m + 1 ≤ u := hu
    refine ⟨fun k _ _ => by show cntm [u] m k ≤ 1; rw [cntm_one]; split <;> omega, m, Nat.le_refl _, by show m < m + 1; omega, ?_⟩
    show cntm [u] m m = 1
    rw [cntm_one, if_pos (by omega)]
  · intro n m u hu
    have hu' : m + 1 ≤ u := hu
    refine ⟨fun k _ _ => by show cntm [u] m k ≤ 1; rw [cntm_one]; split <;> omega, m, Nat.le_refl _, by show m < m + 1; omega, ?_⟩
    show cntm [u] m m = 1
    rw [cntm_one, if_pos (by omega)]
  · intro m u hu
    have hu' : m + 1 ≤ u := hu
    refine ⟨fun k _ _ => by show cntm [u] m k ≤ 1; rw [cntm_one]; split <;> omega, m, Nat.le_refl _, by show m < m + 1; omega, ?_⟩
    show cntm [u] m m = 1
    rw [cntm_one, if_pos (by omega)]
  · have hu' : m + (s.size + 1) ≤ u := hu
    have np := s.need_pos tw
    obtain ⟨i1, k0, a1, a2, a3⟩ := ih m (m + s.size) (Nat.le_refl _)
    refine ⟨fun k g1 g2 => ?_, k0, a1, by show k0 < m + (s.size + 1); omega, ?_⟩
    · show cntm (s.users tw m (m + s.size) ++ [u]) m k ≤ s.need tw
      rw [cntm_app, users_length, cntm_one]
      rcases Nat.lt_or_ge k (m + s.size) with c | c
      · have := i1 k g1 c
        rw [if_neg (by omega)]; omega
      · rw [users_late tw s m (m + s.size) k c (Nat.le_refl _), if_neg (by omega)]
        split <;> omega
    · show cntm (s.users tw m (m + s.size) ++ [u]) m k0 = s.need tw
      rw [cntm_app, users_length, cntm_one, if_neg (by omega), a3]
      rfl
  · have n1 := (Sm.fst tw o a b).need_pos tw
    have n2 := (Sm.snd tw o a b).need_pos tw
    have p1 := (Sm.fst tw o a b).size_pos
    have p2 := (Sm.snd tw o a b).size_pos
    rw [size_bin tw] at hu ⊢
    obtain ⟨i1, k1, a1, a2, a3⟩ := h1 m (m + (Sm.fst tw o a b).size + (Sm.snd tw o a b).size) (by omega)
    obtain ⟨i2, k2, b1, b2, b3⟩ := h2 (m + (Sm.fst tw o a b).size) (m + (Sm.fst tw o a b).size + (Sm.snd tw o a b).size) (by omega)
    have val : ∀ k, cntm ((Sm.bin o a b).users tw m u) m k = cntm ((Sm.fst tw o a b).users tw m (m + (Sm.fst tw o a b).size + (Sm.snd tw o a b).size)) m k +
        cntm ((Sm.snd tw o a b).users tw (m + (Sm.fst tw o a b).size) (m + (Sm.fst tw o a b).size + (Sm.snd tw o a b).size)) (m + (Sm.fst tw o a b).size) k + (if m + (Sm.fst tw o a b).size + (Sm.snd tw o a b).size ≤ k ∧ k < u then 1 else 0) := fun k => by
      rw [users_bin, cntm_app, cntm_app, List.length_append, users_length, users_length, cntm_one, ← Nat.add_assoc]
    have inF : ∀ k, m ≤ k → k < m + (Sm.fst tw o a b).size → cntm ((Sm.bin o a b).users tw m u) m k = cntm ((Sm.fst tw o a b).users tw m (m + (Sm.fst tw o a b).size + (Sm.snd tw o a b).size)) m k := fun k g1 g2 => by
      rw [val k, cntm_early _ _ k g2, if_neg (by omega)]; rfl
    have inS : ∀ k, m + (Sm.fst tw o a b).size ≤ k → k < m + (Sm.fst tw o a b).size + (Sm.snd tw o a b).size → cntm ((Sm.bin o a b).users tw m u) m k = 1 + cntm ((Sm.snd tw o a b).users tw (m + (Sm.fst tw o a b).size) (m + (Sm.fst tw o a b).size + (Sm.snd tw o a b).size)) (m + (Sm.fst tw o a b).size) k := fun k g1 g2 => by
      rw [val k, users_late tw _ m _ k g1 (by omega), if_pos g2, if_neg (by omega), Nat.add_zero]
    rw [need_bin]
    refine ⟨fun k g1 g2 => ?_, ?_⟩
    · rcases Nat.lt_or_ge k (m + (Sm.fst tw o a b).size) with c | c
      · rw [inF k g1 c]
        have := i1 k g1 c
        omega
      · rcases Nat.lt_or_ge k (m + (Sm.fst tw o a b).size + (Sm.snd tw o a b).size) with c2 | c2
        · rw [inS k c c2]
          have := i2 k c c2
          omega
        · rw [val k, users_late tw _ m _ k c (by omega), users_late tw _ _ _ k c2 (by omega), if_neg (by omega)]
          split <;> omega
    · rcases Nat.le_total ((Sm.fst tw o a b).need tw) ((Sm.snd tw o a b).need tw + 1) with c | c
      · exact ⟨k2, by omega, by omega, by rw [inS k2 b1 b2, b3]; omega⟩
      · exact ⟨k1, a1, by omega, by rw [inF k1 a1 a2, a3]; omega⟩
end My
/-! C5: _law_held and _law_orders -/
namespace My
open PySem L2 Wk
def upN (W : Nat → Option Nat) (b k : Nat) : Nat → Option Nat := fun c => if c = b then some k else W c
def upL (L W : Nat → Option Nat) (bs : List Nat) (k : Nat) : Nat → Option Nat := fun j => if j ∈ bs.filterMap W then some k else L j
def whF : List Stp → Nat → (Nat → Option Nat) → Nat → Option Nat
  | [], _, W => W
  | t :: r, k, W => whF r (k + 1) (upN W t.box k)
def laF : List Stp → Nat → (Nat → Option Nat) → (Nat → Option Nat) → Nat → Option Nat
  | [], _, _, L => L
  | t :: r, k, W, L => laF r (k + 1) (upN W t.box k) (upL L W t.rest.bxs k)
theorem whF_app : ∀ (A B : List Stp) (k : Nat) (W : Nat → Option Nat), whF (A ++ B) k W = whF B (k + A.length) (whF A k W)
  | [], _, _, _ => rfl
  | t :: r, B, k, W => by
    have e : k + 1 + r.length = k + (r.length + 1) := by omega
    show whF (r ++ B) (k + 1) (upN W t.box k) = whF B (k + (r.length + 1)) (whF r (k + 1) (upN W t.box k))
    rw [whF_app r B, e]
theorem laF_app : ∀ (A B : List Stp) (k : Nat) (W L : Nat → Option Nat), laF (A ++ B) k W L = laF B (k + A.length) (whF A k W) (laF A k W L)
  | [], _, _, _, _ => rfl
  | t :: r, B, k, W, L => by
    have e : k + 1 + r.length = k + (r.length + 1) := by omega
    show laF (r ++ B) (k + 1) (upN W t.box k) (upL L W t.rest.bxs k) = laF B (k + (r.length + 1)) (whF r (k + 1) (upN W t.box k)) (laF r (k + 1) (upN W t.box k) (upL L W t.rest.bxs k))
    rw [laF_app r B, e]
theorem users_last (tw : Sm → Bool) (s : Sm) (m u : Nat) : (s.users tw m u)[s.size - 1]? = some u := by
  have hl := users_length tw s m u
  cases s with
  | num n => rfl
  | name n => rfl
  | ask => rfl
  | say s =>
    show (s.users tw m (m + s.size) ++ [u])[s.size + 1 - 1]? = some u
    rw [List.getElem?_append_right (by rw [users_length]; omega), users_length]
    simp
  | bin o a b =>
    rw [users_bin, size_bin tw, List.getElem?_append_right (by rw [List.length_append, users_length, users_length]; omega), List.length_append, users_length, users_length]
    simp
theorem mem_fm {bs : List Nat} {W : Nat → Option Nat} {j : Nat} : j ∈ bs.filterMap W ↔ ∃ c ∈ bs, W c = some j := List.mem_filterMap
/-- what laid steps leave: where their box comes from, who uses what -/
theorem lay_runs (tw : Sm → Bool) (s : Sm) : ∀ (m k : Nat) (W L : Nat → Option Nat), (whF (s.lay tw k) m W k = some (m + s.size - 1) ∧ ∀ c, c < k → whF (s.lay tw k) m W c = W c) ∧
    ∀ u j, laF (s.lay tw k) m W L j = if m ≤ j ∧ j + 1 < m + s.size then (s.users tw m u)[j - m]? else L j := by
  refine Sm.byLay (p := fun s => ∀ (m k : Nat) (W L : Nat → Option Nat), (whF (s.lay tw k) m W k = some (m + s.size - 1) ∧ ∀ c, c < k → whF (s.lay tw k) m W c = W c) ∧
    ∀ u j, laF (s.lay tw k) m W L j = if m ≤ j ∧ j + 1 < m + s.size then (s.users tw m u)[j - m]? else L j) tw ?_ ?_ ?_ (fun s ih m k W L => ?_) (fun o a b h1 h2 m k W L => ?_) s
  · intro n m k W L
    refine ⟨⟨?_, fun c hc => ?_⟩, fun u j => ?_⟩
    · show (if k = k then some m else W k) = some (m + 1 - 1)
      rw [if_pos rfl]; rfl
    · show (if c = k then some m else W c) = W c
      rw [if_neg (by omega)]
    · show (if j ∈ ([] : List Nat).filterMap W then some m else L j) = _
      rw [if_neg (by simp)]
      exact (if_neg (show ¬ (m ≤ j ∧ j + 1 < m + 1) by omega)).symm
  · intro n m k W L
    refine ⟨⟨?_, fun c hc => ?_⟩, fun u j => ?_⟩
    · show (if k = k then some m else W k) = some (m + 1 - 1)
      rw [if_pos rfl]; rfl
    · show (if c = k then some m else W c) = W c
      rw [if_neg (by omega)]
    · show (if j ∈ ([] : List Nat).filterMap W then some m else L j) = _
      rw [if_neg (by simp)]
      exact (if_neg (show ¬ (m ≤ j ∧ j + 1 < m + 1) by omega)).symm
  · intro m k W L
    refine ⟨⟨?_, fun c hc => ?_⟩, fun u j => ?_⟩
    · show (if k = k then some m else W k) = some (m + 1 - 1)
      rw [if_pos rfl]; rfl
    · show (if c = k then some m else W c) = W c
      rw [if_neg (by omega)]
    · show (if j ∈ ([] : List Nat).filterMap W then some m else L j) = _
      rw [if_neg (by simp)]
      exact (if_neg (show ¬ (m ≤ j ∧ j + 1 < m + 1) by omega)).symm
  · obtain ⟨⟨w1, w2⟩, l1⟩ := ih m k W L
    have sp := s.size_pos
    show (whF (s.lay tw k ++ [_]) m W k = some (m + (s.size + 1) - 1) ∧ ∀ c, c < k → whF (s.lay tw k ++ [_]) m W c = W c) ∧ ∀ u j, laF (s.lay tw k ++ [_]) m W L j = if m ≤ j ∧ j + 1 < m + (s.size + 1) then (s.users tw m (m + s.size) ++ [u])[j - m]? else L j
    rw [whF_app, laF_app, lay_length]
    refine ⟨⟨?_, fun c hc => ?_⟩, fun u j => ?_⟩
    · show (if k = k then some (m + s.size) else _) = _
      rw [if_pos rfl]; rfl
    · show (if c = k then some (m + s.size) else whF (s.lay tw k) m W c) = W c
      rw [if_neg (by omega), w2 c hc]
    · show (if j ∈ [k].filterMap (whF (s.lay tw k) m W) then some (m + s.size) else laF (s.lay tw k) m W L j) = _
      have fm : [k].filterMap (whF (s.lay tw k) m W) = [m + s.size - 1] := by simp [w1]
      have mem : j ∈ [k].filterMap (whF (s.lay tw k) m W) ↔ j = m + s.size - 1 := by rw [fm, List.mem_singleton]
      rw [l1 (m + s.size) j]
      by_cases c : j = m + s.size - 1
      · rw [if_pos (mem.mpr c), if_pos (by omega), List.getElem?_append_left (by rw [users_length]; omega)]
        have : j - m = s.size - 1 := by omega
        rw [this, users_last]
      · rw [if_neg (fun q => c (mem.mp q))]
        by_cases c2 : m ≤ j ∧ j + 1 < m + s.size
        · rw [if_pos c2, if_pos (by omega), List.getElem?_append_left (by rw [users_length]; omega)]
        · rw [if_neg c2, if_neg (by omega)]
  · have p1 := (Sm.fst tw o a b).size_pos
    have p2 := (Sm.snd tw o a b).size_pos
    obtain ⟨⟨w1, w2⟩, l1⟩ := h1 m k W L
    obtain ⟨⟨x1, x2⟩, l2⟩ := h2 (m + (Sm.fst tw o a b).size) (k + 1) (whF ((Sm.fst tw o a b).lay tw k) m W) (laF ((Sm.fst tw o a b).lay tw k) m W L)
    rw [lay_bin, whF_app, whF_app, laF_app, laF_app, whF_app, List.length_append, lay_length, lay_length, size_bin tw]
    refine ⟨⟨?_, fun c hc => ?_⟩, fun u j => ?_⟩
    · show (if k = k then some (m + ((Sm.fst tw o a b).size + (Sm.snd tw o a b).size)) else _) = _
      rw [if_pos rfl]; rfl
    · show (if c = k then _ else whF ((Sm.snd tw o a b).lay tw (k + 1)) (m + (Sm.fst tw o a b).size) (whF ((Sm.fst tw o a b).lay tw k) m W) c) = W c
      rw [if_neg (by omega), x2 c (by omega), w2 c hc]
    · show (if j ∈ (Rst.flip tw o a b k).bxs.filterMap (whF ((Sm.snd tw o a b).lay tw (k + 1)) (m + (Sm.fst tw o a b).size) (whF ((Sm.fst tw o a b).lay tw k) m W)) then some (m + ((Sm.fst tw o a b).size + (Sm.snd tw o a b).size)) else
          laF ((Sm.snd tw o a b).lay tw (k + 1)) (m + (Sm.fst tw o a b).size) (whF ((Sm.fst tw o a b).lay tw k) m W) (laF ((Sm.fst tw o a b).lay tw k) m W L) j) = _
      have mem : j ∈ (Rst.flip tw o a b k).bxs.filterMap (whF ((Sm.snd tw o a b).lay tw (k + 1)) (m + (Sm.fst tw o a b).size) (whF ((Sm.fst tw o a b).lay tw k) m W)) ↔ j = m + (Sm.fst tw o a b).size - 1 ∨ j = m + (Sm.fst tw o a b).size + (Sm.snd tw o a b).size - 1 := by
        rw [mem_fm]
        constructor
        · rintro ⟨c, hc, e⟩
          rcases (flip_bxs tw o a b k c).mp hc with q | q
          · rw [q, x2 k (by omega), w1] at e
            exact .inl (Option.some.inj e).symm
          · rw [q, x1] at e
            exact .inr (Option.some.inj e).symm
        · rintro (q | q)
          · exact ⟨k, (flip_bxs tw o a b k k).mpr (.inl rfl), by rw [x2 k (by omega), w1, q]⟩
          · exact ⟨k + 1, (flip_bxs tw o a b k (k + 1)).mpr (.inr rfl), by rw [x1, q]⟩
      rw [users_bin, l2 (m + (Sm.fst tw o a b).size + (Sm.snd tw o a b).size) j, l1 (m + (Sm.fst tw o a b).size + (Sm.snd tw o a b).size) j]
      have u1 := users_length tw (Sm.fst tw o a b) m (m + (Sm.fst tw o a b).size + (Sm.snd tw o a b).size)
      have u2 := users_length tw (Sm.snd tw o a b) (m + (Sm.fst tw o a b).size) (m + (Sm.fst tw o a b).size + (Sm.snd tw o a b).size)
      have inF : ∀ i, i < (Sm.fst tw o a b).size → ((Sm.fst tw o a b).users tw m (m + (Sm.fst tw o a b).size + (Sm.snd tw o a b).size) ++ (Sm.snd tw o a b).users tw (m + (Sm.fst tw o a b).size) (m + (Sm.fst tw o a b).size + (Sm.snd tw o a b).size) ++ [u])[i]? = ((Sm.fst tw o a b).users tw m (m + (Sm.fst tw o a b).size + (Sm.snd tw o a b).size))[i]? := fun i hi => by
        rw [List.append_assoc, List.getElem?_append_left (by omega)]
      have inS : ∀ i, (Sm.fst tw o a b).size ≤ i → i < (Sm.fst tw o a b).size + (Sm.snd tw o a b).size → ((Sm.fst tw o a b).users tw m (m + (Sm.fst tw o a b).size + (Sm.snd tw o a b).size) ++ (Sm.snd tw o a b).users tw (m + (Sm.fst tw o a b).size) (m + (Sm.fst tw o a b).size + (Sm.snd tw o a b).size) ++ [u])[i]? = ((Sm.snd tw o a b).users tw (m + (Sm.fst tw o a b).size) (m + (Sm.fst tw o a b).size + (Sm.snd tw o a b).size))[i - (Sm.fst tw o a b).size]? := fun i hi hi2 => by
        rw [List.append_assoc, List.getElem?_append_right (by omega), u1, List.getElem?_append_left (by omega)]
      by_cases c1 : j = m + (Sm.fst tw o a b).size - 1
      · rw [if_pos (mem.mpr (.inl c1)), if_pos (by omega), inF (j - m) (by omega)]
        have : j - m = (Sm.fst tw o a b).size - 1 := by omega
        rw [this, users_last, Nat.add_assoc]
      · by_cases c2 : j = m + (Sm.fst tw o a b).size + (Sm.snd tw o a b).size - 1
        · rw [if_pos (mem.mpr (.inr c2)), if_pos (by omega), inS (j - m) (by omega) (by omega)]
          have : j - m - (Sm.fst tw o a b).size = (Sm.snd tw o a b).size - 1 := by omega
          rw [this, users_last, Nat.add_assoc]
        · rw [if_neg (fun q => by rcases mem.mp q with q | q; exact c1 q; exact c2 q)]
          by_cases c3 : m + (Sm.fst tw o a b).size ≤ j ∧ j + 1 < m + (Sm.fst tw o a b).size + (Sm.snd tw o a b).size
          · rw [if_pos c3, if_pos (by omega), inS (j - m) (by omega) (by omega)]
            congr 1
            omega
          · rw [if_neg c3]
            by_cases c4 : m ≤ j ∧ j + 1 < m + (Sm.fst tw o a b).size
            · rw [if_pos c4, if_pos (by omega), inF (j - m) (by omega)]
            · rw [if_neg c4, if_neg (by omega)]
/-- the greatest of the first -/
def maxTo (f : Nat → Nat) : Nat → Nat
  | 0 => 0
  | n + 1 => max (maxTo f n) (f n)
theorem maxTo_le {f : Nat → Nat} {N : Nat} : ∀ {n : Nat}, (∀ k, k < n → f k ≤ N) → maxTo f n ≤ N
  | 0, _ => Nat.zero_le _
  | n + 1, h => Nat.max_le.mpr ⟨maxTo_le fun k hk => h k (by omega), h n (by omega)⟩
theorem maxTo_ge {f : Nat → Nat} : ∀ {n k : Nat}, k < n → f k ≤ maxTo f n
  | n + 1, k, h => by
    rcases Nat.lt_or_ge k n with c | c
    · exact Nat.le_trans (maxTo_ge c) (Nat.le_max_left _ _)
    · have e : k = n := by omega
      rw [e]
      exact Nat.le_max_right _ _
theorem max_held (tw : Sm → Bool) (s : Sm) : maxTo (cntm (s.users tw 0 s.size) 0) s.size = s.need tw := by
  obtain ⟨h1, k, h2, h3, h4⟩ := users_need tw s 0 s.size (by omega)
  refine Nat.le_antisymm (maxTo_le fun k hk => h1 k (Nat.zero_le _) (by omega)) ?_
  rw [← h4]
  exact maxTo_ge (by omega)
theorem cntm_take (U : List Nat) (k : Nat) : cntm (U.take (k + 1)) 0 k = cntm U 0 k := by
  have h := cntm_app (U.take (k + 1)) (U.drop (k + 1)) 0 k
  rw [List.take_append_drop] at h
  rcases Nat.lt_or_ge k U.length with c | c
  · have e := cntm_early (U.drop (k + 1)) (0 + (U.take (k + 1)).length) k (by rw [List.length_take]; omega)
    omega
  · rw [List.take_of_length_le (by omega)]
def DictAt (H : Hp) (p : Addr) (f : Nat → Option Nat) (n : Nat) : Prop := ∃ kvs : List (Key × V), H p = some (.dK kvs) ∧ kvs.length ≤ n ∧ ∀ j : Nat, valV kvs (Sum.inl (j : Int)) = (f j).map fun k => V.int (k : Nat)
theorem DictAt.fr {H H' : Hp} {p : Addr} {f : Nat → Option Nat} {n : Nat} {W : List Addr} (h : DictAt H p f n) (a : Fr W H H') (hn : p ∉ W) : DictAt H' p f n := by
  obtain ⟨kvs, h1, h2⟩ := h
  exact ⟨kvs, a.getd hn h1, h2⟩
theorem DictAt.put {H1 : Hp} {p : Addr} {f : Nat → Option Nat} {n b k : Nat} {kvs : List (Key × V)} (h2 : kvs.length ≤ n) (h3 : ∀ j : Nat, valV kvs (Sum.inl (j : Int)) = (f j).map fun k => V.int (k : Nat)) (g : H1 p = some (.dK (putK kvs (Sum.inl (b : Int)) (.int (k : Nat))))) : DictAt H1 p (upN f b k) (n + 1) := by
  refine ⟨_, g, by have := putK_length kvs (Sum.inl (b : Int)) (V.int (k : Nat)); omega, fun j => ?_⟩
  rw [valV_put]
  unfold upN
  by_cases e : j = b
  · rw [if_pos (by rw [e]), if_pos e]; rfl
  · rw [if_neg (fun q => e (by have := Sum.inl.inj q; omega)), if_neg e, h3 j]
theorem rst_split (r : Rst) : ∃ w tl, r.vals = .str w :: tl ∧ tl.length ≤ 2 ∧ ((inV (.str w) [.str "add", .str "less", .str "times", .str "say"] = false ∧ r.bxs = []) ∨ (inV (.str w) [.str "add", .str "less", .str "times", .str "say"] = true ∧ tl = r.bxs.map fun b => V.int (b : Nat))) := by
  cases r with
  | num n => exact ⟨"num", _, rfl, by simp, .inl ⟨by decide +kernel, rfl⟩⟩
  | name n => exact ⟨"name", _, rfl, by simp, .inl ⟨by decide +kernel, rfl⟩⟩
  | ask => exact ⟨"ask", _, rfl, by simp, .inl ⟨by decide +kernel, rfl⟩⟩
  | say b => exact ⟨"say", _, rfl, by simp, .inr ⟨by decide +kernel, rfl⟩⟩
  | bin o b c => exact ⟨o.word, _, rfl, by simp, .inr ⟨by cases o <;> decide +kernel, rfl⟩⟩
def spHeld : Sp := fun vs H Q _ => ∃ (l : Addr) (us : List V) (tw : Sm → Bool) (s : Sm), vs = [.ref l] ∧ H l = some (.lst us) ∧ AllStp H us (s.lay tw 0) ∧ s.ok ∧ s.size ≤ 60 ∧ ∀ H' : Hp, Fr [] H H' → Q (.int (s.need tw : Nat)) H'
theorem u_held {H : Hp} {Q : VK} {E : XK} {l : Addr} {us : List V} (tw : Sm → Bool) {s : Sm} (h1 : H l = some (.lst us)) (h2 : AllStp H us (s.lay tw 0)) (h0 : s.ok) (h3 : s.size ≤ 60) (k : ∀ H' : Hp, Fr [] H H' → Q (.int (s.need tw : Nat)) H') : spHeld [.ref l] H Q E := ⟨l, us, tw, s, rfl, h1, h2, h0, h3, k⟩
/-- ns: sorted, without a pair alike, the fewest boxes first -/
def Orders (s : Sm) (ns : List Int) : Prop := ∃ r, ns = (s.many : Int) :: r ∧ ns.Pairwise (· < ·) ∧ ∀ x ∈ ns, x ≤ s.depth
def spOrders (n : Nat) : Sp := fun vs H Q _ => ∃ (v : V) (s : Sm), vs = [v] ∧ IsSum H v s ∧ s.ok ∧ s.depth ≤ n ∧ s.depth ≤ 16 ∧ s.size ≤ 60 ∧ ∀ (l : Addr) (ns : List Int) (H' : Hp), H l = none → H' l = some (.lst (ns.map V.int)) → Orders s ns → Fr [] H H' → Q (.ref l) H'
theorem u_orders {n : Nat} {H : Hp} {Q : VK} {E : XK} {v : V} {s : Sm} (h : IsSum H v s) (h0 : s.ok) (h1 : s.depth ≤ n) (h2 : s.depth ≤ 16) (h3 : s.size ≤ 60) (k : ∀ (l : Addr) (ns : List Int) (H' : Hp), H l = none → H' l = some (.lst (ns.map V.int)) → Orders s ns → Fr [] H H' → Q (.ref l) H') : spOrders n [v] H Q E := ⟨v, s, rfl, h, h0, h1, h2, h3, k⟩
theorem inc_length : ∀ {ns : List Int} {a b : Int}, ns.Pairwise (· < ·) → (∀ x ∈ ns, a ≤ x ∧ x ≤ b) → (ns.length : Int) ≤ max 0 (b - a + 1)
  | [], _, _, _, _ => by simp; omega
  | y :: r, a, b, h, k => by
    obtain ⟨h1, h2⟩ := List.pairwise_cons.mp h
    have ky := k y List.mem_cons_self
    have := inc_length (a := y + 1) (b := b) h2 fun x hx => ⟨by have := h1 x hx; omega, (k x (List.mem_cons_of_mem _ hx)).2⟩
    simp only [List.length_cons]
    omega
theorem Orders.range {s : Sm} {ns : List Int} (h : Orders s ns) : ∀ x ∈ ns, (s.many : Int) ≤ x ∧ x ≤ s.depth := by
  obtain ⟨r, rfl, h1, h2⟩ := h
  intro x hx
  refine ⟨?_, h2 x hx⟩
  rcases List.mem_cons.mp hx with e | m
  · rw [e]; exact Int.le_refl _
  · exact Int.le_of_lt ((List.pairwise_cons.mp h1).1 x m)
theorem Orders.length {s : Sm} {ns : List Int} (h : Orders s ns) (hd : s.depth ≤ 16) : ns.length ≤ 16 := by
  obtain ⟨r, e, h1, h2⟩ := id h
  have := inc_length h1 fun x hx => h.range x hx
  have := s.many_pos
  omega
theorem Orders.mem {s : Sm} {ns : List Int} (h : Orders s ns) : (s.many : Int) ∈ ns := by
  obtain ⟨r, rfl, _, _⟩ := h
  exact List.mem_cons_self
theorem whF_some : ∀ (A : List Stp) (k : Nat) (W : Nat → Option Nat) (b : Nat), (b ∈ A.map Stp.box ∨ ∃ j, W b = some j) → ∃ j, whF A k W b = some j
  | [], _, _, _, h => by
    rcases h with h | h
    · cases h
    · exact h
  | t :: r, k, W, b, h => by
    refine whF_some r (k + 1) (upN W t.box k) b ?_
    rcases h with h | ⟨j, h⟩
    · rcases List.mem_cons.mp h with e | m
      · exact .inr ⟨k, by unfold upN; rw [if_pos e]⟩
      · exact .inl m
    · by_cases e : b = t.box
      · exact .inr ⟨k, by unfold upN; rw [if_pos e]⟩
      · exact .inr ⟨j, by unfold upN; rw [if_neg e, h]⟩
theorem upL_snoc {L W : Nat → Option Nat} {bs : List Nat} {b k j : Nat} (h : W b = some j) : upL L W (bs ++ [b]) k = upN (upL L W bs k) j k := by
  funext c
  show (if c ∈ (bs ++ [b]).filterMap W then some k else L c) = if c = j then some k else if c ∈ bs.filterMap W then some k else L c
  by_cases e : c = j
  · rw [if_pos (mem_fm.mpr ⟨b, by simp, by rw [h, e]⟩), if_pos e]
  · rw [if_neg e]
    by_cases m : c ∈ bs.filterMap W
    · rw [if_pos m, if_pos (by obtain ⟨x, hx, q⟩ := mem_fm.mp m; exact mem_fm.mpr ⟨x, List.mem_append.mpr (.inl hx), q⟩)]
    · rw [if_neg m, if_neg fun q => by
        obtain ⟨x, hx, q⟩ := mem_fm.mp q
        rcases List.mem_append.mp hx with hx | hx
        · exact m (mem_fm.mpr ⟨x, hx, q⟩)
        · rw [List.mem_singleton.mp hx, h] at q
          exact e (Option.some.inj q).symm]
theorem upL_nil (L W : Nat → Option Nat) (k : Nat) : upL L W [] k = L := by
  funext c
  unfold upL
  rw [if_neg (by simp)]
theorem sIx_two (n d : Nat) : HT.sIx (n + 2) d (some 2) = 2 := by
  have h := HT.sIx_nat (n + 2) d 2
  have e : HT.sIx (n + 2) d (some 2) = min 2 (n + 2) := h
  rw [e]; omega
theorem cut_tail2 (c d : V) (xs : List V) : cutV (c :: d :: xs) (some 2) none = xs := by
  unfold cutV
  rw [List.length_cons, List.length_cons, sIx_two, HT.sIx_none]
  simp
theorem tail2_not (c d : V) (xs : List V) : ¬ (HT.sIx (c :: d :: xs).length 0 (some 2) = 0 ∧ HT.sIx (c :: d :: xs).length (c :: d :: xs).length none = (c :: d :: xs).length) := by
  rw [List.length_cons, List.length_cons, sIx_two]
  omega
theorem fin_users (tw : Sm → Bool) (s : Sm) {j : Nat} (hj : j < s.size) : upN (laF (s.lay tw 0) 0 (fun _ => none) (fun _ => none)) (s.size - 1) s.size j = (s.users tw 0 s.size)[j]? := by
  unfold upN
  rw [(lay_runs tw s 0 0 (fun _ => none) (fun _ => none)).2 s.size j]
  by_cases e : j = s.size - 1
  · rw [if_pos e, e, users_last]
  · rw [if_neg e, if_pos (by omega), Nat.sub_zero]
theorem w_dget2 {td ty tx : TE} {σ : St} {H : Hp} {Q : VK} (h : td σ H fun x H1 => ∃ a, x = .ref a ∧ IsD H1 a ∧ ty σ H1 fun y H2 => tx σ H2 fun z H3 => ∃ o, DGet H3 a y o ∧ Q (o.getD z) H3) : tDGet2 td ty tx σ H Q := h
theorem atI_i {xs : List V} {j : Int} {i : Nat} {v : V} (e : j = (i : Int)) (h : xs[i]? = some v) : atI xs j = some v := by rw [e]; exact atI_nat h
/-- what was found: numbers of boxes of the sum, at most c, the fewest among them if b -/
def Found (H : Hp) (fo : Addr) (s : Sm) (c : Nat) (b : Prop) : Prop := ∃ fs : List Int, H fo = some (.lst (fs.map V.int)) ∧ fs.length ≤ c ∧ (∀ z ∈ fs, (s.many : Int) ≤ z ∧ z ≤ s.depth) ∧ (b → (s.many : Int) ∈ fs)
theorem orders_of {s : Sm} {fs ns : List Int} (h1 : ∀ z ∈ fs, (s.many : Int) ≤ z ∧ z ≤ s.depth) (h2 : (s.many : Int) ∈ fs) (hp : ns.Pairwise (· < ·)) (hm : ∀ k : Int, k ∈ ns ↔ k ∈ fs) : Orders s ns := by
  have mm := (hm _).mpr h2
  cases ns with
  | nil => cases mm
  | cons y r =>
    have e : y = (s.many : Int) := by
      have h3 := (h1 y ((hm y).mp List.mem_cons_self)).1
      rcases List.mem_cons.mp mm with q | q
      · exact q.symm
      · have := (List.pairwise_cons.mp hp).1 _ q
        omega
    exact ⟨r, by rw [e], hp, fun x hx => (h1 x ((hm x).mp hx)).2⟩
theorem first_le {o : Op} {a b : Sm} {i j : Int} (hi : (a.many : Int) ≤ i) (hj : (b.many : Int) ≤ j) : (Sm.bin o a b).first ≤ if 1 + j > i then 1 + j else i := by
  simp only [Sm.first]
  split <;> split <;> omega
theorem second_le {o : Op} {a b : Sm} {i j : Int} (hne : (a.eff && b.eff) = false) (hi : (a.many : Int) ≤ i) (hj : (b.many : Int) ≤ j) : (Sm.bin o a b).second ≤ if 1 + i > j then 1 + i else j := by
  simp only [Sm.second, hne]
  rw [if_neg Bool.false_ne_true]
  split <;> split <;> omega
theorem many_first (o : Op) (a b : Sm) (hz : (Sm.bin o a b).size ≤ 60) : ((Sm.bin o a b).many : Int) ≤ (Sm.bin o a b).first ∧ ((Sm.bin o a b).many : Int) ≤ (Sm.bin o a b).second := by
  rw [bin_many o a b hz]
  split <;> omega
theorem many_is (o : Op) (a b : Sm) (hz : (Sm.bin o a b).size ≤ 60) : ((Sm.bin o a b).many : Int) = (Sm.bin o a b).first ∨ ((a.eff && b.eff) = false ∧ ((Sm.bin o a b).many : Int) = (Sm.bin o a b).second) := by
  have h1 := a.many_pos
  have h2 := b.many_pos
  have h3 := a.many_le
  have h4 := b.many_le
  have h5 : a.size + b.size + 1 ≤ 60 := hz
  rw [bin_many o a b hz]
  by_cases c : (Sm.bin o a b).second < (Sm.bin o a b).first
  · rw [if_pos c]
    refine .inr ⟨?_, rfl⟩
    rcases Bool.eq_false_or_eq_true (a.eff && b.eff) with q | q
    · simp only [Sm.second, Sm.first, q, if_true] at c
      split at c <;> omega
    · exact q
  · rw [if_neg c]
    exact .inl rfl
theorem nodup_small {ys : List Int} {n : Nat} (h : ys.Nodup) (k : ∀ z ∈ ys, 0 ≤ z ∧ z ≤ (n : Int)) : ys.length ≤ n + 1 := by
  have h1 := nodup_toNat h fun y hy => (k y hy).1
  have h2 : ∀ x ∈ ys.map Int.toNat, x ∈ List.range (n + 1) := fun x hx => by
    obtain ⟨y, hy, rfl⟩ := List.mem_map.mp hx
    have := k y hy
    exact List.mem_range.mpr (by omega)
  have p : (ys.map Int.toNat).Perm ((List.range (n + 1)).filter fun x => decide (x ∈ ys.map Int.toNat)) :=
    (List.perm_ext_iff_of_nodup h1 (List.nodup_range.filter _)).mpr fun x => by
      rw [List.mem_filter, decide_eq_true_eq]
      exact ⟨fun hx => ⟨h2 x hx, hx⟩, fun hx => hx.2⟩
  have e := p.length_eq
  have le := List.length_filter_le (fun x => decide (x ∈ ys.map Int.toNat)) (List.range (n + 1))
  rw [List.length_range] at le
  rw [List.length_map] at e
  omega
end My
/-! C6: steps back to a sum -/
namespace My
open PySem L2 Wk
def Rst.loud : Rst → Bool
  | .ask => true
  | .say _ => true
  | _ => false
def Rst.mk : Rst → List Sm → Sm
  | .num n, _ => .num n
  | .name c, _ => .name c
  | .say _, [s] => .say s
  | .bin o _ _, [s, t] => .bin o s t
  | _, _ => .ask
abbrev Hd := Nat → Option (Sm × List Nat)
def Hd.del (S : Hd) (b : Nat) : Hd := fun c => if c = b then none else S c
def Hd.put (S : Hd) (b : Nat) (x : Sm × List Nat) : Hd := fun c => if c = b then some x else S c
def takeAll : List Nat → Hd → Option (List Sm × List Nat × Hd)
  | [], S => some ([], [], S)
  | b :: bs, S => match S b with
    | none => none
    | some x => match takeAll bs (S.del b) with
      | none => none
      | some r => some (x.1 :: r.1, x.2 ++ r.2.1, r.2.2)
def lbl (n : Nat) (r : Rst) : List Nat := if r.loud then [n] else []
def stepF (n : Nat) (t : Stp) (S : Hd) : Option Hd :=
  match takeAll t.rest.bxs S with
  | none => none
  | some r => if (r.2.2 t.box).isSome then none else some (r.2.2.put t.box (t.rest.mk r.1, r.2.1 ++ lbl n t.rest))
def runF : List (Nat × Stp) → Hd → Option Hd
  | [], S => some S
  | p :: L, S => match stepF p.1 p.2 S with
    | none => none
    | some S' => runF L S'
def louds (L : List (Nat × Stp)) : List Nat := L.flatMap fun p => lbl p.1 p.2.rest
theorem runF_app : ∀ (A B : List (Nat × Stp)) (S : Hd), runF (A ++ B) S = match runF A S with | none => none | some S' => runF B S'
  | [], _, _ => rfl
  | p :: A, B, S => by
    show (match stepF p.1 p.2 S with | none => none | some S' => runF (A ++ B) S') = match (match stepF p.1 p.2 S with | none => none | some S' => runF A S') with | none => none | some S' => runF B S'
    cases stepF p.1 p.2 S with
    | none => rfl
    | some S' => exact runF_app A B S'
theorem Hd.del_none {S : Hd} {b : Nat} (h : S b = none) : S.del b = S := by
  funext c; unfold Hd.del; split
  · next e => rw [e, h]
  · rfl
theorem Hd.put_del (S : Hd) (b : Nat) (x : Sm × List Nat) : (S.put b x).del b = S.del b := by
  funext c; unfold Hd.del Hd.put; split
  · rfl
  · rfl
theorem Hd.put_same (S : Hd) (b : Nat) (x : Sm × List Nat) : S.put b x b = some x := if_pos rfl
theorem Hd.put_ne {S : Hd} {b c : Nat} (x : Sm × List Nat) (h : c ≠ b) : S.put b x c = S c := if_neg h
theorem Hd.del_ne {S : Hd} {b c : Nat} (h : c ≠ b) : S.del b c = S c := if_neg h
theorem Hd.del_same (S : Hd) (b : Nat) : S.del b b = none := if_pos rfl
theorem Hd.put_put_del {S : Hd} {a b : Nat} (x y : Sm × List Nat) (h : a ≠ b) : ((S.put a x).put b y).del a = (S.del a).put b y := by
  funext c; simp only [Hd.del, Hd.put]
  by_cases e : c = a
  · subst e; simp [h]
  · by_cases e2 : c = b
    · simp only [if_neg e, if_pos e2]
    · simp only [if_neg e, if_neg e2]
/-- L makes the part s in the box b, with the effects es, and touches but the boxes of B -/
def Does (L : List (Nat × Stp)) (B : Nat → Prop) (b : Nat) (s : Sm) (es : List Nat) : Prop := B b ∧ ∀ S : Hd, (∀ c, B c → S c = none) → runF L S = some (S.put b (s, es))
theorem run_one (n : Nat) (t : Stp) (S : Hd) : runF [(n, t)] S = stepF n t S := by
  show (match stepF n t S with | none => none | some S' => some S') = _
  cases stepF n t S <;> rfl
theorem stepF_of {n : Nat} {t : Stp} {S S' : Hd} {ss : List Sm} {es : List Nat} (h : takeAll t.rest.bxs S = some (ss, es, S')) (h2 : S' t.box = none) : stepF n t S = some (S'.put t.box (t.rest.mk ss, es ++ lbl n t.rest)) := by
  unfold stepF
  rw [h]
  simp only [h2]
  rfl
theorem does_leaf {n b : Nat} {r : Rst} (h : r.bxs = []) : Does [(n, ⟨b, r⟩)] (· = b) b (r.mk []) (lbl n r) := by
  refine ⟨rfl, fun S hS => ?_⟩
  rw [run_one]
  exact stepF_of (t := ⟨b, r⟩) (ss := []) (es := []) (by rw [h]; rfl) (hS b rfl)
theorem does_say {L : List (Nat × Stp)} {B B' : Nat → Prop} {b b' n : Nat} {s : Sm} {es : List Nat} (h : Does L B b s es) (hb : ∀ c, B c → B' c) (h' : B' b') : Does (L ++ [(n, ⟨b', .say b⟩)]) B' b' (.say s) (es ++ [n]) := by
  refine ⟨h', fun S hS => ?_⟩
  rw [runF_app, h.2 S fun c hc => hS c (hb c hc)]
  show runF [(n, ⟨b', .say b⟩)] (S.put b (s, es)) = _
  rw [run_one]
  have := stepF_of (n := n) (t := ⟨b', .say b⟩) (S := S.put b (s, es)) (S' := S) (ss := [s]) (es := es ++ []) (by
    show takeAll [b] (S.put b (s, es)) = _
    unfold takeAll
    rw [Hd.put_same]
    simp only [takeAll]
    rw [Hd.put_del, Hd.del_none (hS b (hb b h.1))]) (hS b' h')
  rw [this, List.append_nil]
  rfl
theorem take_two {S : Hd} {a b : Nat} {s t : Sm} {ea eb : List Nat} (h : a ≠ b) (ha : S a = some (s, ea)) (hb : S b = some (t, eb)) : takeAll [a, b] S = some ([s, t], ea ++ (eb ++ []), (S.del a).del b) := by
  unfold takeAll
  rw [ha]
  simp only [takeAll]
  rw [Hd.del_ne (Ne.symm h), hb]
theorem does_bin {La Lb : List (Nat × Stp)} {Ba Bb B' : Nat → Prop} {ba bb k n : Nat} {s t : Sm} {ea eb : List Nat} (o : Op) (ha : Does La Ba ba s ea) (hb : Does Lb Bb bb t eb) (h1 : ∀ c, Ba c → B' c) (h2 : ∀ c, Bb c → B' c) (hk : B' k) (hn : ¬ Bb ba) :
    Does (La ++ Lb ++ [(n, ⟨k, .bin o ba bb⟩)]) B' k (.bin o s t) (ea ++ eb) := by
  refine ⟨hk, fun S hS => ?_⟩
  have hne : ba ≠ bb := fun e => hn (e ▸ hb.1)
  rw [runF_app, runF_app, ha.2 S fun c hc => hS c (h1 c hc)]
  show (match runF Lb (S.put ba (s, ea)) with | none => none | some S' => runF [(n, ⟨k, .bin o ba bb⟩)] S') = _
  rw [hb.2 _ fun c hc => by rw [Hd.put_ne _ (fun e : c = ba => hn (e ▸ hc))]; exact hS c (h2 c hc)]
  show runF [(n, ⟨k, .bin o ba bb⟩)] ((S.put ba (s, ea)).put bb (t, eb)) = _
  rw [run_one]
  have e : ((((S.put ba (s, ea)).put bb (t, eb)).del ba).del bb) = S := by
    rw [Hd.put_put_del _ _ hne, Hd.put_del, Hd.del_none (hS ba (h1 _ ha.1)), Hd.del_none (hS bb (h2 _ hb.1))]
  have := stepF_of (n := n) (t := ⟨k, .bin o ba bb⟩) (S := (S.put ba (s, ea)).put bb (t, eb)) (S' := S) (ss := [s, t]) (es := ea ++ (eb ++ [])) (by
    show takeAll [ba, bb] _ = _
    rw [take_two hne (by rw [Hd.put_ne _ hne, Hd.put_same]) (Hd.put_same ..), e]) (hS k hk)
  rw [this, List.append_nil]
  show some (S.put k (Sm.bin o s t, (ea ++ eb) ++ [])) = _
  rw [List.append_nil]
theorem does_flip {La Lb : List (Nat × Stp)} {Ba Bb B' : Nat → Prop} {ba bb k n : Nat} {s t : Sm} {ea eb : List Nat} (o : Op) (ha : Does La Ba ba s ea) (hb : Does Lb Bb bb t eb) (h1 : ∀ c, Ba c → B' c) (h2 : ∀ c, Bb c → B' c) (hk : B' k) (hn : ¬ Ba bb) :
    Does (Lb ++ La ++ [(n, ⟨k, .bin o ba bb⟩)]) B' k (.bin o s t) (ea ++ eb) := by
  refine ⟨hk, fun S hS => ?_⟩
  have hne : ba ≠ bb := fun e => hn (e ▸ ha.1)
  rw [runF_app, runF_app, hb.2 S fun c hc => hS c (h2 c hc)]
  show (match runF La (S.put bb (t, eb)) with | none => none | some S' => runF [(n, ⟨k, .bin o ba bb⟩)] S') = _
  rw [ha.2 _ fun c hc => by rw [Hd.put_ne _ (fun e : c = bb => hn (e ▸ hc))]; exact hS c (h1 c hc)]
  show runF [(n, ⟨k, .bin o ba bb⟩)] ((S.put bb (t, eb)).put ba (s, ea)) = _
  rw [run_one]
  have e : ((((S.put bb (t, eb)).put ba (s, ea)).del ba).del bb) = S := by
    rw [Hd.put_del, Hd.del_none (S := S.put bb (t, eb)) (by rw [Hd.put_ne _ hne]; exact hS ba (h1 _ ha.1)), Hd.put_del, Hd.del_none (hS bb (h2 _ hb.1))]
  have := stepF_of (n := n) (t := ⟨k, .bin o ba bb⟩) (S := (S.put bb (t, eb)).put ba (s, ea)) (S' := S) (ss := [s, t]) (es := ea ++ (eb ++ [])) (by
    show takeAll [ba, bb] _ = _
    rw [take_two hne (Hd.put_same ..) (by rw [Hd.put_ne _ (Ne.symm hne), Hd.put_same]), e]) (hS k hk)
  rw [this, List.append_nil]
  show some (S.put k (Sm.bin o s t, (ea ++ eb) ++ [])) = _
  rw [List.append_nil]
/-! ### labels, other boxes -/
def ren (φ : Nat → Nat) : Rst → Rst
  | .say b => .say (φ b)
  | .bin o b c => .bin o (φ b) (φ c)
  | r => r
def Stp.ren (φ : Nat → Nat) (t : Stp) : Stp := ⟨φ t.box, My.ren φ t.rest⟩
def lab (g φ : Nat → Nat) : Nat → List Stp → List (Nat × Stp)
  | _, [] => []
  | m, t :: r => (g m, t.ren φ) :: lab g φ (m + 1) r
theorem lab_app (g φ : Nat → Nat) : ∀ (A B : List Stp) (m : Nat), lab g φ m (A ++ B) = lab g φ m A ++ lab g φ (m + A.length) B
  | [], _, _ => rfl
  | t :: A, B, m => by
    show _ :: lab g φ (m + 1) (A ++ B) = _ :: (lab g φ (m + 1) A ++ lab g φ (m + (A.length + 1)) B)
    rw [lab_app g φ A B (m + 1), show m + 1 + A.length = m + (A.length + 1) by omega]
theorem louds_app (A B : List (Nat × Stp)) : louds (A ++ B) = louds A ++ louds B := List.flatMap_append
/-- φ tells the boxes below N apart -/
def Inj (φ : Nat → Nat) (N : Nat) : Prop := ∀ i j, i < N → j < N → φ i = φ j → i = j
def Rng (φ : Nat → Nat) (k n : Nat) (c : Nat) : Prop := ∃ j, k ≤ j ∧ j < k + n ∧ c = φ j
theorem Rng.mono {φ : Nat → Nat} {k n k' n' c : Nat} (h : Rng φ k n c) (h1 : k' ≤ k) (h2 : k + n ≤ k' + n') : Rng φ k' n' c := by
  obtain ⟨j, a, b, e⟩ := h
  exact ⟨j, by omega, by omega, e⟩
theorem Rng.not {φ : Nat → Nat} {N k n i : Nat} (I : Inj φ N) (hN : k + n ≤ N) (hi : i < N) (ho : i < k ∨ k + n ≤ i) : ¬ Rng φ k n (φ i) := by
  rintro ⟨j, a, b, e⟩
  have := I i j hi (by omega) e
  omega
theorem Does.imp {L : List (Nat × Stp)} {B B' : Nat → Prop} {b : Nat} {s : Sm} {es : List Nat} (h : Does L B b s es) (hb : ∀ c, B c → B' c) : Does L B' b s es :=
  ⟨hb _ h.1, fun S hS => h.2 S fun c hc => hS c (hb c hc)⟩
theorem loud_ren (φ : Nat → Nat) (r : Rst) : (ren φ r).loud = r.loud := by cases r <;> rfl
theorem cut_does (g φ : Nat → Nat) (N : Nat) (I : Inj φ N) : ∀ (s : Sm) (m k : Nat), k + s.size ≤ N → Does (lab g φ m (s.cut k)) (Rng φ k s.size) (φ (k + s.size - 1)) s (louds (lab g φ m (s.cut k)))
  | .num n, m, k, h => by
    refine (does_leaf (n := g m) (b := φ k) (r := .num n) rfl).imp fun c e => ?_
    exact ⟨k, Nat.le_refl _, by simp [Sm.size], e⟩
  | .name n, m, k, h => by
    refine (does_leaf (n := g m) (b := φ k) (r := .name n) rfl).imp fun c e => ?_
    exact ⟨k, Nat.le_refl _, by simp [Sm.size], e⟩
  | .ask, m, k, h => by
    refine (does_leaf (n := g m) (b := φ k) (r := .ask) rfl).imp fun c e => ?_
    exact ⟨k, Nat.le_refl _, by simp [Sm.size], e⟩
  | .say s, m, k, h => by
    have hz : (Sm.say s).size = s.size + 1 := rfl
    have hp : 0 < s.size := s.size_pos
    rw [hz] at h
    have e : (Sm.say s).cut k = s.cut k ++ [⟨k + s.size, .say (k + s.size - 1)⟩] := rfl
    rw [e, lab_app, louds_app, hz, show k + (s.size + 1) - 1 = k + s.size by omega]
    exact does_say (cut_does g φ N I s m k (by omega)) (fun c hc => hc.mono (Nat.le_refl _) (by omega)) ⟨k + s.size, by omega, by omega, rfl⟩
  | .bin o a b, m, k, h => by
    have hz : (Sm.bin o a b).size = a.size + b.size + 1 := rfl
    have hp : 0 < a.size := a.size_pos
    have hq : 0 < b.size := b.size_pos
    rw [hz] at h
    have e : (Sm.bin o a b).cut k = a.cut k ++ b.cut (k + a.size) ++ [⟨k + a.size + b.size, .bin o (k + a.size - 1) (k + a.size + b.size - 1)⟩] := rfl
    rw [e, lab_app, louds_app, lab_app, louds_app, hz, show k + (a.size + b.size + 1) - 1 = k + a.size + b.size by omega]
    have e2 : louds (lab g φ (m + (a.cut k ++ b.cut (k + a.size)).length) [⟨k + a.size + b.size, .bin o (k + a.size - 1) (k + a.size + b.size - 1)⟩]) = [] := rfl
    rw [e2, List.append_nil]
    exact does_bin o (cut_does g φ N I a m k (by omega)) (cut_does g φ N I b _ (k + a.size) (by omega)) (fun c hc => hc.mono (Nat.le_refl _) (by omega)) (fun c hc => hc.mono (by omega) (by omega)) ⟨k + a.size + b.size, by omega, by omega, rfl⟩ (Rng.not I (by omega) (by omega) (.inl (by omega)))
/-- the effects stand in the order of the steps, from m on -/
def Ord (es : List Nat) (m n : Nat) : Prop := es.Pairwise (· ≤ ·) ∧ ∀ x ∈ es, m ≤ x ∧ x < m + n
theorem Ord.app {A B : List Nat} {m n k : Nat} (h1 : Ord A m n) (h2 : Ord B (m + n) k) : Ord (A ++ B) m (n + k) := by
  refine ⟨List.pairwise_append.mpr ⟨h1.1, h2.1, fun x hx y hy => ?_⟩, fun x hx => ?_⟩
  · have := h1.2 x hx; have := h2.2 y hy; omega
  · rcases List.mem_append.mp hx with q | q
    · have := h1.2 x q; omega
    · have := h2.2 x q; omega
theorem Ord.nil (m n : Nat) : Ord [] m n := ⟨.nil, fun _ h => nomatch h⟩
theorem Ord.one (m : Nat) : Ord [m] m 1 := ⟨List.pairwise_singleton _ _, fun x h => by rw [List.mem_singleton.mp h]; omega⟩
theorem Ord.wide {A : List Nat} {m n m' n' : Nat} (h : Ord A m n) (h1 : m' ≤ m) (h2 : m + n ≤ m' + n') : Ord A m' n' := ⟨h.1, fun x hx => by have := h.2 x hx; omega⟩
theorem lay_does (tw : Sm → Bool) (htw : ∀ o a b, tw (.bin o a b) = true → (a.eff && b.eff) = false) (φ : Nat → Nat) (N : Nat) (I : Inj φ N) : ∀ (s : Sm) (m k : Nat), k + s.need tw ≤ N →
    ∃ es, Does (lab id φ m (s.lay tw k)) (Rng φ k (s.need tw)) (φ k) s es ∧ Ord es m s.size ∧ (s.eff = false → es = [])
  | .num n, m, k, h => ⟨_, (does_leaf (n := m) (b := φ k) (r := .num n) rfl).imp fun c e => ⟨k, Nat.le_refl _, by simp [Sm.need], e⟩, Ord.nil _ _, fun _ => rfl⟩
  | .name n, m, k, h => ⟨_, (does_leaf (n := m) (b := φ k) (r := .name n) rfl).imp fun c e => ⟨k, Nat.le_refl _, by simp [Sm.need], e⟩, Ord.nil _ _, fun _ => rfl⟩
  | .ask, m, k, h => ⟨_, (does_leaf (n := m) (b := φ k) (r := .ask) rfl).imp fun c e => ⟨k, Nat.le_refl _, by simp [Sm.need], e⟩, Ord.one _, fun e => nomatch e⟩
  | .say s, m, k, h => by
    have hn : (Sm.say s).need tw = s.need tw := rfl
    have hp := s.need_pos tw
    obtain ⟨es, h1, h2, h3⟩ := lay_does tw htw φ N I s m k (by rw [hn] at h; exact h)
    have e : (Sm.say s).lay tw k = s.lay tw k ++ [⟨k, .say k⟩] := rfl
    refine ⟨es ++ [m + s.size], ?_, h2.app (Ord.one _), fun e => nomatch e⟩
    rw [e, lab_app, lay_length, hn]
    exact does_say h1 (fun _ h => h) ⟨k, Nat.le_refl _, by omega, rfl⟩
  | .bin o a b, m, k, h => by
    have hz : (Sm.bin o a b).size = a.size + b.size + 1 := rfl
    have pa := a.need_pos tw
    have pb := b.need_pos tw
    rw [need_bin] at h ⊢
    rw [lay_bin]
    unfold Sm.fst Sm.snd at h
    unfold Sm.fst Sm.snd Rst.flip
    cases ht : tw (.bin o a b) with
    | false =>
      rw [ht] at h
      simp only [Bool.false_eq_true, if_false] at h ⊢
      obtain ⟨ea, a1, a2, a3⟩ := lay_does tw htw φ N I a m k (by omega)
      obtain ⟨eb, b1, b2, b3⟩ := lay_does tw htw φ N I b (m + a.size) (k + 1) (by omega)
      refine ⟨ea ++ eb, ?_, (a2.app b2).wide (Nat.le_refl _) (by omega), fun e => ?_⟩
      · rw [lab_app, lab_app, lay_length]
        exact does_bin o a1 b1 (fun c hc => hc.mono (Nat.le_refl _) (by omega)) (fun c hc => hc.mono (by omega) (by omega)) ⟨k, Nat.le_refl _, by omega, rfl⟩ (Rng.not I (by omega) (by omega) (.inl (by omega)))
      · have e' : (a.eff || b.eff) = false := e
        rw [Bool.or_eq_false_iff] at e'
        rw [a3 e'.1, b3 e'.2]; rfl
    | true =>
      rw [ht] at h
      simp only [if_true] at h ⊢
      obtain ⟨eb, b1, b2, b3⟩ := lay_does tw htw φ N I b m k (by omega)
      obtain ⟨ea, a1, a2, a3⟩ := lay_does tw htw φ N I a (m + b.size) (k + 1) (by omega)
      have hne := htw o a b ht
      refine ⟨ea ++ eb, ?_, ?_, fun e => ?_⟩
      · rw [lab_app, lab_app, lay_length]
        exact does_flip o a1 b1 (fun c hc => hc.mono (by omega) (by omega)) (fun c hc => hc.mono (Nat.le_refl _) (by omega)) ⟨k, Nat.le_refl _, by omega, rfl⟩ (Rng.not I (by omega) (by omega) (.inl (by omega)))
      · rcases Bool.and_eq_false_iff.mp hne with q | q
        · rw [a3 q]; exact b2.wide (Nat.le_refl _) (by omega)
        · rw [b3 q, List.append_nil]; exact a2.wide (by omega) (by omega)
      · have e' : (a.eff || b.eff) = false := e
        rw [Bool.or_eq_false_iff] at e'
        rw [a3 e'.1, b3 e'.2]; rfl
/-! ### numbered steps -/
def num : Nat → List Stp → List (Nat × Stp)
  | _, [] => []
  | m, t :: r => (m, t) :: num (m + 1) r
theorem num_app : ∀ (A B : List Stp) (m : Nat), num m (A ++ B) = num m A ++ num (m + A.length) B
  | [], _, _ => rfl
  | t :: A, B, m => by
    show _ :: num (m + 1) (A ++ B) = _ :: (num (m + 1) A ++ num (m + (A.length + 1)) B)
    rw [num_app A B (m + 1), show m + 1 + A.length = m + (A.length + 1) by omega]
theorem lab_ren (φ : Nat → Nat) : ∀ (A : List Stp) (m : Nat), lab id φ m A = num m (A.map (Stp.ren φ))
  | [], _ => rfl
  | t :: A, m => by show _ :: lab id φ (m + 1) A = _ :: num (m + 1) _; rw [lab_ren φ A (m + 1)]; rfl
theorem ren_id (r : Rst) : ren id r = r := by cases r <;> rfl
theorem Stp.ren_id (t : Stp) : t.ren id = t := by cases t; unfold Stp.ren; rw [My.ren_id]; rfl
theorem map_ren_id (A : List Stp) : A.map (Stp.ren id) = A := by rw [show (Stp.ren id) = id from funext Stp.ren_id, List.map_id]
theorem lab_num {g : Nat → Nat} : ∀ {A : List Stp} {m : Nat}, (∀ i, m ≤ i → i < m + A.length → g i = i) → lab g id m A = num m A
  | [], _, _ => rfl
  | t :: A, m, h => by
    show (g m, t.ren id) :: lab g id (m + 1) A = (m, t) :: num (m + 1) A
    rw [Stp.ren_id, h m (Nat.le_refl _) (by simp only [List.length_cons]; omega), lab_num fun i h1 h2 => h i (by omega) (by simp only [List.length_cons]; omega)]
theorem ord_louds : ∀ (A : List Stp) (m : Nat), Ord (louds (num m A)) m A.length
  | [], m => Ord.nil _ _
  | t :: A, m => by
    have h := ord_louds A (m + 1)
    have e : louds (num m (t :: A)) = lbl m t.rest ++ louds (num (m + 1) A) := rfl
    rw [e, List.length_cons, Nat.add_comm A.length 1]
    refine Ord.app (n := 1) ?_ h
    unfold lbl
    split
    · exact Ord.one _
    · exact Ord.nil _ _
theorem take_keep {b : Nat} : ∀ {bs : List Nat} {S : Hd} {r : List Sm × List Nat × Hd}, b ∉ bs → takeAll bs S = some r → r.2.2 b = S b
  | [], S, r, _, h => by cases h; rfl
  | c :: bs, S, r, hb, h => by
    unfold takeAll at h
    cases e : S c with
    | none => rw [e] at h; cases h
    | some x =>
      rw [e] at h
      simp only at h
      cases e2 : takeAll bs (S.del c) with
      | none => rw [e2] at h; cases h
      | some r2 =>
        rw [e2] at h
        cases h
        show r2.2.2 b = S b
        rw [take_keep (fun m => hb (List.mem_cons_of_mem _ m)) e2, Hd.del_ne (fun e : b = c => hb (e ▸ List.mem_cons_self))]
theorem put_del_comm {S : Hd} {b c : Nat} (x : Sm × List Nat) (h : c ≠ b) : (S.put b x).del c = (S.del c).put b x := by
  funext d; simp only [Hd.del, Hd.put]
  by_cases e : d = c
  · subst e; simp [h]
  · simp [e]
theorem put_put_comm {S : Hd} {b c : Nat} (x y : Sm × List Nat) (h : c ≠ b) : (S.put b x).put c y = (S.put c y).put b x := by
  funext d; simp only [Hd.put]
  by_cases e : d = c
  · subst e; simp [h]
  · simp [e]
theorem take_put {b : Nat} (x : Sm × List Nat) : ∀ {bs : List Nat} {S : Hd}, b ∉ bs → takeAll bs (S.put b x) = (takeAll bs S).map fun r => (r.1, r.2.1, r.2.2.put b x)
  | [], S, _ => rfl
  | c :: bs, S, hb => by
    have hc : c ≠ b := fun e => hb (e ▸ List.mem_cons_self)
    unfold takeAll
    rw [Hd.put_ne _ hc, put_del_comm _ hc, take_put x fun m => hb (List.mem_cons_of_mem _ m)]
    cases S c with
    | none => rfl
    | some y => cases takeAll bs (S.del c) <;> rfl
theorem swap2 {n1 n2 : Nat} {t1 t2 : Stp} {S : Hd} (hl : t2.rest.bxs = []) (hb : t2.box ∉ t1.rest.bxs) (hne : t1.box ≠ t2.box) : runF [(n2, t2), (n1, t1)] S = runF [(n1, t1), (n2, t2)] S := by
  have e2 : ∀ S, stepF n2 t2 S = if (S t2.box).isSome then none else some (S.put t2.box (t2.rest.mk [], [] ++ lbl n2 t2.rest)) := fun S => by unfold stepF; rw [hl]; rfl
  show (match stepF n2 t2 S with | none => none | some S' => runF [(n1, t1)] S') = match stepF n1 t1 S with | none => none | some S' => runF [(n2, t2)] S'
  simp only [run_one, e2]
  generalize ex : (t2.rest.mk [], [] ++ lbl n2 t2.rest) = x
  have e1 : ∀ S, stepF n1 t1 S = match takeAll t1.rest.bxs S with | none => none | some r => if (r.2.2 t1.box).isSome then none else some (r.2.2.put t1.box (t1.rest.mk r.1, r.2.1 ++ lbl n1 t1.rest)) := fun S => rfl
  cases h2 : S t2.box with
  | some y =>
    simp only [Option.isSome_some, if_true]
    rw [e1]
    cases h1 : takeAll t1.rest.bxs S with
    | none => rfl
    | some r =>
      simp only
      cases h3 : r.2.2 t1.box with
      | some z => rfl
      | none =>
        simp only [Option.isSome_none, Bool.false_eq_true, if_false]
        rw [Hd.put_ne _ hne.symm, take_keep hb h1, h2]
        rfl
  | none =>
    simp only [Option.isSome_none, Bool.false_eq_true, if_false]
    rw [e1, e1, take_put x hb]
    cases h1 : takeAll t1.rest.bxs S with
    | none => rfl
    | some r =>
      simp only [Option.map_some]
      rw [Hd.put_ne _ hne]
      cases h3 : r.2.2 t1.box with
      | some z => rfl
      | none =>
        simp only [Option.isSome_none, Bool.false_eq_true, if_false]
        rw [Hd.put_ne _ hne.symm, take_keep hb h1, h2]
        simp only [Option.isSome_none, Bool.false_eq_true, if_false]
        rw [put_put_comm _ _ hne]
/-! ### good steps, moved and exchanged -/
theorem okFrom_mono : ∀ {L : List Stp} {F F' : Nat → Prop}, (∀ b, F b → F' b) → okFrom F L → okFrom F' L
  | [], _, _, _, _ => trivial
  | t :: L, F, F', h, k => ⟨k.1, k.2.1, fun b hb => ⟨(k.2.2.1 b hb).1, h b (k.2.2.1 b hb).2⟩, okFrom_mono (fun b hb => hb.imp id (h b)) k.2.2.2⟩
theorem bxs_ren (φ : Nat → Nat) (r : Rst) : (ren φ r).bxs = r.bxs.map φ := by cases r <;> rfl
theorem ok_ren {φ : Nat → Nat} {r : Rst} (h : r.ok) : (ren φ r).ok := by cases r <;> exact h
theorem okFrom_ren {φ : Nat → Nat} (h2 : ∀ j, φ j < 200) : ∀ {L : List Stp} {F F' : Nat → Prop}, (∀ b, F b → F' (φ b)) → okFrom F L → okFrom F' (L.map (Stp.ren φ))
  | [], _, _, _, _ => trivial
  | t :: L, F, F', h, k => ⟨h2 _, ok_ren k.2.1, fun b hb => by
      have hb' : b ∈ (ren φ t.rest).bxs := hb
      rw [bxs_ren] at hb'
      obtain ⟨c, hc, rfl⟩ := List.mem_map.mp hb'
      exact ⟨h2 _, h c (k.2.2.1 c hc).2⟩, okFrom_ren h2 (fun b hb => hb.imp (fun e => by rw [e]; rfl) (h b)) k.2.2.2⟩
theorem okSteps_ren {φ : Nat → Nat} (h2 : ∀ j, φ j < 200) {L : List Stp} (h : okSteps L) : okSteps (L.map (Stp.ren φ)) :=
  ⟨fun e => h.1 (List.map_eq_nil_iff.mp e), by rw [List.length_map]; exact h.2.1, okFrom_ren h2 (fun _ q => q) h.2.2⟩
theorem okFrom_swap {t1 t2 : Stp} {B : List Stp} (hl : t2.rest.bxs = []) : ∀ {A : List Stp} {F : Nat → Prop}, okFrom F (A ++ [t1, t2] ++ B) → okFrom F (A ++ [t2, t1] ++ B)
  | [], F, k => by
    obtain ⟨a1, a2, a3, b1, b2, b3, k⟩ := k
    refine ⟨b1, b2, fun b hb => (by rw [hl] at hb; cases hb), a1, a2, fun b hb => ⟨(a3 b hb).1, .inr (a3 b hb).2⟩, okFrom_mono (fun b hb => ?_) k⟩
    rcases hb with q | q | q
    · exact .inr (.inl q)
    · exact .inl q
    · exact .inr (.inr q)
  | t :: A, F, k => ⟨k.1, k.2.1, k.2.2.1, okFrom_swap hl (A := A) k.2.2.2⟩
/-- what the steps ts come back to -/
structure Back (ts : List Stp) (s : Sm) (es : List Nat) : Prop where
  ok : okSteps ts
  run : ∃ b, runF (num 0 ts) (fun _ => none) = some (Hd.put (fun _ => none) b (s, es)) ∧ ∃ L r, ts = L ++ [⟨b, r⟩]
theorem back_cut {φ : Nat → Nat} (I : Inj φ 60) {s : Sm} (hok : okSteps ((s.cut 0).map (Stp.ren φ))) (hz : s.size ≤ 60) : ∃ es, Back ((s.cut 0).map (Stp.ren φ)) s es ∧ es.Pairwise (· ≤ ·) := by
  have d := (cut_does id φ 60 I s 0 0 (by omega)).2 (fun _ => none) fun _ _ => rfl
  rw [lab_ren] at d
  refine ⟨_, ⟨hok, _, d, ?_⟩, (ord_louds _ _).1⟩
  have e := Sm.cut_eq s 0
  rw [e, List.map_append]
  have hs := s.size_eq
  refine ⟨List.map (Stp.ren φ) (cuts s.subs 0), My.ren φ (s.rst (cutBoxes s.subs 0)), ?_⟩
  rw [show 0 + s.size - 1 = 0 + sizeL s.subs by omega]
  rfl
theorem lay_last (tw : Sm → Bool) (s : Sm) (k : Nat) : ∃ L r, s.lay tw k = L ++ [⟨k, r⟩] := by
  cases s with
  | num n => exact ⟨[], _, rfl⟩
  | name n => exact ⟨[], _, rfl⟩
  | ask => exact ⟨[], _, rfl⟩
  | say s => exact ⟨_, _, rfl⟩
  | bin o a b => exact ⟨_, _, lay_bin tw o a b k⟩
theorem back_lay (tw : Sm → Bool) (htw : ∀ o a b, tw (.bin o a b) = true → (a.eff && b.eff) = false) {φ : Nat → Nat} (I : Inj φ 60) {s : Sm} (hok : okSteps ((s.lay tw 0).map (Stp.ren φ))) (hz : s.size ≤ 60) : ∃ es, Back ((s.lay tw 0).map (Stp.ren φ)) s es ∧ es.Pairwise (· ≤ ·) := by
  have hn := need_le tw s
  obtain ⟨es, d, o, _⟩ := lay_does tw htw φ 60 I s 0 0 (by omega)
  have d := d.2 (fun _ => none) fun _ _ => rfl
  rw [lab_ren] at d
  obtain ⟨L, r, e⟩ := lay_last tw s 0
  refine ⟨_, ⟨hok, _, d, ?_⟩, o.1⟩
  rw [e, List.map_append]
  exact ⟨_, _, rfl⟩
theorem turn_ok (o : Op) (a b : Sm) (h : Sm.turn (.bin o a b) = true) : (a.eff && b.eff) = false := by
  unfold Sm.turn at h
  rw [Bool.and_eq_true, Bool.not_eq_true'] at h
  exact h.2
theorem none_ok (o : Op) (a b : Sm) (h : (fun _ : Sm => false) (.bin o a b) = true) : (a.eff && b.eff) = false := nomatch h
def swp (k : Nat) (i : Nat) : Nat := if i = k then k + 1 else if i = k + 1 then k else i
theorem back_swap {s : Sm} {A B : List Stp} {t1 t2 : Stp} (h : s.ok) (hz : s.size ≤ 60) (e : s.cut 0 = A ++ [t1, t2] ++ B) (hl : t2.rest.bxs = []) :
    ∃ es, Back (A ++ [t2, t1] ++ B) s es ∧ (es.Pairwise (· ≤ ·) ↔ ¬ (t1.rest.loud = true ∧ t2.rest.loud = true)) := by
  have ok := cut_okSteps h hz
  have hbx := cut_box s 0
  have hlen := s.cut_length 0
  rw [e] at ok hbx hlen
  simp only [List.length_append, List.length_cons, List.length_nil] at hlen
  have bx : ∀ i : Nat, i < s.size → ((A ++ [t1, t2] ++ B).map Stp.box)[i]? = some i := by
    intro i hi
    rw [hbx, List.getElem?_map, List.getElem?_range hi]
    simp
  have x1 : (A ++ [t1, t2] ++ B)[A.length]? = some t1 := by rw [List.append_assoc, List.getElem?_append_right (Nat.le_refl _), Nat.sub_self]; rfl
  have x2 : (A ++ [t1, t2] ++ B)[A.length + 1]? = some t2 := by rw [List.append_assoc, List.getElem?_append_right (by omega), show A.length + 1 - A.length = 1 by omega]; rfl
  have b1 : t1.box = A.length := by
    have := bx A.length (by omega)
    rw [List.getElem?_map, x1] at this
    exact Option.some.inj this
  have b2 : t2.box = A.length + 1 := by
    have := bx (A.length + 1) (by omega)
    rw [List.getElem?_map, x2] at this
    exact Option.some.inj this
  have nb : t2.box ∉ t1.rest.bxs := by
    intro hb
    obtain ⟨_, q⟩ := (okFrom_at ok.2.2 x1).2.2 _ hb
    rcases q with q | ⟨u, hu, q⟩
    · exact q
    · obtain ⟨i, hi, ei⟩ := List.mem_iff_getElem.mp hu
      rw [List.length_take] at hi
      have hi2 : (A ++ [t1, t2] ++ B)[i]? = some u := by
        rw [← ei, List.getElem_take, List.getElem?_eq_getElem]
      have := bx i (by omega)
      rw [List.getElem?_map, hi2] at this
      have := Option.some.inj this
      omega
  have d := (cut_does (swp A.length) id 60 (fun i j _ _ e => e) s 0 0 (by omega)).2 (fun _ => none) fun _ _ => rfl
  have el : lab (swp A.length) id 0 (s.cut 0) = num 0 A ++ [(A.length + 1, t1), (A.length, t2)] ++ num (A.length + 2) B := by
    rw [e, lab_app, lab_app]
    congr 1
    · congr 1
      · refine lab_num fun i h1 h2 => ?_
        unfold swp
        rw [if_neg (by omega), if_neg (by omega)]
      · show [(swp A.length (0 + A.length), t1.ren id), (swp A.length (0 + A.length + 1), t2.ren id)] = _
        rw [Stp.ren_id, Stp.ren_id, Nat.zero_add]
        unfold swp
        rw [if_pos rfl, if_neg (by omega), if_pos rfl]
    · rw [show 0 + (A ++ [t1, t2]).length = A.length + 2 by simp]
      refine lab_num fun i h1 h2 => ?_
      unfold swp
      rw [if_neg (by omega), if_neg (by omega)]
  rw [el] at d
  refine ⟨louds (num 0 A ++ [(A.length + 1, t1), (A.length, t2)] ++ num (A.length + 2) B), ⟨⟨by simp, ?_, okFrom_swap hl ok.2.2⟩, id (0 + s.size - 1), ?_, ?_⟩, ?_⟩
  · have := ok.2.1
    simp only [List.length_append, List.length_cons, List.length_nil] at this ⊢
    exact this
  · rw [num_app, num_app, runF_app, runF_app]
    rw [runF_app, runF_app] at d
    rw [show (0 + (A ++ [t2, t1]).length) = A.length + 2 by simp, Nat.zero_add]
    cases e1 : runF (num 0 A) (fun _ => none) with
    | none => rw [e1] at d; cases d
    | some S =>
      rw [e1] at d
      show (match runF [(A.length, t2), (A.length + 1, t1)] S with | none => none | some S' => runF (num (A.length + 2) B) S') = _
      rw [swap2 hl nb (by omega)]
      exact d
  · have hB : B ≠ [] := by
      rintro rfl
      rw [List.append_nil] at e
      have e2 := Sm.cut_eq s 0
      rw [e2] at e
      have e3 : [(⟨0 + sizeL s.subs, s.rst (cutBoxes s.subs 0)⟩ : Stp)] = [t2] := by
        have : A ++ [t1, t2] = (A ++ [t1]) ++ [t2] := by simp
        rw [this] at e
        exact (List.append_inj' e rfl).2
      have e4 : s.rst (cutBoxes s.subs 0) = t2.rest := by
        have := List.cons.inj e3
        rw [← this.1]
      have e5 : s.subs = [] := by
        rw [← e4] at hl
        cases s with
        | num n => rfl
        | name n => rfl
        | ask => rfl
        | say s => cases hl
        | bin o a b => cases hl
      have := s.size_eq
      rw [e5] at this
      simp [sizeL] at this
      simp only [List.length_nil] at hlen
      omega
    obtain ⟨L, x, rfl⟩ := List.eq_nil_or_concat B |>.resolve_left hB
    rw [List.concat_eq_append]
    refine ⟨A ++ [t2, t1] ++ L, x.rest, ?_⟩
    rw [List.append_assoc _ L]
    congr 2
    have := bx (s.size - 1) (by omega)
    rw [List.getElem?_map, List.concat_eq_append, ← List.append_assoc, List.getElem?_append_right (by simp only [List.concat_eq_append, List.length_append, List.length_cons, List.length_nil] at hlen ⊢; omega)] at this
    have ez : s.size - 1 - (A ++ [t1, t2] ++ L).length = 0 := by simp only [List.concat_eq_append, List.length_append, List.length_cons, List.length_nil] at hlen ⊢; omega
    rw [ez] at this
    have := Option.some.inj this
    cases x
    show [_] = [_]
    rw [show id (0 + s.size - 1) = s.size - 1 by show 0 + s.size - 1 = _; omega, ← this]
  · have oA := ord_louds A 0
    have oB := ord_louds B (A.length + 2)
    rw [louds_app, louds_app]
    show ((louds (num 0 A) ++ (lbl (A.length + 1) t1.rest ++ (lbl A.length t2.rest ++ []))) ++ louds (num (A.length + 2) B)).Pairwise (· ≤ ·) ↔ _
    unfold lbl
    cases l1 : t1.rest.loud with
    | false =>
      simp only [Bool.false_eq_true, if_false, List.nil_append, false_and, not_false_eq_true, iff_true]
      cases l2 : t2.rest.loud with
      | false => exact ((oA.app (n := A.length) (k := 0) (Ord.nil _ _)).app (oB.wide (by omega) (by omega) (n' := B.length + 2))).1
      | true => exact ((oA.app (n := A.length) (k := 1) ((Ord.one A.length).wide (by omega) (by omega))).app (oB.wide (m' := 0 + (A.length + 1)) (by omega) (by omega) (n' := B.length + 1))).1
    | true =>
      cases l2 : t2.rest.loud with
      | false => exact ⟨fun _ h => (nomatch h.2), fun _ => ((oA.app (n := A.length) (k := 2) ((Ord.one (A.length + 1)).wide (by omega) (by omega))).app (oB.wide (m' := 0 + (A.length + 2)) (by omega) (by omega) (n' := B.length))).1⟩
      | true =>
        refine ⟨fun h => ?_, fun h => absurd ⟨rfl, rfl⟩ h⟩
        have h1 := (List.pairwise_append.mp (List.pairwise_append.mp h).1).2.1
        have := (List.pairwise_cons.mp h1).1 A.length (by simp)
        omega
end My
/-! C7: put_back's specs -/
namespace My
open PySem L2 Wk
theorem valV_drop_ne {kvs : List (Key × V)} {k j : Key} (h : j ≠ k) : valV (dropK kvs k) j = valV kvs j := by
  unfold valV dropK
  congr 1
  induction kvs with
  | nil => rfl
  | cons x r ih =>
    rw [List.filter_cons, List.find?_cons]
    by_cases e : x.1 = k
    · rw [if_neg (by simp [e])]
      rw [ih]
      have : decide (x.1 = j) = false := by rw [e]; simp [Ne.symm h]
      rw [this]
    · rw [if_pos (by simp [e]), List.find?_cons]
      cases decide (x.1 = j) with
      | true => rfl
      | false => exact ih
theorem keys_drop {kvs : List (Key × V)} {k : Key} (h : (kvs.map Prod.fst).Nodup) : ((dropK kvs k).map Prod.fst).Nodup := by
  unfold dropK
  exact h.sublist (List.Sublist.map _ List.filter_sublist)
theorem keys_put {kvs : List (Key × V)} {k : Key} {v : V} (h : (kvs.map Prod.fst).Nodup) : ((putK kvs k v).map Prod.fst).Nodup := by
  unfold putK
  split
  · have e : (kvs.map fun kv => if kv.1 = k then (kv.1, v) else kv).map Prod.fst = kvs.map Prod.fst := by
      rw [List.map_map]
      congr 1
      funext kv
      show (if kv.1 = k then (kv.1, v) else kv).1 = kv.1
      split <;> rfl
    rw [e]; exact h
  · next c =>
    rw [List.map_append, List.nodup_append]
    refine ⟨h, by simp, fun a ha b hb e => c ?_⟩
    simp only [List.map_cons, List.map_nil, List.mem_singleton] at hb
    obtain ⟨kv, hkv, rfl⟩ := List.mem_map.mp ha
    exact List.any_eq_true.mpr ⟨kv, hkv, by simp [e, hb]⟩
theorem mem_put {kvs : List (Key × V)} {k : Key} {v : V} {x : Key × V} (h : x ∈ putK kvs k v) : x.1 = k ∨ ∃ y ∈ kvs, y.1 = x.1 := by
  unfold putK at h
  split at h
  · obtain ⟨y, hy, rfl⟩ := List.mem_map.mp h
    exact .inr ⟨y, hy, by show y.1 = (if y.1 = k then (y.1, v) else y).1; split <;> rfl⟩
  · rcases List.mem_append.mp h with m | m
    · exact .inr ⟨x, m, rfl⟩
    · rw [List.mem_singleton.mp m]; exact .inl rfl
/-- what a box holds: the part and the numbers of its effects -/
def EntAt (H : Hp) (v : V) (x : Sm × List Nat) : Prop := ∃ (q : Addr) (y : V) (l : Addr), v = .ref q ∧ H q = some (.tup [y, .ref l]) ∧ IsSum H y x.1 ∧ H l = some (.lst (x.2.map fun n => V.int (n : Nat)))
theorem EntAt.fr {W : List Addr} {H H' : Hp} {v : V} {x : Sm × List Nat} (h : EntAt H v x) (a : Fr W H H') (hW : ∀ l xs, H l = some (.lst xs) → l ∉ W) : EntAt H' v x := by
  obtain ⟨q, y, l, rfl, h1, h2, h3⟩ := h
  exact ⟨q, y, l, rfl, a.gett h1, h2.mono a, a.getl (hW _ _ h3) h3⟩
/-- the dict's pairs kvs hold S, their entries lie in H -/
def HeldK (H : Hp) (kvs : List (Key × V)) (S : Hd) (n : Nat) : Prop := kvs.length ≤ n ∧ (kvs.map Prod.fst).Nodup ∧ (∀ kv ∈ kvs, ∃ b : Nat, kv.1 = Sum.inl (b : Int)) ∧
  ∀ b : Nat, (S b = none → valV kvs (Sum.inl (b : Int)) = none) ∧ ∀ x, S b = some x → ∃ v, valV kvs (Sum.inl (b : Int)) = some v ∧ EntAt H v x
theorem HeldK.fr {W : List Addr} {H H' : Hp} {kvs : List (Key × V)} {S : Hd} {n : Nat} (h : HeldK H kvs S n) (a : Fr W H H') (hW : ∀ l xs, H l = some (.lst xs) → l ∉ W) : HeldK H' kvs S n := by
  refine ⟨h.1, h.2.1, h.2.2.1, fun b => ⟨(h.2.2.2 b).1, fun x hx => ?_⟩⟩
  obtain ⟨v, h1, h2⟩ := (h.2.2.2 b).2 x hx
  exact ⟨v, h1, h2.fr a hW⟩
theorem HeldK.nil (H : Hp) : HeldK H [] (fun _ => none) 0 := ⟨Nat.le_refl _, by simp, fun _ h => (nomatch h), fun b => ⟨fun _ => valV_nil, fun _ h => (nomatch h)⟩⟩
theorem HeldK.drop {H : Hp} {kvs : List (Key × V)} {S : Hd} {n b : Nat} (h : HeldK H kvs S n) : HeldK H (dropK kvs (Sum.inl (b : Int))) (S.del b) n := by
  refine ⟨Nat.le_trans (dropK_le ..) h.1, keys_drop h.2.1, fun kv hkv => h.2.2.1 kv (List.mem_filter.mp hkv).1, fun c => ?_⟩
  by_cases e : c = b
  · subst e
    refine ⟨fun _ => valV_drop, fun x hx => ?_⟩
    rw [Hd.del_same] at hx; cases hx
  · have ne : (Sum.inl (c : Int) : Key) ≠ Sum.inl (b : Int) := fun q => e (by have := Sum.inl.inj q; omega)
    rw [Hd.del_ne e, valV_drop_ne ne]
    exact h.2.2.2 c
theorem HeldK.put {H : Hp} {kvs : List (Key × V)} {S : Hd} {n b : Nat} {v : V} {x : Sm × List Nat} (h : HeldK H kvs S n) (hv : EntAt H v x) : HeldK H (putK kvs (Sum.inl (b : Int)) v) (S.put b x) (n + 1) := by
  refine ⟨by have := putK_length kvs (Sum.inl (b : Int)) v; have := h.1; omega, keys_put h.2.1, fun kv hkv => ?_, fun c => ?_⟩
  · rcases mem_put hkv with q | ⟨y, hy, q⟩
    · exact ⟨b, q⟩
    · obtain ⟨d, hd⟩ := h.2.2.1 y hy
      exact ⟨d, by rw [← q, hd]⟩
  · rw [valV_put]
    by_cases e : c = b
    · subst e
      rw [Hd.put_same, if_pos rfl]
      exact ⟨fun q => (nomatch q), fun x' hx => by cases hx; exact ⟨v, rfl, hv⟩⟩
    · have ne : (Sum.inl (c : Int) : Key) ≠ Sum.inl (b : Int) := fun q => e (by have := Sum.inl.inj q; omega)
      rw [Hd.put_ne _ e, if_neg ne]
      exact h.2.2.2 c
theorem HeldK.one {H : Hp} {kvs : List (Key × V)} {b n : Nat} {x : Sm × List Nat} (h : HeldK H kvs (Hd.put (fun _ => none) b x) n) : kvs.length = 1 := by
  have all : ∀ kv ∈ kvs, kv.1 = Sum.inl (b : Int) := by
    intro kv hkv
    obtain ⟨c, hc⟩ := h.2.2.1 kv hkv
    by_cases e : c = b
    · rw [hc, e]
    · have := (h.2.2.2 c).1 (Hd.put_ne _ e)
      unfold valV at this
      rw [Option.map_eq_none_iff, List.find?_eq_none] at this
      have := this kv hkv
      simp [hc] at this
  obtain ⟨v, hv, _⟩ := (h.2.2.2 b).2 x (Hd.put_same ..)
  match kvs, h.2.1, all, hv with
  | [], _, _, hv => rw [valV_nil] at hv; cases hv
  | [_], _, _, _ => rfl
  | p :: q :: r, nd, all, _ =>
    have e1 := all p (by simp)
    have e2 := all q (by simp)
    simp [e1, e2] at nd
def HeldAt (H : Hp) (hd : Addr) (S : Hd) (n : Nat) : Prop := ∃ kvs : List (Key × V), H hd = some (.dK kvs) ∧ HeldK H kvs S n
theorem takeAll_cons (b : Nat) (bs : List Nat) (S : Hd) : takeAll (b :: bs) S = match S b with | none => none | some x => match takeAll bs (S.del b) with | none => none | some r => some (x.1 :: r.1, x.2 ++ r.2.1, r.2.2) := rfl
theorem takeAll_app : ∀ (A B : List Nat) (S : Hd), takeAll (A ++ B) S = match takeAll A S with | none => none | some r => match takeAll B r.2.2 with | none => none | some r2 => some (r.1 ++ r2.1, r.2.1 ++ r2.2.1, r2.2.2)
  | [], B, S => by
    show takeAll B S = match takeAll B S with | none => none | some r2 => some ([] ++ r2.1, [] ++ r2.2.1, r2.2.2)
    cases takeAll B S <;> rfl
  | b :: A, B, S => by
    rw [List.cons_append, takeAll_cons, takeAll_cons]
    cases S b with
    | none => rfl
    | some x =>
      simp only
      rw [takeAll_app A B]
      cases takeAll A (S.del b) with
      | none => rfl
      | some r =>
        simp only
        cases takeAll B r.2.2 with
        | none => rfl
        | some r2 => simp [List.append_assoc]
theorem takeAll_len : ∀ {bs : List Nat} {S : Hd} {r : List Sm × List Nat × Hd}, takeAll bs S = some r → r.1.length = bs.length
  | [], S, r, h => by cases h; rfl
  | b :: bs, S, r, h => by
    unfold takeAll at h
    cases e : S b with
    | none => rw [e] at h; cases h
    | some x =>
      rw [e] at h
      simp only at h
      cases e2 : takeAll bs (S.del b) with
      | none => rw [e2] at h; cases h
      | some r2 =>
        rw [e2] at h
        cases h
        show (_ :: r2.1).length = _
        rw [List.length_cons, takeAll_len e2, List.length_cons]
/-- one box more: what is taken so far grows by what that box holds -/
theorem takeAll_step {bs : List Nat} {S : Hd} {r : List Sm × List Nat × Hd} {i b : Nat} (h : takeAll bs S = some r) (hb : bs[i]? = some b) {r1 : List Sm × List Nat × Hd} (h1 : takeAll (bs.take i) S = some r1) :
    ∃ x, r1.2.2 b = some x ∧ takeAll (bs.take (i + 1)) S = some (r1.1 ++ [x.1], r1.2.1 ++ x.2, r1.2.2.del b) ∧ (r1.2.1 ++ x.2).length ≤ r.2.1.length := by
  have e : bs = bs.take (i + 1) ++ bs.drop (i + 1) := (List.take_append_drop _ _).symm
  have e2 : bs.take (i + 1) = bs.take i ++ [b] := take_snoc hb
  rw [e, takeAll_app, e2, takeAll_app, h1] at h
  simp only at h
  cases hx : r1.2.2 b with
  | none =>
    have : takeAll [b] r1.2.2 = none := by unfold takeAll; rw [hx]
    rw [this] at h; cases h
  | some x =>
    have ex : takeAll [b] r1.2.2 = some ([x.1], x.2 ++ [], r1.2.2.del b) := by unfold takeAll; rw [hx]; rfl
    rw [ex] at h
    simp only at h
    refine ⟨x, rfl, by rw [e2, takeAll_app, h1]; simp only [ex, List.append_nil], ?_⟩
    cases h3 : takeAll (bs.drop (i + 1)) (r1.2.2.del b) with
    | none => rw [h3] at h; cases h
    | some r3 =>
      rw [h3] at h
      cases h
      simp only [List.length_append, List.length_nil]
      omega
theorem mk_sum {H : Hp} {r : Rst} {us : List V} {ss : List Sm} {q : Addr} (h : H q = some (.tup (fillV r.vals us))) (ha : AllSum H us ss) (hl : ss.length = r.bxs.length) : IsSum H (.ref q) (r.mk ss) := by
  have ul := ha.length
  cases r with
  | num n =>
    have : ss = [] := List.eq_nil_of_length_eq_zero hl
    subst this
    have : us = [] := List.eq_nil_of_length_eq_zero ul
    subst this
    exact ⟨q, rfl, h⟩
  | name n =>
    have : ss = [] := List.eq_nil_of_length_eq_zero hl
    subst this
    have : us = [] := List.eq_nil_of_length_eq_zero ul
    subst this
    exact ⟨q, rfl, h⟩
  | ask =>
    have : ss = [] := List.eq_nil_of_length_eq_zero hl
    subst this
    have : us = [] := List.eq_nil_of_length_eq_zero ul
    subst this
    exact ⟨q, rfl, h⟩
  | say b =>
    match ss, us, hl, ha with
    | [s], [x], _, ha => exact ⟨q, x, rfl, h, ha.1⟩
  | bin o b c =>
    match ss, us, hl, ha with
    | [s, t], [x, y], _, ha => exact ⟨q, x, y, rfl, h, ha.1, ha.2.1⟩
/-- the boxes' effects: none twice, all below i -/
def Few (S : Hd) (i : Nat) : Prop := (∀ b x, S b = some x → x.2.Nodup ∧ ∀ n ∈ x.2, n < i) ∧ ∀ b c x y, b ≠ c → S b = some x → S c = some y → ∀ n ∈ x.2, n ∉ y.2
theorem Few.del {S : Hd} {i b : Nat} (h : Few S i) : Few (S.del b) i := by
  have old : ∀ c x, S.del b c = some x → S c = some x := fun c x e => by
    unfold Hd.del at e
    split at e
    · cases e
    · exact e
  exact ⟨fun c x e => h.1 c x (old _ _ e), fun c d x y ne e e' => h.2 c d x y ne (old _ _ e) (old _ _ e')⟩
theorem few_take {i : Nat} : ∀ {bs : List Nat} {S : Hd} {r : List Sm × List Nat × Hd}, Few S i → takeAll bs S = some r → (r.2.1.Nodup ∧ ∀ n ∈ r.2.1, n < i) ∧ Few r.2.2 i ∧ (∀ c y, r.2.2 c = some y → S c = some y ∧ ∀ n ∈ y.2, n ∉ r.2.1) ∧ ∀ n ∈ r.2.1, ∃ c y, S c = some y ∧ n ∈ y.2
  | [], S, r, hF, h => by cases h; exact ⟨⟨List.nodup_nil, fun _ h => nomatch h⟩, hF, fun c y e => ⟨e, fun n _ h => nomatch h⟩, fun _ h => nomatch h⟩
  | b :: bs, S, r, hF, h => by
    unfold takeAll at h
    cases e : S b with
    | none => rw [e] at h; cases h
    | some x =>
      rw [e] at h
      simp only at h
      cases e2 : takeAll bs (S.del b) with
      | none => rw [e2] at h; cases h
      | some r2 =>
        rw [e2] at h
        cases h
        obtain ⟨⟨n1, n2⟩, F2, o2, w2⟩ := few_take (Few.del (b := b) hF) e2
        have old : ∀ c y, S.del b c = some y → c ≠ b ∧ S c = some y := fun c y q => by
          unfold Hd.del at q
          split at q
          · cases q
          · next hc => exact ⟨hc, q⟩
        refine ⟨⟨List.nodup_append.mpr ⟨(hF.1 b x e).1, n1, fun m hm m' hm' em => ?_⟩, fun n hn => ?_⟩, F2, fun c y q => ?_, fun n hn => ?_⟩
        · obtain ⟨c, y, hc, hy⟩ := w2 m' hm'
          exact hF.2 b c x y (Ne.symm (old c y hc).1) e (old c y hc).2 m hm (em ▸ hy)
        · rcases List.mem_append.mp hn with q | q
          · exact (hF.1 b x e).2 n q
          · exact n2 n q
        · obtain ⟨q1, q2⟩ := o2 c y q
          refine ⟨(old c y q1).2, fun n hn hm => ?_⟩
          rcases List.mem_append.mp hm with m | m
          · exact hF.2 c b y x (old c y q1).1 (old c y q1).2 e n hn m
          · exact q2 n hn m
        · rcases List.mem_append.mp hn with q | q
          · exact ⟨b, x, e, q⟩
          · obtain ⟨c, y, hc, hy⟩ := w2 n q
            exact ⟨c, y, (old c y hc).2, hy⟩
theorem few_len {l : List Nat} {i : Nat} (h : l.Nodup) (k : ∀ n ∈ l, n < i) : l.length ≤ i := by
  have := nodup_small (ys := l.map fun n : Nat => (n : Int)) (n := i - 1) (List.Pairwise.map _ (fun a b ne e => ne (by omega)) h) (fun z hz => by
    obtain ⟨n, hn, rfl⟩ := List.mem_map.mp hz
    have := k n hn
    omega)
  rw [List.length_map] at this
  cases l with
  | nil => exact Nat.zero_le _
  | cons a r =>
    have := k a List.mem_cons_self
    omega
theorem few_step {S S' : Hd} {i : Nat} {t : Stp} (hF : Few S i) (h : stepF i t S = some S') : ∃ r, takeAll t.rest.bxs S = some r ∧ r.2.2 t.box = none ∧ S' = r.2.2.put t.box (t.rest.mk r.1, r.2.1 ++ lbl i t.rest) ∧ r.2.1.length ≤ i ∧ Few S' (i + 1) := by
  unfold stepF at h
  cases e : takeAll t.rest.bxs S with
  | none => rw [e] at h; cases h
  | some r =>
    rw [e] at h
    simp only at h
    cases e2 : r.2.2 t.box with
    | some _ => rw [e2] at h; cases h
    | none =>
      rw [e2] at h
      cases h
      obtain ⟨⟨n1, n2⟩, F2, o2, _⟩ := few_take hF e
      have lb : ∀ n ∈ lbl i t.rest, n = i := fun n hn => by
        unfold lbl at hn
        split at hn
        · exact List.mem_singleton.mp hn
        · cases hn
      have new : (r.2.1 ++ lbl i t.rest).Nodup ∧ ∀ n ∈ r.2.1 ++ lbl i t.rest, n < i + 1 := by
        refine ⟨List.nodup_append.mpr ⟨n1, by unfold lbl; split <;> simp, fun a ha b hb e => ?_⟩, fun n hn => ?_⟩
        · have := n2 a ha; have := lb b hb; omega
        · rcases List.mem_append.mp hn with q | q
          · have := n2 n q; omega
          · have := lb n q; omega
      have apart : ∀ c y, r.2.2 c = some y → ∀ n ∈ y.2, n ∉ r.2.1 ++ lbl i t.rest := fun c y hc n hn hm => by
        rcases List.mem_append.mp hm with q | q
        · exact (o2 c y hc).2 n hn q
        · have := (F2.1 c y hc).2 n hn
          have := lb n q
          omega
      refine ⟨r, rfl, e2, rfl, few_len n1 n2, fun b x hb => ?_, fun b c x y ne hb hc n hn hm => ?_⟩
      · by_cases eb : b = t.box
        · rw [eb, Hd.put_same] at hb; cases hb; exact new
        · rw [Hd.put_ne _ eb] at hb
          exact ⟨(F2.1 b x hb).1, fun n hn => by have := (F2.1 b x hb).2 n hn; omega⟩
      · by_cases eb : b = t.box
        · have ec : c ≠ t.box := fun q => ne (eb.trans q.symm)
          rw [eb, Hd.put_same] at hb; cases hb
          rw [Hd.put_ne _ ec] at hc
          exact apart c y hc n hm hn
        · rw [Hd.put_ne _ eb] at hb
          by_cases ec : c = t.box
          · rw [ec, Hd.put_same] at hc; cases hc
            exact apart b x hb n hn hm
          · rw [Hd.put_ne _ ec] at hc
            exact F2.2 b c x y ne hb hc n hn hm
theorem loud_word (r : Rst) : ∀ w t, r.vals = .str w :: t → r.loud = (decide (w = "say") || decide (w = "ask")) := by
  intro w t e
  cases r with
  | num n => injection e with e _; injection e with e; subst e; show false = _; decide +kernel
  | name n => injection e with e _; injection e with e; subst e; show false = _; decide +kernel
  | ask => injection e with e _; injection e with e; subst e; decide +kernel
  | say s => injection e with e _; injection e with e; subst e; show true = _; decide +kernel
  | bin o a b => injection e with e _; injection e with e; subst e; show false = _; cases o <;> decide +kernel
/-! ### specs -/
def spIsEffG : Sp := fun vs H Q _ => ∃ (p : Addr) (w : Str) (r : List V), vs = [.ref p] ∧ H p = some (.tup (.str w :: r)) ∧ ∀ H' : Hp, Fr [] H H' → Q (.bl (decide (w = "say") || decide (w = "ask"))) H'
theorem isEff_w2 (s : Sm) : s.isEff = (decide (s.word = "say") || decide (s.word = "ask")) := by
  cases s with
  | num n => show false = (decide (("num" : Str) = "say") || decide (("num" : Str) = "ask")); decide +kernel
  | name n => show false = (decide (("name" : Str) = "say") || decide (("name" : Str) = "ask")); decide +kernel
  | ask => show true = (decide (("ask" : Str) = "say") || decide (("ask" : Str) = "ask")); decide +kernel
  | say s => show true = (decide (("say" : Str) = "say") || decide (("say" : Str) = "ask")); decide +kernel
  | bin o a b => show false = (decide (o.word = "say") || decide (o.word = "ask")); cases o <;> decide +kernel
theorem isEff_imp (vs : List V) (H : Hp) (Q : VK) (E : XK) (h : spIsEff vs H Q E) : spIsEffG vs H Q E := by
  obtain ⟨v, s, rfl, hs, k⟩ := h
  obtain ⟨p, xs, rfl, hp, _⟩ := hs.items
  obtain ⟨r, er⟩ := sum_items s xs
  exact ⟨p, s.word, r, rfl, er ▸ hp, fun H' f => by rw [← isEff_w2]; exact k H' f⟩
def spTogether : Sp := fun vs H Q _ => ∃ (p : Addr) (r : Rst) (n : Nat) (hd : Addr) (S : Hd) (m : Nat) (t : List Sm × List Nat × Hd), vs = [.ref p, .int (n : Nat), .ref hd] ∧ H p = some (.tup r.vals) ∧ HeldAt H hd S m ∧ m ≤ 300 ∧ takeAll r.bxs S = some t ∧ t.2.1.length ≤ 1000 ∧
  ∀ (v : V) (H' : Hp), Fr [hd] H H' → HeldAt H' hd t.2.2 m → EntAt H' v (r.mk t.1, t.2.1 ++ lbl n r) → Q v H'
theorem u_together {H : Hp} {Q : VK} {E : XK} {p : Addr} {r : Rst} {n : Nat} {hd : Addr} {S : Hd} {m : Nat} {t : List Sm × List Nat × Hd} (h1 : H p = some (.tup r.vals)) (h2 : HeldAt H hd S m) (h3 : m ≤ 300) (h4 : takeAll r.bxs S = some t) (h5 : t.2.1.length ≤ 1000)
  (k : ∀ (v : V) (H' : Hp), Fr [hd] H H' → HeldAt H' hd t.2.2 m → EntAt H' v (r.mk t.1, t.2.1 ++ lbl n r) → Q v H') : spTogether [.ref p, .int (n : Nat), .ref hd] H Q E := ⟨p, r, n, hd, S, m, t, rfl, h1, h2, h3, h4, h5, k⟩
def spBack (CN : Addr) : Sp := fun vs H Q E => ∃ (l : Addr) (us : List V) (ts : List Stp) (s : Sm) (es : List Nat), vs = [.ref l] ∧ H l = some (.lst us) ∧ AllStp H us ts ∧ Back ts s es ∧ s.ok ∧ s.size ≤ 60 ∧ s.depth ≤ 15 ∧
  ((es.Pairwise (· ≤ ·) ∧ ∀ (v : V) (H' : Hp), Fr [] H H' → IsSum H' v s → Q v H') ∨ (¬ es.Pairwise (· ≤ ·) ∧ ∀ H' : Hp, Fr [] H H' → E (.ref CN) none H'))
section
variable {K : PySem.W.Frag} {σ : St} {H : Hp} {Q : VK} {a : Addr}
theorem w_dni {kvs : List (Key × V)} {k : Int} (h : H a = some (.dK kvs)) (q : Q (.bl (!(valV kvs (Sum.inl k)).isSome)) H) : DnB (.int k) (.ref a) H Q := ⟨a, _, rfl, DGet.k (k := Sum.inl k) h, q⟩
def PopB (y : V) (a : Addr) (H : Hp) (Q : VK) : Prop := ∃ kvs k v, H a = some (.dK kvs) ∧ y = kV k ∧ valV kvs k = some v ∧ Q v (upd H a (.dK (dropK kvs k)))
theorem w_dpop {td ty : TE} (h : td σ H fun x H1 => ∃ a, x = .ref a ∧ IsD H1 a ∧ ty σ H1 fun y H2 => PopB y a H2 Q) : tDPop1 td ty σ H Q := h
theorem w_isD {kvs : List (Key × V)} (h : H a = some (.dK kvs)) : IsD H a := .inl ⟨kvs, .inl h⟩
theorem w_popb {kvs : List (Key × V)} {k : Int} {v : V} (h : H a = some (.dK kvs)) (e : valV kvs (Sum.inl k) = some v) (q : ∀ H1, Fr [a] H H1 → H1 a = some (.dK (dropK kvs (Sum.inl k))) → Q v H1) : PopB (.int k) a H Q :=
  ⟨kvs, Sum.inl k, v, h, rfl, e, q _ (Fr.set h (by intro z e; cases e)) upd_same⟩
theorem w_lenD {kvs : List (Key × V)} (h : H a = some (.dK kvs)) (q : Q (.int kvs.length) H) : (fun xs H (Q : VK) => ∃ a kvs, xs = [V.ref a] ∧ H a = some (.dK kvs) ∧ Q (.int kvs.length) H) [V.ref a] H Q := ⟨a, kvs, rfl, h, q⟩
end
theorem w_sortI {K : PySem.W.Frag} {H : Hp} {Q : VK} {a : Addr} {ns : List Int} (h : SqL K H a (ns.map V.int)) (q : ∀ (ns' : List Int) (p : Addr) (H1 : Hp), ns'.Perm ns → ns'.Pairwise (· ≤ ·) → H p = none → Fr [] H H1 → H1 p = some (.lst (ns'.map V.int)) → Q (.ref p) H1) : rSortedI K [.ref a] H Q :=
  ⟨a, ns, rfl, h, fun ns' p h1 h2 hp => q ns' p _ h1 h2 hp (.new hp) upd_same⟩
theorem eqvAll_ints : ∀ as bs : List Int, PyData.eqvAll (as.map PyData.int) (bs.map PyData.int) = decide (as = bs)
  | [], [] => by simp [PyData.eqvAll]
  | [], b :: bs => by simp [PyData.eqvAll]
  | a :: as, [] => by simp [PyData.eqvAll]
  | a :: as, b :: bs => by
    simp only [List.map_cons, PyData.eqvAll, PyData.eqv]
    rw [eqvAll_ints as bs]
    by_cases e : a = b <;> by_cases e2 : as = bs <;> simp [e, e2]
theorem eqv_ints (as bs : List Int) : PyData.eqv (.list (as.map PyData.int)) (.list (bs.map PyData.int)) = decide (as = bs) := by
  rw [← eqvAll_ints]
  simp only [PyData.eqv]
theorem shaped_ints (ns : List Int) : SeqAt.shaped (.list (ns.map PyData.int)) = true := by
  have := depth_ints ns
  unfold SeqAt.shaped
  rw [show PyData.canLay0 (.list (ns.map PyData.int)) = PyData.canLayAll0 (ns.map PyData.int) from rfl, lay_ints, Bool.true_and, decide_eq_true_eq]
  show PyData.depthAll (ns.map PyData.int) + 1 ≤ 64
  omega
theorem sorted_one : ∀ {as bs : List Int}, as.Perm bs → as.Pairwise (· ≤ ·) → bs.Pairwise (· ≤ ·) → as = bs
  | [], bs, h, _, _ => (List.Perm.nil_eq h)
  | a :: as, bs, h, h1, h2 => by
    cases bs with
    | nil => exact absurd h.length_eq (by simp)
    | cons b bs =>
      have a1 := List.pairwise_cons.mp h1
      have b1 := List.pairwise_cons.mp h2
      have e : a = b := by
        have ha : a ∈ b :: bs := h.mem_iff.mp List.mem_cons_self
        have hb : b ∈ a :: as := h.mem_iff.mpr List.mem_cons_self
        have x1 : b ≤ a := by
          rcases List.mem_cons.mp ha with q | q
          · omega
          · exact b1.1 a q
        have x2 : a ≤ b := by
          rcases List.mem_cons.mp hb with q | q
          · omega
          · exact a1.1 b q
        omega
      subst e
      rw [sorted_one (List.Perm.cons_inv h) a1.2 b1.2]
theorem sorted_iff {as : List Int} {es : List Nat} (h : as.Perm (es.map fun n : Nat => (n : Int))) (h1 : as.Pairwise (· ≤ ·)) : (es.map fun n : Nat => (n : Int)) = as ↔ es.Pairwise (· ≤ ·) := by
  constructor
  · intro e
    rw [← e, List.pairwise_map] at h1
    exact h1.imp fun q => by omega
  · intro q
    refine (sorted_one h h1 ?_).symm
    rw [List.pairwise_map]
    exact q.imp fun q => by omega
theorem num_drop : ∀ {ts : List Stp} {i m : Nat} {t : Stp}, ts[i]? = some t → num m (ts.drop i) = (m, t) :: num (m + 1) (ts.drop (i + 1)) := by
  intro ts i m t h
  have e : ts.drop i = t :: ts.drop (i + 1) := by
    obtain ⟨hi, e⟩ := List.getElem?_eq_some_iff.mp h
    rw [List.drop_eq_getElem_cons hi, e]
  rw [e]; rfl
theorem atI_last {α : Type} {xs : List α} {v : α} (h : xs[xs.length - 1]? = some v) : atI xs (-1) = some v := by
  have hl : xs.length - 1 < xs.length := (List.getElem?_eq_some_iff.mp h).1
  have e : ((-1 : Int) + xs.length).toNat = xs.length - 1 := by omega
  unfold atI ixN
  rw [if_neg (by omega), if_pos (by omega), e]
  exact h
def spMoved : Sp := fun vs H Q _ => ∃ (l o : Addr) (us : List V) (ts : List Stp) (ns : List Nat), vs = [.ref l, .ref o] ∧ H l = some (.lst us) ∧ AllStp H us ts ∧ ts.length ≤ 100 ∧ H o = some (.lst (ns.map fun n => V.int (n : Nat))) ∧ (∀ t ∈ ts, t.box < ns.length ∧ ∀ b ∈ t.rest.bxs, b < ns.length) ∧
  ∀ (r : Addr) (vs' : List V) (H' : Hp), H r = none → H' r = some (.lst vs') → AllStp H' vs' (ts.map (Stp.ren fun j => ns.getD j 0)) → Fr [] H H' → Q (.ref r) H'
theorem u_moved {H : Hp} {Q : VK} {E : XK} {l o : Addr} {us : List V} {ts : List Stp} {ns : List Nat} (h1 : H l = some (.lst us)) (h2 : AllStp H us ts) (h3 : ts.length ≤ 100) (h4 : H o = some (.lst (ns.map fun n => V.int (n : Nat)))) (h5 : ∀ t ∈ ts, t.box < ns.length ∧ ∀ b ∈ t.rest.bxs, b < ns.length)
  (k : ∀ (r : Addr) (vs' : List V) (H' : Hp), H r = none → H' r = some (.lst vs') → AllStp H' vs' (ts.map (Stp.ren fun j => ns.getD j 0)) → Fr [] H H' → Q (.ref r) H') : spMoved [.ref l, .ref o] H Q E := ⟨l, o, us, ts, ns, rfl, h1, h2, h3, h4, h5, k⟩
theorem nats_at {ns : List Nat} {j : Nat} (h : j < ns.length) : (ns.map fun n => V.int (n : Nat))[j]? = some (.int ((ns.getD j 0 : Nat))) := by
  rw [List.getElem?_map, List.getElem?_eq_getElem h, List.getD_eq_getElem?_getD, List.getElem?_eq_getElem h]; rfl
/-- a step's rest: a word and what follows; renamed where it names boxes -/
theorem rst_split2 (φ : Nat → Nat) (r : Rst) : ∃ w tl, r.vals = .str w :: tl ∧ tl.length ≤ 2 ∧ ((inV (.str w) [.str "add", .str "less", .str "times", .str "say"] = false ∧ r.bxs = [] ∧ (ren φ r).vals = .str w :: tl) ∨ (inV (.str w) [.str "add", .str "less", .str "times", .str "say"] = true ∧ tl = (r.bxs.map fun b => V.int (b : Nat)) ∧ tl ≠ [] ∧ (ren φ r).vals = .str w :: r.bxs.map fun b => V.int (φ b : Nat))) := by
  cases r with
  | num n => exact ⟨"num", _, rfl, by simp, .inl ⟨by decide +kernel, rfl, rfl⟩⟩
  | name n => exact ⟨"name", _, rfl, by simp, .inl ⟨by decide +kernel, rfl, rfl⟩⟩
  | ask => exact ⟨"ask", _, rfl, by simp, .inl ⟨by decide +kernel, rfl, rfl⟩⟩
  | say b => exact ⟨"say", _, rfl, by simp, .inr ⟨by decide +kernel, rfl, by simp, rfl⟩⟩
  | bin o b c => exact ⟨o.word, _, rfl, by simp, .inr ⟨by cases o <;> decide +kernel, rfl, by simp, rfl⟩⟩
end My
namespace L2
open PySem PySem.Spec PyProof.Rows
/-- isinstance(e, c), e a caught error that has fields of its own -/
def rIsD (K : PySem.W.Frag) (cls : Value) (d : Option Addr) (a : Addr) : List V → Hp → VK → Prop := fun xs H Q => ∃ (D dd : Addr) (fs : List (Str × V)) (c : V) (cv : Value) (b : Bool), cls = .ref D ∧ d = some dd ∧ ExcC K D ∧ H dd = some (.xd fs) ∧ xs = [.ref a, c] ∧ (∀ u, RelV c u → u = cv) ∧ PySem.W.kitOne K (.ref D) cv = some b ∧ Q (.bl b) H
theorem call_isD {X : Cx} {a : Addr} {oe : Obj} {pn : List (Addr × Obj)} {cls : Value} {d : Option Addr} (hz : Zc cls d oe) (hf : ∃ vs, oe.data = .fields vs) : CallR (X.suite a ((a, oe) :: pn)) (.builtin "isinstance") (rIsD X.K cls d a) := by
  intro pins s σ H xs us Q I r h
  obtain ⟨D, dd, fs, c, cv, b, rfl, rfl, C, hd, rfl, hcv, e, q⟩ := h
  cases r with
  | cons rx rr =>
    cases rr with
    | cons rt rr =>
      cases rr
      cases rx
      obtain rfl := hcv _ rt
      obtain ⟨hget, _⟩ := I.pin (a, oe) (List.mem_append.mpr (.inl List.mem_cons_self))
      obtain ⟨vs, hv⟩ := hf
      obtain ⟨mA, hns, _⟩ := (show ObjOk X.prog X.w H s.heap dd (.xd fs) from I.hok dd _ hd)
      obtain ⟨od, ho, _⟩ := lookIn_ns hns
      have J : PySem.W.InstAt s.heap a oe D (some od) := ⟨hget, hz.1, by unfold PySem.W.notCls; rw [hv] <;> rfl, by rw [hz.2]; exact ho⟩
      exact PySem.W.kia_one (PySem.W.kitx_exc (by have := C.hd; unfold PySem.W.hasDictIn at this; cases e : PySem.W.clsIn X.K D with | none => rw [e] at this; cases this | some _ => rfl) C.hg C.hk C.hs C.ha C.hn C.ht C.hm) I.kIn J e (fun z => nomatch z) fun tk => ⟨.bl b, H, I.kept (t' := tk) fun _ _ z => z, rfl, q⟩
end L2
/-! C8: what _law_kind needs -/
namespace My
open PySem L2 Wk
/-! ### list.count of flat items; isinstance of a caught error -/
section
variable {X : Cx}
def rCntF (K : PySem.W.Frag) : V → List V → Hp → VK → Prop := fun x xs H Q => ∃ (a : Addr) (ys : List V) (y : V), x = V.ref a ∧ xs = [y] ∧ SqL K H a ys ∧ flatV y = true ∧ ys.all flatV = true ∧ Q (.int (ys.countP (fun z => eqV z y) : Nat)) H
theorem countP_flat {y : V} : ∀ {ys : List V} {us : List Value}, Vals ys us → ys.all flatV = true → us.countP (eqU y) = ys.countP fun z => eqV z y
  | _, _, .nil, _ => rfl
  | v :: ys, u :: us, .cons r t, f => by
    rw [List.all_cons, Bool.and_eq_true] at f
    rw [List.countP_cons, List.countP_cons, countP_flat t f.2, eqU_of r f.1]
theorem mt_countF : MtR X "list.count" (rCntF X.K) := by
  intro pins s σ H x xs v us Q I rx rxs h
  obtain ⟨a, ys, y, rfl, rfl, hs, fy, fys, q⟩ := h
  cases rx
  obtain ⟨uy, rfl, ry⟩ := rxs.one
  obtain ⟨its, rv, ⟨⟨cls, dd, data, sl⟩, n, ho, hc, hdn, hd⟩, _⟩ := I.list hs
  simp only at hc hd
  subst hc hd
  refine call_meets PySem.F.slot_list_count ⟨_, ho, rfl⟩ PySem.F.entry_list_count (PySem.F.args_list_count_2 _ _)
    (SeqAt.list_countAt a its.toArray n dd sl uy (eqU y)) ⟨ho, fun u hu => mem_eqAt ry fy rv fys u (by simpa using hu), ?_⟩
  have ec : its.toArray.toList.countP (eqU y) = ys.countP fun z => eqV z y := countP_flat rv fys
  rw [ec]
  exact ⟨.int (ys.countP (fun z => eqV z y) : Nat), H, I.tok _, ⟨s.toks, rfl⟩, q⟩
theorem mt_countK {K : PySem.W.Frag} (h : X.K = K) : MtR X "list.count" (rCntF K) := h ▸ mt_countF
theorem mt_indexK {K : PySem.W.Frag} (h : X.K = K) : MtR X "list.index" (rIndex K) := h ▸ mt_index
theorem pe_bmK {K : PySem.W.Frag} {T name id : String} {r : V → List V → Hp → VK → Prop} {o e : Expr} {es : List Expr} {to : TE} {t : TA} {apos cpos : Pos} (hK : X.K = K) (pa : PlainAttrs T) (slot : Slot T name id) (hty : typeOf (.builtin id) = pure (.type "method_descriptor")) (hm : MtR X id r) (ho : PE X o to) (ha : PA X (e :: es) t)
    (hbase : attributeBase o name X.env (eval o X.env) = eval o X.env := by rfl)
    (hfew : ((backTo cpos (starEach (e :: es) X.env)).all (fun x => !x.1) && (backToKw cpos (keywordEach [] X.env)).all (fun x => x.1.isSome)
      && decide ((e :: es).length + ([] : List Keyword).length + (if ([] : List Keyword).isEmpty then 0 else 1) < 30)) = true := by rfl)
    (hline : (apos.endLine == cpos.line) = true := by rfl) (hs : starEach (e :: es) X.env = (false, eval e X.env) :: starEach es X.env := by rfl) (hplain : (backTo cpos (starEach es X.env)).any (·.1) = false := by rfl) :
    PE X (.Call (.Attribute o name apos) (e :: es) [] cpos) (tBM K T r to t) := hK ▸ pe_bm pa slot hty hm ho ha hbase hfew hline hs hplain
def rIsX (K : PySem.W.Frag) (cls : Value) (d : Option Addr) (a : Addr) : List V → Hp → VK → Prop := fun xs H Q => ∃ D, cls = .ref D ∧ d = none ∧ ExcC K D ∧ rIsE K D a xs H Q
theorem call_isX {a : Addr} {oe : Obj} {pn : List (Addr × Obj)} {cls : Value} {d : Option Addr} (hz : Zc cls d oe) (hf : ∃ vs, oe.data = .fields vs) : CallR (X.suite a ((a, oe) :: pn)) (.builtin "isinstance") (rIsX X.K cls d a) := by
  intro pins s σ H xs us Q I r h
  obtain ⟨D, rfl, rfl, C, h⟩ := h
  exact call_isE C hz hf pins s σ H xs us Q I r h
def tENever : TE := fun _ _ _ => False
theorem pe_never {e : Expr} : PE X e tENever := ⟨fun _ _ _ _ _ _ h => h.elim⟩
end
theorem w_isXr {K : PySem.W.Frag} {D C a : Addr} {b : Bool} {H : Hp} {Q : VK} (x : ExcC K D) (e : PySem.W.kitOne K (.ref D) (.ref C) = some b) (q : Q (.bl b) H) : rIsX K (.ref D) none a [.ref a, .ref C] H Q := ⟨D, rfl, rfl, x, .ref C, .ref C, b, rfl, fun u h => h, e, q⟩
theorem w_isXt {K : PySem.W.Frag} {D a : Addr} {t : String} {b : Bool} {H : Hp} {Q : VK} (x : ExcC K D) (e : PySem.W.kitOne K (.ref D) (.type t) = some b) (q : Q (.bl b) H) : rIsX K (.ref D) none a [.ref a, .ty t] H Q := ⟨D, rfl, rfl, x, .ty t, .type t, b, rfl, fun u h => h, e, q⟩
theorem w_cntF {K : PySem.W.Frag} {p : Addr} {ys : List V} {y : V} {c : Nat} {H : Hp} {Q : VK} (h : SqL K H p ys) (f : flatV y = true) (fs : ys.all flatV = true) (e : ys.countP (fun z => eqV z y) = c) (q : Q (.int c) H) : rCntF K (.ref p) [y] H Q := ⟨p, ys, y, rfl, rfl, h, f, fs, e ▸ q⟩
theorem w_index {K : PySem.W.Frag} {p : Addr} {ys : List V} {y z : V} {j : Nat} {H : Hp} {Q : VK} (h : SqL K H p ys) (f : flatV y = true) (fs : ys.all flatV = true) (hz : ys[j]? = some z) (e : eqV z y = true) (no : (ys.take j).all (fun z => !eqV z y) = true) (q : Q (.int (j : Nat)) H) : rIndex K (.ref p) [y] H Q :=
  ⟨p, ys, y, j, z, rfl, rfl, h, f, fs, hz, e, fun m z' hm hz' => by
    have := List.all_eq_true.mp no z' (List.mem_of_getElem? (i := m) (by rw [List.getElem?_take, if_pos hm]; exact hz'))
    simpa using this, q⟩
structure KAd where
  stepError : Addr
  badSum : Addr
  badSteps : Addr
  noName : Addr
  noMore : Addr
  noSum : Addr
  badText : Addr
structure KindT (K : PySem.W.Frag) (ad : KAd) (D : Addr) (i : Nat) : Prop where
  exc : ExcC K D
  err : PySem.W.exmOne K (.ref D) (.ref ad.stepError) = some true
  val : PySem.W.kitOne K (.ref D) (.type "ValueError") = some true
  k0 : PySem.W.kitOne K (.ref D) (.ref ad.badSum) = some (i == 0)
  k1 : PySem.W.kitOne K (.ref D) (.ref ad.badSteps) = some (i == 1)
  k2 : PySem.W.kitOne K (.ref D) (.ref ad.noName) = some (i == 2)
  k3 : PySem.W.kitOne K (.ref D) (.ref ad.noMore) = some (i == 3)
  k4 : PySem.W.kitOne K (.ref D) (.ref ad.noSum) = some (i == 4)
  k5 : PySem.W.kitOne K (.ref D) (.ref ad.badText) = some (i == 5)
structure KMg (mg : Str → Option Value) (ad : KAd) : Prop where
  ve : mg "ValueError" = none
  m_StepError : mg "StepError" = some (.ref ad.stepError)
  m_BadSum : mg "BadSum" = some (.ref ad.badSum)
  m_BadSteps : mg "BadSteps" = some (.ref ad.badSteps)
  m_NoName : mg "NoName" = some (.ref ad.noName)
  m_NoMore : mg "NoMore" = some (.ref ad.noMore)
  m_NoSum : mg "NoSum" = some (.ref ad.noSum)
  m_BadText : mg "BadText" = some (.ref ad.badText)
def kw (i : Nat) : Str := (["BadSum", "BadSteps", "NoName", "NoMore", "NoSum", "BadText"] : List Str).getD i ""
/-- an error without fields of its own -/
def plainK (i : Nat) : Prop := i = 0 ∨ i = 2 ∨ i = 3 ∨ i = 4
def TTk (K : PySem.W.Frag) (ad : KAd) : (XK → Hp → VK → Prop) → Hp → VK → Prop := fun tl H Q =>
  tl (fun cls d H' => d = none ∧ ∃ D i, cls = .ref D ∧ KindT K ad D i ∧ plainK i ∧ ∀ H'', Fr [] H' H'' → Q (.str (kw i)) H'') H Q
theorem w_lam {K : PySem.W.Frag} {T : List (Addr × Str)} {a : KAd} {t : XK → TE} {σ : St} {H : Hp} {Q : VK} (h : LamX.Tabs T H) (q : ∀ H1, LamX.ExtN H H1 → LamX.Tabs T H1 →
    t (fun cls d H' => d = none ∧ ∃ D i, cls = .ref D ∧ KindT K a D i ∧ plainK i ∧ ∀ H'', Fr [] H' H'' → Q (.str (kw i)) H'') σ H1 Q) : LamX.tLam T (TTk K a) t σ H Q := ⟨h, q⟩
def rListC (K : PySem.W.Frag) : List V → Hp → VK → Prop := fun xs H Q => ∃ p ys, xs = [.ref p] ∧ (SqL K H p ys ∨ SqT K H p ys) ∧ ∀ l, H l = none → Q (.ref l) (upd H l (.lst ys))
theorem call_listC {X : Cx} {K : PySem.W.Frag} (h : X.K = K) : CallR X (.type "list") (rListC K) := h ▸ call_list_of
theorem w_listC {K : PySem.W.Frag} {H : Hp} {Q : VK} {p : Addr} {xs : List V} (h : SqL K H p xs) (q : ∀ q H1, H q = none → Fr [] H H1 → H1 q = some (.lst xs) → Q (.ref q) H1) : rListC K [.ref p] H Q := ⟨p, xs, rfl, .inl h, fun d n => q d _ n (.new n) upd_same⟩
theorem takes_len {X : Cx} {W : WX} {n : Nat} (hn : X.N.length = n) (t : Takes X W) : Takes X (fun cls d σ H => σ.length = n → W cls d σ H) := fun u s' ⟨a, B, sI, pins, σ, H, cls, d, e, I, nb, up, sky, na, os, ag, w⟩ =>
  t u s' ⟨a, B, sI, pins, σ, H, cls, d, e, I, nb, up, sky, na, os, ag, w (I.len.trans hn)⟩
theorem len5 {α : Type} : ∀ {l : List α}, l.length = 5 → ∃ a b c d e, l = [a, b, c, d, e]
  | [a, b, c, d, e], _ => ⟨a, b, c, d, e, rfl⟩
def suiteOf : List Stmt → List Stmt
  | [.Try _ [.ExceptHandler _ _ b _] _ _ _] => b
  | _ => []
/-! ### sums alike, steps as data -/
theorem alike_sum {H : Hp} : ∀ {s : Sm} {v w : V} {n : Nat}, IsSum H v s → IsSum H w s → s.depth ≤ n → Alike H n v w
  | s, v, w, 0, _, _, hd => by have := s.depth_pos; omega
  | .num m, _, _, n + 1, ⟨p, e, h⟩, ⟨q, e', h'⟩, _ => by
    subst e e'
    exact .tup n p q _ _ h h' rfl (by simp) fun i x y hx hy => by
      match i with
      | 0 => cases hx; cases hy; exact .str n _
      | 1 => cases hx; cases hy; exact .int n _
      | i + 2 => cases hx
  | .name m, _, _, n + 1, ⟨p, e, h⟩, ⟨q, e', h'⟩, _ => by
    subst e e'
    exact .tup n p q _ _ h h' rfl (by simp) fun i x y hx hy => by
      match i with
      | 0 => cases hx; cases hy; exact .str n _
      | 1 => cases hx; cases hy; exact .str n _
      | i + 2 => cases hx
  | .ask, _, _, n + 1, ⟨p, e, h⟩, ⟨q, e', h'⟩, _ => by
    subst e e'
    exact .tup n p q _ _ h h' rfl (by simp) fun i x y hx hy => by
      match i with
      | 0 => cases hx; cases hy; exact .str n _
      | i + 1 => cases hx
  | .say s, _, _, n + 1, ⟨p, a, e, h, h1⟩, ⟨q, a', e', h', h1'⟩, hd => by
    subst e e'
    have hd' : s.depth + 1 ≤ n + 1 := hd
    exact .tup n p q _ _ h h' rfl (by simp) fun i x y hx hy => by
      match i with
      | 0 => cases hx; cases hy; exact .str n _
      | 1 => cases hx; cases hy; exact alike_sum h1 h1' (by omega)
      | i + 2 => cases hx
  | .bin o s t, _, _, n + 1, ⟨p, a, b, e, h, h1, h2⟩, ⟨q, a', b', e', h', h1', h2'⟩, hd => by
    subst e e'
    have hd' : max s.depth t.depth + 1 ≤ n + 1 := hd
    exact .tup n p q _ _ h h' rfl (by simp) fun i x y hx hy => by
      match i with
      | 0 => cases hx; cases hy; exact .str n _
      | 1 => cases hx; cases hy; exact alike_sum h1 h1' (by omega)
      | 2 => cases hx; cases hy; exact alike_sum h2 h2' (by omega)
      | i + 3 => cases hx
def Rst.data : Rst → List PyData
  | .num n => [.str "num", .int n]
  | .name c => [.str "name", .str c]
  | .ask => [.str "ask"]
  | .say b => [.str "say", .int b]
  | .bin o b c => [.str o.word, .int b, .int c]
def Stp.data (t : Stp) : PyData := .tuple (.int t.box :: t.rest.data)
theorem dp_stp {K : PySem.W.Frag} {H : Hp} {t : Stp} {v : V} (h : IsStp H v t) : Dp K H v t.data := by
  obtain ⟨p, rfl, h⟩ := h
  refine .tup (SqT.of h) (.cons (.int _) ?_)
  cases t.rest with
  | num n => exact .cons (.str _) (.cons (.int _) .nil)
  | name n => exact .cons (.str _) (.cons (.str _) .nil)
  | ask => exact .cons (.str _) .nil
  | say n => exact .cons (.str _) (.cons (.int _) .nil)
  | bin o b c => exact .cons (.str _) (.cons (.int _) (.cons (.int _) .nil))
theorem dp_stps {K : PySem.W.Frag} {H : Hp} : ∀ {us : List V} {ts : List Stp}, AllStp H us ts → DpAll K H us (ts.map Stp.data)
  | [], [], _ => .nil
  | _ :: _, _ :: _, h => .cons (dp_stp h.1) (dp_stps h.2)
theorem lay_stp {t : Stp} (h : t.rest.ok) : PyData.canLay0 t.data = true := by
  obtain ⟨b, r⟩ := t
  cases r with
  | num n => show (PyData.canLay0 (.int b) && (PyData.canLay0 (.str "num") && (PyData.canLay0 (.int n) && PyData.canLayAll0 []))) = true; rw [lay_num]; rfl
  | name c => show (PyData.canLay0 (.int b) && (PyData.canLay0 (.str "name") && (PyData.canLay0 (.str c) && PyData.canLayAll0 []))) = true; rw [lay_name, lay_letters c h]; rfl
  | ask => show (PyData.canLay0 (.int b) && (PyData.canLay0 (.str "ask") && PyData.canLayAll0 [])) = true; rw [lay_ask]; rfl
  | say n => show (PyData.canLay0 (.int b) && (PyData.canLay0 (.str "say") && (PyData.canLay0 (.int n) && PyData.canLayAll0 []))) = true; rw [lay_say]; rfl
  | bin o n m => show (PyData.canLay0 (.int b) && (PyData.canLay0 (.str o.word) && (PyData.canLay0 (.int n) && (PyData.canLay0 (.int m) && PyData.canLayAll0 [])))) = true; rw [lay_word]; rfl
theorem lay_stps : ∀ {ts : List Stp}, (∀ t ∈ ts, t.rest.ok) → PyData.canLayAll0 (ts.map Stp.data) = true
  | [], _ => rfl
  | t :: r, h => by
    show (PyData.canLay0 t.data && PyData.canLayAll0 (r.map Stp.data)) = true
    rw [lay_stp (h t List.mem_cons_self), lay_stps fun u hu => h u (List.mem_cons_of_mem _ hu)]; rfl
theorem depth_stp (t : Stp) : PyData.depth t.data ≤ 2 := by
  obtain ⟨b, r⟩ := t
  cases r <;> simp [Stp.data, Rst.data, PyData.depth, PyData.depthAll]
theorem depth_stps : ∀ ts : List Stp, PyData.depthAll (ts.map Stp.data) ≤ 2
  | [] => by simp [PyData.depthAll]
  | t :: r => by
    have h1 := depth_stp t
    have h2 := depth_stps r
    simp only [List.map_cons, PyData.depthAll]
    omega
theorem shaped_stps {ts : List Stp} (h : ∀ t ∈ ts, t.rest.ok) : SeqAt.shaped (.list (ts.map Stp.data)) = true := by
  have := depth_stps ts
  unfold SeqAt.shaped
  rw [show PyData.canLay0 (.list (ts.map Stp.data)) = PyData.canLayAll0 (ts.map Stp.data) from rfl, lay_stps h, Bool.true_and, decide_eq_true_eq]
  show PyData.depthAll (ts.map Stp.data) + 1 ≤ 64
  omega
theorem eqv_stp (t : Stp) : PyData.eqv t.data t.data = true := by
  obtain ⟨b, r⟩ := t
  cases r <;> simp [Stp.data, Rst.data, PyData.eqv, PyData.eqvAll]
theorem eqvAll_stps : ∀ ts : List Stp, PyData.eqvAll (ts.map Stp.data) (ts.map Stp.data) = true
  | [] => by simp [PyData.eqvAll]
  | t :: r => by
    simp only [List.map_cons, PyData.eqvAll, eqv_stp, eqvAll_stps r, Bool.and_self]
theorem eqv_stps (ts : List Stp) : PyData.eqv (.list (ts.map Stp.data)) (.list (ts.map Stp.data)) = true := by
  have := eqvAll_stps ts
  simpa only [PyData.eqv] using this
theorem okSteps_rest {ts : List Stp} (h : okSteps ts) : ∀ t ∈ ts, t.rest.ok := fun t ht => by
  obtain ⟨i, hi, e⟩ := List.mem_iff_getElem.mp ht
  exact (okFrom_at h.2.2 (i := i) (by rw [← e]; exact List.getElem?_eq_getElem hi)).2.1
/-! ### range(n) as a list; pop at a place -/
def RgL1 (Q : VK) (x : V) (H : Hp) : Prop := ∃ n, x = V.int n ∧ RgOk 0 n ∧ ∀ q : Addr, H q = none → Q (V.ref q) (upd H q (HO.lst (rgV 0 n)))
theorem w_lrg1 {ta : TE} {σ : St} {H : Hp} {Q : VK} (h : ta σ H fun x H1 => RgL1 Q x H1) : tLstRg (tRg1 ta) σ H Q := h
theorem w_lrg1b {Q : VK} {n : Int} {H : Hp} (h1 : 0 ≤ n) (h2 : n ≤ 100000) (q : ∀ p H1, H p = none → Fr [] H H1 → H1 p = some (.lst (rgV 0 n)) → Q (.ref p) H1) : RgL1 Q (.int n) H :=
  ⟨n, rfl, RgOk.of_le (by omega) (by omega) (by omega) (by omega), fun p hp => q p _ hp (.new hp) upd_same⟩
theorem w_popat {l : Addr} {xs : List V} {i : Int} {y : V} {H : Hp} {Q : VK} (h : H l = some (.lst xs)) (h0 : 0 ≤ i) (h1 : i < 2 ^ 63) (hk : xs[i.toNat]? = some y) (q : ∀ H1, Fr [l] H H1 → H1 l = some (.lst (xs.eraseIdx i.toNat)) → Q y H1) : rPopAt (.ref l) [.int i] H Q := by
  have hl := (List.getElem?_eq_some_iff.mp hk).1
  refine ⟨l, xs, i, i.toNat, y, rfl, rfl, h, by omega, h1, ?_, hk, q _ (Fr.set h (by intro z e; cases e)) upd_same⟩
  unfold seqIndex?
  simp only [if_neg (show ¬ i < 0 by omega)]
  rw [if_pos (by simp; omega)]
theorem erase_perm : ∀ {l : List Nat} {i : Nat} {x : Nat}, l[i]? = some x → l.Perm (x :: l.eraseIdx i)
  | a :: r, 0, x, h => by cases h; exact .refl _
  | a :: r, i + 1, x, h => by
    have h2 := erase_perm (l := r) (i := i) h
    rw [List.eraseIdx_cons_succ]
    exact (h2.cons a).trans (.swap x a _)
theorem erase_map {α β : Type} (f : α → β) (l : List α) (i : Nat) : (l.map f).eraseIdx i = (l.eraseIdx i).map f := by
  induction l generalizing i with
  | nil => rfl
  | cons a r ih =>
    cases i with
    | zero => rfl
    | succ i => simp only [List.map_cons, List.eraseIdx_cons_succ, ih]
theorem ext_stps {H H' : Hp} (e : LamX.ExtN H H') : ∀ {us : List V} {ts : List Stp}, AllStp H us ts → AllStp H' us ts
  | [], [], _ => trivial
  | _ :: _, _ :: _, ⟨⟨p, e1, h⟩, r⟩ => ⟨⟨p, e1, e p _ h fun _ z => by cases z⟩, ext_stps e r⟩
theorem AllStp.take {H : Hp} : ∀ {us : List V} {ts : List Stp} (i : Nat), AllStp H us ts → AllStp H (us.take i) (ts.take i)
  | [], [], i, _ => by rw [List.take_nil, List.take_nil]; trivial
  | _ :: _, _ :: _, 0, _ => trivial
  | _ :: _, _ :: _, i + 1, h => ⟨h.1, AllStp.take i h.2⟩
theorem AllStp.drop {H : Hp} : ∀ {us : List V} {ts : List Stp} (i : Nat), AllStp H us ts → AllStp H (us.drop i) (ts.drop i)
  | [], [], i, _ => by rw [List.drop_nil, List.drop_nil]; trivial
  | _ :: _, _ :: _, 0, h => h
  | _ :: _, _ :: _, i + 1, h => AllStp.drop i h.2
theorem boxes_lt {ts : List Stp} {N : Nat} (h : okSteps ts) (k : ∀ t ∈ ts, t.box < N) : ∀ t ∈ ts, t.box < N ∧ ∀ b ∈ t.rest.bxs, b < N := fun t ht => by
  refine ⟨k t ht, fun b hb => ?_⟩
  obtain ⟨i, hi, e⟩ := List.mem_iff_getElem.mp ht
  obtain ⟨_, q⟩ := (okFrom_at h.2.2 (i := i) (by rw [← e]; exact List.getElem?_eq_getElem hi)).2.2 b hb
  rcases q with q | ⟨u, hu, q⟩
  · exact q.elim
  · rw [← q]; exact k u (List.mem_of_mem_take hu)
theorem cut_lt {s : Sm} : ∀ t ∈ s.cut 0, t.box < s.size := fun t ht => by
  have hm := List.mem_map_of_mem (f := Stp.box) ht
  rw [cut_box] at hm
  obtain ⟨i, hi, e⟩ := List.mem_map.mp hm
  have := List.mem_range.mp hi
  omega
theorem lay_lt {tw : Sm → Bool} {s : Sm} : ∀ t ∈ s.lay tw 0, t.box < s.size := fun t ht => by
  have hm := List.mem_map_of_mem (f := Stp.box) ht
  rw [lay_boxes] at hm
  have := need_le tw s
  omega
theorem order_ok {gs left : List Nat} (h : (gs ++ left).Perm (List.range 200)) (hl : gs.length = 60) : (∀ j, gs.getD j 0 < 200) ∧ Inj (fun j => gs.getD j 0) 60 := by
  have nd : (gs ++ left).Nodup := h.nodup_iff.mpr List.nodup_range
  have ndg := (List.nodup_append.mp nd).1
  refine ⟨fun j => ?_, fun i j hi hj e => ?_⟩
  · rw [List.getD_eq_getElem?_getD]
    cases e : gs[j]? with
    | none => exact Nat.lt_of_sub_pos (by simp)
    | some x =>
      have : x ∈ List.range 200 := h.mem_iff.mp (List.mem_append.mpr (.inl (List.mem_of_getElem? e)))
      exact List.mem_range.mp this
  · have e' : gs.getD i 0 = gs.getD j 0 := e
    rw [List.getD_eq_getElem?_getD, List.getD_eq_getElem?_getD, List.getElem?_eq_getElem (by omega), List.getElem?_eq_getElem (by omega)] at e'
    have pw := List.pairwise_iff_getElem.mp ndg
    rcases Nat.lt_trichotomy i j with q | q | q
    · exact absurd (Option.some.inj (by simpa using e')) (pw i j _ _ q)
    · exact q
    · exact absurd (Option.some.inj (by simpa using e'.symm)) (pw j i _ _ q)
theorem cut_take (xs : List V) (k : Nat) : cutV xs none (some (k : Int)) = xs.take k := by
  unfold cutV
  rw [HT.sIx_none, show HT.sIx xs.length xs.length (some (k : Int)) = min k xs.length from HT.sIx_nat _ _ k, List.drop_zero, Nat.sub_zero]
  rcases Nat.le_total k xs.length with h | h
  · rw [Nat.min_eq_left h]
  · rw [Nat.min_eq_right h, List.take_length, List.take_of_length_le h]
theorem cut_drop (xs : List V) (k : Nat) : cutV xs (some (k : Int)) none = xs.drop k := by
  unfold cutV
  rw [HT.sIx_none, show HT.sIx xs.length 0 (some (k : Int)) = min k xs.length from HT.sIx_nat _ _ k]
  rcases Nat.le_total k xs.length with h | h
  · rw [Nat.min_eq_left h]
    exact List.take_of_length_le (by rw [List.length_drop]; exact Nat.le_refl _)
  · rw [Nat.min_eq_right h, Nat.sub_self, List.take_zero, List.drop_of_length_le h]
/-- a rest's word: whether it names no box, whether it is loud -/
theorem rst_word (r : Rst) : ∃ w tl, r.vals = .str w :: tl ∧ inV (.str w) [.str "num", .str "name", .str "ask"] = decide (r.bxs = []) ∧ inV (.str w) [.str "say", .str "ask"] = r.loud := by
  cases r with
  | num n => exact ⟨"num", _, rfl, by rw [show (Rst.num n).bxs = [] from rfl]; decide +kernel, by show _ = false; decide +kernel⟩
  | name n => exact ⟨"name", _, rfl, by rw [show (Rst.name n).bxs = [] from rfl]; decide +kernel, by show _ = false; decide +kernel⟩
  | ask => exact ⟨"ask", _, rfl, by decide +kernel, by show _ = true; decide +kernel⟩
  | say b => exact ⟨"say", _, rfl, by rw [show (Rst.say b).bxs = [b] from rfl, decide_eq_false (by simp)]; decide +kernel, by show _ = true; decide +kernel⟩
  | bin o b c => exact ⟨o.word, _, rfl, by rw [show (Rst.bin o b c).bxs = [b, c] from rfl, decide_eq_false (by simp)]; cases o <;> decide +kernel, by show _ = false; cases o <;> decide +kernel⟩
end My
namespace My
open PySem L2 Wk
structure Ad where
  way : Addr
  letters : Addr
  words : Addr
  stepError : Addr
  badSum : Addr
  badSteps : Addr
  noName : Addr
  noMore : Addr
  noSum : Addr
  badText : Addr
structure Txt (K : PySem.W.Frag) (mg : Str → Option Value) (a : Ad) : Prop where
  cl_Way : Cls K a.way
  n_part : NoAttr K a.way "part"
  n_inner : NoAttr K a.way "inner"
  n_effect : NoAttr K a.way "effect"
  n_turned : NoAttr K a.way "turned"
  n_many : NoAttr K a.way "many"
  m_Way : mg "Way" = some (.ref a.way)
  m_LARGEST : ∃ t, mg "LARGEST" = some (.int 999 t)
  m_MOST_STEPS : ∃ t, mg "MOST_STEPS" = some (.int 200 t)
  m_LAST_BOX : ∃ t, mg "LAST_BOX" = some (.int 199 t)
  m_MOST_SUMS : ∃ t, mg "MOST_SUMS" = some (.int 60 t)
  m_MOST_WITHIN : ∃ t, mg "MOST_WITHIN" = some (.int 15 t)
  m_LETTERS : mg "LETTERS" = some (.ref a.letters)
  q_LETTERS : ∀ H, SqT K H a.letters (letters.map V.str)
  m_WORDS_WITH_TWO_PARTS : mg "WORDS_WITH_TWO_PARTS" = some (.ref a.words)
  q_WORDS : ∀ H, SqT K H a.words ([.str "add", .str "less", .str "times"])
  x_BadSum : ExcX K mg "BadSum" a.badSum
  x_NoSum : ExcX K mg "NoSum" a.noSum
end My
namespace My
open PySem L2 Wk
local macro_rules | `(tactic| walk_at "hs") => `(tactic| first
  | assumption
  | (apply fr_st0; (case f => assumption); (case h => walk_at "hs"))
  | (apply fr_st1; (case f => assumption); (case n => walk_at "ne"); (case hw => first | assumption | exact List.mem_cons_self); (case h => walk_at "hs"))
  | fail "none")
local macro_rules | `(tactic| walk_at "nn") => `(tactic| first
  | (apply nn_st; (case n => assumption); (case h => walk_at "hs"))
  | (apply nn_l; (case n => assumption); (case h => walk_at "hp"))
  | (apply nn_d; (case n => assumption); (case h => walk_at "hp"))
  | (apply nn_i; (case n => assumption); (case h => walk_at "hp"))
  | fail "none")
local macro_rules | `(tactic| walk_at "su") => `(tactic| first
  | assumption
  | (apply fr_su; (case f => assumption); (case h => walk_at "su"))
  | fail "none")
local macro_rules | `(tactic| walk_at "as") => `(tactic| first
  | assumption
  | (apply fr_as; (case f => assumption); (case h => walk_at "as"))
  | fail "none")
local macro_rules | `(tactic| walk_at "ef") => `(tactic| first
  | assumption
  | (apply fr_ef0; (case f => assumption); (case h => walk_at "ef"))
  | (apply fr_ef; (case f => assumption); (case n1 => walk_at "ni"); (case n2 => walk_at "ni"); (case n3 => walk_at "ni"); (case h => walk_at "ef"))
  | fail "none")
local macro_rules | `(tactic| walk_at "td") => `(tactic| first
  | assumption
  | (apply fr_td0; (case f => assumption); (case h => walk_at "td"))
  | (apply fr_td; (case f => assumption); (case n1 => walk_at "ni"); (case n2 => walk_at "ni"); (case n3 => walk_at "ni"); (case h => walk_at "td"))
  | fail "none")
local macro_rules | `(tactic| walk_at "sk") => `(tactic| first
  | assumption
  | (apply fr_stk; (case f => assumption); (case a => walk_at "sk"))
  | fail "none")
local macro_rules | `(tactic| walk_at "al") => `(tactic| first
  | assumption
  | (apply fr_al; (case f => assumption); (case h => walk_at "al"))
  | fail "none")
local macro_rules | `(tactic| walk_at "nv") => `(tactic| first
  | assumption
  | (apply fr_nv; (case a => assumption); (case n => walk_at "ni"); (case h => walk_at "nv"))
  | fail "none")
local macro_rules | `(tactic| walk_at "ne") => `(tactic| first
  | assumption
  | (apply Ne.symm; assumption)
  | walk_at "nn"
  | (apply Ne.symm; walk_at "nn")
  | fail "none")
local macro_rules | `(tactic| walk_at "ni") => `(tactic| first
  | exact List.not_mem_nil
  | (apply ni1; walk_at "ne")
  | (apply ni2 <;> walk_at "ne")
  | (apply ni3 <;> walk_at "ne")
  | fail "none")
local macro_rules | `(tactic| walk_at "hp") => `(tactic| first
  | assumption
  | (apply Fr.gett; (case a => assumption); (case h => walk_at "hp"))
  | (apply Fr.getl; (case a => assumption); (case n => walk_at "ni"); (case h => walk_at "hp"))
  | (apply Fr.getd; (case a => assumption); (case n => walk_at "ni"); (case h => walk_at "hp"))
  | (apply Fr.geti; (case a => assumption); (case n => walk_at "ni"); (case h => walk_at "hp"))
  | fail "none")
local macro_rules | `(tactic| walk_at "sqs") => `(tactic| first
  | assumption
  | (apply Fr.sqln; (case a => assumption); (case n => walk_at "ni"); (case h => walk_at "sqs"))
  | fail "none")
local macro_rules | `(tactic| walk_at "sq") => `(tactic| first
  | assumption
  | (apply SqL.of; walk_at "hp")
  | (apply SqT.of; walk_at "hp")
  | walk_at "sqs"
  | fail "none")
local macro_rules | `(tactic| walk_at "fr") => `(tactic| first
  | exact Fr.refl
  | assumption
  | (apply Fr.mono; (case a => assumption); (case h => simp))
  | (apply fr_last; (case f => assumption); (case w => simp); (case g => walk_at "fr"))
  | fail "none")
local macro_rules | `(tactic| walk_at "st") => `(tactic| ((try dsimp only [cxOf, Cx.nox, Cx.wish]); (try simp only [L2.start, List.map_cons, List.map_nil, List.length_cons, List.length_nil, List.replicate, List.cons_append, List.nil_append, Nat.reduceAdd, Nat.reduceSub])))
local macro_rules | `(tactic| walk_at "lset") => `(tactic| (simp only [wipe, List.map_cons, List.map_nil, Int.reduceToNat, List.set_cons_zero, List.set_cons_succ] <;> rfl))
local macro_rules | `(tactic| walk_at "wk1") => `(tactic| first
  | with_reducible refine' w_seq ?_
  | with_reducible refine' w_asg ?_
  | ((with_reducible refine' w_name ?hs ?_); (case hs => walk_at "lset"))
  | ((with_reducible refine' w_var ?hv ?_); (case hv => rfl))
  | with_reducible refine' w_c ?_
  | with_reducible refine' w_op ?_
  | with_reducible refine' w_un ?_
  | with_reducible refine' w_test ?_
  | with_reducible refine' w_tB ?_
  | with_reducible refine' w_exbl ?_
  | with_reducible refine' w_exint ?_
  | with_reducible refine' w_t ?_
  | with_reducible refine' w_f ?_
  | with_reducible refine' w_ifS ?_
  | with_reducible refine' w_if ?_
  | with_reducible refine' w_and ?_
  | with_reducible refine' w_or ?_
  | with_reducible refine' w_not ?_
  | with_reducible refine' w_andV ?_
  | with_reducible refine' w_orV ?_
  | with_reducible refine' w_notV ?_
  | with_reducible refine' w_ret ?_
  | with_reducible refine' w_retN ?_
  | with_reducible refine' w_drop ?_
  | with_reducible refine' w_next ?_
  | with_reducible refine' w_nil ?_
  | with_reducible refine' w_cons ?_
  | with_reducible refine' w_cb ?_
  | with_reducible refine' w_call ?_
  | with_reducible refine' w_gsub ?_
  | with_reducible refine' w_gnil ?_
  | with_reducible refine' w_gcons ?_
  | ((with_reducible refine' w_gtup ?hs ?hn ?_); (case hs => walk_at "sq"); (case hn => rfl))
  | with_reducible refine' w_fld ?_
  | with_reducible refine' w_tfld ?_
  | with_reducible refine' w_sl ?_
  | with_reducible refine' w_nopart ?_
  | with_reducible refine' w_part ?_
  | with_reducible refine' w_bm ?_
  | with_reducible refine' w_bm0 ?_
  | with_reducible refine' w_yes ?_
  | with_reducible refine' w_tup ?_
  | with_reducible refine' w_lst ?_
  | with_reducible refine' w_I0 ?_
  | ((with_reducible refine' w_I ?hc ?_); (case hc => (first | (show (0 : Int) < _; first | decide | omega | assumption) | exact wide_div (by first | assumption | decide) (b := 200) (by first | assumption | decide) (by decide) (by decide) | exact wide_mul (a := 64) (b := 64) (by omega) (by omega) (by decide) (by decide) (by decide) | exact ⟨by decide, by decide, by decide⟩)))
  | ((with_reducible refine' w_eq ?he ?_); (case he => rfl))
  | ((with_reducible refine' w_ne ?he ?_); (case he => rfl))
  | ((with_reducible refine' w_ixL ?hs ?ha ?_); (case hs => walk_at "sq"); (case ha => rfl))
  | ((with_reducible refine' w_ixT ?hs ?ha ?_); (case hs => walk_at "sq"); (case ha => rfl))
  | ((with_reducible refine' w_lenL ?hs ?he ?_); (case hs => walk_at "sq"); (case he => first | (simp only [List.length_cons, List.length_nil, List.length_map]; rfl) | rfl))
  | ((with_reducible refine' w_lenT ?hs ?he ?_); (case hs => walk_at "sq"); (case he => first | (simp only [List.length_cons, List.length_nil, List.length_map]; rfl) | rfl))
  | ((with_reducible refine' w_setL ?hh ?hk ?he (fun H1 f1 g1 => ?_)); (case hh => walk_at "hp"); (case hk => rfl); (case he => walk_at "lset"))
  | ((with_reducible refine' w_newT ?hl (fun p H1 n1 f1 g1 => ?_)); (case hl => (first | decide | (simp only [List.length_cons, List.length_nil]; decide))))
  | ((with_reducible refine' w_newL ?hl (fun p H1 n1 f1 g1 => ?_)); (case hl => (first | decide | (simp only [List.length_cons, List.length_nil]; decide))))
  | with_reducible refine' w_for ?_
  | with_reducible refine' w_ilist ?_
  | ((with_reducible refine' w_ilb ?hs ?_); (case hs => walk_at "sq"))
  | with_reducible refine' w_itup ?_
  | ((with_reducible refine' w_itb ?hs ?_); (case hs => walk_at "sq"))
  | with_reducible refine' w_rng1 ?_
  | ((with_reducible refine' w_rgb1 ?h0 ?h1 ?_); (case h0 => first | decide | omega); (case h1 => first | decide | omega))
  | with_reducible refine' w_lc ?_
  | ((with_reducible refine' w_wipe ?hw ?_); (case hw => rfl))
  | ((with_reducible refine' w_cat ?ha ?hb ?hl (fun p H1 n1 f1 g1 => ?_)); (case ha => walk_at "hp"); (case hb => walk_at "hp"); (case hl => (first | decide | (simp only [List.length_cons, List.length_nil]; decide))))
  | with_reducible refine' w_dget ?_
  | with_reducible refine' w_din ?_
  | with_reducible refine' w_dnotin ?_
  | with_reducible refine' w_dput ?_
  | with_reducible refine' w_dnew ?_
  | with_reducible refine' w_newD (fun p H1 n1 f1 g1 => ?_)
  | ((with_reducible refine' w_slT ?hs ?hn ?he (fun p H1 n1 f1 g1 => ?_)); (case hs => walk_at "sq"); (case hn => decide); (case he => rfl))
  | with_reducible refine' w_meth ?_
  | with_reducible refine' w_make ?_
  | with_reducible refine' w_mkb (fun x dx H1 n1 m1 d1 f1 g1 => ?_)
  | with_reducible refine' w_fldaug ?_
  | with_reducible refine' w_tru ?_
  | ((with_reducible refine' w_trl ?hh ?_); (case hh => walk_at "hp"))
  | with_reducible refine' w_whb ?_
  | with_reducible refine' w_chain ?_
  | with_reducible refine' w_tyIs ?_
  | with_reducible refine' w_raise ?_
  | with_reducible refine' w_rab ?_
  | with_reducible refine' w_jn ?_
  | with_reducible refine' w_js ?_
  | with_reducible refine' w_jsn ?_
  | with_reducible refine' w_fmt ?_
  | with_reducible refine' w_isN ?_
  | with_reducible refine' w_intB ?_
  | with_reducible refine' w_istr ?_
  | with_reducible refine' w_stb ?_
  | ((with_reducible refine' w_inT ?hs ?hx ?ha ?_); (case hs => walk_at "sq"); (case hx => rfl); (case ha => rfl))
  | ((with_reducible refine' w_isf ?hd ?_); (case hd => decide +kernel))
  | ((with_reducible refine' w_ist ?hd ?_); (case hd => decide +kernel))
  | with_reducible refine' w_enumT ?_
  | ((with_reducible refine' w_enb ?hs ?_); (case hs => walk_at "sq"))
  | with_reducible refine' w_star ?_
  | ((with_reducible refine' w_stT ?hs ?_); (case hs => walk_at "sq"))
  | ((with_reducible refine' w_stL ?hs ?_); (case hs => walk_at "sq"))
  | with_reducible refine' w_par ?_
  | ((with_reducible refine' w_parb ?he ?_); (case he => walk_at "lset"))
  | with_reducible refine' w_enumL ?_
  | ((with_reducible refine' w_enlb ?hs ?_); (case hs => walk_at "sq"))
  | with_reducible refine' w_revL ?_
  | ((with_reducible refine' w_revb ?hs (fun p H1 n1 f1 g1 => ?_)); (case hs => walk_at "sq"))
  | with_reducible refine' w_max2 ?_
  | with_reducible refine' w_min2 ?_
  | with_reducible refine' w_lrg2 ?_
  | with_reducible refine' w_scI ?_
  | fail "none")
local macro_rules | `(tactic| walk_at "wk") => `(tactic| repeat walk_at "wk1")

section
variable {P : Program} {w : World} {K : PySem.W.Frag} {mg : Str → Option Value} {base : Heap} {f : Addr} {fd : FuncData} {a : Ad}
theorem sc_is_whole : FnScope ["found", "most"] ["found", "most"] (defScope s_is_whole) := ⟨rfl, rfl, rfl, by decide +kernel, rfl, by decide +kernel, by decide +kernel⟩
theorem ok_whole (F : Fun K "is_whole" "is_whole" s_is_whole f fd) (Z : Blt mg) : FnOk P w K mg base CX0 1 f fd ["found", "most"] spWhole := by
  refine F.ok sc_is_whole (fun vs H Q E h => ?_) (fun cdv A outer s H vs Q E hr h => ?_)
  · obtain ⟨x, m, rfl, _⟩ := h
    rfl
  obtain ⟨x, m, rfl, h⟩ := h
  refine ⟨_, (pss_one (ps_ret (pe_and (pe_cmpR op_tyIs (pe_callTy (r := RZ.rTy4) RZ.call_type4 (by rfl) Z.type (by decide +kernel) (pa_cons (pv 0) pa_nil)) (pe_bltn (v := .ty "int") (u := .type "int") rfl Z.int (by decide +kernel) rfl) (nomark _)) (pe_one (pe_chain op_le op_le pe_int (pv 0) (pv 1)))))), ?_⟩
  walk_at "st"
  rcases h with ⟨i, rfl, k⟩ | ⟨⟨t, ht, hn⟩, k⟩
  · walk_at "wk"
    refine w_ty4 (.int i) ?_
    walk_at "wk"
    refine w_iteD (fun c => ?_) (fun c => ?_)
    · walk_at "wk"
      rw [decide_eq_true c] at k
      exact k
    · rw [decide_eq_false c] at k
      exact k
  · walk_at "wk"
    refine w_ty4 ht ?_
    walk_at "wk"
    refine w_isf (decide_eq_false hn) ?_
    exact k
end
end My
namespace My
open PySem L2 Wk
local macro_rules | `(tactic| walk_at "hs") => `(tactic| first
  | assumption
  | (apply fr_st0; (case f => assumption); (case h => walk_at "hs"))
  | (apply fr_st1; (case f => assumption); (case n => walk_at "ne"); (case hw => first | assumption | exact List.mem_cons_self); (case h => walk_at "hs"))
  | fail "none")
local macro_rules | `(tactic| walk_at "nn") => `(tactic| first
  | (apply nn_st; (case n => assumption); (case h => walk_at "hs"))
  | (apply nn_l; (case n => assumption); (case h => walk_at "hp"))
  | (apply nn_d; (case n => assumption); (case h => walk_at "hp"))
  | (apply nn_i; (case n => assumption); (case h => walk_at "hp"))
  | fail "none")
local macro_rules | `(tactic| walk_at "su") => `(tactic| first
  | assumption
  | (apply fr_su; (case f => assumption); (case h => walk_at "su"))
  | fail "none")
local macro_rules | `(tactic| walk_at "as") => `(tactic| first
  | assumption
  | (apply fr_as; (case f => assumption); (case h => walk_at "as"))
  | fail "none")
local macro_rules | `(tactic| walk_at "ef") => `(tactic| first
  | assumption
  | (apply fr_ef0; (case f => assumption); (case h => walk_at "ef"))
  | (apply fr_ef; (case f => assumption); (case n1 => walk_at "ni"); (case n2 => walk_at "ni"); (case n3 => walk_at "ni"); (case h => walk_at "ef"))
  | fail "none")
local macro_rules | `(tactic| walk_at "td") => `(tactic| first
  | assumption
  | (apply fr_td0; (case f => assumption); (case h => walk_at "td"))
  | (apply fr_td; (case f => assumption); (case n1 => walk_at "ni"); (case n2 => walk_at "ni"); (case n3 => walk_at "ni"); (case h => walk_at "td"))
  | fail "none")
local macro_rules | `(tactic| walk_at "sk") => `(tactic| first
  | assumption
  | (apply fr_stk; (case f => assumption); (case a => walk_at "sk"))
  | fail "none")
local macro_rules | `(tactic| walk_at "al") => `(tactic| first
  | assumption
  | (apply fr_al; (case f => assumption); (case h => walk_at "al"))
  | fail "none")
local macro_rules | `(tactic| walk_at "nv") => `(tactic| first
  | assumption
  | (apply fr_nv; (case a => assumption); (case n => walk_at "ni"); (case h => walk_at "nv"))
  | fail "none")
local macro_rules | `(tactic| walk_at "ne") => `(tactic| first
  | assumption
  | (apply Ne.symm; assumption)
  | walk_at "nn"
  | (apply Ne.symm; walk_at "nn")
  | fail "none")
local macro_rules | `(tactic| walk_at "ni") => `(tactic| first
  | exact List.not_mem_nil
  | (apply ni1; walk_at "ne")
  | (apply ni2 <;> walk_at "ne")
  | (apply ni3 <;> walk_at "ne")
  | fail "none")
local macro_rules | `(tactic| walk_at "hp") => `(tactic| first
  | assumption
  | (apply Fr.gett; (case a => assumption); (case h => walk_at "hp"))
  | (apply Fr.getl; (case a => assumption); (case n => walk_at "ni"); (case h => walk_at "hp"))
  | (apply Fr.getd; (case a => assumption); (case n => walk_at "ni"); (case h => walk_at "hp"))
  | (apply Fr.geti; (case a => assumption); (case n => walk_at "ni"); (case h => walk_at "hp"))
  | fail "none")
local macro_rules | `(tactic| walk_at "sqs") => `(tactic| first
  | assumption
  | (apply Fr.sqln; (case a => assumption); (case n => walk_at "ni"); (case h => walk_at "sqs"))
  | fail "none")
local macro_rules | `(tactic| walk_at "sq") => `(tactic| first
  | assumption
  | (apply SqL.of; walk_at "hp")
  | (apply SqT.of; walk_at "hp")
  | walk_at "sqs"
  | fail "none")
local macro_rules | `(tactic| walk_at "fr") => `(tactic| first
  | exact Fr.refl
  | assumption
  | (apply Fr.mono; (case a => assumption); (case h => simp))
  | (apply fr_last; (case f => assumption); (case w => simp); (case g => walk_at "fr"))
  | fail "none")
local macro_rules | `(tactic| walk_at "st") => `(tactic| ((try dsimp only [cxOf, Cx.nox, Cx.wish]); (try simp only [L2.start, List.map_cons, List.map_nil, List.length_cons, List.length_nil, List.replicate, List.cons_append, List.nil_append, Nat.reduceAdd, Nat.reduceSub])))
local macro_rules | `(tactic| walk_at "lset") => `(tactic| (simp only [wipe, List.map_cons, List.map_nil, Int.reduceToNat, List.set_cons_zero, List.set_cons_succ] <;> rfl))
local macro_rules | `(tactic| walk_at "wk1") => `(tactic| first
  | with_reducible refine' w_seq ?_
  | with_reducible refine' w_asg ?_
  | ((with_reducible refine' w_name ?hs ?_); (case hs => walk_at "lset"))
  | ((with_reducible refine' w_var ?hv ?_); (case hv => rfl))
  | with_reducible refine' w_c ?_
  | with_reducible refine' w_op ?_
  | with_reducible refine' w_un ?_
  | with_reducible refine' w_test ?_
  | with_reducible refine' w_tB ?_
  | with_reducible refine' w_exbl ?_
  | with_reducible refine' w_exint ?_
  | with_reducible refine' w_t ?_
  | with_reducible refine' w_f ?_
  | with_reducible refine' w_ifS ?_
  | with_reducible refine' w_if ?_
  | with_reducible refine' w_and ?_
  | with_reducible refine' w_or ?_
  | with_reducible refine' w_not ?_
  | with_reducible refine' w_andV ?_
  | with_reducible refine' w_orV ?_
  | with_reducible refine' w_notV ?_
  | with_reducible refine' w_ret ?_
  | with_reducible refine' w_retN ?_
  | with_reducible refine' w_drop ?_
  | with_reducible refine' w_next ?_
  | with_reducible refine' w_nil ?_
  | with_reducible refine' w_cons ?_
  | with_reducible refine' w_cb ?_
  | with_reducible refine' w_call ?_
  | with_reducible refine' w_gsub ?_
  | with_reducible refine' w_gnil ?_
  | with_reducible refine' w_gcons ?_
  | ((with_reducible refine' w_gtup ?hs ?hn ?_); (case hs => walk_at "sq"); (case hn => rfl))
  | with_reducible refine' w_fld ?_
  | with_reducible refine' w_tfld ?_
  | with_reducible refine' w_sl ?_
  | with_reducible refine' w_nopart ?_
  | with_reducible refine' w_part ?_
  | with_reducible refine' w_bm ?_
  | with_reducible refine' w_bm0 ?_
  | with_reducible refine' w_yes ?_
  | with_reducible refine' w_tup ?_
  | with_reducible refine' w_lst ?_
  | with_reducible refine' w_I0 ?_
  | ((with_reducible refine' w_I ?hc ?_); (case hc => (first | (show (0 : Int) < _; first | decide | omega | assumption) | exact wide_div (by first | assumption | decide) (b := 200) (by first | assumption | decide) (by decide) (by decide) | exact wide_mul (a := 64) (b := 64) (by omega) (by omega) (by decide) (by decide) (by decide) | exact ⟨by decide, by decide, by decide⟩)))
  | ((with_reducible refine' w_eq ?he ?_); (case he => rfl))
  | ((with_reducible refine' w_ne ?he ?_); (case he => rfl))
  | ((with_reducible refine' w_ixL ?hs ?ha ?_); (case hs => walk_at "sq"); (case ha => rfl))
  | ((with_reducible refine' w_ixT ?hs ?ha ?_); (case hs => walk_at "sq"); (case ha => rfl))
  | ((with_reducible refine' w_lenL ?hs ?he ?_); (case hs => walk_at "sq"); (case he => first | (simp only [List.length_cons, List.length_nil, List.length_map]; rfl) | rfl))
  | ((with_reducible refine' w_lenT ?hs ?he ?_); (case hs => walk_at "sq"); (case he => first | (simp only [List.length_cons, List.length_nil, List.length_map]; rfl) | rfl))
  | ((with_reducible refine' w_setL ?hh ?hk ?he (fun H1 f1 g1 => ?_)); (case hh => walk_at "hp"); (case hk => rfl); (case he => walk_at "lset"))
  | ((with_reducible refine' w_newT ?hl (fun p H1 n1 f1 g1 => ?_)); (case hl => (first | decide | (simp only [List.length_cons, List.length_nil]; decide))))
  | ((with_reducible refine' w_newL ?hl (fun p H1 n1 f1 g1 => ?_)); (case hl => (first | decide | (simp only [List.length_cons, List.length_nil]; decide))))
  | with_reducible refine' w_for ?_
  | with_reducible refine' w_ilist ?_
  | ((with_reducible refine' w_ilb ?hs ?_); (case hs => walk_at "sq"))
  | with_reducible refine' w_itup ?_
  | ((with_reducible refine' w_itb ?hs ?_); (case hs => walk_at "sq"))
  | with_reducible refine' w_rng1 ?_
  | ((with_reducible refine' w_rgb1 ?h0 ?h1 ?_); (case h0 => first | decide | omega); (case h1 => first | decide | omega))
  | with_reducible refine' w_lc ?_
  | ((with_reducible refine' w_wipe ?hw ?_); (case hw => rfl))
  | ((with_reducible refine' w_cat ?ha ?hb ?hl (fun p H1 n1 f1 g1 => ?_)); (case ha => walk_at "hp"); (case hb => walk_at "hp"); (case hl => (first | decide | (simp only [List.length_cons, List.length_nil]; decide))))
  | with_reducible refine' w_dget ?_
  | with_reducible refine' w_din ?_
  | with_reducible refine' w_dnotin ?_
  | with_reducible refine' w_dput ?_
  | with_reducible refine' w_dnew ?_
  | with_reducible refine' w_newD (fun p H1 n1 f1 g1 => ?_)
  | ((with_reducible refine' w_slT ?hs ?hn ?he (fun p H1 n1 f1 g1 => ?_)); (case hs => walk_at "sq"); (case hn => decide); (case he => rfl))
  | with_reducible refine' w_meth ?_
  | with_reducible refine' w_make ?_
  | with_reducible refine' w_mkb (fun x dx H1 n1 m1 d1 f1 g1 => ?_)
  | with_reducible refine' w_fldaug ?_
  | with_reducible refine' w_tru ?_
  | ((with_reducible refine' w_trl ?hh ?_); (case hh => walk_at "hp"))
  | with_reducible refine' w_whb ?_
  | with_reducible refine' w_chain ?_
  | with_reducible refine' w_tyIs ?_
  | with_reducible refine' w_raise ?_
  | with_reducible refine' w_rab ?_
  | with_reducible refine' w_jn ?_
  | with_reducible refine' w_js ?_
  | with_reducible refine' w_jsn ?_
  | with_reducible refine' w_fmt ?_
  | with_reducible refine' w_isN ?_
  | with_reducible refine' w_intB ?_
  | with_reducible refine' w_istr ?_
  | with_reducible refine' w_stb ?_
  | ((with_reducible refine' w_inT ?hs ?hx ?ha ?_); (case hs => walk_at "sq"); (case hx => rfl); (case ha => rfl))
  | ((with_reducible refine' w_isf ?hd ?_); (case hd => decide +kernel))
  | ((with_reducible refine' w_ist ?hd ?_); (case hd => decide +kernel))
  | with_reducible refine' w_enumT ?_
  | ((with_reducible refine' w_enb ?hs ?_); (case hs => walk_at "sq"))
  | with_reducible refine' w_star ?_
  | ((with_reducible refine' w_stT ?hs ?_); (case hs => walk_at "sq"))
  | ((with_reducible refine' w_stL ?hs ?_); (case hs => walk_at "sq"))
  | with_reducible refine' w_par ?_
  | ((with_reducible refine' w_parb ?he ?_); (case he => walk_at "lset"))
  | with_reducible refine' w_enumL ?_
  | ((with_reducible refine' w_enlb ?hs ?_); (case hs => walk_at "sq"))
  | with_reducible refine' w_revL ?_
  | ((with_reducible refine' w_revb ?hs (fun p H1 n1 f1 g1 => ?_)); (case hs => walk_at "sq"))
  | with_reducible refine' w_max2 ?_
  | with_reducible refine' w_min2 ?_
  | with_reducible refine' w_lrg2 ?_
  | with_reducible refine' w_scI ?_
  | fail "none")
local macro_rules | `(tactic| walk_at "wk") => `(tactic| repeat walk_at "wk1")

section
variable {P : Program} {w : World} {K : PySem.W.Frag} {mg : Str → Option Value} {base : Heap} {f : Addr} {fd : FuncData} {a : Ad}
theorem sc_has_form : FnScope ["part", "word"] ["part"] (defScope s_has_form) := ⟨rfl, rfl, rfl, by decide +kernel, rfl, by decide +kernel, by decide +kernel⟩
theorem ok_formG (F : Fun K "has_form" "has_form" s_has_form f fd) (Z : Blt mg) (T : Txt K mg a) (D_is_whole : Df P w K mg base CX0 1 "is_whole" ["found", "most"] spWhole) : FnOk P w K mg base CX0 2 f fd ["part"] spFormG := by
  refine F.ok sc_has_form (fun vs H Q E h => ?_) (fun cdv A outer s H vs Q E hr h => ?_)
  · rcases h with ⟨p, xs, rfl, _⟩ | ⟨i, rfl, _⟩ <;> rfl
  have tw := T.q_WORDS
  have tl := T.q_LETTERS
  have tt : kitB "tuple" "tuple" = some true := by decide +kernel
  rcases h with ⟨p, xs, rfl, hp, hi, k⟩ | ⟨i, rfl, k⟩
  · refine ⟨_, (pss_cons (ps_if (PW.pt (pw_or (pt_not (pt_val (pe_callB (id := "isinstance") (r := rIsi K) call_isi (by rfl) Z.isinstance (by decide +kernel) (pa_cons (pv 0) (pa_cons (pe_bltn (v := .ty "tuple") (u := .type "tuple") rfl Z.tuple (by decide +kernel) rfl) pa_nil))) (fun _ => rfl))) (pw_or1 (pt_cmpR op_eq (pe_callB (id := "len") (r := rLenW K) call_lenN (by rfl) Z.len PySem.boot_len (pa_cons (pv 0) pa_nil)) pe_int (nomark _))))) (pss_one (ps_ret pe_bl)) pss_nil)
  (pss_cons (ps_set (i := 1) sc_has_form.nd rfl (Or.inl rfl) (pe_ix (r := rIxT K) ix_tup (pv 0) pe_int (fun _ _ => rfl)))
  (pss_cons (ps_if (pt_cmpR op_eq (pv 1) pe_str (nomark _)) (pss_one (ps_ret (pe_and (pe_cmpR op_eq (pe_callB (id := "len") (r := rLenW K) call_lenN (by rfl) Z.len PySem.boot_len (pa_cons (pv 0) pa_nil)) pe_int (nomark _)) (pe_one (pe_df D_is_whole hr (by first | decide | omega) (pa_cons (pe_ix (r := rIxT K) ix_tup (pv 0) pe_int (fun _ _ => rfl)) (pa_cons (pe_globI rfl T.m_LARGEST) pa_nil))))))) pss_nil)
  (pss_cons (ps_if (pt_cmpR op_eq (pv 1) pe_str (nomark _)) (pss_one (ps_ret (pe_and (pe_cmpR op_eq (pe_callB (id := "len") (r := rLenW K) call_lenN (by rfl) Z.len PySem.boot_len (pa_cons (pv 0) pa_nil)) pe_int (nomark _)) (pe_one (pe_cmpR (r := rIn K false) op_in_seq (pe_ix (r := rIxT K) ix_tup (pv 0) pe_int (fun _ _ => rfl)) (pe_globR rfl T.m_LETTERS) rfl))))) pss_nil)
  (pss_cons (ps_if (pt_cmpR (r := rIn K false) op_in_seq (pv 1) (pe_globR rfl T.m_WORDS_WITH_TWO_PARTS) rfl) (pss_one (ps_ret (pe_cmpR op_eq (pe_callB (id := "len") (r := rLenW K) call_lenN (by rfl) Z.len PySem.boot_len (pa_cons (pv 0) pa_nil)) pe_int (nomark _)))) pss_nil)
  (pss_cons (ps_if (pt_cmpR op_eq (pv 1) pe_str (nomark _)) (pss_one (ps_ret (pe_cmpR op_eq (pe_callB (id := "len") (r := rLenW K) call_lenN (by rfl) Z.len PySem.boot_len (pa_cons (pv 0) pa_nil)) pe_int (nomark _)))) pss_nil)
  (pss_one (ps_ret (pe_and (pe_cmpR op_eq (pv 1) pe_str (nomark _)) (pe_one (pe_cmpR op_eq (pe_callB (id := "len") (r := rLenW K) call_lenN (by rfl) Z.len PySem.boot_len (pa_cons (pv 0) pa_nil)) pe_int (nomark _)))))))))))), ?_⟩
    walk_at "st"
    walk_at "wk"
    refine w_isi (ty_tup hp) tt ?_
    rcases hi with rfl | ⟨w, r, rfl, hl, hf⟩
    · walk_at "wk"
      exact k
    · walk_at "wk"
      refine w_iteI (fun c => by simp at c; omega) (fun c0 => ?_)
      walk_at "wk"
      refine w_ixT (SqT.of hp) (atI_nat (j := 0) rfl) ?_
      walk_at "wk"
      rw [form_cons] at k
      refine w_iteS (fun c => ?_) (fun c => ?_)
      · rw [if_pos (by rw [c])] at k
        walk_at "wk"
        refine w_iteI (fun c2 => ?_) (fun c2 => ?_)
        · match r, c2, hf, hp, k with
          | [x], c2, hf, hp, k =>
            walk_at "wk"
            rcases hf (.inl c) x List.mem_cons_self with ⟨i, rfl⟩ | ⟨z, rfl⟩
            · exact ⟨_, _, rfl, .inl ⟨i, rfl, k⟩⟩
            · exact ⟨_, _, rfl, .inr ⟨⟨"str", .str z, by decide⟩, k⟩⟩
        · match r, c2, k with
          | [], _, k => exact k
          | [_], c2, _ => exact absurd rfl c2
          | _ :: _ :: _, _, k => exact k
      · rw [if_neg (fun e => c (V.str.inj e))] at k
        walk_at "wk"
        refine w_iteS (fun c1 => ?_) (fun c1 => ?_)
        · rw [if_pos (by rw [c1])] at k
          walk_at "wk"
          refine w_iteI (fun c2 => ?_) (fun c2 => ?_)
          · match r, c2, hf, hp, k with
            | [x], c2, hf, hp, k =>
              walk_at "wk"
              have fx : flatV x = true := by rcases hf (.inr c1) x List.mem_cons_self with ⟨i, rfl⟩ | ⟨z, rfl⟩ <;> rfl
              exact w_inT (tl _) fx rfl k
          · match r, c2, k with
            | [], _, k => exact k
            | [_], c2, _ => exact absurd rfl c2
            | _ :: _ :: _, _, k => exact k
        · rw [if_neg (fun e => c1 (V.str.inj e))] at k
          walk_at "wk"
          refine w_inT (tw _) rfl rfl ?_
          walk_at "wk"
          refine w_iteb (fun c2 => ?_) (fun c2 => ?_)
          · rw [if_pos c2] at k
            walk_at "wk"
            refine qbl' k ?_
            exact dec_congr ⟨fun h => by rw [h]; rfl, fun h => by have := V.int.inj h; omega⟩
          · rw [if_neg (by rw [c2]; exact Bool.false_ne_true)] at k
            walk_at "wk"
            refine w_iteS (fun c3 => ?_) (fun c3 => ?_)
            · rw [if_pos (by rw [c3])] at k
              walk_at "wk"
              refine qbl' k ?_
              exact dec_congr ⟨fun h => by rw [h]; rfl, fun h => by have := V.int.inj h; omega⟩
            · rw [if_neg (fun e => c3 (V.str.inj e))] at k
              walk_at "wk"
              refine w_iteS (fun c4 => ?_) (fun c4 => ?_)
              · walk_at "wk"
                refine qbl' k ?_
                rw [decide_eq_true (by rw [c4]), Bool.true_and]
                exact dec_congr ⟨fun h => by rw [h]; rfl, fun h => by have := V.int.inj h; omega⟩
              · refine qbl' k ?_
                rw [decide_eq_false (fun e => c4 (V.str.inj e)), Bool.false_and]
  · refine ⟨_, (pss_cons (ps_if (PW.pt (pw_or (pt_not (pt_val (pe_callB (id := "isinstance") (r := rIsi K) call_isi (by rfl) Z.isinstance (by decide +kernel) (pa_cons (pv 0) (pa_cons (pe_bltn (v := .ty "tuple") (u := .type "tuple") rfl Z.tuple (by decide +kernel) rfl) pa_nil))) (fun _ => rfl))) (pw_or1 (pt_cmpR op_eq (pe_callB (id := "len") (r := rLenW K) call_lenN (by rfl) Z.len PySem.boot_len (pa_cons (pv 0) pa_nil)) pe_int (nomark _))))) (pss_one (ps_ret pe_bl)) pss_nil)
  (pss_cons (ps_set (i := 1) sc_has_form.nd rfl (Or.inl rfl) (pe_ix (r := rIxT K) ix_tup (pv 0) pe_int (fun _ _ => rfl)))
  (pss_cons (ps_if (pt_cmpR op_eq (pv 1) pe_str (nomark _)) (pss_one (ps_ret (pe_and (pe_cmpR op_eq (pe_callB (id := "len") (r := rLenW K) call_lenN (by rfl) Z.len PySem.boot_len (pa_cons (pv 0) pa_nil)) pe_int (nomark _)) (pe_one (pe_df D_is_whole hr (by first | decide | omega) (pa_cons (pe_ix (r := rIxT K) ix_tup (pv 0) pe_int (fun _ _ => rfl)) (pa_cons (pe_globI rfl T.m_LARGEST) pa_nil))))))) pss_nil)
  (pss_cons (ps_if (pt_cmpR op_eq (pv 1) pe_str (nomark _)) (pss_one (ps_ret (pe_and (pe_cmpR op_eq (pe_callB (id := "len") (r := rLenW K) call_lenN (by rfl) Z.len PySem.boot_len (pa_cons (pv 0) pa_nil)) pe_int (nomark _)) (pe_one (pe_cmpR (r := rIn K false) op_in_seq (pe_ix (r := rIxT K) ix_tup (pv 0) pe_int (fun _ _ => rfl)) (pe_globR rfl T.m_LETTERS) rfl))))) pss_nil)
  (pss_cons (ps_if (pt_cmpR (r := rIn K false) op_in_seq (pv 1) (pe_globR rfl T.m_WORDS_WITH_TWO_PARTS) rfl) (pss_one (ps_ret (pe_cmpR op_eq (pe_callB (id := "len") (r := rLenW K) call_lenN (by rfl) Z.len PySem.boot_len (pa_cons (pv 0) pa_nil)) pe_int (nomark _)))) pss_nil)
  (pss_cons (ps_if (pt_cmpR op_eq (pv 1) pe_str (nomark _)) (pss_one (ps_ret (pe_cmpR op_eq (pe_callB (id := "len") (r := rLenW K) call_lenN (by rfl) Z.len PySem.boot_len (pa_cons (pv 0) pa_nil)) pe_int (nomark _)))) pss_nil)
  (pss_one (ps_ret (pe_and (pe_cmpR op_eq (pv 1) pe_str (nomark _)) (pe_one (pe_cmpR op_eq (pe_callB (id := "len") (r := rLenW K) call_lenN (by rfl) Z.len PySem.boot_len (pa_cons (pv 0) pa_nil)) pe_int (nomark _)))))))))))), ?_⟩
    walk_at "st"
    walk_at "wk"
    refine w_isi ty_int (show kitB "int" "tuple" = some false by decide +kernel) ?_
    walk_at "wk"
    exact k
end
end My
namespace My
open PySem L2 Wk
local macro_rules | `(tactic| walk_at "hs") => `(tactic| first
  | assumption
  | (apply fr_st0; (case f => assumption); (case h => walk_at "hs"))
  | (apply fr_st1; (case f => assumption); (case n => walk_at "ne"); (case hw => first | assumption | exact List.mem_cons_self); (case h => walk_at "hs"))
  | fail "none")
local macro_rules | `(tactic| walk_at "nn") => `(tactic| first
  | (apply nn_st; (case n => assumption); (case h => walk_at "hs"))
  | (apply nn_l; (case n => assumption); (case h => walk_at "hp"))
  | (apply nn_d; (case n => assumption); (case h => walk_at "hp"))
  | (apply nn_i; (case n => assumption); (case h => walk_at "hp"))
  | fail "none")
local macro_rules | `(tactic| walk_at "su") => `(tactic| first
  | assumption
  | (apply fr_su; (case f => assumption); (case h => walk_at "su"))
  | fail "none")
local macro_rules | `(tactic| walk_at "as") => `(tactic| first
  | assumption
  | (apply fr_as; (case f => assumption); (case h => walk_at "as"))
  | fail "none")
local macro_rules | `(tactic| walk_at "ef") => `(tactic| first
  | assumption
  | (apply fr_ef0; (case f => assumption); (case h => walk_at "ef"))
  | (apply fr_ef; (case f => assumption); (case n1 => walk_at "ni"); (case n2 => walk_at "ni"); (case n3 => walk_at "ni"); (case h => walk_at "ef"))
  | fail "none")
local macro_rules | `(tactic| walk_at "td") => `(tactic| first
  | assumption
  | (apply fr_td0; (case f => assumption); (case h => walk_at "td"))
  | (apply fr_td; (case f => assumption); (case n1 => walk_at "ni"); (case n2 => walk_at "ni"); (case n3 => walk_at "ni"); (case h => walk_at "td"))
  | fail "none")
local macro_rules | `(tactic| walk_at "sk") => `(tactic| first
  | assumption
  | (apply fr_stk; (case f => assumption); (case a => walk_at "sk"))
  | fail "none")
local macro_rules | `(tactic| walk_at "al") => `(tactic| first
  | assumption
  | (apply fr_al; (case f => assumption); (case h => walk_at "al"))
  | fail "none")
local macro_rules | `(tactic| walk_at "nv") => `(tactic| first
  | assumption
  | (apply fr_nv; (case a => assumption); (case n => walk_at "ni"); (case h => walk_at "nv"))
  | fail "none")
local macro_rules | `(tactic| walk_at "ne") => `(tactic| first
  | assumption
  | (apply Ne.symm; assumption)
  | walk_at "nn"
  | (apply Ne.symm; walk_at "nn")
  | fail "none")
local macro_rules | `(tactic| walk_at "ni") => `(tactic| first
  | exact List.not_mem_nil
  | (apply ni1; walk_at "ne")
  | (apply ni2 <;> walk_at "ne")
  | (apply ni3 <;> walk_at "ne")
  | fail "none")
local macro_rules | `(tactic| walk_at "hp") => `(tactic| first
  | assumption
  | (apply Fr.gett; (case a => assumption); (case h => walk_at "hp"))
  | (apply Fr.getl; (case a => assumption); (case n => walk_at "ni"); (case h => walk_at "hp"))
  | (apply Fr.getd; (case a => assumption); (case n => walk_at "ni"); (case h => walk_at "hp"))
  | (apply Fr.geti; (case a => assumption); (case n => walk_at "ni"); (case h => walk_at "hp"))
  | fail "none")
local macro_rules | `(tactic| walk_at "sqs") => `(tactic| first
  | assumption
  | (apply Fr.sqln; (case a => assumption); (case n => walk_at "ni"); (case h => walk_at "sqs"))
  | fail "none")
local macro_rules | `(tactic| walk_at "sq") => `(tactic| first
  | assumption
  | (apply SqL.of; walk_at "hp")
  | (apply SqT.of; walk_at "hp")
  | walk_at "sqs"
  | fail "none")
local macro_rules | `(tactic| walk_at "fr") => `(tactic| first
  | exact Fr.refl
  | assumption
  | (apply Fr.mono; (case a => assumption); (case h => simp))
  | (apply fr_last; (case f => assumption); (case w => simp); (case g => walk_at "fr"))
  | fail "none")
local macro_rules | `(tactic| walk_at "st") => `(tactic| ((try dsimp only [cxOf, Cx.nox, Cx.wish]); (try simp only [L2.start, List.map_cons, List.map_nil, List.length_cons, List.length_nil, List.replicate, List.cons_append, List.nil_append, Nat.reduceAdd, Nat.reduceSub])))
local macro_rules | `(tactic| walk_at "lset") => `(tactic| (simp only [wipe, List.map_cons, List.map_nil, Int.reduceToNat, List.set_cons_zero, List.set_cons_succ] <;> rfl))
local macro_rules | `(tactic| walk_at "wk1") => `(tactic| first
  | with_reducible refine' w_seq ?_
  | with_reducible refine' w_asg ?_
  | ((with_reducible refine' w_name ?hs ?_); (case hs => walk_at "lset"))
  | ((with_reducible refine' w_var ?hv ?_); (case hv => rfl))
  | with_reducible refine' w_c ?_
  | with_reducible refine' w_op ?_
  | with_reducible refine' w_un ?_
  | with_reducible refine' w_test ?_
  | with_reducible refine' w_tB ?_
  | with_reducible refine' w_exbl ?_
  | with_reducible refine' w_exint ?_
  | with_reducible refine' w_t ?_
  | with_reducible refine' w_f ?_
  | with_reducible refine' w_ifS ?_
  | with_reducible refine' w_if ?_
  | with_reducible refine' w_and ?_
  | with_reducible refine' w_or ?_
  | with_reducible refine' w_not ?_
  | with_reducible refine' w_andV ?_
  | with_reducible refine' w_orV ?_
  | with_reducible refine' w_notV ?_
  | with_reducible refine' w_ret ?_
  | with_reducible refine' w_retN ?_
  | with_reducible refine' w_drop ?_
  | with_reducible refine' w_next ?_
  | with_reducible refine' w_nil ?_
  | with_reducible refine' w_cons ?_
  | with_reducible refine' w_cb ?_
  | with_reducible refine' w_call ?_
  | with_reducible refine' w_gsub ?_
  | with_reducible refine' w_gnil ?_
  | with_reducible refine' w_gcons ?_
  | ((with_reducible refine' w_gtup ?hs ?hn ?_); (case hs => walk_at "sq"); (case hn => rfl))
  | with_reducible refine' w_fld ?_
  | with_reducible refine' w_tfld ?_
  | with_reducible refine' w_sl ?_
  | with_reducible refine' w_nopart ?_
  | with_reducible refine' w_part ?_
  | with_reducible refine' w_bm ?_
  | with_reducible refine' w_bm0 ?_
  | with_reducible refine' w_yes ?_
  | with_reducible refine' w_tup ?_
  | with_reducible refine' w_lst ?_
  | with_reducible refine' w_I0 ?_
  | ((with_reducible refine' w_I ?hc ?_); (case hc => (first | (show (0 : Int) < _; first | decide | omega | assumption) | exact wide_div (by first | assumption | decide) (b := 200) (by first | assumption | decide) (by decide) (by decide) | exact wide_mul (a := 64) (b := 64) (by omega) (by omega) (by decide) (by decide) (by decide) | exact ⟨by decide, by decide, by decide⟩)))
  | ((with_reducible refine' w_eq ?he ?_); (case he => rfl))
  | ((with_reducible refine' w_ne ?he ?_); (case he => rfl))
  | ((with_reducible refine' w_ixL ?hs ?ha ?_); (case hs => walk_at "sq"); (case ha => rfl))
  | ((with_reducible refine' w_ixT ?hs ?ha ?_); (case hs => walk_at "sq"); (case ha => rfl))
  | ((with_reducible refine' w_lenL ?hs ?he ?_); (case hs => walk_at "sq"); (case he => first | (simp only [List.length_cons, List.length_nil, List.length_map]; rfl) | rfl))
  | ((with_reducible refine' w_lenT ?hs ?he ?_); (case hs => walk_at "sq"); (case he => first | (simp only [List.length_cons, List.length_nil, List.length_map]; rfl) | rfl))
  | ((with_reducible refine' w_setL ?hh ?hk ?he (fun H1 f1 g1 => ?_)); (case hh => walk_at "hp"); (case hk => rfl); (case he => walk_at "lset"))
  | ((with_reducible refine' w_newT ?hl (fun p H1 n1 f1 g1 => ?_)); (case hl => (first | decide | (simp only [List.length_cons, List.length_nil]; decide))))
  | ((with_reducible refine' w_newL ?hl (fun p H1 n1 f1 g1 => ?_)); (case hl => (first | decide | (simp only [List.length_cons, List.length_nil]; decide))))
  | with_reducible refine' w_for ?_
  | with_reducible refine' w_ilist ?_
  | ((with_reducible refine' w_ilb ?hs ?_); (case hs => walk_at "sq"))
  | with_reducible refine' w_itup ?_
  | ((with_reducible refine' w_itb ?hs ?_); (case hs => walk_at "sq"))
  | with_reducible refine' w_rng1 ?_
  | ((with_reducible refine' w_rgb1 ?h0 ?h1 ?_); (case h0 => first | decide | omega); (case h1 => first | decide | omega))
  | with_reducible refine' w_lc ?_
  | ((with_reducible refine' w_wipe ?hw ?_); (case hw => rfl))
  | ((with_reducible refine' w_cat ?ha ?hb ?hl (fun p H1 n1 f1 g1 => ?_)); (case ha => walk_at "hp"); (case hb => walk_at "hp"); (case hl => (first | decide | (simp only [List.length_cons, List.length_nil]; decide))))
  | with_reducible refine' w_dget ?_
  | with_reducible refine' w_din ?_
  | with_reducible refine' w_dnotin ?_
  | with_reducible refine' w_dput ?_
  | with_reducible refine' w_dnew ?_
  | with_reducible refine' w_newD (fun p H1 n1 f1 g1 => ?_)
  | ((with_reducible refine' w_slT ?hs ?hn ?he (fun p H1 n1 f1 g1 => ?_)); (case hs => walk_at "sq"); (case hn => decide); (case he => rfl))
  | with_reducible refine' w_meth ?_
  | with_reducible refine' w_make ?_
  | with_reducible refine' w_mkb (fun x dx H1 n1 m1 d1 f1 g1 => ?_)
  | with_reducible refine' w_fldaug ?_
  | with_reducible refine' w_tru ?_
  | ((with_reducible refine' w_trl ?hh ?_); (case hh => walk_at "hp"))
  | with_reducible refine' w_whb ?_
  | with_reducible refine' w_chain ?_
  | with_reducible refine' w_tyIs ?_
  | with_reducible refine' w_raise ?_
  | with_reducible refine' w_rab ?_
  | with_reducible refine' w_jn ?_
  | with_reducible refine' w_js ?_
  | with_reducible refine' w_jsn ?_
  | with_reducible refine' w_fmt ?_
  | with_reducible refine' w_isN ?_
  | with_reducible refine' w_intB ?_
  | with_reducible refine' w_istr ?_
  | with_reducible refine' w_stb ?_
  | ((with_reducible refine' w_inT ?hs ?hx ?ha ?_); (case hs => walk_at "sq"); (case hx => rfl); (case ha => rfl))
  | ((with_reducible refine' w_isf ?hd ?_); (case hd => decide +kernel))
  | ((with_reducible refine' w_ist ?hd ?_); (case hd => decide +kernel))
  | with_reducible refine' w_enumT ?_
  | ((with_reducible refine' w_enb ?hs ?_); (case hs => walk_at "sq"))
  | with_reducible refine' w_star ?_
  | ((with_reducible refine' w_stT ?hs ?_); (case hs => walk_at "sq"))
  | ((with_reducible refine' w_stL ?hs ?_); (case hs => walk_at "sq"))
  | with_reducible refine' w_par ?_
  | ((with_reducible refine' w_parb ?he ?_); (case he => walk_at "lset"))
  | with_reducible refine' w_enumL ?_
  | ((with_reducible refine' w_enlb ?hs ?_); (case hs => walk_at "sq"))
  | with_reducible refine' w_revL ?_
  | ((with_reducible refine' w_revb ?hs (fun p H1 n1 f1 g1 => ?_)); (case hs => walk_at "sq"))
  | with_reducible refine' w_max2 ?_
  | with_reducible refine' w_min2 ?_
  | with_reducible refine' w_lrg2 ?_
  | with_reducible refine' w_scI ?_
  | fail "none")
local macro_rules | `(tactic| walk_at "wk") => `(tactic| repeat walk_at "wk1")

section
variable {P : Program} {w : World} {K : PySem.W.Frag} {mg : Str → Option Value} {base : Heap} {f : Addr} {fd : FuncData} {a : Ad}
theorem sc_parts_of : FnScope ["part"] ["part"] (defScope s_parts_of) := ⟨rfl, rfl, rfl, by decide +kernel, rfl, by decide +kernel, by decide +kernel⟩
theorem ok_partsG (F : Fun K "parts_of" "parts_of" s_parts_of f fd) (Z : Blt mg) (T : Txt K mg a) : FnOk P w K mg base CX0 1 f fd ["part"] spPartsG := by
  refine F.ok sc_parts_of (fun vs H Q E h => ?_) (fun cdv A outer s H vs Q E hr h => ?_)
  · obtain ⟨p, w, r, rfl, _⟩ := h
    rfl
  obtain ⟨p, w, r, rfl, hp, hz, k⟩ := h
  have tw := T.q_WORDS
  refine ⟨_, (pss_cons (ps_if (PW.pt (pw_or (pt_cmpR op_eq (pe_ix (r := rIxT K) ix_tup (pv 0) pe_int (fun _ _ => rfl)) pe_str (nomark _)) (pw_or1 (pt_cmpR (r := rIn K false) op_in_seq (pe_ix (r := rIxT K) ix_tup (pv 0) pe_int (fun _ _ => rfl)) (pe_globR rfl T.m_WORDS_WITH_TWO_PARTS) rfl)))) (pss_one (ps_ret (pe_slice (r := rSlT K) sl_tup (pv 0) (po_some pe_int) po_none))) pss_nil)
  (pss_one (ps_ret (pe_tup pa_nil)))), ?_⟩
  walk_at "st"
  walk_at "wk"
  refine w_ixT (SqT.of hp) (atI_nat (j := 0) rfl) ?_
  walk_at "wk"
  refine w_iteS (fun c => ?_) (fun c => ?_)
  · walk_at "wk"
    refine w_slT (SqT.of hp) (tail_not _ _) (cut_tail _ _) (fun q H1 n1 f1 g1 => ?_)
    exact k q H1 (by rw [g1, parts_yes (by rw [c]; decide +kernel)]) f1
  · walk_at "wk"
    refine w_ixT (SqT.of hp) (atI_nat (j := 0) rfl) ?_
    walk_at "wk"
    refine w_inT (tw _) rfl rfl ?_
    walk_at "wk"
    refine w_iteb (fun c2 => ?_) (fun c2 => ?_)
    · walk_at "wk"
      refine w_slT (SqT.of hp) (tail_not _ _) (cut_tail _ _) (fun q H1 n1 f1 g1 => ?_)
      refine k q H1 (by rw [g1, parts_yes]; simp [inV, eqV] at c2; rcases c2 with e | e | e <;> rw [← e] <;> decide +kernel) f1
    · walk_at "wk"
      rename_i q H1 n1 f1 g1
      refine k q H1 ?_ f1
      rw [g1, parts_no]
      intro m
      simp [partWords] at m
      rcases m with e | e | e | e
      · exact c e
      · rw [e] at c2; exact absurd c2 (by decide +kernel)
      · rw [e] at c2; exact absurd c2 (by decide +kernel)
      · rw [e] at c2; exact absurd c2 (by decide +kernel)
end
end My
namespace My
open PySem L2 Wk
local macro_rules | `(tactic| walk_at "hs") => `(tactic| first
  | assumption
  | (apply fr_st0; (case f => assumption); (case h => walk_at "hs"))
  | (apply fr_st1; (case f => assumption); (case n => walk_at "ne"); (case hw => first | assumption | exact List.mem_cons_self); (case h => walk_at "hs"))
  | fail "none")
local macro_rules | `(tactic| walk_at "nn") => `(tactic| first
  | (apply nn_st; (case n => assumption); (case h => walk_at "hs"))
  | (apply nn_l; (case n => assumption); (case h => walk_at "hp"))
  | (apply nn_d; (case n => assumption); (case h => walk_at "hp"))
  | (apply nn_i; (case n => assumption); (case h => walk_at "hp"))
  | fail "none")
local macro_rules | `(tactic| walk_at "su") => `(tactic| first
  | assumption
  | (apply fr_su; (case f => assumption); (case h => walk_at "su"))
  | fail "none")
local macro_rules | `(tactic| walk_at "as") => `(tactic| first
  | assumption
  | (apply fr_as; (case f => assumption); (case h => walk_at "as"))
  | fail "none")
local macro_rules | `(tactic| walk_at "ef") => `(tactic| first
  | assumption
  | (apply fr_ef0; (case f => assumption); (case h => walk_at "ef"))
  | (apply fr_ef; (case f => assumption); (case n1 => walk_at "ni"); (case n2 => walk_at "ni"); (case n3 => walk_at "ni"); (case h => walk_at "ef"))
  | fail "none")
local macro_rules | `(tactic| walk_at "td") => `(tactic| first
  | assumption
  | (apply fr_td0; (case f => assumption); (case h => walk_at "td"))
  | (apply fr_td; (case f => assumption); (case n1 => walk_at "ni"); (case n2 => walk_at "ni"); (case n3 => walk_at "ni"); (case h => walk_at "td"))
  | fail "none")
local macro_rules | `(tactic| walk_at "sk") => `(tactic| first
  | assumption
  | (apply fr_stk; (case f => assumption); (case a => walk_at "sk"))
  | fail "none")
local macro_rules | `(tactic| walk_at "al") => `(tactic| first
  | assumption
  | (apply fr_al; (case f => assumption); (case h => walk_at "al"))
  | fail "none")
local macro_rules | `(tactic| walk_at "nv") => `(tactic| first
  | assumption
  | (apply fr_nv; (case a => assumption); (case n => walk_at "ni"); (case h => walk_at "nv"))
  | fail "none")
local macro_rules | `(tactic| walk_at "ne") => `(tactic| first
  | assumption
  | (apply Ne.symm; assumption)
  | walk_at "nn"
  | (apply Ne.symm; walk_at "nn")
  | fail "none")
local macro_rules | `(tactic| walk_at "ni") => `(tactic| first
  | exact List.not_mem_nil
  | (apply ni1; walk_at "ne")
  | (apply ni2 <;> walk_at "ne")
  | (apply ni3 <;> walk_at "ne")
  | fail "none")
local macro_rules | `(tactic| walk_at "hp") => `(tactic| first
  | assumption
  | (apply Fr.gett; (case a => assumption); (case h => walk_at "hp"))
  | (apply Fr.getl; (case a => assumption); (case n => walk_at "ni"); (case h => walk_at "hp"))
  | (apply Fr.getd; (case a => assumption); (case n => walk_at "ni"); (case h => walk_at "hp"))
  | (apply Fr.geti; (case a => assumption); (case n => walk_at "ni"); (case h => walk_at "hp"))
  | fail "none")
local macro_rules | `(tactic| walk_at "sqs") => `(tactic| first
  | assumption
  | (apply Fr.sqln; (case a => assumption); (case n => walk_at "ni"); (case h => walk_at "sqs"))
  | fail "none")
local macro_rules | `(tactic| walk_at "sq") => `(tactic| first
  | assumption
  | (apply SqL.of; walk_at "hp")
  | (apply SqT.of; walk_at "hp")
  | walk_at "sqs"
  | fail "none")
local macro_rules | `(tactic| walk_at "fr") => `(tactic| first
  | exact Fr.refl
  | assumption
  | (apply Fr.mono; (case a => assumption); (case h => simp))
  | (apply fr_last; (case f => assumption); (case w => simp); (case g => walk_at "fr"))
  | fail "none")
local macro_rules | `(tactic| walk_at "st") => `(tactic| ((try dsimp only [cxOf, Cx.nox, Cx.wish]); (try simp only [L2.start, List.map_cons, List.map_nil, List.length_cons, List.length_nil, List.replicate, List.cons_append, List.nil_append, Nat.reduceAdd, Nat.reduceSub])))
local macro_rules | `(tactic| walk_at "lset") => `(tactic| (simp only [wipe, List.map_cons, List.map_nil, Int.reduceToNat, List.set_cons_zero, List.set_cons_succ] <;> rfl))
local macro_rules | `(tactic| walk_at "wk1") => `(tactic| first
  | with_reducible refine' w_seq ?_
  | with_reducible refine' w_asg ?_
  | ((with_reducible refine' w_name ?hs ?_); (case hs => walk_at "lset"))
  | ((with_reducible refine' w_var ?hv ?_); (case hv => rfl))
  | with_reducible refine' w_c ?_
  | with_reducible refine' w_op ?_
  | with_reducible refine' w_un ?_
  | with_reducible refine' w_test ?_
  | with_reducible refine' w_tB ?_
  | with_reducible refine' w_exbl ?_
  | with_reducible refine' w_exint ?_
  | with_reducible refine' w_t ?_
  | with_reducible refine' w_f ?_
  | with_reducible refine' w_ifS ?_
  | with_reducible refine' w_if ?_
  | with_reducible refine' w_and ?_
  | with_reducible refine' w_or ?_
  | with_reducible refine' w_not ?_
  | with_reducible refine' w_andV ?_
  | with_reducible refine' w_orV ?_
  | with_reducible refine' w_notV ?_
  | with_reducible refine' w_ret ?_
  | with_reducible refine' w_retN ?_
  | with_reducible refine' w_drop ?_
  | with_reducible refine' w_next ?_
  | with_reducible refine' w_nil ?_
  | with_reducible refine' w_cons ?_
  | with_reducible refine' w_cb ?_
  | with_reducible refine' w_call ?_
  | with_reducible refine' w_gsub ?_
  | with_reducible refine' w_gnil ?_
  | with_reducible refine' w_gcons ?_
  | ((with_reducible refine' w_gtup ?hs ?hn ?_); (case hs => walk_at "sq"); (case hn => rfl))
  | with_reducible refine' w_fld ?_
  | with_reducible refine' w_tfld ?_
  | with_reducible refine' w_sl ?_
  | with_reducible refine' w_nopart ?_
  | with_reducible refine' w_part ?_
  | with_reducible refine' w_bm ?_
  | with_reducible refine' w_bm0 ?_
  | with_reducible refine' w_yes ?_
  | with_reducible refine' w_tup ?_
  | with_reducible refine' w_lst ?_
  | with_reducible refine' w_I0 ?_
  | ((with_reducible refine' w_I ?hc ?_); (case hc => (first | (show (0 : Int) < _; first | decide | omega | assumption) | exact wide_div (by first | assumption | decide) (b := 200) (by first | assumption | decide) (by decide) (by decide) | exact wide_mul (a := 64) (b := 64) (by omega) (by omega) (by decide) (by decide) (by decide) | exact ⟨by decide, by decide, by decide⟩)))
  | ((with_reducible refine' w_eq ?he ?_); (case he => rfl))
  | ((with_reducible refine' w_ne ?he ?_); (case he => rfl))
  | ((with_reducible refine' w_ixL ?hs ?ha ?_); (case hs => walk_at "sq"); (case ha => rfl))
  | ((with_reducible refine' w_ixT ?hs ?ha ?_); (case hs => walk_at "sq"); (case ha => rfl))
  | ((with_reducible refine' w_lenL ?hs ?he ?_); (case hs => walk_at "sq"); (case he => first | (simp only [List.length_cons, List.length_nil, List.length_map]; rfl) | rfl))
  | ((with_reducible refine' w_lenT ?hs ?he ?_); (case hs => walk_at "sq"); (case he => first | (simp only [List.length_cons, List.length_nil, List.length_map]; rfl) | rfl))
  | ((with_reducible refine' w_setL ?hh ?hk ?he (fun H1 f1 g1 => ?_)); (case hh => walk_at "hp"); (case hk => rfl); (case he => walk_at "lset"))
  | ((with_reducible refine' w_newT ?hl (fun p H1 n1 f1 g1 => ?_)); (case hl => (first | decide | (simp only [List.length_cons, List.length_nil]; decide))))
  | ((with_reducible refine' w_newL ?hl (fun p H1 n1 f1 g1 => ?_)); (case hl => (first | decide | (simp only [List.length_cons, List.length_nil]; decide))))
  | with_reducible refine' w_for ?_
  | with_reducible refine' w_ilist ?_
  | ((with_reducible refine' w_ilb ?hs ?_); (case hs => walk_at "sq"))
  | with_reducible refine' w_itup ?_
  | ((with_reducible refine' w_itb ?hs ?_); (case hs => walk_at "sq"))
  | with_reducible refine' w_rng1 ?_
  | ((with_reducible refine' w_rgb1 ?h0 ?h1 ?_); (case h0 => first | decide | omega); (case h1 => first | decide | omega))
  | with_reducible refine' w_lc ?_
  | ((with_reducible refine' w_wipe ?hw ?_); (case hw => rfl))
  | ((with_reducible refine' w_cat ?ha ?hb ?hl (fun p H1 n1 f1 g1 => ?_)); (case ha => walk_at "hp"); (case hb => walk_at "hp"); (case hl => (first | decide | (simp only [List.length_cons, List.length_nil]; decide))))
  | with_reducible refine' w_dget ?_
  | with_reducible refine' w_din ?_
  | with_reducible refine' w_dnotin ?_
  | with_reducible refine' w_dput ?_
  | with_reducible refine' w_dnew ?_
  | with_reducible refine' w_newD (fun p H1 n1 f1 g1 => ?_)
  | ((with_reducible refine' w_slT ?hs ?hn ?he (fun p H1 n1 f1 g1 => ?_)); (case hs => walk_at "sq"); (case hn => decide); (case he => rfl))
  | with_reducible refine' w_meth ?_
  | with_reducible refine' w_make ?_
  | with_reducible refine' w_mkb (fun x dx H1 n1 m1 d1 f1 g1 => ?_)
  | with_reducible refine' w_fldaug ?_
  | with_reducible refine' w_tru ?_
  | ((with_reducible refine' w_trl ?hh ?_); (case hh => walk_at "hp"))
  | with_reducible refine' w_whb ?_
  | with_reducible refine' w_chain ?_
  | with_reducible refine' w_tyIs ?_
  | with_reducible refine' w_raise ?_
  | with_reducible refine' w_rab ?_
  | with_reducible refine' w_jn ?_
  | with_reducible refine' w_js ?_
  | with_reducible refine' w_jsn ?_
  | with_reducible refine' w_fmt ?_
  | with_reducible refine' w_isN ?_
  | with_reducible refine' w_intB ?_
  | with_reducible refine' w_istr ?_
  | with_reducible refine' w_stb ?_
  | ((with_reducible refine' w_inT ?hs ?hx ?ha ?_); (case hs => walk_at "sq"); (case hx => rfl); (case ha => rfl))
  | ((with_reducible refine' w_isf ?hd ?_); (case hd => decide +kernel))
  | ((with_reducible refine' w_ist ?hd ?_); (case hd => decide +kernel))
  | with_reducible refine' w_enumT ?_
  | ((with_reducible refine' w_enb ?hs ?_); (case hs => walk_at "sq"))
  | with_reducible refine' w_star ?_
  | ((with_reducible refine' w_stT ?hs ?_); (case hs => walk_at "sq"))
  | ((with_reducible refine' w_stL ?hs ?_); (case hs => walk_at "sq"))
  | with_reducible refine' w_par ?_
  | ((with_reducible refine' w_parb ?he ?_); (case he => walk_at "lset"))
  | with_reducible refine' w_enumL ?_
  | ((with_reducible refine' w_enlb ?hs ?_); (case hs => walk_at "sq"))
  | with_reducible refine' w_revL ?_
  | ((with_reducible refine' w_revb ?hs (fun p H1 n1 f1 g1 => ?_)); (case hs => walk_at "sq"))
  | with_reducible refine' w_max2 ?_
  | with_reducible refine' w_min2 ?_
  | with_reducible refine' w_lrg2 ?_
  | with_reducible refine' w_scI ?_
  | fail "none")
local macro_rules | `(tactic| walk_at "wk") => `(tactic| repeat walk_at "wk1")

section
variable {P : Program} {w : World} {K : PySem.W.Frag} {mg : Str → Option Value} {base : Heap} {f : Addr} {fd : FuncData} {a : Ad}
theorem sc_filled_with : FnScope ["part", "filling"] ["part", "filling"] (defScope s_filled_with) := ⟨rfl, rfl, rfl, by decide +kernel, rfl, by decide +kernel, by decide +kernel⟩
theorem ok_filled (F : Fun K "filled_with" "filled_with" s_filled_with f fd) (Z : Blt mg) : FnOk P w K mg base CX0 1 f fd ["part", "filling"] spFilled := by
  refine F.ok sc_filled_with (fun vs H Q E h => ?_) (fun cdv A outer s H vs Q E hr h => ?_)
  · obtain ⟨p, q, xs, ys, rfl, _⟩ := h
    rfl
  obtain ⟨p, q, xs, ys, rfl, hp, hx, hxl, hq, hyl, k⟩ := h
  refine ⟨_, (pss_cons (ps_if (pt_cmpR op_eq (pe_callB (id := "len") (r := rLenW K) call_lenN (by rfl) Z.len PySem.boot_len (pa_cons (pv 1) pa_nil)) pe_int (nomark _)) (pss_one (ps_ret (pv 0))) pss_nil)
  (pss_one (ps_ret (pe_tup (pa_cons (pe_ix (r := rIxT K) ix_tup (pv 0) pe_int (fun _ _ => rfl)) (StX.pa_star (pv 1) pa_nil)))))), ?_⟩
  obtain ⟨c, r, rfl⟩ : ∃ c r, xs = c :: r := by
    cases xs with
    | nil => exact absurd rfl hx
    | cons c r => exact ⟨c, r, rfl⟩
  walk_at "st"
  walk_at "wk"
  refine w_iteI (fun h0 => ?_) (fun h0 => ?_)
  · walk_at "wk"
    have e : ys = [] := List.length_eq_zero_iff.mp (by omega)
    subst e
    exact k p H hp .refl
  · walk_at "wk"
    refine w_ixT (SqT.of hp) (atI_nat (j := 0) rfl) ?_
    walk_at "wk"
    refine w_newT (by simp only [List.length_cons, List.length_append, List.length_nil]; omega) (fun d H1 n1 f1 g1 => ?_)
    refine k d H1 ?_ f1
    rw [g1]
    cases ys with
    | nil => exact absurd rfl h0
    | cons y r => simp [fillV]
end
end My
namespace My
open PySem L2 Wk
local macro_rules | `(tactic| walk_at "hs") => `(tactic| first
  | assumption
  | (apply fr_st0; (case f => assumption); (case h => walk_at "hs"))
  | (apply fr_st1; (case f => assumption); (case n => walk_at "ne"); (case hw => first | assumption | exact List.mem_cons_self); (case h => walk_at "hs"))
  | fail "none")
local macro_rules | `(tactic| walk_at "nn") => `(tactic| first
  | (apply nn_st; (case n => assumption); (case h => walk_at "hs"))
  | (apply nn_l; (case n => assumption); (case h => walk_at "hp"))
  | (apply nn_d; (case n => assumption); (case h => walk_at "hp"))
  | (apply nn_i; (case n => assumption); (case h => walk_at "hp"))
  | fail "none")
local macro_rules | `(tactic| walk_at "su") => `(tactic| first
  | assumption
  | (apply fr_su; (case f => assumption); (case h => walk_at "su"))
  | fail "none")
local macro_rules | `(tactic| walk_at "as") => `(tactic| first
  | assumption
  | (apply fr_as; (case f => assumption); (case h => walk_at "as"))
  | fail "none")
local macro_rules | `(tactic| walk_at "ef") => `(tactic| first
  | assumption
  | (apply fr_ef0; (case f => assumption); (case h => walk_at "ef"))
  | (apply fr_ef; (case f => assumption); (case n1 => walk_at "ni"); (case n2 => walk_at "ni"); (case n3 => walk_at "ni"); (case h => walk_at "ef"))
  | fail "none")
local macro_rules | `(tactic| walk_at "td") => `(tactic| first
  | assumption
  | (apply fr_td0; (case f => assumption); (case h => walk_at "td"))
  | (apply fr_td; (case f => assumption); (case n1 => walk_at "ni"); (case n2 => walk_at "ni"); (case n3 => walk_at "ni"); (case h => walk_at "td"))
  | fail "none")
local macro_rules | `(tactic| walk_at "sk") => `(tactic| first
  | assumption
  | (apply fr_stk; (case f => assumption); (case a => walk_at "sk"))
  | fail "none")
local macro_rules | `(tactic| walk_at "al") => `(tactic| first
  | assumption
  | (apply fr_al; (case f => assumption); (case h => walk_at "al"))
  | fail "none")
local macro_rules | `(tactic| walk_at "nv") => `(tactic| first
  | assumption
  | (apply fr_nv; (case a => assumption); (case n => walk_at "ni"); (case h => walk_at "nv"))
  | fail "none")
local macro_rules | `(tactic| walk_at "ne") => `(tactic| first
  | assumption
  | (apply Ne.symm; assumption)
  | walk_at "nn"
  | (apply Ne.symm; walk_at "nn")
  | fail "none")
local macro_rules | `(tactic| walk_at "ni") => `(tactic| first
  | exact List.not_mem_nil
  | (apply ni1; walk_at "ne")
  | (apply ni2 <;> walk_at "ne")
  | (apply ni3 <;> walk_at "ne")
  | fail "none")
local macro_rules | `(tactic| walk_at "hp") => `(tactic| first
  | assumption
  | (apply Fr.gett; (case a => assumption); (case h => walk_at "hp"))
  | (apply Fr.getl; (case a => assumption); (case n => walk_at "ni"); (case h => walk_at "hp"))
  | (apply Fr.getd; (case a => assumption); (case n => walk_at "ni"); (case h => walk_at "hp"))
  | (apply Fr.geti; (case a => assumption); (case n => walk_at "ni"); (case h => walk_at "hp"))
  | fail "none")
local macro_rules | `(tactic| walk_at "sqs") => `(tactic| first
  | assumption
  | (apply Fr.sqln; (case a => assumption); (case n => walk_at "ni"); (case h => walk_at "sqs"))
  | fail "none")
local macro_rules | `(tactic| walk_at "sq") => `(tactic| first
  | assumption
  | (apply SqL.of; walk_at "hp")
  | (apply SqT.of; walk_at "hp")
  | walk_at "sqs"
  | fail "none")
local macro_rules | `(tactic| walk_at "fr") => `(tactic| first
  | exact Fr.refl
  | assumption
  | (apply Fr.mono; (case a => assumption); (case h => simp))
  | (apply fr_last; (case f => assumption); (case w => simp); (case g => walk_at "fr"))
  | fail "none")
local macro_rules | `(tactic| walk_at "st") => `(tactic| ((try dsimp only [cxOf, Cx.nox, Cx.wish]); (try simp only [L2.start, List.map_cons, List.map_nil, List.length_cons, List.length_nil, List.replicate, List.cons_append, List.nil_append, Nat.reduceAdd, Nat.reduceSub])))
local macro_rules | `(tactic| walk_at "lset") => `(tactic| (simp only [wipe, List.map_cons, List.map_nil, Int.reduceToNat, List.set_cons_zero, List.set_cons_succ] <;> rfl))
local macro_rules | `(tactic| walk_at "wk1") => `(tactic| first
  | with_reducible refine' w_seq ?_
  | with_reducible refine' w_asg ?_
  | ((with_reducible refine' w_name ?hs ?_); (case hs => walk_at "lset"))
  | ((with_reducible refine' w_var ?hv ?_); (case hv => rfl))
  | with_reducible refine' w_c ?_
  | with_reducible refine' w_op ?_
  | with_reducible refine' w_un ?_
  | with_reducible refine' w_test ?_
  | with_reducible refine' w_tB ?_
  | with_reducible refine' w_exbl ?_
  | with_reducible refine' w_exint ?_
  | with_reducible refine' w_t ?_
  | with_reducible refine' w_f ?_
  | with_reducible refine' w_ifS ?_
  | with_reducible refine' w_if ?_
  | with_reducible refine' w_and ?_
  | with_reducible refine' w_or ?_
  | with_reducible refine' w_not ?_
  | with_reducible refine' w_andV ?_
  | with_reducible refine' w_orV ?_
  | with_reducible refine' w_notV ?_
  | with_reducible refine' w_ret ?_
  | with_reducible refine' w_retN ?_
  | with_reducible refine' w_drop ?_
  | with_reducible refine' w_next ?_
  | with_reducible refine' w_nil ?_
  | with_reducible refine' w_cons ?_
  | with_reducible refine' w_cb ?_
  | with_reducible refine' w_call ?_
  | with_reducible refine' w_gsub ?_
  | with_reducible refine' w_gnil ?_
  | with_reducible refine' w_gcons ?_
  | ((with_reducible refine' w_gtup ?hs ?hn ?_); (case hs => walk_at "sq"); (case hn => rfl))
  | with_reducible refine' w_fld ?_
  | with_reducible refine' w_tfld ?_
  | with_reducible refine' w_sl ?_
  | with_reducible refine' w_nopart ?_
  | with_reducible refine' w_part ?_
  | with_reducible refine' w_bm ?_
  | with_reducible refine' w_bm0 ?_
  | with_reducible refine' w_yes ?_
  | with_reducible refine' w_tup ?_
  | with_reducible refine' w_lst ?_
  | with_reducible refine' w_I0 ?_
  | ((with_reducible refine' w_I ?hc ?_); (case hc => (first | (show (0 : Int) < _; first | decide | omega | assumption) | exact wide_div (by first | assumption | decide) (b := 200) (by first | assumption | decide) (by decide) (by decide) | exact wide_mul (a := 64) (b := 64) (by omega) (by omega) (by decide) (by decide) (by decide) | exact ⟨by decide, by decide, by decide⟩)))
  | ((with_reducible refine' w_eq ?he ?_); (case he => rfl))
  | ((with_reducible refine' w_ne ?he ?_); (case he => rfl))
  | ((with_reducible refine' w_ixL ?hs ?ha ?_); (case hs => walk_at "sq"); (case ha => rfl))
  | ((with_reducible refine' w_ixT ?hs ?ha ?_); (case hs => walk_at "sq"); (case ha => rfl))
  | ((with_reducible refine' w_lenL ?hs ?he ?_); (case hs => walk_at "sq"); (case he => first | (simp only [List.length_cons, List.length_nil, List.length_map]; rfl) | rfl))
  | ((with_reducible refine' w_lenT ?hs ?he ?_); (case hs => walk_at "sq"); (case he => first | (simp only [List.length_cons, List.length_nil, List.length_map]; rfl) | rfl))
  | ((with_reducible refine' w_setL ?hh ?hk ?he (fun H1 f1 g1 => ?_)); (case hh => walk_at "hp"); (case hk => rfl); (case he => walk_at "lset"))
  | ((with_reducible refine' w_newT ?hl (fun p H1 n1 f1 g1 => ?_)); (case hl => (first | decide | (simp only [List.length_cons, List.length_nil]; decide))))
  | ((with_reducible refine' w_newL ?hl (fun p H1 n1 f1 g1 => ?_)); (case hl => (first | decide | (simp only [List.length_cons, List.length_nil]; decide))))
  | with_reducible refine' w_for ?_
  | with_reducible refine' w_ilist ?_
  | ((with_reducible refine' w_ilb ?hs ?_); (case hs => walk_at "sq"))
  | with_reducible refine' w_itup ?_
  | ((with_reducible refine' w_itb ?hs ?_); (case hs => walk_at "sq"))
  | with_reducible refine' w_rng1 ?_
  | ((with_reducible refine' w_rgb1 ?h0 ?h1 ?_); (case h0 => first | decide | omega); (case h1 => first | decide | omega))
  | with_reducible refine' w_lc ?_
  | ((with_reducible refine' w_wipe ?hw ?_); (case hw => rfl))
  | ((with_reducible refine' w_cat ?ha ?hb ?hl (fun p H1 n1 f1 g1 => ?_)); (case ha => walk_at "hp"); (case hb => walk_at "hp"); (case hl => (first | decide | (simp only [List.length_cons, List.length_nil]; decide))))
  | with_reducible refine' w_dget ?_
  | with_reducible refine' w_din ?_
  | with_reducible refine' w_dnotin ?_
  | with_reducible refine' w_dput ?_
  | with_reducible refine' w_dnew ?_
  | with_reducible refine' w_newD (fun p H1 n1 f1 g1 => ?_)
  | ((with_reducible refine' w_slT ?hs ?hn ?he (fun p H1 n1 f1 g1 => ?_)); (case hs => walk_at "sq"); (case hn => decide); (case he => rfl))
  | with_reducible refine' w_meth ?_
  | with_reducible refine' w_make ?_
  | with_reducible refine' w_mkb (fun x dx H1 n1 m1 d1 f1 g1 => ?_)
  | with_reducible refine' w_fldaug ?_
  | with_reducible refine' w_tru ?_
  | ((with_reducible refine' w_trl ?hh ?_); (case hh => walk_at "hp"))
  | with_reducible refine' w_whb ?_
  | with_reducible refine' w_chain ?_
  | with_reducible refine' w_tyIs ?_
  | with_reducible refine' w_raise ?_
  | with_reducible refine' w_rab ?_
  | with_reducible refine' w_jn ?_
  | with_reducible refine' w_js ?_
  | with_reducible refine' w_jsn ?_
  | with_reducible refine' w_fmt ?_
  | with_reducible refine' w_isN ?_
  | with_reducible refine' w_intB ?_
  | with_reducible refine' w_istr ?_
  | with_reducible refine' w_stb ?_
  | ((with_reducible refine' w_inT ?hs ?hx ?ha ?_); (case hs => walk_at "sq"); (case hx => rfl); (case ha => rfl))
  | ((with_reducible refine' w_isf ?hd ?_); (case hd => decide +kernel))
  | ((with_reducible refine' w_ist ?hd ?_); (case hd => decide +kernel))
  | with_reducible refine' w_enumT ?_
  | ((with_reducible refine' w_enb ?hs ?_); (case hs => walk_at "sq"))
  | with_reducible refine' w_star ?_
  | ((with_reducible refine' w_stT ?hs ?_); (case hs => walk_at "sq"))
  | ((with_reducible refine' w_stL ?hs ?_); (case hs => walk_at "sq"))
  | with_reducible refine' w_par ?_
  | ((with_reducible refine' w_parb ?he ?_); (case he => walk_at "lset"))
  | with_reducible refine' w_enumL ?_
  | ((with_reducible refine' w_enlb ?hs ?_); (case hs => walk_at "sq"))
  | with_reducible refine' w_revL ?_
  | ((with_reducible refine' w_revb ?hs (fun p H1 n1 f1 g1 => ?_)); (case hs => walk_at "sq"))
  | with_reducible refine' w_max2 ?_
  | with_reducible refine' w_min2 ?_
  | with_reducible refine' w_lrg2 ?_
  | with_reducible refine' w_scI ?_
  | fail "none")
local macro_rules | `(tactic| walk_at "wk") => `(tactic| repeat walk_at "wk1")

section
variable {P : Program} {w : World} {K : PySem.W.Frag} {mg : Str → Option Value} {base : Heap} {f : Addr} {fd : FuncData} {a : Ad}
theorem sc_is_effect : FnScope ["part"] ["part"] (defScope s_is_effect) := ⟨rfl, rfl, rfl, by decide +kernel, rfl, by decide +kernel, by decide +kernel⟩
theorem ok_isEffG (F : Fun K "is_effect" "is_effect" s_is_effect f fd) (Z : Blt mg) : FnOk P w K mg base CX0 1 f fd ["part"] spIsEffG := by
  refine F.ok sc_is_effect (fun vs H Q E h => ?_) (fun cdv A outer s H vs Q E hr h => ?_)
  · obtain ⟨p, w0, r, rfl, _⟩ := h
    rfl
  obtain ⟨p, w0, r, rfl, hp, k⟩ := h
  refine ⟨_, (pss_one (ps_ret (pe_or (pe_cmpR op_eq (pe_ix (r := rIxT K) ix_tup (pv 0) pe_int (fun _ _ => rfl)) pe_str (nomark _)) (pe_one (pe_cmpR op_eq (pe_ix (r := rIxT K) ix_tup (pv 0) pe_int (fun _ _ => rfl)) pe_str (nomark _)))))), ?_⟩
  walk_at "st"
  walk_at "wk"
  refine w_ixT (SqT.of hp) (atI_nat (j := 0) rfl) ?_
  walk_at "wk"
  by_cases e : w0 = "say"
  · refine w_ist (show decide (V.str w0 = V.str "say") = true by rw [e]; exact decide_eq_true rfl) ?_
    walk_at "wk"
    exact qbl' (k H .refl) (by rw [decide_eq_true e]; simp [e])
  · refine w_isf (show decide (V.str w0 = V.str "say") = false from decide_eq_false fun q => e (by injection q)) ?_
    walk_at "wk"
    refine w_ixT (SqT.of hp) (atI_nat (j := 0) rfl) ?_
    walk_at "wk"
    refine qbl' (k H .refl) ?_
    rw [decide_eq_false e, Bool.false_or]
    exact decide_eq_decide.mpr ⟨fun q => by rw [q], fun q => by injection q⟩
end
end My
namespace My
open PySem L2 Wk
local macro_rules | `(tactic| walk_at "hs") => `(tactic| first
  | assumption
  | (apply fr_st0; (case f => assumption); (case h => walk_at "hs"))
  | (apply fr_st1; (case f => assumption); (case n => walk_at "ne"); (case hw => first | assumption | exact List.mem_cons_self); (case h => walk_at "hs"))
  | fail "none")
local macro_rules | `(tactic| walk_at "nn") => `(tactic| first
  | (apply nn_st; (case n => assumption); (case h => walk_at "hs"))
  | (apply nn_l; (case n => assumption); (case h => walk_at "hp"))
  | (apply nn_d; (case n => assumption); (case h => walk_at "hp"))
  | (apply nn_i; (case n => assumption); (case h => walk_at "hp"))
  | fail "none")
local macro_rules | `(tactic| walk_at "su") => `(tactic| first
  | assumption
  | (apply fr_su; (case f => assumption); (case h => walk_at "su"))
  | fail "none")
local macro_rules | `(tactic| walk_at "as") => `(tactic| first
  | assumption
  | (apply fr_as; (case f => assumption); (case h => walk_at "as"))
  | fail "none")
local macro_rules | `(tactic| walk_at "ef") => `(tactic| first
  | assumption
  | (apply fr_ef0; (case f => assumption); (case h => walk_at "ef"))
  | (apply fr_ef; (case f => assumption); (case n1 => walk_at "ni"); (case n2 => walk_at "ni"); (case n3 => walk_at "ni"); (case h => walk_at "ef"))
  | fail "none")
local macro_rules | `(tactic| walk_at "td") => `(tactic| first
  | assumption
  | (apply fr_td0; (case f => assumption); (case h => walk_at "td"))
  | (apply fr_td; (case f => assumption); (case n1 => walk_at "ni"); (case n2 => walk_at "ni"); (case n3 => walk_at "ni"); (case h => walk_at "td"))
  | fail "none")
local macro_rules | `(tactic| walk_at "sk") => `(tactic| first
  | assumption
  | (apply fr_stk; (case f => assumption); (case a => walk_at "sk"))
  | fail "none")
local macro_rules | `(tactic| walk_at "al") => `(tactic| first
  | assumption
  | (apply fr_al; (case f => assumption); (case h => walk_at "al"))
  | fail "none")
local macro_rules | `(tactic| walk_at "nv") => `(tactic| first
  | assumption
  | (apply fr_nv; (case a => assumption); (case n => walk_at "ni"); (case h => walk_at "nv"))
  | fail "none")
local macro_rules | `(tactic| walk_at "ne") => `(tactic| first
  | assumption
  | (apply Ne.symm; assumption)
  | walk_at "nn"
  | (apply Ne.symm; walk_at "nn")
  | fail "none")
local macro_rules | `(tactic| walk_at "ni") => `(tactic| first
  | exact List.not_mem_nil
  | (apply ni1; walk_at "ne")
  | (apply ni2 <;> walk_at "ne")
  | (apply ni3 <;> walk_at "ne")
  | fail "none")
local macro_rules | `(tactic| walk_at "hp") => `(tactic| first
  | assumption
  | (apply Fr.gett; (case a => assumption); (case h => walk_at "hp"))
  | (apply Fr.getl; (case a => assumption); (case n => walk_at "ni"); (case h => walk_at "hp"))
  | (apply Fr.getd; (case a => assumption); (case n => walk_at "ni"); (case h => walk_at "hp"))
  | (apply Fr.geti; (case a => assumption); (case n => walk_at "ni"); (case h => walk_at "hp"))
  | fail "none")
local macro_rules | `(tactic| walk_at "sqs") => `(tactic| first
  | assumption
  | (apply Fr.sqln; (case a => assumption); (case n => walk_at "ni"); (case h => walk_at "sqs"))
  | fail "none")
local macro_rules | `(tactic| walk_at "sq") => `(tactic| first
  | assumption
  | (apply SqL.of; walk_at "hp")
  | (apply SqT.of; walk_at "hp")
  | walk_at "sqs"
  | fail "none")
local macro_rules | `(tactic| walk_at "fr") => `(tactic| first
  | exact Fr.refl
  | assumption
  | (apply Fr.mono; (case a => assumption); (case h => simp))
  | (apply fr_last; (case f => assumption); (case w => simp); (case g => walk_at "fr"))
  | fail "none")
local macro_rules | `(tactic| walk_at "st") => `(tactic| ((try dsimp only [cxOf, Cx.nox, Cx.wish]); (try simp only [L2.start, List.map_cons, List.map_nil, List.length_cons, List.length_nil, List.replicate, List.cons_append, List.nil_append, Nat.reduceAdd, Nat.reduceSub])))
local macro_rules | `(tactic| walk_at "lset") => `(tactic| (simp only [wipe, List.map_cons, List.map_nil, Int.reduceToNat, List.set_cons_zero, List.set_cons_succ] <;> rfl))
local macro_rules | `(tactic| walk_at "wk1") => `(tactic| first
  | with_reducible refine' w_seq ?_
  | with_reducible refine' w_asg ?_
  | ((with_reducible refine' w_name ?hs ?_); (case hs => walk_at "lset"))
  | ((with_reducible refine' w_var ?hv ?_); (case hv => rfl))
  | with_reducible refine' w_c ?_
  | with_reducible refine' w_op ?_
  | with_reducible refine' w_un ?_
  | with_reducible refine' w_test ?_
  | with_reducible refine' w_tB ?_
  | with_reducible refine' w_exbl ?_
  | with_reducible refine' w_exint ?_
  | with_reducible refine' w_t ?_
  | with_reducible refine' w_f ?_
  | with_reducible refine' w_ifS ?_
  | with_reducible refine' w_if ?_
  | with_reducible refine' w_and ?_
  | with_reducible refine' w_or ?_
  | with_reducible refine' w_not ?_
  | with_reducible refine' w_andV ?_
  | with_reducible refine' w_orV ?_
  | with_reducible refine' w_notV ?_
  | with_reducible refine' w_ret ?_
  | with_reducible refine' w_retN ?_
  | with_reducible refine' w_drop ?_
  | with_reducible refine' w_next ?_
  | with_reducible refine' w_nil ?_
  | with_reducible refine' w_cons ?_
  | with_reducible refine' w_cb ?_
  | with_reducible refine' w_call ?_
  | with_reducible refine' w_gsub ?_
  | with_reducible refine' w_gnil ?_
  | with_reducible refine' w_gcons ?_
  | ((with_reducible refine' w_gtup ?hs ?hn ?_); (case hs => walk_at "sq"); (case hn => rfl))
  | with_reducible refine' w_fld ?_
  | with_reducible refine' w_tfld ?_
  | with_reducible refine' w_sl ?_
  | with_reducible refine' w_nopart ?_
  | with_reducible refine' w_part ?_
  | with_reducible refine' w_bm ?_
  | with_reducible refine' w_bm0 ?_
  | with_reducible refine' w_yes ?_
  | with_reducible refine' w_tup ?_
  | with_reducible refine' w_lst ?_
  | with_reducible refine' w_I0 ?_
  | ((with_reducible refine' w_I ?hc ?_); (case hc => (first | (show (0 : Int) < _; first | decide | omega | assumption) | exact wide_div (by first | assumption | decide) (b := 200) (by first | assumption | decide) (by decide) (by decide) | exact wide_mul (a := 64) (b := 64) (by omega) (by omega) (by decide) (by decide) (by decide) | exact ⟨by decide, by decide, by decide⟩)))
  | ((with_reducible refine' w_eq ?he ?_); (case he => rfl))
  | ((with_reducible refine' w_ne ?he ?_); (case he => rfl))
  | ((with_reducible refine' w_ixL ?hs ?ha ?_); (case hs => walk_at "sq"); (case ha => rfl))
  | ((with_reducible refine' w_ixT ?hs ?ha ?_); (case hs => walk_at "sq"); (case ha => rfl))
  | ((with_reducible refine' w_lenL ?hs ?he ?_); (case hs => walk_at "sq"); (case he => first | (simp only [List.length_cons, List.length_nil, List.length_map]; rfl) | rfl))
  | ((with_reducible refine' w_lenT ?hs ?he ?_); (case hs => walk_at "sq"); (case he => first | (simp only [List.length_cons, List.length_nil, List.length_map]; rfl) | rfl))
  | ((with_reducible refine' w_setL ?hh ?hk ?he (fun H1 f1 g1 => ?_)); (case hh => walk_at "hp"); (case hk => rfl); (case he => walk_at "lset"))
  | ((with_reducible refine' w_newT ?hl (fun p H1 n1 f1 g1 => ?_)); (case hl => (first | decide | (simp only [List.length_cons, List.length_nil]; decide))))
  | ((with_reducible refine' w_newL ?hl (fun p H1 n1 f1 g1 => ?_)); (case hl => (first | decide | (simp only [List.length_cons, List.length_nil]; decide))))
  | with_reducible refine' w_for ?_
  | with_reducible refine' w_ilist ?_
  | ((with_reducible refine' w_ilb ?hs ?_); (case hs => walk_at "sq"))
  | with_reducible refine' w_itup ?_
  | ((with_reducible refine' w_itb ?hs ?_); (case hs => walk_at "sq"))
  | with_reducible refine' w_rng1 ?_
  | ((with_reducible refine' w_rgb1 ?h0 ?h1 ?_); (case h0 => first | decide | omega); (case h1 => first | decide | omega))
  | with_reducible refine' w_lc ?_
  | ((with_reducible refine' w_wipe ?hw ?_); (case hw => rfl))
  | ((with_reducible refine' w_cat ?ha ?hb ?hl (fun p H1 n1 f1 g1 => ?_)); (case ha => walk_at "hp"); (case hb => walk_at "hp"); (case hl => (first | decide | (simp only [List.length_cons, List.length_nil]; decide))))
  | with_reducible refine' w_dget ?_
  | with_reducible refine' w_din ?_
  | with_reducible refine' w_dnotin ?_
  | with_reducible refine' w_dput ?_
  | with_reducible refine' w_dnew ?_
  | with_reducible refine' w_newD (fun p H1 n1 f1 g1 => ?_)
  | ((with_reducible refine' w_slT ?hs ?hn ?he (fun p H1 n1 f1 g1 => ?_)); (case hs => walk_at "sq"); (case hn => decide); (case he => rfl))
  | with_reducible refine' w_meth ?_
  | with_reducible refine' w_make ?_
  | with_reducible refine' w_mkb (fun x dx H1 n1 m1 d1 f1 g1 => ?_)
  | with_reducible refine' w_fldaug ?_
  | with_reducible refine' w_tru ?_
  | ((with_reducible refine' w_trl ?hh ?_); (case hh => walk_at "hp"))
  | with_reducible refine' w_whb ?_
  | with_reducible refine' w_chain ?_
  | with_reducible refine' w_tyIs ?_
  | with_reducible refine' w_raise ?_
  | with_reducible refine' w_rab ?_
  | with_reducible refine' w_jn ?_
  | with_reducible refine' w_js ?_
  | with_reducible refine' w_jsn ?_
  | with_reducible refine' w_fmt ?_
  | with_reducible refine' w_isN ?_
  | with_reducible refine' w_intB ?_
  | with_reducible refine' w_istr ?_
  | with_reducible refine' w_stb ?_
  | ((with_reducible refine' w_inT ?hs ?hx ?ha ?_); (case hs => walk_at "sq"); (case hx => rfl); (case ha => rfl))
  | ((with_reducible refine' w_isf ?hd ?_); (case hd => decide +kernel))
  | ((with_reducible refine' w_ist ?hd ?_); (case hd => decide +kernel))
  | with_reducible refine' w_enumT ?_
  | ((with_reducible refine' w_enb ?hs ?_); (case hs => walk_at "sq"))
  | with_reducible refine' w_star ?_
  | ((with_reducible refine' w_stT ?hs ?_); (case hs => walk_at "sq"))
  | ((with_reducible refine' w_stL ?hs ?_); (case hs => walk_at "sq"))
  | with_reducible refine' w_par ?_
  | ((with_reducible refine' w_parb ?he ?_); (case he => walk_at "lset"))
  | with_reducible refine' w_enumL ?_
  | ((with_reducible refine' w_enlb ?hs ?_); (case hs => walk_at "sq"))
  | with_reducible refine' w_revL ?_
  | ((with_reducible refine' w_revb ?hs (fun p H1 n1 f1 g1 => ?_)); (case hs => walk_at "sq"))
  | with_reducible refine' w_max2 ?_
  | with_reducible refine' w_min2 ?_
  | with_reducible refine' w_lrg2 ?_
  | with_reducible refine' w_scI ?_
  | fail "none")
local macro_rules | `(tactic| walk_at "wk") => `(tactic| repeat walk_at "wk1")

section
variable {P : Program} {w : World} {K : PySem.W.Frag} {mg : Str → Option Value} {base : Heap} {f : Addr} {fd : FuncData} {a : Ad}
theorem sc_refuse_bad_steps : FnScope ["steps", "filled", "number", "step"] ["steps"] (defScope s_refuse_bad_steps) := ⟨rfl, rfl, rfl, by decide +kernel, rfl, by decide +kernel, by decide +kernel⟩
theorem ok_goodsteps (F : Fun K "refuse_bad_steps" "refuse_bad_steps" s_refuse_bad_steps f fd) (Z : Blt mg) (T : Txt K mg a) (D_can_be : Df P w K mg base CX0 3 "can_be" ["step", "filled"] spCanBe) : FnOk P w K mg base CX0 4 f fd ["steps"] spGoodSteps := by
  refine F.ok sc_refuse_bad_steps (fun vs H Q E h => ?_) (fun cdv A outer s H vs Q E hr h => ?_)
  · obtain ⟨l, us, ts, rfl, _⟩ := h
    rfl
  obtain ⟨l, us, ts, rfl, hl, hts, ⟨hne, hle, hok⟩, k⟩ := h
  have ul := hts.length
  have tpos : 0 < ts.length := by cases ts with | nil => exact absurd rfl hne | cons _ _ => simp
  refine ⟨_, (pss_cons (ps_if (pt_cmpR op_eq (pe_callB (id := "len") (r := rLenW K) call_lenN (by rfl) Z.len PySem.boot_len (pa_cons (pv 0) pa_nil)) pe_int (nomark _)) (pss_one ps_never) pss_nil)
  (pss_cons (ps_set (i := 1) sc_refuse_bad_steps.nd rfl (Or.inl rfl) pe_dnewK)
  (pss_one (ps_for PassesOwn.never rfl (pi_enum rfl Z.enumerate (pa_cons (pv 0) pa_nil)) (pg_tup rfl (pgs_cons (pg_name (i := 2) sc_refuse_bad_steps.nd rfl (Or.inl rfl)) (pgs_cons (pg_name (i := 3) sc_refuse_bad_steps.nd rfl (Or.inl rfl)) pgs_nil))) (pss_cons (ps_if (PW.pt (pw_or (pt_cmpR op_eq (pv 2) (pe_globI rfl T.m_MOST_STEPS) (nomark _)) (pw_or1 (pt_not (pt_val (pe_df D_can_be hr (by first | decide | omega) (pa_cons (pv 3) (pa_cons (pv 1) pa_nil))) (fun _ => rfl)))))) (pss_one ps_never) pss_nil)
  (pss_one (ps_dput (hu_of hr) (pv 1) (pe_ix (r := rIxT K) ix_tup (pv 3) pe_int (fun _ _ => rfl)) pe_bl rfl))))))), ?_⟩
  walk_at "st"
  walk_at "wk"
  refine w_iteI (fun c => by omega) (fun c0 => ?_)
  walk_at "wk"
  rename_i fl H1 n1 f1 g1
  have nfl : fl ≠ l := nn_l n1 hl
  have hl1 := f1.get0 hl
  walk_at "wk"
  refine forEL (xs := us) (fun i σ H' => ∃ (o2 o3 : Option V), σ = [some (.ref l), some (.ref fl), o2, o3] ∧ FilledAt H' fl (fun b => ∃ t ∈ ts.take i, t.box = b) i ∧ Fr [fl] H1 H')
    ⟨_, _, rfl, ⟨[], g1, Nat.le_refl _, fun b => by simp [valV_nil]⟩, .refl⟩ (fun i σ H' hi ⟨_, _, _, _, f⟩ => SqL.of (f.getl (ni1 nfl.symm) hl1)) ?_ ?_
  · rintro i x σ H2 U H3 hx ⟨o2, o3, rfl, hfl, ff⟩ nU f3 g3
    obtain ⟨t, ht, hxt⟩ := hts.at hx
    have hg := okFrom_at hok ht
    have il : i < us.length := (List.getElem?_eq_some_iff.mp hx).1
    obtain ⟨kvs, hd, hkl, hk⟩ := hfl
    walk_at "wk"
    refine w_iteI (fun c => by omega) (fun c => ?_)
    walk_at "wk"
    have f13 : Fr [fl] H H3 := f1.nil.trans (ff.trans f3.nil)
    refine u_canbe (F := fun b => ∃ t ∈ ts.take i, t.box = b) (hxt.mono f13) ⟨kvs, f3.get0 hd, hkl, hk⟩ hg.1 hg.2.1 (fun b hb => ⟨(hg.2.2 b hb).1, by rcases (hg.2.2 b hb).2 with q | q; exact q.elim; exact q⟩) (fun H4 f4 => ?_)
    walk_at "wk"
    obtain ⟨p, rfl, hp⟩ := (hxt.mono f13).mono f4
    refine w_ixT (SqT.of hp) (atI_nat (j := 0) rfl) ?_
    refine w_dpi (f4.get0 (f3.get0 hd)) (by omega) (fun H5 f5 g5 => ?_)
    refine ⟨_, _, rfl, ⟨_, g5, ?_, fun b => ?_⟩, ff.trans (f3.nil.trans (f4.nil.trans f5))⟩
    · have := putK_length kvs (Sum.inl (t.box : Int)) (V.bl true)
      omega
    · rw [valV_put]
      by_cases e : (t.box : Int) = (b : Int)
      · have e' : t.box = b := by omega
        rw [if_pos (congrArg Sum.inl e.symm)]
        exact ⟨fun _ => ⟨t, by rw [take_snoc ht]; simp, e'⟩, fun _ => rfl⟩
      · rw [if_neg (fun q => e (Sum.inl.inj q).symm), hk b, take_snoc ht]
        constructor
        · rintro ⟨u, hu, q⟩
          exact ⟨u, List.mem_append.mpr (.inl hu), q⟩
        · rintro ⟨u, hu, q⟩
          rcases List.mem_append.mp hu with hu | hu
          · exact ⟨u, hu, q⟩
          · rw [List.mem_singleton.mp hu] at q
            exact absurd (by omega) e
  · rintro σ H2 ⟨o2, o3, rfl, hfl, ff⟩
    exact k H2 ((f1.nil.trans ff).drop n1)
end
end My
namespace My
open PySem L2 Wk
local macro_rules | `(tactic| walk_at "hs") => `(tactic| first
  | assumption
  | (apply fr_st0; (case f => assumption); (case h => walk_at "hs"))
  | (apply fr_st1; (case f => assumption); (case n => walk_at "ne"); (case hw => first | assumption | exact List.mem_cons_self); (case h => walk_at "hs"))
  | fail "none")
local macro_rules | `(tactic| walk_at "nn") => `(tactic| first
  | (apply nn_st; (case n => assumption); (case h => walk_at "hs"))
  | (apply nn_l; (case n => assumption); (case h => walk_at "hp"))
  | (apply nn_d; (case n => assumption); (case h => walk_at "hp"))
  | (apply nn_i; (case n => assumption); (case h => walk_at "hp"))
  | fail "none")
local macro_rules | `(tactic| walk_at "su") => `(tactic| first
  | assumption
  | (apply fr_su; (case f => assumption); (case h => walk_at "su"))
  | fail "none")
local macro_rules | `(tactic| walk_at "as") => `(tactic| first
  | assumption
  | (apply fr_as; (case f => assumption); (case h => walk_at "as"))
  | fail "none")
local macro_rules | `(tactic| walk_at "ef") => `(tactic| first
  | assumption
  | (apply fr_ef0; (case f => assumption); (case h => walk_at "ef"))
  | (apply fr_ef; (case f => assumption); (case n1 => walk_at "ni"); (case n2 => walk_at "ni"); (case n3 => walk_at "ni"); (case h => walk_at "ef"))
  | fail "none")
local macro_rules | `(tactic| walk_at "td") => `(tactic| first
  | assumption
  | (apply fr_td0; (case f => assumption); (case h => walk_at "td"))
  | (apply fr_td; (case f => assumption); (case n1 => walk_at "ni"); (case n2 => walk_at "ni"); (case n3 => walk_at "ni"); (case h => walk_at "td"))
  | fail "none")
local macro_rules | `(tactic| walk_at "sk") => `(tactic| first
  | assumption
  | (apply fr_stk; (case f => assumption); (case a => walk_at "sk"))
  | fail "none")
local macro_rules | `(tactic| walk_at "al") => `(tactic| first
  | assumption
  | (apply fr_al; (case f => assumption); (case h => walk_at "al"))
  | fail "none")
local macro_rules | `(tactic| walk_at "nv") => `(tactic| first
  | assumption
  | (apply fr_nv; (case a => assumption); (case n => walk_at "ni"); (case h => walk_at "nv"))
  | fail "none")
local macro_rules | `(tactic| walk_at "ne") => `(tactic| first
  | assumption
  | (apply Ne.symm; assumption)
  | walk_at "nn"
  | (apply Ne.symm; walk_at "nn")
  | fail "none")
local macro_rules | `(tactic| walk_at "ni") => `(tactic| first
  | exact List.not_mem_nil
  | (apply ni1; walk_at "ne")
  | (apply ni2 <;> walk_at "ne")
  | (apply ni3 <;> walk_at "ne")
  | fail "none")
local macro_rules | `(tactic| walk_at "hp") => `(tactic| first
  | assumption
  | (apply Fr.gett; (case a => assumption); (case h => walk_at "hp"))
  | (apply Fr.getl; (case a => assumption); (case n => walk_at "ni"); (case h => walk_at "hp"))
  | (apply Fr.getd; (case a => assumption); (case n => walk_at "ni"); (case h => walk_at "hp"))
  | (apply Fr.geti; (case a => assumption); (case n => walk_at "ni"); (case h => walk_at "hp"))
  | fail "none")
local macro_rules | `(tactic| walk_at "sqs") => `(tactic| first
  | assumption
  | (apply Fr.sqln; (case a => assumption); (case n => walk_at "ni"); (case h => walk_at "sqs"))
  | fail "none")
local macro_rules | `(tactic| walk_at "sq") => `(tactic| first
  | assumption
  | (apply SqL.of; walk_at "hp")
  | (apply SqT.of; walk_at "hp")
  | walk_at "sqs"
  | fail "none")
local macro_rules | `(tactic| walk_at "fr") => `(tactic| first
  | exact Fr.refl
  | assumption
  | (apply Fr.mono; (case a => assumption); (case h => simp))
  | (apply fr_last; (case f => assumption); (case w => simp); (case g => walk_at "fr"))
  | fail "none")
local macro_rules | `(tactic| walk_at "st") => `(tactic| ((try dsimp only [cxOf, Cx.nox, Cx.wish]); (try simp only [L2.start, List.map_cons, List.map_nil, List.length_cons, List.length_nil, List.replicate, List.cons_append, List.nil_append, Nat.reduceAdd, Nat.reduceSub])))
local macro_rules | `(tactic| walk_at "lset") => `(tactic| (simp only [wipe, List.map_cons, List.map_nil, Int.reduceToNat, List.set_cons_zero, List.set_cons_succ] <;> rfl))
local macro_rules | `(tactic| walk_at "wk1") => `(tactic| first
  | with_reducible refine' w_seq ?_
  | with_reducible refine' w_asg ?_
  | ((with_reducible refine' w_name ?hs ?_); (case hs => walk_at "lset"))
  | ((with_reducible refine' w_var ?hv ?_); (case hv => rfl))
  | with_reducible refine' w_c ?_
  | with_reducible refine' w_op ?_
  | with_reducible refine' w_un ?_
  | with_reducible refine' w_test ?_
  | with_reducible refine' w_tB ?_
  | with_reducible refine' w_exbl ?_
  | with_reducible refine' w_exint ?_
  | with_reducible refine' w_t ?_
  | with_reducible refine' w_f ?_
  | with_reducible refine' w_ifS ?_
  | with_reducible refine' w_if ?_
  | with_reducible refine' w_and ?_
  | with_reducible refine' w_or ?_
  | with_reducible refine' w_not ?_
  | with_reducible refine' w_andV ?_
  | with_reducible refine' w_orV ?_
  | with_reducible refine' w_notV ?_
  | with_reducible refine' w_ret ?_
  | with_reducible refine' w_retN ?_
  | with_reducible refine' w_drop ?_
  | with_reducible refine' w_next ?_
  | with_reducible refine' w_nil ?_
  | with_reducible refine' w_cons ?_
  | with_reducible refine' w_cb ?_
  | with_reducible refine' w_call ?_
  | with_reducible refine' w_gsub ?_
  | with_reducible refine' w_gnil ?_
  | with_reducible refine' w_gcons ?_
  | ((with_reducible refine' w_gtup ?hs ?hn ?_); (case hs => walk_at "sq"); (case hn => rfl))
  | with_reducible refine' w_fld ?_
  | with_reducible refine' w_tfld ?_
  | with_reducible refine' w_sl ?_
  | with_reducible refine' w_nopart ?_
  | with_reducible refine' w_part ?_
  | with_reducible refine' w_bm ?_
  | with_reducible refine' w_bm0 ?_
  | with_reducible refine' w_yes ?_
  | with_reducible refine' w_tup ?_
  | with_reducible refine' w_lst ?_
  | with_reducible refine' w_I0 ?_
  | ((with_reducible refine' w_I ?hc ?_); (case hc => (first | (show (0 : Int) < _; first | decide | omega | assumption) | exact wide_div (by first | assumption | decide) (b := 200) (by first | assumption | decide) (by decide) (by decide) | exact wide_mul (a := 64) (b := 64) (by omega) (by omega) (by decide) (by decide) (by decide) | exact ⟨by decide, by decide, by decide⟩)))
  | ((with_reducible refine' w_eq ?he ?_); (case he => rfl))
  | ((with_reducible refine' w_ne ?he ?_); (case he => rfl))
  | ((with_reducible refine' w_ixL ?hs ?ha ?_); (case hs => walk_at "sq"); (case ha => rfl))
  | ((with_reducible refine' w_ixT ?hs ?ha ?_); (case hs => walk_at "sq"); (case ha => rfl))
  | ((with_reducible refine' w_lenL ?hs ?he ?_); (case hs => walk_at "sq"); (case he => first | (simp only [List.length_cons, List.length_nil, List.length_map]; rfl) | rfl))
  | ((with_reducible refine' w_lenT ?hs ?he ?_); (case hs => walk_at "sq"); (case he => first | (simp only [List.length_cons, List.length_nil, List.length_map]; rfl) | rfl))
  | ((with_reducible refine' w_setL ?hh ?hk ?he (fun H1 f1 g1 => ?_)); (case hh => walk_at "hp"); (case hk => rfl); (case he => walk_at "lset"))
  | ((with_reducible refine' w_newT ?hl (fun p H1 n1 f1 g1 => ?_)); (case hl => (first | decide | (simp only [List.length_cons, List.length_nil]; decide))))
  | ((with_reducible refine' w_newL ?hl (fun p H1 n1 f1 g1 => ?_)); (case hl => (first | decide | (simp only [List.length_cons, List.length_nil]; decide))))
  | with_reducible refine' w_for ?_
  | with_reducible refine' w_ilist ?_
  | ((with_reducible refine' w_ilb ?hs ?_); (case hs => walk_at "sq"))
  | with_reducible refine' w_itup ?_
  | ((with_reducible refine' w_itb ?hs ?_); (case hs => walk_at "sq"))
  | with_reducible refine' w_rng1 ?_
  | ((with_reducible refine' w_rgb1 ?h0 ?h1 ?_); (case h0 => first | decide | omega); (case h1 => first | decide | omega))
  | with_reducible refine' w_lc ?_
  | ((with_reducible refine' w_wipe ?hw ?_); (case hw => rfl))
  | ((with_reducible refine' w_cat ?ha ?hb ?hl (fun p H1 n1 f1 g1 => ?_)); (case ha => walk_at "hp"); (case hb => walk_at "hp"); (case hl => (first | decide | (simp only [List.length_cons, List.length_nil]; decide))))
  | with_reducible refine' w_dget ?_
  | with_reducible refine' w_din ?_
  | with_reducible refine' w_dnotin ?_
  | with_reducible refine' w_dput ?_
  | with_reducible refine' w_dnew ?_
  | with_reducible refine' w_newD (fun p H1 n1 f1 g1 => ?_)
  | ((with_reducible refine' w_slT ?hs ?hn ?he (fun p H1 n1 f1 g1 => ?_)); (case hs => walk_at "sq"); (case hn => decide); (case he => rfl))
  | with_reducible refine' w_meth ?_
  | with_reducible refine' w_make ?_
  | with_reducible refine' w_mkb (fun x dx H1 n1 m1 d1 f1 g1 => ?_)
  | with_reducible refine' w_fldaug ?_
  | with_reducible refine' w_tru ?_
  | ((with_reducible refine' w_trl ?hh ?_); (case hh => walk_at "hp"))
  | with_reducible refine' w_whb ?_
  | with_reducible refine' w_chain ?_
  | with_reducible refine' w_tyIs ?_
  | with_reducible refine' w_raise ?_
  | with_reducible refine' w_rab ?_
  | with_reducible refine' w_jn ?_
  | with_reducible refine' w_js ?_
  | with_reducible refine' w_jsn ?_
  | with_reducible refine' w_fmt ?_
  | with_reducible refine' w_isN ?_
  | with_reducible refine' w_intB ?_
  | with_reducible refine' w_istr ?_
  | with_reducible refine' w_stb ?_
  | ((with_reducible refine' w_inT ?hs ?hx ?ha ?_); (case hs => walk_at "sq"); (case hx => rfl); (case ha => rfl))
  | ((with_reducible refine' w_isf ?hd ?_); (case hd => decide +kernel))
  | ((with_reducible refine' w_ist ?hd ?_); (case hd => decide +kernel))
  | with_reducible refine' w_enumT ?_
  | ((with_reducible refine' w_enb ?hs ?_); (case hs => walk_at "sq"))
  | with_reducible refine' w_star ?_
  | ((with_reducible refine' w_stT ?hs ?_); (case hs => walk_at "sq"))
  | ((with_reducible refine' w_stL ?hs ?_); (case hs => walk_at "sq"))
  | with_reducible refine' w_par ?_
  | ((with_reducible refine' w_parb ?he ?_); (case he => walk_at "lset"))
  | with_reducible refine' w_enumL ?_
  | ((with_reducible refine' w_enlb ?hs ?_); (case hs => walk_at "sq"))
  | with_reducible refine' w_revL ?_
  | ((with_reducible refine' w_revb ?hs (fun p H1 n1 f1 g1 => ?_)); (case hs => walk_at "sq"))
  | with_reducible refine' w_max2 ?_
  | with_reducible refine' w_min2 ?_
  | with_reducible refine' w_lrg2 ?_
  | with_reducible refine' w_scI ?_
  | fail "none")
local macro_rules | `(tactic| walk_at "wk") => `(tactic| repeat walk_at "wk1")

section
variable {P : Program} {w : World} {K : PySem.W.Frag} {mg : Str → Option Value} {base : Heap} {f : Addr} {fd : FuncData} {a : Ad}
theorem sc_can_be : FnScope ["step", "filled", "part", "box"] ["step", "filled"] (defScope s_can_be) := ⟨rfl, rfl, rfl, by decide +kernel, rfl, by decide +kernel, by decide +kernel⟩
theorem ok_canbe (F : Fun K "can_be" "can_be" s_can_be f fd) (Z : Blt mg) (T : Txt K mg a) (D_is_whole : Df P w K mg base CX0 1 "is_whole" ["found", "most"] spWhole) (D_has_form_g : Df P w K mg base CX0 2 "has_form" ["part"] spFormG) (D_parts_of_g : Df P w K mg base CX0 1 "parts_of" ["part"] spPartsG) : FnOk P w K mg base CX0 3 f fd ["step", "filled"] spCanBe := by
  refine F.ok sc_can_be (fun vs H Q E h => ?_) (fun cdv A outer s H vs Q E hr h => ?_)
  · obtain ⟨v, t, fl, FF, n, rfl, _⟩ := h
    rfl
  obtain ⟨v, t, fl, FF, n, rfl, ⟨p, rfl, hp⟩, ⟨kvs, hfl, hkl, hk⟩, hb, hro, hbx, k⟩ := h
  have vl := vals_len t.rest
  refine ⟨_, (pss_cons (ps_if (PW.pt (pw_or (pt_cmpR op_eq (pe_callB (id := "len") (r := rLenW K) call_lenN (by rfl) Z.len PySem.boot_len (pa_cons (pv 0) pa_nil)) pe_int (nomark _)) (pw_or1 (pt_not (pt_val (pe_df D_is_whole hr (by first | decide | omega) (pa_cons (pe_ix (r := rIxT K) ix_tup (pv 0) pe_int (fun _ _ => rfl)) (pa_cons (pe_globI rfl T.m_LAST_BOX) pa_nil))) (fun _ => rfl)))))) (pss_one (ps_ret pe_bl)) pss_nil)
  (pss_cons (ps_set (i := 2) sc_can_be.nd rfl (Or.inl rfl) (pe_slice (r := rSlT K) sl_tup (pv 0) (po_some pe_int) po_none))
  (pss_cons (ps_if (pt_not (pt_val (pe_df D_has_form_g hr (by first | decide | omega) (pa_cons (pv 2) pa_nil)) (fun _ => rfl))) (pss_one (ps_ret pe_bl)) pss_nil)
  (pss_one (ps_ret (pe_callB (r := rAll K) (cr_all (by rfl)) (by rfl) Z.all (by decide +kernel) (pa_cons (pe_lc (own := [("box", 3)]) (g := (gName 3)) (tt := tYes) (by rfl) sc_can_be.nd (pi_tup (pe_df D_parts_of_g hr (by first | decide | omega) (pa_cons (pv 2) pa_nil))) (blkOk_by (own := [("box", 3)]) (N := ["step", "filled", "part", "box"]) (sc := defScope s_can_be) (by decide +kernel)) (fun _ _ _ _ _ => pg_name (i := 3) sc_can_be.nd rfl (Or.inl rfl)) (fun _ _ _ _ _ => pts_nil) (fun _ _ _ _ _ => (pe_and (pe_df D_is_whole hr (by first | decide | omega) (pa_cons (pv 3) (pa_cons (pe_globI rfl T.m_LAST_BOX) pa_nil))) (pe_one (pe_cmp (pc_din (hu_of hr) (pv 3) (pv 1)) rfl))))) pa_nil))))))), ?_⟩
  walk_at "st"
  walk_at "wk"
  refine w_iteI (fun c => by omega) (fun c0 => ?_)
  walk_at "wk"
  refine w_ixT (SqT.of hp) (atI_nat (j := 0) rfl) ?_
  walk_at "wk"
  refine ⟨_, _, rfl, .inl ⟨_, rfl, ?_⟩⟩
  rw [decide_eq_true (by omega), decide_eq_true (by omega)]
  walk_at "wk"
  refine w_slT (SqT.of hp) (tail_not _ _) (cut_tail _ _) (fun q H1 n1 f1 g1 => ?_)
  walk_at "wk"
  refine .inl ⟨q, _, rfl, g1, rst_Items _, ?_⟩
  rw [form_rst hro]
  walk_at "wk"
  obtain ⟨w0, t0, ev, tl, ep⟩ := rst_parts t.rest
  rw [ev] at g1
  refine u_partsG g1 (by omega) (fun r H2 g2 f2 => ?_)
  rw [← ev, ep] at g2
  walk_at "wk"
  have hfl2 := (f1.trans f2).get0 hfl
  refine lcT (xs := t.rest.bxs.map fun b => V.int (b : Nat)) (fun D i acc H' => acc = ((t.rest.bxs.take i).map fun _ => true).map V.bl ∧ Fr [D] H2 H') (fun D H' hD f g => ⟨rfl, f.nil⟩) (fun D i acc H' hD ⟨_, f⟩ => SqT.of (f.gett g2)) (fun D i x acc H' hD hx hlt ha hA ⟨e, f⟩ => ?_) (fun D acc H3 hD hA hn ⟨e, f⟩ => ?_)
  · rw [List.getElem?_map, Option.map_eq_some_iff] at hx
    obtain ⟨b, hb2, rfl⟩ := hx
    have hbm := hbx b (List.mem_of_getElem? hb2)
    have nfl : fl ≠ D := (nn_d hD hfl2).symm
    walk_at "wk"
    refine ⟨_, _, rfl, .inl ⟨_, rfl, ?_⟩⟩
    rw [decide_eq_true (by omega), decide_eq_true (by omega)]
    walk_at "wk"
    refine w_dii (f.getd (ni1 nfl) hfl2) ?_
    rw [(hk b).mpr hbm.2]
    refine lcE (acc := acc) hA ha (by have : t.rest.bxs.length ≤ 2 := by cases t.rest <;> simp [Rst.bxs]
                                      rw [List.length_map] at hlt; omega) (fun H5 f5 g5 => ⟨?_, by walk_at "fr"⟩)
    rw [take_snoc hb2, List.map_append, List.map_append, e]
    rfl
  · rw [List.length_map, List.take_length] at e
    walk_at "wk"
    rw [e] at hA
    refine w_all (SqL.of hA) ?_
    have ee : (t.rest.bxs.map fun _ => true).all id = true := by simp
    rw [ee]
    exact k H3 (f1.trans (f2.trans (f.drop hD)))
end
end My
namespace My
open PySem L2 Wk
local macro_rules | `(tactic| walk_at "hs") => `(tactic| first
  | assumption
  | (apply fr_st0; (case f => assumption); (case h => walk_at "hs"))
  | (apply fr_st1; (case f => assumption); (case n => walk_at "ne"); (case hw => first | assumption | exact List.mem_cons_self); (case h => walk_at "hs"))
  | fail "none")
local macro_rules | `(tactic| walk_at "nn") => `(tactic| first
  | (apply nn_st; (case n => assumption); (case h => walk_at "hs"))
  | (apply nn_l; (case n => assumption); (case h => walk_at "hp"))
  | (apply nn_d; (case n => assumption); (case h => walk_at "hp"))
  | (apply nn_i; (case n => assumption); (case h => walk_at "hp"))
  | fail "none")
local macro_rules | `(tactic| walk_at "su") => `(tactic| first
  | assumption
  | (apply fr_su; (case f => assumption); (case h => walk_at "su"))
  | fail "none")
local macro_rules | `(tactic| walk_at "as") => `(tactic| first
  | assumption
  | (apply fr_as; (case f => assumption); (case h => walk_at "as"))
  | fail "none")
local macro_rules | `(tactic| walk_at "ef") => `(tactic| first
  | assumption
  | (apply fr_ef0; (case f => assumption); (case h => walk_at "ef"))
  | (apply fr_ef; (case f => assumption); (case n1 => walk_at "ni"); (case n2 => walk_at "ni"); (case n3 => walk_at "ni"); (case h => walk_at "ef"))
  | fail "none")
local macro_rules | `(tactic| walk_at "td") => `(tactic| first
  | assumption
  | (apply fr_td0; (case f => assumption); (case h => walk_at "td"))
  | (apply fr_td; (case f => assumption); (case n1 => walk_at "ni"); (case n2 => walk_at "ni"); (case n3 => walk_at "ni"); (case h => walk_at "td"))
  | fail "none")
local macro_rules | `(tactic| walk_at "sk") => `(tactic| first
  | assumption
  | (apply fr_stk; (case f => assumption); (case a => walk_at "sk"))
  | fail "none")
local macro_rules | `(tactic| walk_at "al") => `(tactic| first
  | assumption
  | (apply fr_al; (case f => assumption); (case h => walk_at "al"))
  | fail "none")
local macro_rules | `(tactic| walk_at "nv") => `(tactic| first
  | assumption
  | (apply fr_nv; (case a => assumption); (case n => walk_at "ni"); (case h => walk_at "nv"))
  | fail "none")
local macro_rules | `(tactic| walk_at "ne") => `(tactic| first
  | assumption
  | (apply Ne.symm; assumption)
  | walk_at "nn"
  | (apply Ne.symm; walk_at "nn")
  | fail "none")
local macro_rules | `(tactic| walk_at "ni") => `(tactic| first
  | exact List.not_mem_nil
  | (apply ni1; walk_at "ne")
  | (apply ni2 <;> walk_at "ne")
  | (apply ni3 <;> walk_at "ne")
  | fail "none")
local macro_rules | `(tactic| walk_at "hp") => `(tactic| first
  | assumption
  | (apply Fr.gett; (case a => assumption); (case h => walk_at "hp"))
  | (apply Fr.getl; (case a => assumption); (case n => walk_at "ni"); (case h => walk_at "hp"))
  | (apply Fr.getd; (case a => assumption); (case n => walk_at "ni"); (case h => walk_at "hp"))
  | (apply Fr.geti; (case a => assumption); (case n => walk_at "ni"); (case h => walk_at "hp"))
  | fail "none")
local macro_rules | `(tactic| walk_at "sqs") => `(tactic| first
  | assumption
  | (apply Fr.sqln; (case a => assumption); (case n => walk_at "ni"); (case h => walk_at "sqs"))
  | fail "none")
local macro_rules | `(tactic| walk_at "sq") => `(tactic| first
  | assumption
  | (apply SqL.of; walk_at "hp")
  | (apply SqT.of; walk_at "hp")
  | walk_at "sqs"
  | fail "none")
local macro_rules | `(tactic| walk_at "fr") => `(tactic| first
  | exact Fr.refl
  | assumption
  | (apply Fr.mono; (case a => assumption); (case h => simp))
  | (apply fr_last; (case f => assumption); (case w => simp); (case g => walk_at "fr"))
  | fail "none")
local macro_rules | `(tactic| walk_at "st") => `(tactic| ((try dsimp only [cxOf, Cx.nox, Cx.wish]); (try simp only [L2.start, List.map_cons, List.map_nil, List.length_cons, List.length_nil, List.replicate, List.cons_append, List.nil_append, Nat.reduceAdd, Nat.reduceSub])))
local macro_rules | `(tactic| walk_at "lset") => `(tactic| (simp only [wipe, List.map_cons, List.map_nil, Int.reduceToNat, List.set_cons_zero, List.set_cons_succ] <;> rfl))
local macro_rules | `(tactic| walk_at "wk1") => `(tactic| first
  | with_reducible refine' w_seq ?_
  | with_reducible refine' w_asg ?_
  | ((with_reducible refine' w_name ?hs ?_); (case hs => walk_at "lset"))
  | ((with_reducible refine' w_var ?hv ?_); (case hv => rfl))
  | with_reducible refine' w_c ?_
  | with_reducible refine' w_op ?_
  | with_reducible refine' w_un ?_
  | with_reducible refine' w_test ?_
  | with_reducible refine' w_tB ?_
  | with_reducible refine' w_exbl ?_
  | with_reducible refine' w_exint ?_
  | with_reducible refine' w_t ?_
  | with_reducible refine' w_f ?_
  | with_reducible refine' w_ifS ?_
  | with_reducible refine' w_if ?_
  | with_reducible refine' w_and ?_
  | with_reducible refine' w_or ?_
  | with_reducible refine' w_not ?_
  | with_reducible refine' w_andV ?_
  | with_reducible refine' w_orV ?_
  | with_reducible refine' w_notV ?_
  | with_reducible refine' w_ret ?_
  | with_reducible refine' w_retN ?_
  | with_reducible refine' w_drop ?_
  | with_reducible refine' w_next ?_
  | with_reducible refine' w_nil ?_
  | with_reducible refine' w_cons ?_
  | with_reducible refine' w_cb ?_
  | with_reducible refine' w_call ?_
  | with_reducible refine' w_gsub ?_
  | with_reducible refine' w_gnil ?_
  | with_reducible refine' w_gcons ?_
  | ((with_reducible refine' w_gtup ?hs ?hn ?_); (case hs => walk_at "sq"); (case hn => rfl))
  | with_reducible refine' w_fld ?_
  | with_reducible refine' w_tfld ?_
  | with_reducible refine' w_sl ?_
  | with_reducible refine' w_nopart ?_
  | with_reducible refine' w_part ?_
  | with_reducible refine' w_bm ?_
  | with_reducible refine' w_bm0 ?_
  | with_reducible refine' w_yes ?_
  | with_reducible refine' w_tup ?_
  | with_reducible refine' w_lst ?_
  | with_reducible refine' w_I0 ?_
  | ((with_reducible refine' w_I ?hc ?_); (case hc => (first | (show (0 : Int) < _; first | decide | omega | assumption) | exact wide_div (by first | assumption | decide) (b := 200) (by first | assumption | decide) (by decide) (by decide) | exact wide_mul (a := 64) (b := 64) (by omega) (by omega) (by decide) (by decide) (by decide) | exact ⟨by decide, by decide, by decide⟩)))
  | ((with_reducible refine' w_eq ?he ?_); (case he => rfl))
  | ((with_reducible refine' w_ne ?he ?_); (case he => rfl))
  | ((with_reducible refine' w_ixL ?hs ?ha ?_); (case hs => walk_at "sq"); (case ha => rfl))
  | ((with_reducible refine' w_ixT ?hs ?ha ?_); (case hs => walk_at "sq"); (case ha => rfl))
  | ((with_reducible refine' w_lenL ?hs ?he ?_); (case hs => walk_at "sq"); (case he => first | (simp only [List.length_cons, List.length_nil, List.length_map]; rfl) | rfl))
  | ((with_reducible refine' w_lenT ?hs ?he ?_); (case hs => walk_at "sq"); (case he => first | (simp only [List.length_cons, List.length_nil, List.length_map]; rfl) | rfl))
  | ((with_reducible refine' w_setL ?hh ?hk ?he (fun H1 f1 g1 => ?_)); (case hh => walk_at "hp"); (case hk => rfl); (case he => walk_at "lset"))
  | ((with_reducible refine' w_newT ?hl (fun p H1 n1 f1 g1 => ?_)); (case hl => (first | decide | (simp only [List.length_cons, List.length_nil]; decide))))
  | ((with_reducible refine' w_newL ?hl (fun p H1 n1 f1 g1 => ?_)); (case hl => (first | decide | (simp only [List.length_cons, List.length_nil]; decide))))
  | with_reducible refine' w_for ?_
  | with_reducible refine' w_ilist ?_
  | ((with_reducible refine' w_ilb ?hs ?_); (case hs => walk_at "sq"))
  | with_reducible refine' w_itup ?_
  | ((with_reducible refine' w_itb ?hs ?_); (case hs => walk_at "sq"))
  | with_reducible refine' w_rng1 ?_
  | ((with_reducible refine' w_rgb1 ?h0 ?h1 ?_); (case h0 => first | decide | omega); (case h1 => first | decide | omega))
  | with_reducible refine' w_lc ?_
  | ((with_reducible refine' w_wipe ?hw ?_); (case hw => rfl))
  | ((with_reducible refine' w_cat ?ha ?hb ?hl (fun p H1 n1 f1 g1 => ?_)); (case ha => walk_at "hp"); (case hb => walk_at "hp"); (case hl => (first | decide | (simp only [List.length_cons, List.length_nil]; decide))))
  | with_reducible refine' w_dget ?_
  | with_reducible refine' w_din ?_
  | with_reducible refine' w_dnotin ?_
  | with_reducible refine' w_dput ?_
  | with_reducible refine' w_dnew ?_
  | with_reducible refine' w_newD (fun p H1 n1 f1 g1 => ?_)
  | ((with_reducible refine' w_slT ?hs ?hn ?he (fun p H1 n1 f1 g1 => ?_)); (case hs => walk_at "sq"); (case hn => decide); (case he => rfl))
  | with_reducible refine' w_meth ?_
  | with_reducible refine' w_make ?_
  | with_reducible refine' w_mkb (fun x dx H1 n1 m1 d1 f1 g1 => ?_)
  | with_reducible refine' w_fldaug ?_
  | with_reducible refine' w_tru ?_
  | ((with_reducible refine' w_trl ?hh ?_); (case hh => walk_at "hp"))
  | with_reducible refine' w_whb ?_
  | with_reducible refine' w_chain ?_
  | with_reducible refine' w_tyIs ?_
  | with_reducible refine' w_raise ?_
  | with_reducible refine' w_rab ?_
  | with_reducible refine' w_jn ?_
  | with_reducible refine' w_js ?_
  | with_reducible refine' w_jsn ?_
  | with_reducible refine' w_fmt ?_
  | with_reducible refine' w_isN ?_
  | with_reducible refine' w_intB ?_
  | with_reducible refine' w_istr ?_
  | with_reducible refine' w_stb ?_
  | ((with_reducible refine' w_inT ?hs ?hx ?ha ?_); (case hs => walk_at "sq"); (case hx => rfl); (case ha => rfl))
  | ((with_reducible refine' w_isf ?hd ?_); (case hd => decide +kernel))
  | ((with_reducible refine' w_ist ?hd ?_); (case hd => decide +kernel))
  | with_reducible refine' w_enumT ?_
  | ((with_reducible refine' w_enb ?hs ?_); (case hs => walk_at "sq"))
  | with_reducible refine' w_star ?_
  | ((with_reducible refine' w_stT ?hs ?_); (case hs => walk_at "sq"))
  | ((with_reducible refine' w_stL ?hs ?_); (case hs => walk_at "sq"))
  | with_reducible refine' w_par ?_
  | ((with_reducible refine' w_parb ?he ?_); (case he => walk_at "lset"))
  | with_reducible refine' w_enumL ?_
  | ((with_reducible refine' w_enlb ?hs ?_); (case hs => walk_at "sq"))
  | with_reducible refine' w_revL ?_
  | ((with_reducible refine' w_revb ?hs (fun p H1 n1 f1 g1 => ?_)); (case hs => walk_at "sq"))
  | with_reducible refine' w_max2 ?_
  | with_reducible refine' w_min2 ?_
  | with_reducible refine' w_lrg2 ?_
  | with_reducible refine' w_scI ?_
  | fail "none")
local macro_rules | `(tactic| walk_at "wk") => `(tactic| repeat walk_at "wk1")

section
variable {P : Program} {w : World} {K : PySem.W.Frag} {mg : Str → Option Value} {base : Heap} {f : Addr} {fd : FuncData} {a : Ad}
theorem sc_refuse_bad_sum : FnScope ["part"] ["part"] (defScope s_refuse_bad_sum) := ⟨rfl, rfl, rfl, by decide +kernel, rfl, by decide +kernel, by decide +kernel⟩
theorem ok_goodsum (F : Fun K "refuse_bad_sum" "refuse_bad_sum" s_refuse_bad_sum f fd) (Z : Blt mg) (D_sums_within : Df P w K mg base CX0 3 "sums_within" ["part"] spWithin) : FnOk P w K mg base CX0 4 f fd ["part"] spGoodSum := by
  refine F.ok sc_refuse_bad_sum (fun vs H Q E h => ?_) (fun cdv A outer s H vs Q E hr h => ?_)
  · obtain ⟨v, s, rfl, _⟩ := h
    rfl
  obtain ⟨v, s, rfl, hs, hok, hd, hz, k⟩ := h
  refine ⟨_, (pss_one (ps_expr (pe_df D_sums_within hr (by first | decide | omega) (pa_cons (pv 0) pa_nil)))), ?_⟩
  walk_at "st"
  walk_at "wk"
  refine u_within hs hok hd hz (fun p us ss H' n g a pm f => ?_)
  walk_at "wk"
  exact k H' f
end
end My
namespace My
open PySem L2 Wk
local macro_rules | `(tactic| walk_at "hs") => `(tactic| first
  | assumption
  | (apply fr_st0; (case f => assumption); (case h => walk_at "hs"))
  | (apply fr_st1; (case f => assumption); (case n => walk_at "ne"); (case hw => first | assumption | exact List.mem_cons_self); (case h => walk_at "hs"))
  | fail "none")
local macro_rules | `(tactic| walk_at "nn") => `(tactic| first
  | (apply nn_st; (case n => assumption); (case h => walk_at "hs"))
  | (apply nn_l; (case n => assumption); (case h => walk_at "hp"))
  | (apply nn_d; (case n => assumption); (case h => walk_at "hp"))
  | (apply nn_i; (case n => assumption); (case h => walk_at "hp"))
  | fail "none")
local macro_rules | `(tactic| walk_at "su") => `(tactic| first
  | assumption
  | (apply fr_su; (case f => assumption); (case h => walk_at "su"))
  | fail "none")
local macro_rules | `(tactic| walk_at "as") => `(tactic| first
  | assumption
  | (apply fr_as; (case f => assumption); (case h => walk_at "as"))
  | fail "none")
local macro_rules | `(tactic| walk_at "ef") => `(tactic| first
  | assumption
  | (apply fr_ef0; (case f => assumption); (case h => walk_at "ef"))
  | (apply fr_ef; (case f => assumption); (case n1 => walk_at "ni"); (case n2 => walk_at "ni"); (case n3 => walk_at "ni"); (case h => walk_at "ef"))
  | fail "none")
local macro_rules | `(tactic| walk_at "td") => `(tactic| first
  | assumption
  | (apply fr_td0; (case f => assumption); (case h => walk_at "td"))
  | (apply fr_td; (case f => assumption); (case n1 => walk_at "ni"); (case n2 => walk_at "ni"); (case n3 => walk_at "ni"); (case h => walk_at "td"))
  | fail "none")
local macro_rules | `(tactic| walk_at "sk") => `(tactic| first
  | assumption
  | (apply fr_stk; (case f => assumption); (case a => walk_at "sk"))
  | fail "none")
local macro_rules | `(tactic| walk_at "al") => `(tactic| first
  | assumption
  | (apply fr_al; (case f => assumption); (case h => walk_at "al"))
  | fail "none")
local macro_rules | `(tactic| walk_at "nv") => `(tactic| first
  | assumption
  | (apply fr_nv; (case a => assumption); (case n => walk_at "ni"); (case h => walk_at "nv"))
  | fail "none")
local macro_rules | `(tactic| walk_at "ne") => `(tactic| first
  | assumption
  | (apply Ne.symm; assumption)
  | walk_at "nn"
  | (apply Ne.symm; walk_at "nn")
  | fail "none")
local macro_rules | `(tactic| walk_at "ni") => `(tactic| first
  | exact List.not_mem_nil
  | (apply ni1; walk_at "ne")
  | (apply ni2 <;> walk_at "ne")
  | (apply ni3 <;> walk_at "ne")
  | fail "none")
local macro_rules | `(tactic| walk_at "hp") => `(tactic| first
  | assumption
  | (apply Fr.gett; (case a => assumption); (case h => walk_at "hp"))
  | (apply Fr.getl; (case a => assumption); (case n => walk_at "ni"); (case h => walk_at "hp"))
  | (apply Fr.getd; (case a => assumption); (case n => walk_at "ni"); (case h => walk_at "hp"))
  | (apply Fr.geti; (case a => assumption); (case n => walk_at "ni"); (case h => walk_at "hp"))
  | fail "none")
local macro_rules | `(tactic| walk_at "sqs") => `(tactic| first
  | assumption
  | (apply Fr.sqln; (case a => assumption); (case n => walk_at "ni"); (case h => walk_at "sqs"))
  | fail "none")
local macro_rules | `(tactic| walk_at "sq") => `(tactic| first
  | assumption
  | (apply SqL.of; walk_at "hp")
  | (apply SqT.of; walk_at "hp")
  | walk_at "sqs"
  | fail "none")
local macro_rules | `(tactic| walk_at "fr") => `(tactic| first
  | exact Fr.refl
  | assumption
  | (apply Fr.mono; (case a => assumption); (case h => simp))
  | (apply fr_last; (case f => assumption); (case w => simp); (case g => walk_at "fr"))
  | fail "none")
local macro_rules | `(tactic| walk_at "st") => `(tactic| ((try dsimp only [cxOf, Cx.nox, Cx.wish]); (try simp only [L2.start, List.map_cons, List.map_nil, List.length_cons, List.length_nil, List.replicate, List.cons_append, List.nil_append, Nat.reduceAdd, Nat.reduceSub])))
local macro_rules | `(tactic| walk_at "lset") => `(tactic| (simp only [wipe, List.map_cons, List.map_nil, Int.reduceToNat, List.set_cons_zero, List.set_cons_succ] <;> rfl))
local macro_rules | `(tactic| walk_at "wk1") => `(tactic| first
  | with_reducible refine' w_seq ?_
  | with_reducible refine' w_asg ?_
  | ((with_reducible refine' w_name ?hs ?_); (case hs => walk_at "lset"))
  | ((with_reducible refine' w_var ?hv ?_); (case hv => rfl))
  | with_reducible refine' w_c ?_
  | with_reducible refine' w_op ?_
  | with_reducible refine' w_un ?_
  | with_reducible refine' w_test ?_
  | with_reducible refine' w_tB ?_
  | with_reducible refine' w_exbl ?_
  | with_reducible refine' w_exint ?_
  | with_reducible refine' w_t ?_
  | with_reducible refine' w_f ?_
  | with_reducible refine' w_ifS ?_
  | with_reducible refine' w_if ?_
  | with_reducible refine' w_and ?_
  | with_reducible refine' w_or ?_
  | with_reducible refine' w_not ?_
  | with_reducible refine' w_andV ?_
  | with_reducible refine' w_orV ?_
  | with_reducible refine' w_notV ?_
  | with_reducible refine' w_ret ?_
  | with_reducible refine' w_retN ?_
  | with_reducible refine' w_drop ?_
  | with_reducible refine' w_next ?_
  | with_reducible refine' w_nil ?_
  | with_reducible refine' w_cons ?_
  | with_reducible refine' w_cb ?_
  | with_reducible refine' w_call ?_
  | with_reducible refine' w_gsub ?_
  | with_reducible refine' w_gnil ?_
  | with_reducible refine' w_gcons ?_
  | ((with_reducible refine' w_gtup ?hs ?hn ?_); (case hs => walk_at "sq"); (case hn => rfl))
  | with_reducible refine' w_fld ?_
  | with_reducible refine' w_tfld ?_
  | with_reducible refine' w_sl ?_
  | with_reducible refine' w_nopart ?_
  | with_reducible refine' w_part ?_
  | with_reducible refine' w_bm ?_
  | with_reducible refine' w_bm0 ?_
  | with_reducible refine' w_yes ?_
  | with_reducible refine' w_tup ?_
  | with_reducible refine' w_lst ?_
  | with_reducible refine' w_I0 ?_
  | ((with_reducible refine' w_I ?hc ?_); (case hc => (first | (show (0 : Int) < _; first | decide | omega | assumption) | exact wide_div (by first | assumption | decide) (b := 200) (by first | assumption | decide) (by decide) (by decide) | exact wide_mul (a := 64) (b := 64) (by omega) (by omega) (by decide) (by decide) (by decide) | exact ⟨by decide, by decide, by decide⟩)))
  | ((with_reducible refine' w_eq ?he ?_); (case he => rfl))
  | ((with_reducible refine' w_ne ?he ?_); (case he => rfl))
  | ((with_reducible refine' w_ixL ?hs ?ha ?_); (case hs => walk_at "sq"); (case ha => rfl))
  | ((with_reducible refine' w_ixT ?hs ?ha ?_); (case hs => walk_at "sq"); (case ha => rfl))
  | ((with_reducible refine' w_lenL ?hs ?he ?_); (case hs => walk_at "sq"); (case he => first | (simp only [List.length_cons, List.length_nil, List.length_map]; rfl) | rfl))
  | ((with_reducible refine' w_lenT ?hs ?he ?_); (case hs => walk_at "sq"); (case he => first | (simp only [List.length_cons, List.length_nil, List.length_map]; rfl) | rfl))
  | ((with_reducible refine' w_setL ?hh ?hk ?he (fun H1 f1 g1 => ?_)); (case hh => walk_at "hp"); (case hk => rfl); (case he => walk_at "lset"))
  | ((with_reducible refine' w_newT ?hl (fun p H1 n1 f1 g1 => ?_)); (case hl => (first | decide | (simp only [List.length_cons, List.length_nil]; decide))))
  | ((with_reducible refine' w_newL ?hl (fun p H1 n1 f1 g1 => ?_)); (case hl => (first | decide | (simp only [List.length_cons, List.length_nil]; decide))))
  | with_reducible refine' w_for ?_
  | with_reducible refine' w_ilist ?_
  | ((with_reducible refine' w_ilb ?hs ?_); (case hs => walk_at "sq"))
  | with_reducible refine' w_itup ?_
  | ((with_reducible refine' w_itb ?hs ?_); (case hs => walk_at "sq"))
  | with_reducible refine' w_rng1 ?_
  | ((with_reducible refine' w_rgb1 ?h0 ?h1 ?_); (case h0 => first | decide | omega); (case h1 => first | decide | omega))
  | with_reducible refine' w_lc ?_
  | ((with_reducible refine' w_wipe ?hw ?_); (case hw => rfl))
  | ((with_reducible refine' w_cat ?ha ?hb ?hl (fun p H1 n1 f1 g1 => ?_)); (case ha => walk_at "hp"); (case hb => walk_at "hp"); (case hl => (first | decide | (simp only [List.length_cons, List.length_nil]; decide))))
  | with_reducible refine' w_dget ?_
  | with_reducible refine' w_din ?_
  | with_reducible refine' w_dnotin ?_
  | with_reducible refine' w_dput ?_
  | with_reducible refine' w_dnew ?_
  | with_reducible refine' w_newD (fun p H1 n1 f1 g1 => ?_)
  | ((with_reducible refine' w_slT ?hs ?hn ?he (fun p H1 n1 f1 g1 => ?_)); (case hs => walk_at "sq"); (case hn => decide); (case he => rfl))
  | with_reducible refine' w_meth ?_
  | with_reducible refine' w_make ?_
  | with_reducible refine' w_mkb (fun x dx H1 n1 m1 d1 f1 g1 => ?_)
  | with_reducible refine' w_fldaug ?_
  | with_reducible refine' w_tru ?_
  | ((with_reducible refine' w_trl ?hh ?_); (case hh => walk_at "hp"))
  | with_reducible refine' w_whb ?_
  | with_reducible refine' w_chain ?_
  | with_reducible refine' w_tyIs ?_
  | with_reducible refine' w_raise ?_
  | with_reducible refine' w_rab ?_
  | with_reducible refine' w_jn ?_
  | with_reducible refine' w_js ?_
  | with_reducible refine' w_jsn ?_
  | with_reducible refine' w_fmt ?_
  | with_reducible refine' w_isN ?_
  | with_reducible refine' w_intB ?_
  | with_reducible refine' w_istr ?_
  | with_reducible refine' w_stb ?_
  | ((with_reducible refine' w_inT ?hs ?hx ?ha ?_); (case hs => walk_at "sq"); (case hx => rfl); (case ha => rfl))
  | ((with_reducible refine' w_isf ?hd ?_); (case hd => decide +kernel))
  | ((with_reducible refine' w_ist ?hd ?_); (case hd => decide +kernel))
  | with_reducible refine' w_enumT ?_
  | ((with_reducible refine' w_enb ?hs ?_); (case hs => walk_at "sq"))
  | with_reducible refine' w_star ?_
  | ((with_reducible refine' w_stT ?hs ?_); (case hs => walk_at "sq"))
  | ((with_reducible refine' w_stL ?hs ?_); (case hs => walk_at "sq"))
  | with_reducible refine' w_par ?_
  | ((with_reducible refine' w_parb ?he ?_); (case he => walk_at "lset"))
  | with_reducible refine' w_enumL ?_
  | ((with_reducible refine' w_enlb ?hs ?_); (case hs => walk_at "sq"))
  | with_reducible refine' w_revL ?_
  | ((with_reducible refine' w_revb ?hs (fun p H1 n1 f1 g1 => ?_)); (case hs => walk_at "sq"))
  | with_reducible refine' w_max2 ?_
  | with_reducible refine' w_min2 ?_
  | with_reducible refine' w_lrg2 ?_
  | with_reducible refine' w_scI ?_
  | fail "none")
local macro_rules | `(tactic| walk_at "wk") => `(tactic| repeat walk_at "wk1")

section
variable {P : Program} {w : World} {K : PySem.W.Frag} {mg : Str → Option Value} {base : Heap} {f : Addr} {fd : FuncData} {a : Ad}
theorem stk_perm {l ss : List Sm} {t : Sm} {ts : List (Sm × Nat)} {n : Nat} (h : (ss ++ stkAll (ts ++ [(t, n)])).Perm l) : ((ss ++ [t]) ++ stkAll (ts ++ (t.subs.map fun u => (u, n + 1)))).Perm l := by
  refine List.Perm.trans ?_ h
  have e1 : stkAll (ts ++ [(t, n)]) = stkAll ts ++ t.all := by rw [stkAll_app]; simp [stkAll]
  have e2 : stkAll (ts ++ (t.subs.map fun u => (u, n + 1))) = stkAll ts ++ t.subs.flatMap Sm.all := by
    rw [stkAll_app]
    congr 1
    unfold stkAll
    rw [List.flatMap_map]
  rw [e1, e2, Sm.all_eq t, List.append_assoc]
  refine List.Perm.append_left ss ?_
  rw [← List.append_assoc]
  refine (List.Perm.append_right _ List.perm_append_comm).trans ?_
  rw [List.append_assoc]
  exact List.Perm.refl _
theorem sc_sums_within : FnScope ["part", "found", "waiting", "here", "level", "inner"] ["part"] (defScope s_sums_within) := ⟨rfl, rfl, rfl, by decide +kernel, rfl, by decide +kernel, by decide +kernel⟩
theorem ok_within (F : Fun K "sums_within" "sums_within" s_sums_within f fd) (Z : Blt mg) (T : Txt K mg a) (D_has_form : Df P w K mg base CX0 2 "has_form" ["part"] spForm) (D_parts_of : Df P w K mg base CX0 1 "parts_of" ["part"] spPartsOf) : FnOk P w K mg base CX0 3 f fd ["part"] spWithin := by
  refine F.ok sc_sums_within (fun vs H Q E h => ?_) (fun cdv A outer s H vs Q E hr h => ?_)
  · obtain ⟨v, s, rfl, _⟩ := h
    rfl
  obtain ⟨v, s, rfl, hs, hok, hd, hz, k⟩ := h
  refine ⟨_, (pss_cons (ps_set (i := 1) sc_sums_within.nd rfl (Or.inl rfl) (pe_lst pa_nil))
  (pss_cons (ps_set (i := 2) sc_sums_within.nd rfl (Or.inl rfl) (pe_lst (pa_cons (pe_tup (pa_cons (pv 0) (pa_cons pe_int pa_nil))) pa_nil)))
  (pss_cons (ps_while PassesOwn.never (pt_tru (pv 2)) (pss_cons (ps_asg (pe_bm0 PySem.F.plainAttrs_list PySem.F.slot_list_pop PySem.F.type_list_pop mt_pop (pv 2)) (pg_tup rfl (pgs_cons (pg_name (i := 3) sc_sums_within.nd rfl (Or.inl rfl)) (pgs_cons (pg_name (i := 4) sc_sums_within.nd rfl (Or.inr rfl)) pgs_nil))))
  (pss_cons (ps_if (PW.pt (pw_or (pt_cmpR op_eq (pe_callB (id := "len") (r := rLenW K) call_lenN (by rfl) Z.len PySem.boot_len (pa_cons (pv 1) pa_nil)) (pe_globI rfl T.m_MOST_SUMS) (nomark _)) (pw_or (pt_cmpR op_gt (pv 4) (pe_globI rfl T.m_MOST_WITHIN) (nomark _)) (pw_or1 (pt_not (pt_val (pe_df D_has_form hr (by first | decide | omega) (pa_cons (pv 3) pa_nil)) (fun _ => rfl))))))) (pss_one ps_never) pss_nil)
  (pss_cons (ps_expr (pe_bm PySem.F.plainAttrs_list PySem.F.slot_list_append PySem.F.type_list_append mt_append (pv 1) (pa_cons (pv 3) pa_nil)))
  (pss_one (ps_expr (pe_bm PySem.F.plainAttrs_list PySem.F.slot_list_extend PySem.F.type_list_extend mt_extend (pv 2) (pa_cons (pe_lc (own := [("inner", 5)]) (g := (gName 5)) (tt := tYes) (by rfl) sc_sums_within.nd (pi_tup (pe_df D_parts_of hr (by first | decide | omega) (pa_cons (pv 3) pa_nil))) (blkOk_by (own := [("inner", 5)]) (N := ["part", "found", "waiting", "here", "level", "inner"]) (sc := defScope s_sums_within) (by decide +kernel)) (fun _ _ _ _ _ => pg_name (i := 5) sc_sums_within.nd rfl (Or.inl rfl)) (fun _ _ _ _ _ => pts_nil) (fun _ _ _ _ _ => (pe_tup (pa_cons (pv 5) (pa_cons (pe_op op_add (pv 4) pe_int) pa_nil))))) pa_nil))))))))
  (pss_one (ps_ret (pv 1)))))), ?_⟩
  walk_at "st"
  walk_at "wk"
  rename_i fo H1 i1 f1 g1 q H2 i2 f2 g2 wa H3 i3 f3 g3
  have nfw : fo ≠ wa := ne_of_none (f2.get0 g1) i3
  have oks : ∀ t ∈ s.all, t.ok := by
    intro t ht
    have gen : ∀ (u : Sm), u.ok → ∀ t ∈ u.all, t.ok := by
      intro u
      induction u with
      | num n => intro h t ht; rw [List.mem_singleton.mp ht]; exact h
      | name n => intro h t ht; rw [List.mem_singleton.mp ht]; exact h
      | ask => intro h t ht; rw [List.mem_singleton.mp ht]; exact h
      | say s ih =>
        intro h t ht
        rcases List.mem_cons.mp ht with e | m
        · rw [e]; exact h
        · exact ih h t m
      | bin o a b iha ihb =>
        intro h t ht
        rcases List.mem_cons.mp ht with e | m
        · rw [e]; exact h
        · rcases List.mem_append.mp m with m | m
          · exact iha h.1 t m
          · exact ihb h.2 t m
    exact gen s hok t ht
  refine w_while (fun m σ H' => ∃ (us ws : List V) (ss : List Sm) (W : List (Sm × Nat)) (o3 o4 o5 : Option V), σ = [some v, some (.ref fo), some (.ref wa), o3, o4, o5] ∧ H' fo = some (.lst us) ∧ H' wa = some (.lst ws) ∧ AllSum H' us ss ∧ Stk H' ws W ∧
      (∀ p ∈ W, p.2 + p.1.depth ≤ 16) ∧ (ss ++ stkAll W).Perm s.all ∧ m = (stkAll W).length ∧ Fr [fo, wa] H3 H')
    s.size ⟨[], [.ref q], [], [(s, 1)], _, _, _, rfl, by walk_at "hp", by walk_at "hp", trivial, ⟨⟨q, v, rfl, by walk_at "hp", by walk_at "su"⟩, trivial⟩, by simp; omega, by simp [stkAll], by simp [stkAll, Sm.all_length], .refl⟩ ?_
  rintro m σ H' ⟨us, ws, ss, W, o3, o4, o5, rfl, hfo, hwa, has, hst, hdp, hpm, rfl, ff⟩
  have hlen := hpm.length_eq
  rw [List.length_append, Sm.all_length] at hlen
  walk_at "wk"
  refine w_iteb (fun c => ?_) (fun c => ?_)
  · have hne : ws ≠ [] := by
      intro e
      rw [e] at c
      cases c
    obtain ⟨ws', u, ts, p, rfl, rfl, hst', q', x, rfl, hq, hx⟩ := hst.last hne
    obtain ⟨t, n⟩ := p
    have hq' : H' q' = some (.tup [x, .int n]) := hq
    have hx' : IsSum H' x t := hx
    have hdn : n + t.depth ≤ 16 := hdp (t, n) (by simp)
    have e1 : (stkAll (ts ++ [(t, n)])).length = (stkAll ts).length + t.size := by
      rw [stkAll_app, List.length_append, ← Sm.all_length t]
      simp [stkAll]
    rw [e1] at hlen
    have hpos := t.size_pos
    have hl2 := has.length
    have hmt : t ∈ s.all := hpm.mem_iff.mp (by
      rw [stkAll_app, List.mem_append, List.mem_append]
      refine .inr (.inr ?_)
      show t ∈ stkAll [(t, n)]
      unfold stkAll
      rw [List.flatMap_cons, List.flatMap_nil, List.append_nil, Sm.all_eq]
      exact List.mem_cons_self)
    walk_at "wk"
    refine w_tyl hwa ?_
    refine w_pop hwa (fun H4 f4 g4 => ?_)
    walk_at "wk"
    refine w_iteI (fun c2 => by omega) (fun c2 => ?_)
    walk_at "wk"
    refine w_iteD (fun c3 => by have := t.depth_pos; omega) (fun c3 => ?_)
    walk_at "wk"
    refine ⟨_, t, rfl, by walk_at "su", oks t hmt, ?_⟩
    walk_at "wk"
    have hfo4 : H4 fo = some (.lst us) := f4.getl (ni1 nfw) hfo
    refine w_tyl hfo4 ?_
    walk_at "wk"
    refine w_app hfo4 (by omega) (fun H5 f5 g5 => ?_)
    have hwa5 : H5 wa = some (.lst ws') := f5.getl (ni1 nfw.symm) g4
    walk_at "wk"
    refine w_tyl hwa5 ?_
    walk_at "wk"
    refine u_partsOf (by walk_at "su") (fun tp vs2 H6 g6 a6 f6 => ?_)
    walk_at "wk"
    refine lcT (xs := vs2) (fun D i acc H' => Stk H' acc ((t.subs.take i).map fun u => (u, n + 1)) ∧ Fr [D] H6 H') (fun D H' hD f g => ⟨trivial, f.nil⟩) (fun D i acc H' hD ⟨_, f⟩ => SqT.of (f.gett g6)) (fun D i y acc H' hD hy hlt ha hA ⟨e, f⟩ => ?_) (fun D acc H7 hD hA hn ⟨e, f⟩ => ?_)
    · obtain ⟨u, hu, hxu⟩ := a6.at hy
      walk_at "wk"
      rename_i tq H8 i8 f8 g8
      refine lcE (acc := acc) (by walk_at "hp") ha (by have := a6.length; have := subs_len2 t; omega) (fun H9 f9 g9 => ⟨?_, by walk_at "fr"⟩)
      rw [take_snoc hu, List.map_append]
      exact Stk.app (by walk_at "sk") ⟨⟨tq, y, rfl, by walk_at "hp", by walk_at "su"⟩, trivial⟩
    · have et : t.subs.take vs2.length = t.subs := by rw [a6.length, List.take_length]
      rw [et] at e
      have f67 : Fr [] H6 H7 := f.drop hD
      have hwa7 : H7 wa = some (.lst ws') := f67.get0 (f6.get0 hwa5)
      walk_at "wk"
      have l1 := hst'.length
      have l2 := stk_len ts
      have l3 := subs_len2 t
      have l4 := a6.length
      refine w_ext hwa7 hA (by omega) (fun H8 f8 g8 => ?_)
      refine ⟨(stkAll (ts ++ (t.subs.map fun u => (u, n + 1)))).length, ?_, us ++ [x], ws' ++ acc, ss ++ [t], ts ++ (t.subs.map fun u => (u, n + 1)), _, _, _, rfl, ?_, g8, ?_, ?_, ?_, stk_perm hpm, rfl, ?_⟩
      · have := (stk_perm hpm).length_eq
        rw [List.length_append, Sm.all_length, List.length_append, List.length_singleton] at this
        omega
      · exact f8.getl (ni1 nfw) (f67.get0 (f6.get0 g5))
      · have fa : Fr [fo, wa] H' H8 := by walk_at "fr"
        exact AllSum.app (has.mono fa) ⟨hx'.mono fa, trivial⟩
      · exact Stk.app (by walk_at "sk") (fr_stk f8 e)
      · intro p hp
        rcases List.mem_append.mp hp with m | m
        · exact hdp p (by simp [m])
        · obtain ⟨u, hu, rfl⟩ := List.mem_map.mp m
          have := Sm.subs_depth hu
          show n + 1 + u.depth ≤ 16
          omega
      · walk_at "fr"
  · have he : ws = [] := by
      cases ws with
      | nil => rfl
      | cons _ _ => cases c
    subst he
    have hW : W = [] := by
      cases W with
      | nil => rfl
      | cons _ _ => exact hst.elim
    subst hW
    walk_at "wk"
    have f0 : Fr [] H H' := (f1.nil.trans ((f2.nil.trans ((f3.nil.trans (ff.mono (W' := [wa, fo]) (by simp [or_comm]))).drop i3)).mono (by simp))).drop i1
    exact k fo us ss H' i1 hfo has (by simpa [stkAll] using hpm) f0
end
end My
namespace My
open PySem L2 Wk
local macro_rules | `(tactic| walk_at "hs") => `(tactic| first
  | assumption
  | (apply fr_st0; (case f => assumption); (case h => walk_at "hs"))
  | (apply fr_st1; (case f => assumption); (case n => walk_at "ne"); (case hw => first | assumption | exact List.mem_cons_self); (case h => walk_at "hs"))
  | fail "none")
local macro_rules | `(tactic| walk_at "nn") => `(tactic| first
  | (apply nn_st; (case n => assumption); (case h => walk_at "hs"))
  | (apply nn_l; (case n => assumption); (case h => walk_at "hp"))
  | (apply nn_d; (case n => assumption); (case h => walk_at "hp"))
  | (apply nn_i; (case n => assumption); (case h => walk_at "hp"))
  | fail "none")
local macro_rules | `(tactic| walk_at "su") => `(tactic| first
  | assumption
  | (apply fr_su; (case f => assumption); (case h => walk_at "su"))
  | fail "none")
local macro_rules | `(tactic| walk_at "as") => `(tactic| first
  | assumption
  | (apply fr_as; (case f => assumption); (case h => walk_at "as"))
  | fail "none")
local macro_rules | `(tactic| walk_at "ef") => `(tactic| first
  | assumption
  | (apply fr_ef0; (case f => assumption); (case h => walk_at "ef"))
  | (apply fr_ef; (case f => assumption); (case n1 => walk_at "ni"); (case n2 => walk_at "ni"); (case n3 => walk_at "ni"); (case h => walk_at "ef"))
  | fail "none")
local macro_rules | `(tactic| walk_at "td") => `(tactic| first
  | assumption
  | (apply fr_td0; (case f => assumption); (case h => walk_at "td"))
  | (apply fr_td; (case f => assumption); (case n1 => walk_at "ni"); (case n2 => walk_at "ni"); (case n3 => walk_at "ni"); (case h => walk_at "td"))
  | fail "none")
local macro_rules | `(tactic| walk_at "sk") => `(tactic| first
  | assumption
  | (apply fr_stk; (case f => assumption); (case a => walk_at "sk"))
  | fail "none")
local macro_rules | `(tactic| walk_at "al") => `(tactic| first
  | assumption
  | (apply fr_al; (case f => assumption); (case h => walk_at "al"))
  | fail "none")
local macro_rules | `(tactic| walk_at "nv") => `(tactic| first
  | assumption
  | (apply fr_nv; (case a => assumption); (case n => walk_at "ni"); (case h => walk_at "nv"))
  | fail "none")
local macro_rules | `(tactic| walk_at "ne") => `(tactic| first
  | assumption
  | (apply Ne.symm; assumption)
  | walk_at "nn"
  | (apply Ne.symm; walk_at "nn")
  | fail "none")
local macro_rules | `(tactic| walk_at "ni") => `(tactic| first
  | exact List.not_mem_nil
  | (apply ni1; walk_at "ne")
  | (apply ni2 <;> walk_at "ne")
  | (apply ni3 <;> walk_at "ne")
  | fail "none")
local macro_rules | `(tactic| walk_at "hp") => `(tactic| first
  | assumption
  | (apply Fr.gett; (case a => assumption); (case h => walk_at "hp"))
  | (apply Fr.getl; (case a => assumption); (case n => walk_at "ni"); (case h => walk_at "hp"))
  | (apply Fr.getd; (case a => assumption); (case n => walk_at "ni"); (case h => walk_at "hp"))
  | (apply Fr.geti; (case a => assumption); (case n => walk_at "ni"); (case h => walk_at "hp"))
  | fail "none")
local macro_rules | `(tactic| walk_at "sqs") => `(tactic| first
  | assumption
  | (apply Fr.sqln; (case a => assumption); (case n => walk_at "ni"); (case h => walk_at "sqs"))
  | fail "none")
local macro_rules | `(tactic| walk_at "sq") => `(tactic| first
  | assumption
  | (apply SqL.of; walk_at "hp")
  | (apply SqT.of; walk_at "hp")
  | walk_at "sqs"
  | fail "none")
local macro_rules | `(tactic| walk_at "fr") => `(tactic| first
  | exact Fr.refl
  | assumption
  | (apply Fr.mono; (case a => assumption); (case h => simp))
  | (apply fr_last; (case f => assumption); (case w => simp); (case g => walk_at "fr"))
  | fail "none")
local macro_rules | `(tactic| walk_at "st") => `(tactic| ((try dsimp only [cxOf, Cx.nox, Cx.wish]); (try simp only [L2.start, List.map_cons, List.map_nil, List.length_cons, List.length_nil, List.replicate, List.cons_append, List.nil_append, Nat.reduceAdd, Nat.reduceSub])))
local macro_rules | `(tactic| walk_at "lset") => `(tactic| (simp only [wipe, List.map_cons, List.map_nil, Int.reduceToNat, List.set_cons_zero, List.set_cons_succ] <;> rfl))
local macro_rules | `(tactic| walk_at "wk1") => `(tactic| first
  | with_reducible refine' w_seq ?_
  | with_reducible refine' w_asg ?_
  | ((with_reducible refine' w_name ?hs ?_); (case hs => walk_at "lset"))
  | ((with_reducible refine' w_var ?hv ?_); (case hv => rfl))
  | with_reducible refine' w_c ?_
  | with_reducible refine' w_op ?_
  | with_reducible refine' w_un ?_
  | with_reducible refine' w_test ?_
  | with_reducible refine' w_tB ?_
  | with_reducible refine' w_exbl ?_
  | with_reducible refine' w_exint ?_
  | with_reducible refine' w_t ?_
  | with_reducible refine' w_f ?_
  | with_reducible refine' w_ifS ?_
  | with_reducible refine' w_if ?_
  | with_reducible refine' w_and ?_
  | with_reducible refine' w_or ?_
  | with_reducible refine' w_not ?_
  | with_reducible refine' w_andV ?_
  | with_reducible refine' w_orV ?_
  | with_reducible refine' w_notV ?_
  | with_reducible refine' w_ret ?_
  | with_reducible refine' w_retN ?_
  | with_reducible refine' w_drop ?_
  | with_reducible refine' w_next ?_
  | with_reducible refine' w_nil ?_
  | with_reducible refine' w_cons ?_
  | with_reducible refine' w_cb ?_
  | with_reducible refine' w_call ?_
  | with_reducible refine' w_gsub ?_
  | with_reducible refine' w_gnil ?_
  | with_reducible refine' w_gcons ?_
  | ((with_reducible refine' w_gtup ?hs ?hn ?_); (case hs => walk_at "sq"); (case hn => rfl))
  | with_reducible refine' w_fld ?_
  | with_reducible refine' w_tfld ?_
  | with_reducible refine' w_sl ?_
  | with_reducible refine' w_nopart ?_
  | with_reducible refine' w_part ?_
  | with_reducible refine' w_bm ?_
  | with_reducible refine' w_bm0 ?_
  | with_reducible refine' w_yes ?_
  | with_reducible refine' w_tup ?_
  | with_reducible refine' w_lst ?_
  | with_reducible refine' w_I0 ?_
  | ((with_reducible refine' w_I ?hc ?_); (case hc => (first | (show (0 : Int) < _; first | decide | omega | assumption) | exact wide_div (by first | assumption | decide) (b := 200) (by first | assumption | decide) (by decide) (by decide) | exact wide_mul (a := 64) (b := 64) (by omega) (by omega) (by decide) (by decide) (by decide) | exact ⟨by decide, by decide, by decide⟩)))
  | ((with_reducible refine' w_eq ?he ?_); (case he => rfl))
  | ((with_reducible refine' w_ne ?he ?_); (case he => rfl))
  | ((with_reducible refine' w_ixL ?hs ?ha ?_); (case hs => walk_at "sq"); (case ha => rfl))
  | ((with_reducible refine' w_ixT ?hs ?ha ?_); (case hs => walk_at "sq"); (case ha => rfl))
  | ((with_reducible refine' w_lenL ?hs ?he ?_); (case hs => walk_at "sq"); (case he => first | (simp only [List.length_cons, List.length_nil, List.length_map]; rfl) | rfl))
  | ((with_reducible refine' w_lenT ?hs ?he ?_); (case hs => walk_at "sq"); (case he => first | (simp only [List.length_cons, List.length_nil, List.length_map]; rfl) | rfl))
  | ((with_reducible refine' w_setL ?hh ?hk ?he (fun H1 f1 g1 => ?_)); (case hh => walk_at "hp"); (case hk => rfl); (case he => walk_at "lset"))
  | ((with_reducible refine' w_newT ?hl (fun p H1 n1 f1 g1 => ?_)); (case hl => (first | decide | (simp only [List.length_cons, List.length_nil]; decide))))
  | ((with_reducible refine' w_newL ?hl (fun p H1 n1 f1 g1 => ?_)); (case hl => (first | decide | (simp only [List.length_cons, List.length_nil]; decide))))
  | with_reducible refine' w_for ?_
  | with_reducible refine' w_ilist ?_
  | ((with_reducible refine' w_ilb ?hs ?_); (case hs => walk_at "sq"))
  | with_reducible refine' w_itup ?_
  | ((with_reducible refine' w_itb ?hs ?_); (case hs => walk_at "sq"))
  | with_reducible refine' w_rng1 ?_
  | ((with_reducible refine' w_rgb1 ?h0 ?h1 ?_); (case h0 => first | decide | omega); (case h1 => first | decide | omega))
  | with_reducible refine' w_lc ?_
  | ((with_reducible refine' w_wipe ?hw ?_); (case hw => rfl))
  | ((with_reducible refine' w_cat ?ha ?hb ?hl (fun p H1 n1 f1 g1 => ?_)); (case ha => walk_at "hp"); (case hb => walk_at "hp"); (case hl => (first | decide | (simp only [List.length_cons, List.length_nil]; decide))))
  | with_reducible refine' w_dget ?_
  | with_reducible refine' w_din ?_
  | with_reducible refine' w_dnotin ?_
  | with_reducible refine' w_dput ?_
  | with_reducible refine' w_dnew ?_
  | with_reducible refine' w_newD (fun p H1 n1 f1 g1 => ?_)
  | ((with_reducible refine' w_slT ?hs ?hn ?he (fun p H1 n1 f1 g1 => ?_)); (case hs => walk_at "sq"); (case hn => decide); (case he => rfl))
  | with_reducible refine' w_meth ?_
  | with_reducible refine' w_make ?_
  | with_reducible refine' w_mkb (fun x dx H1 n1 m1 d1 f1 g1 => ?_)
  | with_reducible refine' w_fldaug ?_
  | with_reducible refine' w_tru ?_
  | ((with_reducible refine' w_trl ?hh ?_); (case hh => walk_at "hp"))
  | with_reducible refine' w_whb ?_
  | with_reducible refine' w_chain ?_
  | with_reducible refine' w_tyIs ?_
  | with_reducible refine' w_raise ?_
  | with_reducible refine' w_rab ?_
  | with_reducible refine' w_jn ?_
  | with_reducible refine' w_js ?_
  | with_reducible refine' w_jsn ?_
  | with_reducible refine' w_fmt ?_
  | with_reducible refine' w_isN ?_
  | with_reducible refine' w_intB ?_
  | with_reducible refine' w_istr ?_
  | with_reducible refine' w_stb ?_
  | ((with_reducible refine' w_inT ?hs ?hx ?ha ?_); (case hs => walk_at "sq"); (case hx => rfl); (case ha => rfl))
  | ((with_reducible refine' w_isf ?hd ?_); (case hd => decide +kernel))
  | ((with_reducible refine' w_ist ?hd ?_); (case hd => decide +kernel))
  | with_reducible refine' w_enumT ?_
  | ((with_reducible refine' w_enb ?hs ?_); (case hs => walk_at "sq"))
  | with_reducible refine' w_star ?_
  | ((with_reducible refine' w_stT ?hs ?_); (case hs => walk_at "sq"))
  | ((with_reducible refine' w_stL ?hs ?_); (case hs => walk_at "sq"))
  | with_reducible refine' w_par ?_
  | ((with_reducible refine' w_parb ?he ?_); (case he => walk_at "lset"))
  | with_reducible refine' w_enumL ?_
  | ((with_reducible refine' w_enlb ?hs ?_); (case hs => walk_at "sq"))
  | with_reducible refine' w_revL ?_
  | ((with_reducible refine' w_revb ?hs (fun p H1 n1 f1 g1 => ?_)); (case hs => walk_at "sq"))
  | with_reducible refine' w_max2 ?_
  | with_reducible refine' w_min2 ?_
  | with_reducible refine' w_lrg2 ?_
  | with_reducible refine' w_scI ?_
  | fail "none")
local macro_rules | `(tactic| walk_at "wk") => `(tactic| repeat walk_at "wk1")

section
variable {P : Program} {w : World} {K : PySem.W.Frag} {mg : Str → Option Value} {base : Heap} {f : Addr} {fd : FuncData} {a : Ad}
theorem sc_put_back : FnScope ["steps", "held", "number", "step", "found", "part", "effects"] ["steps"] (defScope s_put_back) := ⟨rfl, rfl, rfl, by decide +kernel, rfl, by decide +kernel, by decide +kernel⟩
theorem ok_putback (F : Fun K "put_back" "put_back" s_put_back f fd) (Z : Blt mg) (T : Txt K mg a) (D_refuse_bad_steps : Df P w K mg base CX0 4 "refuse_bad_steps" ["steps"] spGoodSteps) (D_put_together : Df P w K mg base CX0 2 "put_together" ["rest", "number", "held"] spTogether) (D_refuse_no_sum : Df P w K mg base CX0 5 "refuse_no_sum" ["part"] spGoodSum) : FnOk P w K mg base (L2.CX P w) 6 f fd ["steps"] (spBack a.noSum) := by
  refine F.okX sc_put_back (fun vs H Q E h => ?_) (fun cdv A outer s H vs Q E hr h => ?_)
  · obtain ⟨l, us, ts, s0, es, rfl, _⟩ := h
    rfl
  obtain ⟨l, us, ts, s0, es, rfl, hl, hts, hB, ho, hz, hz', k⟩ := h
  refine ⟨_, (pss_cons (ps_expr (pe_df D_refuse_bad_steps hr (by first | decide | omega) (pa_cons (pv 0) pa_nil)))
  (pss_cons (ps_set (i := 1) sc_put_back.nd rfl (Or.inl rfl) pe_dnewK)
  (pss_cons (ps_for (passes_of rfl) rfl (pi_enum rfl Z.enumerate (pa_cons (pv 0) pa_nil)) (pg_tup rfl (pgs_cons (pg_name (i := 2) sc_put_back.nd rfl (Or.inl rfl)) (pgs_cons (pg_name (i := 3) sc_put_back.nd rfl (Or.inl rfl)) pgs_nil))) (pss_cons (ps_set (i := 4) sc_put_back.nd rfl (Or.inl rfl) (pe_df D_put_together hr (by first | decide | omega) (pa_cons (pe_slice (r := rSlT K) sl_tup (pv 3) (po_some pe_int) po_none) (pa_cons (pv 2) (pa_cons (pv 1) pa_nil)))))
  (pss_cons (ps_if (pt_cmp (pc_din (hu_of hr) (pe_ix (r := rIxT K) ix_tup (pv 3) pe_int (fun _ _ => rfl)) (pv 1)) rfl) (pss_one (ps_raiseA rfl (takes_of rfl rfl rfl rfl) T.x_NoSum (pa_cons (pe_jn (.cons pe_str (.cons (pe_fmt (pv 2)) (.cons pe_str .nil)))) pa_nil))) pss_nil)
  (pss_one (ps_dput (hu_of hr) (pv 1) (pe_ix (r := rIxT K) ix_tup (pv 3) pe_int (fun _ _ => rfl)) (pv 4) rfl)))))
  (pss_cons (ps_if (pt_cmpR op_gt (pe_callB (id := "len") (r := fun xs H Q => ∃ a kvs, xs = [V.ref a] ∧ H a = some (.dK kvs) ∧ Q (.int kvs.length) H) call_lenD (by rfl) Z.len PySem.boot_len (pa_cons (pv 1) pa_nil)) pe_int (nomark _)) (pss_one (ps_raiseA rfl (takes_of rfl rfl rfl rfl) T.x_NoSum (pa_cons pe_str pa_nil))) pss_nil)
  (pss_cons (ps_asg (pe_dget (hu_of hr) (pv 1) (pe_ix (r := rIxT K) ix_tup (pe_ix (r := rIxL K) ix_list (pv 0) (pe_un un_neg pe_int) (fun _ _ => rfl)) pe_int (fun _ _ => rfl)) (fun _ _ => rfl)) (pg_tup rfl (pgs_cons (pg_name (i := 5) sc_put_back.nd rfl (Or.inl rfl)) (pgs_cons (pg_name (i := 6) sc_put_back.nd rfl (Or.inl rfl)) pgs_nil))))
  (pss_cons (ps_if (pt_cmpR (r := rNeD K) (op_neD hr.units) (pv 6) (pe_callB (r := rSortedI K) cr_sortedI (by rfl) Z.sorted (by decide +kernel) (pa_cons (pv 6) pa_nil)) (nomark _)) (pss_one (ps_raiseA rfl (takes_of rfl rfl rfl rfl) T.x_NoSum (pa_cons pe_str pa_nil))) pss_nil)
  (pss_cons (ps_expr (pe_df D_refuse_no_sum hr (by first | decide | omega) (pa_cons (pv 5) pa_nil)))
  (pss_one (ps_ret (pv 5)))))))))), ?_⟩
  walk_at "st"
  walk_at "wk"
  refine u_goodsteps hl hts hB.ok (fun H1 f1 => ?_)
  walk_at "wk"
  rename_i hd0 H2 n2 f2 g2
  have f02 : Fr [] H H2 := f1.trans f2
  have hl2 := f02.get0 hl
  have nhl : hd0 ≠ l := nn_l n2 (f1.get0 hl)
  have ul := hts.length
  obtain ⟨⟨hne, hle, hok⟩, bb, hrun, L0, r0, eL⟩ := hB
  refine forEL (xs := us) (fun i σ H' => ∃ (o2 o3 o4 : Option V) (S : Hd), σ = [some (.ref l), some (.ref hd0), o2, o3, o4, none, none] ∧ runF (num i (ts.drop i)) S = some (Hd.put (fun _ => none) bb (s0, es)) ∧ Few S i ∧ HeldAt H' hd0 S i ∧ Fr [hd0] H2 H')
    ⟨_, _, _, fun _ => none, rfl, hrun, ⟨fun _ _ h => (nomatch h), fun _ _ _ _ _ h => (nomatch h)⟩, ⟨[], g2, HeldK.nil _⟩, .refl⟩ (fun i σ H' hi ⟨_, _, _, _, _, _, _, _, fx⟩ => SqL.of (fx.getl (ni1 nhl.symm) hl2)) ?_ ?_
  · rintro i x σ H' U H3 hx ⟨o2, o3, o4, S, rfl, hr1, hF, hH, fx⟩ nU f3 g3
    obtain ⟨t, ht, hxt⟩ := hts.at hx
    have il : i < us.length := (List.getElem?_eq_some_iff.mp hx).1
    rw [num_drop ht] at hr1
    have hr2 : (match stepF i t S with | none => none | some S' => runF (num (i + 1) (ts.drop (i + 1))) S') = some (Hd.put (fun _ => none) bb (s0, es)) := hr1
    cases hst : stepF i t S with
    | none => rw [hst] at hr2; cases hr2
    | some S' =>
      rw [hst] at hr2
      obtain ⟨r, q1, q2, q3, q4, q5⟩ := few_step hF hst
      have f03 : Fr [hd0] H H3 := f02.nil.trans (fx.trans f3.nil)
      obtain ⟨p, rfl, hp⟩ := hxt.mono f03
      walk_at "wk"
      refine w_slT (SqT.of hp) (tail_not _ _) (cut_tail _ _) (fun q H4 n4 f4 g4 => ?_)
      walk_at "wk"
      have f34 := f3.trans f4
      obtain ⟨kvs, hd1, hK⟩ := hH
      refine u_together (r := t.rest) (S := S) (m := i) (t := r) g4 ⟨kvs, f34.get0 hd1, hK.fr f34 (fun _ _ _ h => (nomatch h))⟩ (by omega) q1 (by omega) (fun v H5 f5 hH5 hE5 => ?_)
      walk_at "wk"
      obtain ⟨kv5, hd5, hK5⟩ := hH5
      refine w_ixT (SqT.of (f5.gett (f4.get0 hp))) (atI_nat (j := 0) rfl) ?_
      walk_at "wk"
      refine w_dii hd5 ?_
      rw [(hK5.2.2.2 t.box).1 q2]
      walk_at "wk"
      refine w_ixT (SqT.of (f5.gett (f4.get0 hp))) (atI_nat (j := 0) rfl) ?_
      refine w_dpi hd5 (by have := hK5.1; omega) (fun H6 f6 g6 => ?_)
      have ap : ∀ l xs, H5 l = some (.lst xs) → l ∉ [hd0] := fun l xs hl hm => by rw [List.mem_singleton.mp hm, hd5] at hl; cases hl
      refine ⟨_, _, _, S', rfl, hr2, q5, ⟨_, g6, ?_⟩, fx.trans (f3.nil.trans (f4.nil.trans (f5.trans f6)))⟩
      rw [q3]
      exact (hK5.fr f6 ap).put (hE5.fr f6 ap)
  · rintro σ H' ⟨o2, o3, o4, S, rfl, hr1, hF, ⟨kvs, hd1, hK⟩, fx⟩
    rw [show List.drop us.length ts = [] from List.drop_eq_nil_of_le (by omega)] at hr1
    have eS : S = Hd.put (fun _ => none) bb (s0, es) := Option.some.inj hr1
    subst eS
    have one := hK.one
    have fH : Fr [hd0] H H' := f02.nil.trans fx
    have hl' : H' l = some (.lst us) := fx.getl (ni1 nhl.symm) hl2
    have htl : ts[ts.length - 1]? = some ⟨bb, r0⟩ := by rw [eL, List.length_append, List.length_singleton, Nat.add_sub_cancel, List.getElem?_append_right (Nat.le_refl _), Nat.sub_self]; rfl
    obtain ⟨vL, hvL, p, rfl, hp⟩ := hts.at2 htl
    have hp' := fH.gett hp
    obtain ⟨v, hv, q5, y, l5, rfl, e1, e2, e3⟩ := (hK.2.2.2 bb).2 _ (Hd.put_same ..)
    have pos : 0 < ts.length := by cases ts with | nil => exact absurd rfl hne | cons _ _ => simp
    walk_at "wk"
    refine ⟨hd0, kvs, rfl, hd1, ?_⟩
    walk_at "wk"
    refine w_iteD (fun c => by omega) (fun c => ?_)
    walk_at "wk"
    refine ⟨1, rfl, ?_⟩
    refine w_ixL (SqL.of hl') (atI_last (by rw [ul]; exact hvL)) ?_
    walk_at "wk"
    refine w_ixT (SqT.of hp') (atI_nat (j := 0) rfl) ?_
    walk_at "wk"
    refine w_dgi hd1 hv ?_
    refine w_gtup (SqT.of e1) rfl ?_
    walk_at "wk"
    have e3' : H' l5 = some (.lst ((es.map fun n : Nat => (n : Int)).map V.int)) := by rw [List.map_map]; exact e3
    refine w_sortI (SqL.of e3') (fun as pa H3 hperm hpw n3 f3 g3 => ?_)
    refine w_neD (.lst (SqL.of (f3.get0 e3')) (dp_ints _)) (.lst (SqL.of g3) (dp_ints _)) (shaped_ints _) (shaped_ints _) ?_
    rw [eqv_ints]
    have hiff := sorted_iff hperm hpw
    have fE : Fr [] H H3 := ((fH.trans f3.nil).mono fun _ h => h).drop (f1.back n2)
    rcases k with ⟨k1, k2⟩ | ⟨k1, k2⟩
    · rw [decide_eq_true (hiff.mpr k1)]
      walk_at "wk"
      refine u_goodsum (e2.mono f3) ho hz' hz (fun H4 f4 => ?_)
      walk_at "wk"
      exact k2 _ _ (fE.trans f4) ((e2.mono f3).mono f4)
    · rw [decide_eq_false (fun q => k1 (hiff.mp q))]
      walk_at "wk"
      exact k2 _ fE
end
end My
namespace My
open PySem L2 Wk
local macro_rules | `(tactic| walk_at "hs") => `(tactic| first
  | assumption
  | (apply fr_st0; (case f => assumption); (case h => walk_at "hs"))
  | (apply fr_st1; (case f => assumption); (case n => walk_at "ne"); (case hw => first | assumption | exact List.mem_cons_self); (case h => walk_at "hs"))
  | fail "none")
local macro_rules | `(tactic| walk_at "nn") => `(tactic| first
  | (apply nn_st; (case n => assumption); (case h => walk_at "hs"))
  | (apply nn_l; (case n => assumption); (case h => walk_at "hp"))
  | (apply nn_d; (case n => assumption); (case h => walk_at "hp"))
  | (apply nn_i; (case n => assumption); (case h => walk_at "hp"))
  | fail "none")
local macro_rules | `(tactic| walk_at "su") => `(tactic| first
  | assumption
  | (apply fr_su; (case f => assumption); (case h => walk_at "su"))
  | fail "none")
local macro_rules | `(tactic| walk_at "as") => `(tactic| first
  | assumption
  | (apply fr_as; (case f => assumption); (case h => walk_at "as"))
  | fail "none")
local macro_rules | `(tactic| walk_at "ef") => `(tactic| first
  | assumption
  | (apply fr_ef0; (case f => assumption); (case h => walk_at "ef"))
  | (apply fr_ef; (case f => assumption); (case n1 => walk_at "ni"); (case n2 => walk_at "ni"); (case n3 => walk_at "ni"); (case h => walk_at "ef"))
  | fail "none")
local macro_rules | `(tactic| walk_at "td") => `(tactic| first
  | assumption
  | (apply fr_td0; (case f => assumption); (case h => walk_at "td"))
  | (apply fr_td; (case f => assumption); (case n1 => walk_at "ni"); (case n2 => walk_at "ni"); (case n3 => walk_at "ni"); (case h => walk_at "td"))
  | fail "none")
local macro_rules | `(tactic| walk_at "sk") => `(tactic| first
  | assumption
  | (apply fr_stk; (case f => assumption); (case a => walk_at "sk"))
  | fail "none")
local macro_rules | `(tactic| walk_at "al") => `(tactic| first
  | assumption
  | (apply fr_al; (case f => assumption); (case h => walk_at "al"))
  | fail "none")
local macro_rules | `(tactic| walk_at "nv") => `(tactic| first
  | assumption
  | (apply fr_nv; (case a => assumption); (case n => walk_at "ni"); (case h => walk_at "nv"))
  | fail "none")
local macro_rules | `(tactic| walk_at "ne") => `(tactic| first
  | assumption
  | (apply Ne.symm; assumption)
  | walk_at "nn"
  | (apply Ne.symm; walk_at "nn")
  | fail "none")
local macro_rules | `(tactic| walk_at "ni") => `(tactic| first
  | exact List.not_mem_nil
  | (apply ni1; walk_at "ne")
  | (apply ni2 <;> walk_at "ne")
  | (apply ni3 <;> walk_at "ne")
  | fail "none")
local macro_rules | `(tactic| walk_at "hp") => `(tactic| first
  | assumption
  | (apply Fr.gett; (case a => assumption); (case h => walk_at "hp"))
  | (apply Fr.getl; (case a => assumption); (case n => walk_at "ni"); (case h => walk_at "hp"))
  | (apply Fr.getd; (case a => assumption); (case n => walk_at "ni"); (case h => walk_at "hp"))
  | (apply Fr.geti; (case a => assumption); (case n => walk_at "ni"); (case h => walk_at "hp"))
  | fail "none")
local macro_rules | `(tactic| walk_at "sqs") => `(tactic| first
  | assumption
  | (apply Fr.sqln; (case a => assumption); (case n => walk_at "ni"); (case h => walk_at "sqs"))
  | fail "none")
local macro_rules | `(tactic| walk_at "sq") => `(tactic| first
  | assumption
  | (apply SqL.of; walk_at "hp")
  | (apply SqT.of; walk_at "hp")
  | walk_at "sqs"
  | fail "none")
local macro_rules | `(tactic| walk_at "fr") => `(tactic| first
  | exact Fr.refl
  | assumption
  | (apply Fr.mono; (case a => assumption); (case h => simp))
  | (apply fr_last; (case f => assumption); (case w => simp); (case g => walk_at "fr"))
  | fail "none")
local macro_rules | `(tactic| walk_at "st") => `(tactic| ((try dsimp only [cxOf, Cx.nox, Cx.wish]); (try simp only [L2.start, List.map_cons, List.map_nil, List.length_cons, List.length_nil, List.replicate, List.cons_append, List.nil_append, Nat.reduceAdd, Nat.reduceSub])))
local macro_rules | `(tactic| walk_at "lset") => `(tactic| (simp only [wipe, List.map_cons, List.map_nil, Int.reduceToNat, List.set_cons_zero, List.set_cons_succ] <;> rfl))
local macro_rules | `(tactic| walk_at "wk1") => `(tactic| first
  | with_reducible refine' w_seq ?_
  | with_reducible refine' w_asg ?_
  | ((with_reducible refine' w_name ?hs ?_); (case hs => walk_at "lset"))
  | ((with_reducible refine' w_var ?hv ?_); (case hv => rfl))
  | with_reducible refine' w_c ?_
  | with_reducible refine' w_op ?_
  | with_reducible refine' w_un ?_
  | with_reducible refine' w_test ?_
  | with_reducible refine' w_tB ?_
  | with_reducible refine' w_exbl ?_
  | with_reducible refine' w_exint ?_
  | with_reducible refine' w_t ?_
  | with_reducible refine' w_f ?_
  | with_reducible refine' w_ifS ?_
  | with_reducible refine' w_if ?_
  | with_reducible refine' w_and ?_
  | with_reducible refine' w_or ?_
  | with_reducible refine' w_not ?_
  | with_reducible refine' w_andV ?_
  | with_reducible refine' w_orV ?_
  | with_reducible refine' w_notV ?_
  | with_reducible refine' w_ret ?_
  | with_reducible refine' w_retN ?_
  | with_reducible refine' w_drop ?_
  | with_reducible refine' w_next ?_
  | with_reducible refine' w_nil ?_
  | with_reducible refine' w_cons ?_
  | with_reducible refine' w_cb ?_
  | with_reducible refine' w_call ?_
  | with_reducible refine' w_gsub ?_
  | with_reducible refine' w_gnil ?_
  | with_reducible refine' w_gcons ?_
  | ((with_reducible refine' w_gtup ?hs ?hn ?_); (case hs => walk_at "sq"); (case hn => rfl))
  | with_reducible refine' w_fld ?_
  | with_reducible refine' w_tfld ?_
  | with_reducible refine' w_sl ?_
  | with_reducible refine' w_nopart ?_
  | with_reducible refine' w_part ?_
  | with_reducible refine' w_bm ?_
  | with_reducible refine' w_bm0 ?_
  | with_reducible refine' w_yes ?_
  | with_reducible refine' w_tup ?_
  | with_reducible refine' w_lst ?_
  | with_reducible refine' w_I0 ?_
  | ((with_reducible refine' w_I ?hc ?_); (case hc => (first | (show (0 : Int) < _; first | decide | omega | assumption) | exact wide_div (by first | assumption | decide) (b := 200) (by first | assumption | decide) (by decide) (by decide) | exact wide_mul (a := 64) (b := 64) (by omega) (by omega) (by decide) (by decide) (by decide) | exact ⟨by decide, by decide, by decide⟩)))
  | ((with_reducible refine' w_eq ?he ?_); (case he => rfl))
  | ((with_reducible refine' w_ne ?he ?_); (case he => rfl))
  | ((with_reducible refine' w_ixL ?hs ?ha ?_); (case hs => walk_at "sq"); (case ha => rfl))
  | ((with_reducible refine' w_ixT ?hs ?ha ?_); (case hs => walk_at "sq"); (case ha => rfl))
  | ((with_reducible refine' w_lenL ?hs ?he ?_); (case hs => walk_at "sq"); (case he => first | (simp only [List.length_cons, List.length_nil, List.length_map]; rfl) | rfl))
  | ((with_reducible refine' w_lenT ?hs ?he ?_); (case hs => walk_at "sq"); (case he => first | (simp only [List.length_cons, List.length_nil, List.length_map]; rfl) | rfl))
  | ((with_reducible refine' w_setL ?hh ?hk ?he (fun H1 f1 g1 => ?_)); (case hh => walk_at "hp"); (case hk => rfl); (case he => walk_at "lset"))
  | ((with_reducible refine' w_newT ?hl (fun p H1 n1 f1 g1 => ?_)); (case hl => (first | decide | (simp only [List.length_cons, List.length_nil]; decide))))
  | ((with_reducible refine' w_newL ?hl (fun p H1 n1 f1 g1 => ?_)); (case hl => (first | decide | (simp only [List.length_cons, List.length_nil]; decide))))
  | with_reducible refine' w_for ?_
  | with_reducible refine' w_ilist ?_
  | ((with_reducible refine' w_ilb ?hs ?_); (case hs => walk_at "sq"))
  | with_reducible refine' w_itup ?_
  | ((with_reducible refine' w_itb ?hs ?_); (case hs => walk_at "sq"))
  | with_reducible refine' w_rng1 ?_
  | ((with_reducible refine' w_rgb1 ?h0 ?h1 ?_); (case h0 => first | decide | omega); (case h1 => first | decide | omega))
  | with_reducible refine' w_lc ?_
  | ((with_reducible refine' w_wipe ?hw ?_); (case hw => rfl))
  | ((with_reducible refine' w_cat ?ha ?hb ?hl (fun p H1 n1 f1 g1 => ?_)); (case ha => walk_at "hp"); (case hb => walk_at "hp"); (case hl => (first | decide | (simp only [List.length_cons, List.length_nil]; decide))))
  | with_reducible refine' w_dget ?_
  | with_reducible refine' w_din ?_
  | with_reducible refine' w_dnotin ?_
  | with_reducible refine' w_dput ?_
  | with_reducible refine' w_dnew ?_
  | with_reducible refine' w_newD (fun p H1 n1 f1 g1 => ?_)
  | ((with_reducible refine' w_slT ?hs ?hn ?he (fun p H1 n1 f1 g1 => ?_)); (case hs => walk_at "sq"); (case hn => decide); (case he => rfl))
  | with_reducible refine' w_meth ?_
  | with_reducible refine' w_make ?_
  | with_reducible refine' w_mkb (fun x dx H1 n1 m1 d1 f1 g1 => ?_)
  | with_reducible refine' w_fldaug ?_
  | with_reducible refine' w_tru ?_
  | ((with_reducible refine' w_trl ?hh ?_); (case hh => walk_at "hp"))
  | with_reducible refine' w_whb ?_
  | with_reducible refine' w_chain ?_
  | with_reducible refine' w_tyIs ?_
  | with_reducible refine' w_raise ?_
  | with_reducible refine' w_rab ?_
  | with_reducible refine' w_jn ?_
  | with_reducible refine' w_js ?_
  | with_reducible refine' w_jsn ?_
  | with_reducible refine' w_fmt ?_
  | with_reducible refine' w_isN ?_
  | with_reducible refine' w_intB ?_
  | with_reducible refine' w_istr ?_
  | with_reducible refine' w_stb ?_
  | ((with_reducible refine' w_inT ?hs ?hx ?ha ?_); (case hs => walk_at "sq"); (case hx => rfl); (case ha => rfl))
  | ((with_reducible refine' w_isf ?hd ?_); (case hd => decide +kernel))
  | ((with_reducible refine' w_ist ?hd ?_); (case hd => decide +kernel))
  | with_reducible refine' w_enumT ?_
  | ((with_reducible refine' w_enb ?hs ?_); (case hs => walk_at "sq"))
  | with_reducible refine' w_star ?_
  | ((with_reducible refine' w_stT ?hs ?_); (case hs => walk_at "sq"))
  | ((with_reducible refine' w_stL ?hs ?_); (case hs => walk_at "sq"))
  | with_reducible refine' w_par ?_
  | ((with_reducible refine' w_parb ?he ?_); (case he => walk_at "lset"))
  | with_reducible refine' w_enumL ?_
  | ((with_reducible refine' w_enlb ?hs ?_); (case hs => walk_at "sq"))
  | with_reducible refine' w_revL ?_
  | ((with_reducible refine' w_revb ?hs (fun p H1 n1 f1 g1 => ?_)); (case hs => walk_at "sq"))
  | with_reducible refine' w_max2 ?_
  | with_reducible refine' w_min2 ?_
  | with_reducible refine' w_lrg2 ?_
  | with_reducible refine' w_scI ?_
  | fail "none")
local macro_rules | `(tactic| walk_at "wk") => `(tactic| repeat walk_at "wk1")

section
variable {P : Program} {w : World} {K : PySem.W.Frag} {mg : Str → Option Value} {base : Heap} {f : Addr} {fd : FuncData} {a : Ad}
theorem sc_put_together : FnScope ["rest", "number", "held", "parts", "effects", "box", "part", "inner_effects"] ["rest", "number", "held"] (defScope s_put_together) := ⟨rfl, rfl, rfl, by decide +kernel, rfl, by decide +kernel, by decide +kernel⟩
theorem ok_together (F : Fun K "put_together" "put_together" s_put_together f fd) (Z : Blt mg) (T : Txt K mg a) (D_parts_of_g : Df P w K mg base CX0 1 "parts_of" ["part"] spPartsG) (D_is_effect_g : Df P w K mg base CX0 1 "is_effect" ["part"] spIsEffG) (D_filled_with : Df P w K mg base CX0 1 "filled_with" ["part", "filling"] spFilled) : FnOk P w K mg base CX0 2 f fd ["rest", "number", "held"] spTogether := by
  refine F.ok sc_put_together (fun vs H Q E h => ?_) (fun cdv A outer s H vs Q E hr h => ?_)
  · obtain ⟨p, r, n, hd, S, m, t, rfl, _⟩ := h
    rfl
  obtain ⟨p, r, n, hd, S, m, t, rfl, hp, ⟨kvs, hhd, hK⟩, hm, ht, hlen, k⟩ := h
  obtain ⟨w0, t0, ev, tl, ep⟩ := rst_parts r
  have vl := vals_len r
  refine ⟨_, (pss_cons (ps_set (i := 3) sc_put_together.nd rfl (Or.inl rfl) (pe_lst pa_nil))
  (pss_cons (ps_set (i := 4) sc_put_together.nd rfl (Or.inl rfl) (pe_lst pa_nil))
  (pss_cons (ps_for PassesOwn.never rfl (pi_tup (pe_df D_parts_of_g hr (by first | decide | omega) (pa_cons (pv 0) pa_nil))) (pg_name (i := 5) sc_put_together.nd rfl (Or.inl rfl)) (pss_cons (ps_if (pt_cmp (pc_dnotin (hu_of hr) (pv 5) (pv 2)) rfl) (pss_one ps_never) pss_nil)
  (pss_cons (ps_asg (pe_dpop1 (pv 2) (pv 5) ⟨rfl, rfl, rfl, rfl⟩) (pg_tup rfl (pgs_cons (pg_name (i := 6) sc_put_together.nd rfl (Or.inl rfl)) (pgs_cons (pg_name (i := 7) sc_put_together.nd rfl (Or.inl rfl)) pgs_nil))))
  (pss_cons (ps_expr (pe_bm PySem.F.plainAttrs_list PySem.F.slot_list_append PySem.F.type_list_append mt_append (pv 3) (pa_cons (pv 6) pa_nil)))
  (pss_one (ps_expr (pe_bm PySem.F.plainAttrs_list PySem.F.slot_list_extend PySem.F.type_list_extend mt_extend (pv 4) (pa_cons (pv 7) pa_nil))))))))
  (pss_cons (ps_if (pt_val (pe_df D_is_effect_g hr (by first | decide | omega) (pa_cons (pv 0) pa_nil)) (fun _ => rfl)) (pss_one (ps_expr (pe_bm PySem.F.plainAttrs_list PySem.F.slot_list_append PySem.F.type_list_append mt_append (pv 4) (pa_cons (pv 1) pa_nil)))) pss_nil)
  (pss_one (ps_ret (pe_tup (pa_cons (pe_df D_filled_with hr (by first | decide | omega) (pa_cons (pv 0) (pa_cons (pv 3) pa_nil))) (pa_cons (pv 4) pa_nil))))))))), ?_⟩
  walk_at "st"
  walk_at "wk"
  rename_i pl H1 n1 f1 g1 el H2 n2 f2 g2
  have f02 : Fr [] H H2 := f1.trans f2
  have hp2 := f02.gett hp
  rw [ev] at hp2
  have npl : pl ≠ hd := nn_d n1 hhd
  have nel : el ≠ hd := nn_d n2 (f1.get0 hhd)
  have npe : pl ≠ el := fun e => by rw [← e, g1] at n2; cases n2
  refine u_partsG hp2 (by omega) (fun q H3 g3 f3 => ?_)
  rw [← ev, ep] at g3
  have f03 := f02.trans f3
  walk_at "wk"
  have old : ∀ l xs, H l = some (.lst xs) → l ∉ [hd, pl, el] := fun l xs hl => by
    have a1 : l ≠ hd := fun e => by rw [e, hhd] at hl; cases hl
    have a2 : l ≠ pl := (nn_l n1 hl).symm
    have a3 : l ≠ el := (nn_l n2 (f1.get0 hl)).symm
    simp [a1, a2, a3]
  have bl : r.bxs.length ≤ 2 := by cases r <;> simp [Rst.bxs]
  refine forT (xs := r.bxs.map fun b => V.int (b : Nat)) (fun i σ H' => ∃ (o5 o6 o7 : Option V) (kv' : List (Key × V)) (r1 : List Sm × List Nat × Hd) (ps : List V), σ = [some (.ref p), some (.int n), some (.ref hd), some (.ref pl), some (.ref el), o5, o6, o7] ∧
      takeAll (r.bxs.take i) S = some r1 ∧ r1.2.1.length ≤ 1000 ∧ H' hd = some (.dK kv') ∧ HeldK H kv' r1.2.2 m ∧ H' pl = some (.lst ps) ∧ AllSum H' ps r1.1 ∧ ps.length = i ∧ H' el = some (.lst (r1.2.1.map fun x => V.int (x : Nat))) ∧ Fr [hd, pl, el] H3 H')
    ⟨_, _, _, kvs, ([], [], S), [], rfl, rfl, by simp, f03.get0 hhd, hK, f3.get0 (f2.get0 g1), trivial, rfl, f3.get0 g2, .refl⟩ (fun i σ H' hi ⟨_, _, _, _, _, _, _, _, _, _, _, _, _, _, _, fx⟩ => SqT.of (fx.gett g3)) ?_ ?_
  · rintro i x σ H' hx ⟨o5, o6, o7, kv', r1, ps, rfl, h1, h2, h3, h4, h5, h6, h7, h8, fx⟩
    rw [List.getElem?_map, Option.map_eq_some_iff] at hx
    obtain ⟨b, hb, rfl⟩ := hx
    obtain ⟨x, hx, ht2, hle⟩ := takeAll_step ht hb h1
    obtain ⟨v, hv, hE⟩ := (h4.2.2.2 b).2 x hx
    have il : i < r.bxs.length := (List.getElem?_eq_some_iff.mp hb).1
    walk_at "wk"
    refine w_dni h3 ?_
    rw [hv]
    walk_at "wk"
    refine w_iteb (fun c => by cases c) (fun _ => ?_)
    walk_at "wk"
    refine w_dpop ?_
    walk_at "wk"
    refine ⟨_, rfl, w_isD h3, ?_⟩
    walk_at "wk"
    refine w_popb h3 hv (fun H4 f4 g4 => ?_)
    have f0' : Fr [hd, pl, el] H H' := f03.nil.trans fx
    obtain ⟨q5, y, l5, rfl, e1, e2, e3⟩ := hE
    have nl := old _ _ e3
    simp only [List.mem_cons, List.not_mem_nil, or_false, not_or] at nl
    obtain ⟨nl1, nl2, nl3⟩ := nl
    have f04 : Fr [hd, pl, el] H H4 := f0'.trans (f4.mono fun _ h => by rw [List.mem_singleton.mp h]; simp)
    have e14 := f04.gett e1
    have e24 := e2.mono f04
    have e34 := f04.getl (by simp [nl1, nl2, nl3]) e3
    refine w_gtup (SqT.of e14) rfl ?_
    have hpl4 := f4.getl (ni1 npl) h5
    have hel4 := f4.getl (ni1 nel) h8
    have hx2 : x.2.length ≤ 1000 := by rw [List.length_append] at hle; omega
    walk_at "wk"
    refine w_tyl hpl4 ?_
    walk_at "wk"
    refine w_app hpl4 (by omega) (fun H5 f5 g5 => ?_)
    walk_at "wk"
    have hel5 := f5.getl (ni1 npe.symm) hel4
    have e35 := f5.getl (ni1 nl2) e34
    walk_at "wk"
    refine w_tyl hel5 ?_
    walk_at "wk"
    refine w_ext hel5 e35 (by rw [List.length_map, List.length_map]; omega) (fun H6 f6 g6 => ?_)
    rw [← List.map_append] at g6
    walk_at "wk"
    have f46 : Fr [hd, pl, el] H4 H6 := (f5.mono fun _ h => by rw [List.mem_singleton.mp h]; simp).trans (f6.mono fun _ h => by rw [List.mem_singleton.mp h]; simp)
    refine ⟨_, _, _, _, _, ps ++ [y], rfl, ht2, by show (r1.2.1 ++ x.2).length ≤ 1000; omega, f6.getd (ni1 nel.symm) (f5.getd (ni1 npl.symm) g4), h4.drop, f6.getl (ni1 npe) g5, AllSum.app (h6.mono ((f4.mono fun _ h => by rw [List.mem_singleton.mp h]; simp).trans f46)) ⟨e24.mono f46, trivial⟩, by simp [h7], g6, fx.trans ((f4.mono fun _ h => by rw [List.mem_singleton.mp h]; simp).trans f46)⟩
  · rintro σ H' ⟨o5, o6, o7, kv', r1, ps, rfl, h1, h2, h3, h4, h5, h6, h7, h8, fx⟩
    rw [List.length_map, List.take_length, ht] at h1
    cases h1
    have f0' : Fr [hd, pl, el] H H' := f03.nil.trans fx
    have hp' := f0'.gett hp
    rw [ev] at hp'
    walk_at "wk"
    refine ⟨p, w0, t0, rfl, hp', fun H4 f4 => ?_⟩
    have el' : r.loud = (decide (w0 = "say") || decide (w0 = "ask")) := by
      have := loud_word r
      rw [ev] at this
      exact this w0 t0 rfl
    rw [← el']
    have f4' := f0'.trans f4.nil
    have hpl4 := f4.get0 h5
    have hel4 := f4.get0 h8
    have tail : ∀ H5, Fr [el] H4 H5 → H5 el = some (.lst ((t.2.1 ++ lbl n r).map fun x => V.int (x : Nat))) → spFilled [.ref p, .ref pl] H5 (fun x H1 => tCons (tVar 4) tNil [some (.ref p), some (.int n), some (.ref hd), some (.ref pl), some (.ref el), o5, o6, o7] H1 fun xs H2 => NewT Q (x :: xs) H2) E0 := by
      intro H5 f5 g5
      have hp5 := f5.gett (f4'.gett hp)
      have hpl5 := f5.getl (ni1 npe) hpl4
      have as5 := (h6.mono f4).mono f5
      refine u_filled hp5 (by rw [ev]; simp) (by omega) hpl5 (by rw [h7, List.length_map]; omega) (fun y H6 g6 f6 => ?_)
      have hs := mk_sum g6 (as5.mono f6) (takeAll_len ht)
      walk_at "wk"
      rename_i r7 H7 n7 f7 g7
      have fA : Fr [hd, pl, el] H H7 := f4'.trans ((f5.mono fun _ h => by rw [List.mem_singleton.mp h]; simp).trans (f6.nil.trans f7.nil))
      have fB : Fr [pl, el, hd] H H7 := fA.mono fun _ h => by
        simp only [List.mem_cons, List.not_mem_nil, or_false] at h ⊢
        rcases h with h | h | h
        · exact .inr (.inr h)
        · exact .inl h
        · exact .inr (.inl h)
      exact k _ _ ((fB.drop n1).drop (f1.back n2)) ⟨kv', f7.get0 (f6.get0 (f5.getd (ni1 nel.symm) (f4.get0 h3))), h4.fr fA old⟩ ⟨r7, .ref y, el, rfl, g7, hs.mono f7, f7.get0 (f6.get0 g5)⟩
    cases hL : r.loud with
    | true =>
      have eL : lbl n r = [n] := by unfold lbl; rw [hL]; rfl
      walk_at "wk"
      refine w_tyl hel4 ?_
      walk_at "wk"
      refine w_app hel4 (by rw [List.length_map]; omega) (fun H5 f5 g5 => ?_)
      walk_at "wk"
      refine tail H5 f5 ?_
      rw [eL, List.map_append]
      exact g5
    | false =>
      have eL : lbl n r = [] := by unfold lbl; rw [hL]; rfl
      walk_at "wk"
      refine tail H4 .refl ?_
      rw [eL, List.append_nil]
      exact hel4
end
end My
namespace My
open PySem L2 Wk
local macro_rules | `(tactic| walk_at "hs") => `(tactic| first
  | assumption
  | (apply fr_st0; (case f => assumption); (case h => walk_at "hs"))
  | (apply fr_st1; (case f => assumption); (case n => walk_at "ne"); (case hw => first | assumption | exact List.mem_cons_self); (case h => walk_at "hs"))
  | fail "none")
local macro_rules | `(tactic| walk_at "nn") => `(tactic| first
  | (apply nn_st; (case n => assumption); (case h => walk_at "hs"))
  | (apply nn_l; (case n => assumption); (case h => walk_at "hp"))
  | (apply nn_d; (case n => assumption); (case h => walk_at "hp"))
  | (apply nn_i; (case n => assumption); (case h => walk_at "hp"))
  | fail "none")
local macro_rules | `(tactic| walk_at "su") => `(tactic| first
  | assumption
  | (apply fr_su; (case f => assumption); (case h => walk_at "su"))
  | fail "none")
local macro_rules | `(tactic| walk_at "as") => `(tactic| first
  | assumption
  | (apply fr_as; (case f => assumption); (case h => walk_at "as"))
  | fail "none")
local macro_rules | `(tactic| walk_at "ef") => `(tactic| first
  | assumption
  | (apply fr_ef0; (case f => assumption); (case h => walk_at "ef"))
  | (apply fr_ef; (case f => assumption); (case n1 => walk_at "ni"); (case n2 => walk_at "ni"); (case n3 => walk_at "ni"); (case h => walk_at "ef"))
  | fail "none")
local macro_rules | `(tactic| walk_at "td") => `(tactic| first
  | assumption
  | (apply fr_td0; (case f => assumption); (case h => walk_at "td"))
  | (apply fr_td; (case f => assumption); (case n1 => walk_at "ni"); (case n2 => walk_at "ni"); (case n3 => walk_at "ni"); (case h => walk_at "td"))
  | fail "none")
local macro_rules | `(tactic| walk_at "sk") => `(tactic| first
  | assumption
  | (apply fr_stk; (case f => assumption); (case a => walk_at "sk"))
  | fail "none")
local macro_rules | `(tactic| walk_at "al") => `(tactic| first
  | assumption
  | (apply fr_al; (case f => assumption); (case h => walk_at "al"))
  | fail "none")
local macro_rules | `(tactic| walk_at "nv") => `(tactic| first
  | assumption
  | (apply fr_nv; (case a => assumption); (case n => walk_at "ni"); (case h => walk_at "nv"))
  | fail "none")
local macro_rules | `(tactic| walk_at "ne") => `(tactic| first
  | assumption
  | (apply Ne.symm; assumption)
  | walk_at "nn"
  | (apply Ne.symm; walk_at "nn")
  | fail "none")
local macro_rules | `(tactic| walk_at "ni") => `(tactic| first
  | exact List.not_mem_nil
  | (apply ni1; walk_at "ne")
  | (apply ni2 <;> walk_at "ne")
  | (apply ni3 <;> walk_at "ne")
  | fail "none")
local macro_rules | `(tactic| walk_at "hp") => `(tactic| first
  | assumption
  | (apply Fr.gett; (case a => assumption); (case h => walk_at "hp"))
  | (apply Fr.getl; (case a => assumption); (case n => walk_at "ni"); (case h => walk_at "hp"))
  | (apply Fr.getd; (case a => assumption); (case n => walk_at "ni"); (case h => walk_at "hp"))
  | (apply Fr.geti; (case a => assumption); (case n => walk_at "ni"); (case h => walk_at "hp"))
  | fail "none")
local macro_rules | `(tactic| walk_at "sqs") => `(tactic| first
  | assumption
  | (apply Fr.sqln; (case a => assumption); (case n => walk_at "ni"); (case h => walk_at "sqs"))
  | fail "none")
local macro_rules | `(tactic| walk_at "sq") => `(tactic| first
  | assumption
  | (apply SqL.of; walk_at "hp")
  | (apply SqT.of; walk_at "hp")
  | walk_at "sqs"
  | fail "none")
local macro_rules | `(tactic| walk_at "fr") => `(tactic| first
  | exact Fr.refl
  | assumption
  | (apply Fr.mono; (case a => assumption); (case h => simp))
  | (apply fr_last; (case f => assumption); (case w => simp); (case g => walk_at "fr"))
  | fail "none")
local macro_rules | `(tactic| walk_at "st") => `(tactic| ((try dsimp only [cxOf, Cx.nox, Cx.wish]); (try simp only [L2.start, List.map_cons, List.map_nil, List.length_cons, List.length_nil, List.replicate, List.cons_append, List.nil_append, Nat.reduceAdd, Nat.reduceSub])))
local macro_rules | `(tactic| walk_at "lset") => `(tactic| (simp only [wipe, List.map_cons, List.map_nil, Int.reduceToNat, List.set_cons_zero, List.set_cons_succ] <;> rfl))
local macro_rules | `(tactic| walk_at "wk1") => `(tactic| first
  | with_reducible refine' w_seq ?_
  | with_reducible refine' w_asg ?_
  | ((with_reducible refine' w_name ?hs ?_); (case hs => walk_at "lset"))
  | ((with_reducible refine' w_var ?hv ?_); (case hv => rfl))
  | with_reducible refine' w_c ?_
  | with_reducible refine' w_op ?_
  | with_reducible refine' w_un ?_
  | with_reducible refine' w_test ?_
  | with_reducible refine' w_tB ?_
  | with_reducible refine' w_exbl ?_
  | with_reducible refine' w_exint ?_
  | with_reducible refine' w_t ?_
  | with_reducible refine' w_f ?_
  | with_reducible refine' w_ifS ?_
  | with_reducible refine' w_if ?_
  | with_reducible refine' w_and ?_
  | with_reducible refine' w_or ?_
  | with_reducible refine' w_not ?_
  | with_reducible refine' w_andV ?_
  | with_reducible refine' w_orV ?_
  | with_reducible refine' w_notV ?_
  | with_reducible refine' w_ret ?_
  | with_reducible refine' w_retN ?_
  | with_reducible refine' w_drop ?_
  | with_reducible refine' w_next ?_
  | with_reducible refine' w_nil ?_
  | with_reducible refine' w_cons ?_
  | with_reducible refine' w_cb ?_
  | with_reducible refine' w_call ?_
  | with_reducible refine' w_gsub ?_
  | with_reducible refine' w_gnil ?_
  | with_reducible refine' w_gcons ?_
  | ((with_reducible refine' w_gtup ?hs ?hn ?_); (case hs => walk_at "sq"); (case hn => rfl))
  | with_reducible refine' w_fld ?_
  | with_reducible refine' w_tfld ?_
  | with_reducible refine' w_sl ?_
  | with_reducible refine' w_nopart ?_
  | with_reducible refine' w_part ?_
  | with_reducible refine' w_bm ?_
  | with_reducible refine' w_bm0 ?_
  | with_reducible refine' w_yes ?_
  | with_reducible refine' w_tup ?_
  | with_reducible refine' w_lst ?_
  | with_reducible refine' w_I0 ?_
  | ((with_reducible refine' w_I ?hc ?_); (case hc => (first | (show (0 : Int) < _; first | decide | omega | assumption) | exact wide_div (by first | assumption | decide) (b := 200) (by first | assumption | decide) (by decide) (by decide) | exact wide_mul (a := 64) (b := 64) (by omega) (by omega) (by decide) (by decide) (by decide) | exact ⟨by decide, by decide, by decide⟩)))
  | ((with_reducible refine' w_eq ?he ?_); (case he => rfl))
  | ((with_reducible refine' w_ne ?he ?_); (case he => rfl))
  | ((with_reducible refine' w_ixL ?hs ?ha ?_); (case hs => walk_at "sq"); (case ha => rfl))
  | ((with_reducible refine' w_ixT ?hs ?ha ?_); (case hs => walk_at "sq"); (case ha => rfl))
  | ((with_reducible refine' w_lenL ?hs ?he ?_); (case hs => walk_at "sq"); (case he => first | (simp only [List.length_cons, List.length_nil, List.length_map]; rfl) | rfl))
  | ((with_reducible refine' w_lenT ?hs ?he ?_); (case hs => walk_at "sq"); (case he => first | (simp only [List.length_cons, List.length_nil, List.length_map]; rfl) | rfl))
  | ((with_reducible refine' w_setL ?hh ?hk ?he (fun H1 f1 g1 => ?_)); (case hh => walk_at "hp"); (case hk => rfl); (case he => walk_at "lset"))
  | ((with_reducible refine' w_newT ?hl (fun p H1 n1 f1 g1 => ?_)); (case hl => (first | decide | (simp only [List.length_cons, List.length_nil]; decide))))
  | ((with_reducible refine' w_newL ?hl (fun p H1 n1 f1 g1 => ?_)); (case hl => (first | decide | (simp only [List.length_cons, List.length_nil]; decide))))
  | with_reducible refine' w_for ?_
  | with_reducible refine' w_ilist ?_
  | ((with_reducible refine' w_ilb ?hs ?_); (case hs => walk_at "sq"))
  | with_reducible refine' w_itup ?_
  | ((with_reducible refine' w_itb ?hs ?_); (case hs => walk_at "sq"))
  | with_reducible refine' w_rng1 ?_
  | ((with_reducible refine' w_rgb1 ?h0 ?h1 ?_); (case h0 => first | decide | omega); (case h1 => first | decide | omega))
  | with_reducible refine' w_lc ?_
  | ((with_reducible refine' w_wipe ?hw ?_); (case hw => rfl))
  | ((with_reducible refine' w_cat ?ha ?hb ?hl (fun p H1 n1 f1 g1 => ?_)); (case ha => walk_at "hp"); (case hb => walk_at "hp"); (case hl => (first | decide | (simp only [List.length_cons, List.length_nil]; decide))))
  | with_reducible refine' w_dget ?_
  | with_reducible refine' w_din ?_
  | with_reducible refine' w_dnotin ?_
  | with_reducible refine' w_dput ?_
  | with_reducible refine' w_dnew ?_
  | with_reducible refine' w_newD (fun p H1 n1 f1 g1 => ?_)
  | ((with_reducible refine' w_slT ?hs ?hn ?he (fun p H1 n1 f1 g1 => ?_)); (case hs => walk_at "sq"); (case hn => decide); (case he => rfl))
  | with_reducible refine' w_meth ?_
  | with_reducible refine' w_make ?_
  | with_reducible refine' w_mkb (fun x dx H1 n1 m1 d1 f1 g1 => ?_)
  | with_reducible refine' w_fldaug ?_
  | with_reducible refine' w_tru ?_
  | ((with_reducible refine' w_trl ?hh ?_); (case hh => walk_at "hp"))
  | with_reducible refine' w_whb ?_
  | with_reducible refine' w_chain ?_
  | with_reducible refine' w_tyIs ?_
  | with_reducible refine' w_raise ?_
  | with_reducible refine' w_rab ?_
  | with_reducible refine' w_jn ?_
  | with_reducible refine' w_js ?_
  | with_reducible refine' w_jsn ?_
  | with_reducible refine' w_fmt ?_
  | with_reducible refine' w_isN ?_
  | with_reducible refine' w_intB ?_
  | with_reducible refine' w_istr ?_
  | with_reducible refine' w_stb ?_
  | ((with_reducible refine' w_inT ?hs ?hx ?ha ?_); (case hs => walk_at "sq"); (case hx => rfl); (case ha => rfl))
  | ((with_reducible refine' w_isf ?hd ?_); (case hd => decide +kernel))
  | ((with_reducible refine' w_ist ?hd ?_); (case hd => decide +kernel))
  | with_reducible refine' w_enumT ?_
  | ((with_reducible refine' w_enb ?hs ?_); (case hs => walk_at "sq"))
  | with_reducible refine' w_star ?_
  | ((with_reducible refine' w_stT ?hs ?_); (case hs => walk_at "sq"))
  | ((with_reducible refine' w_stL ?hs ?_); (case hs => walk_at "sq"))
  | with_reducible refine' w_par ?_
  | ((with_reducible refine' w_parb ?he ?_); (case he => walk_at "lset"))
  | with_reducible refine' w_enumL ?_
  | ((with_reducible refine' w_enlb ?hs ?_); (case hs => walk_at "sq"))
  | with_reducible refine' w_revL ?_
  | ((with_reducible refine' w_revb ?hs (fun p H1 n1 f1 g1 => ?_)); (case hs => walk_at "sq"))
  | with_reducible refine' w_max2 ?_
  | with_reducible refine' w_min2 ?_
  | with_reducible refine' w_lrg2 ?_
  | with_reducible refine' w_scI ?_
  | fail "none")
local macro_rules | `(tactic| walk_at "wk") => `(tactic| repeat walk_at "wk1")

section
variable {P : Program} {w : World} {K : PySem.W.Frag} {mg : Str → Option Value} {base : Heap} {f : Addr} {fd : FuncData} {a : Ad}
theorem sc_refuse_no_sum : FnScope ["part"] ["part"] (defScope s_refuse_no_sum) := ⟨rfl, rfl, rfl, by decide +kernel, rfl, by decide +kernel, by decide +kernel⟩
theorem ok_noSum (F : Fun K "refuse_no_sum" "refuse_no_sum" s_refuse_no_sum f fd) (Z : Blt mg) (T : Txt K mg a) (D_refuse_bad_sum : Df P w K mg base CX0 4 "refuse_bad_sum" ["part"] spGoodSum) : FnOk P w K mg base CX0 5 f fd ["part"] spGoodSum := by
  refine F.ok sc_refuse_no_sum (fun vs H Q E h => ?_) (fun cdv A outer s H vs Q E hr h => ?_)
  · obtain ⟨v, s, rfl, _⟩ := h
    rfl
  obtain ⟨v, s, rfl, hs, ho, hd, hz, k⟩ := h
  refine ⟨_, (pss_one (L2.ps_try_only rfl rfl ⟨rfl, by decide, .inl T.x_BadSum.m⟩ LamX.takes0 (fun W pn xe tk _ => (pss_one (ps_expr (pe_df D_refuse_bad_sum hr (by first | decide | omega) (pa_cons (pv 0) pa_nil))))) (fun a oe cls d pn _ _ => (pss_one ps_never)))), ?_⟩
  walk_at "st"
  walk_at "wk"
  refine u_goodsum hs ho hd hz (fun H1 f1 => ?_)
  walk_at "wk"
  exact k H1 f1
end
end My
namespace My
open PySem L2 Wk
local macro_rules | `(tactic| walk_at "hs") => `(tactic| first
  | assumption
  | (apply fr_st0; (case f => assumption); (case h => walk_at "hs"))
  | (apply fr_st1; (case f => assumption); (case n => walk_at "ne"); (case hw => first | assumption | exact List.mem_cons_self); (case h => walk_at "hs"))
  | fail "none")
local macro_rules | `(tactic| walk_at "nn") => `(tactic| first
  | (apply nn_st; (case n => assumption); (case h => walk_at "hs"))
  | (apply nn_l; (case n => assumption); (case h => walk_at "hp"))
  | (apply nn_d; (case n => assumption); (case h => walk_at "hp"))
  | (apply nn_i; (case n => assumption); (case h => walk_at "hp"))
  | fail "none")
local macro_rules | `(tactic| walk_at "su") => `(tactic| first
  | assumption
  | (apply fr_su; (case f => assumption); (case h => walk_at "su"))
  | fail "none")
local macro_rules | `(tactic| walk_at "as") => `(tactic| first
  | assumption
  | (apply fr_as; (case f => assumption); (case h => walk_at "as"))
  | fail "none")
local macro_rules | `(tactic| walk_at "ef") => `(tactic| first
  | assumption
  | (apply fr_ef0; (case f => assumption); (case h => walk_at "ef"))
  | (apply fr_ef; (case f => assumption); (case n1 => walk_at "ni"); (case n2 => walk_at "ni"); (case n3 => walk_at "ni"); (case h => walk_at "ef"))
  | fail "none")
local macro_rules | `(tactic| walk_at "td") => `(tactic| first
  | assumption
  | (apply fr_td0; (case f => assumption); (case h => walk_at "td"))
  | (apply fr_td; (case f => assumption); (case n1 => walk_at "ni"); (case n2 => walk_at "ni"); (case n3 => walk_at "ni"); (case h => walk_at "td"))
  | fail "none")
local macro_rules | `(tactic| walk_at "sk") => `(tactic| first
  | assumption
  | (apply fr_stk; (case f => assumption); (case a => walk_at "sk"))
  | fail "none")
local macro_rules | `(tactic| walk_at "al") => `(tactic| first
  | assumption
  | (apply fr_al; (case f => assumption); (case h => walk_at "al"))
  | fail "none")
local macro_rules | `(tactic| walk_at "nv") => `(tactic| first
  | assumption
  | (apply fr_nv; (case a => assumption); (case n => walk_at "ni"); (case h => walk_at "nv"))
  | fail "none")
local macro_rules | `(tactic| walk_at "ne") => `(tactic| first
  | assumption
  | (apply Ne.symm; assumption)
  | walk_at "nn"
  | (apply Ne.symm; walk_at "nn")
  | fail "none")
local macro_rules | `(tactic| walk_at "ni") => `(tactic| first
  | exact List.not_mem_nil
  | (apply ni1; walk_at "ne")
  | (apply ni2 <;> walk_at "ne")
  | (apply ni3 <;> walk_at "ne")
  | fail "none")
local macro_rules | `(tactic| walk_at "hp") => `(tactic| first
  | assumption
  | (apply Fr.gett; (case a => assumption); (case h => walk_at "hp"))
  | (apply Fr.getl; (case a => assumption); (case n => walk_at "ni"); (case h => walk_at "hp"))
  | (apply Fr.getd; (case a => assumption); (case n => walk_at "ni"); (case h => walk_at "hp"))
  | (apply Fr.geti; (case a => assumption); (case n => walk_at "ni"); (case h => walk_at "hp"))
  | fail "none")
local macro_rules | `(tactic| walk_at "sqs") => `(tactic| first
  | assumption
  | (apply Fr.sqln; (case a => assumption); (case n => walk_at "ni"); (case h => walk_at "sqs"))
  | fail "none")
local macro_rules | `(tactic| walk_at "sq") => `(tactic| first
  | assumption
  | (apply SqL.of; walk_at "hp")
  | (apply SqT.of; walk_at "hp")
  | walk_at "sqs"
  | fail "none")
local macro_rules | `(tactic| walk_at "fr") => `(tactic| first
  | exact Fr.refl
  | assumption
  | (apply Fr.mono; (case a => assumption); (case h => simp))
  | (apply fr_last; (case f => assumption); (case w => simp); (case g => walk_at "fr"))
  | fail "none")
local macro_rules | `(tactic| walk_at "st") => `(tactic| ((try dsimp only [cxOf, Cx.nox, Cx.wish]); (try simp only [L2.start, List.map_cons, List.map_nil, List.length_cons, List.length_nil, List.replicate, List.cons_append, List.nil_append, Nat.reduceAdd, Nat.reduceSub])))
local macro_rules | `(tactic| walk_at "lset") => `(tactic| (simp only [wipe, List.map_cons, List.map_nil, Int.reduceToNat, List.set_cons_zero, List.set_cons_succ] <;> rfl))
local macro_rules | `(tactic| walk_at "wk1") => `(tactic| first
  | with_reducible refine' w_seq ?_
  | with_reducible refine' w_asg ?_
  | ((with_reducible refine' w_name ?hs ?_); (case hs => walk_at "lset"))
  | ((with_reducible refine' w_var ?hv ?_); (case hv => rfl))
  | with_reducible refine' w_c ?_
  | with_reducible refine' w_op ?_
  | with_reducible refine' w_un ?_
  | with_reducible refine' w_test ?_
  | with_reducible refine' w_tB ?_
  | with_reducible refine' w_exbl ?_
  | with_reducible refine' w_exint ?_
  | with_reducible refine' w_t ?_
  | with_reducible refine' w_f ?_
  | with_reducible refine' w_ifS ?_
  | with_reducible refine' w_if ?_
  | with_reducible refine' w_and ?_
  | with_reducible refine' w_or ?_
  | with_reducible refine' w_not ?_
  | with_reducible refine' w_andV ?_
  | with_reducible refine' w_orV ?_
  | with_reducible refine' w_notV ?_
  | with_reducible refine' w_ret ?_
  | with_reducible refine' w_retN ?_
  | with_reducible refine' w_drop ?_
  | with_reducible refine' w_next ?_
  | with_reducible refine' w_nil ?_
  | with_reducible refine' w_cons ?_
  | with_reducible refine' w_cb ?_
  | with_reducible refine' w_call ?_
  | with_reducible refine' w_gsub ?_
  | with_reducible refine' w_gnil ?_
  | with_reducible refine' w_gcons ?_
  | ((with_reducible refine' w_gtup ?hs ?hn ?_); (case hs => walk_at "sq"); (case hn => rfl))
  | with_reducible refine' w_fld ?_
  | with_reducible refine' w_tfld ?_
  | with_reducible refine' w_sl ?_
  | with_reducible refine' w_nopart ?_
  | with_reducible refine' w_part ?_
  | with_reducible refine' w_bm ?_
  | with_reducible refine' w_bm0 ?_
  | with_reducible refine' w_yes ?_
  | with_reducible refine' w_tup ?_
  | with_reducible refine' w_lst ?_
  | with_reducible refine' w_I0 ?_
  | ((with_reducible refine' w_I ?hc ?_); (case hc => (first | (show (0 : Int) < _; first | decide | omega | assumption) | exact wide_div (by first | assumption | decide) (b := 200) (by first | assumption | decide) (by decide) (by decide) | exact wide_mul (a := 64) (b := 64) (by omega) (by omega) (by decide) (by decide) (by decide) | exact ⟨by decide, by decide, by decide⟩)))
  | ((with_reducible refine' w_eq ?he ?_); (case he => rfl))
  | ((with_reducible refine' w_ne ?he ?_); (case he => rfl))
  | ((with_reducible refine' w_ixL ?hs ?ha ?_); (case hs => walk_at "sq"); (case ha => rfl))
  | ((with_reducible refine' w_ixT ?hs ?ha ?_); (case hs => walk_at "sq"); (case ha => rfl))
  | ((with_reducible refine' w_lenL ?hs ?he ?_); (case hs => walk_at "sq"); (case he => first | (simp only [List.length_cons, List.length_nil, List.length_map]; rfl) | rfl))
  | ((with_reducible refine' w_lenT ?hs ?he ?_); (case hs => walk_at "sq"); (case he => first | (simp only [List.length_cons, List.length_nil, List.length_map]; rfl) | rfl))
  | ((with_reducible refine' w_setL ?hh ?hk ?he (fun H1 f1 g1 => ?_)); (case hh => walk_at "hp"); (case hk => rfl); (case he => walk_at "lset"))
  | ((with_reducible refine' w_newT ?hl (fun p H1 n1 f1 g1 => ?_)); (case hl => (first | decide | (simp only [List.length_cons, List.length_nil]; decide))))
  | ((with_reducible refine' w_newL ?hl (fun p H1 n1 f1 g1 => ?_)); (case hl => (first | decide | (simp only [List.length_cons, List.length_nil]; decide))))
  | with_reducible refine' w_for ?_
  | with_reducible refine' w_ilist ?_
  | ((with_reducible refine' w_ilb ?hs ?_); (case hs => walk_at "sq"))
  | with_reducible refine' w_itup ?_
  | ((with_reducible refine' w_itb ?hs ?_); (case hs => walk_at "sq"))
  | with_reducible refine' w_rng1 ?_
  | ((with_reducible refine' w_rgb1 ?h0 ?h1 ?_); (case h0 => first | decide | omega); (case h1 => first | decide | omega))
  | with_reducible refine' w_lc ?_
  | ((with_reducible refine' w_wipe ?hw ?_); (case hw => rfl))
  | ((with_reducible refine' w_cat ?ha ?hb ?hl (fun p H1 n1 f1 g1 => ?_)); (case ha => walk_at "hp"); (case hb => walk_at "hp"); (case hl => (first | decide | (simp only [List.length_cons, List.length_nil]; decide))))
  | with_reducible refine' w_dget ?_
  | with_reducible refine' w_din ?_
  | with_reducible refine' w_dnotin ?_
  | with_reducible refine' w_dput ?_
  | with_reducible refine' w_dnew ?_
  | with_reducible refine' w_newD (fun p H1 n1 f1 g1 => ?_)
  | ((with_reducible refine' w_slT ?hs ?hn ?he (fun p H1 n1 f1 g1 => ?_)); (case hs => walk_at "sq"); (case hn => decide); (case he => rfl))
  | with_reducible refine' w_meth ?_
  | with_reducible refine' w_make ?_
  | with_reducible refine' w_mkb (fun x dx H1 n1 m1 d1 f1 g1 => ?_)
  | with_reducible refine' w_fldaug ?_
  | with_reducible refine' w_tru ?_
  | ((with_reducible refine' w_trl ?hh ?_); (case hh => walk_at "hp"))
  | with_reducible refine' w_whb ?_
  | with_reducible refine' w_chain ?_
  | with_reducible refine' w_tyIs ?_
  | with_reducible refine' w_raise ?_
  | with_reducible refine' w_rab ?_
  | with_reducible refine' w_jn ?_
  | with_reducible refine' w_js ?_
  | with_reducible refine' w_jsn ?_
  | with_reducible refine' w_fmt ?_
  | with_reducible refine' w_isN ?_
  | with_reducible refine' w_intB ?_
  | with_reducible refine' w_istr ?_
  | with_reducible refine' w_stb ?_
  | ((with_reducible refine' w_inT ?hs ?hx ?ha ?_); (case hs => walk_at "sq"); (case hx => rfl); (case ha => rfl))
  | ((with_reducible refine' w_isf ?hd ?_); (case hd => decide +kernel))
  | ((with_reducible refine' w_ist ?hd ?_); (case hd => decide +kernel))
  | with_reducible refine' w_enumT ?_
  | ((with_reducible refine' w_enb ?hs ?_); (case hs => walk_at "sq"))
  | with_reducible refine' w_star ?_
  | ((with_reducible refine' w_stT ?hs ?_); (case hs => walk_at "sq"))
  | ((with_reducible refine' w_stL ?hs ?_); (case hs => walk_at "sq"))
  | with_reducible refine' w_par ?_
  | ((with_reducible refine' w_parb ?he ?_); (case he => walk_at "lset"))
  | with_reducible refine' w_enumL ?_
  | ((with_reducible refine' w_enlb ?hs ?_); (case hs => walk_at "sq"))
  | with_reducible refine' w_revL ?_
  | ((with_reducible refine' w_revb ?hs (fun p H1 n1 f1 g1 => ?_)); (case hs => walk_at "sq"))
  | with_reducible refine' w_max2 ?_
  | with_reducible refine' w_min2 ?_
  | with_reducible refine' w_lrg2 ?_
  | with_reducible refine' w_scI ?_
  | fail "none")
local macro_rules | `(tactic| walk_at "wk") => `(tactic| repeat walk_at "wk1")

section
variable {P : Program} {w : World} {K : PySem.W.Frag} {mg : Str → Option Value} {base : Heap} {f : Addr} {fd : FuncData} {a : Ad}
theorem sc_cut : FnScope ["part", "steps"] ["part"] (defScope s_cut) := ⟨rfl, rfl, rfl, by decide +kernel, rfl, by decide +kernel, by decide +kernel⟩
theorem ok_cut (F : Fun K "cut" "cut" s_cut f fd) (Z : Blt mg) (D_refuse_bad_sum : Df P w K mg base CX0 4 "refuse_bad_sum" ["part"] spGoodSum) (D_put_cut : Df P w K mg base CX0 17 "put_cut" ["part", "steps"] (spPutCut 16)) : FnOk P w K mg base CX0 19 f fd ["part"] spCut := by
  refine F.ok sc_cut (fun vs H Q E h => ?_) (fun cdv A outer s H vs Q E hr h => ?_)
  · obtain ⟨v, s, rfl, _⟩ := h
    rfl
  obtain ⟨v, s, rfl, hs, hok, hd, hz, k⟩ := h
  refine ⟨_, (pss_cons (ps_expr (pe_df D_refuse_bad_sum hr (by first | decide | omega) (pa_cons (pv 0) pa_nil)))
  (pss_cons (ps_set (i := 1) sc_cut.nd rfl (Or.inl rfl) (pe_lst pa_nil))
  (pss_cons (ps_expr (pe_df D_put_cut hr (by first | decide | omega) (pa_cons (pv 0) (pa_cons (pv 1) pa_nil))))
  (pss_one (ps_ret (pv 1)))))), ?_⟩
  walk_at "st"
  walk_at "wk"
  refine u_goodsum hs hok hd hz (fun H1 f1 => ?_)
  walk_at "wk"
  rename_i l H2 n2 f2 g2
  refine u_putcut (by walk_at "su") (by omega) (ts := []) g2 trivial (by simp; omega) (fun us H3 g3 a3 f3 => ?_)
  walk_at "wk"
  exact k l us H3 (f1.back n2) g3 a3 (f1.trans ((f2.nil.trans f3).drop n2))
end
end My
namespace My
open PySem L2 Wk
local macro_rules | `(tactic| walk_at "hs") => `(tactic| first
  | assumption
  | (apply fr_st0; (case f => assumption); (case h => walk_at "hs"))
  | (apply fr_st1; (case f => assumption); (case n => walk_at "ne"); (case hw => first | assumption | exact List.mem_cons_self); (case h => walk_at "hs"))
  | fail "none")
local macro_rules | `(tactic| walk_at "nn") => `(tactic| first
  | (apply nn_st; (case n => assumption); (case h => walk_at "hs"))
  | (apply nn_l; (case n => assumption); (case h => walk_at "hp"))
  | (apply nn_d; (case n => assumption); (case h => walk_at "hp"))
  | (apply nn_i; (case n => assumption); (case h => walk_at "hp"))
  | fail "none")
local macro_rules | `(tactic| walk_at "su") => `(tactic| first
  | assumption
  | (apply fr_su; (case f => assumption); (case h => walk_at "su"))
  | fail "none")
local macro_rules | `(tactic| walk_at "as") => `(tactic| first
  | assumption
  | (apply fr_as; (case f => assumption); (case h => walk_at "as"))
  | fail "none")
local macro_rules | `(tactic| walk_at "ef") => `(tactic| first
  | assumption
  | (apply fr_ef0; (case f => assumption); (case h => walk_at "ef"))
  | (apply fr_ef; (case f => assumption); (case n1 => walk_at "ni"); (case n2 => walk_at "ni"); (case n3 => walk_at "ni"); (case h => walk_at "ef"))
  | fail "none")
local macro_rules | `(tactic| walk_at "td") => `(tactic| first
  | assumption
  | (apply fr_td0; (case f => assumption); (case h => walk_at "td"))
  | (apply fr_td; (case f => assumption); (case n1 => walk_at "ni"); (case n2 => walk_at "ni"); (case n3 => walk_at "ni"); (case h => walk_at "td"))
  | fail "none")
local macro_rules | `(tactic| walk_at "sk") => `(tactic| first
  | assumption
  | (apply fr_stk; (case f => assumption); (case a => walk_at "sk"))
  | fail "none")
local macro_rules | `(tactic| walk_at "al") => `(tactic| first
  | assumption
  | (apply fr_al; (case f => assumption); (case h => walk_at "al"))
  | fail "none")
local macro_rules | `(tactic| walk_at "nv") => `(tactic| first
  | assumption
  | (apply fr_nv; (case a => assumption); (case n => walk_at "ni"); (case h => walk_at "nv"))
  | fail "none")
local macro_rules | `(tactic| walk_at "ne") => `(tactic| first
  | assumption
  | (apply Ne.symm; assumption)
  | walk_at "nn"
  | (apply Ne.symm; walk_at "nn")
  | fail "none")
local macro_rules | `(tactic| walk_at "ni") => `(tactic| first
  | exact List.not_mem_nil
  | (apply ni1; walk_at "ne")
  | (apply ni2 <;> walk_at "ne")
  | (apply ni3 <;> walk_at "ne")
  | fail "none")
local macro_rules | `(tactic| walk_at "hp") => `(tactic| first
  | assumption
  | (apply Fr.gett; (case a => assumption); (case h => walk_at "hp"))
  | (apply Fr.getl; (case a => assumption); (case n => walk_at "ni"); (case h => walk_at "hp"))
  | (apply Fr.getd; (case a => assumption); (case n => walk_at "ni"); (case h => walk_at "hp"))
  | (apply Fr.geti; (case a => assumption); (case n => walk_at "ni"); (case h => walk_at "hp"))
  | fail "none")
local macro_rules | `(tactic| walk_at "sqs") => `(tactic| first
  | assumption
  | (apply Fr.sqln; (case a => assumption); (case n => walk_at "ni"); (case h => walk_at "sqs"))
  | fail "none")
local macro_rules | `(tactic| walk_at "sq") => `(tactic| first
  | assumption
  | (apply SqL.of; walk_at "hp")
  | (apply SqT.of; walk_at "hp")
  | walk_at "sqs"
  | fail "none")
local macro_rules | `(tactic| walk_at "fr") => `(tactic| first
  | exact Fr.refl
  | assumption
  | (apply Fr.mono; (case a => assumption); (case h => simp))
  | (apply fr_last; (case f => assumption); (case w => simp); (case g => walk_at "fr"))
  | fail "none")
local macro_rules | `(tactic| walk_at "st") => `(tactic| ((try dsimp only [cxOf, Cx.nox, Cx.wish]); (try simp only [L2.start, List.map_cons, List.map_nil, List.length_cons, List.length_nil, List.replicate, List.cons_append, List.nil_append, Nat.reduceAdd, Nat.reduceSub])))
local macro_rules | `(tactic| walk_at "lset") => `(tactic| (simp only [wipe, List.map_cons, List.map_nil, Int.reduceToNat, List.set_cons_zero, List.set_cons_succ] <;> rfl))
local macro_rules | `(tactic| walk_at "wk1") => `(tactic| first
  | with_reducible refine' w_seq ?_
  | with_reducible refine' w_asg ?_
  | ((with_reducible refine' w_name ?hs ?_); (case hs => walk_at "lset"))
  | ((with_reducible refine' w_var ?hv ?_); (case hv => rfl))
  | with_reducible refine' w_c ?_
  | with_reducible refine' w_op ?_
  | with_reducible refine' w_un ?_
  | with_reducible refine' w_test ?_
  | with_reducible refine' w_tB ?_
  | with_reducible refine' w_exbl ?_
  | with_reducible refine' w_exint ?_
  | with_reducible refine' w_t ?_
  | with_reducible refine' w_f ?_
  | with_reducible refine' w_ifS ?_
  | with_reducible refine' w_if ?_
  | with_reducible refine' w_and ?_
  | with_reducible refine' w_or ?_
  | with_reducible refine' w_not ?_
  | with_reducible refine' w_andV ?_
  | with_reducible refine' w_orV ?_
  | with_reducible refine' w_notV ?_
  | with_reducible refine' w_ret ?_
  | with_reducible refine' w_retN ?_
  | with_reducible refine' w_drop ?_
  | with_reducible refine' w_next ?_
  | with_reducible refine' w_nil ?_
  | with_reducible refine' w_cons ?_
  | with_reducible refine' w_cb ?_
  | with_reducible refine' w_call ?_
  | with_reducible refine' w_gsub ?_
  | with_reducible refine' w_gnil ?_
  | with_reducible refine' w_gcons ?_
  | ((with_reducible refine' w_gtup ?hs ?hn ?_); (case hs => walk_at "sq"); (case hn => rfl))
  | with_reducible refine' w_fld ?_
  | with_reducible refine' w_tfld ?_
  | with_reducible refine' w_sl ?_
  | with_reducible refine' w_nopart ?_
  | with_reducible refine' w_part ?_
  | with_reducible refine' w_bm ?_
  | with_reducible refine' w_bm0 ?_
  | with_reducible refine' w_yes ?_
  | with_reducible refine' w_tup ?_
  | with_reducible refine' w_lst ?_
  | with_reducible refine' w_I0 ?_
  | ((with_reducible refine' w_I ?hc ?_); (case hc => (first | (show (0 : Int) < _; first | decide | omega | assumption) | exact wide_div (by first | assumption | decide) (b := 200) (by first | assumption | decide) (by decide) (by decide) | exact wide_mul (a := 64) (b := 64) (by omega) (by omega) (by decide) (by decide) (by decide) | exact ⟨by decide, by decide, by decide⟩)))
  | ((with_reducible refine' w_eq ?he ?_); (case he => rfl))
  | ((with_reducible refine' w_ne ?he ?_); (case he => rfl))
  | ((with_reducible refine' w_ixL ?hs ?ha ?_); (case hs => walk_at "sq"); (case ha => rfl))
  | ((with_reducible refine' w_ixT ?hs ?ha ?_); (case hs => walk_at "sq"); (case ha => rfl))
  | ((with_reducible refine' w_lenL ?hs ?he ?_); (case hs => walk_at "sq"); (case he => first | (simp only [List.length_cons, List.length_nil, List.length_map]; rfl) | rfl))
  | ((with_reducible refine' w_lenT ?hs ?he ?_); (case hs => walk_at "sq"); (case he => first | (simp only [List.length_cons, List.length_nil, List.length_map]; rfl) | rfl))
  | ((with_reducible refine' w_setL ?hh ?hk ?he (fun H1 f1 g1 => ?_)); (case hh => walk_at "hp"); (case hk => rfl); (case he => walk_at "lset"))
  | ((with_reducible refine' w_newT ?hl (fun p H1 n1 f1 g1 => ?_)); (case hl => (first | decide | (simp only [List.length_cons, List.length_nil]; decide))))
  | ((with_reducible refine' w_newL ?hl (fun p H1 n1 f1 g1 => ?_)); (case hl => (first | decide | (simp only [List.length_cons, List.length_nil]; decide))))
  | with_reducible refine' w_for ?_
  | with_reducible refine' w_ilist ?_
  | ((with_reducible refine' w_ilb ?hs ?_); (case hs => walk_at "sq"))
  | with_reducible refine' w_itup ?_
  | ((with_reducible refine' w_itb ?hs ?_); (case hs => walk_at "sq"))
  | with_reducible refine' w_rng1 ?_
  | ((with_reducible refine' w_rgb1 ?h0 ?h1 ?_); (case h0 => first | decide | omega); (case h1 => first | decide | omega))
  | with_reducible refine' w_lc ?_
  | ((with_reducible refine' w_wipe ?hw ?_); (case hw => rfl))
  | ((with_reducible refine' w_cat ?ha ?hb ?hl (fun p H1 n1 f1 g1 => ?_)); (case ha => walk_at "hp"); (case hb => walk_at "hp"); (case hl => (first | decide | (simp only [List.length_cons, List.length_nil]; decide))))
  | with_reducible refine' w_dget ?_
  | with_reducible refine' w_din ?_
  | with_reducible refine' w_dnotin ?_
  | with_reducible refine' w_dput ?_
  | with_reducible refine' w_dnew ?_
  | with_reducible refine' w_newD (fun p H1 n1 f1 g1 => ?_)
  | ((with_reducible refine' w_slT ?hs ?hn ?he (fun p H1 n1 f1 g1 => ?_)); (case hs => walk_at "sq"); (case hn => decide); (case he => rfl))
  | with_reducible refine' w_meth ?_
  | with_reducible refine' w_make ?_
  | with_reducible refine' w_mkb (fun x dx H1 n1 m1 d1 f1 g1 => ?_)
  | with_reducible refine' w_fldaug ?_
  | with_reducible refine' w_tru ?_
  | ((with_reducible refine' w_trl ?hh ?_); (case hh => walk_at "hp"))
  | with_reducible refine' w_whb ?_
  | with_reducible refine' w_chain ?_
  | with_reducible refine' w_tyIs ?_
  | with_reducible refine' w_raise ?_
  | with_reducible refine' w_rab ?_
  | with_reducible refine' w_jn ?_
  | with_reducible refine' w_js ?_
  | with_reducible refine' w_jsn ?_
  | with_reducible refine' w_fmt ?_
  | with_reducible refine' w_isN ?_
  | with_reducible refine' w_intB ?_
  | with_reducible refine' w_istr ?_
  | with_reducible refine' w_stb ?_
  | ((with_reducible refine' w_inT ?hs ?hx ?ha ?_); (case hs => walk_at "sq"); (case hx => rfl); (case ha => rfl))
  | ((with_reducible refine' w_isf ?hd ?_); (case hd => decide +kernel))
  | ((with_reducible refine' w_ist ?hd ?_); (case hd => decide +kernel))
  | with_reducible refine' w_enumT ?_
  | ((with_reducible refine' w_enb ?hs ?_); (case hs => walk_at "sq"))
  | with_reducible refine' w_star ?_
  | ((with_reducible refine' w_stT ?hs ?_); (case hs => walk_at "sq"))
  | ((with_reducible refine' w_stL ?hs ?_); (case hs => walk_at "sq"))
  | with_reducible refine' w_par ?_
  | ((with_reducible refine' w_parb ?he ?_); (case he => walk_at "lset"))
  | with_reducible refine' w_enumL ?_
  | ((with_reducible refine' w_enlb ?hs ?_); (case hs => walk_at "sq"))
  | with_reducible refine' w_revL ?_
  | ((with_reducible refine' w_revb ?hs (fun p H1 n1 f1 g1 => ?_)); (case hs => walk_at "sq"))
  | with_reducible refine' w_max2 ?_
  | with_reducible refine' w_min2 ?_
  | with_reducible refine' w_lrg2 ?_
  | with_reducible refine' w_scI ?_
  | fail "none")
local macro_rules | `(tactic| walk_at "wk") => `(tactic| repeat walk_at "wk1")

section
variable {P : Program} {w : World} {K : PySem.W.Frag} {mg : Str → Option Value} {base : Heap} {f : Addr} {fd : FuncData} {a : Ad}
theorem sc_tight : FnScope ["part", "steps"] ["part"] (defScope s_tight) := ⟨rfl, rfl, rfl, by decide +kernel, rfl, by decide +kernel, by decide +kernel⟩
theorem ok_tight (F : Fun K "tight" "tight" s_tight f fd) (Z : Blt mg) (D_refuse_bad_sum : Df P w K mg base CX0 4 "refuse_bad_sum" ["part"] spGoodSum) (D_put_tight : Df P w K mg base CX0 17 "put_tight" ["part", "box", "steps"] (spPutTight 16)) : FnOk P w K mg base CX0 19 f fd ["part"] spTight := by
  refine F.ok sc_tight (fun vs H Q E h => ?_) (fun cdv A outer s H vs Q E hr h => ?_)
  · obtain ⟨v, s, rfl, _⟩ := h
    rfl
  obtain ⟨v, s, rfl, hs, hok, hd, hz, k⟩ := h
  refine ⟨_, (pss_cons (ps_expr (pe_df D_refuse_bad_sum hr (by first | decide | omega) (pa_cons (pv 0) pa_nil)))
  (pss_cons (ps_set (i := 1) sc_tight.nd rfl (Or.inl rfl) (pe_lst pa_nil))
  (pss_cons (ps_expr (pe_df D_put_tight hr (by first | decide | omega) (pa_cons (pv 0) (pa_cons pe_int (pa_cons (pv 1) pa_nil)))))
  (pss_one (ps_ret (pv 1)))))), ?_⟩
  walk_at "st"
  walk_at "wk"
  refine u_goodsum hs hok hd hz (fun H1 f1 => ?_)
  walk_at "wk"
  rename_i l H2 n2 f2 g2
  refine u_puttight (b := 0) (by walk_at "su") hok (by omega) (by omega) (ts := []) g2 trivial (by simp; omega) (fun us H3 g3 a3 f3 => ?_)
  walk_at "wk"
  exact k l us H3 (f1.back n2) g3 a3 (f1.trans ((f2.nil.trans f3).drop n2))
end
end My
namespace My
open PySem L2 Wk
local macro_rules | `(tactic| walk_at "hs") => `(tactic| first
  | assumption
  | (apply fr_st0; (case f => assumption); (case h => walk_at "hs"))
  | (apply fr_st1; (case f => assumption); (case n => walk_at "ne"); (case hw => first | assumption | exact List.mem_cons_self); (case h => walk_at "hs"))
  | fail "none")
local macro_rules | `(tactic| walk_at "nn") => `(tactic| first
  | (apply nn_st; (case n => assumption); (case h => walk_at "hs"))
  | (apply nn_l; (case n => assumption); (case h => walk_at "hp"))
  | (apply nn_d; (case n => assumption); (case h => walk_at "hp"))
  | (apply nn_i; (case n => assumption); (case h => walk_at "hp"))
  | fail "none")
local macro_rules | `(tactic| walk_at "su") => `(tactic| first
  | assumption
  | (apply fr_su; (case f => assumption); (case h => walk_at "su"))
  | fail "none")
local macro_rules | `(tactic| walk_at "as") => `(tactic| first
  | assumption
  | (apply fr_as; (case f => assumption); (case h => walk_at "as"))
  | fail "none")
local macro_rules | `(tactic| walk_at "ef") => `(tactic| first
  | assumption
  | (apply fr_ef0; (case f => assumption); (case h => walk_at "ef"))
  | (apply fr_ef; (case f => assumption); (case n1 => walk_at "ni"); (case n2 => walk_at "ni"); (case n3 => walk_at "ni"); (case h => walk_at "ef"))
  | fail "none")
local macro_rules | `(tactic| walk_at "td") => `(tactic| first
  | assumption
  | (apply fr_td0; (case f => assumption); (case h => walk_at "td"))
  | (apply fr_td; (case f => assumption); (case n1 => walk_at "ni"); (case n2 => walk_at "ni"); (case n3 => walk_at "ni"); (case h => walk_at "td"))
  | fail "none")
local macro_rules | `(tactic| walk_at "sk") => `(tactic| first
  | assumption
  | (apply fr_stk; (case f => assumption); (case a => walk_at "sk"))
  | fail "none")
local macro_rules | `(tactic| walk_at "al") => `(tactic| first
  | assumption
  | (apply fr_al; (case f => assumption); (case h => walk_at "al"))
  | fail "none")
local macro_rules | `(tactic| walk_at "nv") => `(tactic| first
  | assumption
  | (apply fr_nv; (case a => assumption); (case n => walk_at "ni"); (case h => walk_at "nv"))
  | fail "none")
local macro_rules | `(tactic| walk_at "ne") => `(tactic| first
  | assumption
  | (apply Ne.symm; assumption)
  | walk_at "nn"
  | (apply Ne.symm; walk_at "nn")
  | fail "none")
local macro_rules | `(tactic| walk_at "ni") => `(tactic| first
  | exact List.not_mem_nil
  | (apply ni1; walk_at "ne")
  | (apply ni2 <;> walk_at "ne")
  | (apply ni3 <;> walk_at "ne")
  | fail "none")
local macro_rules | `(tactic| walk_at "hp") => `(tactic| first
  | assumption
  | (apply Fr.gett; (case a => assumption); (case h => walk_at "hp"))
  | (apply Fr.getl; (case a => assumption); (case n => walk_at "ni"); (case h => walk_at "hp"))
  | (apply Fr.getd; (case a => assumption); (case n => walk_at "ni"); (case h => walk_at "hp"))
  | (apply Fr.geti; (case a => assumption); (case n => walk_at "ni"); (case h => walk_at "hp"))
  | fail "none")
local macro_rules | `(tactic| walk_at "sqs") => `(tactic| first
  | assumption
  | (apply Fr.sqln; (case a => assumption); (case n => walk_at "ni"); (case h => walk_at "sqs"))
  | fail "none")
local macro_rules | `(tactic| walk_at "sq") => `(tactic| first
  | assumption
  | (apply SqL.of; walk_at "hp")
  | (apply SqT.of; walk_at "hp")
  | walk_at "sqs"
  | fail "none")
local macro_rules | `(tactic| walk_at "fr") => `(tactic| first
  | exact Fr.refl
  | assumption
  | (apply Fr.mono; (case a => assumption); (case h => simp))
  | (apply fr_last; (case f => assumption); (case w => simp); (case g => walk_at "fr"))
  | fail "none")
local macro_rules | `(tactic| walk_at "st") => `(tactic| ((try dsimp only [cxOf, Cx.nox, Cx.wish]); (try simp only [L2.start, List.map_cons, List.map_nil, List.length_cons, List.length_nil, List.replicate, List.cons_append, List.nil_append, Nat.reduceAdd, Nat.reduceSub])))
local macro_rules | `(tactic| walk_at "lset") => `(tactic| (simp only [wipe, List.map_cons, List.map_nil, Int.reduceToNat, List.set_cons_zero, List.set_cons_succ] <;> rfl))
local macro_rules | `(tactic| walk_at "wk1") => `(tactic| first
  | with_reducible refine' w_seq ?_
  | with_reducible refine' w_asg ?_
  | ((with_reducible refine' w_name ?hs ?_); (case hs => walk_at "lset"))
  | ((with_reducible refine' w_var ?hv ?_); (case hv => rfl))
  | with_reducible refine' w_c ?_
  | with_reducible refine' w_op ?_
  | with_reducible refine' w_un ?_
  | with_reducible refine' w_test ?_
  | with_reducible refine' w_tB ?_
  | with_reducible refine' w_exbl ?_
  | with_reducible refine' w_exint ?_
  | with_reducible refine' w_t ?_
  | with_reducible refine' w_f ?_
  | with_reducible refine' w_ifS ?_
  | with_reducible refine' w_if ?_
  | with_reducible refine' w_and ?_
  | with_reducible refine' w_or ?_
  | with_reducible refine' w_not ?_
  | with_reducible refine' w_andV ?_
  | with_reducible refine' w_orV ?_
  | with_reducible refine' w_notV ?_
  | with_reducible refine' w_ret ?_
  | with_reducible refine' w_retN ?_
  | with_reducible refine' w_drop ?_
  | with_reducible refine' w_next ?_
  | with_reducible refine' w_nil ?_
  | with_reducible refine' w_cons ?_
  | with_reducible refine' w_cb ?_
  | with_reducible refine' w_call ?_
  | with_reducible refine' w_gsub ?_
  | with_reducible refine' w_gnil ?_
  | with_reducible refine' w_gcons ?_
  | ((with_reducible refine' w_gtup ?hs ?hn ?_); (case hs => walk_at "sq"); (case hn => rfl))
  | with_reducible refine' w_fld ?_
  | with_reducible refine' w_tfld ?_
  | with_reducible refine' w_sl ?_
  | with_reducible refine' w_nopart ?_
  | with_reducible refine' w_part ?_
  | with_reducible refine' w_bm ?_
  | with_reducible refine' w_bm0 ?_
  | with_reducible refine' w_yes ?_
  | with_reducible refine' w_tup ?_
  | with_reducible refine' w_lst ?_
  | with_reducible refine' w_I0 ?_
  | ((with_reducible refine' w_I ?hc ?_); (case hc => (first | (show (0 : Int) < _; first | decide | omega | assumption) | exact wide_div (by first | assumption | decide) (b := 200) (by first | assumption | decide) (by decide) (by decide) | exact wide_mul (a := 64) (b := 64) (by omega) (by omega) (by decide) (by decide) (by decide) | exact ⟨by decide, by decide, by decide⟩)))
  | ((with_reducible refine' w_eq ?he ?_); (case he => rfl))
  | ((with_reducible refine' w_ne ?he ?_); (case he => rfl))
  | ((with_reducible refine' w_ixL ?hs ?ha ?_); (case hs => walk_at "sq"); (case ha => rfl))
  | ((with_reducible refine' w_ixT ?hs ?ha ?_); (case hs => walk_at "sq"); (case ha => rfl))
  | ((with_reducible refine' w_lenL ?hs ?he ?_); (case hs => walk_at "sq"); (case he => first | (simp only [List.length_cons, List.length_nil, List.length_map]; rfl) | rfl))
  | ((with_reducible refine' w_lenT ?hs ?he ?_); (case hs => walk_at "sq"); (case he => first | (simp only [List.length_cons, List.length_nil, List.length_map]; rfl) | rfl))
  | ((with_reducible refine' w_setL ?hh ?hk ?he (fun H1 f1 g1 => ?_)); (case hh => walk_at "hp"); (case hk => rfl); (case he => walk_at "lset"))
  | ((with_reducible refine' w_newT ?hl (fun p H1 n1 f1 g1 => ?_)); (case hl => (first | decide | (simp only [List.length_cons, List.length_nil]; decide))))
  | ((with_reducible refine' w_newL ?hl (fun p H1 n1 f1 g1 => ?_)); (case hl => (first | decide | (simp only [List.length_cons, List.length_nil]; decide))))
  | with_reducible refine' w_for ?_
  | with_reducible refine' w_ilist ?_
  | ((with_reducible refine' w_ilb ?hs ?_); (case hs => walk_at "sq"))
  | with_reducible refine' w_itup ?_
  | ((with_reducible refine' w_itb ?hs ?_); (case hs => walk_at "sq"))
  | with_reducible refine' w_rng1 ?_
  | ((with_reducible refine' w_rgb1 ?h0 ?h1 ?_); (case h0 => first | decide | omega); (case h1 => first | decide | omega))
  | with_reducible refine' w_lc ?_
  | ((with_reducible refine' w_wipe ?hw ?_); (case hw => rfl))
  | ((with_reducible refine' w_cat ?ha ?hb ?hl (fun p H1 n1 f1 g1 => ?_)); (case ha => walk_at "hp"); (case hb => walk_at "hp"); (case hl => (first | decide | (simp only [List.length_cons, List.length_nil]; decide))))
  | with_reducible refine' w_dget ?_
  | with_reducible refine' w_din ?_
  | with_reducible refine' w_dnotin ?_
  | with_reducible refine' w_dput ?_
  | with_reducible refine' w_dnew ?_
  | with_reducible refine' w_newD (fun p H1 n1 f1 g1 => ?_)
  | ((with_reducible refine' w_slT ?hs ?hn ?he (fun p H1 n1 f1 g1 => ?_)); (case hs => walk_at "sq"); (case hn => decide); (case he => rfl))
  | with_reducible refine' w_meth ?_
  | with_reducible refine' w_make ?_
  | with_reducible refine' w_mkb (fun x dx H1 n1 m1 d1 f1 g1 => ?_)
  | with_reducible refine' w_fldaug ?_
  | with_reducible refine' w_tru ?_
  | ((with_reducible refine' w_trl ?hh ?_); (case hh => walk_at "hp"))
  | with_reducible refine' w_whb ?_
  | with_reducible refine' w_chain ?_
  | with_reducible refine' w_tyIs ?_
  | with_reducible refine' w_raise ?_
  | with_reducible refine' w_rab ?_
  | with_reducible refine' w_jn ?_
  | with_reducible refine' w_js ?_
  | with_reducible refine' w_jsn ?_
  | with_reducible refine' w_fmt ?_
  | with_reducible refine' w_isN ?_
  | with_reducible refine' w_intB ?_
  | with_reducible refine' w_istr ?_
  | with_reducible refine' w_stb ?_
  | ((with_reducible refine' w_inT ?hs ?hx ?ha ?_); (case hs => walk_at "sq"); (case hx => rfl); (case ha => rfl))
  | ((with_reducible refine' w_isf ?hd ?_); (case hd => decide +kernel))
  | ((with_reducible refine' w_ist ?hd ?_); (case hd => decide +kernel))
  | with_reducible refine' w_enumT ?_
  | ((with_reducible refine' w_enb ?hs ?_); (case hs => walk_at "sq"))
  | with_reducible refine' w_star ?_
  | ((with_reducible refine' w_stT ?hs ?_); (case hs => walk_at "sq"))
  | ((with_reducible refine' w_stL ?hs ?_); (case hs => walk_at "sq"))
  | with_reducible refine' w_par ?_
  | ((with_reducible refine' w_parb ?he ?_); (case he => walk_at "lset"))
  | with_reducible refine' w_enumL ?_
  | ((with_reducible refine' w_enlb ?hs ?_); (case hs => walk_at "sq"))
  | with_reducible refine' w_revL ?_
  | ((with_reducible refine' w_revb ?hs (fun p H1 n1 f1 g1 => ?_)); (case hs => walk_at "sq"))
  | with_reducible refine' w_max2 ?_
  | with_reducible refine' w_min2 ?_
  | with_reducible refine' w_lrg2 ?_
  | with_reducible refine' w_scI ?_
  | fail "none")
local macro_rules | `(tactic| walk_at "wk") => `(tactic| repeat walk_at "wk1")

section
variable {P : Program} {w : World} {K : PySem.W.Frag} {mg : Str → Option Value} {base : Heap} {f : Addr} {fd : FuncData} {a : Ad}
theorem sc_put_cut : FnScope ["part", "steps", "boxes", "inner"] ["part", "steps"] (defScope s_put_cut) := ⟨rfl, rfl, rfl, by decide +kernel, rfl, by decide +kernel, by decide +kernel⟩
theorem ok_putcut {n : Nat} (F : Fun K "put_cut" "put_cut" s_put_cut f fd) (Z : Blt mg) (D_parts_of : Df P w K mg base CX0 1 "parts_of" ["part"] spPartsOf) (D_filled_with : Df P w K mg base CX0 1 "filled_with" ["part", "filling"] spFilled) (D_put_next : Df P w K mg base CX0 1 "put_next" ["rest", "steps"] spNext)
    (D_put_cut : Df P w K mg base CX0 (n + 1) "put_cut" ["part", "steps"] (spPutCut n)) : FnOk P w K mg base CX0 (n + 1 + 1) f fd ["part", "steps"] (spPutCut (n + 1)) := by
  refine F.ok sc_put_cut (fun vs H Q E h => ?_) (fun cdv A outer s H vs Q E hr h => ?_)
  · obtain ⟨v, s, l, us, ts, rfl, _⟩ := h
    rfl
  obtain ⟨v, s, l, us, ts, rfl, hs, hd, hl, hts, hz, k⟩ := h
  refine ⟨_, (pss_cons (ps_setLc (i := 2) (own := [("inner", 3)]) (g := (gName 3)) (tt := tYes) (by rfl) sc_put_cut.nd rfl rfl (sw_true rfl rfl rfl (by decide +kernel)) (pi_tup (pe_df D_parts_of hr (by first | decide | omega) (pa_cons (pv 0) pa_nil))) (blkOk_by (own := [("inner", 3)]) (N := ["part", "steps", "boxes", "inner"]) (sc := defScope s_put_cut) (by decide +kernel)) (fun _ _ _ _ _ => pg_name (i := 3) sc_put_cut.nd rfl (Or.inl rfl)) (fun _ _ _ _ _ => pts_nil) (fun _ _ _ _ _ => (pe_df D_put_cut hr (by first | decide | omega) (pa_cons (pv 3) (pa_cons (pv 1) pa_nil)))))
  (pss_one (ps_ret (pe_df D_put_next hr (by first | decide | omega) (pa_cons (pe_df D_filled_with hr (by first | decide | omega) (pa_cons (pv 0) (pa_cons (pv 2) pa_nil))) (pa_cons (pv 1) pa_nil)))))), ?_⟩
  walk_at "st"
  walk_at "wk"
  refine u_partsOf hs (fun tp vs H1 g1 a1 f1 => ?_)
  walk_at "wk"
  have hl1 := f1.get0 hl
  refine lcT (xs := vs) (fun D i acc H' => (∃ us', H' l = some (.lst us') ∧ AllStp H' us' (ts ++ cuts (s.subs.take i) us.length)) ∧ acc = (cutBoxes (s.subs.take i) us.length).map (fun b => V.int (b : Nat)) ∧ l ≠ D ∧ Fr [D, l] H1 H')
    (fun D H' hD f g => ⟨⟨us, f.get0 hl1, by rw [List.take_zero]; exact (List.append_nil ts).symm ▸ (hts.mono f1).mono f⟩, rfl, (nn_l hD hl1).symm, f.nil⟩) (fun D i acc H' hD ⟨_, _, _, f⟩ => SqT.of (f.gett g1)) (fun D i x acc H' hD hx hlt ha hA ⟨⟨us', hl', hts'⟩, e, nD, f⟩ => ?_) (fun D acc H' hD hA hn ⟨⟨us', hl', hts'⟩, e, nD, f⟩ => ?_)
  · obtain ⟨t, ht, hxt⟩ := a1.at hx
    have len' := hts'.length
    have len0 := hts.length
    rw [List.length_append, cuts_length] at len'
    have tle := sizeL_take s i
    have hsz := s.size_eq
    have td := Sm.subs_depth (List.mem_of_getElem? ht)
    have tk : sizeL (s.subs.take (i + 1)) = sizeL (s.subs.take i) + t.size := by rw [take_snoc ht, sizeL_app]; rfl
    have tle2 := sizeL_take s (i + 1)
    walk_at "wk"
    refine u_putcut (by walk_at "su") (by omega) hl' hts' (by omega) (fun us2 H2 g2 a2 f2 => ?_)
    walk_at "wk"
    refine lcE (acc := acc) (f2.getl (ni1 nD.symm) hA) ha (by have := subs_len2 s; have := a1.length; omega) (fun H5 f5 g5 => ⟨⟨us2, f5.getl (ni1 nD) g2, ?_⟩, ?_, nD, by walk_at "fr"⟩)
    · rw [take_snoc ht, cuts_snoc, ← List.append_assoc]
      have e2 : us.length + sizeL (s.subs.take i) = us'.length := by omega
      rw [e2]
      exact a2.mono f5
    · rw [take_snoc ht, cutBoxes_snoc, List.map_append, e]
      have e2 : us.length + sizeL (s.subs.take i) = us'.length := by omega
      rw [e2]
      rfl
  · rw [a1.length, List.take_length] at hts' e
    obtain ⟨p, xs, rfl, hp, hxs⟩ := hs.items
    have len' := hts'.length
    have len0 := hts.length
    rw [List.length_append, cuts_length] at len'
    have hsz := s.size_eq
    walk_at "wk"
    have f0 : Fr [l] H1 H' := f.drop hD
    have l2 := subs_len2 s
    have l3 := a1.length
    have hp' := f.gett (f1.gett hp)
    have vlen : (s.vals xs).length ≤ 3 := by
      have := hxs.length
      cases s <;> simp [Sm.vals, Sm.subs] at * <;> omega
    refine u_filled hp' (by cases s <;> simp [Sm.vals]) (by omega) hA (by omega) (fun r H2 g2 f2 => ?_)
    walk_at "wk"
    rw [e, fill_rst (cutBoxes_length _ _)] at g2
    have rl := vals_len (s.rst (cutBoxes s.subs us.length))
    refine u_next g2 (by omega) (f2.get0 hl') (by omega) (fun q H3 g3 g4 f3 => ?_)
    have e3 : us'.length = us.length + s.size - 1 := by omega
    have ff : Fr [l] H H3 := by walk_at "fr"
    rw [e3]
    refine k _ H3 g4 ?_ ff
    rw [Sm.cut_eq, ← List.append_assoc]
    refine AllStp.app ((hts'.mono f2).mono f3) ⟨⟨q, rfl, ?_⟩, trivial⟩
    rw [g3]
    have e4 : us'.length = us.length + sizeL s.subs := by omega
    rw [e4]
end
end My
namespace My
open PySem L2 Wk
local macro_rules | `(tactic| walk_at "hs") => `(tactic| first
  | assumption
  | (apply fr_st0; (case f => assumption); (case h => walk_at "hs"))
  | (apply fr_st1; (case f => assumption); (case n => walk_at "ne"); (case hw => first | assumption | exact List.mem_cons_self); (case h => walk_at "hs"))
  | fail "none")
local macro_rules | `(tactic| walk_at "nn") => `(tactic| first
  | (apply nn_st; (case n => assumption); (case h => walk_at "hs"))
  | (apply nn_l; (case n => assumption); (case h => walk_at "hp"))
  | (apply nn_d; (case n => assumption); (case h => walk_at "hp"))
  | (apply nn_i; (case n => assumption); (case h => walk_at "hp"))
  | fail "none")
local macro_rules | `(tactic| walk_at "su") => `(tactic| first
  | assumption
  | (apply fr_su; (case f => assumption); (case h => walk_at "su"))
  | fail "none")
local macro_rules | `(tactic| walk_at "as") => `(tactic| first
  | assumption
  | (apply fr_as; (case f => assumption); (case h => walk_at "as"))
  | fail "none")
local macro_rules | `(tactic| walk_at "ef") => `(tactic| first
  | assumption
  | (apply fr_ef0; (case f => assumption); (case h => walk_at "ef"))
  | (apply fr_ef; (case f => assumption); (case n1 => walk_at "ni"); (case n2 => walk_at "ni"); (case n3 => walk_at "ni"); (case h => walk_at "ef"))
  | fail "none")
local macro_rules | `(tactic| walk_at "td") => `(tactic| first
  | assumption
  | (apply fr_td0; (case f => assumption); (case h => walk_at "td"))
  | (apply fr_td; (case f => assumption); (case n1 => walk_at "ni"); (case n2 => walk_at "ni"); (case n3 => walk_at "ni"); (case h => walk_at "td"))
  | fail "none")
local macro_rules | `(tactic| walk_at "sk") => `(tactic| first
  | assumption
  | (apply fr_stk; (case f => assumption); (case a => walk_at "sk"))
  | fail "none")
local macro_rules | `(tactic| walk_at "al") => `(tactic| first
  | assumption
  | (apply fr_al; (case f => assumption); (case h => walk_at "al"))
  | fail "none")
local macro_rules | `(tactic| walk_at "nv") => `(tactic| first
  | assumption
  | (apply fr_nv; (case a => assumption); (case n => walk_at "ni"); (case h => walk_at "nv"))
  | fail "none")
local macro_rules | `(tactic| walk_at "ne") => `(tactic| first
  | assumption
  | (apply Ne.symm; assumption)
  | walk_at "nn"
  | (apply Ne.symm; walk_at "nn")
  | fail "none")
local macro_rules | `(tactic| walk_at "ni") => `(tactic| first
  | exact List.not_mem_nil
  | (apply ni1; walk_at "ne")
  | (apply ni2 <;> walk_at "ne")
  | (apply ni3 <;> walk_at "ne")
  | fail "none")
local macro_rules | `(tactic| walk_at "hp") => `(tactic| first
  | assumption
  | (apply Fr.gett; (case a => assumption); (case h => walk_at "hp"))
  | (apply Fr.getl; (case a => assumption); (case n => walk_at "ni"); (case h => walk_at "hp"))
  | (apply Fr.getd; (case a => assumption); (case n => walk_at "ni"); (case h => walk_at "hp"))
  | (apply Fr.geti; (case a => assumption); (case n => walk_at "ni"); (case h => walk_at "hp"))
  | fail "none")
local macro_rules | `(tactic| walk_at "sqs") => `(tactic| first
  | assumption
  | (apply Fr.sqln; (case a => assumption); (case n => walk_at "ni"); (case h => walk_at "sqs"))
  | fail "none")
local macro_rules | `(tactic| walk_at "sq") => `(tactic| first
  | assumption
  | (apply SqL.of; walk_at "hp")
  | (apply SqT.of; walk_at "hp")
  | walk_at "sqs"
  | fail "none")
local macro_rules | `(tactic| walk_at "fr") => `(tactic| first
  | exact Fr.refl
  | assumption
  | (apply Fr.mono; (case a => assumption); (case h => simp))
  | (apply fr_last; (case f => assumption); (case w => simp); (case g => walk_at "fr"))
  | fail "none")
local macro_rules | `(tactic| walk_at "st") => `(tactic| ((try dsimp only [cxOf, Cx.nox, Cx.wish]); (try simp only [L2.start, List.map_cons, List.map_nil, List.length_cons, List.length_nil, List.replicate, List.cons_append, List.nil_append, Nat.reduceAdd, Nat.reduceSub])))
local macro_rules | `(tactic| walk_at "lset") => `(tactic| (simp only [wipe, List.map_cons, List.map_nil, Int.reduceToNat, List.set_cons_zero, List.set_cons_succ] <;> rfl))
local macro_rules | `(tactic| walk_at "wk1") => `(tactic| first
  | with_reducible refine' w_seq ?_
  | with_reducible refine' w_asg ?_
  | ((with_reducible refine' w_name ?hs ?_); (case hs => walk_at "lset"))
  | ((with_reducible refine' w_var ?hv ?_); (case hv => rfl))
  | with_reducible refine' w_c ?_
  | with_reducible refine' w_op ?_
  | with_reducible refine' w_un ?_
  | with_reducible refine' w_test ?_
  | with_reducible refine' w_tB ?_
  | with_reducible refine' w_exbl ?_
  | with_reducible refine' w_exint ?_
  | with_reducible refine' w_t ?_
  | with_reducible refine' w_f ?_
  | with_reducible refine' w_ifS ?_
  | with_reducible refine' w_if ?_
  | with_reducible refine' w_and ?_
  | with_reducible refine' w_or ?_
  | with_reducible refine' w_not ?_
  | with_reducible refine' w_andV ?_
  | with_reducible refine' w_orV ?_
  | with_reducible refine' w_notV ?_
  | with_reducible refine' w_ret ?_
  | with_reducible refine' w_retN ?_
  | with_reducible refine' w_drop ?_
  | with_reducible refine' w_next ?_
  | with_reducible refine' w_nil ?_
  | with_reducible refine' w_cons ?_
  | with_reducible refine' w_cb ?_
  | with_reducible refine' w_call ?_
  | with_reducible refine' w_gsub ?_
  | with_reducible refine' w_gnil ?_
  | with_reducible refine' w_gcons ?_
  | ((with_reducible refine' w_gtup ?hs ?hn ?_); (case hs => walk_at "sq"); (case hn => rfl))
  | with_reducible refine' w_fld ?_
  | with_reducible refine' w_tfld ?_
  | with_reducible refine' w_sl ?_
  | with_reducible refine' w_nopart ?_
  | with_reducible refine' w_part ?_
  | with_reducible refine' w_bm ?_
  | with_reducible refine' w_bm0 ?_
  | with_reducible refine' w_yes ?_
  | with_reducible refine' w_tup ?_
  | with_reducible refine' w_lst ?_
  | with_reducible refine' w_I0 ?_
  | ((with_reducible refine' w_I ?hc ?_); (case hc => (first | (show (0 : Int) < _; first | decide | omega | assumption) | exact wide_div (by first | assumption | decide) (b := 200) (by first | assumption | decide) (by decide) (by decide) | exact wide_mul (a := 64) (b := 64) (by omega) (by omega) (by decide) (by decide) (by decide) | exact ⟨by decide, by decide, by decide⟩)))
  | ((with_reducible refine' w_eq ?he ?_); (case he => rfl))
  | ((with_reducible refine' w_ne ?he ?_); (case he => rfl))
  | ((with_reducible refine' w_ixL ?hs ?ha ?_); (case hs => walk_at "sq"); (case ha => rfl))
  | ((with_reducible refine' w_ixT ?hs ?ha ?_); (case hs => walk_at "sq"); (case ha => rfl))
  | ((with_reducible refine' w_lenL ?hs ?he ?_); (case hs => walk_at "sq"); (case he => first | (simp only [List.length_cons, List.length_nil, List.length_map]; rfl) | rfl))
  | ((with_reducible refine' w_lenT ?hs ?he ?_); (case hs => walk_at "sq"); (case he => first | (simp only [List.length_cons, List.length_nil, List.length_map]; rfl) | rfl))
  | ((with_reducible refine' w_setL ?hh ?hk ?he (fun H1 f1 g1 => ?_)); (case hh => walk_at "hp"); (case hk => rfl); (case he => walk_at "lset"))
  | ((with_reducible refine' w_newT ?hl (fun p H1 n1 f1 g1 => ?_)); (case hl => (first | decide | (simp only [List.length_cons, List.length_nil]; decide))))
  | ((with_reducible refine' w_newL ?hl (fun p H1 n1 f1 g1 => ?_)); (case hl => (first | decide | (simp only [List.length_cons, List.length_nil]; decide))))
  | with_reducible refine' w_for ?_
  | with_reducible refine' w_ilist ?_
  | ((with_reducible refine' w_ilb ?hs ?_); (case hs => walk_at "sq"))
  | with_reducible refine' w_itup ?_
  | ((with_reducible refine' w_itb ?hs ?_); (case hs => walk_at "sq"))
  | with_reducible refine' w_rng1 ?_
  | ((with_reducible refine' w_rgb1 ?h0 ?h1 ?_); (case h0 => first | decide | omega); (case h1 => first | decide | omega))
  | with_reducible refine' w_lc ?_
  | ((with_reducible refine' w_wipe ?hw ?_); (case hw => rfl))
  | ((with_reducible refine' w_cat ?ha ?hb ?hl (fun p H1 n1 f1 g1 => ?_)); (case ha => walk_at "hp"); (case hb => walk_at "hp"); (case hl => (first | decide | (simp only [List.length_cons, List.length_nil]; decide))))
  | with_reducible refine' w_dget ?_
  | with_reducible refine' w_din ?_
  | with_reducible refine' w_dnotin ?_
  | with_reducible refine' w_dput ?_
  | with_reducible refine' w_dnew ?_
  | with_reducible refine' w_newD (fun p H1 n1 f1 g1 => ?_)
  | ((with_reducible refine' w_slT ?hs ?hn ?he (fun p H1 n1 f1 g1 => ?_)); (case hs => walk_at "sq"); (case hn => decide); (case he => rfl))
  | with_reducible refine' w_meth ?_
  | with_reducible refine' w_make ?_
  | with_reducible refine' w_mkb (fun x dx H1 n1 m1 d1 f1 g1 => ?_)
  | with_reducible refine' w_fldaug ?_
  | with_reducible refine' w_tru ?_
  | ((with_reducible refine' w_trl ?hh ?_); (case hh => walk_at "hp"))
  | with_reducible refine' w_whb ?_
  | with_reducible refine' w_chain ?_
  | with_reducible refine' w_tyIs ?_
  | with_reducible refine' w_raise ?_
  | with_reducible refine' w_rab ?_
  | with_reducible refine' w_jn ?_
  | with_reducible refine' w_js ?_
  | with_reducible refine' w_jsn ?_
  | with_reducible refine' w_fmt ?_
  | with_reducible refine' w_isN ?_
  | with_reducible refine' w_intB ?_
  | with_reducible refine' w_istr ?_
  | with_reducible refine' w_stb ?_
  | ((with_reducible refine' w_inT ?hs ?hx ?ha ?_); (case hs => walk_at "sq"); (case hx => rfl); (case ha => rfl))
  | ((with_reducible refine' w_isf ?hd ?_); (case hd => decide +kernel))
  | ((with_reducible refine' w_ist ?hd ?_); (case hd => decide +kernel))
  | with_reducible refine' w_enumT ?_
  | ((with_reducible refine' w_enb ?hs ?_); (case hs => walk_at "sq"))
  | with_reducible refine' w_star ?_
  | ((with_reducible refine' w_stT ?hs ?_); (case hs => walk_at "sq"))
  | ((with_reducible refine' w_stL ?hs ?_); (case hs => walk_at "sq"))
  | with_reducible refine' w_par ?_
  | ((with_reducible refine' w_parb ?he ?_); (case he => walk_at "lset"))
  | with_reducible refine' w_enumL ?_
  | ((with_reducible refine' w_enlb ?hs ?_); (case hs => walk_at "sq"))
  | with_reducible refine' w_revL ?_
  | ((with_reducible refine' w_revb ?hs (fun p H1 n1 f1 g1 => ?_)); (case hs => walk_at "sq"))
  | with_reducible refine' w_max2 ?_
  | with_reducible refine' w_min2 ?_
  | with_reducible refine' w_lrg2 ?_
  | with_reducible refine' w_scI ?_
  | fail "none")
local macro_rules | `(tactic| walk_at "wk") => `(tactic| repeat walk_at "wk1")

section
variable {P : Program} {w : World} {K : PySem.W.Frag} {mg : Str → Option Value} {base : Heap} {f : Addr} {fd : FuncData} {a : Ad}
theorem sc_put_next : FnScope ["rest", "steps", "box"] ["rest", "steps"] (defScope s_put_next) := ⟨rfl, rfl, rfl, by decide +kernel, rfl, by decide +kernel, by decide +kernel⟩
theorem ok_next (F : Fun K "put_next" "put_next" s_put_next f fd) (Z : Blt mg) : FnOk P w K mg base CX0 1 f fd ["rest", "steps"] spNext := by
  refine F.ok sc_put_next (fun vs H Q E h => ?_) (fun cdv A outer s H vs Q E hr h => ?_)
  · obtain ⟨p, l, xs, us, rfl, _⟩ := h
    rfl
  obtain ⟨p, l, xs, us, rfl, hp, hxl, hl, hul, k⟩ := h
  refine ⟨_, (pss_cons (ps_set (i := 2) sc_put_next.nd rfl (Or.inl rfl) (pe_callB (id := "len") (r := rLenW K) call_lenN (by rfl) Z.len PySem.boot_len (pa_cons (pv 1) pa_nil)))
  (pss_cons (ps_expr (pe_bm PySem.F.plainAttrs_list PySem.F.slot_list_append PySem.F.type_list_append mt_append (pv 1) (pa_cons (pe_tup (pa_cons (pv 2) (StX.pa_star (pv 0) pa_nil))) pa_nil)))
  (pss_one (ps_ret (pv 2))))), ?_⟩
  walk_at "st"
  walk_at "wk"
  refine w_tyl hl ?_
  walk_at "wk"
  refine w_newT (by simp only [List.length_cons, List.length_append, List.length_nil]; omega) (fun d H1 n1 f1 g1 => ?_)
  rw [List.append_nil] at g1
  walk_at "wk"
  refine w_app (f1.get0 hl) (by omega) (fun H2 f2 g2 => ?_)
  walk_at "wk"
  exact k d H2 (f2.gett g1) g2 (by walk_at "fr")
end
end My
namespace My
open PySem L2 Wk
local macro_rules | `(tactic| walk_at "hs") => `(tactic| first
  | assumption
  | (apply fr_st0; (case f => assumption); (case h => walk_at "hs"))
  | (apply fr_st1; (case f => assumption); (case n => walk_at "ne"); (case hw => first | assumption | exact List.mem_cons_self); (case h => walk_at "hs"))
  | fail "none")
local macro_rules | `(tactic| walk_at "nn") => `(tactic| first
  | (apply nn_st; (case n => assumption); (case h => walk_at "hs"))
  | (apply nn_l; (case n => assumption); (case h => walk_at "hp"))
  | (apply nn_d; (case n => assumption); (case h => walk_at "hp"))
  | (apply nn_i; (case n => assumption); (case h => walk_at "hp"))
  | fail "none")
local macro_rules | `(tactic| walk_at "su") => `(tactic| first
  | assumption
  | (apply fr_su; (case f => assumption); (case h => walk_at "su"))
  | fail "none")
local macro_rules | `(tactic| walk_at "as") => `(tactic| first
  | assumption
  | (apply fr_as; (case f => assumption); (case h => walk_at "as"))
  | fail "none")
local macro_rules | `(tactic| walk_at "ef") => `(tactic| first
  | assumption
  | (apply fr_ef0; (case f => assumption); (case h => walk_at "ef"))
  | (apply fr_ef; (case f => assumption); (case n1 => walk_at "ni"); (case n2 => walk_at "ni"); (case n3 => walk_at "ni"); (case h => walk_at "ef"))
  | fail "none")
local macro_rules | `(tactic| walk_at "td") => `(tactic| first
  | assumption
  | (apply fr_td0; (case f => assumption); (case h => walk_at "td"))
  | (apply fr_td; (case f => assumption); (case n1 => walk_at "ni"); (case n2 => walk_at "ni"); (case n3 => walk_at "ni"); (case h => walk_at "td"))
  | fail "none")
local macro_rules | `(tactic| walk_at "sk") => `(tactic| first
  | assumption
  | (apply fr_stk; (case f => assumption); (case a => walk_at "sk"))
  | fail "none")
local macro_rules | `(tactic| walk_at "al") => `(tactic| first
  | assumption
  | (apply fr_al; (case f => assumption); (case h => walk_at "al"))
  | fail "none")
local macro_rules | `(tactic| walk_at "nv") => `(tactic| first
  | assumption
  | (apply fr_nv; (case a => assumption); (case n => walk_at "ni"); (case h => walk_at "nv"))
  | fail "none")
local macro_rules | `(tactic| walk_at "ne") => `(tactic| first
  | assumption
  | (apply Ne.symm; assumption)
  | walk_at "nn"
  | (apply Ne.symm; walk_at "nn")
  | fail "none")
local macro_rules | `(tactic| walk_at "ni") => `(tactic| first
  | exact List.not_mem_nil
  | (apply ni1; walk_at "ne")
  | (apply ni2 <;> walk_at "ne")
  | (apply ni3 <;> walk_at "ne")
  | fail "none")
local macro_rules | `(tactic| walk_at "hp") => `(tactic| first
  | assumption
  | (apply Fr.gett; (case a => assumption); (case h => walk_at "hp"))
  | (apply Fr.getl; (case a => assumption); (case n => walk_at "ni"); (case h => walk_at "hp"))
  | (apply Fr.getd; (case a => assumption); (case n => walk_at "ni"); (case h => walk_at "hp"))
  | (apply Fr.geti; (case a => assumption); (case n => walk_at "ni"); (case h => walk_at "hp"))
  | fail "none")
local macro_rules | `(tactic| walk_at "sqs") => `(tactic| first
  | assumption
  | (apply Fr.sqln; (case a => assumption); (case n => walk_at "ni"); (case h => walk_at "sqs"))
  | fail "none")
local macro_rules | `(tactic| walk_at "sq") => `(tactic| first
  | assumption
  | (apply SqL.of; walk_at "hp")
  | (apply SqT.of; walk_at "hp")
  | walk_at "sqs"
  | fail "none")
local macro_rules | `(tactic| walk_at "fr") => `(tactic| first
  | exact Fr.refl
  | assumption
  | (apply Fr.mono; (case a => assumption); (case h => simp))
  | (apply fr_last; (case f => assumption); (case w => simp); (case g => walk_at "fr"))
  | fail "none")
local macro_rules | `(tactic| walk_at "st") => `(tactic| ((try dsimp only [cxOf, Cx.nox, Cx.wish]); (try simp only [L2.start, List.map_cons, List.map_nil, List.length_cons, List.length_nil, List.replicate, List.cons_append, List.nil_append, Nat.reduceAdd, Nat.reduceSub])))
local macro_rules | `(tactic| walk_at "lset") => `(tactic| (simp only [wipe, List.map_cons, List.map_nil, Int.reduceToNat, List.set_cons_zero, List.set_cons_succ] <;> rfl))
local macro_rules | `(tactic| walk_at "wk1") => `(tactic| first
  | with_reducible refine' w_seq ?_
  | with_reducible refine' w_asg ?_
  | ((with_reducible refine' w_name ?hs ?_); (case hs => walk_at "lset"))
  | ((with_reducible refine' w_var ?hv ?_); (case hv => rfl))
  | with_reducible refine' w_c ?_
  | with_reducible refine' w_op ?_
  | with_reducible refine' w_un ?_
  | with_reducible refine' w_test ?_
  | with_reducible refine' w_tB ?_
  | with_reducible refine' w_exbl ?_
  | with_reducible refine' w_exint ?_
  | with_reducible refine' w_t ?_
  | with_reducible refine' w_f ?_
  | with_reducible refine' w_ifS ?_
  | with_reducible refine' w_if ?_
  | with_reducible refine' w_and ?_
  | with_reducible refine' w_or ?_
  | with_reducible refine' w_not ?_
  | with_reducible refine' w_andV ?_
  | with_reducible refine' w_orV ?_
  | with_reducible refine' w_notV ?_
  | with_reducible refine' w_ret ?_
  | with_reducible refine' w_retN ?_
  | with_reducible refine' w_drop ?_
  | with_reducible refine' w_next ?_
  | with_reducible refine' w_nil ?_
  | with_reducible refine' w_cons ?_
  | with_reducible refine' w_cb ?_
  | with_reducible refine' w_call ?_
  | with_reducible refine' w_gsub ?_
  | with_reducible refine' w_gnil ?_
  | with_reducible refine' w_gcons ?_
  | ((with_reducible refine' w_gtup ?hs ?hn ?_); (case hs => walk_at "sq"); (case hn => rfl))
  | with_reducible refine' w_fld ?_
  | with_reducible refine' w_tfld ?_
  | with_reducible refine' w_sl ?_
  | with_reducible refine' w_nopart ?_
  | with_reducible refine' w_part ?_
  | with_reducible refine' w_bm ?_
  | with_reducible refine' w_bm0 ?_
  | with_reducible refine' w_yes ?_
  | with_reducible refine' w_tup ?_
  | with_reducible refine' w_lst ?_
  | with_reducible refine' w_I0 ?_
  | ((with_reducible refine' w_I ?hc ?_); (case hc => (first | (show (0 : Int) < _; first | decide | omega | assumption) | exact wide_div (by first | assumption | decide) (b := 200) (by first | assumption | decide) (by decide) (by decide) | exact wide_mul (a := 64) (b := 64) (by omega) (by omega) (by decide) (by decide) (by decide) | exact ⟨by decide, by decide, by decide⟩)))
  | ((with_reducible refine' w_eq ?he ?_); (case he => rfl))
  | ((with_reducible refine' w_ne ?he ?_); (case he => rfl))
  | ((with_reducible refine' w_ixL ?hs ?ha ?_); (case hs => walk_at "sq"); (case ha => rfl))
  | ((with_reducible refine' w_ixT ?hs ?ha ?_); (case hs => walk_at "sq"); (case ha => rfl))
  | ((with_reducible refine' w_lenL ?hs ?he ?_); (case hs => walk_at "sq"); (case he => first | (simp only [List.length_cons, List.length_nil, List.length_map]; rfl) | rfl))
  | ((with_reducible refine' w_lenT ?hs ?he ?_); (case hs => walk_at "sq"); (case he => first | (simp only [List.length_cons, List.length_nil, List.length_map]; rfl) | rfl))
  | ((with_reducible refine' w_setL ?hh ?hk ?he (fun H1 f1 g1 => ?_)); (case hh => walk_at "hp"); (case hk => rfl); (case he => walk_at "lset"))
  | ((with_reducible refine' w_newT ?hl (fun p H1 n1 f1 g1 => ?_)); (case hl => (first | decide | (simp only [List.length_cons, List.length_nil]; decide))))
  | ((with_reducible refine' w_newL ?hl (fun p H1 n1 f1 g1 => ?_)); (case hl => (first | decide | (simp only [List.length_cons, List.length_nil]; decide))))
  | with_reducible refine' w_for ?_
  | with_reducible refine' w_ilist ?_
  | ((with_reducible refine' w_ilb ?hs ?_); (case hs => walk_at "sq"))
  | with_reducible refine' w_itup ?_
  | ((with_reducible refine' w_itb ?hs ?_); (case hs => walk_at "sq"))
  | with_reducible refine' w_rng1 ?_
  | ((with_reducible refine' w_rgb1 ?h0 ?h1 ?_); (case h0 => first | decide | omega); (case h1 => first | decide | omega))
  | with_reducible refine' w_lc ?_
  | ((with_reducible refine' w_wipe ?hw ?_); (case hw => rfl))
  | ((with_reducible refine' w_cat ?ha ?hb ?hl (fun p H1 n1 f1 g1 => ?_)); (case ha => walk_at "hp"); (case hb => walk_at "hp"); (case hl => (first | decide | (simp only [List.length_cons, List.length_nil]; decide))))
  | with_reducible refine' w_dget ?_
  | with_reducible refine' w_din ?_
  | with_reducible refine' w_dnotin ?_
  | with_reducible refine' w_dput ?_
  | with_reducible refine' w_dnew ?_
  | with_reducible refine' w_newD (fun p H1 n1 f1 g1 => ?_)
  | ((with_reducible refine' w_slT ?hs ?hn ?he (fun p H1 n1 f1 g1 => ?_)); (case hs => walk_at "sq"); (case hn => decide); (case he => rfl))
  | with_reducible refine' w_meth ?_
  | with_reducible refine' w_make ?_
  | with_reducible refine' w_mkb (fun x dx H1 n1 m1 d1 f1 g1 => ?_)
  | with_reducible refine' w_fldaug ?_
  | with_reducible refine' w_tru ?_
  | ((with_reducible refine' w_trl ?hh ?_); (case hh => walk_at "hp"))
  | with_reducible refine' w_whb ?_
  | with_reducible refine' w_chain ?_
  | with_reducible refine' w_tyIs ?_
  | with_reducible refine' w_raise ?_
  | with_reducible refine' w_rab ?_
  | with_reducible refine' w_jn ?_
  | with_reducible refine' w_js ?_
  | with_reducible refine' w_jsn ?_
  | with_reducible refine' w_fmt ?_
  | with_reducible refine' w_isN ?_
  | with_reducible refine' w_intB ?_
  | with_reducible refine' w_istr ?_
  | with_reducible refine' w_stb ?_
  | ((with_reducible refine' w_inT ?hs ?hx ?ha ?_); (case hs => walk_at "sq"); (case hx => rfl); (case ha => rfl))
  | ((with_reducible refine' w_isf ?hd ?_); (case hd => decide +kernel))
  | ((with_reducible refine' w_ist ?hd ?_); (case hd => decide +kernel))
  | with_reducible refine' w_enumT ?_
  | ((with_reducible refine' w_enb ?hs ?_); (case hs => walk_at "sq"))
  | with_reducible refine' w_star ?_
  | ((with_reducible refine' w_stT ?hs ?_); (case hs => walk_at "sq"))
  | ((with_reducible refine' w_stL ?hs ?_); (case hs => walk_at "sq"))
  | with_reducible refine' w_par ?_
  | ((with_reducible refine' w_parb ?he ?_); (case he => walk_at "lset"))
  | with_reducible refine' w_enumL ?_
  | ((with_reducible refine' w_enlb ?hs ?_); (case hs => walk_at "sq"))
  | with_reducible refine' w_revL ?_
  | ((with_reducible refine' w_revb ?hs (fun p H1 n1 f1 g1 => ?_)); (case hs => walk_at "sq"))
  | with_reducible refine' w_max2 ?_
  | with_reducible refine' w_min2 ?_
  | with_reducible refine' w_lrg2 ?_
  | with_reducible refine' w_scI ?_
  | fail "none")
local macro_rules | `(tactic| walk_at "wk") => `(tactic| repeat walk_at "wk1")

section
variable {P : Program} {w : World} {K : PySem.W.Frag} {mg : Str → Option Value} {base : Heap} {f : Addr} {fd : FuncData} {a : Ad}
theorem sc_put_tight : FnScope ["part", "box", "steps", "boxes", "at", "inner"] ["part", "box", "steps"] (defScope s_put_tight) := ⟨rfl, rfl, rfl, by decide +kernel, rfl, by decide +kernel, by decide +kernel⟩
theorem ok_puttight {n : Nat} (F : Fun K "put_tight" "put_tight" s_put_tight f fd) (Z : Blt mg) (D_parts_of : Df P w K mg base CX0 1 "parts_of" ["part"] spPartsOf) (D_filled_with : Df P w K mg base CX0 1 "filled_with" ["part", "filling"] spFilled)
    (D_put_tight : Df P w K mg base CX0 (n + 1) "put_tight" ["part", "box", "steps"] (spPutTight n)) : FnOk P w K mg base CX0 (n + 1 + 1) f fd ["part", "box", "steps"] (spPutTight (n + 1)) := by
  refine F.ok sc_put_tight (fun vs H Q E h => ?_) (fun cdv A outer s H vs Q E hr h => ?_)
  · obtain ⟨v, s, b, l, us, ts, rfl, _⟩ := h
    rfl
  obtain ⟨v, s, b, l, us, ts, rfl, hs, hok, hd, hn, hl, hts, hz, k⟩ := h
  refine ⟨_, (pss_cons (ps_set (i := 3) sc_put_tight.nd rfl (Or.inl rfl) (pe_lst pa_nil))
  (pss_cons (ps_for PassesOwn.never rfl (pi_enumT rfl Z.enumerate (pa_cons (pe_df D_parts_of hr (by first | decide | omega) (pa_cons (pv 0) pa_nil)) pa_nil)) (pg_tup rfl (pgs_cons (pg_name (i := 4) sc_put_tight.nd rfl (Or.inl rfl)) (pgs_cons (pg_name (i := 5) sc_put_tight.nd rfl (Or.inl rfl)) pgs_nil))) (pss_cons (ps_expr (pe_df D_put_tight hr (by first | decide | omega) (pa_cons (pv 5) (pa_cons (pe_op op_add (pv 1) (pv 4)) (pa_cons (pv 2) pa_nil)))))
  (pss_one (ps_expr (pe_bm PySem.F.plainAttrs_list PySem.F.slot_list_append PySem.F.type_list_append mt_append (pv 3) (pa_cons (pe_op op_add (pv 1) (pv 4)) pa_nil))))))
  (pss_one (ps_expr (pe_bm PySem.F.plainAttrs_list PySem.F.slot_list_append PySem.F.type_list_append mt_append (pv 2) (pa_cons (pe_tup (pa_cons (pv 1) (StX.pa_star (pe_df D_filled_with hr (by first | decide | omega) (pa_cons (pv 0) (pa_cons (pv 3) pa_nil))) pa_nil))) pa_nil)))))), ?_⟩
  walk_at "st"
  walk_at "wk"
  rename_i bl H0 n0 f0 g0
  refine u_partsOf (hs.mono f0) (fun tp vs H1 g1 a1 f1 => ?_)
  walk_at "wk"
  have hl1 := f1.get0 (f0.get0 hl)
  have hb1 := f1.get0 g0
  have nlb : l ≠ bl := by walk_at "ne"
  refine forET (xs := vs) (fun i σ H' => ∃ (us' : List V) (o4 o5 : Option V), σ = [some v, some (.int (b : Nat)), some (.ref l), some (.ref bl), o4, o5] ∧ H' l = some (.lst us') ∧ AllStp H' us' (ts ++ tights (s.subs.take i) b) ∧ H' bl = some (.lst ((upFrom b i).map (fun b => V.int (b : Nat)))) ∧ Fr [bl, l] H1 H')
    ⟨us, _, _, rfl, hl1, ?_, hb1, .refl⟩ (fun i σ H' hi ⟨_, _, _, _, _, _, _, f⟩ => SqT.of (f.gett g1)) ?_ ?_
  · rw [List.take_zero]
    exact (List.append_nil ts).symm ▸ (hts.mono (f0.trans f1))
  · rintro i x σ H2 T H3 hx ⟨us', o4, o5, rfl, hl', hts', hb', ff⟩ nT f3 g3
    obtain ⟨t, ht, hxt⟩ := a1.at hx
    have len' := hts'.length
    have len0 := hts.length
    rw [List.length_append, tights_length] at len'
    have tle := sizeL_take s i
    have tle2 := sizeL_take s (i + 1)
    have hsz := s.size_eq
    have tk : sizeL (s.subs.take (i + 1)) = sizeL (s.subs.take i) + t.size := by rw [take_snoc ht, sizeL_app]; rfl
    have td := Sm.subs_depth (List.mem_of_getElem? ht)
    have il : i < vs.length := (List.getElem?_eq_some_iff.mp hx).1
    have tlen : (s.subs.take i).length = i := by rw [List.length_take]; have := a1.length; omega
    walk_at "wk"
    have eb : ((b : Int) + (i : Int)) = ((b + i : Nat) : Int) := by omega
    rw [eb]
    have nlb3 : l ≠ bl := nlb
    refine u_puttight (by walk_at "su") (subs_ok hok (List.mem_of_getElem? ht)) (by omega) (by omega) (by walk_at "hp") (hts'.mono f3) (by omega) (fun us2 H4 g4 a4 f4 => ?_)
    walk_at "wk"
    have hb4 : H4 bl = some (.lst ((upFrom b i).map (fun b => V.int (b : Nat)))) := f4.getl (ni1 nlb.symm) (f3.get0 hb')
    refine w_tyl hb4 ?_
    walk_at "wk"
    refine w_app hb4 (by rw [List.length_map, upFrom_length]; have := subs_len2 s; have := a1.length; omega) (fun H5 f5 g5 => ?_)
    refine ⟨us2, _, _, rfl, f5.getl (ni1 nlb) g4, ?_, ?_, by walk_at "fr"⟩
    · rw [take_snoc ht, tights_snoc, tlen, ← List.append_assoc]
      exact a4.mono f5
    · rw [g5, upFrom_snoc, List.map_append, eb]
      rfl
  · rintro σ H2 ⟨us', o4, o5, rfl, hl', hts', hb', ff⟩
    rw [a1.length, List.take_length] at hts'
    rw [a1.length] at hb'
    obtain ⟨p, xs, rfl, hp, hxs⟩ := hs.items
    have len' := hts'.length
    have len0 := hts.length
    rw [List.length_append, tights_length] at len'
    have hsz := s.size_eq
    have l2 := subs_len2 s
    walk_at "wk"
    refine w_tyl hl' ?_
    walk_at "wk"
    have vlen : (s.vals xs).length ≤ 3 := by
      have := hxs.length
      cases s <;> simp [Sm.vals, Sm.subs] at * <;> omega
    refine u_filled (ff.gett (f1.gett (f0.gett hp))) (by cases s <;> simp [Sm.vals]) (by omega) hb' (by rw [List.length_map, upFrom_length]; omega) (fun r H4 g4 f4 => ?_)
    rw [fill_rst (upFrom_length _ _)] at g4
    have rl := vals_len (s.rst (upFrom b s.subs.length))
    walk_at "wk"
    refine w_newT (by simp only [List.length_cons, List.length_append, List.length_nil]; omega) (fun d H5 n5 f5 g5 => ?_)
    rw [List.append_nil] at g5
    walk_at "wk"
    refine w_app (f5.get0 (f4.get0 hl')) (by omega) (fun H6 f6 g6 => ?_)
    have fz : Fr [bl, l] H1 H6 := by walk_at "fr"
    refine k _ H6 g6 ?_ ?_
    · rw [Sm.tight_eq, ← List.append_assoc]
      exact AllStp.app (((hts'.mono f4).mono f5).mono f6) ⟨⟨d, rfl, f6.gett g5⟩, trivial⟩
    · exact ((f0.nil.trans (f1.nil.trans fz)).drop n0)
end
end My
namespace My
open PySem L2 Wk
local macro_rules | `(tactic| walk_at "hs") => `(tactic| first
  | assumption
  | (apply fr_st0; (case f => assumption); (case h => walk_at "hs"))
  | (apply fr_st1; (case f => assumption); (case n => walk_at "ne"); (case hw => first | assumption | exact List.mem_cons_self); (case h => walk_at "hs"))
  | fail "none")
local macro_rules | `(tactic| walk_at "nn") => `(tactic| first
  | (apply nn_st; (case n => assumption); (case h => walk_at "hs"))
  | (apply nn_l; (case n => assumption); (case h => walk_at "hp"))
  | (apply nn_d; (case n => assumption); (case h => walk_at "hp"))
  | (apply nn_i; (case n => assumption); (case h => walk_at "hp"))
  | fail "none")
local macro_rules | `(tactic| walk_at "su") => `(tactic| first
  | assumption
  | (apply fr_su; (case f => assumption); (case h => walk_at "su"))
  | fail "none")
local macro_rules | `(tactic| walk_at "as") => `(tactic| first
  | assumption
  | (apply fr_as; (case f => assumption); (case h => walk_at "as"))
  | fail "none")
local macro_rules | `(tactic| walk_at "ef") => `(tactic| first
  | assumption
  | (apply fr_ef0; (case f => assumption); (case h => walk_at "ef"))
  | (apply fr_ef; (case f => assumption); (case n1 => walk_at "ni"); (case n2 => walk_at "ni"); (case n3 => walk_at "ni"); (case h => walk_at "ef"))
  | fail "none")
local macro_rules | `(tactic| walk_at "td") => `(tactic| first
  | assumption
  | (apply fr_td0; (case f => assumption); (case h => walk_at "td"))
  | (apply fr_td; (case f => assumption); (case n1 => walk_at "ni"); (case n2 => walk_at "ni"); (case n3 => walk_at "ni"); (case h => walk_at "td"))
  | fail "none")
local macro_rules | `(tactic| walk_at "sk") => `(tactic| first
  | assumption
  | (apply fr_stk; (case f => assumption); (case a => walk_at "sk"))
  | fail "none")
local macro_rules | `(tactic| walk_at "al") => `(tactic| first
  | assumption
  | (apply fr_al; (case f => assumption); (case h => walk_at "al"))
  | fail "none")
local macro_rules | `(tactic| walk_at "nv") => `(tactic| first
  | assumption
  | (apply fr_nv; (case a => assumption); (case n => walk_at "ni"); (case h => walk_at "nv"))
  | fail "none")
local macro_rules | `(tactic| walk_at "ne") => `(tactic| first
  | assumption
  | (apply Ne.symm; assumption)
  | walk_at "nn"
  | (apply Ne.symm; walk_at "nn")
  | fail "none")
local macro_rules | `(tactic| walk_at "ni") => `(tactic| first
  | exact List.not_mem_nil
  | (apply ni1; walk_at "ne")
  | (apply ni2 <;> walk_at "ne")
  | (apply ni3 <;> walk_at "ne")
  | fail "none")
local macro_rules | `(tactic| walk_at "hp") => `(tactic| first
  | assumption
  | (apply Fr.gett; (case a => assumption); (case h => walk_at "hp"))
  | (apply Fr.getl; (case a => assumption); (case n => walk_at "ni"); (case h => walk_at "hp"))
  | (apply Fr.getd; (case a => assumption); (case n => walk_at "ni"); (case h => walk_at "hp"))
  | (apply Fr.geti; (case a => assumption); (case n => walk_at "ni"); (case h => walk_at "hp"))
  | fail "none")
local macro_rules | `(tactic| walk_at "sqs") => `(tactic| first
  | assumption
  | (apply Fr.sqln; (case a => assumption); (case n => walk_at "ni"); (case h => walk_at "sqs"))
  | fail "none")
local macro_rules | `(tactic| walk_at "sq") => `(tactic| first
  | assumption
  | (apply SqL.of; walk_at "hp")
  | (apply SqT.of; walk_at "hp")
  | walk_at "sqs"
  | fail "none")
local macro_rules | `(tactic| walk_at "fr") => `(tactic| first
  | exact Fr.refl
  | assumption
  | (apply Fr.mono; (case a => assumption); (case h => simp))
  | (apply fr_last; (case f => assumption); (case w => simp); (case g => walk_at "fr"))
  | fail "none")
local macro_rules | `(tactic| walk_at "st") => `(tactic| ((try dsimp only [cxOf, Cx.nox, Cx.wish]); (try simp only [L2.start, List.map_cons, List.map_nil, List.length_cons, List.length_nil, List.replicate, List.cons_append, List.nil_append, Nat.reduceAdd, Nat.reduceSub])))
local macro_rules | `(tactic| walk_at "lset") => `(tactic| (simp only [wipe, List.map_cons, List.map_nil, Int.reduceToNat, List.set_cons_zero, List.set_cons_succ] <;> rfl))
local macro_rules | `(tactic| walk_at "wk1") => `(tactic| first
  | with_reducible refine' w_seq ?_
  | with_reducible refine' w_asg ?_
  | ((with_reducible refine' w_name ?hs ?_); (case hs => walk_at "lset"))
  | ((with_reducible refine' w_var ?hv ?_); (case hv => rfl))
  | with_reducible refine' w_c ?_
  | with_reducible refine' w_op ?_
  | with_reducible refine' w_un ?_
  | with_reducible refine' w_test ?_
  | with_reducible refine' w_tB ?_
  | with_reducible refine' w_exbl ?_
  | with_reducible refine' w_exint ?_
  | with_reducible refine' w_t ?_
  | with_reducible refine' w_f ?_
  | with_reducible refine' w_ifS ?_
  | with_reducible refine' w_if ?_
  | with_reducible refine' w_and ?_
  | with_reducible refine' w_or ?_
  | with_reducible refine' w_not ?_
  | with_reducible refine' w_andV ?_
  | with_reducible refine' w_orV ?_
  | with_reducible refine' w_notV ?_
  | with_reducible refine' w_ret ?_
  | with_reducible refine' w_retN ?_
  | with_reducible refine' w_drop ?_
  | with_reducible refine' w_next ?_
  | with_reducible refine' w_nil ?_
  | with_reducible refine' w_cons ?_
  | with_reducible refine' w_cb ?_
  | with_reducible refine' w_call ?_
  | with_reducible refine' w_gsub ?_
  | with_reducible refine' w_gnil ?_
  | with_reducible refine' w_gcons ?_
  | ((with_reducible refine' w_gtup ?hs ?hn ?_); (case hs => walk_at "sq"); (case hn => rfl))
  | with_reducible refine' w_fld ?_
  | with_reducible refine' w_tfld ?_
  | with_reducible refine' w_sl ?_
  | with_reducible refine' w_nopart ?_
  | with_reducible refine' w_part ?_
  | with_reducible refine' w_bm ?_
  | with_reducible refine' w_bm0 ?_
  | with_reducible refine' w_yes ?_
  | with_reducible refine' w_tup ?_
  | with_reducible refine' w_lst ?_
  | with_reducible refine' w_I0 ?_
  | ((with_reducible refine' w_I ?hc ?_); (case hc => (first | (show (0 : Int) < _; first | decide | omega | assumption) | exact wide_div (by first | assumption | decide) (b := 200) (by first | assumption | decide) (by decide) (by decide) | exact wide_mul (a := 64) (b := 64) (by omega) (by omega) (by decide) (by decide) (by decide) | exact ⟨by decide, by decide, by decide⟩)))
  | ((with_reducible refine' w_eq ?he ?_); (case he => rfl))
  | ((with_reducible refine' w_ne ?he ?_); (case he => rfl))
  | ((with_reducible refine' w_ixL ?hs ?ha ?_); (case hs => walk_at "sq"); (case ha => rfl))
  | ((with_reducible refine' w_ixT ?hs ?ha ?_); (case hs => walk_at "sq"); (case ha => rfl))
  | ((with_reducible refine' w_lenL ?hs ?he ?_); (case hs => walk_at "sq"); (case he => first | (simp only [List.length_cons, List.length_nil, List.length_map]; rfl) | rfl))
  | ((with_reducible refine' w_lenT ?hs ?he ?_); (case hs => walk_at "sq"); (case he => first | (simp only [List.length_cons, List.length_nil, List.length_map]; rfl) | rfl))
  | ((with_reducible refine' w_setL ?hh ?hk ?he (fun H1 f1 g1 => ?_)); (case hh => walk_at "hp"); (case hk => rfl); (case he => walk_at "lset"))
  | ((with_reducible refine' w_newT ?hl (fun p H1 n1 f1 g1 => ?_)); (case hl => (first | decide | (simp only [List.length_cons, List.length_nil]; decide))))
  | ((with_reducible refine' w_newL ?hl (fun p H1 n1 f1 g1 => ?_)); (case hl => (first | decide | (simp only [List.length_cons, List.length_nil]; decide))))
  | with_reducible refine' w_for ?_
  | with_reducible refine' w_ilist ?_
  | ((with_reducible refine' w_ilb ?hs ?_); (case hs => walk_at "sq"))
  | with_reducible refine' w_itup ?_
  | ((with_reducible refine' w_itb ?hs ?_); (case hs => walk_at "sq"))
  | with_reducible refine' w_rng1 ?_
  | ((with_reducible refine' w_rgb1 ?h0 ?h1 ?_); (case h0 => first | decide | omega); (case h1 => first | decide | omega))
  | with_reducible refine' w_lc ?_
  | ((with_reducible refine' w_wipe ?hw ?_); (case hw => rfl))
  | ((with_reducible refine' w_cat ?ha ?hb ?hl (fun p H1 n1 f1 g1 => ?_)); (case ha => walk_at "hp"); (case hb => walk_at "hp"); (case hl => (first | decide | (simp only [List.length_cons, List.length_nil]; decide))))
  | with_reducible refine' w_dget ?_
  | with_reducible refine' w_din ?_
  | with_reducible refine' w_dnotin ?_
  | with_reducible refine' w_dput ?_
  | with_reducible refine' w_dnew ?_
  | with_reducible refine' w_newD (fun p H1 n1 f1 g1 => ?_)
  | ((with_reducible refine' w_slT ?hs ?hn ?he (fun p H1 n1 f1 g1 => ?_)); (case hs => walk_at "sq"); (case hn => decide); (case he => rfl))
  | with_reducible refine' w_meth ?_
  | with_reducible refine' w_make ?_
  | with_reducible refine' w_mkb (fun x dx H1 n1 m1 d1 f1 g1 => ?_)
  | with_reducible refine' w_fldaug ?_
  | with_reducible refine' w_tru ?_
  | ((with_reducible refine' w_trl ?hh ?_); (case hh => walk_at "hp"))
  | with_reducible refine' w_whb ?_
  | with_reducible refine' w_chain ?_
  | with_reducible refine' w_tyIs ?_
  | with_reducible refine' w_raise ?_
  | with_reducible refine' w_rab ?_
  | with_reducible refine' w_jn ?_
  | with_reducible refine' w_js ?_
  | with_reducible refine' w_jsn ?_
  | with_reducible refine' w_fmt ?_
  | with_reducible refine' w_isN ?_
  | with_reducible refine' w_intB ?_
  | with_reducible refine' w_istr ?_
  | with_reducible refine' w_stb ?_
  | ((with_reducible refine' w_inT ?hs ?hx ?ha ?_); (case hs => walk_at "sq"); (case hx => rfl); (case ha => rfl))
  | ((with_reducible refine' w_isf ?hd ?_); (case hd => decide +kernel))
  | ((with_reducible refine' w_ist ?hd ?_); (case hd => decide +kernel))
  | with_reducible refine' w_enumT ?_
  | ((with_reducible refine' w_enb ?hs ?_); (case hs => walk_at "sq"))
  | with_reducible refine' w_star ?_
  | ((with_reducible refine' w_stT ?hs ?_); (case hs => walk_at "sq"))
  | ((with_reducible refine' w_stL ?hs ?_); (case hs => walk_at "sq"))
  | with_reducible refine' w_par ?_
  | ((with_reducible refine' w_parb ?he ?_); (case he => walk_at "lset"))
  | with_reducible refine' w_enumL ?_
  | ((with_reducible refine' w_enlb ?hs ?_); (case hs => walk_at "sq"))
  | with_reducible refine' w_revL ?_
  | ((with_reducible refine' w_revb ?hs (fun p H1 n1 f1 g1 => ?_)); (case hs => walk_at "sq"))
  | with_reducible refine' w_max2 ?_
  | with_reducible refine' w_min2 ?_
  | with_reducible refine' w_lrg2 ?_
  | with_reducible refine' w_scI ?_
  | fail "none")
local macro_rules | `(tactic| walk_at "wk") => `(tactic| repeat walk_at "wk1")

section
variable {P : Program} {w : World} {K : PySem.W.Frag} {mg : Str → Option Value} {base : Heap} {f : Addr} {fd : FuncData} {a : Ad}
theorem sc_Way_init : FnScope ["self", "part", "effects", "straight", "turned", "one", "way"] ["self", "part"] (defScope s_Way_init) := ⟨rfl, rfl, rfl, by decide +kernel, rfl, by decide +kernel, by decide +kernel⟩
theorem ok_initW {n : Nat} {fI : Addr} {fdI : FuncData} (F : Fun K "__init__" "Way.__init__" s_Way_init f fd) (Z : Blt mg) (T : Txt K mg a) (D_parts_of : Df P w K mg base CX0 1 "parts_of" ["part"] spPartsOf) (D_is_effect : Df P w K mg base CX0 1 "is_effect" ["part"] spIsEff) (D_boxes_in_order : Df P w K mg base CX0 1 "boxes_in_order" ["ways"] (spBoxesIn a.way))
    (M_Way : Mk K a.way fI) (b_Way : Binds K fdI ["self", "part"] []) (G_Way : FnOk P w K mg base CX0 (2 * n + 2) fI fdI ["self", "part"] (spInitW a.way n)) : FnOk P w K mg base CX0 (2 * (n + 1) + 2) f fd ["self", "part"] (spInitW a.way (n + 1)) := by
  refine F.ok sc_Way_init (fun vs H Q E h => ?_) (fun cdv A outer s H vs Q E hr h => ?_)
  · obtain ⟨x, dx, v, s, rfl, _⟩ := h
    rfl
  obtain ⟨x, dx, v, s, rfl, hx, hs, hd, k⟩ := h
  refine ⟨_, (pss_cons (ps_fld (pv 0) (pv 1) rfl)
  (pss_cons (ps_fld (pv 0) (pe_lc (own := [("one", 5)]) (g := (gName 5)) (tt := tYes) (by rfl) sc_Way_init.nd (pi_tup (pe_df D_parts_of hr (by first | decide | omega) (pa_cons (pv 1) pa_nil))) (blkOk_by (own := [("one", 5)]) (N := ["self", "part", "effects", "straight", "turned", "one", "way"]) (sc := defScope s_Way_init) (by decide +kernel)) (fun _ _ _ _ _ => pg_name (i := 5) sc_Way_init.nd rfl (Or.inl rfl)) (fun _ _ _ _ _ => pts_nil) (fun _ _ _ _ _ => (pe_make M_Way G_Way (hr.mono (by first | decide | omega)) rfl T.m_Way b_Way .nil pass0 (pa_cons (pv 5) pa_nil)))) rfl)
  (pss_cons (ps_setLc (i := 2) (own := [("way", 6)]) (g := (gName 6)) (tt := tYes) (by rfl) sc_Way_init.nd rfl rfl (sw_true rfl rfl rfl (by decide +kernel)) (pi_list (pe_fld (pv 0) rfl)) (blkOk_by (own := [("way", 6)]) (N := ["self", "part", "effects", "straight", "turned", "one", "way"]) (sc := defScope s_Way_init) (by decide +kernel)) (fun _ _ _ _ _ => pg_name (i := 6) sc_Way_init.nd rfl (Or.inl rfl)) (fun _ _ _ _ _ => pts_nil) (fun _ _ _ _ _ => (pe_fldK (K := K) (by rfl) (pv 6) (by rfl))))
  (pss_cons (ps_fld (pv 0) (pe_or (pe_df D_is_effect hr (by first | decide | omega) (pa_cons (pv 1) pa_nil)) (pe_one (pe_callB (r := rAny K) (cr_any (by rfl)) (by rfl) Z.any (by decide +kernel) (pa_cons (pv 2) pa_nil)))) rfl)
  (pss_cons (ps_set (i := 3) sc_Way_init.nd rfl (Or.inl rfl) (pe_df D_boxes_in_order hr (by first | decide | omega) (pa_cons (pe_fld (pv 0) rfl) pa_nil)))
  (pss_cons (ps_set (i := 4) sc_Way_init.nd rfl (Or.inl rfl) (pe_df D_boxes_in_order hr (by first | decide | omega) (pa_cons (pe_revL (pe_fld (pv 0) rfl)) pa_nil)))
  (pss_cons (ps_fld (pv 0) (pe_and (pe_cmpR op_lt (pv 4) (pv 3) (nomark _)) (pe_one (pe_not (pe_callB (r := rAll K) (cr_all (by rfl)) (by rfl) Z.all (by decide +kernel) (pa_cons (pv 2) pa_nil))))) rfl)
  (pss_one (ps_fld (pv 0) (pe_ifExp (pt_val (pe_fld (pv 0) rfl) (fun _ => rfl)) (pv 4) (pv 3)) rfl))))))))), ?_⟩
  walk_at "st"
  walk_at "wk"
  refine w_putfld hx T.cl_Way T.n_part (by simp) (way_put1 v) (fun H1 f1 g1 => ?_)
  walk_at "wk"
  refine u_partsOf (hs.mono f1) (fun tp vs H2 g2 a2 f2 => ?_)
  walk_at "wk"
  refine lcT (xs := vs) (fun D i acc H' => AllWay a.way (fun b => H2 b = none ∧ b ≠ D) H' acc (s.subs.take i) ∧ Fr [D] H2 H') (fun D H' hD f g => ⟨trivial, f.nil⟩) (fun D i acc H' hD ⟨_, f⟩ => SqT.of (f.gett g2)) (fun D i y acc H' hD hy hlt ha hA ⟨e, f⟩ => ?_) (fun D acc H3 hD hA hn ⟨e, f⟩ => ?_)
  · obtain ⟨t, ht, hxt⟩ := a2.at hy
    have td := Sm.subs_depth (List.mem_of_getElem? ht)
    walk_at "wk"
    rename_i x5 d5 H5 nx5 nd5 m5 f5 g5
    refine u_initW g5 (by walk_at "su") (by omega) (fun H6 w6 f6 => ⟨rfl, ?_⟩)
    have nDx : x5 ≠ D := nn_l nx5 hA
    have f56 : Fr [] H' H6 := (f5.nil.trans f6).drop nx5
    refine lcE (acc := acc) (f56.get0 hA) ha (by have := subs_len2 s; have := a2.length; omega) (fun H7 f7 g7 => ⟨?_, by walk_at "fr"⟩)
    rw [take_snoc ht]
    have old : ∀ b, H' b = none → H2 b = none ∧ b ≠ D := by
      intro b hb
      refine ⟨?_, fun q => by rw [q, hA] at hb; cases hb⟩
      cases e : H2 b with
      | none => rfl
      | some o =>
        have nb : b ≠ D := fun q => by rw [q, hD] at e; cases e
        have := f.get e (by simpa using nb)
        rw [hb] at this; cases this
    refine AllWay.app ((e.mono f56 (by simp) fun _ z => z).mono f7 (fun b hb hk => hk.2 (List.mem_singleton.mp hb)) fun _ z => z) ⟨?_, trivial⟩
    refine (w6.mono f7 (fun b hb hk => ?_) fun b hb => ?_)
    · rw [List.mem_singleton.mp hb] at hk
      rcases hk with q | q
      · exact nDx q.symm
      · rw [f5.get0 hA] at q; cases q
    · rcases hb with q | q
      · rw [q]; exact old _ nx5
      · exact old _ (f5.back q)
  · rw [a2.length, List.take_length] at e
    have f0 : Fr [] H2 H3 := f.drop hD
    have x2 := f2.get0 g1
    have x3 := f0.get0 x2
    have nxD : D ≠ x := nn_i hD x2
    walk_at "wk"
    refine w_putfld x3 T.cl_Way T.n_inner (by simp [way1]) (way_put2 v D) (fun H4 f4 g4 => ?_)
    have e4 : AllWay a.way (fun b => H2 b = none ∧ b ≠ D) H4 acc s.subs := e.mono f4 (fun b hb hk => by rw [List.mem_singleton.mp hb, x2] at hk; cases hk.1) fun _ z => z
    have D4 : H4 D = some (.lst acc) := f4.getl (ni1 nxD) hA
    have xok : ∀ b, b ∈ [x] → ¬ (H2 b = none ∧ b ≠ D) := fun b hb hk => by rw [List.mem_singleton.mp hb, x2] at hk; cases hk.1
    have l2 := subs_len2 s
    have al := e4.length
    walk_at "wk"
    refine w_getfld g4 T.cl_Way T.n_inner (way2_inner v D) ?_
    walk_at "wk"
    refine lcL (xs := acc) (fun C i ac H' => ac = ((s.subs.map Sm.eff).take i).map V.bl ∧ C ≠ D ∧ Fr [C] H4 H') (fun C H' hC f g => ⟨rfl, nn_l hC D4, f.nil⟩) (fun C i ac H' hC ⟨_, n, f⟩ => SqL.of (f.getl (ni1 n.symm) D4)) (fun C i y ac H' hC hy hlt ha hA' ⟨e', n', f'⟩ => ?_) (fun C ac H5 hC hA' hn' ⟨e', n', f'⟩ => ?_)
    · obtain ⟨t, ht, hyt⟩ := e4.at hy
      obtain ⟨y', dy, il, pv, ws', rfl, ok1, _, hy', _, _, _⟩ := hyt.items
      have ny : y' ≠ C := (nn_i hC hy').symm
      walk_at "wk"
      refine w_getfld (f'.geti (ni1 ny) hy') T.cl_Way T.n_effect (wf_effect _ _ _ _ _) ?_
      refine lcE (acc := ac) hA' ha (by omega) (fun H6 f6 g6 => ⟨?_, n', by walk_at "fr"⟩)
      have ht' : (s.subs.map Sm.eff)[i]? = some t.eff := by rw [List.getElem?_map, ht]; rfl
      rw [take_snoc ht', List.map_append, e']
      rfl
    · have f45 : Fr [] H4 H5 := f'.drop hC
      have em : (s.subs.map Sm.eff).take acc.length = s.subs.map Sm.eff := by rw [al, ← List.length_map (f := Sm.eff), List.take_length]
      rw [em] at e'
      subst e'
      refine w_name (by walk_at "lset") ?_
      refine w_seq ?_
      refine w_fld ?_
      refine w_join (.bl s.eff) (fun H' => Fr [] H5 H') (fun H6 f6 => ?_) (fun tail => ?_)
      · have x6 := f6.get0 (f45.get0 g4)
        have ef6 := f6.get0 hA'
        have D6 := f6.get0 (f45.get0 D4)
        have e6 := (e4.mono0 f45).mono0 f6
        walk_at "wk"
        refine w_putfld x6 T.cl_Way T.n_effect (by simp [way2]) (way_put3 v D s.eff) (fun H7 f7 g7 => ?_)
        have nCx : C ≠ x := nn_i hC g4
        have ef7 := f7.getl (ni1 nCx) ef6
        have D7 := f7.getl (ni1 nxD) D6
        have e7 := e6.mono f7 xok fun _ z => z
        walk_at "wk"
        refine w_getfld g7 T.cl_Way T.n_inner (way3_inner v D s.eff) ?_
        walk_at "wk"
        refine u_boxesIn D7 e7 l2 (fun H8 f8 => ?_)
        walk_at "wk"
        refine w_getfld (f8.get0 g7) T.cl_Way T.n_inner (way3_inner v D s.eff) ?_
        walk_at "wk"
        rename_i rp H9 n9 f9 g9
        refine u_boxesIn g9 (((e7.mono0 f8).mono0 f9).rev) (by simpa using l2) (fun H10 f10 => ?_)
        have f710 : Fr [] H7 H10 := f8.trans (f9.trans f10)
        refine w_name (by walk_at "lset") ?_
        refine w_seq ?_
        refine w_fld ?_
        refine w_join (.bl s.turn) (fun H' => H' = H10) (fun H11 e11 => ?_) (fun tail => ?_)
        · subst e11
          walk_at "wk"
          refine w_putfld (f710.get0 g7) T.cl_Way T.n_turned (by simp [way3]) (way_put4 v D s.eff s.turn) (fun H12 f12 g12 => ?_)
          have e12 := (e7.mono0 f710).mono f12 xok fun _ z => z
          have D12 := f12.getl (ni1 nxD) (f710.get0 D7)
          refine w_fld ?_
          refine w_join (.int (s.many : Nat)) (fun H' => H' = H12) (fun H13 e13 => ?_) (fun tail => ?_)
          · subst e13
            walk_at "wk"
            refine w_putfld g12 T.cl_Way T.n_many (by simp [way4]) (way_put5 v D s.eff s.turn s.many) (fun H14 f14 g14 => ?_)
            have e14 := e12.mono f14 xok fun _ z => z
            have D14 := f14.getl (ni1 nxD) D12
            have ffin : Fr [x] H H14 := by walk_at "fr"
            have none_of : ∀ b, b ≠ x → H2 b = none → H b = none := fun b nb hb => by
              cases q : H b with
              | none => rfl
              | some o =>
                have z := f2.get0 (f1.get q (by simpa using nb))
                rw [hb] at z; cases z
            refine k H14 ?_ ffin
            exact .of (.inl rfl) (.inr (none_of D nxD hD)) g14 (hs.mono ffin) D14 (e14.mono (W := []) .refl (by simp) fun b hb => by
              by_cases q : b = x
              · exact .inl q
              · exact .inr (none_of b q hb.1))
          · walk_at "wk"
            refine w_getfld g12 T.cl_Way T.n_turned (way4_turned v D s.eff s.turn) ?_
            walk_at "wk"
            refine w_iteb (fun c => ?_) (fun c => ?_)
            · refine w_var rfl ?_
              have z := tail _ rfl
              rw [show s.many = boxesIn (List.map Sm.many s.subs.reverse) by rw [Sm.many_eq, if_pos c, List.map_reverse]] at z
              exact z
            · refine w_var rfl ?_
              have z := tail _ rfl
              rw [show s.many = boxesIn (List.map Sm.many s.subs) by rw [Sm.many_eq, if_neg (by rw [c]; exact Bool.false_ne_true)]] at z
              exact z
        · walk_at "wk"
          refine w_iteD (fun c => ?_) (fun c => ?_)
          · walk_at "wk"
            refine w_all (SqL.of (f710.get0 ef7)) ?_
            refine w_exbl ?_
            have z := tail _ rfl
            rw [show s.turn = !((List.map Sm.eff s.subs).all id) by rw [Sm.turn_eq, decide_eq_true (by rw [← List.map_reverse]; omega), Bool.true_and]] at z
            exact z
          · have z := tail _ rfl
            rw [show s.turn = false by rw [Sm.turn_eq, decide_eq_false (by rw [← List.map_reverse]; omega), Bool.false_and]] at z
            exact z
      · walk_at "wk"
        refine u_isEff (by walk_at "su") (fun H6 f6 => ?_)
        walk_at "wk"
        refine w_iteb (fun c => ?_) (fun c => ?_)
        · have z := tail _ f6
          rw [show s.eff = true by rw [Sm.eff_eq, c, Bool.true_or]] at z
          exact z
        · walk_at "wk"
          refine w_any (SqL.of (f6.get0 hA')) ?_
          have z := tail _ f6
          rw [show s.eff = (List.map Sm.eff s.subs).any id by rw [Sm.eff_eq, c, Bool.false_or]] at z
          exact z
end
end My
namespace My
open PySem L2 Wk
local macro_rules | `(tactic| walk_at "hs") => `(tactic| first
  | assumption
  | (apply fr_st0; (case f => assumption); (case h => walk_at "hs"))
  | (apply fr_st1; (case f => assumption); (case n => walk_at "ne"); (case hw => first | assumption | exact List.mem_cons_self); (case h => walk_at "hs"))
  | fail "none")
local macro_rules | `(tactic| walk_at "nn") => `(tactic| first
  | (apply nn_st; (case n => assumption); (case h => walk_at "hs"))
  | (apply nn_l; (case n => assumption); (case h => walk_at "hp"))
  | (apply nn_d; (case n => assumption); (case h => walk_at "hp"))
  | (apply nn_i; (case n => assumption); (case h => walk_at "hp"))
  | fail "none")
local macro_rules | `(tactic| walk_at "su") => `(tactic| first
  | assumption
  | (apply fr_su; (case f => assumption); (case h => walk_at "su"))
  | fail "none")
local macro_rules | `(tactic| walk_at "as") => `(tactic| first
  | assumption
  | (apply fr_as; (case f => assumption); (case h => walk_at "as"))
  | fail "none")
local macro_rules | `(tactic| walk_at "ef") => `(tactic| first
  | assumption
  | (apply fr_ef0; (case f => assumption); (case h => walk_at "ef"))
  | (apply fr_ef; (case f => assumption); (case n1 => walk_at "ni"); (case n2 => walk_at "ni"); (case n3 => walk_at "ni"); (case h => walk_at "ef"))
  | fail "none")
local macro_rules | `(tactic| walk_at "td") => `(tactic| first
  | assumption
  | (apply fr_td0; (case f => assumption); (case h => walk_at "td"))
  | (apply fr_td; (case f => assumption); (case n1 => walk_at "ni"); (case n2 => walk_at "ni"); (case n3 => walk_at "ni"); (case h => walk_at "td"))
  | fail "none")
local macro_rules | `(tactic| walk_at "sk") => `(tactic| first
  | assumption
  | (apply fr_stk; (case f => assumption); (case a => walk_at "sk"))
  | fail "none")
local macro_rules | `(tactic| walk_at "al") => `(tactic| first
  | assumption
  | (apply fr_al; (case f => assumption); (case h => walk_at "al"))
  | fail "none")
local macro_rules | `(tactic| walk_at "nv") => `(tactic| first
  | assumption
  | (apply fr_nv; (case a => assumption); (case n => walk_at "ni"); (case h => walk_at "nv"))
  | fail "none")
local macro_rules | `(tactic| walk_at "ne") => `(tactic| first
  | assumption
  | (apply Ne.symm; assumption)
  | walk_at "nn"
  | (apply Ne.symm; walk_at "nn")
  | fail "none")
local macro_rules | `(tactic| walk_at "ni") => `(tactic| first
  | exact List.not_mem_nil
  | (apply ni1; walk_at "ne")
  | (apply ni2 <;> walk_at "ne")
  | (apply ni3 <;> walk_at "ne")
  | fail "none")
local macro_rules | `(tactic| walk_at "hp") => `(tactic| first
  | assumption
  | (apply Fr.gett; (case a => assumption); (case h => walk_at "hp"))
  | (apply Fr.getl; (case a => assumption); (case n => walk_at "ni"); (case h => walk_at "hp"))
  | (apply Fr.getd; (case a => assumption); (case n => walk_at "ni"); (case h => walk_at "hp"))
  | (apply Fr.geti; (case a => assumption); (case n => walk_at "ni"); (case h => walk_at "hp"))
  | fail "none")
local macro_rules | `(tactic| walk_at "sqs") => `(tactic| first
  | assumption
  | (apply Fr.sqln; (case a => assumption); (case n => walk_at "ni"); (case h => walk_at "sqs"))
  | fail "none")
local macro_rules | `(tactic| walk_at "sq") => `(tactic| first
  | assumption
  | (apply SqL.of; walk_at "hp")
  | (apply SqT.of; walk_at "hp")
  | walk_at "sqs"
  | fail "none")
local macro_rules | `(tactic| walk_at "fr") => `(tactic| first
  | exact Fr.refl
  | assumption
  | (apply Fr.mono; (case a => assumption); (case h => simp))
  | (apply fr_last; (case f => assumption); (case w => simp); (case g => walk_at "fr"))
  | fail "none")
local macro_rules | `(tactic| walk_at "st") => `(tactic| ((try dsimp only [cxOf, Cx.nox, Cx.wish]); (try simp only [L2.start, List.map_cons, List.map_nil, List.length_cons, List.length_nil, List.replicate, List.cons_append, List.nil_append, Nat.reduceAdd, Nat.reduceSub])))
local macro_rules | `(tactic| walk_at "lset") => `(tactic| (simp only [wipe, List.map_cons, List.map_nil, Int.reduceToNat, List.set_cons_zero, List.set_cons_succ] <;> rfl))
local macro_rules | `(tactic| walk_at "wk1") => `(tactic| first
  | with_reducible refine' w_seq ?_
  | with_reducible refine' w_asg ?_
  | ((with_reducible refine' w_name ?hs ?_); (case hs => walk_at "lset"))
  | ((with_reducible refine' w_var ?hv ?_); (case hv => rfl))
  | with_reducible refine' w_c ?_
  | with_reducible refine' w_op ?_
  | with_reducible refine' w_un ?_
  | with_reducible refine' w_test ?_
  | with_reducible refine' w_tB ?_
  | with_reducible refine' w_exbl ?_
  | with_reducible refine' w_exint ?_
  | with_reducible refine' w_t ?_
  | with_reducible refine' w_f ?_
  | with_reducible refine' w_ifS ?_
  | with_reducible refine' w_if ?_
  | with_reducible refine' w_and ?_
  | with_reducible refine' w_or ?_
  | with_reducible refine' w_not ?_
  | with_reducible refine' w_andV ?_
  | with_reducible refine' w_orV ?_
  | with_reducible refine' w_notV ?_
  | with_reducible refine' w_ret ?_
  | with_reducible refine' w_retN ?_
  | with_reducible refine' w_drop ?_
  | with_reducible refine' w_next ?_
  | with_reducible refine' w_nil ?_
  | with_reducible refine' w_cons ?_
  | with_reducible refine' w_cb ?_
  | with_reducible refine' w_call ?_
  | with_reducible refine' w_gsub ?_
  | with_reducible refine' w_gnil ?_
  | with_reducible refine' w_gcons ?_
  | ((with_reducible refine' w_gtup ?hs ?hn ?_); (case hs => walk_at "sq"); (case hn => rfl))
  | with_reducible refine' w_fld ?_
  | with_reducible refine' w_tfld ?_
  | with_reducible refine' w_sl ?_
  | with_reducible refine' w_nopart ?_
  | with_reducible refine' w_part ?_
  | with_reducible refine' w_bm ?_
  | with_reducible refine' w_bm0 ?_
  | with_reducible refine' w_yes ?_
  | with_reducible refine' w_tup ?_
  | with_reducible refine' w_lst ?_
  | with_reducible refine' w_I0 ?_
  | ((with_reducible refine' w_I ?hc ?_); (case hc => (first | (show (0 : Int) < _; first | decide | omega | assumption) | exact wide_div (by first | assumption | decide) (b := 200) (by first | assumption | decide) (by decide) (by decide) | exact wide_mul (a := 64) (b := 64) (by omega) (by omega) (by decide) (by decide) (by decide) | exact ⟨by decide, by decide, by decide⟩)))
  | ((with_reducible refine' w_eq ?he ?_); (case he => rfl))
  | ((with_reducible refine' w_ne ?he ?_); (case he => rfl))
  | ((with_reducible refine' w_ixL ?hs ?ha ?_); (case hs => walk_at "sq"); (case ha => rfl))
  | ((with_reducible refine' w_ixT ?hs ?ha ?_); (case hs => walk_at "sq"); (case ha => rfl))
  | ((with_reducible refine' w_lenL ?hs ?he ?_); (case hs => walk_at "sq"); (case he => first | (simp only [List.length_cons, List.length_nil, List.length_map]; rfl) | rfl))
  | ((with_reducible refine' w_lenT ?hs ?he ?_); (case hs => walk_at "sq"); (case he => first | (simp only [List.length_cons, List.length_nil, List.length_map]; rfl) | rfl))
  | ((with_reducible refine' w_setL ?hh ?hk ?he (fun H1 f1 g1 => ?_)); (case hh => walk_at "hp"); (case hk => rfl); (case he => walk_at "lset"))
  | ((with_reducible refine' w_newT ?hl (fun p H1 n1 f1 g1 => ?_)); (case hl => (first | decide | (simp only [List.length_cons, List.length_nil]; decide))))
  | ((with_reducible refine' w_newL ?hl (fun p H1 n1 f1 g1 => ?_)); (case hl => (first | decide | (simp only [List.length_cons, List.length_nil]; decide))))
  | with_reducible refine' w_for ?_
  | with_reducible refine' w_ilist ?_
  | ((with_reducible refine' w_ilb ?hs ?_); (case hs => walk_at "sq"))
  | with_reducible refine' w_itup ?_
  | ((with_reducible refine' w_itb ?hs ?_); (case hs => walk_at "sq"))
  | with_reducible refine' w_rng1 ?_
  | ((with_reducible refine' w_rgb1 ?h0 ?h1 ?_); (case h0 => first | decide | omega); (case h1 => first | decide | omega))
  | with_reducible refine' w_lc ?_
  | ((with_reducible refine' w_wipe ?hw ?_); (case hw => rfl))
  | ((with_reducible refine' w_cat ?ha ?hb ?hl (fun p H1 n1 f1 g1 => ?_)); (case ha => walk_at "hp"); (case hb => walk_at "hp"); (case hl => (first | decide | (simp only [List.length_cons, List.length_nil]; decide))))
  | with_reducible refine' w_dget ?_
  | with_reducible refine' w_din ?_
  | with_reducible refine' w_dnotin ?_
  | with_reducible refine' w_dput ?_
  | with_reducible refine' w_dnew ?_
  | with_reducible refine' w_newD (fun p H1 n1 f1 g1 => ?_)
  | ((with_reducible refine' w_slT ?hs ?hn ?he (fun p H1 n1 f1 g1 => ?_)); (case hs => walk_at "sq"); (case hn => decide); (case he => rfl))
  | with_reducible refine' w_meth ?_
  | with_reducible refine' w_make ?_
  | with_reducible refine' w_mkb (fun x dx H1 n1 m1 d1 f1 g1 => ?_)
  | with_reducible refine' w_fldaug ?_
  | with_reducible refine' w_tru ?_
  | ((with_reducible refine' w_trl ?hh ?_); (case hh => walk_at "hp"))
  | with_reducible refine' w_whb ?_
  | with_reducible refine' w_chain ?_
  | with_reducible refine' w_tyIs ?_
  | with_reducible refine' w_raise ?_
  | with_reducible refine' w_rab ?_
  | with_reducible refine' w_jn ?_
  | with_reducible refine' w_js ?_
  | with_reducible refine' w_jsn ?_
  | with_reducible refine' w_fmt ?_
  | with_reducible refine' w_isN ?_
  | with_reducible refine' w_intB ?_
  | with_reducible refine' w_istr ?_
  | with_reducible refine' w_stb ?_
  | ((with_reducible refine' w_inT ?hs ?hx ?ha ?_); (case hs => walk_at "sq"); (case hx => rfl); (case ha => rfl))
  | ((with_reducible refine' w_isf ?hd ?_); (case hd => decide +kernel))
  | ((with_reducible refine' w_ist ?hd ?_); (case hd => decide +kernel))
  | with_reducible refine' w_enumT ?_
  | ((with_reducible refine' w_enb ?hs ?_); (case hs => walk_at "sq"))
  | with_reducible refine' w_star ?_
  | ((with_reducible refine' w_stT ?hs ?_); (case hs => walk_at "sq"))
  | ((with_reducible refine' w_stL ?hs ?_); (case hs => walk_at "sq"))
  | with_reducible refine' w_par ?_
  | ((with_reducible refine' w_parb ?he ?_); (case he => walk_at "lset"))
  | with_reducible refine' w_enumL ?_
  | ((with_reducible refine' w_enlb ?hs ?_); (case hs => walk_at "sq"))
  | with_reducible refine' w_revL ?_
  | ((with_reducible refine' w_revb ?hs (fun p H1 n1 f1 g1 => ?_)); (case hs => walk_at "sq"))
  | with_reducible refine' w_max2 ?_
  | with_reducible refine' w_min2 ?_
  | with_reducible refine' w_lrg2 ?_
  | with_reducible refine' w_scI ?_
  | fail "none")
local macro_rules | `(tactic| walk_at "wk") => `(tactic| repeat walk_at "wk1")

section
variable {P : Program} {w : World} {K : PySem.W.Frag} {mg : Str → Option Value} {base : Heap} {f : Addr} {fd : FuncData} {a : Ad}
theorem sc_least : FnScope ["part", "way", "steps"] ["part"] (defScope s_least) := ⟨rfl, rfl, rfl, by decide +kernel, rfl, by decide +kernel, by decide +kernel⟩
theorem ok_least {fI : Addr} {fdI : FuncData} (F : Fun K "least" "least" s_least f fd) (Z : Blt mg) (T : Txt K mg a) (D_refuse_bad_sum : Df P w K mg base CX0 4 "refuse_bad_sum" ["part"] spGoodSum) (D_put_steps : Df P w K mg base CX0 17 "put_steps" ["way", "box", "steps"] (spPutSteps a.way 16))
    (M_Way : Mk K a.way fI) (b_Way : Binds K fdI ["self", "part"] []) (G_Way : FnOk P w K mg base CX0 34 fI fdI ["self", "part"] (spInitW a.way 16)) : FnOk P w K mg base CX0 60 f fd ["part"] spLeast := by
  refine F.ok sc_least (fun vs H Q E h => ?_) (fun cdv A outer s H vs Q E hr h => ?_)
  · obtain ⟨v, s, rfl, _⟩ := h
    rfl
  obtain ⟨v, s, rfl, hs, hok, hd, hz, k⟩ := h
  refine ⟨_, (pss_cons (ps_expr (pe_df D_refuse_bad_sum hr (by first | decide | omega) (pa_cons (pv 0) pa_nil)))
  (pss_cons (ps_set (i := 1) sc_least.nd rfl (Or.inl rfl) (pe_make M_Way G_Way (hr.mono (by first | decide | omega)) rfl T.m_Way b_Way .nil pass0 (pa_cons (pv 0) pa_nil)))
  (pss_cons (ps_set (i := 2) sc_least.nd rfl (Or.inl rfl) (pe_lst pa_nil))
  (pss_cons (ps_expr (pe_df D_put_steps hr (by first | decide | omega) (pa_cons (pv 1) (pa_cons pe_int (pa_cons (pv 2) pa_nil)))))
  (pss_one (ps_ret (pe_tup (pa_cons (pe_fld (pv 1) rfl) (pa_cons (pv 2) pa_nil))))))))), ?_⟩
  walk_at "st"
  walk_at "wk"
  refine u_goodsum hs hok hd hz (fun H1 f1 => ?_)
  walk_at "wk"
  rename_i x dx H2 nx ndx mx f2 g2
  have f12 := f1.trans f2
  refine u_initW g2 (hs.mono f12) (by omega) (fun H3 w3 f3 => ⟨rfl, ?_⟩)
  have x1 : H x = none := f1.back nx
  have f03 : Fr [] H H3 := (f12.nil.trans f3).drop x1
  have w3' : IsWay a.way (fun b => H b = none) H3 (.ref x) s := w3.mono (W := []) .refl (by simp) fun b hb => by
    rcases hb with q | q
    · rw [q]; exact x1
    · exact f12.back q
  have back3 : ∀ b, H3 b = none → H b = none := fun b hb => f03.back hb
  walk_at "wk"
  rename_i l H4 n4 f4 g4
  have w4 := w3'.mono0 f4
  have w4' : IsWay a.way (fun b => H3 b ≠ none) H4 (.ref x) s := by
    exact way_alive (C := a.way) (H := H3) w3' |>.mono0 f4
  refine u_putsteps (b := 0) w4' (by simp [n4]) (by omega) g4 (ts := []) trivial (by simp only [List.length_nil]; omega) (by omega) (fun us H5 g5 a5 f5 => ?_)
  obtain ⟨x', dx', il, pw, ws, ex, _, _, hx, _, _, _⟩ := (w4'.mono f5 (fun b hb hk => by rw [List.mem_singleton.mp hb] at hk; exact hk n4) (fun _ z => z)).items
  cases ex
  rw [List.nil_append] at a5
  walk_at "wk"
  refine w_getfld hx T.cl_Way T.n_many (wf_many _ _ _ _ _) ?_
  walk_at "wk"
  rename_i t H6 n6 f6 g6
  have f35 : Fr [] H3 H5 := (f4.nil.trans f5).drop n4
  have f05 := f03.trans f35
  exact k t l us H6 (f05.back n6) (back3 _ n4) g6 (f6.get0 g5) (a5.mono f6) (f05.trans f6)
end
end My
namespace My
open PySem L2 Wk
local macro_rules | `(tactic| walk_at "hs") => `(tactic| first
  | assumption
  | (apply fr_st0; (case f => assumption); (case h => walk_at "hs"))
  | (apply fr_st1; (case f => assumption); (case n => walk_at "ne"); (case hw => first | assumption | exact List.mem_cons_self); (case h => walk_at "hs"))
  | fail "none")
local macro_rules | `(tactic| walk_at "nn") => `(tactic| first
  | (apply nn_st; (case n => assumption); (case h => walk_at "hs"))
  | (apply nn_l; (case n => assumption); (case h => walk_at "hp"))
  | (apply nn_d; (case n => assumption); (case h => walk_at "hp"))
  | (apply nn_i; (case n => assumption); (case h => walk_at "hp"))
  | fail "none")
local macro_rules | `(tactic| walk_at "su") => `(tactic| first
  | assumption
  | (apply fr_su; (case f => assumption); (case h => walk_at "su"))
  | fail "none")
local macro_rules | `(tactic| walk_at "as") => `(tactic| first
  | assumption
  | (apply fr_as; (case f => assumption); (case h => walk_at "as"))
  | fail "none")
local macro_rules | `(tactic| walk_at "ef") => `(tactic| first
  | assumption
  | (apply fr_ef0; (case f => assumption); (case h => walk_at "ef"))
  | (apply fr_ef; (case f => assumption); (case n1 => walk_at "ni"); (case n2 => walk_at "ni"); (case n3 => walk_at "ni"); (case h => walk_at "ef"))
  | fail "none")
local macro_rules | `(tactic| walk_at "td") => `(tactic| first
  | assumption
  | (apply fr_td0; (case f => assumption); (case h => walk_at "td"))
  | (apply fr_td; (case f => assumption); (case n1 => walk_at "ni"); (case n2 => walk_at "ni"); (case n3 => walk_at "ni"); (case h => walk_at "td"))
  | fail "none")
local macro_rules | `(tactic| walk_at "sk") => `(tactic| first
  | assumption
  | (apply fr_stk; (case f => assumption); (case a => walk_at "sk"))
  | fail "none")
local macro_rules | `(tactic| walk_at "al") => `(tactic| first
  | assumption
  | (apply fr_al; (case f => assumption); (case h => walk_at "al"))
  | fail "none")
local macro_rules | `(tactic| walk_at "nv") => `(tactic| first
  | assumption
  | (apply fr_nv; (case a => assumption); (case n => walk_at "ni"); (case h => walk_at "nv"))
  | fail "none")
local macro_rules | `(tactic| walk_at "ne") => `(tactic| first
  | assumption
  | (apply Ne.symm; assumption)
  | walk_at "nn"
  | (apply Ne.symm; walk_at "nn")
  | fail "none")
local macro_rules | `(tactic| walk_at "ni") => `(tactic| first
  | exact List.not_mem_nil
  | (apply ni1; walk_at "ne")
  | (apply ni2 <;> walk_at "ne")
  | (apply ni3 <;> walk_at "ne")
  | fail "none")
local macro_rules | `(tactic| walk_at "hp") => `(tactic| first
  | assumption
  | (apply Fr.gett; (case a => assumption); (case h => walk_at "hp"))
  | (apply Fr.getl; (case a => assumption); (case n => walk_at "ni"); (case h => walk_at "hp"))
  | (apply Fr.getd; (case a => assumption); (case n => walk_at "ni"); (case h => walk_at "hp"))
  | (apply Fr.geti; (case a => assumption); (case n => walk_at "ni"); (case h => walk_at "hp"))
  | fail "none")
local macro_rules | `(tactic| walk_at "sqs") => `(tactic| first
  | assumption
  | (apply Fr.sqln; (case a => assumption); (case n => walk_at "ni"); (case h => walk_at "sqs"))
  | fail "none")
local macro_rules | `(tactic| walk_at "sq") => `(tactic| first
  | assumption
  | (apply SqL.of; walk_at "hp")
  | (apply SqT.of; walk_at "hp")
  | walk_at "sqs"
  | fail "none")
local macro_rules | `(tactic| walk_at "fr") => `(tactic| first
  | exact Fr.refl
  | assumption
  | (apply Fr.mono; (case a => assumption); (case h => simp))
  | (apply fr_last; (case f => assumption); (case w => simp); (case g => walk_at "fr"))
  | fail "none")
local macro_rules | `(tactic| walk_at "st") => `(tactic| ((try dsimp only [cxOf, Cx.nox, Cx.wish]); (try simp only [L2.start, List.map_cons, List.map_nil, List.length_cons, List.length_nil, List.replicate, List.cons_append, List.nil_append, Nat.reduceAdd, Nat.reduceSub])))
local macro_rules | `(tactic| walk_at "lset") => `(tactic| (simp only [wipe, List.map_cons, List.map_nil, Int.reduceToNat, List.set_cons_zero, List.set_cons_succ] <;> rfl))
local macro_rules | `(tactic| walk_at "wk1") => `(tactic| first
  | with_reducible refine' w_seq ?_
  | with_reducible refine' w_asg ?_
  | ((with_reducible refine' w_name ?hs ?_); (case hs => walk_at "lset"))
  | ((with_reducible refine' w_var ?hv ?_); (case hv => rfl))
  | with_reducible refine' w_c ?_
  | with_reducible refine' w_op ?_
  | with_reducible refine' w_un ?_
  | with_reducible refine' w_test ?_
  | with_reducible refine' w_tB ?_
  | with_reducible refine' w_exbl ?_
  | with_reducible refine' w_exint ?_
  | with_reducible refine' w_t ?_
  | with_reducible refine' w_f ?_
  | with_reducible refine' w_ifS ?_
  | with_reducible refine' w_if ?_
  | with_reducible refine' w_and ?_
  | with_reducible refine' w_or ?_
  | with_reducible refine' w_not ?_
  | with_reducible refine' w_andV ?_
  | with_reducible refine' w_orV ?_
  | with_reducible refine' w_notV ?_
  | with_reducible refine' w_ret ?_
  | with_reducible refine' w_retN ?_
  | with_reducible refine' w_drop ?_
  | with_reducible refine' w_next ?_
  | with_reducible refine' w_nil ?_
  | with_reducible refine' w_cons ?_
  | with_reducible refine' w_cb ?_
  | with_reducible refine' w_call ?_
  | with_reducible refine' w_gsub ?_
  | with_reducible refine' w_gnil ?_
  | with_reducible refine' w_gcons ?_
  | ((with_reducible refine' w_gtup ?hs ?hn ?_); (case hs => walk_at "sq"); (case hn => rfl))
  | with_reducible refine' w_fld ?_
  | with_reducible refine' w_tfld ?_
  | with_reducible refine' w_sl ?_
  | with_reducible refine' w_nopart ?_
  | with_reducible refine' w_part ?_
  | with_reducible refine' w_bm ?_
  | with_reducible refine' w_bm0 ?_
  | with_reducible refine' w_yes ?_
  | with_reducible refine' w_tup ?_
  | with_reducible refine' w_lst ?_
  | with_reducible refine' w_I0 ?_
  | ((with_reducible refine' w_I ?hc ?_); (case hc => (first | (show (0 : Int) < _; first | decide | omega | assumption) | exact wide_div (by first | assumption | decide) (b := 200) (by first | assumption | decide) (by decide) (by decide) | exact wide_mul (a := 64) (b := 64) (by omega) (by omega) (by decide) (by decide) (by decide) | exact ⟨by decide, by decide, by decide⟩)))
  | ((with_reducible refine' w_eq ?he ?_); (case he => rfl))
  | ((with_reducible refine' w_ne ?he ?_); (case he => rfl))
  | ((with_reducible refine' w_ixL ?hs ?ha ?_); (case hs => walk_at "sq"); (case ha => rfl))
  | ((with_reducible refine' w_ixT ?hs ?ha ?_); (case hs => walk_at "sq"); (case ha => rfl))
  | ((with_reducible refine' w_lenL ?hs ?he ?_); (case hs => walk_at "sq"); (case he => first | (simp only [List.length_cons, List.length_nil, List.length_map]; rfl) | rfl))
  | ((with_reducible refine' w_lenT ?hs ?he ?_); (case hs => walk_at "sq"); (case he => first | (simp only [List.length_cons, List.length_nil, List.length_map]; rfl) | rfl))
  | ((with_reducible refine' w_setL ?hh ?hk ?he (fun H1 f1 g1 => ?_)); (case hh => walk_at "hp"); (case hk => rfl); (case he => walk_at "lset"))
  | ((with_reducible refine' w_newT ?hl (fun p H1 n1 f1 g1 => ?_)); (case hl => (first | decide | (simp only [List.length_cons, List.length_nil]; decide))))
  | ((with_reducible refine' w_newL ?hl (fun p H1 n1 f1 g1 => ?_)); (case hl => (first | decide | (simp only [List.length_cons, List.length_nil]; decide))))
  | with_reducible refine' w_for ?_
  | with_reducible refine' w_ilist ?_
  | ((with_reducible refine' w_ilb ?hs ?_); (case hs => walk_at "sq"))
  | with_reducible refine' w_itup ?_
  | ((with_reducible refine' w_itb ?hs ?_); (case hs => walk_at "sq"))
  | with_reducible refine' w_rng1 ?_
  | ((with_reducible refine' w_rgb1 ?h0 ?h1 ?_); (case h0 => first | decide | omega); (case h1 => first | decide | omega))
  | with_reducible refine' w_lc ?_
  | ((with_reducible refine' w_wipe ?hw ?_); (case hw => rfl))
  | ((with_reducible refine' w_cat ?ha ?hb ?hl (fun p H1 n1 f1 g1 => ?_)); (case ha => walk_at "hp"); (case hb => walk_at "hp"); (case hl => (first | decide | (simp only [List.length_cons, List.length_nil]; decide))))
  | with_reducible refine' w_dget ?_
  | with_reducible refine' w_din ?_
  | with_reducible refine' w_dnotin ?_
  | with_reducible refine' w_dput ?_
  | with_reducible refine' w_dnew ?_
  | with_reducible refine' w_newD (fun p H1 n1 f1 g1 => ?_)
  | ((with_reducible refine' w_slT ?hs ?hn ?he (fun p H1 n1 f1 g1 => ?_)); (case hs => walk_at "sq"); (case hn => decide); (case he => rfl))
  | with_reducible refine' w_meth ?_
  | with_reducible refine' w_make ?_
  | with_reducible refine' w_mkb (fun x dx H1 n1 m1 d1 f1 g1 => ?_)
  | with_reducible refine' w_fldaug ?_
  | with_reducible refine' w_tru ?_
  | ((with_reducible refine' w_trl ?hh ?_); (case hh => walk_at "hp"))
  | with_reducible refine' w_whb ?_
  | with_reducible refine' w_chain ?_
  | with_reducible refine' w_tyIs ?_
  | with_reducible refine' w_raise ?_
  | with_reducible refine' w_rab ?_
  | with_reducible refine' w_jn ?_
  | with_reducible refine' w_js ?_
  | with_reducible refine' w_jsn ?_
  | with_reducible refine' w_fmt ?_
  | with_reducible refine' w_isN ?_
  | with_reducible refine' w_intB ?_
  | with_reducible refine' w_istr ?_
  | with_reducible refine' w_stb ?_
  | ((with_reducible refine' w_inT ?hs ?hx ?ha ?_); (case hs => walk_at "sq"); (case hx => rfl); (case ha => rfl))
  | ((with_reducible refine' w_isf ?hd ?_); (case hd => decide +kernel))
  | ((with_reducible refine' w_ist ?hd ?_); (case hd => decide +kernel))
  | with_reducible refine' w_enumT ?_
  | ((with_reducible refine' w_enb ?hs ?_); (case hs => walk_at "sq"))
  | with_reducible refine' w_star ?_
  | ((with_reducible refine' w_stT ?hs ?_); (case hs => walk_at "sq"))
  | ((with_reducible refine' w_stL ?hs ?_); (case hs => walk_at "sq"))
  | with_reducible refine' w_par ?_
  | ((with_reducible refine' w_parb ?he ?_); (case he => walk_at "lset"))
  | with_reducible refine' w_enumL ?_
  | ((with_reducible refine' w_enlb ?hs ?_); (case hs => walk_at "sq"))
  | with_reducible refine' w_revL ?_
  | ((with_reducible refine' w_revb ?hs (fun p H1 n1 f1 g1 => ?_)); (case hs => walk_at "sq"))
  | with_reducible refine' w_max2 ?_
  | with_reducible refine' w_min2 ?_
  | with_reducible refine' w_lrg2 ?_
  | with_reducible refine' w_scI ?_
  | fail "none")
local macro_rules | `(tactic| walk_at "wk") => `(tactic| repeat walk_at "wk1")

section
variable {P : Program} {w : World} {K : PySem.W.Frag} {mg : Str → Option Value} {base : Heap} {f : Addr} {fd : FuncData} {a : Ad}
theorem sc_boxes_in_order : FnScope ["ways", "held", "way"] ["ways"] (defScope s_boxes_in_order) := ⟨rfl, rfl, rfl, by decide +kernel, rfl, by decide +kernel, by decide +kernel⟩
theorem ok_boxesIn (F : Fun K "boxes_in_order" "boxes_in_order" s_boxes_in_order f fd) (Z : Blt mg) (T : Txt K mg a) : FnOk P w K mg base CX0 1 f fd ["ways"] (spBoxesIn a.way) := by
  refine F.ok sc_boxes_in_order (fun vs H Q E h => ?_) (fun cdv A outer s H vs Q E hr h => ?_)
  · obtain ⟨l, ws, ss, ok, rfl, _⟩ := h
    rfl
  obtain ⟨l, ws, ss, ok, rfl, hl, hw, hz, k⟩ := h
  refine ⟨_, (pss_one (ps_ret (pe_callB (r := rMax K) (cr_max (by rfl)) (by rfl) Z.max (by decide +kernel) (pa_cons (pe_op op_cat (pe_lst (pa_cons pe_int pa_nil)) (pe_lc (own := [("held", 1), ("way", 2)]) (g := (gTup K 2 (gCons (gName 1) (gCons (gName 2) gNil)))) (tt := tYes) (by rfl) sc_boxes_in_order.nd (pi_enum rfl Z.enumerate (pa_cons (pv 0) pa_nil)) (blkOk_by (own := [("held", 1), ("way", 2)]) (N := ["ways", "held", "way"]) (sc := defScope s_boxes_in_order) (by decide +kernel)) (fun _ _ _ _ _ => pg_tup rfl (pgs_cons (pg_name (i := 1) sc_boxes_in_order.nd rfl (Or.inl rfl)) (pgs_cons (pg_name (i := 2) sc_boxes_in_order.nd rfl (Or.inl rfl)) pgs_nil))) (fun _ _ _ _ _ => pts_nil) (fun _ _ _ _ _ => (pe_op op_add (pe_fldK (K := K) (by rfl) (pv 2) (by rfl)) (pv 1))))) pa_nil)))), ?_⟩
  walk_at "st"
  walk_at "wk"
  rename_i p H1 n1 f1 g1
  have hl1 := f1.get0 hl
  have hw1 := hw.mono0 f1
  have wl := hw.length
  refine lcEn (xs := ws) (fun D i acc H' => acc = (heldL 0 ((ss.map Sm.many).take i)).map (fun n => V.int (n : Nat)) ∧ Fr [D] H1 H') (fun D H' hD f g => ⟨rfl, f.nil⟩) (fun D i acc H' hD ⟨_, f⟩ => SqL.of (f.getl (ni1 (nn_l hD hl1).symm) hl1)) (fun D i x acc H' U H'' hD hx hlt ha hA ⟨e, f⟩ nU fU gU => ?_) (fun D acc H' hD hA hn ⟨e, f⟩ => ?_)
  · obtain ⟨t, ht, hxt⟩ := hw1.at hx
    obtain ⟨x', dx, il, pv, ws', rfl, _, _, hx', _, _, _⟩ := hxt.items
    walk_at "wk"
    have nx : x' ≠ D := (nn_i hD hx').symm
    refine w_getfld (fU.get0 (f.geti (ni1 nx) hx')) T.cl_Way T.n_many (wf_many _ _ _ _ _) ?_
    walk_at "wk"
    refine lcE (acc := acc) (fU.get0 hA) ha (by omega) (fun H5 f5 g5 => ⟨?_, by walk_at "fr"⟩)
    have ht' : (ss.map Sm.many)[i]? = some t.many := by rw [List.getElem?_map, ht]; rfl
    rw [take_snoc ht', heldL_snoc, List.map_append, e]
    have e2 : ((ss.map Sm.many).take i).length = i := by rw [List.length_take, List.length_map]; omega
    have e3 : ((t.many : Int) + (i : Int)) = ((t.many + (0 + ((ss.map Sm.many).take i).length) : Nat) : Int) := by rw [e2]; omega
    rw [e3]
    rfl
  · have e2 : (ss.map Sm.many).take ws.length = ss.map Sm.many := by rw [wl, ← List.length_map (f := Sm.many), List.take_length]
    rw [e2] at e
    have f0 : Fr [] H1 H' := f.drop hD
    walk_at "wk"
    refine w_cat (f0.get0 g1) hA (by simp only [List.length_cons, List.length_nil]; omega) (fun r H2 n2 f2 g2 => ?_)
    walk_at "wk"
    have e3 : [V.int 1] ++ acc = ((1 :: heldL 0 (ss.map Sm.many)).map (fun n : Nat => (n : Int))).map V.int := by
      rw [e, List.map_map]
      rfl
    rw [e3] at g2
    refine w_max (SqL.of g2) (by simp) (fun m h1 h2 => ?_)
    rw [boxes_is h1 h2]
    exact k H2 (by walk_at "fr")
end
end My
namespace My
open PySem L2 Wk
local macro_rules | `(tactic| walk_at "hs") => `(tactic| first
  | assumption
  | (apply fr_st0; (case f => assumption); (case h => walk_at "hs"))
  | (apply fr_st1; (case f => assumption); (case n => walk_at "ne"); (case hw => first | assumption | exact List.mem_cons_self); (case h => walk_at "hs"))
  | fail "none")
local macro_rules | `(tactic| walk_at "nn") => `(tactic| first
  | (apply nn_st; (case n => assumption); (case h => walk_at "hs"))
  | (apply nn_l; (case n => assumption); (case h => walk_at "hp"))
  | (apply nn_d; (case n => assumption); (case h => walk_at "hp"))
  | (apply nn_i; (case n => assumption); (case h => walk_at "hp"))
  | fail "none")
local macro_rules | `(tactic| walk_at "su") => `(tactic| first
  | assumption
  | (apply fr_su; (case f => assumption); (case h => walk_at "su"))
  | fail "none")
local macro_rules | `(tactic| walk_at "as") => `(tactic| first
  | assumption
  | (apply fr_as; (case f => assumption); (case h => walk_at "as"))
  | fail "none")
local macro_rules | `(tactic| walk_at "ef") => `(tactic| first
  | assumption
  | (apply fr_ef0; (case f => assumption); (case h => walk_at "ef"))
  | (apply fr_ef; (case f => assumption); (case n1 => walk_at "ni"); (case n2 => walk_at "ni"); (case n3 => walk_at "ni"); (case h => walk_at "ef"))
  | fail "none")
local macro_rules | `(tactic| walk_at "td") => `(tactic| first
  | assumption
  | (apply fr_td0; (case f => assumption); (case h => walk_at "td"))
  | (apply fr_td; (case f => assumption); (case n1 => walk_at "ni"); (case n2 => walk_at "ni"); (case n3 => walk_at "ni"); (case h => walk_at "td"))
  | fail "none")
local macro_rules | `(tactic| walk_at "sk") => `(tactic| first
  | assumption
  | (apply fr_stk; (case f => assumption); (case a => walk_at "sk"))
  | fail "none")
local macro_rules | `(tactic| walk_at "al") => `(tactic| first
  | assumption
  | (apply fr_al; (case f => assumption); (case h => walk_at "al"))
  | fail "none")
local macro_rules | `(tactic| walk_at "nv") => `(tactic| first
  | assumption
  | (apply fr_nv; (case a => assumption); (case n => walk_at "ni"); (case h => walk_at "nv"))
  | fail "none")
local macro_rules | `(tactic| walk_at "ne") => `(tactic| first
  | assumption
  | (apply Ne.symm; assumption)
  | walk_at "nn"
  | (apply Ne.symm; walk_at "nn")
  | fail "none")
local macro_rules | `(tactic| walk_at "ni") => `(tactic| first
  | exact List.not_mem_nil
  | (apply ni1; walk_at "ne")
  | (apply ni2 <;> walk_at "ne")
  | (apply ni3 <;> walk_at "ne")
  | fail "none")
local macro_rules | `(tactic| walk_at "hp") => `(tactic| first
  | assumption
  | (apply Fr.gett; (case a => assumption); (case h => walk_at "hp"))
  | (apply Fr.getl; (case a => assumption); (case n => walk_at "ni"); (case h => walk_at "hp"))
  | (apply Fr.getd; (case a => assumption); (case n => walk_at "ni"); (case h => walk_at "hp"))
  | (apply Fr.geti; (case a => assumption); (case n => walk_at "ni"); (case h => walk_at "hp"))
  | fail "none")
local macro_rules | `(tactic| walk_at "sqs") => `(tactic| first
  | assumption
  | (apply Fr.sqln; (case a => assumption); (case n => walk_at "ni"); (case h => walk_at "sqs"))
  | fail "none")
local macro_rules | `(tactic| walk_at "sq") => `(tactic| first
  | assumption
  | (apply SqL.of; walk_at "hp")
  | (apply SqT.of; walk_at "hp")
  | walk_at "sqs"
  | fail "none")
local macro_rules | `(tactic| walk_at "fr") => `(tactic| first
  | exact Fr.refl
  | assumption
  | (apply Fr.mono; (case a => assumption); (case h => simp))
  | (apply fr_last; (case f => assumption); (case w => simp); (case g => walk_at "fr"))
  | fail "none")
local macro_rules | `(tactic| walk_at "st") => `(tactic| ((try dsimp only [cxOf, Cx.nox, Cx.wish]); (try simp only [L2.start, List.map_cons, List.map_nil, List.length_cons, List.length_nil, List.replicate, List.cons_append, List.nil_append, Nat.reduceAdd, Nat.reduceSub])))
local macro_rules | `(tactic| walk_at "lset") => `(tactic| (simp only [wipe, List.map_cons, List.map_nil, Int.reduceToNat, List.set_cons_zero, List.set_cons_succ] <;> rfl))
local macro_rules | `(tactic| walk_at "wk1") => `(tactic| first
  | with_reducible refine' w_seq ?_
  | with_reducible refine' w_asg ?_
  | ((with_reducible refine' w_name ?hs ?_); (case hs => walk_at "lset"))
  | ((with_reducible refine' w_var ?hv ?_); (case hv => rfl))
  | with_reducible refine' w_c ?_
  | with_reducible refine' w_op ?_
  | with_reducible refine' w_un ?_
  | with_reducible refine' w_test ?_
  | with_reducible refine' w_tB ?_
  | with_reducible refine' w_exbl ?_
  | with_reducible refine' w_exint ?_
  | with_reducible refine' w_t ?_
  | with_reducible refine' w_f ?_
  | with_reducible refine' w_ifS ?_
  | with_reducible refine' w_if ?_
  | with_reducible refine' w_and ?_
  | with_reducible refine' w_or ?_
  | with_reducible refine' w_not ?_
  | with_reducible refine' w_andV ?_
  | with_reducible refine' w_orV ?_
  | with_reducible refine' w_notV ?_
  | with_reducible refine' w_ret ?_
  | with_reducible refine' w_retN ?_
  | with_reducible refine' w_drop ?_
  | with_reducible refine' w_next ?_
  | with_reducible refine' w_nil ?_
  | with_reducible refine' w_cons ?_
  | with_reducible refine' w_cb ?_
  | with_reducible refine' w_call ?_
  | with_reducible refine' w_gsub ?_
  | with_reducible refine' w_gnil ?_
  | with_reducible refine' w_gcons ?_
  | ((with_reducible refine' w_gtup ?hs ?hn ?_); (case hs => walk_at "sq"); (case hn => rfl))
  | with_reducible refine' w_fld ?_
  | with_reducible refine' w_tfld ?_
  | with_reducible refine' w_sl ?_
  | with_reducible refine' w_nopart ?_
  | with_reducible refine' w_part ?_
  | with_reducible refine' w_bm ?_
  | with_reducible refine' w_bm0 ?_
  | with_reducible refine' w_yes ?_
  | with_reducible refine' w_tup ?_
  | with_reducible refine' w_lst ?_
  | with_reducible refine' w_I0 ?_
  | ((with_reducible refine' w_I ?hc ?_); (case hc => (first | (show (0 : Int) < _; first | decide | omega | assumption) | exact wide_div (by first | assumption | decide) (b := 200) (by first | assumption | decide) (by decide) (by decide) | exact wide_mul (a := 64) (b := 64) (by omega) (by omega) (by decide) (by decide) (by decide) | exact ⟨by decide, by decide, by decide⟩)))
  | ((with_reducible refine' w_eq ?he ?_); (case he => rfl))
  | ((with_reducible refine' w_ne ?he ?_); (case he => rfl))
  | ((with_reducible refine' w_ixL ?hs ?ha ?_); (case hs => walk_at "sq"); (case ha => rfl))
  | ((with_reducible refine' w_ixT ?hs ?ha ?_); (case hs => walk_at "sq"); (case ha => rfl))
  | ((with_reducible refine' w_lenL ?hs ?he ?_); (case hs => walk_at "sq"); (case he => first | (simp only [List.length_cons, List.length_nil, List.length_map]; rfl) | rfl))
  | ((with_reducible refine' w_lenT ?hs ?he ?_); (case hs => walk_at "sq"); (case he => first | (simp only [List.length_cons, List.length_nil, List.length_map]; rfl) | rfl))
  | ((with_reducible refine' w_setL ?hh ?hk ?he (fun H1 f1 g1 => ?_)); (case hh => walk_at "hp"); (case hk => rfl); (case he => walk_at "lset"))
  | ((with_reducible refine' w_newT ?hl (fun p H1 n1 f1 g1 => ?_)); (case hl => (first | decide | (simp only [List.length_cons, List.length_nil]; decide))))
  | ((with_reducible refine' w_newL ?hl (fun p H1 n1 f1 g1 => ?_)); (case hl => (first | decide | (simp only [List.length_cons, List.length_nil]; decide))))
  | with_reducible refine' w_for ?_
  | with_reducible refine' w_ilist ?_
  | ((with_reducible refine' w_ilb ?hs ?_); (case hs => walk_at "sq"))
  | with_reducible refine' w_itup ?_
  | ((with_reducible refine' w_itb ?hs ?_); (case hs => walk_at "sq"))
  | with_reducible refine' w_rng1 ?_
  | ((with_reducible refine' w_rgb1 ?h0 ?h1 ?_); (case h0 => first | decide | omega); (case h1 => first | decide | omega))
  | with_reducible refine' w_lc ?_
  | ((with_reducible refine' w_wipe ?hw ?_); (case hw => rfl))
  | ((with_reducible refine' w_cat ?ha ?hb ?hl (fun p H1 n1 f1 g1 => ?_)); (case ha => walk_at "hp"); (case hb => walk_at "hp"); (case hl => (first | decide | (simp only [List.length_cons, List.length_nil]; decide))))
  | with_reducible refine' w_dget ?_
  | with_reducible refine' w_din ?_
  | with_reducible refine' w_dnotin ?_
  | with_reducible refine' w_dput ?_
  | with_reducible refine' w_dnew ?_
  | with_reducible refine' w_newD (fun p H1 n1 f1 g1 => ?_)
  | ((with_reducible refine' w_slT ?hs ?hn ?he (fun p H1 n1 f1 g1 => ?_)); (case hs => walk_at "sq"); (case hn => decide); (case he => rfl))
  | with_reducible refine' w_meth ?_
  | with_reducible refine' w_make ?_
  | with_reducible refine' w_mkb (fun x dx H1 n1 m1 d1 f1 g1 => ?_)
  | with_reducible refine' w_fldaug ?_
  | with_reducible refine' w_tru ?_
  | ((with_reducible refine' w_trl ?hh ?_); (case hh => walk_at "hp"))
  | with_reducible refine' w_whb ?_
  | with_reducible refine' w_chain ?_
  | with_reducible refine' w_tyIs ?_
  | with_reducible refine' w_raise ?_
  | with_reducible refine' w_rab ?_
  | with_reducible refine' w_jn ?_
  | with_reducible refine' w_js ?_
  | with_reducible refine' w_jsn ?_
  | with_reducible refine' w_fmt ?_
  | with_reducible refine' w_isN ?_
  | with_reducible refine' w_intB ?_
  | with_reducible refine' w_istr ?_
  | with_reducible refine' w_stb ?_
  | ((with_reducible refine' w_inT ?hs ?hx ?ha ?_); (case hs => walk_at "sq"); (case hx => rfl); (case ha => rfl))
  | ((with_reducible refine' w_isf ?hd ?_); (case hd => decide +kernel))
  | ((with_reducible refine' w_ist ?hd ?_); (case hd => decide +kernel))
  | with_reducible refine' w_enumT ?_
  | ((with_reducible refine' w_enb ?hs ?_); (case hs => walk_at "sq"))
  | with_reducible refine' w_star ?_
  | ((with_reducible refine' w_stT ?hs ?_); (case hs => walk_at "sq"))
  | ((with_reducible refine' w_stL ?hs ?_); (case hs => walk_at "sq"))
  | with_reducible refine' w_par ?_
  | ((with_reducible refine' w_parb ?he ?_); (case he => walk_at "lset"))
  | with_reducible refine' w_enumL ?_
  | ((with_reducible refine' w_enlb ?hs ?_); (case hs => walk_at "sq"))
  | with_reducible refine' w_revL ?_
  | ((with_reducible refine' w_revb ?hs (fun p H1 n1 f1 g1 => ?_)); (case hs => walk_at "sq"))
  | with_reducible refine' w_max2 ?_
  | with_reducible refine' w_min2 ?_
  | with_reducible refine' w_lrg2 ?_
  | with_reducible refine' w_scI ?_
  | fail "none")
local macro_rules | `(tactic| walk_at "wk") => `(tactic| repeat walk_at "wk1")

section
variable {P : Program} {w : World} {K : PySem.W.Frag} {mg : Str → Option Value} {base : Heap} {f : Addr} {fd : FuncData} {a : Ad}
theorem sc_put_steps : FnScope ["way", "box", "steps", "order", "at", "inner", "boxes"] ["way", "box", "steps"] (defScope s_put_steps) := ⟨rfl, rfl, rfl, by decide +kernel, rfl, by decide +kernel, by decide +kernel⟩
theorem ok_putsteps {n : Nat} (F : Fun K "put_steps" "put_steps" s_put_steps f fd) (Z : Blt mg) (T : Txt K mg a) (D_filled_with : Df P w K mg base CX0 1 "filled_with" ["part", "filling"] spFilled)
    (D_put_steps : Df P w K mg base CX0 (n + 1) "put_steps" ["way", "box", "steps"] (spPutSteps a.way n)) : FnOk P w K mg base CX0 (n + 1 + 1) f fd ["way", "box", "steps"] (spPutSteps a.way (n + 1)) := by
  refine F.ok sc_put_steps (fun vs H Q E h => ?_) (fun cdv A outer s H vs Q E hr h => ?_)
  · obtain ⟨v, s, b, l, us, ts, ok, rfl, _⟩ := h
    rfl
  obtain ⟨v, s, b, l, us, ts, ok, rfl, hw, nl, hd, hl, hts, hz, hb, k⟩ := h
  obtain ⟨x, dx, il, pw, ws, rfl, okx, oki, hx, hpv, hil, hws⟩ := hw.items
  have l2 := subs_len2 s
  have wl := hws.length
  have nil_l : il ≠ l := fun e => nl (e ▸ oki)
  refine ⟨_, (pss_cons (ps_set (i := 3) sc_put_steps.nd rfl (Or.inl rfl) (pe_ifExp (pt_val (pe_fld (pv 0) rfl) (fun _ => rfl)) (pe_revL (pe_fld (pv 0) rfl)) (pe_fld (pv 0) rfl)))
  (pss_cons (ps_for PassesOwn.never rfl (pi_enum rfl Z.enumerate (pa_cons (pv 3) pa_nil)) (pg_tup rfl (pgs_cons (pg_name (i := 4) sc_put_steps.nd rfl (Or.inl rfl)) (pgs_cons (pg_name (i := 5) sc_put_steps.nd rfl (Or.inl rfl)) pgs_nil))) (pss_one (ps_expr (pe_df D_put_steps hr (by first | decide | omega) (pa_cons (pv 5) (pa_cons (pe_op op_add (pv 1) (pv 4)) (pa_cons (pv 2) pa_nil)))))))
  (pss_cons (ps_set (i := 6) sc_put_steps.nd rfl (Or.inl rfl) (pe_listRg (by rfl) (by rfl) Z.list (prg_2 (by rfl) Z.range (pv 1) (pe_op op_add (pv 1) (pe_callB (id := "len") (r := rLenW K) call_lenN (by rfl) Z.len PySem.boot_len (pa_cons (pv 3) pa_nil))))))
  (pss_cons (ps_if (pt_val (pe_fld (pv 0) rfl) (fun _ => rfl)) (pss_one (ps_expr (pe_bm0 PySem.F.plainAttrs_list PySem.F.slot_list_reverse PySem.F.type_list_reverse mt_reverse (pv 6)))) pss_nil)
  (pss_one (ps_expr (pe_bm PySem.F.plainAttrs_list PySem.F.slot_list_append PySem.F.type_list_append mt_append (pv 2) (pa_cons (pe_tup (pa_cons (pv 1) (StX.pa_star (pe_df D_filled_with hr (by first | decide | omega) (pa_cons (pe_fld (pv 0) rfl) (pa_cons (pv 6) pa_nil))) pa_nil))) pa_nil)))))))), ?_⟩
  walk_at "st"
  refine w_seq ?_
  refine w_asg ?_
  refine w_joinE (fun v' H' => ∃ ol, v' = .ref ol ∧ H' ol = some (.lst (if s.turn then ws.reverse else ws)) ∧ ol ≠ l ∧ Fr [] H H') (fun v' H1 ⟨ol, ev, g1, nol, f1⟩ => ?_) (fun tail => ?_)
  · subst ev
    have hord : AllWay a.way ok H1 (if s.turn then ws.reverse else ws) s.order := by
      have := hws.mono0 f1
      unfold Sm.order
      cases s.turn
      · exact this
      · exact this.rev
    have lord : (if s.turn then ws.reverse else ws).length = s.subs.length := by split <;> simp [wl]
    generalize (if s.turn then ws.reverse else ws) = os at g1 hord lord
    walk_at "wk"
    refine forEL (xs := os) (fun i σ H' => ∃ (us' : List V) (o4 o5 : Option V), σ = [some (.ref x), some (.int (b : Nat)), some (.ref l), some (.ref ol), o4, o5, none] ∧ H' l = some (.lst us') ∧ AllStp H' us' (ts ++ leasts (s.order.take i) b) ∧ Fr [l] H1 H')
      ⟨us, _, _, rfl, f1.get0 hl, (by rw [List.take_zero]; exact (List.append_nil ts).symm ▸ (hts.mono f1)), .refl⟩ (fun i σ H' hi ⟨_, _, _, _, _, _, f⟩ => SqL.of (f.getl (ni1 nol) g1)) ?_ ?_
    · rintro i y σ H2 U H3 hy ⟨us', o4, o5, rfl, hl', hts', ff⟩ nU f3 g3
      obtain ⟨t, ht, hyt⟩ := hord.at hy
      have len' := hts'.length
      have len0 := hts.length
      rw [List.length_append, leasts_length] at len'
      have tle := sizeL_take_le s.order (i + 1)
      have hsz := s.size_eq
      have osz := s.order_size
      have tk : sizeL (s.order.take (i + 1)) = sizeL (s.order.take i) + t.size := by rw [take_snoc ht, sizeL_app]; rfl
      have tm := Sm.order_mem (List.mem_of_getElem? ht)
      have td := Sm.subs_depth tm
      have tsz := Sm.subs_size tm
      have il' : i < os.length := (List.getElem?_eq_some_iff.mp hy).1
      have tlen : (s.order.take i).length = i := by rw [List.length_take, s.order_length]; omega
      have isz : i + t.size ≤ s.size := by
        match i, il' with
        | 0, _ => omega
        | i + 1, h =>
          have e1 : i + 1 = 1 := by omega
          rw [e1] at tk tle ⊢
          have h0 : 1 ≤ sizeL (s.order.take 1) := by
            cases ho : s.order with
            | nil => rw [ho] at ht; simp at ht
            | cons t0 r => have := t0.size_pos; simp [sizeL]; omega
          omega
      walk_at "wk"
      have eb : ((b : Int) + (i : Int)) = ((b + i : Nat) : Int) := by omega
      rw [eb]
      refine u_putsteps ((hyt.mono ff (fun c hc => by rw [List.mem_singleton.mp hc]; exact nl) fun _ z => z).mono0 f3) nl (by omega) (f3.get0 hl') (hts'.mono f3) (by omega) (by omega) (fun us2 H4 g4 a4 f4 => ?_)
      refine ⟨us2, _, _, rfl, g4, ?_, by walk_at "fr"⟩
      rw [take_snoc ht, leasts_snoc, tlen, ← List.append_assoc]
      exact a4
    · rintro σ H2 ⟨us', o4, o5, rfl, hl', hts', ff⟩
      have e : s.order.take os.length = s.order := by rw [lord, ← s.order_length, List.take_length]
      rw [e] at hts'
      have g2 := ff.getl (ni1 nol) g1
      have len' := hts'.length
      have len0 := hts.length
      rw [List.length_append, leasts_length, s.order_size] at len'
      have hsz := s.size_eq
      walk_at "wk"
      refine w_lrgb (by omega) (by omega) (by omega) (fun bl H3 n3 f3 g3 => ?_)
      rw [lord, rg_up] at g3
      have hl3 := f3.get0 hl'
      have nbl : bl ≠ l := nn_l n3 hl'
      have nwl : ∀ c, c ∈ [l] → ¬ ok c := fun c hc => by rw [List.mem_singleton.mp hc]; exact nl
      have hw3 : H3 x = some (.ins a.way dx (wayF pw il s.eff s.turn s.many)) := f3.get0 (ff.geti (fun m => nl (List.mem_singleton.mp m ▸ okx)) (f1.get0 hx))
      have hp3 : IsSum H3 pw s := ((hpv.mono f1).mono ff).mono f3
      have hts3 := hts'.mono f3
      have tail2 : ∀ H4, Fr [bl] H3 H4 → H4 bl = some (.lst ((s.spots b).map (fun b => V.int (b : Nat)))) → (tDrop (tBM K "list" rAppend (tVar 2) (tCons (tTup (tCons (tVar 1) (StX.tStar K (tCall spFilled [] E0 (tCons (tFld K (tVar 0) "part") (tCons (tVar 6) tNil))) tNil))) tNil)) { nx := fun x H' => Q V.non H', rt := Q, bk := fun x H' => Q V.non H', ct := fun x H' => Q V.non H' } [some (.ref x), some (.int (b : Nat)), some (.ref l), some (.ref ol), o4, o5, some (.ref bl)] H4) := by
        intro H4 f4 g4
        have hl4 := f4.getl (ni1 nbl.symm) hl3
        have nxb : x ≠ bl := (nn_i n3 (ff.geti (fun m => nl (List.mem_singleton.mp m ▸ okx)) (f1.get0 hx))).symm
        obtain ⟨pp, xs, rfl, hpp, hxs⟩ := (hp3.mono f4).items
        have sl := s.spots_length b
        have vle := vals_le hxs
        walk_at "wk"
        refine w_tyl hl4 ?_
        walk_at "wk"
        refine w_getfld (f4.geti (ni1 nxb) hw3) T.cl_Way T.n_part (wf_part _ _ _ _ _) ?_
        walk_at "wk"
        refine u_filled hpp (vals_ne s xs) (by omega) g4 (by rw [List.length_map]; omega) (fun r H5 g5 f5 => ?_)
        rw [fill_rst sl] at g5
        have rl := vals_len (s.rst (s.spots b))
        walk_at "wk"
        refine w_newT (by simp only [List.length_cons, List.length_append, List.length_nil]; omega) (fun d H6 n6 f6 g6 => ?_)
        rw [List.append_nil] at g6
        walk_at "wk"
        refine w_app (f6.get0 (f5.get0 hl4)) (by omega) (fun H7 f7 g7 => ?_)
        refine k _ H7 g7 ?_ ?_
        · rw [Sm.least_eq, ← List.append_assoc]
          exact AllStp.app ((((hts3.mono f4).mono f5).mono f6).mono f7) ⟨⟨d, rfl, f7.gett g6⟩, trivial⟩
        · have fz : Fr [bl, l] H2 H7 := f3.nil.trans ((f4.mono (by simp)).trans (f5.nil.trans (f6.nil.trans (f7.mono (by simp)))))
          exact f1.nil.trans (ff.trans (fz.drop n3))
      walk_at "wk"
      refine w_getfld hw3 T.cl_Way T.n_turned (wf_turned _ _ _ _ _) ?_
      walk_at "wk"
      refine w_iteb (fun c => ?_) (fun c => ?_)
      · refine w_drop ?_
        refine w_bm0 ?_
        refine w_var rfl ?_
        refine w_tyl g3 ?_
        refine w_rev g3 (fun H4 f4 g4 => ?_)
        exact tail2 H4 f4 (by rw [g4, ← List.map_reverse]; unfold Sm.spots; rw [if_pos c])
      · refine w_next ?_
        exact tail2 H3 .refl (by rw [g3]; unfold Sm.spots; rw [if_neg (by rw [c]; exact Bool.false_ne_true)])
  · walk_at "wk"
    refine w_getfld hx T.cl_Way T.n_turned (wf_turned _ _ _ _ _) ?_
    walk_at "wk"
    refine w_iteb (fun c => ?_) (fun c => ?_)
    · walk_at "wk"
      refine w_getfld hx T.cl_Way T.n_inner (wf_inner _ _ _ _ _) ?_
      refine w_revb (SqL.of hil) (fun rp H1 n1 f1 g1 => ?_)
      exact tail _ _ ⟨rp, rfl, by rw [if_pos c]; exact g1, (nn_l n1 hl), f1⟩
    · walk_at "wk"
      refine w_getfld hx T.cl_Way T.n_inner (wf_inner _ _ _ _ _) ?_
      exact tail _ _ ⟨il, rfl, by rw [if_neg (by rw [c]; exact Bool.false_ne_true)]; exact hil, nil_l, .refl⟩
end
end My
namespace My
open PySem L2 Wk
local macro_rules | `(tactic| walk_at "hs") => `(tactic| first
  | assumption
  | (apply fr_st0; (case f => assumption); (case h => walk_at "hs"))
  | (apply fr_st1; (case f => assumption); (case n => walk_at "ne"); (case hw => first | assumption | exact List.mem_cons_self); (case h => walk_at "hs"))
  | fail "none")
local macro_rules | `(tactic| walk_at "nn") => `(tactic| first
  | (apply nn_st; (case n => assumption); (case h => walk_at "hs"))
  | (apply nn_l; (case n => assumption); (case h => walk_at "hp"))
  | (apply nn_d; (case n => assumption); (case h => walk_at "hp"))
  | (apply nn_i; (case n => assumption); (case h => walk_at "hp"))
  | fail "none")
local macro_rules | `(tactic| walk_at "su") => `(tactic| first
  | assumption
  | (apply fr_su; (case f => assumption); (case h => walk_at "su"))
  | fail "none")
local macro_rules | `(tactic| walk_at "as") => `(tactic| first
  | assumption
  | (apply fr_as; (case f => assumption); (case h => walk_at "as"))
  | fail "none")
local macro_rules | `(tactic| walk_at "ef") => `(tactic| first
  | assumption
  | (apply fr_ef0; (case f => assumption); (case h => walk_at "ef"))
  | (apply fr_ef; (case f => assumption); (case n1 => walk_at "ni"); (case n2 => walk_at "ni"); (case n3 => walk_at "ni"); (case h => walk_at "ef"))
  | fail "none")
local macro_rules | `(tactic| walk_at "td") => `(tactic| first
  | assumption
  | (apply fr_td0; (case f => assumption); (case h => walk_at "td"))
  | (apply fr_td; (case f => assumption); (case n1 => walk_at "ni"); (case n2 => walk_at "ni"); (case n3 => walk_at "ni"); (case h => walk_at "td"))
  | fail "none")
local macro_rules | `(tactic| walk_at "sk") => `(tactic| first
  | assumption
  | (apply fr_stk; (case f => assumption); (case a => walk_at "sk"))
  | fail "none")
local macro_rules | `(tactic| walk_at "al") => `(tactic| first
  | assumption
  | (apply fr_al; (case f => assumption); (case h => walk_at "al"))
  | fail "none")
local macro_rules | `(tactic| walk_at "nv") => `(tactic| first
  | assumption
  | (apply fr_nv; (case a => assumption); (case n => walk_at "ni"); (case h => walk_at "nv"))
  | fail "none")
local macro_rules | `(tactic| walk_at "ne") => `(tactic| first
  | assumption
  | (apply Ne.symm; assumption)
  | walk_at "nn"
  | (apply Ne.symm; walk_at "nn")
  | fail "none")
local macro_rules | `(tactic| walk_at "ni") => `(tactic| first
  | exact List.not_mem_nil
  | (apply ni1; walk_at "ne")
  | (apply ni2 <;> walk_at "ne")
  | (apply ni3 <;> walk_at "ne")
  | fail "none")
local macro_rules | `(tactic| walk_at "hp") => `(tactic| first
  | assumption
  | (apply Fr.gett; (case a => assumption); (case h => walk_at "hp"))
  | (apply Fr.getl; (case a => assumption); (case n => walk_at "ni"); (case h => walk_at "hp"))
  | (apply Fr.getd; (case a => assumption); (case n => walk_at "ni"); (case h => walk_at "hp"))
  | (apply Fr.geti; (case a => assumption); (case n => walk_at "ni"); (case h => walk_at "hp"))
  | fail "none")
local macro_rules | `(tactic| walk_at "sqs") => `(tactic| first
  | assumption
  | (apply Fr.sqln; (case a => assumption); (case n => walk_at "ni"); (case h => walk_at "sqs"))
  | fail "none")
local macro_rules | `(tactic| walk_at "sq") => `(tactic| first
  | assumption
  | (apply SqL.of; walk_at "hp")
  | (apply SqT.of; walk_at "hp")
  | walk_at "sqs"
  | fail "none")
local macro_rules | `(tactic| walk_at "fr") => `(tactic| first
  | exact Fr.refl
  | assumption
  | (apply Fr.mono; (case a => assumption); (case h => simp))
  | (apply fr_last; (case f => assumption); (case w => simp); (case g => walk_at "fr"))
  | fail "none")
local macro_rules | `(tactic| walk_at "st") => `(tactic| ((try dsimp only [cxOf, Cx.nox, Cx.wish]); (try simp only [L2.start, List.map_cons, List.map_nil, List.length_cons, List.length_nil, List.replicate, List.cons_append, List.nil_append, Nat.reduceAdd, Nat.reduceSub])))
local macro_rules | `(tactic| walk_at "lset") => `(tactic| (simp only [wipe, List.map_cons, List.map_nil, Int.reduceToNat, List.set_cons_zero, List.set_cons_succ] <;> rfl))
local macro_rules | `(tactic| walk_at "wk1") => `(tactic| first
  | with_reducible refine' w_seq ?_
  | with_reducible refine' w_asg ?_
  | ((with_reducible refine' w_name ?hs ?_); (case hs => walk_at "lset"))
  | ((with_reducible refine' w_var ?hv ?_); (case hv => rfl))
  | with_reducible refine' w_c ?_
  | with_reducible refine' w_op ?_
  | with_reducible refine' w_un ?_
  | with_reducible refine' w_test ?_
  | with_reducible refine' w_tB ?_
  | with_reducible refine' w_exbl ?_
  | with_reducible refine' w_exint ?_
  | with_reducible refine' w_t ?_
  | with_reducible refine' w_f ?_
  | with_reducible refine' w_ifS ?_
  | with_reducible refine' w_if ?_
  | with_reducible refine' w_and ?_
  | with_reducible refine' w_or ?_
  | with_reducible refine' w_not ?_
  | with_reducible refine' w_andV ?_
  | with_reducible refine' w_orV ?_
  | with_reducible refine' w_notV ?_
  | with_reducible refine' w_ret ?_
  | with_reducible refine' w_retN ?_
  | with_reducible refine' w_drop ?_
  | with_reducible refine' w_next ?_
  | with_reducible refine' w_nil ?_
  | with_reducible refine' w_cons ?_
  | with_reducible refine' w_cb ?_
  | with_reducible refine' w_call ?_
  | with_reducible refine' w_gsub ?_
  | with_reducible refine' w_gnil ?_
  | with_reducible refine' w_gcons ?_
  | ((with_reducible refine' w_gtup ?hs ?hn ?_); (case hs => walk_at "sq"); (case hn => rfl))
  | with_reducible refine' w_fld ?_
  | with_reducible refine' w_tfld ?_
  | with_reducible refine' w_sl ?_
  | with_reducible refine' w_nopart ?_
  | with_reducible refine' w_part ?_
  | with_reducible refine' w_bm ?_
  | with_reducible refine' w_bm0 ?_
  | with_reducible refine' w_yes ?_
  | with_reducible refine' w_tup ?_
  | with_reducible refine' w_lst ?_
  | with_reducible refine' w_I0 ?_
  | ((with_reducible refine' w_I ?hc ?_); (case hc => (first | (show (0 : Int) < _; first | decide | omega | assumption) | exact wide_div (by first | assumption | decide) (b := 200) (by first | assumption | decide) (by decide) (by decide) | exact wide_mul (a := 64) (b := 64) (by omega) (by omega) (by decide) (by decide) (by decide) | exact ⟨by decide, by decide, by decide⟩)))
  | ((with_reducible refine' w_eq ?he ?_); (case he => rfl))
  | ((with_reducible refine' w_ne ?he ?_); (case he => rfl))
  | ((with_reducible refine' w_ixL ?hs ?ha ?_); (case hs => walk_at "sq"); (case ha => rfl))
  | ((with_reducible refine' w_ixT ?hs ?ha ?_); (case hs => walk_at "sq"); (case ha => rfl))
  | ((with_reducible refine' w_lenL ?hs ?he ?_); (case hs => walk_at "sq"); (case he => first | (simp only [List.length_cons, List.length_nil, List.length_map]; rfl) | rfl))
  | ((with_reducible refine' w_lenT ?hs ?he ?_); (case hs => walk_at "sq"); (case he => first | (simp only [List.length_cons, List.length_nil, List.length_map]; rfl) | rfl))
  | ((with_reducible refine' w_setL ?hh ?hk ?he (fun H1 f1 g1 => ?_)); (case hh => walk_at "hp"); (case hk => rfl); (case he => walk_at "lset"))
  | ((with_reducible refine' w_newT ?hl (fun p H1 n1 f1 g1 => ?_)); (case hl => (first | decide | (simp only [List.length_cons, List.length_nil]; decide))))
  | ((with_reducible refine' w_newL ?hl (fun p H1 n1 f1 g1 => ?_)); (case hl => (first | decide | (simp only [List.length_cons, List.length_nil]; decide))))
  | with_reducible refine' w_for ?_
  | with_reducible refine' w_ilist ?_
  | ((with_reducible refine' w_ilb ?hs ?_); (case hs => walk_at "sq"))
  | with_reducible refine' w_itup ?_
  | ((with_reducible refine' w_itb ?hs ?_); (case hs => walk_at "sq"))
  | with_reducible refine' w_rng1 ?_
  | ((with_reducible refine' w_rgb1 ?h0 ?h1 ?_); (case h0 => first | decide | omega); (case h1 => first | decide | omega))
  | with_reducible refine' w_lc ?_
  | ((with_reducible refine' w_wipe ?hw ?_); (case hw => rfl))
  | ((with_reducible refine' w_cat ?ha ?hb ?hl (fun p H1 n1 f1 g1 => ?_)); (case ha => walk_at "hp"); (case hb => walk_at "hp"); (case hl => (first | decide | (simp only [List.length_cons, List.length_nil]; decide))))
  | with_reducible refine' w_dget ?_
  | with_reducible refine' w_din ?_
  | with_reducible refine' w_dnotin ?_
  | with_reducible refine' w_dput ?_
  | with_reducible refine' w_dnew ?_
  | with_reducible refine' w_newD (fun p H1 n1 f1 g1 => ?_)
  | ((with_reducible refine' w_slT ?hs ?hn ?he (fun p H1 n1 f1 g1 => ?_)); (case hs => walk_at "sq"); (case hn => decide); (case he => rfl))
  | with_reducible refine' w_meth ?_
  | with_reducible refine' w_make ?_
  | with_reducible refine' w_mkb (fun x dx H1 n1 m1 d1 f1 g1 => ?_)
  | with_reducible refine' w_fldaug ?_
  | with_reducible refine' w_tru ?_
  | ((with_reducible refine' w_trl ?hh ?_); (case hh => walk_at "hp"))
  | with_reducible refine' w_whb ?_
  | with_reducible refine' w_chain ?_
  | with_reducible refine' w_tyIs ?_
  | with_reducible refine' w_raise ?_
  | with_reducible refine' w_rab ?_
  | with_reducible refine' w_jn ?_
  | with_reducible refine' w_js ?_
  | with_reducible refine' w_jsn ?_
  | with_reducible refine' w_fmt ?_
  | with_reducible refine' w_isN ?_
  | with_reducible refine' w_intB ?_
  | with_reducible refine' w_istr ?_
  | with_reducible refine' w_stb ?_
  | ((with_reducible refine' w_inT ?hs ?hx ?ha ?_); (case hs => walk_at "sq"); (case hx => rfl); (case ha => rfl))
  | ((with_reducible refine' w_isf ?hd ?_); (case hd => decide +kernel))
  | ((with_reducible refine' w_ist ?hd ?_); (case hd => decide +kernel))
  | with_reducible refine' w_enumT ?_
  | ((with_reducible refine' w_enb ?hs ?_); (case hs => walk_at "sq"))
  | with_reducible refine' w_star ?_
  | ((with_reducible refine' w_stT ?hs ?_); (case hs => walk_at "sq"))
  | ((with_reducible refine' w_stL ?hs ?_); (case hs => walk_at "sq"))
  | with_reducible refine' w_par ?_
  | ((with_reducible refine' w_parb ?he ?_); (case he => walk_at "lset"))
  | with_reducible refine' w_enumL ?_
  | ((with_reducible refine' w_enlb ?hs ?_); (case hs => walk_at "sq"))
  | with_reducible refine' w_revL ?_
  | ((with_reducible refine' w_revb ?hs (fun p H1 n1 f1 g1 => ?_)); (case hs => walk_at "sq"))
  | with_reducible refine' w_max2 ?_
  | with_reducible refine' w_min2 ?_
  | with_reducible refine' w_lrg2 ?_
  | with_reducible refine' w_scI ?_
  | fail "none")
local macro_rules | `(tactic| walk_at "wk") => `(tactic| repeat walk_at "wk1")

section
variable {P : Program} {w : World} {K : PySem.W.Frag} {mg : Str → Option Value} {base : Heap} {f : Addr} {fd : FuncData}
theorem sc_law_start : FnScope ["_law_script", "_law_mixed", "_law_cell"] ["_law_script"] (defScope s_law_start) := ⟨rfl, rfl, rfl, by decide +kernel, rfl, by decide +kernel, by decide +kernel⟩
theorem ok_start (F : Fun K "_law_start" "_law_start" s_law_start f fd) (Z : Blt mg) : FnOk P w K mg base CX0 1 f fd ["_law_script"] (spStart K) := by
  refine F.ok sc_law_start (fun vs H Q E h => ?_) (fun cdv A outer s H vs Q E hr h => ?_)
  · obtain ⟨a, ns, rfl, _⟩ := h
    rfl
  obtain ⟨a, ns, rfl, hsq, k⟩ := h
  refine ⟨_, (pss_cons (ps_set (i := 1) sc_law_start.nd rfl (Or.inl rfl) pe_int)
  (pss_cons (ps_for PassesOwn.never rfl (pi_list (pv 0)) (pg_name (i := 2) sc_law_start.nd rfl (Or.inl rfl)) (pss_one (ps_set (i := 1) sc_law_start.nd rfl (Or.inl rfl) (pe_op op_mod (pe_op op_add (pe_op op_add (pe_op op_mulW (pv 1) pe_int) (pv 2)) pe_int) pe_int))))
  (pss_one (ps_ret (pe_lst (pa_cons (pv 0) (pa_cons pe_int (pa_cons (pv 1) (pa_cons pe_int pa_nil))))))))), ?_⟩
  walk_at "st"
  walk_at "wk"
  refine forL (xs := ns.map V.int) (fun i σ H' => H' = H ∧ ∃ (m : Int) (o : Option V), σ = [some (.ref a), some (.int m), o] ∧ 0 ≤ m ∧ m < 2147483647) ⟨rfl, 1, _, rfl, by decide, by decide⟩ (fun i σ H' _ h => h.1 ▸ hsq) ?_ ?_
  · rintro i x σ H' hx ⟨rfl, m, o, rfl, hm0, hm1⟩
    obtain ⟨c, rfl⟩ : ∃ c, x = V.int c := by
      rw [List.getElem?_map] at hx
      cases e : ns[i]? with
      | none => rw [e] at hx; cases hx
      | some z => rw [e] at hx; exact ⟨z, (Option.some.inj hx).symm⟩
    walk_at "wk"
    exact ⟨rfl, _, _, rfl, Int.emod_nonneg _ (by decide), Int.emod_lt_of_pos _ (by decide)⟩
  · rintro σ H' ⟨rfl, m, o, rfl, hm0, hm1⟩
    walk_at "wk"
    rename_i p H1 n1 f1 g1
    refine k p H1 n1 ⟨a, ns, 0, m, 0, g1, ?_, by decide, hm0, hm1⟩ f1
    rcases hsq with h | h
    · refine .inl ⟨rd_fr f1 h (by simp), ?_⟩
      rcases h with h | ⟨o, h⟩
      · simpa using ne_of_none h n1
      · simpa using ne_of_none h n1
    · exact .inr h
end
end My
namespace My
open PySem L2 Wk
local macro_rules | `(tactic| walk_at "hs") => `(tactic| first
  | assumption
  | (apply fr_st0; (case f => assumption); (case h => walk_at "hs"))
  | (apply fr_st1; (case f => assumption); (case n => walk_at "ne"); (case hw => first | assumption | exact List.mem_cons_self); (case h => walk_at "hs"))
  | fail "none")
local macro_rules | `(tactic| walk_at "nn") => `(tactic| first
  | (apply nn_st; (case n => assumption); (case h => walk_at "hs"))
  | (apply nn_l; (case n => assumption); (case h => walk_at "hp"))
  | (apply nn_d; (case n => assumption); (case h => walk_at "hp"))
  | (apply nn_i; (case n => assumption); (case h => walk_at "hp"))
  | fail "none")
local macro_rules | `(tactic| walk_at "su") => `(tactic| first
  | assumption
  | (apply fr_su; (case f => assumption); (case h => walk_at "su"))
  | fail "none")
local macro_rules | `(tactic| walk_at "as") => `(tactic| first
  | assumption
  | (apply fr_as; (case f => assumption); (case h => walk_at "as"))
  | fail "none")
local macro_rules | `(tactic| walk_at "ef") => `(tactic| first
  | assumption
  | (apply fr_ef0; (case f => assumption); (case h => walk_at "ef"))
  | (apply fr_ef; (case f => assumption); (case n1 => walk_at "ni"); (case n2 => walk_at "ni"); (case n3 => walk_at "ni"); (case h => walk_at "ef"))
  | fail "none")
local macro_rules | `(tactic| walk_at "td") => `(tactic| first
  | assumption
  | (apply fr_td0; (case f => assumption); (case h => walk_at "td"))
  | (apply fr_td; (case f => assumption); (case n1 => walk_at "ni"); (case n2 => walk_at "ni"); (case n3 => walk_at "ni"); (case h => walk_at "td"))
  | fail "none")
local macro_rules | `(tactic| walk_at "sk") => `(tactic| first
  | assumption
  | (apply fr_stk; (case f => assumption); (case a => walk_at "sk"))
  | fail "none")
local macro_rules | `(tactic| walk_at "al") => `(tactic| first
  | assumption
  | (apply fr_al; (case f => assumption); (case h => walk_at "al"))
  | fail "none")
local macro_rules | `(tactic| walk_at "nv") => `(tactic| first
  | assumption
  | (apply fr_nv; (case a => assumption); (case n => walk_at "ni"); (case h => walk_at "nv"))
  | fail "none")
local macro_rules | `(tactic| walk_at "ne") => `(tactic| first
  | assumption
  | (apply Ne.symm; assumption)
  | walk_at "nn"
  | (apply Ne.symm; walk_at "nn")
  | fail "none")
local macro_rules | `(tactic| walk_at "ni") => `(tactic| first
  | exact List.not_mem_nil
  | (apply ni1; walk_at "ne")
  | (apply ni2 <;> walk_at "ne")
  | (apply ni3 <;> walk_at "ne")
  | fail "none")
local macro_rules | `(tactic| walk_at "hp") => `(tactic| first
  | assumption
  | (apply Fr.gett; (case a => assumption); (case h => walk_at "hp"))
  | (apply Fr.getl; (case a => assumption); (case n => walk_at "ni"); (case h => walk_at "hp"))
  | (apply Fr.getd; (case a => assumption); (case n => walk_at "ni"); (case h => walk_at "hp"))
  | (apply Fr.geti; (case a => assumption); (case n => walk_at "ni"); (case h => walk_at "hp"))
  | fail "none")
local macro_rules | `(tactic| walk_at "sqs") => `(tactic| first
  | assumption
  | (apply Fr.sqln; (case a => assumption); (case n => walk_at "ni"); (case h => walk_at "sqs"))
  | fail "none")
local macro_rules | `(tactic| walk_at "sq") => `(tactic| first
  | assumption
  | (apply SqL.of; walk_at "hp")
  | (apply SqT.of; walk_at "hp")
  | walk_at "sqs"
  | fail "none")
local macro_rules | `(tactic| walk_at "fr") => `(tactic| first
  | exact Fr.refl
  | assumption
  | (apply Fr.mono; (case a => assumption); (case h => simp))
  | (apply fr_last; (case f => assumption); (case w => simp); (case g => walk_at "fr"))
  | fail "none")
local macro_rules | `(tactic| walk_at "st") => `(tactic| ((try dsimp only [cxOf, Cx.nox, Cx.wish]); (try simp only [L2.start, List.map_cons, List.map_nil, List.length_cons, List.length_nil, List.replicate, List.cons_append, List.nil_append, Nat.reduceAdd, Nat.reduceSub])))
local macro_rules | `(tactic| walk_at "lset") => `(tactic| (simp only [wipe, List.map_cons, List.map_nil, Int.reduceToNat, List.set_cons_zero, List.set_cons_succ] <;> rfl))
local macro_rules | `(tactic| walk_at "wk1") => `(tactic| first
  | with_reducible refine' w_seq ?_
  | with_reducible refine' w_asg ?_
  | ((with_reducible refine' w_name ?hs ?_); (case hs => walk_at "lset"))
  | ((with_reducible refine' w_var ?hv ?_); (case hv => rfl))
  | with_reducible refine' w_c ?_
  | with_reducible refine' w_op ?_
  | with_reducible refine' w_un ?_
  | with_reducible refine' w_test ?_
  | with_reducible refine' w_tB ?_
  | with_reducible refine' w_exbl ?_
  | with_reducible refine' w_exint ?_
  | with_reducible refine' w_t ?_
  | with_reducible refine' w_f ?_
  | with_reducible refine' w_ifS ?_
  | with_reducible refine' w_if ?_
  | with_reducible refine' w_and ?_
  | with_reducible refine' w_or ?_
  | with_reducible refine' w_not ?_
  | with_reducible refine' w_andV ?_
  | with_reducible refine' w_orV ?_
  | with_reducible refine' w_notV ?_
  | with_reducible refine' w_ret ?_
  | with_reducible refine' w_retN ?_
  | with_reducible refine' w_drop ?_
  | with_reducible refine' w_next ?_
  | with_reducible refine' w_nil ?_
  | with_reducible refine' w_cons ?_
  | with_reducible refine' w_cb ?_
  | with_reducible refine' w_call ?_
  | with_reducible refine' w_gsub ?_
  | with_reducible refine' w_gnil ?_
  | with_reducible refine' w_gcons ?_
  | ((with_reducible refine' w_gtup ?hs ?hn ?_); (case hs => walk_at "sq"); (case hn => rfl))
  | with_reducible refine' w_fld ?_
  | with_reducible refine' w_tfld ?_
  | with_reducible refine' w_sl ?_
  | with_reducible refine' w_nopart ?_
  | with_reducible refine' w_part ?_
  | with_reducible refine' w_bm ?_
  | with_reducible refine' w_bm0 ?_
  | with_reducible refine' w_yes ?_
  | with_reducible refine' w_tup ?_
  | with_reducible refine' w_lst ?_
  | with_reducible refine' w_I0 ?_
  | ((with_reducible refine' w_I ?hc ?_); (case hc => (first | (show (0 : Int) < _; first | decide | omega | assumption) | exact wide_div (by first | assumption | decide) (b := 200) (by first | assumption | decide) (by decide) (by decide) | exact wide_mul (a := 64) (b := 64) (by omega) (by omega) (by decide) (by decide) (by decide) | exact ⟨by decide, by decide, by decide⟩)))
  | ((with_reducible refine' w_eq ?he ?_); (case he => rfl))
  | ((with_reducible refine' w_ne ?he ?_); (case he => rfl))
  | ((with_reducible refine' w_ixL ?hs ?ha ?_); (case hs => walk_at "sq"); (case ha => rfl))
  | ((with_reducible refine' w_ixT ?hs ?ha ?_); (case hs => walk_at "sq"); (case ha => rfl))
  | ((with_reducible refine' w_lenL ?hs ?he ?_); (case hs => walk_at "sq"); (case he => first | (simp only [List.length_cons, List.length_nil, List.length_map]; rfl) | rfl))
  | ((with_reducible refine' w_lenT ?hs ?he ?_); (case hs => walk_at "sq"); (case he => first | (simp only [List.length_cons, List.length_nil, List.length_map]; rfl) | rfl))
  | ((with_reducible refine' w_setL ?hh ?hk ?he (fun H1 f1 g1 => ?_)); (case hh => walk_at "hp"); (case hk => rfl); (case he => walk_at "lset"))
  | ((with_reducible refine' w_newT ?hl (fun p H1 n1 f1 g1 => ?_)); (case hl => (first | decide | (simp only [List.length_cons, List.length_nil]; decide))))
  | ((with_reducible refine' w_newL ?hl (fun p H1 n1 f1 g1 => ?_)); (case hl => (first | decide | (simp only [List.length_cons, List.length_nil]; decide))))
  | with_reducible refine' w_for ?_
  | with_reducible refine' w_ilist ?_
  | ((with_reducible refine' w_ilb ?hs ?_); (case hs => walk_at "sq"))
  | with_reducible refine' w_itup ?_
  | ((with_reducible refine' w_itb ?hs ?_); (case hs => walk_at "sq"))
  | with_reducible refine' w_rng1 ?_
  | ((with_reducible refine' w_rgb1 ?h0 ?h1 ?_); (case h0 => first | decide | omega); (case h1 => first | decide | omega))
  | with_reducible refine' w_lc ?_
  | ((with_reducible refine' w_wipe ?hw ?_); (case hw => rfl))
  | ((with_reducible refine' w_cat ?ha ?hb ?hl (fun p H1 n1 f1 g1 => ?_)); (case ha => walk_at "hp"); (case hb => walk_at "hp"); (case hl => (first | decide | (simp only [List.length_cons, List.length_nil]; decide))))
  | with_reducible refine' w_dget ?_
  | with_reducible refine' w_din ?_
  | with_reducible refine' w_dnotin ?_
  | with_reducible refine' w_dput ?_
  | with_reducible refine' w_dnew ?_
  | with_reducible refine' w_newD (fun p H1 n1 f1 g1 => ?_)
  | ((with_reducible refine' w_slT ?hs ?hn ?he (fun p H1 n1 f1 g1 => ?_)); (case hs => walk_at "sq"); (case hn => decide); (case he => rfl))
  | with_reducible refine' w_meth ?_
  | with_reducible refine' w_make ?_
  | with_reducible refine' w_mkb (fun x dx H1 n1 m1 d1 f1 g1 => ?_)
  | with_reducible refine' w_fldaug ?_
  | with_reducible refine' w_tru ?_
  | ((with_reducible refine' w_trl ?hh ?_); (case hh => walk_at "hp"))
  | with_reducible refine' w_whb ?_
  | with_reducible refine' w_chain ?_
  | with_reducible refine' w_tyIs ?_
  | with_reducible refine' w_raise ?_
  | with_reducible refine' w_rab ?_
  | with_reducible refine' w_jn ?_
  | with_reducible refine' w_js ?_
  | with_reducible refine' w_jsn ?_
  | with_reducible refine' w_fmt ?_
  | with_reducible refine' w_isN ?_
  | with_reducible refine' w_intB ?_
  | with_reducible refine' w_istr ?_
  | with_reducible refine' w_stb ?_
  | ((with_reducible refine' w_inT ?hs ?hx ?ha ?_); (case hs => walk_at "sq"); (case hx => rfl); (case ha => rfl))
  | ((with_reducible refine' w_isf ?hd ?_); (case hd => decide +kernel))
  | ((with_reducible refine' w_ist ?hd ?_); (case hd => decide +kernel))
  | with_reducible refine' w_enumT ?_
  | ((with_reducible refine' w_enb ?hs ?_); (case hs => walk_at "sq"))
  | with_reducible refine' w_star ?_
  | ((with_reducible refine' w_stT ?hs ?_); (case hs => walk_at "sq"))
  | ((with_reducible refine' w_stL ?hs ?_); (case hs => walk_at "sq"))
  | with_reducible refine' w_par ?_
  | ((with_reducible refine' w_parb ?he ?_); (case he => walk_at "lset"))
  | with_reducible refine' w_enumL ?_
  | ((with_reducible refine' w_enlb ?hs ?_); (case hs => walk_at "sq"))
  | with_reducible refine' w_revL ?_
  | ((with_reducible refine' w_revb ?hs (fun p H1 n1 f1 g1 => ?_)); (case hs => walk_at "sq"))
  | with_reducible refine' w_max2 ?_
  | with_reducible refine' w_min2 ?_
  | with_reducible refine' w_lrg2 ?_
  | with_reducible refine' w_scI ?_
  | fail "none")
local macro_rules | `(tactic| walk_at "wk") => `(tactic| repeat walk_at "wk1")

section
variable {P : Program} {w : World} {K : PySem.W.Frag} {mg : Str → Option Value} {base : Heap} {f : Addr} {fd : FuncData}
theorem sc_law_drawn : FnScope ["_law_state", "_law_many", "_law_found", "_law_cell"] ["_law_state", "_law_many"] (defScope s_law_drawn) := ⟨rfl, rfl, rfl, by decide +kernel, rfl, by decide +kernel, by decide +kernel⟩
theorem ok_drawn (F : Fun K "_law_drawn" "_law_drawn" s_law_drawn f fd) (Z : Blt mg) : FnOk P w K mg base CX0 1 f fd ["_law_state", "_law_many"] (spDrawn K) := by
  refine F.ok sc_law_drawn (fun vs H Q E h => ?_) (fun cdv A outer s H vs Q E hr h => ?_)
  · obtain ⟨Ws, st, n, rfl, _⟩ := h
    rfl
  obtain ⟨Ws, st, n, rfl, ⟨a, ns, i, m, r, hst, hsc, hi, hm0, hm1⟩, hn, hn2, k⟩ := h
  have fin : ∀ H' : Hp, Fr [st] H H' → Scr K H' a (ns.map V.int) (st :: Ws) := fun H' f => hsc.fr f (by simp)
  have hsq := hsc.sq
  have hS : ∀ H' : Hp, Fr [st] H H' → SqL K H' a (ns.map V.int) := fun H' f => (fin H' f).sq
  refine ⟨_, (pss_cons (ps_if (pt_cmpR op_gt (pe_ix (r := rIxL K) ix_list (pv 0) pe_int (fun _ _ => rfl)) pe_int (nomark _)) (pss_cons (ps_set (i := 2) sc_law_drawn.nd rfl (Or.inl rfl) (pe_op op_mod (pe_ix (r := rIxL K) ix_list (pv 0) pe_int (fun _ _ => rfl)) (pv 1)))
  (pss_cons (ps_asg (pe_op op_fdivW (pe_ix (r := rIxL K) ix_list (pv 0) pe_int (fun _ _ => rfl)) (pv 1)) (pg_sub (pv 0) pe_int set_list))
  (pss_one (ps_ret (pv 2))))) pss_nil)
  (pss_cons (ps_asg (pe_op op_add (pe_ix (r := rIxL K) ix_list (pv 0) pe_int (fun _ _ => rfl)) pe_int) (pg_sub (pv 0) pe_int set_list))
  (pss_cons (ps_if (pt_cmpR op_le (pe_ix (r := rIxL K) ix_list (pv 0) pe_int (fun _ _ => rfl)) (pe_callB (id := "len") (r := rLenW K) call_lenN (by rfl) Z.len PySem.boot_len (pa_cons (pe_ix (r := rIxL K) ix_list (pv 0) pe_int (fun _ _ => rfl)) pa_nil)) (nomark _)) (pss_cons (ps_set (i := 3) sc_law_drawn.nd rfl (Or.inl rfl) (pe_ix (r := rIxL K) ix_list (pe_ix (r := rIxL K) ix_list (pv 0) pe_int (fun _ _ => rfl)) (pe_op op_sub (pe_ix (r := rIxL K) ix_list (pv 0) pe_int (fun _ _ => rfl)) pe_int) (fun _ _ => rfl)))
  (pss_cons (ps_asg (pe_ifExp (pt_cmpR op_ge (pv 3) (pe_op op_pow pe_int pe_int) (nomark _)) (pe_op op_fdivW (pv 3) (pv 1)) pe_int) (pg_sub (pv 0) pe_int set_list))
  (pss_one (ps_ret (pe_op op_mod (pv 3) (pv 1)))))) pss_nil)
  (pss_cons (ps_asg (pe_op op_mod (pe_op op_add (pe_op op_mulW (pe_ix (r := rIxL K) ix_list (pv 0) pe_int (fun _ _ => rfl)) pe_int) pe_int) pe_int) (pg_sub (pv 0) pe_int set_list))
  (pss_one (ps_ret (pe_op op_mod (pe_op op_fdivW (pe_ix (r := rIxL K) ix_list (pv 0) pe_int (fun _ _ => rfl)) pe_int) (pv 1)))))))), ?_⟩
  walk_at "st"
  walk_at "wk"
  refine w_iteD (fun h1 => ?_) (fun h1 => ?_)
  · walk_at "wk"
    exact k _ _ (Int.emod_nonneg _ (by omega)) (Int.emod_lt_of_pos _ hn) ⟨a, ns, i, m, _, (by walk_at "hp"), fin _ (by walk_at "fr"), hi, hm0, hm1⟩ (by walk_at "fr")
  walk_at "wk"
  refine w_lenL (hS _ (by walk_at "fr")) rfl ?_
  walk_at "wk"
  refine w_iteD (fun h2 => ?_) (fun h2 => ?_)
  · rw [List.length_map] at h2
    obtain ⟨c, hc⟩ := atI_map (ns := ns) (k := i + 1 - 1) (by omega) (by omega)
    walk_at "wk"
    refine w_ixL (hS _ (by walk_at "fr")) hc ?_
    walk_at "wk"
    refine w_iteD (fun h3 => ?_) (fun h3 => ?_)
    · walk_at "wk"
      exact k _ _ (Int.emod_nonneg _ (by omega)) (Int.emod_lt_of_pos _ hn) ⟨a, ns, _, m, _, (by walk_at "hp"), fin _ (by walk_at "fr"), by omega, hm0, hm1⟩ (by walk_at "fr")
    · walk_at "wk"
      exact k _ _ (Int.emod_nonneg _ (by omega)) (Int.emod_lt_of_pos _ hn) ⟨a, ns, _, m, _, (by walk_at "hp"), fin _ (by walk_at "fr"), by omega, hm0, hm1⟩ (by walk_at "fr")
  walk_at "wk"
  exact k _ _ (Int.emod_nonneg _ (by omega)) (Int.emod_lt_of_pos _ hn) ⟨a, ns, _, _, _, (by walk_at "hp"), fin _ (by walk_at "fr"), by omega, Int.emod_nonneg _ (by decide), Int.emod_lt_of_pos _ (by decide)⟩ (by walk_at "fr")
end
end My
namespace My
open PySem L2 Wk
local macro_rules | `(tactic| walk_at "hs") => `(tactic| first
  | assumption
  | (apply fr_st0; (case f => assumption); (case h => walk_at "hs"))
  | (apply fr_st1; (case f => assumption); (case n => walk_at "ne"); (case hw => first | assumption | exact List.mem_cons_self); (case h => walk_at "hs"))
  | fail "none")
local macro_rules | `(tactic| walk_at "nn") => `(tactic| first
  | (apply nn_st; (case n => assumption); (case h => walk_at "hs"))
  | (apply nn_l; (case n => assumption); (case h => walk_at "hp"))
  | (apply nn_d; (case n => assumption); (case h => walk_at "hp"))
  | (apply nn_i; (case n => assumption); (case h => walk_at "hp"))
  | fail "none")
local macro_rules | `(tactic| walk_at "su") => `(tactic| first
  | assumption
  | (apply fr_su; (case f => assumption); (case h => walk_at "su"))
  | fail "none")
local macro_rules | `(tactic| walk_at "as") => `(tactic| first
  | assumption
  | (apply fr_as; (case f => assumption); (case h => walk_at "as"))
  | fail "none")
local macro_rules | `(tactic| walk_at "ef") => `(tactic| first
  | assumption
  | (apply fr_ef0; (case f => assumption); (case h => walk_at "ef"))
  | (apply fr_ef; (case f => assumption); (case n1 => walk_at "ni"); (case n2 => walk_at "ni"); (case n3 => walk_at "ni"); (case h => walk_at "ef"))
  | fail "none")
local macro_rules | `(tactic| walk_at "td") => `(tactic| first
  | assumption
  | (apply fr_td0; (case f => assumption); (case h => walk_at "td"))
  | (apply fr_td; (case f => assumption); (case n1 => walk_at "ni"); (case n2 => walk_at "ni"); (case n3 => walk_at "ni"); (case h => walk_at "td"))
  | fail "none")
local macro_rules | `(tactic| walk_at "sk") => `(tactic| first
  | assumption
  | (apply fr_stk; (case f => assumption); (case a => walk_at "sk"))
  | fail "none")
local macro_rules | `(tactic| walk_at "al") => `(tactic| first
  | assumption
  | (apply fr_al; (case f => assumption); (case h => walk_at "al"))
  | fail "none")
local macro_rules | `(tactic| walk_at "nv") => `(tactic| first
  | assumption
  | (apply fr_nv; (case a => assumption); (case n => walk_at "ni"); (case h => walk_at "nv"))
  | fail "none")
local macro_rules | `(tactic| walk_at "ne") => `(tactic| first
  | assumption
  | (apply Ne.symm; assumption)
  | walk_at "nn"
  | (apply Ne.symm; walk_at "nn")
  | fail "none")
local macro_rules | `(tactic| walk_at "ni") => `(tactic| first
  | exact List.not_mem_nil
  | (apply ni1; walk_at "ne")
  | (apply ni2 <;> walk_at "ne")
  | (apply ni3 <;> walk_at "ne")
  | fail "none")
local macro_rules | `(tactic| walk_at "hp") => `(tactic| first
  | assumption
  | (apply Fr.gett; (case a => assumption); (case h => walk_at "hp"))
  | (apply Fr.getl; (case a => assumption); (case n => walk_at "ni"); (case h => walk_at "hp"))
  | (apply Fr.getd; (case a => assumption); (case n => walk_at "ni"); (case h => walk_at "hp"))
  | (apply Fr.geti; (case a => assumption); (case n => walk_at "ni"); (case h => walk_at "hp"))
  | fail "none")
local macro_rules | `(tactic| walk_at "sqs") => `(tactic| first
  | assumption
  | (apply Fr.sqln; (case a => assumption); (case n => walk_at "ni"); (case h => walk_at "sqs"))
  | fail "none")
local macro_rules | `(tactic| walk_at "sq") => `(tactic| first
  | assumption
  | (apply SqL.of; walk_at "hp")
  | (apply SqT.of; walk_at "hp")
  | walk_at "sqs"
  | fail "none")
local macro_rules | `(tactic| walk_at "fr") => `(tactic| first
  | exact Fr.refl
  | assumption
  | (apply Fr.mono; (case a => assumption); (case h => simp))
  | (apply fr_last; (case f => assumption); (case w => simp); (case g => walk_at "fr"))
  | fail "none")
local macro_rules | `(tactic| walk_at "st") => `(tactic| ((try dsimp only [cxOf, Cx.nox, Cx.wish]); (try simp only [L2.start, List.map_cons, List.map_nil, List.length_cons, List.length_nil, List.replicate, List.cons_append, List.nil_append, Nat.reduceAdd, Nat.reduceSub])))
local macro_rules | `(tactic| walk_at "lset") => `(tactic| (simp only [wipe, List.map_cons, List.map_nil, Int.reduceToNat, List.set_cons_zero, List.set_cons_succ] <;> rfl))
local macro_rules | `(tactic| walk_at "wk1") => `(tactic| first
  | with_reducible refine' w_seq ?_
  | with_reducible refine' w_asg ?_
  | ((with_reducible refine' w_name ?hs ?_); (case hs => walk_at "lset"))
  | ((with_reducible refine' w_var ?hv ?_); (case hv => rfl))
  | with_reducible refine' w_c ?_
  | with_reducible refine' w_op ?_
  | with_reducible refine' w_un ?_
  | with_reducible refine' w_test ?_
  | with_reducible refine' w_tB ?_
  | with_reducible refine' w_exbl ?_
  | with_reducible refine' w_exint ?_
  | with_reducible refine' w_t ?_
  | with_reducible refine' w_f ?_
  | with_reducible refine' w_ifS ?_
  | with_reducible refine' w_if ?_
  | with_reducible refine' w_and ?_
  | with_reducible refine' w_or ?_
  | with_reducible refine' w_not ?_
  | with_reducible refine' w_andV ?_
  | with_reducible refine' w_orV ?_
  | with_reducible refine' w_notV ?_
  | with_reducible refine' w_ret ?_
  | with_reducible refine' w_retN ?_
  | with_reducible refine' w_drop ?_
  | with_reducible refine' w_next ?_
  | with_reducible refine' w_nil ?_
  | with_reducible refine' w_cons ?_
  | with_reducible refine' w_cb ?_
  | with_reducible refine' w_call ?_
  | with_reducible refine' w_gsub ?_
  | with_reducible refine' w_gnil ?_
  | with_reducible refine' w_gcons ?_
  | ((with_reducible refine' w_gtup ?hs ?hn ?_); (case hs => walk_at "sq"); (case hn => rfl))
  | with_reducible refine' w_fld ?_
  | with_reducible refine' w_tfld ?_
  | with_reducible refine' w_sl ?_
  | with_reducible refine' w_nopart ?_
  | with_reducible refine' w_part ?_
  | with_reducible refine' w_bm ?_
  | with_reducible refine' w_bm0 ?_
  | with_reducible refine' w_yes ?_
  | with_reducible refine' w_tup ?_
  | with_reducible refine' w_lst ?_
  | with_reducible refine' w_I0 ?_
  | ((with_reducible refine' w_I ?hc ?_); (case hc => (first | (show (0 : Int) < _; first | decide | omega | assumption) | exact wide_div (by first | assumption | decide) (b := 200) (by first | assumption | decide) (by decide) (by decide) | exact wide_mul (a := 64) (b := 64) (by omega) (by omega) (by decide) (by decide) (by decide) | exact ⟨by decide, by decide, by decide⟩)))
  | ((with_reducible refine' w_eq ?he ?_); (case he => rfl))
  | ((with_reducible refine' w_ne ?he ?_); (case he => rfl))
  | ((with_reducible refine' w_ixL ?hs ?ha ?_); (case hs => walk_at "sq"); (case ha => rfl))
  | ((with_reducible refine' w_ixT ?hs ?ha ?_); (case hs => walk_at "sq"); (case ha => rfl))
  | ((with_reducible refine' w_lenL ?hs ?he ?_); (case hs => walk_at "sq"); (case he => first | (simp only [List.length_cons, List.length_nil, List.length_map]; rfl) | rfl))
  | ((with_reducible refine' w_lenT ?hs ?he ?_); (case hs => walk_at "sq"); (case he => first | (simp only [List.length_cons, List.length_nil, List.length_map]; rfl) | rfl))
  | ((with_reducible refine' w_setL ?hh ?hk ?he (fun H1 f1 g1 => ?_)); (case hh => walk_at "hp"); (case hk => rfl); (case he => walk_at "lset"))
  | ((with_reducible refine' w_newT ?hl (fun p H1 n1 f1 g1 => ?_)); (case hl => (first | decide | (simp only [List.length_cons, List.length_nil]; decide))))
  | ((with_reducible refine' w_newL ?hl (fun p H1 n1 f1 g1 => ?_)); (case hl => (first | decide | (simp only [List.length_cons, List.length_nil]; decide))))
  | with_reducible refine' w_for ?_
  | with_reducible refine' w_ilist ?_
  | ((with_reducible refine' w_ilb ?hs ?_); (case hs => walk_at "sq"))
  | with_reducible refine' w_itup ?_
  | ((with_reducible refine' w_itb ?hs ?_); (case hs => walk_at "sq"))
  | with_reducible refine' w_rng1 ?_
  | ((with_reducible refine' w_rgb1 ?h0 ?h1 ?_); (case h0 => first | decide | omega); (case h1 => first | decide | omega))
  | with_reducible refine' w_lc ?_
  | ((with_reducible refine' w_wipe ?hw ?_); (case hw => rfl))
  | ((with_reducible refine' w_cat ?ha ?hb ?hl (fun p H1 n1 f1 g1 => ?_)); (case ha => walk_at "hp"); (case hb => walk_at "hp"); (case hl => (first | decide | (simp only [List.length_cons, List.length_nil]; decide))))
  | with_reducible refine' w_dget ?_
  | with_reducible refine' w_din ?_
  | with_reducible refine' w_dnotin ?_
  | with_reducible refine' w_dput ?_
  | with_reducible refine' w_dnew ?_
  | with_reducible refine' w_newD (fun p H1 n1 f1 g1 => ?_)
  | ((with_reducible refine' w_slT ?hs ?hn ?he (fun p H1 n1 f1 g1 => ?_)); (case hs => walk_at "sq"); (case hn => decide); (case he => rfl))
  | with_reducible refine' w_meth ?_
  | with_reducible refine' w_make ?_
  | with_reducible refine' w_mkb (fun x dx H1 n1 m1 d1 f1 g1 => ?_)
  | with_reducible refine' w_fldaug ?_
  | with_reducible refine' w_tru ?_
  | ((with_reducible refine' w_trl ?hh ?_); (case hh => walk_at "hp"))
  | with_reducible refine' w_whb ?_
  | with_reducible refine' w_chain ?_
  | with_reducible refine' w_tyIs ?_
  | with_reducible refine' w_raise ?_
  | with_reducible refine' w_rab ?_
  | with_reducible refine' w_jn ?_
  | with_reducible refine' w_js ?_
  | with_reducible refine' w_jsn ?_
  | with_reducible refine' w_fmt ?_
  | with_reducible refine' w_isN ?_
  | with_reducible refine' w_intB ?_
  | with_reducible refine' w_istr ?_
  | with_reducible refine' w_stb ?_
  | ((with_reducible refine' w_inT ?hs ?hx ?ha ?_); (case hs => walk_at "sq"); (case hx => rfl); (case ha => rfl))
  | ((with_reducible refine' w_isf ?hd ?_); (case hd => decide +kernel))
  | ((with_reducible refine' w_ist ?hd ?_); (case hd => decide +kernel))
  | with_reducible refine' w_enumT ?_
  | ((with_reducible refine' w_enb ?hs ?_); (case hs => walk_at "sq"))
  | with_reducible refine' w_star ?_
  | ((with_reducible refine' w_stT ?hs ?_); (case hs => walk_at "sq"))
  | ((with_reducible refine' w_stL ?hs ?_); (case hs => walk_at "sq"))
  | with_reducible refine' w_par ?_
  | ((with_reducible refine' w_parb ?he ?_); (case he => walk_at "lset"))
  | with_reducible refine' w_enumL ?_
  | ((with_reducible refine' w_enlb ?hs ?_); (case hs => walk_at "sq"))
  | with_reducible refine' w_revL ?_
  | ((with_reducible refine' w_revb ?hs (fun p H1 n1 f1 g1 => ?_)); (case hs => walk_at "sq"))
  | with_reducible refine' w_max2 ?_
  | with_reducible refine' w_min2 ?_
  | with_reducible refine' w_lrg2 ?_
  | with_reducible refine' w_scI ?_
  | fail "none")
local macro_rules | `(tactic| walk_at "wk") => `(tactic| repeat walk_at "wk1")

section
variable {P : Program} {w : World} {K : PySem.W.Frag} {mg : Str → Option Value} {base : Heap} {f : Addr} {fd : FuncData}
theorem two_cls : Paired ClsV [V.ty "tuple", V.ty "list"] [Value.type "tuple", Value.type "list"] := .cons (.ty _) (.cons (.ty _) .nil)
theorem kit2 {K : PySem.W.Frag} {t : String} {b1 b2 r : Bool} (h1 : kitB t "tuple" = some b1) (h2 : kitB t "list" = some b2) (hr : r = (b1 || b2)) : PySem.W.kitAny K (.type t) [.type "tuple", .type "list"] = some r :=
  kitAny_cons (kit_ty h1) (fun e => kitAny_cons (kit_ty h2) (fun e2 => by rw [hr, e, e2]; exact kitAny_nil) (fun e2 => by rw [hr, e2, Bool.or_true])) (fun e => by rw [hr, e, Bool.true_or])
theorem qbl {b c : Bool} {Q : VK} {H : Hp} (h : Q (.bl b) H) (e : b = c) : Q (.bl c) H := e ▸ h
theorem atI_n {xs : List V} {j : Int} {i : Nat} {v : V} (e : j = (i : Int)) (h : xs[i]? = some v) : atI xs j = some v := by rw [e]; exact atI_nat h
theorem fr_ald {H H' : Hp} {D : Addr} {n : Nat} {x y : V} (hD : H D = none) (f : Fr [D] H H') (h : Alike H n x y) : Alike H' n x y := by
  induction h with
  | int n i => exact .int n i
  | str n z => exact .str n z
  | bl n z => exact .bl n z
  | tup n a b xs ys ha hb hl hz h ih => exact .tup n a b xs ys (f.gett ha) (f.gett hb) hl hz ih
  | lst n a b xs ys ha hb hl hz h ih => exact .lst n a b xs ys (f.getl (ni1 (nn_l hD ha).symm) ha) (f.getl (ni1 (nn_l hD hb).symm) hb) hl hz ih
theorem sc_law_same : FnScope ["_law_found", "_law_due", "_law_k"] ["_law_found", "_law_due"] (defScope s_law_same) := ⟨rfl, rfl, rfl, by decide +kernel, rfl, by decide +kernel, by decide +kernel⟩
theorem ok_same {n : Nat} (F : Fun K "_law_same" "_law_same" s_law_same f fd) (Z : Blt mg) (D_law_same : Df P w K mg base CX0 n "_law_same" ["_law_found", "_law_due"] (spSameD n)) : FnOk P w K mg base CX0 (n + 1) f fd ["_law_found", "_law_due"] (spSame n) := by
  refine F.ok sc_law_same (fun vs H Q E h => ?_) (fun cdv A outer s H vs Q E hr h => ?_)
  · obtain ⟨x, y, rfl, _⟩ := h
    rfl
  obtain ⟨x, y, rfl, h, k⟩ := h
  refine ⟨_, (pss_cons (ps_if (pt_val (pe_callB (id := "isinstance") (r := rIsiT K) call_isiT (by rfl) Z.isinstance (by decide +kernel) (pa_cons (pv 1) (pa_cons (pe_tup (pa_cons (pe_bltn (v := .ty "tuple") (u := .type "tuple") rfl Z.tuple (by decide +kernel) rfl) (pa_cons (pe_bltn (v := .ty "list") (u := .type "list") rfl Z.list (by decide +kernel) rfl) pa_nil))) pa_nil))) (fun _ => rfl)) (pss_cons (ps_if (PW.pt (pw_or (pt_not (pt_val (pe_callB (id := "isinstance") (r := rIsiT K) call_isiT (by rfl) Z.isinstance (by decide +kernel) (pa_cons (pv 0) (pa_cons (pe_tup (pa_cons (pe_bltn (v := .ty "tuple") (u := .type "tuple") rfl Z.tuple (by decide +kernel) rfl) (pa_cons (pe_bltn (v := .ty "list") (u := .type "list") rfl Z.list (by decide +kernel) rfl) pa_nil))) pa_nil))) (fun _ => rfl))) (pw_or1 (pt_cmpR op_ne (pe_callB (id := "isinstance") (r := rIsi K) call_isi (by rfl) Z.isinstance (by decide +kernel) (pa_cons (pv 0) (pa_cons (pe_bltn (v := .ty "list") (u := .type "list") rfl Z.list (by decide +kernel) rfl) pa_nil))) (pe_callB (id := "isinstance") (r := rIsi K) call_isi (by rfl) Z.isinstance (by decide +kernel) (pa_cons (pv 1) (pa_cons (pe_bltn (v := .ty "list") (u := .type "list") rfl Z.list (by decide +kernel) rfl) pa_nil))) (nomark _))))) (pss_one (ps_ret pe_bl)) pss_nil)
  (pss_cons (ps_if (pt_cmpR op_ne (pe_callB (id := "len") (r := rLenW K) call_lenN (by rfl) Z.len PySem.boot_len (pa_cons (pv 0) pa_nil)) (pe_callB (id := "len") (r := rLenW K) call_lenN (by rfl) Z.len PySem.boot_len (pa_cons (pv 1) pa_nil)) (nomark _)) (pss_one (ps_ret pe_bl)) pss_nil)
  (pss_one (ps_ret (pe_cmpR (r := rEqD K) (op_eqD hr.units) (pe_lc (own := [("_law_k", 2)]) (g := (gName 2)) (by rfl) sc_law_same.nd (pi_range1 rfl Z.range (pa_cons (pe_callB (id := "len") (r := rLenW K) call_lenN (by rfl) Z.len PySem.boot_len (pa_cons (pv 1) pa_nil)) pa_nil)) (blkOk_by (own := [("_law_k", 2)]) (N := ["_law_found", "_law_due", "_law_k"]) (sc := defScope s_law_same) (by decide +kernel)) (fun _ _ _ _ _ => pg_name (i := 2) sc_law_same.nd rfl (Or.inl rfl)) (fun _ _ _ _ _ => (pts_one (pt_not (pt_val (pe_df D_law_same hr (by first | decide | omega) (pa_cons (pe_ix (r := rIx K) ix_seq (pv 0) (pv 2) (fun _ _ => rfl)) (pa_cons (pe_ix (r := rIx K) ix_seq (pv 1) (pv 2) (fun _ _ => rfl)) pa_nil))) (fun _ => rfl))))) (fun _ _ _ _ _ => (pv 2))) (pe_lst pa_nil) (nomark _)))))) pss_nil)
  (pss_cons (ps_if (pt_cmpR op_isNW (pv 1) pe_non (nomark _)) (pss_one (ps_ret (pe_cmpR op_isNW (pv 0) pe_non (nomark _)))) pss_nil)
  (pss_cons (ps_if (pt_val (pe_callB (id := "isinstance") (r := rIsi K) call_isi (by rfl) Z.isinstance (by decide +kernel) (pa_cons (pv 1) (pa_cons (pe_bltn (v := .ty "str") (u := .type "str") rfl Z.str (by decide +kernel) rfl) pa_nil))) (fun _ => rfl)) (pss_one (ps_ret (pe_and (pe_callB (id := "isinstance") (r := rIsi K) call_isi (by rfl) Z.isinstance (by decide +kernel) (pa_cons (pv 0) (pa_cons (pe_bltn (v := .ty "str") (u := .type "str") rfl Z.str (by decide +kernel) rfl) pa_nil))) (pe_one (pe_cmpR op_eq (pv 0) (pv 1) (nomark _)))))) pss_nil)
  (pss_cons (ps_if (PW.pt (pw_or (pt_val (pe_callB (id := "isinstance") (r := rIsi K) call_isi (by rfl) Z.isinstance (by decide +kernel) (pa_cons (pv 1) (pa_cons (pe_bltn (v := .ty "bool") (u := .type "bool") rfl Z.bool (by decide +kernel) rfl) pa_nil))) (fun _ => rfl)) (pw_or1 (pt_val (pe_callB (id := "isinstance") (r := rIsi K) call_isi (by rfl) Z.isinstance (by decide +kernel) (pa_cons (pv 0) (pa_cons (pe_bltn (v := .ty "bool") (u := .type "bool") rfl Z.bool (by decide +kernel) rfl) pa_nil))) (fun _ => rfl))))) (pss_one (ps_ret (pe_and (pe_callB (id := "isinstance") (r := rIsi K) call_isi (by rfl) Z.isinstance (by decide +kernel) (pa_cons (pv 1) (pa_cons (pe_bltn (v := .ty "bool") (u := .type "bool") rfl Z.bool (by decide +kernel) rfl) pa_nil))) (pe_and (pe_callB (id := "isinstance") (r := rIsi K) call_isi (by rfl) Z.isinstance (by decide +kernel) (pa_cons (pv 0) (pa_cons (pe_bltn (v := .ty "bool") (u := .type "bool") rfl Z.bool (by decide +kernel) rfl) pa_nil))) (pe_one (pe_cmpR op_eq (pv 0) (pv 1) (nomark _))))))) pss_nil)
  (pss_one (ps_ret (pe_and (pe_callB (id := "isinstance") (r := rIsi K) call_isi (by rfl) Z.isinstance (by decide +kernel) (pa_cons (pv 0) (pa_cons (pe_bltn (v := .ty "int") (u := .type "int") rfl Z.int (by decide +kernel) rfl) pa_nil))) (pe_one (pe_cmpR op_eq (pv 0) (pv 1) (nomark _)))))))))), ?_⟩
  walk_at "st"
  cases h with
  | int _ i =>
    walk_at "wk"
    refine w_isiT (by walk_at "hp") two_cls ty_int (kit2 (show kitB "int" "tuple" = some false by decide +kernel) (show kitB "int" "list" = some false by decide +kernel) rfl) ?_
    walk_at "wk"
    refine w_isf (decide_eq_false (by intro e; cases e)) ?_
    walk_at "wk"
    refine w_isi ty_int (show kitB "int" "str" = some false by decide +kernel) ?_
    walk_at "wk"
    refine w_isi ty_int (show kitB "int" "bool" = some false by decide +kernel) ?_
    walk_at "wk"
    refine w_isi ty_int (show kitB "int" "bool" = some false by decide +kernel) ?_
    walk_at "wk"
    refine w_isi ty_int (show kitB "int" "int" = some true by decide +kernel) ?_
    walk_at "wk"
    exact qbl (k _ (by walk_at "fr")) (by simp)
  | str _ z =>
    walk_at "wk"
    refine w_isiT (by walk_at "hp") two_cls ty_str (kit2 (show kitB "str" "tuple" = some false by decide +kernel) (show kitB "str" "list" = some false by decide +kernel) rfl) ?_
    walk_at "wk"
    refine w_isf (decide_eq_false (by intro e; cases e)) ?_
    walk_at "wk"
    refine w_isi ty_str (show kitB "str" "str" = some true by decide +kernel) ?_
    walk_at "wk"
    refine w_isi ty_str (show kitB "str" "str" = some true by decide +kernel) ?_
    walk_at "wk"
    exact qbl (k _ (by walk_at "fr")) (by simp)
  | bl _ z =>
    walk_at "wk"
    refine w_isiT (by walk_at "hp") two_cls ty_bl (kit2 (show kitB "bool" "tuple" = some false by decide +kernel) (show kitB "bool" "list" = some false by decide +kernel) rfl) ?_
    walk_at "wk"
    refine w_isf (decide_eq_false (by intro e; cases e)) ?_
    walk_at "wk"
    refine w_isi ty_bl (show kitB "bool" "str" = some false by decide +kernel) ?_
    walk_at "wk"
    refine w_isi ty_bl (show kitB "bool" "bool" = some true by decide +kernel) ?_
    walk_at "wk"
    refine w_isi ty_bl (show kitB "bool" "bool" = some true by decide +kernel) ?_
    walk_at "wk"
    refine w_isi ty_bl (show kitB "bool" "bool" = some true by decide +kernel) ?_
    walk_at "wk"
    exact qbl (k _ (by walk_at "fr")) (by simp)
  | tup _ a b xs ys ha hb hl hz h =>
    walk_at "wk"
    refine w_isiT (by walk_at "hp") two_cls (ty_tup (by walk_at "hp")) (kit2 (show kitB "tuple" "tuple" = some true by decide +kernel) (show kitB "tuple" "list" = some false by decide +kernel) rfl) ?_
    walk_at "wk"
    refine w_isiT (by walk_at "hp") two_cls (ty_tup (by walk_at "hp")) (kit2 (show kitB "tuple" "tuple" = some true by decide +kernel) (show kitB "tuple" "list" = some false by decide +kernel) rfl) ?_
    walk_at "wk"
    refine w_isi (ty_tup (by walk_at "hp")) (show kitB "tuple" "list" = some false by decide +kernel) ?_
    walk_at "wk"
    refine w_isi (ty_tup (by walk_at "hp")) (show kitB "tuple" "list" = some false by decide +kernel) ?_
    walk_at "wk"
    refine w_isf (by rw [hl]; simp) ?_
    walk_at "wk"
    rename_i p1 H1 n1 f1 g1 p2 H2 n2 f2 g2
    have f0 : Fr [] H H2 := by walk_at "fr"
    refine lcR (fun D i acc H' => acc = [] ∧ Fr [D] H2 H') (fun D H' hD f g => ⟨rfl, f.nil⟩) (fun D i acc H' hD hlt hac hA ⟨e, f⟩ => ?_) (fun D acc H' hD hA hn ⟨e, f⟩ => ?_)
    · have hx : xs[i]? = some xs[i] := List.getElem?_eq_getElem (by omega)
      have hy : ys[i]? = some ys[i] := List.getElem?_eq_getElem (by omega)
      walk_at "wk"
      refine w_ixS2 (SqT.of (f.gett (f0.gett ha))) (atI_n (by simp) hx) ?_
      walk_at "wk"
      refine w_ixS2 (SqT.of (f.gett (f0.gett hb))) (atI_n (by simp) hy) ?_
      walk_at "wk"
      have al := h i xs[i] ys[i] hx hy
      refine ⟨Nat.le_add_left 1 _, u_same (n := _) (fr_ald hD f (al.mono f0)) (fun H4 f4 => ?_)⟩
      walk_at "wk"
      subst e
      exact lcN (f4.getl (by simp) hA) (Nat.zero_le _) ⟨rfl, by walk_at "fr"⟩
    · subst e
      walk_at "wk"
      rename_i p3 H3 n3 f3 g3
      refine w_eqD (.lst (SqL.of (f3.getl (by simp) hA)) .nil) (.lst (SqL.of g3) .nil) rfl rfl ?_
      exact qbl (k _ (f0.trans ((f.drop hD).trans f3))) (by decide)
  | lst _ a b xs ys ha hb hl hz h =>
    walk_at "wk"
    refine w_isiT (by walk_at "hp") two_cls (ty_lst (by walk_at "hp")) (kit2 (show kitB "list" "tuple" = some false by decide +kernel) (show kitB "list" "list" = some true by decide +kernel) rfl) ?_
    walk_at "wk"
    refine w_isiT (by walk_at "hp") two_cls (ty_lst (by walk_at "hp")) (kit2 (show kitB "list" "tuple" = some false by decide +kernel) (show kitB "list" "list" = some true by decide +kernel) rfl) ?_
    walk_at "wk"
    refine w_isi (ty_lst (by walk_at "hp")) (show kitB "list" "list" = some true by decide +kernel) ?_
    walk_at "wk"
    refine w_isi (ty_lst (by walk_at "hp")) (show kitB "list" "list" = some true by decide +kernel) ?_
    walk_at "wk"
    refine w_isf (by rw [hl]; simp) ?_
    walk_at "wk"
    rename_i p1 H1 n1 f1 g1 p2 H2 n2 f2 g2
    have f0 : Fr [] H H2 := by walk_at "fr"
    refine lcR (fun D i acc H' => acc = [] ∧ Fr [D] H2 H') (fun D H' hD f g => ⟨rfl, f.nil⟩) (fun D i acc H' hD hlt hac hA ⟨e, f⟩ => ?_) (fun D acc H' hD hA hn ⟨e, f⟩ => ?_)
    · have hx : xs[i]? = some xs[i] := List.getElem?_eq_getElem (by omega)
      have hy : ys[i]? = some ys[i] := List.getElem?_eq_getElem (by omega)
      walk_at "wk"
      refine w_ixS1 (SqL.of (f.getl (ni1 (nn_l hD (f0.get0 ha)).symm) (f0.get0 ha))) (atI_n (by simp) hx) ?_
      walk_at "wk"
      refine w_ixS1 (SqL.of (f.getl (ni1 (nn_l hD (f0.get0 hb)).symm) (f0.get0 hb))) (atI_n (by simp) hy) ?_
      walk_at "wk"
      have al := h i xs[i] ys[i] hx hy
      refine ⟨Nat.le_add_left 1 _, u_same (n := _) (fr_ald hD f (al.mono f0)) (fun H4 f4 => ?_)⟩
      walk_at "wk"
      subst e
      exact lcN (f4.getl (by simp) hA) (Nat.zero_le _) ⟨rfl, by walk_at "fr"⟩
    · subst e
      walk_at "wk"
      rename_i p3 H3 n3 f3 g3
      refine w_eqD (.lst (SqL.of (f3.getl (by simp) hA)) .nil) (.lst (SqL.of g3) .nil) rfl rfl ?_
      exact qbl (k _ (f0.trans ((f.drop hD).trans f3))) (by decide)
end
end My
namespace My
open PySem L2 Wk
local macro_rules | `(tactic| walk_at "hs") => `(tactic| first
  | assumption
  | (apply fr_st0; (case f => assumption); (case h => walk_at "hs"))
  | (apply fr_st1; (case f => assumption); (case n => walk_at "ne"); (case hw => first | assumption | exact List.mem_cons_self); (case h => walk_at "hs"))
  | fail "none")
local macro_rules | `(tactic| walk_at "nn") => `(tactic| first
  | (apply nn_st; (case n => assumption); (case h => walk_at "hs"))
  | (apply nn_l; (case n => assumption); (case h => walk_at "hp"))
  | (apply nn_d; (case n => assumption); (case h => walk_at "hp"))
  | (apply nn_i; (case n => assumption); (case h => walk_at "hp"))
  | fail "none")
local macro_rules | `(tactic| walk_at "su") => `(tactic| first
  | assumption
  | (apply fr_su; (case f => assumption); (case h => walk_at "su"))
  | fail "none")
local macro_rules | `(tactic| walk_at "as") => `(tactic| first
  | assumption
  | (apply fr_as; (case f => assumption); (case h => walk_at "as"))
  | fail "none")
local macro_rules | `(tactic| walk_at "ef") => `(tactic| first
  | assumption
  | (apply fr_ef0; (case f => assumption); (case h => walk_at "ef"))
  | (apply fr_ef; (case f => assumption); (case n1 => walk_at "ni"); (case n2 => walk_at "ni"); (case n3 => walk_at "ni"); (case h => walk_at "ef"))
  | fail "none")
local macro_rules | `(tactic| walk_at "td") => `(tactic| first
  | assumption
  | (apply fr_td0; (case f => assumption); (case h => walk_at "td"))
  | (apply fr_td; (case f => assumption); (case n1 => walk_at "ni"); (case n2 => walk_at "ni"); (case n3 => walk_at "ni"); (case h => walk_at "td"))
  | fail "none")
local macro_rules | `(tactic| walk_at "sk") => `(tactic| first
  | assumption
  | (apply fr_stk; (case f => assumption); (case a => walk_at "sk"))
  | fail "none")
local macro_rules | `(tactic| walk_at "al") => `(tactic| first
  | assumption
  | (apply fr_al; (case f => assumption); (case h => walk_at "al"))
  | fail "none")
local macro_rules | `(tactic| walk_at "nv") => `(tactic| first
  | assumption
  | (apply fr_nv; (case a => assumption); (case n => walk_at "ni"); (case h => walk_at "nv"))
  | fail "none")
local macro_rules | `(tactic| walk_at "ne") => `(tactic| first
  | assumption
  | (apply Ne.symm; assumption)
  | walk_at "nn"
  | (apply Ne.symm; walk_at "nn")
  | fail "none")
local macro_rules | `(tactic| walk_at "ni") => `(tactic| first
  | exact List.not_mem_nil
  | (apply ni1; walk_at "ne")
  | (apply ni2 <;> walk_at "ne")
  | (apply ni3 <;> walk_at "ne")
  | fail "none")
local macro_rules | `(tactic| walk_at "hp") => `(tactic| first
  | assumption
  | (apply Fr.gett; (case a => assumption); (case h => walk_at "hp"))
  | (apply Fr.getl; (case a => assumption); (case n => walk_at "ni"); (case h => walk_at "hp"))
  | (apply Fr.getd; (case a => assumption); (case n => walk_at "ni"); (case h => walk_at "hp"))
  | (apply Fr.geti; (case a => assumption); (case n => walk_at "ni"); (case h => walk_at "hp"))
  | fail "none")
local macro_rules | `(tactic| walk_at "sqs") => `(tactic| first
  | assumption
  | (apply Fr.sqln; (case a => assumption); (case n => walk_at "ni"); (case h => walk_at "sqs"))
  | fail "none")
local macro_rules | `(tactic| walk_at "sq") => `(tactic| first
  | assumption
  | (apply SqL.of; walk_at "hp")
  | (apply SqT.of; walk_at "hp")
  | walk_at "sqs"
  | fail "none")
local macro_rules | `(tactic| walk_at "fr") => `(tactic| first
  | exact Fr.refl
  | assumption
  | (apply Fr.mono; (case a => assumption); (case h => simp))
  | (apply fr_last; (case f => assumption); (case w => simp); (case g => walk_at "fr"))
  | fail "none")
local macro_rules | `(tactic| walk_at "st") => `(tactic| ((try dsimp only [cxOf, Cx.nox, Cx.wish]); (try simp only [L2.start, List.map_cons, List.map_nil, List.length_cons, List.length_nil, List.replicate, List.cons_append, List.nil_append, Nat.reduceAdd, Nat.reduceSub])))
local macro_rules | `(tactic| walk_at "lset") => `(tactic| (simp only [wipe, List.map_cons, List.map_nil, Int.reduceToNat, List.set_cons_zero, List.set_cons_succ] <;> rfl))
local macro_rules | `(tactic| walk_at "wk1") => `(tactic| first
  | with_reducible refine' w_seq ?_
  | with_reducible refine' w_asg ?_
  | ((with_reducible refine' w_name ?hs ?_); (case hs => walk_at "lset"))
  | ((with_reducible refine' w_var ?hv ?_); (case hv => rfl))
  | with_reducible refine' w_c ?_
  | with_reducible refine' w_op ?_
  | with_reducible refine' w_un ?_
  | with_reducible refine' w_test ?_
  | with_reducible refine' w_tB ?_
  | with_reducible refine' w_exbl ?_
  | with_reducible refine' w_exint ?_
  | with_reducible refine' w_t ?_
  | with_reducible refine' w_f ?_
  | with_reducible refine' w_ifS ?_
  | with_reducible refine' w_if ?_
  | with_reducible refine' w_and ?_
  | with_reducible refine' w_or ?_
  | with_reducible refine' w_not ?_
  | with_reducible refine' w_andV ?_
  | with_reducible refine' w_orV ?_
  | with_reducible refine' w_notV ?_
  | with_reducible refine' w_ret ?_
  | with_reducible refine' w_retN ?_
  | with_reducible refine' w_drop ?_
  | with_reducible refine' w_next ?_
  | with_reducible refine' w_nil ?_
  | with_reducible refine' w_cons ?_
  | with_reducible refine' w_cb ?_
  | with_reducible refine' w_call ?_
  | with_reducible refine' w_gsub ?_
  | with_reducible refine' w_gnil ?_
  | with_reducible refine' w_gcons ?_
  | ((with_reducible refine' w_gtup ?hs ?hn ?_); (case hs => walk_at "sq"); (case hn => rfl))
  | with_reducible refine' w_fld ?_
  | with_reducible refine' w_tfld ?_
  | with_reducible refine' w_sl ?_
  | with_reducible refine' w_nopart ?_
  | with_reducible refine' w_part ?_
  | with_reducible refine' w_bm ?_
  | with_reducible refine' w_bm0 ?_
  | with_reducible refine' w_yes ?_
  | with_reducible refine' w_tup ?_
  | with_reducible refine' w_lst ?_
  | with_reducible refine' w_I0 ?_
  | ((with_reducible refine' w_I ?hc ?_); (case hc => (first | (show (0 : Int) < _; first | decide | omega | assumption) | exact wide_div (by first | assumption | decide) (b := 200) (by first | assumption | decide) (by decide) (by decide) | exact wide_mul (a := 64) (b := 64) (by omega) (by omega) (by decide) (by decide) (by decide) | exact ⟨by decide, by decide, by decide⟩)))
  | ((with_reducible refine' w_eq ?he ?_); (case he => rfl))
  | ((with_reducible refine' w_ne ?he ?_); (case he => rfl))
  | ((with_reducible refine' w_ixL ?hs ?ha ?_); (case hs => walk_at "sq"); (case ha => rfl))
  | ((with_reducible refine' w_ixT ?hs ?ha ?_); (case hs => walk_at "sq"); (case ha => rfl))
  | ((with_reducible refine' w_lenL ?hs ?he ?_); (case hs => walk_at "sq"); (case he => first | (simp only [List.length_cons, List.length_nil, List.length_map]; rfl) | rfl))
  | ((with_reducible refine' w_lenT ?hs ?he ?_); (case hs => walk_at "sq"); (case he => first | (simp only [List.length_cons, List.length_nil, List.length_map]; rfl) | rfl))
  | ((with_reducible refine' w_setL ?hh ?hk ?he (fun H1 f1 g1 => ?_)); (case hh => walk_at "hp"); (case hk => rfl); (case he => walk_at "lset"))
  | ((with_reducible refine' w_newT ?hl (fun p H1 n1 f1 g1 => ?_)); (case hl => (first | decide | (simp only [List.length_cons, List.length_nil]; decide))))
  | ((with_reducible refine' w_newL ?hl (fun p H1 n1 f1 g1 => ?_)); (case hl => (first | decide | (simp only [List.length_cons, List.length_nil]; decide))))
  | with_reducible refine' w_for ?_
  | with_reducible refine' w_ilist ?_
  | ((with_reducible refine' w_ilb ?hs ?_); (case hs => walk_at "sq"))
  | with_reducible refine' w_itup ?_
  | ((with_reducible refine' w_itb ?hs ?_); (case hs => walk_at "sq"))
  | with_reducible refine' w_rng1 ?_
  | ((with_reducible refine' w_rgb1 ?h0 ?h1 ?_); (case h0 => first | decide | omega); (case h1 => first | decide | omega))
  | with_reducible refine' w_lc ?_
  | ((with_reducible refine' w_wipe ?hw ?_); (case hw => rfl))
  | ((with_reducible refine' w_cat ?ha ?hb ?hl (fun p H1 n1 f1 g1 => ?_)); (case ha => walk_at "hp"); (case hb => walk_at "hp"); (case hl => (first | decide | (simp only [List.length_cons, List.length_nil]; decide))))
  | with_reducible refine' w_dget ?_
  | with_reducible refine' w_din ?_
  | with_reducible refine' w_dnotin ?_
  | with_reducible refine' w_dput ?_
  | with_reducible refine' w_dnew ?_
  | with_reducible refine' w_newD (fun p H1 n1 f1 g1 => ?_)
  | ((with_reducible refine' w_slT ?hs ?hn ?he (fun p H1 n1 f1 g1 => ?_)); (case hs => walk_at "sq"); (case hn => decide); (case he => rfl))
  | with_reducible refine' w_meth ?_
  | with_reducible refine' w_make ?_
  | with_reducible refine' w_mkb (fun x dx H1 n1 m1 d1 f1 g1 => ?_)
  | with_reducible refine' w_fldaug ?_
  | with_reducible refine' w_tru ?_
  | ((with_reducible refine' w_trl ?hh ?_); (case hh => walk_at "hp"))
  | with_reducible refine' w_whb ?_
  | with_reducible refine' w_chain ?_
  | with_reducible refine' w_tyIs ?_
  | with_reducible refine' w_raise ?_
  | with_reducible refine' w_rab ?_
  | with_reducible refine' w_jn ?_
  | with_reducible refine' w_js ?_
  | with_reducible refine' w_jsn ?_
  | with_reducible refine' w_fmt ?_
  | with_reducible refine' w_isN ?_
  | with_reducible refine' w_intB ?_
  | with_reducible refine' w_istr ?_
  | with_reducible refine' w_stb ?_
  | ((with_reducible refine' w_inT ?hs ?hx ?ha ?_); (case hs => walk_at "sq"); (case hx => rfl); (case ha => rfl))
  | ((with_reducible refine' w_isf ?hd ?_); (case hd => decide +kernel))
  | ((with_reducible refine' w_ist ?hd ?_); (case hd => decide +kernel))
  | with_reducible refine' w_enumT ?_
  | ((with_reducible refine' w_enb ?hs ?_); (case hs => walk_at "sq"))
  | with_reducible refine' w_star ?_
  | ((with_reducible refine' w_stT ?hs ?_); (case hs => walk_at "sq"))
  | ((with_reducible refine' w_stL ?hs ?_); (case hs => walk_at "sq"))
  | with_reducible refine' w_par ?_
  | ((with_reducible refine' w_parb ?he ?_); (case he => walk_at "lset"))
  | with_reducible refine' w_enumL ?_
  | ((with_reducible refine' w_enlb ?hs ?_); (case hs => walk_at "sq"))
  | with_reducible refine' w_revL ?_
  | ((with_reducible refine' w_revb ?hs (fun p H1 n1 f1 g1 => ?_)); (case hs => walk_at "sq"))
  | with_reducible refine' w_max2 ?_
  | with_reducible refine' w_min2 ?_
  | with_reducible refine' w_lrg2 ?_
  | with_reducible refine' w_scI ?_
  | fail "none")
local macro_rules | `(tactic| walk_at "wk") => `(tactic| repeat walk_at "wk1")

section
variable {P : Program} {w : World} {K : PySem.W.Frag} {mg : Str → Option Value} {base : Heap} {f : Addr} {fd : FuncData}
theorem sc_law_sum : FnScope ["_law_state", "_law_deep", "_law_room", "_law_way", "_law_few", "_law_some", "_law_one"] ["_law_state", "_law_deep", "_law_room"] (defScope s_law_sum) := ⟨rfl, rfl, rfl, by decide +kernel, rfl, by decide +kernel, by decide +kernel⟩
theorem ok_sum {n : Nat} (F : Fun K "_law_sum" "_law_sum" s_law_sum f fd) (Z : Blt mg) (D_law_drawn : Df P w K mg base CX0 1 "_law_drawn" ["_law_state", "_law_many"] (spDrawn K))
    (D_law_sum : Df P w K mg base CX0 (n + 1) "_law_sum" ["_law_state", "_law_deep", "_law_room"] (spSumD K n)) : FnOk P w K mg base CX0 (n + 2) f fd ["_law_state", "_law_deep", "_law_room"] (spSum K (n + 1)) := by
  refine F.ok sc_law_sum (fun vs H Q E h => ?_) (fun cdv A outer s H vs Q E hr h => ?_)
  · obtain ⟨Ws, st, rm, d, r, rfl, _⟩ := h
    rfl
  obtain ⟨Ws, st, rm, d, r, rfl, hst, hw, hrm, hr1, hr2, hd, k⟩ := h
  have ne : st ≠ rm := hst.ne hrm (by simp)
  refine ⟨_, (pss_cons (ps_asg (pe_op op_sub (pe_ix (r := rIxL K) ix_list (pv 2) pe_int (fun _ _ => rfl)) pe_int) (pg_sub (pv 2) pe_int set_list))
  (pss_cons (ps_set (i := 3) sc_law_sum.nd rfl (Or.inl rfl) (pe_df D_law_drawn hr (by first | decide | omega) (pa_cons (pv 0) (pa_cons pe_int pa_nil))))
  (pss_cons (ps_if (PW.pt (pw_or (pt_cmpR op_lt (pv 1) pe_int (nomark _)) (pw_or (pt_cmpR op_lt (pe_ix (r := rIxL K) ix_list (pv 2) pe_int (fun _ _ => rfl)) pe_int (nomark _)) (pw_or1 (pt_cmpR op_lt (pv 3) pe_int (nomark _)))))) (pss_cons (ps_set (i := 4) sc_law_sum.nd rfl (Or.inl rfl) (pe_ix (r := rIxL K) ix_list (pe_lst (pa_cons pe_int (pa_cons pe_int pa_nil))) (pe_df D_law_drawn hr (by first | decide | omega) (pa_cons (pv 0) (pa_cons pe_int pa_nil))) (fun _ _ => rfl)))
  (pss_cons (ps_set (i := 5) sc_law_sum.nd rfl (Or.inl rfl) (pe_lst (pa_cons (pe_tup (pa_cons pe_str (pa_cons (pe_df D_law_drawn hr (by first | decide | omega) (pa_cons (pv 0) (pa_cons (pv 4) pa_nil))) pa_nil))) (pa_cons (pe_tup (pa_cons pe_str (pa_cons (pe_ix (r := rIxS) ix_str pe_str (pe_df D_law_drawn hr (by first | decide | omega) (pa_cons (pv 0) (pa_cons (pe_ix (r := rIxL K) ix_list (pe_lst (pa_cons pe_int (pa_cons pe_int pa_nil))) (pe_df D_law_drawn hr (by first | decide | omega) (pa_cons (pv 0) (pa_cons pe_int pa_nil))) (fun _ _ => rfl)) pa_nil))) (fun _ _ => rfl)) pa_nil))) pa_nil))))
  (pss_one (ps_ret (pe_ix (r := rIxL K) ix_list (pe_op op_cat (pv 5) (pe_lst (pa_cons (pe_tup (pa_cons pe_str pa_nil)) (pa_cons (pe_tup (pa_cons pe_str (pa_cons pe_str pa_nil))) pa_nil)))) (pe_df D_law_drawn hr (by first | decide | omega) (pa_cons (pv 0) (pa_cons pe_int pa_nil))) (fun _ _ => rfl)))))) pss_nil)
  (pss_cons (ps_if (pt_cmpR op_eq (pv 3) pe_int (nomark _)) (pss_one (ps_ret (pe_tup (pa_cons pe_str (pa_cons (pe_df D_law_sum hr (by first | decide | omega) (pa_cons (pv 0) (pa_cons (pe_op op_sub (pv 1) pe_int) (pa_cons (pv 2) pa_nil)))) pa_nil))))) pss_nil)
  (pss_cons (ps_asg (pe_op op_sub (pe_ix (r := rIxL K) ix_list (pv 2) pe_int (fun _ _ => rfl)) pe_int) (pg_sub (pv 2) pe_int set_list))
  (pss_cons (ps_set (i := 6) sc_law_sum.nd rfl (Or.inl rfl) (pe_df D_law_sum hr (by first | decide | omega) (pa_cons (pv 0) (pa_cons (pe_op op_sub (pe_op op_sub (pv 1) pe_int) (pe_ix (r := rIxL K) ix_list (pe_lst (pa_cons pe_int (pa_cons pe_int (pa_cons pe_int pa_nil)))) (pe_df D_law_drawn hr (by first | decide | omega) (pa_cons (pv 0) (pa_cons pe_int pa_nil))) (fun _ _ => rfl))) (pa_cons (pv 2) pa_nil)))))
  (pss_cons (ps_asg (pe_op op_add (pe_ix (r := rIxL K) ix_list (pv 2) pe_int (fun _ _ => rfl)) pe_int) (pg_sub (pv 2) pe_int set_list))
  (pss_one (ps_ret (pe_tup (pa_cons (pe_ix (r := rIxL K) ix_list (pe_lst (pa_cons pe_str (pa_cons pe_str (pa_cons pe_str pa_nil)))) (pe_op op_mod (pv 3) pe_int) (fun _ _ => rfl)) (pa_cons (pv 6) (pa_cons (pe_df D_law_sum hr (by first | decide | omega) (pa_cons (pv 0) (pa_cons (pe_op op_sub (pe_op op_sub (pv 1) pe_int) (pe_ix (r := rIxL K) ix_list (pe_lst (pa_cons pe_int (pa_cons pe_int (pa_cons pe_int pa_nil)))) (pe_df D_law_drawn hr (by first | decide | omega) (pa_cons (pv 0) (pa_cons pe_int pa_nil))) (fun _ _ => rfl))) (pa_cons (pv 2) pa_nil)))) pa_nil))))))))))))), ?_⟩
  walk_at "st"
  walk_at "wk"
  refine u_drawn (by walk_at "hs") (by decide) (by decide) (fun way H2 w0 w1 s2 f2 => ?_)
  walk_at "wk1"
  walk_at "wk1"
  refine w_ifS2 (fun H1 => StAt K Ws H1 st ∧ H1 rm = some (.lst [.int (r - 1)]) ∧ Fr [st, rm] H H1) ?leaf (fun leaf => ?_)
  case leaf =>
    rintro H3 ⟨s3, r3, f3⟩
    walk_at "wk"
    refine u_drawn (by walk_at "hs") (by decide) (by decide) (fun v1 H4 a4 b4 s4 f4 => ?_)
    obtain ⟨few, e4, hfew⟩ := idx2 (a := 3) (b := 1000) a4 b4
    refine w_ixL (by walk_at "sq") e4 ?_
    walk_at "wk"
    refine u_drawn (by walk_at "hs") (by omega) (by omega) (fun v2 H5 a5 b5 s5 f5 => ?_)
    walk_at "wk"
    refine u_drawn (by walk_at "hs") (by decide) (by decide) (fun v3 H6 a6 b6 s6 f6 => ?_)
    obtain ⟨few2, e6, hfew2⟩ := idx2 (a := 2) (b := 6) a6 b6
    refine w_ixL (by walk_at "sq") e6 ?_
    walk_at "wk"
    refine u_drawn (by walk_at "hs") (by omega) (by omega) (fun v4 H7 a7 b7 s7 f7 => ?_)
    obtain ⟨c, e7, hc⟩ := letter_at a7 (by omega)
    walk_at "wk"
    refine w_ixS str_small e7 ?_
    walk_at "wk"
    refine u_drawn (by walk_at "hs") (by decide) (by decide) (fun v5 H8 a8 b8 s8 f8 => ?_)
    refine w_ix4 (by walk_at "sq") rfl a8 b8 ?_ ?_ ?_ ?_
    · exact k _ (.num v2) H8 ⟨_, rfl, by walk_at "hp"⟩ ⟨a5, by omega⟩ (.inr rfl) (by show ((1 : Nat) : Int) ≤ r; omega) (by show H8 rm = some (.lst [.int (r - 1)]); walk_at "hp") s8 (by walk_at "fr")
    · exact k _ (.name _) H8 ⟨_, rfl, by walk_at "hp"⟩ hc (.inr rfl) (by show ((1 : Nat) : Int) ≤ r; omega) (by show H8 rm = some (.lst [.int (r - 1)]); walk_at "hp") s8 (by walk_at "fr")
    · exact k _ .ask H8 ⟨_, rfl, by walk_at "hp"⟩ trivial (.inr rfl) (by show ((1 : Nat) : Int) ≤ r; omega) (by show H8 rm = some (.lst [.int (r - 1)]); walk_at "hp") s8 (by walk_at "fr")
    · exact k _ (.name "a") H8 ⟨_, rfl, by walk_at "hp"⟩ (show ("a" : Str) ∈ letters by decide +kernel) (.inr rfl) (by show ((1 : Nat) : Int) ≤ r; omega) (by show H8 rm = some (.lst [.int (r - 1)]); walk_at "hp") s8 (by walk_at "fr")
  walk_at "wk"
  refine w_iteD (fun c1 => leaf _ ⟨by walk_at "hs", by walk_at "hp", by walk_at "fr"⟩) (fun c1 => ?_)
  walk_at "wk"
  refine w_iteD (fun c2 => leaf _ ⟨by walk_at "hs", by walk_at "hp", by walk_at "fr"⟩) (fun c2 => ?_)
  walk_at "wk"
  refine w_iteD (fun c3 => leaf _ ⟨by walk_at "hs", by walk_at "hp", by walk_at "fr"⟩) (fun c3 => ?_)
  walk_at "wk"
  refine w_iteI (fun c4 => ?_) (fun c4 => ?_)
  · walk_at "wk"
    refine ⟨by omega, u_sum (by walk_at "hs") hw (by walk_at "hp") (by omega) (by omega) (by omega) (fun v s H3 q1 q2 q3 q4 q5 q6 f3 => ?_)⟩
    walk_at "wk"
    refine k _ (.say s) _ ⟨_, v, rfl, by walk_at "hp", by walk_at "su"⟩ q2 (.inl ?_) ?_ ?_ (by walk_at "hs") (by walk_at "fr")
    · show ((s.depth + 1 : Nat) : Int) ≤ d
      omega
    · show ((s.size + 1 : Nat) : Int) ≤ r
      omega
    · have e : r - ((Sm.say s).size : Int) = r - 1 - (s.size : Int) := by
        show r - ((s.size + 1 : Nat) : Int) = _
        omega
      rw [e]
      walk_at "hp"
  walk_at "wk"
  refine u_drawn (by walk_at "hs") (by decide) (by decide) (fun v1 H4 a4 b4 s4 f4 => ?_)
  obtain ⟨g, e4, hg⟩ := idx3i (a := 0) (b := 0) (c := 3) a4 b4
  refine w_ixL (by walk_at "sq") e4 ?_
  walk_at "wk"
  refine ⟨by omega, u_sum (by walk_at "hs") hw (by walk_at "hp") (by omega) (by omega) (by omega) (fun v s H5 q1 q2 q3 q4 q5 q6 f5 => ?_)⟩
  walk_at "wk"
  obtain ⟨o, e6⟩ := op3 (k := way % 3) (by omega) (by omega)
  refine w_ixL (by walk_at "sq") e6 ?_
  walk_at "wk"
  refine u_drawn (by walk_at "hs") (by decide) (by decide) (fun v2 H6 a6 b6 s6 f6 => ?_)
  obtain ⟨g2, e7, hg2⟩ := idx3i (a := 0) (b := 0) (c := 3) a6 b6
  refine w_ixL (by walk_at "sq") e7 ?_
  walk_at "wk"
  refine ⟨by omega, u_sum (by walk_at "hs") hw (by walk_at "hp") (by omega) (by omega) (by omega) (fun v' s' H7 q1' q2' q3' q4' q5' q6' f7 => ?_)⟩
  walk_at "wk"
  refine k _ (.bin o s s') _ ⟨_, v, v', rfl, by walk_at "hp", by walk_at "su", by walk_at "su"⟩ ⟨q2, q2'⟩ (.inl ?_) ?_ ?_ (by walk_at "hs") (by walk_at "fr")
  · have d1 : s.depth ≤ d.toNat - 1 := by omega
    have d2 : s'.depth ≤ d.toNat - 1 := by omega
    have d3 := depth_bin (o := o) d1 d2
    omega
  · show ((s.size + s'.size + 1 : Nat) : Int) ≤ r
    omega
  · have e : r - ((Sm.bin o s s').size : Int) = r - 1 - 1 - (s.size : Int) + 1 - (s'.size : Int) := by
      show r - ((s.size + s'.size + 1 : Nat) : Int) = _
      omega
    rw [e]
    walk_at "hp"
end
end My
namespace My
open PySem L2 Wk
local macro_rules | `(tactic| walk_at "hs") => `(tactic| first
  | assumption
  | (apply fr_st0; (case f => assumption); (case h => walk_at "hs"))
  | (apply fr_st1; (case f => assumption); (case n => walk_at "ne"); (case hw => first | assumption | exact List.mem_cons_self); (case h => walk_at "hs"))
  | fail "none")
local macro_rules | `(tactic| walk_at "nn") => `(tactic| first
  | (apply nn_st; (case n => assumption); (case h => walk_at "hs"))
  | (apply nn_l; (case n => assumption); (case h => walk_at "hp"))
  | (apply nn_d; (case n => assumption); (case h => walk_at "hp"))
  | (apply nn_i; (case n => assumption); (case h => walk_at "hp"))
  | fail "none")
local macro_rules | `(tactic| walk_at "su") => `(tactic| first
  | assumption
  | (apply fr_su; (case f => assumption); (case h => walk_at "su"))
  | fail "none")
local macro_rules | `(tactic| walk_at "as") => `(tactic| first
  | assumption
  | (apply fr_as; (case f => assumption); (case h => walk_at "as"))
  | fail "none")
local macro_rules | `(tactic| walk_at "ef") => `(tactic| first
  | assumption
  | (apply fr_ef0; (case f => assumption); (case h => walk_at "ef"))
  | (apply fr_ef; (case f => assumption); (case n1 => walk_at "ni"); (case n2 => walk_at "ni"); (case n3 => walk_at "ni"); (case h => walk_at "ef"))
  | fail "none")
local macro_rules | `(tactic| walk_at "td") => `(tactic| first
  | assumption
  | (apply fr_td0; (case f => assumption); (case h => walk_at "td"))
  | (apply fr_td; (case f => assumption); (case n1 => walk_at "ni"); (case n2 => walk_at "ni"); (case n3 => walk_at "ni"); (case h => walk_at "td"))
  | fail "none")
local macro_rules | `(tactic| walk_at "sk") => `(tactic| first
  | assumption
  | (apply fr_stk; (case f => assumption); (case a => walk_at "sk"))
  | fail "none")
local macro_rules | `(tactic| walk_at "al") => `(tactic| first
  | assumption
  | (apply fr_al; (case f => assumption); (case h => walk_at "al"))
  | fail "none")
local macro_rules | `(tactic| walk_at "nv") => `(tactic| first
  | assumption
  | (apply fr_nv; (case a => assumption); (case n => walk_at "ni"); (case h => walk_at "nv"))
  | fail "none")
local macro_rules | `(tactic| walk_at "ne") => `(tactic| first
  | assumption
  | (apply Ne.symm; assumption)
  | walk_at "nn"
  | (apply Ne.symm; walk_at "nn")
  | fail "none")
local macro_rules | `(tactic| walk_at "ni") => `(tactic| first
  | exact List.not_mem_nil
  | (apply ni1; walk_at "ne")
  | (apply ni2 <;> walk_at "ne")
  | (apply ni3 <;> walk_at "ne")
  | fail "none")
local macro_rules | `(tactic| walk_at "hp") => `(tactic| first
  | assumption
  | (apply Fr.gett; (case a => assumption); (case h => walk_at "hp"))
  | (apply Fr.getl; (case a => assumption); (case n => walk_at "ni"); (case h => walk_at "hp"))
  | (apply Fr.getd; (case a => assumption); (case n => walk_at "ni"); (case h => walk_at "hp"))
  | (apply Fr.geti; (case a => assumption); (case n => walk_at "ni"); (case h => walk_at "hp"))
  | fail "none")
local macro_rules | `(tactic| walk_at "sqs") => `(tactic| first
  | assumption
  | (apply Fr.sqln; (case a => assumption); (case n => walk_at "ni"); (case h => walk_at "sqs"))
  | fail "none")
local macro_rules | `(tactic| walk_at "sq") => `(tactic| first
  | assumption
  | (apply SqL.of; walk_at "hp")
  | (apply SqT.of; walk_at "hp")
  | walk_at "sqs"
  | fail "none")
local macro_rules | `(tactic| walk_at "fr") => `(tactic| first
  | exact Fr.refl
  | assumption
  | (apply Fr.mono; (case a => assumption); (case h => simp))
  | (apply fr_last; (case f => assumption); (case w => simp); (case g => walk_at "fr"))
  | fail "none")
local macro_rules | `(tactic| walk_at "st") => `(tactic| ((try dsimp only [cxOf, Cx.nox, Cx.wish]); (try simp only [L2.start, List.map_cons, List.map_nil, List.length_cons, List.length_nil, List.replicate, List.cons_append, List.nil_append, Nat.reduceAdd, Nat.reduceSub])))
local macro_rules | `(tactic| walk_at "lset") => `(tactic| (simp only [wipe, List.map_cons, List.map_nil, Int.reduceToNat, List.set_cons_zero, List.set_cons_succ] <;> rfl))
local macro_rules | `(tactic| walk_at "wk1") => `(tactic| first
  | with_reducible refine' w_seq ?_
  | with_reducible refine' w_asg ?_
  | ((with_reducible refine' w_name ?hs ?_); (case hs => walk_at "lset"))
  | ((with_reducible refine' w_var ?hv ?_); (case hv => rfl))
  | with_reducible refine' w_c ?_
  | with_reducible refine' w_op ?_
  | with_reducible refine' w_un ?_
  | with_reducible refine' w_test ?_
  | with_reducible refine' w_tB ?_
  | with_reducible refine' w_exbl ?_
  | with_reducible refine' w_exint ?_
  | with_reducible refine' w_t ?_
  | with_reducible refine' w_f ?_
  | with_reducible refine' w_ifS ?_
  | with_reducible refine' w_if ?_
  | with_reducible refine' w_and ?_
  | with_reducible refine' w_or ?_
  | with_reducible refine' w_not ?_
  | with_reducible refine' w_andV ?_
  | with_reducible refine' w_orV ?_
  | with_reducible refine' w_notV ?_
  | with_reducible refine' w_ret ?_
  | with_reducible refine' w_retN ?_
  | with_reducible refine' w_drop ?_
  | with_reducible refine' w_next ?_
  | with_reducible refine' w_nil ?_
  | with_reducible refine' w_cons ?_
  | with_reducible refine' w_cb ?_
  | with_reducible refine' w_call ?_
  | with_reducible refine' w_gsub ?_
  | with_reducible refine' w_gnil ?_
  | with_reducible refine' w_gcons ?_
  | ((with_reducible refine' w_gtup ?hs ?hn ?_); (case hs => walk_at "sq"); (case hn => rfl))
  | with_reducible refine' w_fld ?_
  | with_reducible refine' w_tfld ?_
  | with_reducible refine' w_sl ?_
  | with_reducible refine' w_nopart ?_
  | with_reducible refine' w_part ?_
  | with_reducible refine' w_bm ?_
  | with_reducible refine' w_bm0 ?_
  | with_reducible refine' w_yes ?_
  | with_reducible refine' w_tup ?_
  | with_reducible refine' w_lst ?_
  | with_reducible refine' w_I0 ?_
  | ((with_reducible refine' w_I ?hc ?_); (case hc => (first | (show (0 : Int) < _; first | decide | omega | assumption) | exact wide_div (by first | assumption | decide) (b := 200) (by first | assumption | decide) (by decide) (by decide) | exact wide_mul (a := 64) (b := 64) (by omega) (by omega) (by decide) (by decide) (by decide) | exact ⟨by decide, by decide, by decide⟩)))
  | ((with_reducible refine' w_eq ?he ?_); (case he => rfl))
  | ((with_reducible refine' w_ne ?he ?_); (case he => rfl))
  | ((with_reducible refine' w_ixL ?hs ?ha ?_); (case hs => walk_at "sq"); (case ha => rfl))
  | ((with_reducible refine' w_ixT ?hs ?ha ?_); (case hs => walk_at "sq"); (case ha => rfl))
  | ((with_reducible refine' w_lenL ?hs ?he ?_); (case hs => walk_at "sq"); (case he => first | (simp only [List.length_cons, List.length_nil, List.length_map]; rfl) | rfl))
  | ((with_reducible refine' w_lenT ?hs ?he ?_); (case hs => walk_at "sq"); (case he => first | (simp only [List.length_cons, List.length_nil, List.length_map]; rfl) | rfl))
  | ((with_reducible refine' w_setL ?hh ?hk ?he (fun H1 f1 g1 => ?_)); (case hh => walk_at "hp"); (case hk => rfl); (case he => walk_at "lset"))
  | ((with_reducible refine' w_newT ?hl (fun p H1 n1 f1 g1 => ?_)); (case hl => (first | decide | (simp only [List.length_cons, List.length_nil]; decide))))
  | ((with_reducible refine' w_newL ?hl (fun p H1 n1 f1 g1 => ?_)); (case hl => (first | decide | (simp only [List.length_cons, List.length_nil]; decide))))
  | with_reducible refine' w_for ?_
  | with_reducible refine' w_ilist ?_
  | ((with_reducible refine' w_ilb ?hs ?_); (case hs => walk_at "sq"))
  | with_reducible refine' w_itup ?_
  | ((with_reducible refine' w_itb ?hs ?_); (case hs => walk_at "sq"))
  | with_reducible refine' w_rng1 ?_
  | ((with_reducible refine' w_rgb1 ?h0 ?h1 ?_); (case h0 => first | decide | omega); (case h1 => first | decide | omega))
  | with_reducible refine' w_lc ?_
  | ((with_reducible refine' w_wipe ?hw ?_); (case hw => rfl))
  | ((with_reducible refine' w_cat ?ha ?hb ?hl (fun p H1 n1 f1 g1 => ?_)); (case ha => walk_at "hp"); (case hb => walk_at "hp"); (case hl => (first | decide | (simp only [List.length_cons, List.length_nil]; decide))))
  | with_reducible refine' w_dget ?_
  | with_reducible refine' w_din ?_
  | with_reducible refine' w_dnotin ?_
  | with_reducible refine' w_dput ?_
  | with_reducible refine' w_dnew ?_
  | with_reducible refine' w_newD (fun p H1 n1 f1 g1 => ?_)
  | ((with_reducible refine' w_slT ?hs ?hn ?he (fun p H1 n1 f1 g1 => ?_)); (case hs => walk_at "sq"); (case hn => decide); (case he => rfl))
  | with_reducible refine' w_meth ?_
  | with_reducible refine' w_make ?_
  | with_reducible refine' w_mkb (fun x dx H1 n1 m1 d1 f1 g1 => ?_)
  | with_reducible refine' w_fldaug ?_
  | with_reducible refine' w_tru ?_
  | ((with_reducible refine' w_trl ?hh ?_); (case hh => walk_at "hp"))
  | with_reducible refine' w_whb ?_
  | with_reducible refine' w_chain ?_
  | with_reducible refine' w_tyIs ?_
  | with_reducible refine' w_raise ?_
  | with_reducible refine' w_rab ?_
  | with_reducible refine' w_jn ?_
  | with_reducible refine' w_js ?_
  | with_reducible refine' w_jsn ?_
  | with_reducible refine' w_fmt ?_
  | with_reducible refine' w_isN ?_
  | with_reducible refine' w_intB ?_
  | with_reducible refine' w_istr ?_
  | with_reducible refine' w_stb ?_
  | ((with_reducible refine' w_inT ?hs ?hx ?ha ?_); (case hs => walk_at "sq"); (case hx => rfl); (case ha => rfl))
  | ((with_reducible refine' w_isf ?hd ?_); (case hd => decide +kernel))
  | ((with_reducible refine' w_ist ?hd ?_); (case hd => decide +kernel))
  | with_reducible refine' w_enumT ?_
  | ((with_reducible refine' w_enb ?hs ?_); (case hs => walk_at "sq"))
  | with_reducible refine' w_star ?_
  | ((with_reducible refine' w_stT ?hs ?_); (case hs => walk_at "sq"))
  | ((with_reducible refine' w_stL ?hs ?_); (case hs => walk_at "sq"))
  | with_reducible refine' w_par ?_
  | ((with_reducible refine' w_parb ?he ?_); (case he => walk_at "lset"))
  | with_reducible refine' w_enumL ?_
  | ((with_reducible refine' w_enlb ?hs ?_); (case hs => walk_at "sq"))
  | with_reducible refine' w_revL ?_
  | ((with_reducible refine' w_revb ?hs (fun p H1 n1 f1 g1 => ?_)); (case hs => walk_at "sq"))
  | with_reducible refine' w_max2 ?_
  | with_reducible refine' w_min2 ?_
  | with_reducible refine' w_lrg2 ?_
  | with_reducible refine' w_scI ?_
  | fail "none")
local macro_rules | `(tactic| walk_at "wk") => `(tactic| repeat walk_at "wk1")

section
variable {P : Program} {w : World} {K : PySem.W.Frag} {mg : Str → Option Value} {base : Heap} {f : Addr} {fd : FuncData}
theorem sc_law_any : FnScope ["_law_state", "_law_part"] ["_law_state"] (defScope s_law_any) := ⟨rfl, rfl, rfl, by decide +kernel, rfl, by decide +kernel, by decide +kernel⟩
theorem ok_any (F : Fun K "_law_any" "_law_any" s_law_any f fd) (Z : Blt mg) (D_law_drawn : Df P w K mg base CX0 1 "_law_drawn" ["_law_state", "_law_many"] (spDrawn K))
    (D_law_sum : Df P w K mg base CX0 17 "_law_sum" ["_law_state", "_law_deep", "_law_room"] (spSum K 16)) (D_law_quiet : Df P w K mg base CX0 16 "_law_quiet" ["_law_part"] (spQuiet 16)) : FnOk P w K mg base CX0 18 f fd ["_law_state"] (spAny K) := by
  refine F.ok sc_law_any (fun vs H Q E h => ?_) (fun cdv A outer s H vs Q E hr h => ?_)
  · obtain ⟨Ws, st, rfl, _⟩ := h
    rfl
  obtain ⟨Ws, st, rfl, hst, k⟩ := h
  refine ⟨_, (pss_cons (ps_set (i := 1) sc_law_any.nd rfl (Or.inl rfl) (pe_df D_law_sum hr (by first | decide | omega) (pa_cons (pv 0) (pa_cons (pe_ix (r := rIxL K) ix_list (pe_lst (pa_cons pe_int (pa_cons pe_int (pa_cons pe_int (pa_cons pe_int pa_nil))))) (pe_df D_law_drawn hr (by first | decide | omega) (pa_cons (pv 0) (pa_cons pe_int pa_nil))) (fun _ _ => rfl)) (pa_cons (pe_lst (pa_cons (pe_ix (r := rIxL K) ix_list (pe_lst (pa_cons pe_int (pa_cons pe_int (pa_cons pe_int pa_nil)))) (pe_df D_law_drawn hr (by first | decide | omega) (pa_cons (pv 0) (pa_cons pe_int pa_nil))) (fun _ _ => rfl)) pa_nil)) pa_nil)))))
  (pss_one (ps_ret (pe_ifExp (pt_cmpR op_eq (pe_df D_law_drawn hr (by first | decide | omega) (pa_cons (pv 0) (pa_cons pe_int pa_nil))) pe_int (nomark _)) (pe_df D_law_quiet hr (by first | decide | omega) (pa_cons (pv 1) pa_nil)) (pv 1))))), ?_⟩
  walk_at "st"
  walk_at "wk"
  refine u_drawn (by walk_at "hs") (by decide) (by decide) (fun v1 H1 a1 b1 s1 f1 => ?_)
  obtain ⟨d, e1, hd⟩ := idx4i (a := 3) (b := 5) (c := 9) (d := 15) a1 b1
  refine w_ixL (by walk_at "sq") e1 ?_
  walk_at "wk"
  refine u_drawn (by walk_at "hs") (by decide) (by decide) (fun v2 H2 a2 b2 s2 f2 => ?_)
  obtain ⟨r, e2, hrr⟩ := idx3i (a := 8) (b := 20) (c := 60) a2 b2
  refine w_ixL (by walk_at "sq") e2 ?_
  walk_at "wk"
  rename_i rm H3 n3 f3 g3
  have s3 := s2.more f3 n3
  refine u_sum s3 List.mem_cons_self (by walk_at "hp") (by omega) (by omega) (by omega) (fun v s H4 q1 q2 q3 q4 q5 q6 f4 => ?_)
  have s4 := q6.less (Ws' := Ws) fun b hb => List.mem_cons_of_mem _ hb
  have f34 : Fr [st] H2 H4 := (f3.nil.trans (f4.mono (W' := [rm, st]) (by simp [or_comm]))).drop n3
  walk_at "wk"
  refine u_drawn s4 (by decide) (by decide) (fun v5 H5 a5 b5 s5 f5 => ?_)
  have dp : s.depth ≤ 15 := by omega
  walk_at "wk"
  refine w_iteI (fun c => ?_) (fun c => ?_)
  · walk_at "wk"
    refine u_quiet (by walk_at "su") (by omega) (fun v' H6 q7 f6 => ?_)
    exact k v' s.quiet H6 q7 (Sm.quiet_ok q2) (Nat.le_trans (Sm.quiet_depth s) dp) (Nat.le_trans (Sm.quiet_size s) (by omega)) (by walk_at "hs") (by walk_at "fr")
  · walk_at "wk"
    exact k v s H5 (by walk_at "su") q2 dp (by omega) s5 (by walk_at "fr")
end
end My
namespace My
open PySem L2 Wk
local macro_rules | `(tactic| walk_at "hs") => `(tactic| first
  | assumption
  | (apply fr_st0; (case f => assumption); (case h => walk_at "hs"))
  | (apply fr_st1; (case f => assumption); (case n => walk_at "ne"); (case hw => first | assumption | exact List.mem_cons_self); (case h => walk_at "hs"))
  | fail "none")
local macro_rules | `(tactic| walk_at "nn") => `(tactic| first
  | (apply nn_st; (case n => assumption); (case h => walk_at "hs"))
  | (apply nn_l; (case n => assumption); (case h => walk_at "hp"))
  | (apply nn_d; (case n => assumption); (case h => walk_at "hp"))
  | (apply nn_i; (case n => assumption); (case h => walk_at "hp"))
  | fail "none")
local macro_rules | `(tactic| walk_at "su") => `(tactic| first
  | assumption
  | (apply fr_su; (case f => assumption); (case h => walk_at "su"))
  | fail "none")
local macro_rules | `(tactic| walk_at "as") => `(tactic| first
  | assumption
  | (apply fr_as; (case f => assumption); (case h => walk_at "as"))
  | fail "none")
local macro_rules | `(tactic| walk_at "ef") => `(tactic| first
  | assumption
  | (apply fr_ef0; (case f => assumption); (case h => walk_at "ef"))
  | (apply fr_ef; (case f => assumption); (case n1 => walk_at "ni"); (case n2 => walk_at "ni"); (case n3 => walk_at "ni"); (case h => walk_at "ef"))
  | fail "none")
local macro_rules | `(tactic| walk_at "td") => `(tactic| first
  | assumption
  | (apply fr_td0; (case f => assumption); (case h => walk_at "td"))
  | (apply fr_td; (case f => assumption); (case n1 => walk_at "ni"); (case n2 => walk_at "ni"); (case n3 => walk_at "ni"); (case h => walk_at "td"))
  | fail "none")
local macro_rules | `(tactic| walk_at "sk") => `(tactic| first
  | assumption
  | (apply fr_stk; (case f => assumption); (case a => walk_at "sk"))
  | fail "none")
local macro_rules | `(tactic| walk_at "al") => `(tactic| first
  | assumption
  | (apply fr_al; (case f => assumption); (case h => walk_at "al"))
  | fail "none")
local macro_rules | `(tactic| walk_at "nv") => `(tactic| first
  | assumption
  | (apply fr_nv; (case a => assumption); (case n => walk_at "ni"); (case h => walk_at "nv"))
  | fail "none")
local macro_rules | `(tactic| walk_at "ne") => `(tactic| first
  | assumption
  | (apply Ne.symm; assumption)
  | walk_at "nn"
  | (apply Ne.symm; walk_at "nn")
  | fail "none")
local macro_rules | `(tactic| walk_at "ni") => `(tactic| first
  | exact List.not_mem_nil
  | (apply ni1; walk_at "ne")
  | (apply ni2 <;> walk_at "ne")
  | (apply ni3 <;> walk_at "ne")
  | fail "none")
local macro_rules | `(tactic| walk_at "hp") => `(tactic| first
  | assumption
  | (apply Fr.gett; (case a => assumption); (case h => walk_at "hp"))
  | (apply Fr.getl; (case a => assumption); (case n => walk_at "ni"); (case h => walk_at "hp"))
  | (apply Fr.getd; (case a => assumption); (case n => walk_at "ni"); (case h => walk_at "hp"))
  | (apply Fr.geti; (case a => assumption); (case n => walk_at "ni"); (case h => walk_at "hp"))
  | fail "none")
local macro_rules | `(tactic| walk_at "sqs") => `(tactic| first
  | assumption
  | (apply Fr.sqln; (case a => assumption); (case n => walk_at "ni"); (case h => walk_at "sqs"))
  | fail "none")
local macro_rules | `(tactic| walk_at "sq") => `(tactic| first
  | assumption
  | (apply SqL.of; walk_at "hp")
  | (apply SqT.of; walk_at "hp")
  | walk_at "sqs"
  | fail "none")
local macro_rules | `(tactic| walk_at "fr") => `(tactic| first
  | exact Fr.refl
  | assumption
  | (apply Fr.mono; (case a => assumption); (case h => simp))
  | (apply fr_last; (case f => assumption); (case w => simp); (case g => walk_at "fr"))
  | fail "none")
local macro_rules | `(tactic| walk_at "st") => `(tactic| ((try dsimp only [cxOf, Cx.nox, Cx.wish]); (try simp only [L2.start, List.map_cons, List.map_nil, List.length_cons, List.length_nil, List.replicate, List.cons_append, List.nil_append, Nat.reduceAdd, Nat.reduceSub])))
local macro_rules | `(tactic| walk_at "lset") => `(tactic| (simp only [wipe, List.map_cons, List.map_nil, Int.reduceToNat, List.set_cons_zero, List.set_cons_succ] <;> rfl))
local macro_rules | `(tactic| walk_at "wk1") => `(tactic| first
  | with_reducible refine' w_seq ?_
  | with_reducible refine' w_asg ?_
  | ((with_reducible refine' w_name ?hs ?_); (case hs => walk_at "lset"))
  | ((with_reducible refine' w_var ?hv ?_); (case hv => rfl))
  | with_reducible refine' w_c ?_
  | with_reducible refine' w_op ?_
  | with_reducible refine' w_un ?_
  | with_reducible refine' w_test ?_
  | with_reducible refine' w_tB ?_
  | with_reducible refine' w_exbl ?_
  | with_reducible refine' w_exint ?_
  | with_reducible refine' w_t ?_
  | with_reducible refine' w_f ?_
  | with_reducible refine' w_ifS ?_
  | with_reducible refine' w_if ?_
  | with_reducible refine' w_and ?_
  | with_reducible refine' w_or ?_
  | with_reducible refine' w_not ?_
  | with_reducible refine' w_andV ?_
  | with_reducible refine' w_orV ?_
  | with_reducible refine' w_notV ?_
  | with_reducible refine' w_ret ?_
  | with_reducible refine' w_retN ?_
  | with_reducible refine' w_drop ?_
  | with_reducible refine' w_next ?_
  | with_reducible refine' w_nil ?_
  | with_reducible refine' w_cons ?_
  | with_reducible refine' w_cb ?_
  | with_reducible refine' w_call ?_
  | with_reducible refine' w_gsub ?_
  | with_reducible refine' w_gnil ?_
  | with_reducible refine' w_gcons ?_
  | ((with_reducible refine' w_gtup ?hs ?hn ?_); (case hs => walk_at "sq"); (case hn => rfl))
  | with_reducible refine' w_fld ?_
  | with_reducible refine' w_tfld ?_
  | with_reducible refine' w_sl ?_
  | with_reducible refine' w_nopart ?_
  | with_reducible refine' w_part ?_
  | with_reducible refine' w_bm ?_
  | with_reducible refine' w_bm0 ?_
  | with_reducible refine' w_yes ?_
  | with_reducible refine' w_tup ?_
  | with_reducible refine' w_lst ?_
  | with_reducible refine' w_I0 ?_
  | ((with_reducible refine' w_I ?hc ?_); (case hc => (first | (show (0 : Int) < _; first | decide | omega | assumption) | exact wide_div (by first | assumption | decide) (b := 200) (by first | assumption | decide) (by decide) (by decide) | exact wide_mul (a := 64) (b := 64) (by omega) (by omega) (by decide) (by decide) (by decide) | exact ⟨by decide, by decide, by decide⟩)))
  | ((with_reducible refine' w_eq ?he ?_); (case he => rfl))
  | ((with_reducible refine' w_ne ?he ?_); (case he => rfl))
  | ((with_reducible refine' w_ixL ?hs ?ha ?_); (case hs => walk_at "sq"); (case ha => rfl))
  | ((with_reducible refine' w_ixT ?hs ?ha ?_); (case hs => walk_at "sq"); (case ha => rfl))
  | ((with_reducible refine' w_lenL ?hs ?he ?_); (case hs => walk_at "sq"); (case he => first | (simp only [List.length_cons, List.length_nil, List.length_map]; rfl) | rfl))
  | ((with_reducible refine' w_lenT ?hs ?he ?_); (case hs => walk_at "sq"); (case he => first | (simp only [List.length_cons, List.length_nil, List.length_map]; rfl) | rfl))
  | ((with_reducible refine' w_setL ?hh ?hk ?he (fun H1 f1 g1 => ?_)); (case hh => walk_at "hp"); (case hk => rfl); (case he => walk_at "lset"))
  | ((with_reducible refine' w_newT ?hl (fun p H1 n1 f1 g1 => ?_)); (case hl => (first | decide | (simp only [List.length_cons, List.length_nil]; decide))))
  | ((with_reducible refine' w_newL ?hl (fun p H1 n1 f1 g1 => ?_)); (case hl => (first | decide | (simp only [List.length_cons, List.length_nil]; decide))))
  | with_reducible refine' w_for ?_
  | with_reducible refine' w_ilist ?_
  | ((with_reducible refine' w_ilb ?hs ?_); (case hs => walk_at "sq"))
  | with_reducible refine' w_itup ?_
  | ((with_reducible refine' w_itb ?hs ?_); (case hs => walk_at "sq"))
  | with_reducible refine' w_rng1 ?_
  | ((with_reducible refine' w_rgb1 ?h0 ?h1 ?_); (case h0 => first | decide | omega); (case h1 => first | decide | omega))
  | with_reducible refine' w_lc ?_
  | ((with_reducible refine' w_wipe ?hw ?_); (case hw => rfl))
  | ((with_reducible refine' w_cat ?ha ?hb ?hl (fun p H1 n1 f1 g1 => ?_)); (case ha => walk_at "hp"); (case hb => walk_at "hp"); (case hl => (first | decide | (simp only [List.length_cons, List.length_nil]; decide))))
  | with_reducible refine' w_dget ?_
  | with_reducible refine' w_din ?_
  | with_reducible refine' w_dnotin ?_
  | with_reducible refine' w_dput ?_
  | with_reducible refine' w_dnew ?_
  | with_reducible refine' w_newD (fun p H1 n1 f1 g1 => ?_)
  | ((with_reducible refine' w_slT ?hs ?hn ?he (fun p H1 n1 f1 g1 => ?_)); (case hs => walk_at "sq"); (case hn => decide); (case he => rfl))
  | with_reducible refine' w_meth ?_
  | with_reducible refine' w_make ?_
  | with_reducible refine' w_mkb (fun x dx H1 n1 m1 d1 f1 g1 => ?_)
  | with_reducible refine' w_fldaug ?_
  | with_reducible refine' w_tru ?_
  | ((with_reducible refine' w_trl ?hh ?_); (case hh => walk_at "hp"))
  | with_reducible refine' w_whb ?_
  | with_reducible refine' w_chain ?_
  | with_reducible refine' w_tyIs ?_
  | with_reducible refine' w_raise ?_
  | with_reducible refine' w_rab ?_
  | with_reducible refine' w_jn ?_
  | with_reducible refine' w_js ?_
  | with_reducible refine' w_jsn ?_
  | with_reducible refine' w_fmt ?_
  | with_reducible refine' w_isN ?_
  | with_reducible refine' w_intB ?_
  | with_reducible refine' w_istr ?_
  | with_reducible refine' w_stb ?_
  | ((with_reducible refine' w_inT ?hs ?hx ?ha ?_); (case hs => walk_at "sq"); (case hx => rfl); (case ha => rfl))
  | ((with_reducible refine' w_isf ?hd ?_); (case hd => decide +kernel))
  | ((with_reducible refine' w_ist ?hd ?_); (case hd => decide +kernel))
  | with_reducible refine' w_enumT ?_
  | ((with_reducible refine' w_enb ?hs ?_); (case hs => walk_at "sq"))
  | with_reducible refine' w_star ?_
  | ((with_reducible refine' w_stT ?hs ?_); (case hs => walk_at "sq"))
  | ((with_reducible refine' w_stL ?hs ?_); (case hs => walk_at "sq"))
  | with_reducible refine' w_par ?_
  | ((with_reducible refine' w_parb ?he ?_); (case he => walk_at "lset"))
  | with_reducible refine' w_enumL ?_
  | ((with_reducible refine' w_enlb ?hs ?_); (case hs => walk_at "sq"))
  | with_reducible refine' w_revL ?_
  | ((with_reducible refine' w_revb ?hs (fun p H1 n1 f1 g1 => ?_)); (case hs => walk_at "sq"))
  | with_reducible refine' w_max2 ?_
  | with_reducible refine' w_min2 ?_
  | with_reducible refine' w_lrg2 ?_
  | with_reducible refine' w_scI ?_
  | fail "none")
local macro_rules | `(tactic| walk_at "wk") => `(tactic| repeat walk_at "wk1")

section
variable {P : Program} {w : World} {K : PySem.W.Frag} {mg : Str → Option Value} {base : Heap} {f : Addr} {fd : FuncData}
theorem sc_law_quiet : FnScope ["_law_part"] ["_law_part"] (defScope s_law_quiet) := ⟨rfl, rfl, rfl, by decide +kernel, rfl, by decide +kernel, by decide +kernel⟩
theorem ok_quiet {n : Nat} (F : Fun K "_law_quiet" "_law_quiet" s_law_quiet f fd) (Z : Blt mg)
    (D_law_quiet : Df P w K mg base CX0 n "_law_quiet" ["_law_part"] (spQuiet n)) : FnOk P w K mg base CX0 (n + 1) f fd ["_law_part"] (spQuiet (n + 1)) := by
  refine F.ok sc_law_quiet (fun vs H Q E h => ?_) (fun cdv A outer s H vs Q E hr h => ?_)
  · obtain ⟨v, s, rfl, _⟩ := h
    rfl
  obtain ⟨v, s, rfl, hs, hd, k⟩ := h
  refine ⟨_, (pss_cons (ps_if (pt_cmpR op_eq (pe_ix (r := rIxT K) ix_tup (pv 0) pe_int (fun _ _ => rfl)) pe_str (nomark _)) (pss_one (ps_ret (pe_tup (pa_cons pe_str (pa_cons pe_int pa_nil))))) pss_nil)
  (pss_cons (ps_if (pt_cmpR op_eq (pe_ix (r := rIxT K) ix_tup (pv 0) pe_int (fun _ _ => rfl)) pe_str (nomark _)) (pss_one (ps_ret (pe_df D_law_quiet hr (by first | decide | omega) (pa_cons (pe_ix (r := rIxT K) ix_tup (pv 0) pe_int (fun _ _ => rfl)) pa_nil)))) pss_nil)
  (pss_cons (ps_if (pt_cmpR (r := rIn K false) op_in_seq (pe_ix (r := rIxT K) ix_tup (pv 0) pe_int (fun _ _ => rfl)) (pe_tup (pa_cons pe_str (pa_cons pe_str pa_nil))) rfl) (pss_one (ps_ret (pv 0))) pss_nil)
  (pss_one (ps_ret (pe_tup (pa_cons (pe_ix (r := rIxT K) ix_tup (pv 0) pe_int (fun _ _ => rfl)) (pa_cons (pe_df D_law_quiet hr (by first | decide | omega) (pa_cons (pe_ix (r := rIxT K) ix_tup (pv 0) pe_int (fun _ _ => rfl)) pa_nil)) (pa_cons (pe_df D_law_quiet hr (by first | decide | omega) (pa_cons (pe_ix (r := rIxT K) ix_tup (pv 0) pe_int (fun _ _ => rfl)) pa_nil)) pa_nil))))))))), ?_⟩
  walk_at "st"
  cases s with
  | num m =>
    obtain ⟨p, rfl, hp⟩ := hs
    walk_at "wk"
    exact k _ _ ⟨p, rfl, by walk_at "hp"⟩ (by walk_at "fr")
  | name c =>
    obtain ⟨p, rfl, hp⟩ := hs
    walk_at "wk"
    exact k _ _ ⟨p, rfl, by walk_at "hp"⟩ (by walk_at "fr")
  | ask =>
    obtain ⟨p, rfl, hp⟩ := hs
    walk_at "wk"
    exact k _ _ ⟨_, rfl, by walk_at "hp"⟩ (by walk_at "fr")
  | say s =>
    obtain ⟨p, x, rfl, hp, hx⟩ := hs
    walk_at "wk"
    exact u_quiet (by walk_at "su") (Nat.le_of_succ_le_succ hd) k
  | bin o a b =>
    obtain ⟨p, x, y, rfl, hp, hx, hy⟩ := hs
    have hd' : max a.depth b.depth ≤ n := Nat.le_of_succ_le_succ hd
    cases o
    all_goals
      walk_at "wk"
      refine u_quiet (by walk_at "su") (by omega) (fun v1 H1 q1 f1 => ?_)
      walk_at "wk"
      refine u_quiet (by walk_at "su") (by omega) (fun v2 H2 q2 f2 => ?_)
      walk_at "wk"
      exact k _ _ ⟨_, _, _, rfl, by walk_at "hp", by walk_at "su", by walk_at "su"⟩ (by walk_at "fr")
end
end My
namespace My
open PySem L2 Wk
local macro_rules | `(tactic| walk_at "hs") => `(tactic| first
  | assumption
  | (apply fr_st0; (case f => assumption); (case h => walk_at "hs"))
  | (apply fr_st1; (case f => assumption); (case n => walk_at "ne"); (case hw => first | assumption | exact List.mem_cons_self); (case h => walk_at "hs"))
  | fail "none")
local macro_rules | `(tactic| walk_at "nn") => `(tactic| first
  | (apply nn_st; (case n => assumption); (case h => walk_at "hs"))
  | (apply nn_l; (case n => assumption); (case h => walk_at "hp"))
  | (apply nn_d; (case n => assumption); (case h => walk_at "hp"))
  | (apply nn_i; (case n => assumption); (case h => walk_at "hp"))
  | fail "none")
local macro_rules | `(tactic| walk_at "su") => `(tactic| first
  | assumption
  | (apply fr_su; (case f => assumption); (case h => walk_at "su"))
  | fail "none")
local macro_rules | `(tactic| walk_at "as") => `(tactic| first
  | assumption
  | (apply fr_as; (case f => assumption); (case h => walk_at "as"))
  | fail "none")
local macro_rules | `(tactic| walk_at "ef") => `(tactic| first
  | assumption
  | (apply fr_ef0; (case f => assumption); (case h => walk_at "ef"))
  | (apply fr_ef; (case f => assumption); (case n1 => walk_at "ni"); (case n2 => walk_at "ni"); (case n3 => walk_at "ni"); (case h => walk_at "ef"))
  | fail "none")
local macro_rules | `(tactic| walk_at "td") => `(tactic| first
  | assumption
  | (apply fr_td0; (case f => assumption); (case h => walk_at "td"))
  | (apply fr_td; (case f => assumption); (case n1 => walk_at "ni"); (case n2 => walk_at "ni"); (case n3 => walk_at "ni"); (case h => walk_at "td"))
  | fail "none")
local macro_rules | `(tactic| walk_at "sk") => `(tactic| first
  | assumption
  | (apply fr_stk; (case f => assumption); (case a => walk_at "sk"))
  | fail "none")
local macro_rules | `(tactic| walk_at "al") => `(tactic| first
  | assumption
  | (apply fr_al; (case f => assumption); (case h => walk_at "al"))
  | fail "none")
local macro_rules | `(tactic| walk_at "nv") => `(tactic| first
  | assumption
  | (apply fr_nv; (case a => assumption); (case n => walk_at "ni"); (case h => walk_at "nv"))
  | fail "none")
local macro_rules | `(tactic| walk_at "ne") => `(tactic| first
  | assumption
  | (apply Ne.symm; assumption)
  | walk_at "nn"
  | (apply Ne.symm; walk_at "nn")
  | fail "none")
local macro_rules | `(tactic| walk_at "ni") => `(tactic| first
  | exact List.not_mem_nil
  | (apply ni1; walk_at "ne")
  | (apply ni2 <;> walk_at "ne")
  | (apply ni3 <;> walk_at "ne")
  | fail "none")
local macro_rules | `(tactic| walk_at "hp") => `(tactic| first
  | assumption
  | (apply Fr.gett; (case a => assumption); (case h => walk_at "hp"))
  | (apply Fr.getl; (case a => assumption); (case n => walk_at "ni"); (case h => walk_at "hp"))
  | (apply Fr.getd; (case a => assumption); (case n => walk_at "ni"); (case h => walk_at "hp"))
  | (apply Fr.geti; (case a => assumption); (case n => walk_at "ni"); (case h => walk_at "hp"))
  | fail "none")
local macro_rules | `(tactic| walk_at "sqs") => `(tactic| first
  | assumption
  | (apply Fr.sqln; (case a => assumption); (case n => walk_at "ni"); (case h => walk_at "sqs"))
  | fail "none")
local macro_rules | `(tactic| walk_at "sq") => `(tactic| first
  | assumption
  | (apply SqL.of; walk_at "hp")
  | (apply SqT.of; walk_at "hp")
  | walk_at "sqs"
  | fail "none")
local macro_rules | `(tactic| walk_at "fr") => `(tactic| first
  | exact Fr.refl
  | assumption
  | (apply Fr.mono; (case a => assumption); (case h => simp))
  | (apply fr_last; (case f => assumption); (case w => simp); (case g => walk_at "fr"))
  | fail "none")
local macro_rules | `(tactic| walk_at "st") => `(tactic| ((try dsimp only [cxOf, Cx.nox, Cx.wish]); (try simp only [L2.start, List.map_cons, List.map_nil, List.length_cons, List.length_nil, List.replicate, List.cons_append, List.nil_append, Nat.reduceAdd, Nat.reduceSub])))
local macro_rules | `(tactic| walk_at "lset") => `(tactic| (simp only [wipe, List.map_cons, List.map_nil, Int.reduceToNat, List.set_cons_zero, List.set_cons_succ] <;> rfl))
local macro_rules | `(tactic| walk_at "wk1") => `(tactic| first
  | with_reducible refine' w_seq ?_
  | with_reducible refine' w_asg ?_
  | ((with_reducible refine' w_name ?hs ?_); (case hs => walk_at "lset"))
  | ((with_reducible refine' w_var ?hv ?_); (case hv => rfl))
  | with_reducible refine' w_c ?_
  | with_reducible refine' w_op ?_
  | with_reducible refine' w_un ?_
  | with_reducible refine' w_test ?_
  | with_reducible refine' w_tB ?_
  | with_reducible refine' w_exbl ?_
  | with_reducible refine' w_exint ?_
  | with_reducible refine' w_t ?_
  | with_reducible refine' w_f ?_
  | with_reducible refine' w_ifS ?_
  | with_reducible refine' w_if ?_
  | with_reducible refine' w_and ?_
  | with_reducible refine' w_or ?_
  | with_reducible refine' w_not ?_
  | with_reducible refine' w_andV ?_
  | with_reducible refine' w_orV ?_
  | with_reducible refine' w_notV ?_
  | with_reducible refine' w_ret ?_
  | with_reducible refine' w_retN ?_
  | with_reducible refine' w_drop ?_
  | with_reducible refine' w_next ?_
  | with_reducible refine' w_nil ?_
  | with_reducible refine' w_cons ?_
  | with_reducible refine' w_cb ?_
  | with_reducible refine' w_call ?_
  | with_reducible refine' w_gsub ?_
  | with_reducible refine' w_gnil ?_
  | with_reducible refine' w_gcons ?_
  | ((with_reducible refine' w_gtup ?hs ?hn ?_); (case hs => walk_at "sq"); (case hn => rfl))
  | with_reducible refine' w_fld ?_
  | with_reducible refine' w_tfld ?_
  | with_reducible refine' w_sl ?_
  | with_reducible refine' w_nopart ?_
  | with_reducible refine' w_part ?_
  | with_reducible refine' w_bm ?_
  | with_reducible refine' w_bm0 ?_
  | with_reducible refine' w_yes ?_
  | with_reducible refine' w_tup ?_
  | with_reducible refine' w_lst ?_
  | with_reducible refine' w_I0 ?_
  | ((with_reducible refine' w_I ?hc ?_); (case hc => (first | (show (0 : Int) < _; first | decide | omega | assumption) | exact wide_div (by first | assumption | decide) (b := 200) (by first | assumption | decide) (by decide) (by decide) | exact wide_mul (a := 64) (b := 64) (by omega) (by omega) (by decide) (by decide) (by decide) | exact ⟨by decide, by decide, by decide⟩)))
  | ((with_reducible refine' w_eq ?he ?_); (case he => rfl))
  | ((with_reducible refine' w_ne ?he ?_); (case he => rfl))
  | ((with_reducible refine' w_ixL ?hs ?ha ?_); (case hs => walk_at "sq"); (case ha => rfl))
  | ((with_reducible refine' w_ixT ?hs ?ha ?_); (case hs => walk_at "sq"); (case ha => rfl))
  | ((with_reducible refine' w_lenL ?hs ?he ?_); (case hs => walk_at "sq"); (case he => first | (simp only [List.length_cons, List.length_nil, List.length_map]; rfl) | rfl))
  | ((with_reducible refine' w_lenT ?hs ?he ?_); (case hs => walk_at "sq"); (case he => first | (simp only [List.length_cons, List.length_nil, List.length_map]; rfl) | rfl))
  | ((with_reducible refine' w_setL ?hh ?hk ?he (fun H1 f1 g1 => ?_)); (case hh => walk_at "hp"); (case hk => rfl); (case he => walk_at "lset"))
  | ((with_reducible refine' w_newT ?hl (fun p H1 n1 f1 g1 => ?_)); (case hl => (first | decide | (simp only [List.length_cons, List.length_nil]; decide))))
  | ((with_reducible refine' w_newL ?hl (fun p H1 n1 f1 g1 => ?_)); (case hl => (first | decide | (simp only [List.length_cons, List.length_nil]; decide))))
  | with_reducible refine' w_for ?_
  | with_reducible refine' w_ilist ?_
  | ((with_reducible refine' w_ilb ?hs ?_); (case hs => walk_at "sq"))
  | with_reducible refine' w_itup ?_
  | ((with_reducible refine' w_itb ?hs ?_); (case hs => walk_at "sq"))
  | with_reducible refine' w_rng1 ?_
  | ((with_reducible refine' w_rgb1 ?h0 ?h1 ?_); (case h0 => first | decide | omega); (case h1 => first | decide | omega))
  | with_reducible refine' w_lc ?_
  | ((with_reducible refine' w_wipe ?hw ?_); (case hw => rfl))
  | ((with_reducible refine' w_cat ?ha ?hb ?hl (fun p H1 n1 f1 g1 => ?_)); (case ha => walk_at "hp"); (case hb => walk_at "hp"); (case hl => (first | decide | (simp only [List.length_cons, List.length_nil]; decide))))
  | with_reducible refine' w_dget ?_
  | with_reducible refine' w_din ?_
  | with_reducible refine' w_dnotin ?_
  | with_reducible refine' w_dput ?_
  | with_reducible refine' w_dnew ?_
  | with_reducible refine' w_newD (fun p H1 n1 f1 g1 => ?_)
  | ((with_reducible refine' w_slT ?hs ?hn ?he (fun p H1 n1 f1 g1 => ?_)); (case hs => walk_at "sq"); (case hn => decide); (case he => rfl))
  | with_reducible refine' w_meth ?_
  | with_reducible refine' w_make ?_
  | with_reducible refine' w_mkb (fun x dx H1 n1 m1 d1 f1 g1 => ?_)
  | with_reducible refine' w_fldaug ?_
  | with_reducible refine' w_tru ?_
  | ((with_reducible refine' w_trl ?hh ?_); (case hh => walk_at "hp"))
  | with_reducible refine' w_whb ?_
  | with_reducible refine' w_chain ?_
  | with_reducible refine' w_tyIs ?_
  | with_reducible refine' w_raise ?_
  | with_reducible refine' w_rab ?_
  | with_reducible refine' w_jn ?_
  | with_reducible refine' w_js ?_
  | with_reducible refine' w_jsn ?_
  | with_reducible refine' w_fmt ?_
  | with_reducible refine' w_isN ?_
  | with_reducible refine' w_intB ?_
  | with_reducible refine' w_istr ?_
  | with_reducible refine' w_stb ?_
  | ((with_reducible refine' w_inT ?hs ?hx ?ha ?_); (case hs => walk_at "sq"); (case hx => rfl); (case ha => rfl))
  | ((with_reducible refine' w_isf ?hd ?_); (case hd => decide +kernel))
  | ((with_reducible refine' w_ist ?hd ?_); (case hd => decide +kernel))
  | with_reducible refine' w_enumT ?_
  | ((with_reducible refine' w_enb ?hs ?_); (case hs => walk_at "sq"))
  | with_reducible refine' w_star ?_
  | ((with_reducible refine' w_stT ?hs ?_); (case hs => walk_at "sq"))
  | ((with_reducible refine' w_stL ?hs ?_); (case hs => walk_at "sq"))
  | with_reducible refine' w_par ?_
  | ((with_reducible refine' w_parb ?he ?_); (case he => walk_at "lset"))
  | with_reducible refine' w_enumL ?_
  | ((with_reducible refine' w_enlb ?hs ?_); (case hs => walk_at "sq"))
  | with_reducible refine' w_revL ?_
  | ((with_reducible refine' w_revb ?hs (fun p H1 n1 f1 g1 => ?_)); (case hs => walk_at "sq"))
  | with_reducible refine' w_max2 ?_
  | with_reducible refine' w_min2 ?_
  | with_reducible refine' w_lrg2 ?_
  | with_reducible refine' w_scI ?_
  | fail "none")
local macro_rules | `(tactic| walk_at "wk") => `(tactic| repeat walk_at "wk1")

section
variable {P : Program} {w : World} {K : PySem.W.Frag} {mg : Str → Option Value} {base : Heap} {f : Addr} {fd : FuncData} {a : Ad}
theorem sc_law_moved : FnScope ["_law_steps", "_law_order", "_law_found", "_law_step", "_law_rest", "_law_box"] ["_law_steps", "_law_order"] (defScope s_law_moved) := ⟨rfl, rfl, rfl, by decide +kernel, rfl, by decide +kernel, by decide +kernel⟩
theorem ok_moved (F : Fun K "_law_moved" "_law_moved" s_law_moved f fd) (Z : Blt mg) : FnOk P w K mg base CX0 1 f fd ["_law_steps", "_law_order"] spMoved := by
  refine F.ok sc_law_moved (fun vs H Q E h => ?_) (fun cdv A outer s H vs Q E hr h => ?_)
  · obtain ⟨l, o, us, ts, ns, rfl, _⟩ := h
    rfl
  obtain ⟨l, o, us, ts, ns, rfl, hl, hts, htl, ho, hbs, k⟩ := h
  have ul := hts.length
  refine ⟨_, (pss_cons (ps_set (i := 2) sc_law_moved.nd rfl (Or.inl rfl) (pe_lst pa_nil))
  (pss_cons (ps_for PassesOwn.never rfl (pi_list (pv 0)) (pg_name (i := 3) sc_law_moved.nd rfl (Or.inl rfl)) (pss_cons (ps_set (i := 4) sc_law_moved.nd rfl (Or.inl rfl) (pe_slice (r := rSlT K) sl_tup (pv 3) (po_some pe_int) po_none))
  (pss_cons (ps_if (pt_cmpR (r := rIn K false) op_in_seq (pe_ix (r := rIxT K) ix_tup (pv 3) pe_int (fun _ _ => rfl)) (pe_tup (pa_cons pe_str (pa_cons pe_str (pa_cons pe_str (pa_cons pe_str pa_nil))))) rfl) (pss_one (ps_set (i := 4) sc_law_moved.nd rfl (Or.inl rfl) (pe_callTy (r := rTupOf K) call_tupOf (by rfl) Z.tuple (by decide +kernel) (pa_cons (pe_lc (own := [("_law_box", 5)]) (g := (gName 5)) (tt := tYes) (by rfl) sc_law_moved.nd (pi_tupK (K := K) (by rfl) (pe_slice (r := rSlT K) sl_tup (pv 3) (po_some pe_int) po_none)) (blkOk_by (own := [("_law_box", 5)]) (N := ["_law_steps", "_law_order", "_law_found", "_law_step", "_law_rest", "_law_box"]) (sc := defScope s_law_moved) (by decide +kernel)) (fun _ _ _ _ _ => pg_name (i := 5) sc_law_moved.nd rfl (Or.inl rfl)) (fun _ _ _ _ _ => pts_nil) (fun _ _ _ _ _ => (pe_ix (r := rIxL K) ix_list (pv 1) (pv 5) (fun _ _ => rfl)))) pa_nil)))) pss_nil)
  (pss_one (ps_expr (pe_bm PySem.F.plainAttrs_list PySem.F.slot_list_append PySem.F.type_list_append mt_append (pv 2) (pa_cons (pe_op (r := rCatT K) op_catT (pe_tup (pa_cons (pe_ix (r := rIxL K) ix_list (pv 1) (pe_ix (r := rIxT K) ix_tup (pv 3) pe_int (fun _ _ => rfl)) (fun _ _ => rfl)) (pa_cons (pe_ix (r := rIxT K) ix_tup (pv 3) pe_int (fun _ _ => rfl)) pa_nil))) (pv 4)) pa_nil)))))))
  (pss_one (ps_ret (pv 2))))), ?_⟩
  walk_at "st"
  walk_at "wk"
  rename_i r H1 n1 f1 g1
  have nlr : l ≠ r := (nn_l n1 hl).symm
  have nor : o ≠ r := (nn_l n1 ho).symm
  have hl1 := f1.get0 hl
  have ho1 := f1.get0 ho
  refine forL (xs := us) (fun i σ H' => ∃ (o3 o4 : Option V) (vs' : List V), σ = [some (.ref l), some (.ref o), some (.ref r), o3, o4, none] ∧ H' r = some (.lst vs') ∧ AllStp H' vs' ((ts.take i).map (Stp.ren fun j => ns.getD j 0)) ∧ Fr [r] H1 H')
    ⟨_, _, [], rfl, g1, trivial, .refl⟩ (fun i σ H' _ ⟨_, _, _, _, _, _, ff⟩ => SqL.of (ff.getl (ni1 nlr) hl1)) ?_ ?_
  · rintro i x σ H' hx ⟨o3, o4, vs', rfl, hr', hv', ff⟩
    have il : i < us.length := (List.getElem?_eq_some_iff.mp hx).1
    obtain ⟨t, ht, hxt⟩ := hts.at hx
    have hb := hbs t (List.mem_of_getElem? ht)
    have f0 : Fr [r] H H' := f1.nil.trans ff
    obtain ⟨p, rfl, hp⟩ := hxt.mono f0
    obtain ⟨wd, tl, ev, htl2, hsp⟩ := rst_split2 (fun j => ns.getD j 0) t.rest
    rw [ev] at hp
    have ho' := ff.getl (ni1 nor) ho1
    have vl := hv'.length
    rw [List.length_map, List.length_take] at vl
    walk_at "wk"
    refine w_slT (SqT.of hp) (tail2_not _ _ _) (cut_tail2 _ _ _) (fun zp H4 n4 f4 g4 => ?_)
    walk_at "wk"
    refine w_ixT (SqT.of (f4.get0 hp)) (atI_nat (j := 1) rfl) ?_
    walk_at "wk"
    rename_i tq H5 n5 f5 g5
    have f45 := f4.trans f5
    have fin : ∀ (z : Addr) (zs : List V) (Hz : Hp), Fr [] H' Hz → Hz z = some (.tup zs) → (ren (fun j => ns.getD j 0) t.rest).vals = .str wd :: zs → tyV K "list" (V.ref r) Hz ∧
        tCons (tOp (rCatT K) (tTup (tCons (tOp (rIxL K) (tVar 1) (tOp (rIxT K) (tVar 3) (tC (V.int 0)))) (tCons (tOp (rIxT K) (tVar 3) (tC (V.int 1))) tNil))) (tVar 4)) tNil
          [some (V.ref l), some (V.ref o), some (V.ref r), some (V.ref p), some (V.ref z), none] Hz fun xs H2 =>
          rAppend (V.ref r) xs H2 fun x H1_1 => ∃ (o3 o4 : Option V) (vs' : List V), ([some (V.ref l), some (V.ref o), some (V.ref r), some (V.ref p), some (V.ref z), none] : St) = [some (V.ref l), some (V.ref o), some (V.ref r), o3, o4, none] ∧
            H1_1 r = some (HO.lst vs') ∧ AllStp H1_1 vs' (List.map (Stp.ren fun j => ns.getD j 0) (List.take (i + 1) ts)) ∧ Fr [r] H1 H1_1 := by
      intro z zs Hz fz gz ez
      have hrz := fz.get0 hr'
      have hoz := fz.get0 ho'
      refine w_tyl hrz ?_
      walk_at "wk"
      refine w_ixT (SqT.of (fz.get0 hp)) (atI_nat (j := 0) rfl) ?_
      refine w_ixL (SqL.of hoz) (atI_nat (nats_at hb.1)) ?_
      walk_at "wk"
      refine w_ixT (SqT.of (fz.get0 hp)) (atI_nat (j := 1) rfl) ?_
      walk_at "wk"
      rename_i cp H8 n8 f8 g8
      have out : ∀ (d : Addr) (H9 : Hp), Fr [] H8 H9 → H9 d = some (.tup (.int (ns.getD t.box 0 : Nat) :: .str wd :: zs)) → rAppend (V.ref r) [.ref d] H9 fun x H1_1 => ∃ (o3 o4 : Option V) (vs' : List V), ([some (V.ref l), some (V.ref o), some (V.ref r), some (V.ref p), some (V.ref z), none] : St) = [some (V.ref l), some (V.ref o), some (V.ref r), o3, o4, none] ∧
            H1_1 r = some (HO.lst vs') ∧ AllStp H1_1 vs' (List.map (Stp.ren fun j => ns.getD j 0) (List.take (i + 1) ts)) ∧ Fr [r] H1 H1_1 := by
        intro d H9 f9 g9
        refine w_app (f9.get0 (f8.get0 hrz)) (by omega) (fun HA fA gA => ?_)
        have ft : Fr [r] H' HA := fz.nil.trans (f8.nil.trans (f9.nil.trans fA))
        refine ⟨_, _, _, rfl, gA, ?_, ff.trans ft⟩
        rw [take_snoc ht, List.map_append]
        refine AllStp.app (hv'.mono ft) ⟨⟨d, rfl, ?_⟩, trivial⟩
        have := fA.gett g9
        show HA d = some (.tup (.int (ns.getD t.box 0 : Nat) :: (ren (fun j => ns.getD j 0) t.rest).vals))
        rw [ez]
        exact this
      cases zs with
      | nil =>
        refine w_catT0 (SqT.of g8) (SqT.of (f8.get0 gz)) (by simp) (by simp) ?_
        walk_at "wk"
        exact out cp H8 .refl g8
      | cons z0 zr =>
        refine w_catT (SqT.of g8) (SqT.of (f8.get0 gz)) (by simp) (by simp) ?_ (fun d H9 n9 f9 g9 => ?_)
        · have := vals_len (ren (fun j => ns.getD j 0) t.rest)
          rw [ez] at this
          simp only [List.length_cons, List.length_nil] at this ⊢
          omega
        walk_at "wk"
        exact out d H9 f9 g9
    rcases hsp with ⟨e1, e2, e3⟩ | ⟨e1, e2, e3, e4⟩
    · rw [e1]
      walk_at "wk"
      exact fin zp tl H5 f45 (f5.get0 g4) e3
    · rw [e1]
      walk_at "wk"
      refine w_slT (SqT.of (f45.get0 hp)) (tail2_not _ _ _) (cut_tail2 _ _ _) (fun zq H6 n6 f6 g6 => ?_)
      walk_at "wk"
      have ho6 := f6.get0 (f45.get0 ho')
      refine lcT (xs := tl) (fun D q acc H' => acc = (t.rest.bxs.take q).map (fun b => V.int (ns.getD b 0 : Nat)) ∧ Fr [D] H6 H') (fun D H' hD f g => ⟨by simp, f.nil⟩) (fun D q acc H' hD ⟨_, f⟩ => SqT.of (f.gett g6)) (fun D q x acc H' hD hx hlt ha hA ⟨e, f⟩ => ?_) (fun D acc H7 hD hA hn ⟨e, f⟩ => ?_)
      · rw [e2, List.getElem?_map, Option.map_eq_some_iff] at hx
        obtain ⟨b, hb2, rfl⟩ := hx
        have hbm := hb.2 b (List.mem_of_getElem? hb2)
        have noD : o ≠ D := (nn_l hD ho6).symm
        walk_at "wk"
        refine w_ixL (SqL.of (f.getl (ni1 noD) ho6)) (atI_nat (nats_at hbm)) ?_
        refine lcE (acc := acc) hA ha (by omega) (fun H5 f5 g5 => ⟨?_, by walk_at "fr"⟩)
        rw [take_snoc hb2, List.map_append, e]
        rfl
      · rw [e2, List.length_map, List.take_length] at e
        have f0 : Fr [] H6 H7 := f.drop hD
        walk_at "wk"
        refine w_tupOf (SqL.of hA) (fun sp H8 n8 f8 g8 => ?_)
        walk_at "wk"
        rw [e] at g8
        exact fin sp _ H8 (f45.trans (f6.trans (f0.trans f8))) g8 e4
  · rintro σ H' ⟨o3, o4, vs', rfl, hr', hv', ff⟩
    rw [ul, List.take_length] at hv'
    walk_at "wk"
    exact k r vs' H' n1 hr' hv' ((f1.nil.trans ff).drop n1)
end
end My
namespace My
open PySem L2 Wk
local macro_rules | `(tactic| walk_at "hs") => `(tactic| first
  | assumption
  | (apply fr_st0; (case f => assumption); (case h => walk_at "hs"))
  | (apply fr_st1; (case f => assumption); (case n => walk_at "ne"); (case hw => first | assumption | exact List.mem_cons_self); (case h => walk_at "hs"))
  | fail "none")
local macro_rules | `(tactic| walk_at "nn") => `(tactic| first
  | (apply nn_st; (case n => assumption); (case h => walk_at "hs"))
  | (apply nn_l; (case n => assumption); (case h => walk_at "hp"))
  | (apply nn_d; (case n => assumption); (case h => walk_at "hp"))
  | (apply nn_i; (case n => assumption); (case h => walk_at "hp"))
  | fail "none")
local macro_rules | `(tactic| walk_at "su") => `(tactic| first
  | assumption
  | (apply fr_su; (case f => assumption); (case h => walk_at "su"))
  | fail "none")
local macro_rules | `(tactic| walk_at "as") => `(tactic| first
  | assumption
  | (apply fr_as; (case f => assumption); (case h => walk_at "as"))
  | fail "none")
local macro_rules | `(tactic| walk_at "ef") => `(tactic| first
  | assumption
  | (apply fr_ef0; (case f => assumption); (case h => walk_at "ef"))
  | (apply fr_ef; (case f => assumption); (case n1 => walk_at "ni"); (case n2 => walk_at "ni"); (case n3 => walk_at "ni"); (case h => walk_at "ef"))
  | fail "none")
local macro_rules | `(tactic| walk_at "td") => `(tactic| first
  | assumption
  | (apply fr_td0; (case f => assumption); (case h => walk_at "td"))
  | (apply fr_td; (case f => assumption); (case n1 => walk_at "ni"); (case n2 => walk_at "ni"); (case n3 => walk_at "ni"); (case h => walk_at "td"))
  | fail "none")
local macro_rules | `(tactic| walk_at "sk") => `(tactic| first
  | assumption
  | (apply fr_stk; (case f => assumption); (case a => walk_at "sk"))
  | fail "none")
local macro_rules | `(tactic| walk_at "al") => `(tactic| first
  | assumption
  | (apply fr_al; (case f => assumption); (case h => walk_at "al"))
  | fail "none")
local macro_rules | `(tactic| walk_at "nv") => `(tactic| first
  | assumption
  | (apply fr_nv; (case a => assumption); (case n => walk_at "ni"); (case h => walk_at "nv"))
  | fail "none")
local macro_rules | `(tactic| walk_at "ne") => `(tactic| first
  | assumption
  | (apply Ne.symm; assumption)
  | walk_at "nn"
  | (apply Ne.symm; walk_at "nn")
  | fail "none")
local macro_rules | `(tactic| walk_at "ni") => `(tactic| first
  | exact List.not_mem_nil
  | (apply ni1; walk_at "ne")
  | (apply ni2 <;> walk_at "ne")
  | (apply ni3 <;> walk_at "ne")
  | fail "none")
local macro_rules | `(tactic| walk_at "hp") => `(tactic| first
  | assumption
  | (apply Fr.gett; (case a => assumption); (case h => walk_at "hp"))
  | (apply Fr.getl; (case a => assumption); (case n => walk_at "ni"); (case h => walk_at "hp"))
  | (apply Fr.getd; (case a => assumption); (case n => walk_at "ni"); (case h => walk_at "hp"))
  | (apply Fr.geti; (case a => assumption); (case n => walk_at "ni"); (case h => walk_at "hp"))
  | fail "none")
local macro_rules | `(tactic| walk_at "sqs") => `(tactic| first
  | assumption
  | (apply Fr.sqln; (case a => assumption); (case n => walk_at "ni"); (case h => walk_at "sqs"))
  | fail "none")
local macro_rules | `(tactic| walk_at "sq") => `(tactic| first
  | assumption
  | (apply SqL.of; walk_at "hp")
  | (apply SqT.of; walk_at "hp")
  | walk_at "sqs"
  | fail "none")
local macro_rules | `(tactic| walk_at "fr") => `(tactic| first
  | exact Fr.refl
  | assumption
  | (apply Fr.mono; (case a => assumption); (case h => simp))
  | (apply fr_last; (case f => assumption); (case w => simp); (case g => walk_at "fr"))
  | fail "none")
local macro_rules | `(tactic| walk_at "st") => `(tactic| ((try dsimp only [cxOf, Cx.nox, Cx.wish]); (try simp only [L2.start, List.map_cons, List.map_nil, List.length_cons, List.length_nil, List.replicate, List.cons_append, List.nil_append, Nat.reduceAdd, Nat.reduceSub])))
local macro_rules | `(tactic| walk_at "lset") => `(tactic| (simp only [wipe, List.map_cons, List.map_nil, Int.reduceToNat, List.set_cons_zero, List.set_cons_succ] <;> rfl))
local macro_rules | `(tactic| walk_at "wk1") => `(tactic| first
  | with_reducible refine' w_seq ?_
  | with_reducible refine' w_asg ?_
  | ((with_reducible refine' w_name ?hs ?_); (case hs => walk_at "lset"))
  | ((with_reducible refine' w_var ?hv ?_); (case hv => rfl))
  | with_reducible refine' w_c ?_
  | with_reducible refine' w_op ?_
  | with_reducible refine' w_un ?_
  | with_reducible refine' w_test ?_
  | with_reducible refine' w_tB ?_
  | with_reducible refine' w_exbl ?_
  | with_reducible refine' w_exint ?_
  | with_reducible refine' w_t ?_
  | with_reducible refine' w_f ?_
  | with_reducible refine' w_ifS ?_
  | with_reducible refine' w_if ?_
  | with_reducible refine' w_and ?_
  | with_reducible refine' w_or ?_
  | with_reducible refine' w_not ?_
  | with_reducible refine' w_andV ?_
  | with_reducible refine' w_orV ?_
  | with_reducible refine' w_notV ?_
  | with_reducible refine' w_ret ?_
  | with_reducible refine' w_retN ?_
  | with_reducible refine' w_drop ?_
  | with_reducible refine' w_next ?_
  | with_reducible refine' w_nil ?_
  | with_reducible refine' w_cons ?_
  | with_reducible refine' w_cb ?_
  | with_reducible refine' w_call ?_
  | with_reducible refine' w_gsub ?_
  | with_reducible refine' w_gnil ?_
  | with_reducible refine' w_gcons ?_
  | ((with_reducible refine' w_gtup ?hs ?hn ?_); (case hs => walk_at "sq"); (case hn => rfl))
  | with_reducible refine' w_fld ?_
  | with_reducible refine' w_tfld ?_
  | with_reducible refine' w_sl ?_
  | with_reducible refine' w_nopart ?_
  | with_reducible refine' w_part ?_
  | with_reducible refine' w_bm ?_
  | with_reducible refine' w_bm0 ?_
  | with_reducible refine' w_yes ?_
  | with_reducible refine' w_tup ?_
  | with_reducible refine' w_lst ?_
  | with_reducible refine' w_I0 ?_
  | ((with_reducible refine' w_I ?hc ?_); (case hc => (first | (show (0 : Int) < _; first | decide | omega | assumption) | exact wide_div (by first | assumption | decide) (b := 200) (by first | assumption | decide) (by decide) (by decide) | exact wide_mul (a := 64) (b := 64) (by omega) (by omega) (by decide) (by decide) (by decide) | exact ⟨by decide, by decide, by decide⟩)))
  | ((with_reducible refine' w_eq ?he ?_); (case he => rfl))
  | ((with_reducible refine' w_ne ?he ?_); (case he => rfl))
  | ((with_reducible refine' w_ixL ?hs ?ha ?_); (case hs => walk_at "sq"); (case ha => rfl))
  | ((with_reducible refine' w_ixT ?hs ?ha ?_); (case hs => walk_at "sq"); (case ha => rfl))
  | ((with_reducible refine' w_lenL ?hs ?he ?_); (case hs => walk_at "sq"); (case he => first | (simp only [List.length_cons, List.length_nil, List.length_map]; rfl) | rfl))
  | ((with_reducible refine' w_lenT ?hs ?he ?_); (case hs => walk_at "sq"); (case he => first | (simp only [List.length_cons, List.length_nil, List.length_map]; rfl) | rfl))
  | ((with_reducible refine' w_setL ?hh ?hk ?he (fun H1 f1 g1 => ?_)); (case hh => walk_at "hp"); (case hk => rfl); (case he => walk_at "lset"))
  | ((with_reducible refine' w_newT ?hl (fun p H1 n1 f1 g1 => ?_)); (case hl => (first | decide | (simp only [List.length_cons, List.length_nil]; decide))))
  | ((with_reducible refine' w_newL ?hl (fun p H1 n1 f1 g1 => ?_)); (case hl => (first | decide | (simp only [List.length_cons, List.length_nil]; decide))))
  | with_reducible refine' w_for ?_
  | with_reducible refine' w_ilist ?_
  | ((with_reducible refine' w_ilb ?hs ?_); (case hs => walk_at "sq"))
  | with_reducible refine' w_itup ?_
  | ((with_reducible refine' w_itb ?hs ?_); (case hs => walk_at "sq"))
  | with_reducible refine' w_rng1 ?_
  | ((with_reducible refine' w_rgb1 ?h0 ?h1 ?_); (case h0 => first | decide | omega); (case h1 => first | decide | omega))
  | with_reducible refine' w_lc ?_
  | ((with_reducible refine' w_wipe ?hw ?_); (case hw => rfl))
  | ((with_reducible refine' w_cat ?ha ?hb ?hl (fun p H1 n1 f1 g1 => ?_)); (case ha => walk_at "hp"); (case hb => walk_at "hp"); (case hl => (first | decide | (simp only [List.length_cons, List.length_nil]; decide))))
  | with_reducible refine' w_dget ?_
  | with_reducible refine' w_din ?_
  | with_reducible refine' w_dnotin ?_
  | with_reducible refine' w_dput ?_
  | with_reducible refine' w_dnew ?_
  | with_reducible refine' w_newD (fun p H1 n1 f1 g1 => ?_)
  | ((with_reducible refine' w_slT ?hs ?hn ?he (fun p H1 n1 f1 g1 => ?_)); (case hs => walk_at "sq"); (case hn => decide); (case he => rfl))
  | with_reducible refine' w_meth ?_
  | with_reducible refine' w_make ?_
  | with_reducible refine' w_mkb (fun x dx H1 n1 m1 d1 f1 g1 => ?_)
  | with_reducible refine' w_fldaug ?_
  | with_reducible refine' w_tru ?_
  | ((with_reducible refine' w_trl ?hh ?_); (case hh => walk_at "hp"))
  | with_reducible refine' w_whb ?_
  | with_reducible refine' w_chain ?_
  | with_reducible refine' w_tyIs ?_
  | with_reducible refine' w_raise ?_
  | with_reducible refine' w_rab ?_
  | with_reducible refine' w_jn ?_
  | with_reducible refine' w_js ?_
  | with_reducible refine' w_jsn ?_
  | with_reducible refine' w_fmt ?_
  | with_reducible refine' w_isN ?_
  | with_reducible refine' w_intB ?_
  | with_reducible refine' w_istr ?_
  | with_reducible refine' w_stb ?_
  | ((with_reducible refine' w_inT ?hs ?hx ?ha ?_); (case hs => walk_at "sq"); (case hx => rfl); (case ha => rfl))
  | ((with_reducible refine' w_isf ?hd ?_); (case hd => decide +kernel))
  | ((with_reducible refine' w_ist ?hd ?_); (case hd => decide +kernel))
  | with_reducible refine' w_enumT ?_
  | ((with_reducible refine' w_enb ?hs ?_); (case hs => walk_at "sq"))
  | with_reducible refine' w_star ?_
  | ((with_reducible refine' w_stT ?hs ?_); (case hs => walk_at "sq"))
  | ((with_reducible refine' w_stL ?hs ?_); (case hs => walk_at "sq"))
  | with_reducible refine' w_par ?_
  | ((with_reducible refine' w_parb ?he ?_); (case he => walk_at "lset"))
  | with_reducible refine' w_enumL ?_
  | ((with_reducible refine' w_enlb ?hs ?_); (case hs => walk_at "sq"))
  | with_reducible refine' w_revL ?_
  | ((with_reducible refine' w_revb ?hs (fun p H1 n1 f1 g1 => ?_)); (case hs => walk_at "sq"))
  | with_reducible refine' w_max2 ?_
  | with_reducible refine' w_min2 ?_
  | with_reducible refine' w_lrg2 ?_
  | with_reducible refine' w_scI ?_
  | fail "none")
local macro_rules | `(tactic| walk_at "wk") => `(tactic| repeat walk_at "wk1")

theorem sc_law_kind : FnScope ["_law_work", "e", "_law_kinds", "_law_words", "_law_word"] ["_law_work"] (defScope s_law_kind) := ⟨rfl, rfl, rfl, by decide +kernel, rfl, by decide +kernel, by decide +kernel⟩
theorem kind_suite {P : Program} {w : World} {K : PySem.W.Frag} {mg : Str → Option Value} {base : Heap} {g : Addr} {cdg : Value} {A : Around} {stack : List Env} {s : Shared} {H0 : Hp} {ad : KAd} (Z : Blt mg) (T : KMg mg ad) :
    ∃ ts : Addr → Value → Option Addr → TS, (∀ (a : Addr) (oe : Obj) (cls : Value) (d : Option Addr) (pn : List (Addr × Obj)), Zc cls d oe → (∃ vs, oe.data = .fields vs) →
      PSs ((cxOf C8.CX0 P w K mg base ["_law_work", "e", "_law_kinds", "_law_words", "_law_word"] "_law_kind" (defScope s_law_kind) g cdg A stack s H0 C8.E0).nox.suite a ((a, oe) :: pn)) (suiteOf (defBody s_law_kind)) (ts a cls d)) ∧
    ∀ (a D : Addr) (i : Nat) (σ' : St) (H : Hp) (Dn : Ends), KindT K ad D i → plainK i → σ'.length = 5 → (∀ H', Fr [] H H' → Dn.rt (.str (kw i)) H') → ts a (.ref D) none Dn (σ'.set 1 (some (.ref a))) H := by
  refine ⟨_, fun a oe cls d pn hz hf => (pss_cons (ps_set (i := 2) sc_law_kind.nd rfl (Or.inl rfl) (pe_lst (pa_cons (pe_callB (id := "isinstance") (r := rIsX K cls d a) (call_isX hz hf) (by rfl) Z.isinstance (by decide +kernel) (pa_cons (pv 1) (pa_cons (pe_globR rfl T.m_BadSum) pa_nil))) (pa_cons (pe_callB (id := "isinstance") (r := rIsX K cls d a) (call_isX hz hf) (by rfl) Z.isinstance (by decide +kernel) (pa_cons (pv 1) (pa_cons (pe_globR rfl T.m_BadSteps) pa_nil))) (pa_cons (pe_callB (id := "isinstance") (r := rIsX K cls d a) (call_isX hz hf) (by rfl) Z.isinstance (by decide +kernel) (pa_cons (pv 1) (pa_cons (pe_globR rfl T.m_NoName) pa_nil))) (pa_cons (pe_callB (id := "isinstance") (r := rIsX K cls d a) (call_isX hz hf) (by rfl) Z.isinstance (by decide +kernel) (pa_cons (pv 1) (pa_cons (pe_globR rfl T.m_NoMore) pa_nil))) pa_nil))))))
  (pss_cons (ps_set (i := 2) sc_law_kind.nd rfl (Or.inl rfl) (pe_op op_cat (pv 2) (pe_lst (pa_cons (pe_callB (id := "isinstance") (r := rIsX K cls d a) (call_isX hz hf) (by rfl) Z.isinstance (by decide +kernel) (pa_cons (pv 1) (pa_cons (pe_globR rfl T.m_NoSum) pa_nil))) (pa_cons (pe_callB (id := "isinstance") (r := rIsX K cls d a) (call_isX hz hf) (by rfl) Z.isinstance (by decide +kernel) (pa_cons (pv 1) (pa_cons (pe_globR rfl T.m_BadText) pa_nil))) pa_nil)))))
  (pss_cons (ps_set (i := 3) sc_law_kind.nd rfl (Or.inl rfl) (pe_lst (pa_cons pe_str (pa_cons pe_str (pa_cons pe_str (pa_cons pe_str (pa_cons pe_str (pa_cons pe_str pa_nil))))))))
  (pss_cons (ps_if (PW.pt (pw_or (pt_cmpR op_ne (pe_bmK (K := K) (by rfl) PySem.F.plainAttrs_list PySem.F.slot_list_count PySem.F.type_list_count (r := rCntF K) (mt_countK (by rfl)) (pv 2) (pa_cons pe_bl pa_nil)) pe_int (nomark _)) (pw_or1 (pt_not (pt_val (pe_callB (id := "isinstance") (r := rIsX K cls d a) (call_isX hz hf) (by rfl) Z.isinstance (by decide +kernel) (pa_cons (pv 1) (pa_cons (pe_bltn (v := .ty "ValueError") (u := .type "ValueError") rfl T.ve (by decide +kernel) rfl) pa_nil))) (fun _ => rfl)))))) (pss_one (ps_ret pe_str)) pss_nil)
  (pss_cons (ps_set (i := 4) sc_law_kind.nd rfl (Or.inl rfl) (pe_ix (r := rIxL K) ix_list (pv 3) (pe_bmK (K := K) (by rfl) PySem.F.plainAttrs_list PySem.F.slot_list_index PySem.F.type_list_index (r := rIndex K) (mt_indexK (by rfl)) (pv 2) (pa_cons pe_bl pa_nil)) (fun _ _ => rfl)))
  (pss_cons (ps_if (pt_cmpR op_eq (pv 4) pe_str (nomark _)) (pss_one (ps_ret (pe_tup (pa_cons (pv 4) (pa_cons pe_never pa_nil))))) pss_nil)
  (pss_one (ps_ret (pe_ifExp (pt_cmpR op_eq (pv 4) pe_str (nomark _)) (pe_tup (pa_cons (pv 4) (pa_cons pe_never pa_nil))) (pv 4)))))))))), ?_⟩
  intro a D i σ' H Dn KT hi hl k
  obtain ⟨nx, rt, bk, ct⟩ := Dn
  obtain ⟨x0, x1, x2, x3, x4, rfl⟩ := len5 hl
  simp only [List.set_cons_zero, List.set_cons_succ]
  rcases hi with rfl | rfl | rfl | rfl
  · walk_at "wk"
    refine w_isXr KT.exc KT.k0 ?_
    walk_at "wk"
    refine w_isXr KT.exc KT.k1 ?_
    walk_at "wk"
    refine w_isXr KT.exc KT.k2 ?_
    walk_at "wk"
    refine w_isXr KT.exc KT.k3 ?_
    walk_at "wk"
    refine w_isXr KT.exc KT.k4 ?_
    walk_at "wk"
    refine w_isXr KT.exc KT.k5 ?_
    walk_at "wk"
    rename_i p1 H1 n1 f1 g1 p2 H2 n2 f2 g2 p3 H3 n3 f3 g3 p4 H4 n4 f4 g4
    have g34 := f4.get0 g3
    refine w_tyl g34 ?_
    walk_at "wk"
    refine w_cntF (SqL.of g34) rfl rfl (c := 1) (by decide) ?_
    walk_at "wk"
    refine w_isXt KT.exc KT.val ?_
    walk_at "wk"
    refine w_tyl g34 ?_
    walk_at "wk"
    refine w_index (SqL.of g34) rfl rfl (j := 0) (z := .bl true) rfl (by decide) (by decide) ?_
    walk_at "wk"
    exact k _ (f1.trans (f2.trans (f3.trans f4)))
  · walk_at "wk"
    refine w_isXr KT.exc KT.k0 ?_
    walk_at "wk"
    refine w_isXr KT.exc KT.k1 ?_
    walk_at "wk"
    refine w_isXr KT.exc KT.k2 ?_
    walk_at "wk"
    refine w_isXr KT.exc KT.k3 ?_
    walk_at "wk"
    refine w_isXr KT.exc KT.k4 ?_
    walk_at "wk"
    refine w_isXr KT.exc KT.k5 ?_
    walk_at "wk"
    rename_i p1 H1 n1 f1 g1 p2 H2 n2 f2 g2 p3 H3 n3 f3 g3 p4 H4 n4 f4 g4
    have g34 := f4.get0 g3
    refine w_tyl g34 ?_
    walk_at "wk"
    refine w_cntF (SqL.of g34) rfl rfl (c := 1) (by decide) ?_
    walk_at "wk"
    refine w_isXt KT.exc KT.val ?_
    walk_at "wk"
    refine w_tyl g34 ?_
    walk_at "wk"
    refine w_index (SqL.of g34) rfl rfl (j := 2) (z := .bl true) rfl (by decide) (by decide) ?_
    walk_at "wk"
    exact k _ (f1.trans (f2.trans (f3.trans f4)))
  · walk_at "wk"
    refine w_isXr KT.exc KT.k0 ?_
    walk_at "wk"
    refine w_isXr KT.exc KT.k1 ?_
    walk_at "wk"
    refine w_isXr KT.exc KT.k2 ?_
    walk_at "wk"
    refine w_isXr KT.exc KT.k3 ?_
    walk_at "wk"
    refine w_isXr KT.exc KT.k4 ?_
    walk_at "wk"
    refine w_isXr KT.exc KT.k5 ?_
    walk_at "wk"
    rename_i p1 H1 n1 f1 g1 p2 H2 n2 f2 g2 p3 H3 n3 f3 g3 p4 H4 n4 f4 g4
    have g34 := f4.get0 g3
    refine w_tyl g34 ?_
    walk_at "wk"
    refine w_cntF (SqL.of g34) rfl rfl (c := 1) (by decide) ?_
    walk_at "wk"
    refine w_isXt KT.exc KT.val ?_
    walk_at "wk"
    refine w_tyl g34 ?_
    walk_at "wk"
    refine w_index (SqL.of g34) rfl rfl (j := 3) (z := .bl true) rfl (by decide) (by decide) ?_
    walk_at "wk"
    exact k _ (f1.trans (f2.trans (f3.trans f4)))
  · walk_at "wk"
    refine w_isXr KT.exc KT.k0 ?_
    walk_at "wk"
    refine w_isXr KT.exc KT.k1 ?_
    walk_at "wk"
    refine w_isXr KT.exc KT.k2 ?_
    walk_at "wk"
    refine w_isXr KT.exc KT.k3 ?_
    walk_at "wk"
    refine w_isXr KT.exc KT.k4 ?_
    walk_at "wk"
    refine w_isXr KT.exc KT.k5 ?_
    walk_at "wk"
    rename_i p1 H1 n1 f1 g1 p2 H2 n2 f2 g2 p3 H3 n3 f3 g3 p4 H4 n4 f4 g4
    have g34 := f4.get0 g3
    refine w_tyl g34 ?_
    walk_at "wk"
    refine w_cntF (SqL.of g34) rfl rfl (c := 1) (by decide) ?_
    walk_at "wk"
    refine w_isXt KT.exc KT.val ?_
    walk_at "wk"
    refine w_tyl g34 ?_
    walk_at "wk"
    refine w_index (SqL.of g34) rfl rfl (j := 4) (z := .bl true) rfl (by decide) (by decide) ?_
    walk_at "wk"
    exact k _ (f1.trans (f2.trans (f3.trans f4)))
theorem kind_gives {X : Cx} {g : Addr} {cdg : Value} {q : Str} {ad : KAd} (Z : Blt X.mg) (T : KMg X.mg ad) :
    LamX.GivesTo X ["_law_work", "e", "_law_kinds", "_law_words", "_law_word"] "_law_kind" (defScope s_law_kind) g cdg (defBody s_law_kind) "_law_work" q (TTk X.K ad) := by
  intro f c' s H Q tl act hc h
  obtain ⟨ts, h1, h2⟩ := kind_suite (P := X.prog) (w := X.w) (K := X.K) (mg := X.mg) (base := X.base) (g := g) (cdg := cdg) (A := X.A) (stack := X.stack) (s := s) (H0 := H) (ad := ad) Z T
  refine ⟨_, pss_one (ps_try_as (X := (cxOf C8.CX0 X.prog X.w X.K X.mg X.base ["_law_work", "e", "_law_kinds", "_law_words", "_law_word"] "_law_kind" (defScope s_law_kind) g cdg X.A X.stack s H C8.E0).nox) (x := "StepError") (n := "e") (c := .ref ad.stepError) (i := 1)
      (tb := fun W D σ H => ∃ Ech : XK, (∀ cls d σ' H', σ'.length = 5 → Ech cls d H' → W cls d σ' H') ∧ σ[0]? = some (some (.ref f)) ∧ H c' = some (LamX.CodeO c' q) ∧ tl Ech H D.rt) (ts := ts)
      rfl rfl sc_law_kind.nd rfl rfl ⟨rfl, by decide, .inl T.m_StepError⟩ LamX.takes0 (fun W pn xe tk _ => ?_) h1), ?_⟩
  · refine ⟨fun pins s' σ H' D I h' => ?_⟩
    obtain ⟨Ech, hW, h1, h2, h3⟩ := h'
    have hp := act (fun cls d σ H => σ.length = 5 → W cls d σ H) pn xe Ech ⟨203, 15, 203, 24⟩ ⟨203, 15, 203, 26⟩ (takes_len rfl tk) fun cls d σ' H' z hl => hW cls d σ' H' hl z
    exact (pss_one (ps_ret (pos := ⟨203, 8, 203, 26⟩) hp)).run pins s' σ H' D I ⟨h1, h2, h3⟩
  · refine ⟨_, fun cls d σ' H' hl z => ?_, rfl, hc, h⟩
    obtain ⟨rfl, D, i, rfl, KT, hi, kk⟩ := z
    exact ⟨true, KT.err, fun _ a _ => h2 a D i σ' H' _ KT hi hl kk, fun e => by cases e⟩
end My
namespace My
open PySem L2 Wk
local macro_rules | `(tactic| walk_at "hs") => `(tactic| first
  | assumption
  | (apply fr_st0; (case f => assumption); (case h => walk_at "hs"))
  | (apply fr_st1; (case f => assumption); (case n => walk_at "ne"); (case hw => first | assumption | exact List.mem_cons_self); (case h => walk_at "hs"))
  | fail "none")
local macro_rules | `(tactic| walk_at "nn") => `(tactic| first
  | (apply nn_st; (case n => assumption); (case h => walk_at "hs"))
  | (apply nn_l; (case n => assumption); (case h => walk_at "hp"))
  | (apply nn_d; (case n => assumption); (case h => walk_at "hp"))
  | (apply nn_i; (case n => assumption); (case h => walk_at "hp"))
  | fail "none")
local macro_rules | `(tactic| walk_at "su") => `(tactic| first
  | assumption
  | (apply fr_su; (case f => assumption); (case h => walk_at "su"))
  | fail "none")
local macro_rules | `(tactic| walk_at "as") => `(tactic| first
  | assumption
  | (apply fr_as; (case f => assumption); (case h => walk_at "as"))
  | fail "none")
local macro_rules | `(tactic| walk_at "ef") => `(tactic| first
  | assumption
  | (apply fr_ef0; (case f => assumption); (case h => walk_at "ef"))
  | (apply fr_ef; (case f => assumption); (case n1 => walk_at "ni"); (case n2 => walk_at "ni"); (case n3 => walk_at "ni"); (case h => walk_at "ef"))
  | fail "none")
local macro_rules | `(tactic| walk_at "td") => `(tactic| first
  | assumption
  | (apply fr_td0; (case f => assumption); (case h => walk_at "td"))
  | (apply fr_td; (case f => assumption); (case n1 => walk_at "ni"); (case n2 => walk_at "ni"); (case n3 => walk_at "ni"); (case h => walk_at "td"))
  | fail "none")
local macro_rules | `(tactic| walk_at "sk") => `(tactic| first
  | assumption
  | (apply fr_stk; (case f => assumption); (case a => walk_at "sk"))
  | fail "none")
local macro_rules | `(tactic| walk_at "al") => `(tactic| first
  | assumption
  | (apply fr_al; (case f => assumption); (case h => walk_at "al"))
  | fail "none")
local macro_rules | `(tactic| walk_at "nv") => `(tactic| first
  | assumption
  | (apply fr_nv; (case a => assumption); (case n => walk_at "ni"); (case h => walk_at "nv"))
  | fail "none")
local macro_rules | `(tactic| walk_at "ne") => `(tactic| first
  | assumption
  | (apply Ne.symm; assumption)
  | walk_at "nn"
  | (apply Ne.symm; walk_at "nn")
  | fail "none")
local macro_rules | `(tactic| walk_at "ni") => `(tactic| first
  | exact List.not_mem_nil
  | (apply ni1; walk_at "ne")
  | (apply ni2 <;> walk_at "ne")
  | (apply ni3 <;> walk_at "ne")
  | fail "none")
local macro_rules | `(tactic| walk_at "hp") => `(tactic| first
  | assumption
  | (apply Fr.gett; (case a => assumption); (case h => walk_at "hp"))
  | (apply Fr.getl; (case a => assumption); (case n => walk_at "ni"); (case h => walk_at "hp"))
  | (apply Fr.getd; (case a => assumption); (case n => walk_at "ni"); (case h => walk_at "hp"))
  | (apply Fr.geti; (case a => assumption); (case n => walk_at "ni"); (case h => walk_at "hp"))
  | fail "none")
local macro_rules | `(tactic| walk_at "sqs") => `(tactic| first
  | assumption
  | (apply Fr.sqln; (case a => assumption); (case n => walk_at "ni"); (case h => walk_at "sqs"))
  | fail "none")
local macro_rules | `(tactic| walk_at "sq") => `(tactic| first
  | assumption
  | (apply SqL.of; walk_at "hp")
  | (apply SqT.of; walk_at "hp")
  | walk_at "sqs"
  | fail "none")
local macro_rules | `(tactic| walk_at "fr") => `(tactic| first
  | exact Fr.refl
  | assumption
  | (apply Fr.mono; (case a => assumption); (case h => simp))
  | (apply fr_last; (case f => assumption); (case w => simp); (case g => walk_at "fr"))
  | fail "none")
local macro_rules | `(tactic| walk_at "st") => `(tactic| ((try dsimp only [cxOf, Cx.nox, Cx.wish]); (try simp only [L2.start, List.map_cons, List.map_nil, List.length_cons, List.length_nil, List.replicate, List.cons_append, List.nil_append, Nat.reduceAdd, Nat.reduceSub])))
local macro_rules | `(tactic| walk_at "lset") => `(tactic| (simp only [wipe, List.map_cons, List.map_nil, Int.reduceToNat, List.set_cons_zero, List.set_cons_succ] <;> rfl))
local macro_rules | `(tactic| walk_at "wk1") => `(tactic| first
  | with_reducible refine' w_seq ?_
  | with_reducible refine' w_asg ?_
  | ((with_reducible refine' w_name ?hs ?_); (case hs => walk_at "lset"))
  | ((with_reducible refine' w_var ?hv ?_); (case hv => rfl))
  | with_reducible refine' w_c ?_
  | with_reducible refine' w_op ?_
  | with_reducible refine' w_un ?_
  | with_reducible refine' w_test ?_
  | with_reducible refine' w_tB ?_
  | with_reducible refine' w_exbl ?_
  | with_reducible refine' w_exint ?_
  | with_reducible refine' w_t ?_
  | with_reducible refine' w_f ?_
  | with_reducible refine' w_ifS ?_
  | with_reducible refine' w_if ?_
  | with_reducible refine' w_and ?_
  | with_reducible refine' w_or ?_
  | with_reducible refine' w_not ?_
  | with_reducible refine' w_andV ?_
  | with_reducible refine' w_orV ?_
  | with_reducible refine' w_notV ?_
  | with_reducible refine' w_ret ?_
  | with_reducible refine' w_retN ?_
  | with_reducible refine' w_drop ?_
  | with_reducible refine' w_next ?_
  | with_reducible refine' w_nil ?_
  | with_reducible refine' w_cons ?_
  | with_reducible refine' w_cb ?_
  | with_reducible refine' w_call ?_
  | with_reducible refine' w_gsub ?_
  | with_reducible refine' w_gnil ?_
  | with_reducible refine' w_gcons ?_
  | ((with_reducible refine' w_gtup ?hs ?hn ?_); (case hs => walk_at "sq"); (case hn => rfl))
  | with_reducible refine' w_fld ?_
  | with_reducible refine' w_tfld ?_
  | with_reducible refine' w_sl ?_
  | with_reducible refine' w_nopart ?_
  | with_reducible refine' w_part ?_
  | with_reducible refine' w_bm ?_
  | with_reducible refine' w_bm0 ?_
  | with_reducible refine' w_yes ?_
  | with_reducible refine' w_tup ?_
  | with_reducible refine' w_lst ?_
  | with_reducible refine' w_I0 ?_
  | ((with_reducible refine' w_I ?hc ?_); (case hc => (first | (show (0 : Int) < _; first | decide | omega | assumption) | exact wide_div (by first | assumption | decide) (b := 200) (by first | assumption | decide) (by decide) (by decide) | exact wide_mul (a := 64) (b := 64) (by omega) (by omega) (by decide) (by decide) (by decide) | exact ⟨by decide, by decide, by decide⟩)))
  | ((with_reducible refine' w_eq ?he ?_); (case he => rfl))
  | ((with_reducible refine' w_ne ?he ?_); (case he => rfl))
  | ((with_reducible refine' w_ixL ?hs ?ha ?_); (case hs => walk_at "sq"); (case ha => rfl))
  | ((with_reducible refine' w_ixT ?hs ?ha ?_); (case hs => walk_at "sq"); (case ha => rfl))
  | ((with_reducible refine' w_lenL ?hs ?he ?_); (case hs => walk_at "sq"); (case he => first | (simp only [List.length_cons, List.length_nil, List.length_map]; rfl) | rfl))
  | ((with_reducible refine' w_lenT ?hs ?he ?_); (case hs => walk_at "sq"); (case he => first | (simp only [List.length_cons, List.length_nil, List.length_map]; rfl) | rfl))
  | ((with_reducible refine' w_setL ?hh ?hk ?he (fun H1 f1 g1 => ?_)); (case hh => walk_at "hp"); (case hk => rfl); (case he => walk_at "lset"))
  | ((with_reducible refine' w_newT ?hl (fun p H1 n1 f1 g1 => ?_)); (case hl => (first | decide | (simp only [List.length_cons, List.length_nil]; decide))))
  | ((with_reducible refine' w_newL ?hl (fun p H1 n1 f1 g1 => ?_)); (case hl => (first | decide | (simp only [List.length_cons, List.length_nil]; decide))))
  | with_reducible refine' w_for ?_
  | with_reducible refine' w_ilist ?_
  | ((with_reducible refine' w_ilb ?hs ?_); (case hs => walk_at "sq"))
  | with_reducible refine' w_itup ?_
  | ((with_reducible refine' w_itb ?hs ?_); (case hs => walk_at "sq"))
  | with_reducible refine' w_rng1 ?_
  | ((with_reducible refine' w_rgb1 ?h0 ?h1 ?_); (case h0 => first | decide | omega); (case h1 => first | decide | omega))
  | with_reducible refine' w_lc ?_
  | ((with_reducible refine' w_wipe ?hw ?_); (case hw => rfl))
  | ((with_reducible refine' w_cat ?ha ?hb ?hl (fun p H1 n1 f1 g1 => ?_)); (case ha => walk_at "hp"); (case hb => walk_at "hp"); (case hl => (first | decide | (simp only [List.length_cons, List.length_nil]; decide))))
  | with_reducible refine' w_dget ?_
  | with_reducible refine' w_din ?_
  | with_reducible refine' w_dnotin ?_
  | with_reducible refine' w_dput ?_
  | with_reducible refine' w_dnew ?_
  | with_reducible refine' w_newD (fun p H1 n1 f1 g1 => ?_)
  | ((with_reducible refine' w_slT ?hs ?hn ?he (fun p H1 n1 f1 g1 => ?_)); (case hs => walk_at "sq"); (case hn => decide); (case he => rfl))
  | with_reducible refine' w_meth ?_
  | with_reducible refine' w_make ?_
  | with_reducible refine' w_mkb (fun x dx H1 n1 m1 d1 f1 g1 => ?_)
  | with_reducible refine' w_fldaug ?_
  | with_reducible refine' w_tru ?_
  | ((with_reducible refine' w_trl ?hh ?_); (case hh => walk_at "hp"))
  | with_reducible refine' w_whb ?_
  | with_reducible refine' w_chain ?_
  | with_reducible refine' w_tyIs ?_
  | with_reducible refine' w_raise ?_
  | with_reducible refine' w_rab ?_
  | with_reducible refine' w_jn ?_
  | with_reducible refine' w_js ?_
  | with_reducible refine' w_jsn ?_
  | with_reducible refine' w_fmt ?_
  | with_reducible refine' w_isN ?_
  | with_reducible refine' w_intB ?_
  | with_reducible refine' w_istr ?_
  | with_reducible refine' w_stb ?_
  | ((with_reducible refine' w_inT ?hs ?hx ?ha ?_); (case hs => walk_at "sq"); (case hx => rfl); (case ha => rfl))
  | ((with_reducible refine' w_isf ?hd ?_); (case hd => decide +kernel))
  | ((with_reducible refine' w_ist ?hd ?_); (case hd => decide +kernel))
  | with_reducible refine' w_enumT ?_
  | ((with_reducible refine' w_enb ?hs ?_); (case hs => walk_at "sq"))
  | with_reducible refine' w_star ?_
  | ((with_reducible refine' w_stT ?hs ?_); (case hs => walk_at "sq"))
  | ((with_reducible refine' w_stL ?hs ?_); (case hs => walk_at "sq"))
  | with_reducible refine' w_par ?_
  | ((with_reducible refine' w_parb ?he ?_); (case he => walk_at "lset"))
  | with_reducible refine' w_enumL ?_
  | ((with_reducible refine' w_enlb ?hs ?_); (case hs => walk_at "sq"))
  | with_reducible refine' w_revL ?_
  | ((with_reducible refine' w_revb ?hs (fun p H1 n1 f1 g1 => ?_)); (case hs => walk_at "sq"))
  | with_reducible refine' w_max2 ?_
  | with_reducible refine' w_min2 ?_
  | with_reducible refine' w_lrg2 ?_
  | with_reducible refine' w_scI ?_
  | fail "none")
local macro_rules | `(tactic| walk_at "wk") => `(tactic| repeat walk_at "wk1")

section
variable {P : Program} {w : World} {K : PySem.W.Frag} {mg : Str → Option Value} {base : Heap} {a : Ad}
def TB0 (PT : Addr) : List (Addr × Str) := [(PT, (("law" : Str) ++ ".<locals>.") ++ "<lambda>")]
def spLaw (K : PySem.W.Frag) (PT : Addr) : Sp := fun vs H Q _ => ∃ (sc : Addr) (ns : List Int), vs = [.ref sc] ∧ SqL K H sc (ns.map V.int) ∧ LamX.Tabs (TB0 PT) H ∧ ∀ H', Q (.bl true) H'
theorem sc_law : FnScope ["_law_script", "_law_state", "_law_turn", "_law_part", "_law_left", "_law_order", "_law_plain", "_law_steps", "_law_handed", "_law_k", "_law_one", "_law_other", "_law_loud", "_law_found", "_law_box", "_law_step"] ["_law_script"] (defScope s_law) := ⟨rfl, rfl, rfl, by decide +kernel, rfl, by decide +kernel, by decide +kernel⟩
theorem ok_law {fl fk cl PT : Addr} {kd : KAd} {oc : Value} {od an : Option Addr} {osl : Array (Option Value)} {kV doc pm ct : Value} {oc2 : Value} {od2 an2 : Option Addr} {osl2 : Array (Option Value)} {kV2 doc2 pm2 cd2 ct2 : Value}
    (ll : K.lookup fl = some ⟨oc, od, .func (PySem.W.fnOf "law" "law" (defArgs s_law) (defBody s_law) (defScope s_law) .none kV doc pm an (.ref cl) ct), osl⟩) (lc : PySem.W.codeIn K (.ref cl) "law" = true)
    (lk : K.lookup fk = some ⟨oc2, od2, .func (PySem.W.fnOf "_law_kind" "_law_kind" (defArgs s_law_kind) (defBody s_law_kind) (defScope s_law_kind) .none kV2 doc2 pm2 an2 cd2 ct2), osl2⟩) (ck : PySem.W.codeIn K cd2 "_law_kind" = true)
    (bk : L2.Binds K (PySem.W.fnOf "_law_kind" "_law_kind" (defArgs s_law_kind) (defBody s_law_kind) (defScope s_law_kind) .none kV2 doc2 pm2 an2 cd2 ct2) ["_law_work"] []) (kk : PySem.W.keepIn K (.ref fk) = true) (mk : mg "_law_kind" = some (.ref fk))
    (Z : Blt mg) (TKm : KMg mg kd) (KS : KindT K kd a.noSum 4) (TB : LamX.TabB base mg cl PT) (D_law_start : Df P w K mg base CX0 1 "_law_start" ["_law_script"] (spStart K)) (D_law_drawn : Df P w K mg base CX0 1 "_law_drawn" ["_law_state", "_law_many"] (spDrawn K)) (D_law_any : Df P w K mg base CX0 18 "_law_any" ["_law_state"] (spAny K)) (D_law_moved : Df P w K mg base CX0 1 "_law_moved" ["_law_steps", "_law_order"] spMoved) (D_law_same : Df P w K mg base CX0 21 "_law_same" ["_law_found", "_law_due"] (spSame 20)) (D_least : Df P w K mg base CX0 60 "least" ["part"] spLeast) (D_tight : Df P w K mg base CX0 19 "tight" ["part"] spTight) (D_cut : Df P w K mg base CX0 19 "cut" ["part"] spCut) (D_put_back : Df P w K mg base (L2.CX P w) 6 "put_back" ["steps"] (spBack a.noSum)) :
    FnOk P w K mg base CX0 80 fl (PySem.W.fnOf "law" "law" (defArgs s_law) (defBody s_law) (defScope s_law) .none kV doc pm an (.ref cl) ct) ["_law_script"] (spLaw K PT) := by
  refine fn_of ll lc sc_law (fun vs H Q E h => ?_) (fun A outer s H vs Q E hr h => ?_)
  · obtain ⟨sc, ns, rfl, _⟩ := h
    rfl
  obtain ⟨sc, ns, rfl, hsc, htb, k⟩ := h
  have key : ∃ t, PSs (cxOf CX0 P w K mg base ["_law_script", "_law_state", "_law_turn", "_law_part", "_law_left", "_law_order", "_law_plain", "_law_steps", "_law_handed", "_law_k", "_law_one", "_law_other", "_law_loud", "_law_found", "_law_box", "_law_step"] "law" (defScope s_law) fl (.ref cl) A outer s H E).nox (defBody s_law) t ∧ t { nx := fun _ H' => Q .non H', rt := Q } (L2.start ["_law_script", "_law_state", "_law_turn", "_law_part", "_law_left", "_law_order", "_law_plain", "_law_steps", "_law_handed", "_law_k", "_law_one", "_law_other", "_law_loud", "_law_found", "_law_box", "_law_step"] [.ref sc]) H := by
    refine ⟨_, (pss_cons (ps_set (i := 1) sc_law.nd rfl (Or.inr rfl) (pe_df D_law_start hr (by first | decide | omega) (pa_cons (pv 0) pa_nil)))
  (pss_cons (ps_for PassesOwn.never rfl (pi_range1 rfl Z.range (pa_cons pe_int pa_nil)) (pg_name (i := 2) sc_law.nd rfl (Or.inl rfl)) (pss_cons (ps_set (i := 3) sc_law.nd rfl (Or.inl rfl) (pe_df D_law_any hr (by first | decide | omega) (pa_cons (pv 1) pa_nil)))
  (pss_cons (ps_set (i := 4) sc_law.nd rfl (Or.inr rfl) (pe_listRg (by rfl) (by rfl) Z.list (prg_1 (by rfl) Z.range pe_int)))
  (pss_cons (ps_setLc (i := 5) (own := [("_law_box", 14)]) (g := (gName 14)) (tt := tYes) (by rfl) sc_law.nd rfl rfl (sw_true rfl rfl rfl (by decide +kernel)) (pi_range1 rfl Z.range (pa_cons pe_int pa_nil)) (blkOk_by (own := [("_law_box", 14)]) (N := ["_law_script", "_law_state", "_law_turn", "_law_part", "_law_left", "_law_order", "_law_plain", "_law_steps", "_law_handed", "_law_k", "_law_one", "_law_other", "_law_loud", "_law_found", "_law_box", "_law_step"]) (sc := defScope s_law) (by decide +kernel)) (fun _ _ _ _ _ => pg_name (i := 14) sc_law.nd rfl (Or.inl rfl)) (fun _ _ _ _ _ => pts_nil) (fun _ _ _ _ _ => (pe_bmK (K := K) (by rfl) PySem.F.plainAttrs_list PySem.F.slot_list_pop PySem.F.type_list_pop mt_popAt (pv 4) (pa_cons (pe_df D_law_drawn hr (by first | decide | omega) (pa_cons (pv 1) (pa_cons (pe_callB (id := "len") (r := rLenW K) call_lenN (by rfl) Z.len PySem.boot_len (pa_cons (pv 4) pa_nil)) pa_nil))) pa_nil))))
  (pss_cons (ps_set (i := 6) sc_law.nd rfl (Or.inr rfl) (pe_df D_cut hr (by first | decide | omega) (pa_cons (pv 3) pa_nil)))
  (pss_cons (ps_for PassesOwn.never rfl (pi_list (pe_lst (pa_cons (pv 6) (pa_cons (pe_df D_tight hr (by first | decide | omega) (pa_cons (pv 3) pa_nil)) (pa_cons (pe_ix (r := rIxT K) ix_tup (pe_df D_least hr (by first | decide | omega) (pa_cons (pv 3) pa_nil)) pe_int (fun _ _ => rfl)) (pa_cons (pe_df D_law_moved hr (by first | decide | omega) (pa_cons (pv 6) (pa_cons (pv 5) pa_nil))) (pa_cons (pe_df D_law_moved hr (by first | decide | omega) (pa_cons (pe_df D_tight hr (by first | decide | omega) (pa_cons (pv 3) pa_nil)) (pa_cons (pv 5) pa_nil))) pa_nil))))))) (pg_name (i := 7) sc_law.nd rfl (Or.inl rfl)) (pss_cons (ps_set (i := 8) sc_law.nd rfl (Or.inl rfl) (pe_callTy (r := rListC K) (call_listC (by rfl)) (by rfl) Z.list (by decide +kernel) (pa_cons (pv 7) pa_nil)))
  (pss_one (ps_if (PW.pt (pw_or (pt_not (pt_val (pe_df D_law_same hr (by first | decide | omega) (pa_cons (pe_dfx D_put_back hr (by first | decide | omega) LamX.takes0 (pa_cons (pv 8) pa_nil)) (pa_cons (pv 3) pa_nil))) (fun _ => rfl))) (pw_or1 (pt_cmpR (r := rNeD K) (op_neD hr.units) (pv 8) (pv 7) (nomark _))))) (pss_one (ps_ret pe_bl)) pss_nil))))
  (pss_one (ps_for PassesOwn.never rfl (pi_range1 rfl Z.range (pa_cons (pe_op op_sub (pe_callB (id := "len") (r := rLenW K) call_lenN (by rfl) Z.len PySem.boot_len (pa_cons (pv 6) pa_nil)) pe_int) pa_nil)) (pg_name (i := 9) sc_law.nd rfl (Or.inr rfl)) (pss_cons (ps_asg (pe_tup (pa_cons (pe_ix (r := rIxL K) ix_list (pv 6) (pv 9) (fun _ _ => rfl)) (pa_cons (pe_ix (r := rIxL K) ix_list (pv 6) (pe_op op_add (pv 9) pe_int) (fun _ _ => rfl)) pa_nil))) (pg_tup rfl (pgs_cons (pg_name (i := 10) sc_law.nd rfl (Or.inr rfl)) (pgs_cons (pg_name (i := 11) sc_law.nd rfl (Or.inr rfl)) pgs_nil))))
  (pss_one (ps_if (pt_cmpR (r := rIn K false) op_in_seq (pe_ix (r := rIxT K) ix_tup (pv 11) pe_int (fun _ _ => rfl)) (pe_tup (pa_cons pe_str (pa_cons pe_str (pa_cons pe_str pa_nil)))) rfl) (pss_cons (ps_setLc (i := 12) (own := [("_law_step", 15)]) (g := (gName 15)) (by rfl) sc_law.nd rfl rfl (sw_true rfl rfl rfl (by decide +kernel)) (pi_tupK (K := K) (by rfl) (pe_tup (pa_cons (pv 10) (pa_cons (pv 11) pa_nil)))) (blkOk_by (own := [("_law_step", 15)]) (N := ["_law_script", "_law_state", "_law_turn", "_law_part", "_law_left", "_law_order", "_law_plain", "_law_steps", "_law_handed", "_law_k", "_law_one", "_law_other", "_law_loud", "_law_found", "_law_box", "_law_step"]) (sc := defScope s_law) (by decide +kernel)) (fun _ _ _ _ _ => pg_name (i := 15) sc_law.nd rfl (Or.inl rfl)) (fun _ _ _ _ _ => (pts_one (pt_cmpR (r := rIn K false) op_in_seq (pe_ix (r := rIxT K) ix_tup (pv 15) pe_int (fun _ _ => rfl)) (pe_tup (pa_cons pe_str (pa_cons pe_str pa_nil))) rfl))) (fun _ _ _ _ _ => (pv 15)))
  (pss_cons (ps_set (i := 13) sc_law.nd rfl (Or.inl rfl) (LamX.pe_lamcall (T := TB0 PT) (TT := TTk K kd) (x := "_law_kind") (a := "_law_work") (g := fk) (c := cl) (P := PT) (k := 6) (Ng := ["_law_work", "e", "_law_kinds", "_law_words", "_law_word"]) rfl mk kk lk ck bk sc_law_kind rfl (Or.inl rfl) (kind_gives Z TKm) TB rfl (List.mem_singleton.mpr rfl) (fun p hp _ => by rw [List.mem_singleton.mp hp]; rfl) (hr.mono (by first | decide | omega)) (LamX.lamS_by (show LamX.lamSB (defScope s_law) _ = true by decide +kernel)) rfl (fun _ _ _ _ _ => rfl) (fun A outer s H E f c' hr2 => (pe_dfx D_put_back hr2 (by first | decide | omega) (takes_of rfl rfl rfl rfl) (pa_cons (pe_op op_cat (pe_op op_cat (pe_slice (r := rSlL K) sl_list (pv 6) po_none (po_some (pv 9))) (pe_lst (pa_cons (pv 11) (pa_cons (pv 10) pa_nil)))) (pe_slice (r := rSlL K) sl_list (pv 6) (po_some (pe_op op_add (pv 9) pe_int)) po_none)) pa_nil)))))
  (pss_one (ps_if (pt_not (pt_val (pe_df D_law_same hr (by first | decide | omega) (pa_cons (pv 13) (pa_cons (pe_ifExp (pt_cmpR op_eq (pe_callB (id := "len") (r := rLenW K) call_lenN (by rfl) Z.len PySem.boot_len (pa_cons (pv 12) pa_nil)) pe_int (nomark _)) pe_str (pv 3)) pa_nil))) (fun _ => rfl))) (pss_one (ps_ret pe_bl)) pss_nil)))) pss_nil)))))))))))
  (pss_one (ps_ret pe_bl)))), ?_⟩
    walk_at "st"
    walk_at "wk"
    refine ⟨sc, ns, rfl, hsc, fun st H1 n1 s1 f1 => ?_⟩
    walk_at "wk"
    refine forR (fun i σ H' => ∃ (o2 o3 o4 o5 o6 o7 o8 o9 o10 o11 o12 o13 o14 o15 : Option V), σ = [some (.ref sc), some (.ref st), o2, o3, o4, o5, o6, o7, o8, o9, o10, o11, o12, o13, o14, o15] ∧ StAt K [] H' st ∧ LamX.Tabs (TB0 PT) H') ⟨_, _, _, _, _, _, _, _, _, _, _, _, _, _, rfl, s1, tabs_fr htb f1 (by simp)⟩ ?_ ?_
    · rintro i σ H0 hi ⟨o2, o3, o4, o5, o6, o7, o8, o9, o10, o11, o12, o13, o14, o15, rfl, s0, tb0⟩
      walk_at "wk"
      refine u_any s0 (fun v s H2 q1 q2 q3 q4 s2 f2 => ?_)
      have tb2 : LamX.Tabs (TB0 PT) H2 := tabs_fr tb0 f2 (fun b hb o ho => by rw [List.mem_singleton.mp hb] at ho; obtain ⟨_, _, _, _, _, hs, _⟩ := s0; rw [hs] at ho; cases ho; exact .inl ⟨_, rfl⟩)
      walk_at "wk"
      refine w_lrg1 ?_
      walk_at "wk"
      refine w_lrg1b (by omega) (by omega) (fun lf H3 n3 f3 g3 => ?_)
      have s3 := s2.more f3 n3
      have nsl : st ≠ lf := (nn_st n3 s2).symm
      have g3' : H3 lf = some (.lst ((List.range 200).map fun n => V.int (n : Nat))) := by
        rw [g3]
        show some (HO.lst ((List.range 200).map fun i : Nat => V.int (0 + (i : Int)))) = _
        simp only [Int.zero_add]
      walk_at "wk"
      refine lcR (fun D i acc H' => ∃ gs left : List Nat, acc = gs.map (fun n => V.int (n : Nat)) ∧ gs.length = i ∧ H' lf = some (.lst (left.map fun n => V.int (n : Nat))) ∧ (gs ++ left).Perm (List.range 200) ∧ StAt K [D, lf] H' st ∧ D ≠ lf ∧ st ≠ D ∧ Fr [D, st, lf] H3 H')
        (fun D H' hD f g => ⟨[], List.range 200, rfl, rfl, f.get0 g3', .refl _, s3.more f hD, nn_l hD g3', (nn_st hD s3).symm, f.nil⟩) (fun D j acc H' hD hlt ha hA ⟨gs, left, e, hn, hlf, hp, hs, nDl, nsD, ff⟩ => ?_) (fun D acc H4 hD hA hn2 ⟨gs, left, e, hn, hlf, hp, hs, nDl, nsD, ff⟩ => ?_)
      · have pl := hp.length_eq
        rw [List.length_append, List.length_range] at pl
        walk_at "wk"
        refine w_tyl hlf ?_
        walk_at "wk"
        refine u_drawn hs (by omega) (Nat.lt_of_le_of_lt (show _ ≤ 200 by omega) (by decide)) (fun v2 H5 a2 b2 s5 f5 => ?_)
        have hv : v2.toNat < left.length := by omega
        walk_at "wk"
        refine w_popat (f5.getl (ni1 nsl.symm) hlf) a2 (by omega) (y := .int (left[v2.toNat] : Nat)) (by rw [List.getElem?_map, List.getElem?_eq_getElem hv]; rfl) (fun H6 f6 g6 => ?_)
        rw [erase_map] at g6
        have pm := erase_perm (List.getElem?_eq_getElem hv)
        have f56 : Fr [D, st, lf] H' H6 := (f5.mono fun b hb => by rw [List.mem_singleton.mp hb]; simp).trans (f6.mono fun b hb => by rw [List.mem_singleton.mp hb]; simp)
        refine lcE (acc := acc) (f6.getl (ni1 nDl) (f5.getl (ni1 nsD.symm) hA)) ha (by omega) (fun H7 f7 g7 => ⟨gs ++ [left[v2.toNat]], left.eraseIdx v2.toNat, by rw [e, List.map_append]; rfl, by rw [List.length_append, hn]; rfl, f7.getl (ni1 nDl.symm) g6, ?_, (s5.fr1 f6 nsl (by simp)).fr1 f7 nsD (by simp), nDl, nsD, ff.trans (f56.trans (f7.mono fun b hb => by rw [List.mem_singleton.mp hb]; simp))⟩)
        rw [List.append_assoc]
        exact (List.Perm.append_left gs pm.symm).trans hp
      · have f34 : Fr [st, lf] H3 H4 := ff.drop hD
        have f24 : Fr [st] H2 H4 := ((f3.nil.trans f34).mono (W' := [lf, st]) fun b hb => by
          simp only [List.mem_cons, List.not_mem_nil, or_false] at hb ⊢
          exact hb.symm).drop n3
        have tb4 : LamX.Tabs (TB0 PT) H4 := tabs_fr tb2 f24 (fun b hb o ho => by rw [List.mem_singleton.mp hb] at ho; obtain ⟨_, _, _, _, _, hs, _⟩ := s2; rw [hs] at ho; cases ho; exact .inl ⟨_, rfl⟩)
        have s4 : StAt K [] H4 st := hs.less (by simp)
        have q14 := q1.mono f24
        obtain ⟨ord1, ord2⟩ := order_ok hp hn
        rw [e] at hA
        clear e hs hlf g3 g3' s3 n3 ff hn2 hD
        have idI : Inj id 60 := fun i j _ _ e => e
        have ckC := cut_okSteps q2 q4
        have ckT := lay_okSteps (fun _ => false) q2 q4
        have ckL := lay_okSteps Sm.turn q2 q4
        obtain ⟨eC, bC, pC⟩ := back_cut idI (by rw [map_ren_id]; exact ckC) q4
        obtain ⟨eT, bT, pT⟩ := back_lay (fun _ => false) none_ok idI (by rw [map_ren_id]; exact ckT) q4
        obtain ⟨eL, bL, pL⟩ := back_lay Sm.turn turn_ok idI (by rw [map_ren_id]; exact ckL) q4
        obtain ⟨eMC, bMC, pMC⟩ := back_cut ord2 (okSteps_ren ord1 ckC) q4
        obtain ⟨eMT, bMT, pMT⟩ := back_lay (fun _ => false) none_ok ord2 (okSteps_ren ord1 ckT) q4
        rw [map_ren_id] at bC bT bL
        have zC := s.cut_length 0
        have zT := lay_length (fun _ => false) s 0
        have zL := lay_length Sm.turn s 0
        walk_at "wk"
        refine u_steps q14 q2 q3 q4 (fun l0 u0 H5 n5 g5 a5 f5 => ?_)
        walk_at "wk"
        refine u_steps (q14.mono f5) q2 q3 q4 (fun l1 u1 H6 n6 g6 a6 f6 => ?_)
        rw [tight_lay] at a6
        walk_at "wk"
        refine u_least ((q14.mono f5).mono f6) q2 q3 q4 (fun t2 l2 u2 H7 n7 nl7 g7 gl7 a7 f7 => ?_)
        rw [least_lay] at a7
        walk_at "wk"
        have f57 := f6.trans f7
        refine u_moved (f57.get0 g5) (a5.mono f57) (by omega) (f57.get0 (f5.get0 hA)) (fun t ht => boxes_lt ckC (fun u hu => by have := cut_lt u hu; omega) t ht) (fun l3 u3 H8 n8 g8 a8 f8 => ?_)
        walk_at "wk"
        have f58 := f57.trans f8
        refine u_steps ((q14.mono f5).mono f58) q2 q3 q4 (fun l5 u5 H9 n9 g9 a9 f9 => ?_)
        rw [tight_lay] at a9
        walk_at "wk"
        refine u_moved g9 a9 (by omega) (f9.get0 (f58.get0 (f5.get0 hA))) (fun t ht => boxes_lt ckT (fun u hu => by have := lay_lt u hu; omega) t ht) (fun l4 u4 HA nA gA aA fA => ?_)
        walk_at "wk"
        rename_i ll5 HB nB fB gB
        have f8B : Fr [] H8 HB := f9.trans (fA.trans fB)
        have f5B : Fr [] H5 HB := f58.trans f8B
        have f4B : Fr [] H4 HB := f5.trans f5B
        have qB : IsSum HB v s := q14.mono f4B
        have all5 : ∀ x ∈ [V.ref l0, .ref l1, .ref l2, .ref l3, .ref l4], ∃ (l : Addr) (us : List V) (T : List Stp) (es : List Nat), x = .ref l ∧ HB l = some (.lst us) ∧ AllStp HB us T ∧ Back T s es ∧ es.Pairwise (· ≤ ·) := by
          intro x hx
          simp only [List.mem_cons, List.not_mem_nil, or_false] at hx
          rcases hx with rfl | rfl | rfl | rfl | rfl
          · exact ⟨l0, u0, _, _, rfl, f5B.get0 g5, a5.mono f5B, bC, pC⟩
          · exact ⟨l1, u1, _, _, rfl, (f7.trans (f8.trans f8B)).get0 g6, a6.mono (f7.trans (f8.trans f8B)), bT, pT⟩
          · exact ⟨l2, u2, _, _, rfl, (f8.trans f8B).get0 gl7, a7.mono (f8.trans f8B), bL, pL⟩
          · exact ⟨l3, u3, _, _, rfl, f8B.get0 g8, a8.mono f8B, bMC, pMC⟩
          · exact ⟨l4, u4, _, _, rfl, fB.get0 gA, aA.mono fB, bMT, pMT⟩
        have gB5 := f5B.get0 g5
        have aB5 := a5.mono f5B
        have tbB : LamX.Tabs (TB0 PT) HB := tabs_fr tb4 f4B (by simp)
        have sB : StAt K [] HB st := s4.fr0 f4B
        clear f5 f6 f7 f8 f9 fA fB g5 g6 g7 gl7 g8 g9 gA a5 a6 a7 a8 a9 aA n5 n6 n7 nl7 n8 n9 nA f57 f58 f8B f5B hA q1 f2 f3 f24 f34 tb2 tb0 tb4 s0 s2 s4
        refine forL (xs := [V.ref l0, .ref l1, .ref l2, .ref l3, .ref l4]) (fun j σ H' => ∃ o7 o8 : Option V, σ = [some (.ref sc), some (.ref st), some (.int (0 + (i : Int))), some v, some (.ref lf), some (.ref D), some (.ref l0), o7, o8, o9, o10, o11, o12, o13, o14, o15] ∧ Fr [] HB H') ⟨_, _, rfl, .refl⟩ (fun j σ H' _ ⟨_, _, _, ff⟩ => SqL.of (ff.get0 gB)) ?_ ?_
        · rintro j x σ H' hx ⟨o7, o8, rfl, ff⟩
          obtain ⟨l, us, T, es, rfl, hl, hT, hBk, hpw⟩ := all5 x (List.mem_of_getElem? hx)
          walk_at "wk"
          refine w_listC (SqL.of (ff.get0 hl)) (fun l' HC nC fC gC => ?_)
          walk_at "wk"
          have ffC := ff.trans fC
          refine ⟨l', us, T, s, es, rfl, gC, hT.mono ffC, hBk, q2, q4, q3, .inl ⟨hpw, fun v' HE fE iE => ?_⟩⟩
          walk_at "wk"
          have ffE := ffC.trans fE
          refine u_same (alike_sum iE (qB.mono ffE) (by omega)) (fun HF fF => ?_)
          walk_at "wk"
          have ffF := ffE.trans fF
          have rs := okSteps_rest hBk.ok
          refine w_neD (.lst (SqL.of ((fE.trans fF).get0 gC)) (dp_stps (hT.mono ffF))) (.lst (SqL.of (ffF.get0 hl)) (dp_stps (hT.mono ffF))) (shaped_stps rs) (shaped_stps rs) ?_
          rw [eqv_stps]
          walk_at "wk"
          exact ⟨_, _, rfl, ffF⟩
        · rintro σ H' ⟨o7, o8, rfl, ff⟩
          have lu := aB5.length
          have sp := s.size_pos
          walk_at "wk"
          refine forR (fun j σ H' => ∃ o9 o10 o11 o12 o13 : Option V, σ = [some (.ref sc), some (.ref st), some (.int (0 + (i : Int))), some v, some (.ref lf), some (.ref D), some (.ref l0), o7, o8, o9, o10, o11, o12, o13, o14, o15] ∧ StAt K [] H' st ∧ LamX.Tabs (TB0 PT) H' ∧ IsSum H' v s ∧ H' l0 = some (.lst u0) ∧ AllStp H' u0 (s.cut 0))
            ⟨_, _, _, _, _, rfl, sB.fr0 ff, tabs_fr tbB ff (by simp), qB.mono ff, ff.get0 gB5, aB5.mono ff⟩ ?_ ?_
          · rintro j σ Ha hj ⟨o9, o10, o11, o12, o13, rfl, sa, tba, qa, ga, aa⟩
            have hj' : j + 1 < u0.length := by omega
            have hx1 : u0[j]? = some u0[j] := List.getElem?_eq_getElem (by omega)
            have hx2 : u0[j + 1]? = some u0[j + 1] := List.getElem?_eq_getElem hj'
            obtain ⟨t1, ht1, p1, e1, hp1⟩ := aa.at hx1
            obtain ⟨t2, ht2, p2, e2, hp2⟩ := aa.at hx2
            rw [e1] at hx1
            rw [e2] at hx2
            obtain ⟨w1, tl1, v1, i1, d1⟩ := rst_word t1.rest
            obtain ⟨w2, tl2, v2, i2, d2⟩ := rst_word t2.rest
            rw [v1] at hp1
            rw [v2] at hp2
            walk_at "wk"
            refine w_ixL (SqL.of ga) (atI_i (by omega) hx1) ?_
            walk_at "wk"
            refine w_ixL (SqL.of ga) (atI_i (by omega) hx2) ?_
            walk_at "wk"
            rename_i tp Hb nb fb gb
            refine w_ixT (SqT.of (fb.get0 hp2)) (atI_nat (j := 1) rfl) ?_
            walk_at "wk"
            rename_i tc Hc nc fc gc
            have fbc := fb.trans fc
            rw [i2]
            by_cases leaf : t2.rest.bxs = []
            · rw [decide_eq_true leaf]
              walk_at "wk"
              rename_i td Hd nd fd gd
              have fbd := fbc.trans fd
              refine lcT (xs := [V.ref p1, .ref p2]) (fun D i acc H' => acc.length = (([t1, t2].take i).filter fun t => t.rest.loud).length ∧ Fr [D] Hd H') (fun D H' hD f g => ⟨rfl, f.nil⟩) (fun D i acc H' hD ⟨_, f⟩ => SqT.of (f.gett gd)) (fun D i x acc H' hD hx hlt ha hA ⟨e, f⟩ => ?_) (fun D acc H' hD hA hn ⟨e, f⟩ => ?_)
              · have turn : ∃ (t : Stp) (p : Addr) (w : Str) (tl : List V), [t1, t2][i]? = some t ∧ x = .ref p ∧ Ha p = some (.tup (.int (t.box : Nat) :: .str w :: tl)) ∧ inV (.str w) [.str "say", .str "ask"] = t.rest.loud := by
                  match i with
                  | 0 => cases hx; exact ⟨t1, p1, w1, tl1, rfl, rfl, hp1, d1⟩
                  | 1 => cases hx; exact ⟨t2, p2, w2, tl2, rfl, rfl, hp2, d2⟩
                  | i + 2 => cases hx
                obtain ⟨t, p, w0, tl0, ht, rfl, hp, hd⟩ := turn
                walk_at "wk"
                refine w_ixT (SqT.of (f.gett (fbd.get0 hp))) (atI_nat (j := 1) rfl) ?_
                walk_at "wk"
                rename_i te He ne fe ge
                rw [hd]
                have il : i < 2 := hlt
                cases hL : t.rest.loud with
                | true =>
                  walk_at "wk"
                  refine lcE (acc := acc) (fe.get0 hA) ha (by omega) (fun H5 f5 g5 => ⟨?_, by walk_at "fr"⟩)
                  rw [take_snoc ht, List.filter_append, List.length_append, List.length_append, e]
                  simp [hL]
                | false =>
                  walk_at "wk"
                  refine lcN (acc := acc) (fe.get0 hA) ha ⟨?_, by walk_at "fr"⟩
                  rw [take_snoc ht, List.filter_append, List.length_append, e]
                  simp [hL]
              · have fdH : Fr [] Hd H' := f.drop hD
                have faH : Fr [] Ha H' := fbd.trans fdH
                have e : acc.length = ([t1, t2].filter fun t => t.rest.loud).length := e
                have lt0 := aa.length
                have split : s.cut 0 = (s.cut 0).take j ++ [t1, t2] ++ (s.cut 0).drop (j + 2) := by
                  have d1 : (s.cut 0).drop j = t1 :: (s.cut 0).drop (j + 1) := by
                    obtain ⟨h, q⟩ := List.getElem?_eq_some_iff.mp ht1
                    rw [List.drop_eq_getElem_cons h, q]
                  have d2 : (s.cut 0).drop (j + 1) = t2 :: (s.cut 0).drop (j + 2) := by
                    obtain ⟨h, q⟩ := List.getElem?_eq_some_iff.mp ht2
                    rw [List.drop_eq_getElem_cons h, q]
                  have d3 := (List.take_append_drop j (s.cut 0)).symm
                  rw [d1, d2] at d3
                  rw [List.append_assoc]
                  exact d3
                obtain ⟨es, bw, hpw⟩ := back_swap q2 q4 split leaf
                walk_at "wk"
                refine w_lam (tabs_fr tba faH (by simp)) (fun Hl el tbl => ?_)
                have gl := ext_l el (faH.get0 ga)
                have al := ext_stps el (aa.mono faH)
                have ql := ext_sum el (qa.mono faH)
                have sl := ext_st el (sa.fr0 faH)
                have hAl := ext_l el hA
                walk_at "wk"
                refine w_slL (SqL.of gl) (show cutV u0 none (some (0 + (j : Int))) = u0.take j by rw [Int.zero_add]; exact cut_take _ _) (fun x1 Hm nm fm gm => ?_)
                walk_at "wk"
                rename_i x2 Hn nn fn gn
                refine w_cat (fn.get0 gm) gn (by simp only [List.length_take, List.length_cons, List.length_nil]; omega) (fun x3 Ho no fo go => ?_)
                walk_at "wk"
                refine w_slL (SqL.of (fo.get0 (fn.get0 (fm.get0 gl)))) (show cutV u0 (some (0 + (j : Int) + 2)) none = u0.drop (j + 2) by rw [show (0 + (j : Int) + 2) = ((j + 2 : Nat) : Int) by omega]; exact cut_drop _ _) (fun x4 Hp np fp gp => ?_)
                refine w_cat (fp.get0 go) gp (by simp only [List.length_append, List.length_take, List.length_drop, List.length_cons, List.length_nil]; omega) (fun x5 Hq nq fq gq => ?_)
                have flq : Fr [] Hl Hq := fm.trans (fn.trans (fo.trans (fp.trans fq)))
                have is1 : IsStp Hq (.ref p1) t1 := ⟨p1, rfl, by rw [v1]; exact flq.get0 (el p1 _ (faH.get0 hp1) fun _ z => by cases z)⟩
                have is2 : IsStp Hq (.ref p2) t2 := ⟨p2, rfl, by rw [v2]; exact flq.get0 (el p2 _ (faH.get0 hp2) fun _ z => by cases z)⟩
                have aq := al.mono flq
                have as : AllStp Hq (u0.take j ++ [.ref p2, .ref p1] ++ u0.drop (j + 2)) ((s.cut 0).take j ++ [t2, t1] ++ (s.cut 0).drop (j + 2)) := AllStp.app (AllStp.app (aq.take j) ⟨is2, is1, trivial⟩) (aq.drop (j + 2))
                walk_at "wk"
                by_cases both : t1.rest.loud = true ∧ t2.rest.loud = true
                · refine ⟨x5, _, _, s, es, rfl, gq, as, bw, q2, q4, q3, .inr ⟨fun q => hpw.mp q both, fun HE fE => ⟨rfl, a.noSum, 4, rfl, KS, .inr (.inr (.inr rfl)), fun HF fF => ?_⟩⟩⟩
                  have flF := flq.trans (fE.trans fF)
                  have e2 : acc.length = 2 := by rw [e]; simp [both.1, both.2]
                  walk_at "wk"
                  refine w_iteI (fun _ => ?_) (fun c => absurd (by rw [e2]; rfl) c)
                  walk_at "wk"
                  refine u_same (.str _ _) (fun HG fG => ?_)
                  walk_at "wk"
                  have flG := flF.trans fG
                  exact ⟨_, _, _, _, _, rfl, sl.fr0 flG, tabs_fr tbl flG (by simp), ql.mono flG, flG.get0 gl, al.mono flG⟩
                · refine ⟨x5, _, _, s, es, rfl, gq, as, bw, q2, q4, q3, .inl ⟨hpw.mpr both, fun v' HE fE iE => ?_⟩⟩
                  have flE := flq.trans fE
                  have e2 : acc.length ≠ 2 := by
                    rw [e]
                    cases h1 : t1.rest.loud <;> cases h2 : t2.rest.loud <;> simp [h1, h2] at both ⊢
                  walk_at "wk"
                  refine w_iteI (fun c => absurd (by omega) e2) (fun _ => ?_)
                  walk_at "wk"
                  refine u_same (alike_sum iE (ql.mono flE) (by omega)) (fun HG fG => ?_)
                  walk_at "wk"
                  have flG := flE.trans fG
                  exact ⟨_, _, _, _, _, rfl, sl.fr0 flG, tabs_fr tbl flG (by simp), ql.mono flG, flG.get0 gl, al.mono flG⟩
            · rw [decide_eq_false leaf]
              walk_at "wk"
              exact ⟨_, _, _, _, _, rfl, sa.fr0 fbc, tabs_fr tba fbc (by simp), qa.mono fbc, fbc.get0 ga, aa.mono fbc⟩
          · rintro σ Ha ⟨o9, o10, o11, o12, o13, rfl, sa, tba, _⟩
            exact ⟨_, _, _, _, _, _, _, _, _, _, _, _, _, _, rfl, sa, tba⟩
    · rintro σ Hz ⟨o2, o3, o4, o5, o6, o7, o8, o9, o10, o11, o12, o13, o14, o15, rfl, _⟩
      walk_at "wk"
      exact k _
  obtain ⟨t, h1, h2⟩ := key
  exact ⟨t, h1.nox, h2⟩
end
end My
namespace My
open PySem PySem.Spec PyProof.Rows L2 Wk
theorem excB_ok {K : PySem.W.Frag} {x : Str} (h : excB K x = true) : ExcC K (He.ga K x) := by
  obtain ⟨h1, h⟩ := He.ba h
  obtain ⟨h2, h⟩ := He.ba h
  obtain ⟨h3, h⟩ := He.ba h
  obtain ⟨h4, h⟩ := He.ba h
  obtain ⟨h5, h⟩ := He.ba h
  obtain ⟨h6, h⟩ := He.ba h
  obtain ⟨h7, h⟩ := He.ba h
  exact ⟨He.eqO_ok h1, He.eqO_ok h2, of_decide_eq_true h3, h4, He.eqO_ok h5, He.eqO_ok h6, of_decide_eq_true h7, of_decide_eq_true h⟩
def adOf (K : PySem.W.Frag) : Ad := ⟨He.ga K "Way", He.ga K "LETTERS", He.ga K "WORDS_WITH_TWO_PARTS", He.ga K "StepError", He.ga K "BadSum", He.ga K "BadSteps", He.ga K "NoName", He.ga K "NoMore", He.ga K "NoSum", He.ga K "BadText"⟩
def kdOf (K : PySem.W.Frag) : KAd := ⟨He.ga K "StepError", He.ga K "BadSum", He.ga K "BadSteps", He.ga K "NoName", He.ga K "NoMore", He.ga K "NoSum", He.ga K "BadText"⟩
theorem kindB_ok {K : PySem.W.Frag} {x : Str} {i : Nat} (h : kindB K x i = true) (e : PySem.W.exmOne K (.ref (He.ga K x)) (.ref (He.ga K "StepError")) = some true) : KindT K (kdOf K) (He.ga K x) i := by
  obtain ⟨h1, h⟩ := He.ba h
  obtain ⟨h2, h⟩ := He.ba h
  obtain ⟨h3, h⟩ := He.ba h
  obtain ⟨h4, h⟩ := He.ba h
  obtain ⟨h5, h⟩ := He.ba h
  obtain ⟨h6, h⟩ := He.ba h
  obtain ⟨h7, h8⟩ := He.ba h
  exact ⟨excB_ok h1, e, of_decide_eq_true h2, of_decide_eq_true h3, of_decide_eq_true h4, of_decide_eq_true h5, of_decide_eq_true h6, of_decide_eq_true h7, of_decide_eq_true h8⟩
/-! ### the promises of all defs -/
theorem facts {w : World} {K : PySem.W.Frag} {h : Heap} {mg : Str → Option Value} {f : Addr} (X : K.In h) (Gm : h.Ns mainGlobals mg) (hfa : mg ("law" : Str) = some (.ref f)) (c : He.SaysX fal fnl [] tfl exB w h K) :
    LamX.LawAtS PySem.Challenge.rw_stepnames_k09_whole_put_back w K CX0 80 63 "_law_script" mg f h := by
  obtain ⟨e0, e⟩ := He.ba c.more
  obtain ⟨e1, e⟩ := He.ba e
  obtain ⟨e2, e⟩ := He.ba e
  have e3 := e
  have g_is_whole := He.glo_ok X Gm (c.t.d.fact 21 (f := .glo "is_whole") rfl)
  have g_has_form := He.glo_ok X Gm (c.t.d.fact 22 (f := .glo "has_form") rfl)
  have g_parts_of := He.glo_ok X Gm (c.t.d.fact 23 (f := .glo "parts_of") rfl)
  have g_filled_with := He.glo_ok X Gm (c.t.d.fact 24 (f := .glo "filled_with") rfl)
  have g_is_effect := He.glo_ok X Gm (c.t.d.fact 25 (f := .glo "is_effect") rfl)
  have g_refuse_bad_steps := He.glo_ok X Gm (c.t.d.fact 26 (f := .glo "refuse_bad_steps") rfl)
  have g_can_be := He.glo_ok X Gm (c.t.d.fact 27 (f := .glo "can_be") rfl)
  have g_refuse_bad_sum := He.glo_ok X Gm (c.t.d.fact 28 (f := .glo "refuse_bad_sum") rfl)
  have g_sums_within := He.glo_ok X Gm (c.t.d.fact 29 (f := .glo "sums_within") rfl)
  have g_put_back := He.glo_ok X Gm (c.t.d.fact 30 (f := .glo "put_back") rfl)
  have g_put_together := He.glo_ok X Gm (c.t.d.fact 31 (f := .glo "put_together") rfl)
  have g_refuse_no_sum := He.glo_ok X Gm (c.t.d.fact 32 (f := .glo "refuse_no_sum") rfl)
  have g_cut := He.glo_ok X Gm (c.t.d.fact 33 (f := .glo "cut") rfl)
  have g_tight := He.glo_ok X Gm (c.t.d.fact 34 (f := .glo "tight") rfl)
  have g_put_cut := He.glo_ok X Gm (c.t.d.fact 35 (f := .glo "put_cut") rfl)
  have g_put_next := He.glo_ok X Gm (c.t.d.fact 36 (f := .glo "put_next") rfl)
  have g_put_tight := He.glo_ok X Gm (c.t.d.fact 37 (f := .glo "put_tight") rfl)
  have g_least := He.glo_ok X Gm (c.t.d.fact 38 (f := .glo "least") rfl)
  have g_boxes_in_order := He.glo_ok X Gm (c.t.d.fact 39 (f := .glo "boxes_in_order") rfl)
  have g_put_steps := He.glo_ok X Gm (c.t.d.fact 40 (f := .glo "put_steps") rfl)
  have g_law_start := He.glo_ok X Gm (c.t.d.fact 41 (f := .glo "_law_start") rfl)
  have g_law_drawn := He.glo_ok X Gm (c.t.d.fact 42 (f := .glo "_law_drawn") rfl)
  have g_law_same := He.glo_ok X Gm (c.t.d.fact 43 (f := .glo "_law_same") rfl)
  have g_law_kind := He.glo_ok X Gm (c.t.d.fact 44 (f := .glo "_law_kind") rfl)
  have g_law_sum := He.glo_ok X Gm (c.t.d.fact 45 (f := .glo "_law_sum") rfl)
  have g_law_any := He.glo_ok X Gm (c.t.d.fact 46 (f := .glo "_law_any") rfl)
  have g_law_quiet := He.glo_ok X Gm (c.t.d.fact 47 (f := .glo "_law_quiet") rfl)
  have g_law_moved := He.glo_ok X Gm (c.t.d.fact 48 (f := .glo "_law_moved") rfl)
  have g_law := He.glo_ok X Gm (c.t.d.fact 49 (f := .glo "law") rfl)
  have g_Way := He.glo_ok X Gm (c.t.d.fact 50 (f := .glo "Way") rfl)
  have g_LETTERS := He.glo_ok X Gm (c.t.d.fact 51 (f := .glo "LETTERS") rfl)
  have g_WORDS_WITH_TWO_PARTS := He.glo_ok X Gm (c.t.d.fact 52 (f := .glo "WORDS_WITH_TWO_PARTS") rfl)
  have g_StepError := He.glo_ok X Gm (c.t.d.fact 53 (f := .glo "StepError") rfl)
  have g_BadSum := He.glo_ok X Gm (c.t.d.fact 54 (f := .glo "BadSum") rfl)
  have g_BadSteps := He.glo_ok X Gm (c.t.d.fact 55 (f := .glo "BadSteps") rfl)
  have g_NoName := He.glo_ok X Gm (c.t.d.fact 56 (f := .glo "NoName") rfl)
  have g_NoMore := He.glo_ok X Gm (c.t.d.fact 57 (f := .glo "NoMore") rfl)
  have g_NoSum := He.glo_ok X Gm (c.t.d.fact 58 (f := .glo "NoSum") rfl)
  have g_BadText := He.glo_ok X Gm (c.t.d.fact 59 (f := .glo "BadText") rfl)
  have Z : Blt mg := ⟨He.free_ok X Gm (c.t.d.fact 0 (f := .free "len") rfl), He.free_ok X Gm (c.t.d.fact 1 (f := .free "isinstance") rfl), He.free_ok X Gm (c.t.d.fact 2 (f := .free "range") rfl), He.free_ok X Gm (c.t.d.fact 3 (f := .free "int") rfl), He.free_ok X Gm (c.t.d.fact 4 (f := .free "list") rfl), He.free_ok X Gm (c.t.d.fact 5 (f := .free "dict") rfl), He.free_ok X Gm (c.t.d.fact 6 (f := .free "tuple") rfl), He.free_ok X Gm (c.t.d.fact 7 (f := .free "set") rfl), He.free_ok X Gm (c.t.d.fact 8 (f := .free "sorted") rfl), He.free_ok X Gm (c.t.d.fact 9 (f := .free "type") rfl), He.free_ok X Gm (c.t.d.fact 10 (f := .free "any") rfl), He.free_ok X Gm (c.t.d.fact 11 (f := .free "all") rfl), He.free_ok X Gm (c.t.d.fact 12 (f := .free "min") rfl), He.free_ok X Gm (c.t.d.fact 13 (f := .free "max") rfl), He.free_ok X Gm (c.t.d.fact 14 (f := .free "enumerate") rfl), He.free_ok X Gm (c.t.d.fact 15 (f := .free "zip") rfl), He.free_ok X Gm (c.t.d.fact 16 (f := .free "reversed") rfl), He.free_ok X Gm (c.t.d.fact 17 (f := .free "bool") rfl), He.free_ok X Gm (c.t.d.fact 18 (f := .free "str") rfl), He.free_ok X Gm (c.t.d.fact 19 (f := .free "super") rfl)⟩
  have zVE := He.free_ok X Gm (c.t.d.fact 20 (f := .free "ValueError") rfl)
  have TK : KMg mg (kdOf K) := ⟨zVE, g_StepError, g_BadSum, g_BadSteps, g_NoName, g_NoMore, g_NoSum, g_BadText⟩
  have K_BadSum : KindT K (kdOf K) (adOf K).badSum 0 := kindB_ok e2 (He.exm_ok (c.t.d.fact 74 (f := .exm "BadSum" "StepError" true) rfl))
  have K_NoSum : KindT K (kdOf K) (adOf K).noSum 4 := kindB_ok e3 (He.exm_ok (c.t.d.fact 75 (f := .exm "NoSum" "StepError" true) rfl))
  obtain ⟨x1BadSum, x2BadSum, x3BadSum, x4BadSum⟩ := He.exc_ok (c.t.d.fact 72 (f := .exc "BadSum") rfl)
  obtain ⟨x1NoSum, x2NoSum, x3NoSum, x4NoSum⟩ := He.exc_ok (c.t.d.fact 73 (f := .exc "NoSum") rfl)
  have T : Txt K mg (adOf K) :=
    { cl_Way := He.cls_ok (c.t.d.fact 65 (f := .cls "Way") rfl),
      n_part := He.noat_ok (c.t.d.fact 66 (f := .noat "Way" "part") rfl),
      n_inner := He.noat_ok (c.t.d.fact 67 (f := .noat "Way" "inner") rfl),
      n_effect := He.noat_ok (c.t.d.fact 68 (f := .noat "Way" "effect") rfl),
      n_turned := He.noat_ok (c.t.d.fact 69 (f := .noat "Way" "turned") rfl),
      n_many := He.noat_ok (c.t.d.fact 70 (f := .noat "Way" "many") rfl),
      m_Way := g_Way,
      m_LARGEST := He.int_ok X Gm (c.t.d.fact 60 (f := .int "LARGEST" 999) rfl),
      m_MOST_STEPS := He.int_ok X Gm (c.t.d.fact 61 (f := .int "MOST_STEPS" 200) rfl),
      m_LAST_BOX := He.int_ok X Gm (c.t.d.fact 62 (f := .int "LAST_BOX" 199) rfl),
      m_MOST_SUMS := He.int_ok X Gm (c.t.d.fact 63 (f := .int "MOST_SUMS" 60) rfl),
      m_MOST_WITHIN := He.int_ok X Gm (c.t.d.fact 64 (f := .int "MOST_WITHIN" 15) rfl),
      m_LETTERS := g_LETTERS,
      q_LETTERS := fun H => He.tupB_ok e0 H,
      m_WORDS_WITH_TWO_PARTS := g_WORDS_WITH_TWO_PARTS,
      q_WORDS := fun H => He.tupB_ok e1 H,
      x_BadSum := ⟨g_BadSum, x1BadSum, x2BadSum, x3BadSum, x4BadSum⟩,
      x_NoSum := ⟨g_NoSum, x1NoSum, x2NoSum, x3NoSum, x4NoSum⟩ }
  obtain ⟨fd_is_whole, W_is_whole⟩ := c.t.d.def_ 0 (d := d_is_whole) rfl
  have F_is_whole : Fun K _ _ s_is_whole (He.fAd K d_is_whole.at_) fd_is_whole := fun_of W_is_whole
  have b_is_whole : Binds K fd_is_whole ["found", "most"] [] := F_is_whole.binds (ps := ["found", "most"]) fun _ _ _ _ _ _ us hl => match us, hl with | [_, _], _ => rfl
  obtain ⟨fd_has_form, W_has_form⟩ := c.t.d.def_ 1 (d := d_has_form) rfl
  have F_has_form : Fun K _ _ s_has_form (He.fAd K d_has_form.at_) fd_has_form := fun_of W_has_form
  have b_has_form : Binds K fd_has_form ["part"] [] := F_has_form.binds (ps := ["part"]) fun _ _ _ _ _ _ us hl => match us, hl with | [_], _ => rfl
  obtain ⟨fd_parts_of, W_parts_of⟩ := c.t.d.def_ 2 (d := d_parts_of) rfl
  have F_parts_of : Fun K _ _ s_parts_of (He.fAd K d_parts_of.at_) fd_parts_of := fun_of W_parts_of
  have b_parts_of : Binds K fd_parts_of ["part"] [] := F_parts_of.binds (ps := ["part"]) fun _ _ _ _ _ _ us hl => match us, hl with | [_], _ => rfl
  obtain ⟨fd_filled_with, W_filled_with⟩ := c.t.d.def_ 3 (d := d_filled_with) rfl
  have F_filled_with : Fun K _ _ s_filled_with (He.fAd K d_filled_with.at_) fd_filled_with := fun_of W_filled_with
  have b_filled_with : Binds K fd_filled_with ["part", "filling"] [] := F_filled_with.binds (ps := ["part", "filling"]) fun _ _ _ _ _ _ us hl => match us, hl with | [_, _], _ => rfl
  obtain ⟨fd_is_effect, W_is_effect⟩ := c.t.d.def_ 4 (d := d_is_effect) rfl
  have F_is_effect : Fun K _ _ s_is_effect (He.fAd K d_is_effect.at_) fd_is_effect := fun_of W_is_effect
  have b_is_effect : Binds K fd_is_effect ["part"] [] := F_is_effect.binds (ps := ["part"]) fun _ _ _ _ _ _ us hl => match us, hl with | [_], _ => rfl
  obtain ⟨fd_refuse_bad_steps, W_refuse_bad_steps⟩ := c.t.d.def_ 5 (d := d_refuse_bad_steps) rfl
  have F_refuse_bad_steps : Fun K _ _ s_refuse_bad_steps (He.fAd K d_refuse_bad_steps.at_) fd_refuse_bad_steps := fun_of W_refuse_bad_steps
  have b_refuse_bad_steps : Binds K fd_refuse_bad_steps ["steps"] [] := F_refuse_bad_steps.binds (ps := ["steps"]) fun _ _ _ _ _ _ us hl => match us, hl with | [_], _ => rfl
  obtain ⟨fd_can_be, W_can_be⟩ := c.t.d.def_ 6 (d := d_can_be) rfl
  have F_can_be : Fun K _ _ s_can_be (He.fAd K d_can_be.at_) fd_can_be := fun_of W_can_be
  have b_can_be : Binds K fd_can_be ["step", "filled"] [] := F_can_be.binds (ps := ["step", "filled"]) fun _ _ _ _ _ _ us hl => match us, hl with | [_, _], _ => rfl
  obtain ⟨fd_refuse_bad_sum, W_refuse_bad_sum⟩ := c.t.d.def_ 7 (d := d_refuse_bad_sum) rfl
  have F_refuse_bad_sum : Fun K _ _ s_refuse_bad_sum (He.fAd K d_refuse_bad_sum.at_) fd_refuse_bad_sum := fun_of W_refuse_bad_sum
  have b_refuse_bad_sum : Binds K fd_refuse_bad_sum ["part"] [] := F_refuse_bad_sum.binds (ps := ["part"]) fun _ _ _ _ _ _ us hl => match us, hl with | [_], _ => rfl
  obtain ⟨fd_sums_within, W_sums_within⟩ := c.t.d.def_ 8 (d := d_sums_within) rfl
  have F_sums_within : Fun K _ _ s_sums_within (He.fAd K d_sums_within.at_) fd_sums_within := fun_of W_sums_within
  have b_sums_within : Binds K fd_sums_within ["part"] [] := F_sums_within.binds (ps := ["part"]) fun _ _ _ _ _ _ us hl => match us, hl with | [_], _ => rfl
  obtain ⟨fd_put_back, W_put_back⟩ := c.t.d.def_ 9 (d := d_put_back) rfl
  have F_put_back : Fun K _ _ s_put_back (He.fAd K d_put_back.at_) fd_put_back := fun_of W_put_back
  have b_put_back : Binds K fd_put_back ["steps"] [] := F_put_back.binds (ps := ["steps"]) fun _ _ _ _ _ _ us hl => match us, hl with | [_], _ => rfl
  obtain ⟨fd_put_together, W_put_together⟩ := c.t.d.def_ 10 (d := d_put_together) rfl
  have F_put_together : Fun K _ _ s_put_together (He.fAd K d_put_together.at_) fd_put_together := fun_of W_put_together
  have b_put_together : Binds K fd_put_together ["rest", "number", "held"] [] := F_put_together.binds (ps := ["rest", "number", "held"]) fun _ _ _ _ _ _ us hl => match us, hl with | [_, _, _], _ => rfl
  obtain ⟨fd_refuse_no_sum, W_refuse_no_sum⟩ := c.t.d.def_ 11 (d := d_refuse_no_sum) rfl
  have F_refuse_no_sum : Fun K _ _ s_refuse_no_sum (He.fAd K d_refuse_no_sum.at_) fd_refuse_no_sum := fun_of W_refuse_no_sum
  have b_refuse_no_sum : Binds K fd_refuse_no_sum ["part"] [] := F_refuse_no_sum.binds (ps := ["part"]) fun _ _ _ _ _ _ us hl => match us, hl with | [_], _ => rfl
  obtain ⟨fd_cut, W_cut⟩ := c.t.d.def_ 12 (d := d_cut) rfl
  have F_cut : Fun K _ _ s_cut (He.fAd K d_cut.at_) fd_cut := fun_of W_cut
  have b_cut : Binds K fd_cut ["part"] [] := F_cut.binds (ps := ["part"]) fun _ _ _ _ _ _ us hl => match us, hl with | [_], _ => rfl
  obtain ⟨fd_tight, W_tight⟩ := c.t.d.def_ 13 (d := d_tight) rfl
  have F_tight : Fun K _ _ s_tight (He.fAd K d_tight.at_) fd_tight := fun_of W_tight
  have b_tight : Binds K fd_tight ["part"] [] := F_tight.binds (ps := ["part"]) fun _ _ _ _ _ _ us hl => match us, hl with | [_], _ => rfl
  obtain ⟨fd_put_cut, W_put_cut⟩ := c.t.d.def_ 14 (d := d_put_cut) rfl
  have F_put_cut : Fun K _ _ s_put_cut (He.fAd K d_put_cut.at_) fd_put_cut := fun_of W_put_cut
  have b_put_cut : Binds K fd_put_cut ["part", "steps"] [] := F_put_cut.binds (ps := ["part", "steps"]) fun _ _ _ _ _ _ us hl => match us, hl with | [_, _], _ => rfl
  obtain ⟨fd_put_next, W_put_next⟩ := c.t.d.def_ 15 (d := d_put_next) rfl
  have F_put_next : Fun K _ _ s_put_next (He.fAd K d_put_next.at_) fd_put_next := fun_of W_put_next
  have b_put_next : Binds K fd_put_next ["rest", "steps"] [] := F_put_next.binds (ps := ["rest", "steps"]) fun _ _ _ _ _ _ us hl => match us, hl with | [_, _], _ => rfl
  obtain ⟨fd_put_tight, W_put_tight⟩ := c.t.d.def_ 16 (d := d_put_tight) rfl
  have F_put_tight : Fun K _ _ s_put_tight (He.fAd K d_put_tight.at_) fd_put_tight := fun_of W_put_tight
  have b_put_tight : Binds K fd_put_tight ["part", "box", "steps"] [] := F_put_tight.binds (ps := ["part", "box", "steps"]) fun _ _ _ _ _ _ us hl => match us, hl with | [_, _, _], _ => rfl
  obtain ⟨fd_Way_init, W_Way_init⟩ := c.t.d.def_ 17 (d := d_Way_init) rfl
  have F_Way_init : Fun K _ _ s_Way_init (He.fAd K d_Way_init.at_) fd_Way_init := fun_of W_Way_init
  have b_Way_init : Binds K fd_Way_init ["self", "part"] [] := F_Way_init.binds (ps := ["self", "part"]) fun _ _ _ _ _ _ us hl => match us, hl with | [_, _], _ => rfl
  obtain ⟨fd_least, W_least⟩ := c.t.d.def_ 18 (d := d_least) rfl
  have F_least : Fun K _ _ s_least (He.fAd K d_least.at_) fd_least := fun_of W_least
  have b_least : Binds K fd_least ["part"] [] := F_least.binds (ps := ["part"]) fun _ _ _ _ _ _ us hl => match us, hl with | [_], _ => rfl
  obtain ⟨fd_boxes_in_order, W_boxes_in_order⟩ := c.t.d.def_ 19 (d := d_boxes_in_order) rfl
  have F_boxes_in_order : Fun K _ _ s_boxes_in_order (He.fAd K d_boxes_in_order.at_) fd_boxes_in_order := fun_of W_boxes_in_order
  have b_boxes_in_order : Binds K fd_boxes_in_order ["ways"] [] := F_boxes_in_order.binds (ps := ["ways"]) fun _ _ _ _ _ _ us hl => match us, hl with | [_], _ => rfl
  obtain ⟨fd_put_steps, W_put_steps⟩ := c.t.d.def_ 20 (d := d_put_steps) rfl
  have F_put_steps : Fun K _ _ s_put_steps (He.fAd K d_put_steps.at_) fd_put_steps := fun_of W_put_steps
  have b_put_steps : Binds K fd_put_steps ["way", "box", "steps"] [] := F_put_steps.binds (ps := ["way", "box", "steps"]) fun _ _ _ _ _ _ us hl => match us, hl with | [_, _, _], _ => rfl
  obtain ⟨fd_law_start, W_law_start⟩ := c.t.d.def_ 21 (d := d_law_start) rfl
  have F_law_start : Fun K _ _ s_law_start (He.fAd K d_law_start.at_) fd_law_start := fun_of W_law_start
  have b_law_start : Binds K fd_law_start ["_law_script"] [] := F_law_start.binds (ps := ["_law_script"]) fun _ _ _ _ _ _ us hl => match us, hl with | [_], _ => rfl
  obtain ⟨fd_law_drawn, W_law_drawn⟩ := c.t.d.def_ 22 (d := d_law_drawn) rfl
  have F_law_drawn : Fun K _ _ s_law_drawn (He.fAd K d_law_drawn.at_) fd_law_drawn := fun_of W_law_drawn
  have b_law_drawn : Binds K fd_law_drawn ["_law_state", "_law_many"] [] := F_law_drawn.binds (ps := ["_law_state", "_law_many"]) fun _ _ _ _ _ _ us hl => match us, hl with | [_, _], _ => rfl
  obtain ⟨fd_law_same, W_law_same⟩ := c.t.d.def_ 23 (d := d_law_same) rfl
  have F_law_same : Fun K _ _ s_law_same (He.fAd K d_law_same.at_) fd_law_same := fun_of W_law_same
  have b_law_same : Binds K fd_law_same ["_law_found", "_law_due"] [] := F_law_same.binds (ps := ["_law_found", "_law_due"]) fun _ _ _ _ _ _ us hl => match us, hl with | [_, _], _ => rfl
  obtain ⟨fd_law_kind, W_law_kind⟩ := c.t.d.def_ 24 (d := d_law_kind) rfl
  have F_law_kind : Fun K _ _ s_law_kind (He.fAd K d_law_kind.at_) fd_law_kind := fun_of W_law_kind
  have b_law_kind : Binds K fd_law_kind ["_law_work"] [] := F_law_kind.binds (ps := ["_law_work"]) fun _ _ _ _ _ _ us hl => match us, hl with | [_], _ => rfl
  obtain ⟨fd_law_sum, W_law_sum⟩ := c.t.d.def_ 25 (d := d_law_sum) rfl
  have F_law_sum : Fun K _ _ s_law_sum (He.fAd K d_law_sum.at_) fd_law_sum := fun_of W_law_sum
  have b_law_sum : Binds K fd_law_sum ["_law_state", "_law_deep", "_law_room"] [] := F_law_sum.binds (ps := ["_law_state", "_law_deep", "_law_room"]) fun _ _ _ _ _ _ us hl => match us, hl with | [_, _, _], _ => rfl
  obtain ⟨fd_law_any, W_law_any⟩ := c.t.d.def_ 26 (d := d_law_any) rfl
  have F_law_any : Fun K _ _ s_law_any (He.fAd K d_law_any.at_) fd_law_any := fun_of W_law_any
  have b_law_any : Binds K fd_law_any ["_law_state"] [] := F_law_any.binds (ps := ["_law_state"]) fun _ _ _ _ _ _ us hl => match us, hl with | [_], _ => rfl
  obtain ⟨fd_law_quiet, W_law_quiet⟩ := c.t.d.def_ 27 (d := d_law_quiet) rfl
  have F_law_quiet : Fun K _ _ s_law_quiet (He.fAd K d_law_quiet.at_) fd_law_quiet := fun_of W_law_quiet
  have b_law_quiet : Binds K fd_law_quiet ["_law_part"] [] := F_law_quiet.binds (ps := ["_law_part"]) fun _ _ _ _ _ _ us hl => match us, hl with | [_], _ => rfl
  obtain ⟨fd_law_moved, W_law_moved⟩ := c.t.d.def_ 28 (d := d_law_moved) rfl
  have F_law_moved : Fun K _ _ s_law_moved (He.fAd K d_law_moved.at_) fd_law_moved := fun_of W_law_moved
  have b_law_moved : Binds K fd_law_moved ["_law_steps", "_law_order"] [] := F_law_moved.binds (ps := ["_law_steps", "_law_order"]) fun _ _ _ _ _ _ us hl => match us, hl with | [_, _], _ => rfl
  obtain ⟨fd_law, W_law⟩ := c.t.d.def_ 29 (d := d_law) rfl
  have F_law : Fun K _ _ s_law (He.fAd K d_law.at_) fd_law := fun_of W_law
  have b_law : Binds K fd_law ["_law_script"] [] := F_law.binds (ps := ["_law_script"]) fun _ _ _ _ _ _ us hl => match us, hl with | [_], _ => rfl
  refine ⟨fd_law, [He.cT K ("law", none)], spLaw K (He.cT K ("law", none)).2, ?_, ?_, ?_, ?_, ?_, ?_⟩
  · intro p hp
    rw [List.mem_singleton.mp hp]
    exact c.empty _ List.mem_cons_self
  · intro p hp
    rw [List.mem_singleton.mp hp]
    exact c.out _ List.mem_cons_self
  · intro p hp
    rw [List.mem_singleton.mp hp]
    exact PySem.W.codeHd_of_K X (c.hd _ List.mem_cons_self)
  · intro s u
    obtain ⟨oc, od, kV, doc, pm, an, cdv, ct, osl, e, _⟩ := F_law.ex
    rw [e]
    exact .of_eq rfl
  · intro H a ns _ _ hT hS
    exact ⟨a, ns, rfl, hS, fun p hp => by rw [List.mem_singleton.mp hp]; exact LamX.TabS.nil (hT _ List.mem_cons_self), fun _ => rfl⟩
  · intro base KB GB TBs
    have TB := TBs _ List.mem_cons_self
    have D_law_drawn : Df PySem.Challenge.rw_stepnames_k09_whole_put_back.prog w K mg base CX0 1 "_law_drawn" ["_law_state", "_law_many"] (spDrawn K) := ⟨_, fd_law_drawn, g_law_drawn, F_law_drawn.kp, b_law_drawn, ok_drawn F_law_drawn Z⟩
    have D_law_start : Df PySem.Challenge.rw_stepnames_k09_whole_put_back.prog w K mg base CX0 1 "_law_start" ["_law_script"] (spStart K) := ⟨_, fd_law_start, g_law_start, F_law_start.kp, b_law_start, ok_start F_law_start Z⟩
    have R_sum : ∀ n : Nat, Df PySem.Challenge.rw_stepnames_k09_whole_put_back.prog w K mg base CX0 (n + 1) "_law_sum" ["_law_state", "_law_deep", "_law_room"] (spSumD K n) := by
      intro n
      induction n with
      | zero => exact ⟨_, fd_law_sum, g_law_sum, F_law_sum.kp, b_law_sum, none_df (fun vs H Q E h => by exact absurd h.1 (by decide))⟩
      | succ n ih => exact ⟨_, fd_law_sum, g_law_sum, F_law_sum.kp, b_law_sum, fn_imp (ok_sum F_law_sum Z D_law_drawn ih) (fun _ _ _ _ h => h.2)⟩
    have D_law_sum : Df PySem.Challenge.rw_stepnames_k09_whole_put_back.prog w K mg base CX0 17 "_law_sum" ["_law_state", "_law_deep", "_law_room"] (spSum K 16) := ⟨_, fd_law_sum, g_law_sum, F_law_sum.kp, b_law_sum, ok_sum F_law_sum Z D_law_drawn (R_sum 15)⟩
    have R_quiet : ∀ n : Nat, Df PySem.Challenge.rw_stepnames_k09_whole_put_back.prog w K mg base CX0 (n + 0) "_law_quiet" ["_law_part"] (spQuiet n) := by
      intro n
      induction n with
      | zero => exact ⟨_, fd_law_quiet, g_law_quiet, F_law_quiet.kp, b_law_quiet, none_df (fun vs H Q E h => by obtain ⟨v, s, _, _, hd, _⟩ := h; have := s.depth_pos; omega)⟩
      | succ n ih => exact ⟨_, fd_law_quiet, g_law_quiet, F_law_quiet.kp, b_law_quiet, ok_quiet F_law_quiet Z ih⟩
    have D_law_any : Df PySem.Challenge.rw_stepnames_k09_whole_put_back.prog w K mg base CX0 18 "_law_any" ["_law_state"] (spAny K) := ⟨_, fd_law_any, g_law_any, F_law_any.kp, b_law_any, ok_any F_law_any Z D_law_drawn D_law_sum (R_quiet 16)⟩
    have R_same : ∀ n : Nat, Df PySem.Challenge.rw_stepnames_k09_whole_put_back.prog w K mg base CX0 (n + 0) "_law_same" ["_law_found", "_law_due"] (spSameD n) := by
      intro n
      induction n with
      | zero => exact ⟨_, fd_law_same, g_law_same, F_law_same.kp, b_law_same, none_df (fun vs H Q E h => by exact absurd h.1 (by decide))⟩
      | succ n ih => exact ⟨_, fd_law_same, g_law_same, F_law_same.kp, b_law_same, fn_imp (ok_same F_law_same Z ih) (fun _ _ _ _ h => h.2)⟩
    have D_law_same : Df PySem.Challenge.rw_stepnames_k09_whole_put_back.prog w K mg base CX0 21 "_law_same" ["_law_found", "_law_due"] (spSame 20) := ⟨_, fd_law_same, g_law_same, F_law_same.kp, b_law_same, ok_same F_law_same Z (R_same 20)⟩
    have D_parts_of_g : Df PySem.Challenge.rw_stepnames_k09_whole_put_back.prog w K mg base CX0 1 "parts_of" ["part"] spPartsG := ⟨_, fd_parts_of, g_parts_of, F_parts_of.kp, b_parts_of, ok_partsG F_parts_of Z T⟩
    have D_parts_of : Df PySem.Challenge.rw_stepnames_k09_whole_put_back.prog w K mg base CX0 1 "parts_of" ["part"] spPartsOf := ⟨_, fd_parts_of, g_parts_of, F_parts_of.kp, b_parts_of, fn_imp (ok_partsG F_parts_of Z T) partsOf_imp⟩
    have D_is_whole : Df PySem.Challenge.rw_stepnames_k09_whole_put_back.prog w K mg base CX0 1 "is_whole" ["found", "most"] spWhole := ⟨_, fd_is_whole, g_is_whole, F_is_whole.kp, b_is_whole, ok_whole F_is_whole Z⟩
    have D_has_form_g : Df PySem.Challenge.rw_stepnames_k09_whole_put_back.prog w K mg base CX0 2 "has_form" ["part"] spFormG := ⟨_, fd_has_form, g_has_form, F_has_form.kp, b_has_form, ok_formG F_has_form Z T D_is_whole⟩
    have D_has_form : Df PySem.Challenge.rw_stepnames_k09_whole_put_back.prog w K mg base CX0 2 "has_form" ["part"] spForm := ⟨_, fd_has_form, g_has_form, F_has_form.kp, b_has_form, fn_imp (ok_formG F_has_form Z T D_is_whole) form_imp⟩
    have D_can_be : Df PySem.Challenge.rw_stepnames_k09_whole_put_back.prog w K mg base CX0 3 "can_be" ["step", "filled"] spCanBe := ⟨_, fd_can_be, g_can_be, F_can_be.kp, b_can_be, ok_canbe F_can_be Z T D_is_whole D_has_form_g D_parts_of_g⟩
    have D_refuse_bad_steps : Df PySem.Challenge.rw_stepnames_k09_whole_put_back.prog w K mg base CX0 4 "refuse_bad_steps" ["steps"] spGoodSteps := ⟨_, fd_refuse_bad_steps, g_refuse_bad_steps, F_refuse_bad_steps.kp, b_refuse_bad_steps, ok_goodsteps F_refuse_bad_steps Z T D_can_be⟩
    have D_sums_within : Df PySem.Challenge.rw_stepnames_k09_whole_put_back.prog w K mg base CX0 3 "sums_within" ["part"] spWithin := ⟨_, fd_sums_within, g_sums_within, F_sums_within.kp, b_sums_within, ok_within F_sums_within Z T D_has_form D_parts_of⟩
    have D_refuse_bad_sum : Df PySem.Challenge.rw_stepnames_k09_whole_put_back.prog w K mg base CX0 4 "refuse_bad_sum" ["part"] spGoodSum := ⟨_, fd_refuse_bad_sum, g_refuse_bad_sum, F_refuse_bad_sum.kp, b_refuse_bad_sum, ok_goodsum F_refuse_bad_sum Z D_sums_within⟩
    have D_filled_with : Df PySem.Challenge.rw_stepnames_k09_whole_put_back.prog w K mg base CX0 1 "filled_with" ["part", "filling"] spFilled := ⟨_, fd_filled_with, g_filled_with, F_filled_with.kp, b_filled_with, ok_filled F_filled_with Z⟩
    have D_put_next : Df PySem.Challenge.rw_stepnames_k09_whole_put_back.prog w K mg base CX0 1 "put_next" ["rest", "steps"] spNext := ⟨_, fd_put_next, g_put_next, F_put_next.kp, b_put_next, ok_next F_put_next Z⟩
    have R_putcut : ∀ n : Nat, Df PySem.Challenge.rw_stepnames_k09_whole_put_back.prog w K mg base CX0 (n + 1) "put_cut" ["part", "steps"] (spPutCut n) := by
      intro n
      induction n with
      | zero => exact ⟨_, fd_put_cut, g_put_cut, F_put_cut.kp, b_put_cut, none_df (fun vs H Q E h => by obtain ⟨v, s, _, _, _, hd, _⟩ := h; have := s.depth_pos; omega)⟩
      | succ n ih => exact ⟨_, fd_put_cut, g_put_cut, F_put_cut.kp, b_put_cut, ok_putcut F_put_cut Z D_parts_of D_filled_with D_put_next ih⟩
    have R_puttight : ∀ n : Nat, Df PySem.Challenge.rw_stepnames_k09_whole_put_back.prog w K mg base CX0 (n + 1) "put_tight" ["part", "box", "steps"] (spPutTight n) := by
      intro n
      induction n with
      | zero => exact ⟨_, fd_put_tight, g_put_tight, F_put_tight.kp, b_put_tight, none_df (fun vs H Q E h => by obtain ⟨v, s, _, _, _, _, hd, _⟩ := h; have := s.depth_pos; omega)⟩
      | succ n ih => exact ⟨_, fd_put_tight, g_put_tight, F_put_tight.kp, b_put_tight, ok_puttight F_put_tight Z D_parts_of D_filled_with ih⟩
    have D_cut : Df PySem.Challenge.rw_stepnames_k09_whole_put_back.prog w K mg base CX0 19 "cut" ["part"] spCut := ⟨_, fd_cut, g_cut, F_cut.kp, b_cut, ok_cut F_cut Z D_refuse_bad_sum (R_putcut 16)⟩
    have D_tight : Df PySem.Challenge.rw_stepnames_k09_whole_put_back.prog w K mg base CX0 19 "tight" ["part"] spTight := ⟨_, fd_tight, g_tight, F_tight.kp, b_tight, ok_tight F_tight Z D_refuse_bad_sum (R_puttight 16)⟩
    have D_is_effect_g : Df PySem.Challenge.rw_stepnames_k09_whole_put_back.prog w K mg base CX0 1 "is_effect" ["part"] spIsEffG := ⟨_, fd_is_effect, g_is_effect, F_is_effect.kp, b_is_effect, ok_isEffG F_is_effect Z⟩
    have D_is_effect : Df PySem.Challenge.rw_stepnames_k09_whole_put_back.prog w K mg base CX0 1 "is_effect" ["part"] spIsEff := ⟨_, fd_is_effect, g_is_effect, F_is_effect.kp, b_is_effect, fn_imp (ok_isEffG F_is_effect Z) isEff_imp⟩
    have D_put_together : Df PySem.Challenge.rw_stepnames_k09_whole_put_back.prog w K mg base CX0 2 "put_together" ["rest", "number", "held"] spTogether := ⟨_, fd_put_together, g_put_together, F_put_together.kp, b_put_together, ok_together F_put_together Z T D_parts_of_g D_is_effect_g D_filled_with⟩
    have D_refuse_no_sum : Df PySem.Challenge.rw_stepnames_k09_whole_put_back.prog w K mg base CX0 5 "refuse_no_sum" ["part"] spGoodSum := ⟨_, fd_refuse_no_sum, g_refuse_no_sum, F_refuse_no_sum.kp, b_refuse_no_sum, ok_noSum F_refuse_no_sum Z T D_refuse_bad_sum⟩
    have D_put_back : Df PySem.Challenge.rw_stepnames_k09_whole_put_back.prog w K mg base (L2.CX PySem.Challenge.rw_stepnames_k09_whole_put_back.prog w) 6 "put_back" ["steps"] (spBack (adOf K).noSum) := ⟨_, fd_put_back, g_put_back, F_put_back.kp, b_put_back, ok_putback F_put_back Z T D_refuse_bad_steps D_put_together D_refuse_no_sum⟩
    have D_law_moved : Df PySem.Challenge.rw_stepnames_k09_whole_put_back.prog w K mg base CX0 1 "_law_moved" ["_law_steps", "_law_order"] spMoved := ⟨_, fd_law_moved, g_law_moved, F_law_moved.kp, b_law_moved, ok_moved F_law_moved Z⟩
    have D_boxes_in_order : Df PySem.Challenge.rw_stepnames_k09_whole_put_back.prog w K mg base CX0 1 "boxes_in_order" ["ways"] (spBoxesIn (adOf K).way) := ⟨_, fd_boxes_in_order, g_boxes_in_order, F_boxes_in_order.kp, b_boxes_in_order, ok_boxesIn F_boxes_in_order Z T⟩
    have R_way : ∀ n : Nat, FnOk PySem.Challenge.rw_stepnames_k09_whole_put_back.prog w K mg base CX0 (2 * n + 2) (He.fAd K d_Way_init.at_) fd_Way_init ["self", "part"] (spInitW (adOf K).way n) := by
      intro n
      induction n with
      | zero => exact none_df (fun vs H Q E h => by obtain ⟨_, _, v, s, _, _, _, hd, _⟩ := h; have := s.depth_pos; omega)
      | succ n ih => exact ok_initW F_Way_init Z T D_parts_of D_is_effect D_boxes_in_order (He.mkr_ok (c.t.d.fact 71 (f := .mkr "Way") rfl)) b_Way_init ih
    have R_putsteps : ∀ n : Nat, Df PySem.Challenge.rw_stepnames_k09_whole_put_back.prog w K mg base CX0 (n + 1) "put_steps" ["way", "box", "steps"] (spPutSteps (adOf K).way n) := by
      intro n
      induction n with
      | zero => exact ⟨_, fd_put_steps, g_put_steps, F_put_steps.kp, b_put_steps, none_df (fun vs H Q E h => by obtain ⟨v, s, _, _, _, _, _, _, _, _, hd, _⟩ := h; have := s.depth_pos; omega)⟩
      | succ n ih => exact ⟨_, fd_put_steps, g_put_steps, F_put_steps.kp, b_put_steps, ok_putsteps F_put_steps Z T D_filled_with ih⟩
    have D_least : Df PySem.Challenge.rw_stepnames_k09_whole_put_back.prog w K mg base CX0 60 "least" ["part"] spLeast := ⟨_, fd_least, g_least, F_least.kp, b_least, ok_least F_least Z T D_refuse_bad_sum (R_putsteps 16) (He.mkr_ok (c.t.d.fact 71 (f := .mkr "Way") rfl)) b_Way_init (R_way 16)⟩
    obtain ⟨oc, od, kV, doc, pm, an, cdv, ct, osl, ef, lk, cd⟩ := F_law.ex
    obtain ⟨oc2, od2, kV2, doc2, pm2, an2, cdv2, ct2, osl2, ef2, lk2, cd2⟩ := F_law_kind.ex
    obtain ⟨cl, ecl⟩ := He.codeIn_ref cd
    subst ef ef2 ecl
    have ec : (He.cT K ("law", none)).1 = cl := He.codeOf_eq lk rfl
    rw [ec] at TB
    have eg := hfa.symm.trans g_law
    cases eg
    exact ok_law lk cd lk2 cd2 b_law_kind F_law_kind.kp g_law_kind Z TK K_NoSum TB D_law_start D_law_drawn D_law_any D_law_moved D_law_same D_least D_tight D_cut D_put_back
end My
namespace My
open PySem PySem.Spec PyProof.Rows L2 Wk
end My
open PySem PySem.W PySem.Calls PyProof.Rows
set_option maxHeartbeats 0 in
theorem PySem.Challenge.cw_stepnames_k09_whole_put_back_holds : PySem.Challenge.rw_stepnames_k09_whole_put_back.Holds := by
  w_on; o_law
  refine HandSHeadRun.head_any (r := OpenLaw.row PySem.Challenge.rw_stepnames_k09_whole_put_back) (q := view (OpenLaw.row PySem.Challenge.rw_stepnames_k09_whole_put_back).prog [55]) (H := My.hk) (ob := My.ob) (M := 4000) (loose := My.loosel) (d := HandSHeadRun.topDef (OpenLaw.row PySem.Challenge.rw_stepnames_k09_whole_put_back).prog 55) (kwd := []) My.ob_eq
    (by kernel_rfl) (fun s => by kernel_rfl) My.run (by kernel_rfl) (by kernel_rfl) (by kernel_rfl) (by rfl) (by first | assumption | decide +kernel) (by decide +kernel) ⟨rfl, rfl, rfl, rfl, rfl, by decide +kernel⟩ ?hw ?hc
  case hw => w_witness2
  case hc =>
    refine LamX.walk_ofTsE (l := PySem.Challenge.rw_stepnames_k09_whole_put_back) (n := 63) (k := 80) (x := "_law_script") (CX := fun _ => L2.CX0) rfl (by decide) (by kernel_rfl) ⟨rfl, by decide, by decide⟩ ?F (fun _ _ _ _ _ z => z)
    intro w mg fa h Y G hmg0
    obtain ⟨K, KX, c⟩ := Y
    have hmg : mg ("law" : PySem.Str) = some (.ref fa) := by
      have e : (HandSHeadRun.topDef (OpenLaw.row PySem.Challenge.rw_stepnames_k09_whole_put_back).prog 55).name = ("law" : PySem.Str) := by kernel_rfl
      rw [← e]
      exact hmg0
    exact ⟨K, KX, My.facts KX G hmg c⟩
