import PyProof.Rows.All
import Wide.All
import OpenK.AllK
import Wide.FinOn
import HandS.ForMost
import HandS.ForExc
import HandS.Wide
import HandS.IsInst
import HandS.Small
import HandS.Zip
import HandS.More
import HandS.FStr
import PyProof.EqAt
import PyProof.EqKinds
import PyProof.TupleCall
import HandS.Base
import HandS.Call
import HandS.List
import HandS.Dict
import HandS.Iter
import HandS.Set
import HandS.SetFor
import PyProof.NeKinds
import PyProof.MeetsIn
import HandS.DeepEq
import HandS.Lambda
import HandS.ExcIs
import HandS.EndTab
import HandS.HeadWalk
import HandS.HeadHook4
import HandS.Head2
import HandS.HeadEnd
import PySem.Challenge.RW_stepnames_k02_worths
set_option Elab.async false
set_option linter.all false
set_option maxRecDepth 100000
set_option maxHeartbeats 4000000
namespace My
open PySem PySem.Spec PyProof.Rows L2
def top (i : Nat) : Stmt := PySem.Challenge.pw_stepnames_k02_worths.main.body.getD i (.Pass ⟨0, 0, 0, 0⟩)
def letters : List Str := ["a", "b", "c", "d", "e", "f"]
abbrev s_law_drawn : Stmt := top 29
abbrev s_law_start : Stmt := top 28
abbrev s_law_sum : Stmt := top 32
abbrev s_law_quiet : Stmt := top 34
abbrev s_law_parts : Stmt := top 35
abbrev s_law_all : Stmt := top 36
abbrev s_law_names : Stmt := top 37
abbrev s_law_given : Stmt := top 38
abbrev s_law_any : Stmt := top 33
abbrev s_law_worth : Stmt := top 39
abbrev s_law_told : Stmt := top 40
abbrev s_law_same : Stmt := top 30
abbrev s_joined : Stmt := top 20
abbrev s_parts_of : Stmt := top 14
abbrev s_Effects_init : Stmt := inClass (top 17) 0
abbrev s_Effects_say : Stmt := inClass (top 17) 1
abbrev s_Effects_ask : Stmt := inClass (top 17) 2
abbrev s_comes_to : Stmt := top 19
abbrev s_worked_out : Stmt := top 26
abbrev s_is_whole : Stmt := top 12
abbrev s_has_form : Stmt := top 13
abbrev s_sums_within : Stmt := top 25
abbrev s_refuse_lacks : Stmt := top 18
abbrev s_worth : Stmt := top 24
abbrev s_law_kind : Stmt := top 31
abbrev s_law : Stmt := top 41
def d_is_whole : He.DefD := ⟨("is_whole", none), "is_whole", "is_whole", defArgs s_is_whole, defBody s_is_whole, defScope s_is_whole, [], []⟩
def d_has_form : He.DefD := ⟨("has_form", none), "has_form", "has_form", defArgs s_has_form, defBody s_has_form, defScope s_has_form, [], []⟩
def d_parts_of : He.DefD := ⟨("parts_of", none), "parts_of", "parts_of", defArgs s_parts_of, defBody s_parts_of, defScope s_parts_of, [], []⟩
def d_refuse_lacks : He.DefD := ⟨("refuse_lacks", none), "refuse_lacks", "refuse_lacks", defArgs s_refuse_lacks, defBody s_refuse_lacks, defScope s_refuse_lacks, [], []⟩
def d_comes_to : He.DefD := ⟨("comes_to", none), "comes_to", "comes_to", defArgs s_comes_to, defBody s_comes_to, defScope s_comes_to, [], []⟩
def d_joined : He.DefD := ⟨("joined", none), "joined", "joined", defArgs s_joined, defBody s_joined, defScope s_joined, [], []⟩
def d_worth : He.DefD := ⟨("worth", none), "worth", "worth", defArgs s_worth, defBody s_worth, defScope s_worth, [], []⟩
def d_sums_within : He.DefD := ⟨("sums_within", none), "sums_within", "sums_within", defArgs s_sums_within, defBody s_sums_within, defScope s_sums_within, [], []⟩
def d_worked_out : He.DefD := ⟨("worked_out", none), "worked_out", "worked_out", defArgs s_worked_out, defBody s_worked_out, defScope s_worked_out, [], []⟩
def d_law_start : He.DefD := ⟨("_law_start", none), "_law_start", "_law_start", defArgs s_law_start, defBody s_law_start, defScope s_law_start, [], []⟩
def d_law_drawn : He.DefD := ⟨("_law_drawn", none), "_law_drawn", "_law_drawn", defArgs s_law_drawn, defBody s_law_drawn, defScope s_law_drawn, [], []⟩
def d_law_same : He.DefD := ⟨("_law_same", none), "_law_same", "_law_same", defArgs s_law_same, defBody s_law_same, defScope s_law_same, [], []⟩
def d_law_kind : He.DefD := ⟨("_law_kind", none), "_law_kind", "_law_kind", defArgs s_law_kind, defBody s_law_kind, defScope s_law_kind, [], []⟩
def d_law_sum : He.DefD := ⟨("_law_sum", none), "_law_sum", "_law_sum", defArgs s_law_sum, defBody s_law_sum, defScope s_law_sum, [], []⟩
def d_law_any : He.DefD := ⟨("_law_any", none), "_law_any", "_law_any", defArgs s_law_any, defBody s_law_any, defScope s_law_any, [], []⟩
def d_law_quiet : He.DefD := ⟨("_law_quiet", none), "_law_quiet", "_law_quiet", defArgs s_law_quiet, defBody s_law_quiet, defScope s_law_quiet, [], []⟩
def d_law_parts : He.DefD := ⟨("_law_parts", none), "_law_parts", "_law_parts", defArgs s_law_parts, defBody s_law_parts, defScope s_law_parts, [], []⟩
def d_law_all : He.DefD := ⟨("_law_all", none), "_law_all", "_law_all", defArgs s_law_all, defBody s_law_all, defScope s_law_all, [], []⟩
def d_law_names : He.DefD := ⟨("_law_names", none), "_law_names", "_law_names", defArgs s_law_names, defBody s_law_names, defScope s_law_names, [], []⟩
def d_law_given : He.DefD := ⟨("_law_given", none), "_law_given", "_law_given", defArgs s_law_given, defBody s_law_given, defScope s_law_given, [], []⟩
def d_law_worth : He.DefD := ⟨("_law_worth", none), "_law_worth", "_law_worth", defArgs s_law_worth, defBody s_law_worth, defScope s_law_worth, [], []⟩
def d_law_told : He.DefD := ⟨("_law_told", none), "_law_told", "_law_told", defArgs s_law_told, defBody s_law_told, defScope s_law_told, [], []⟩
def d_law : He.DefD := ⟨("law", none), "law", "law", defArgs s_law, defBody s_law, defScope s_law, [], []⟩
def d_Effects_init : He.DefD := ⟨("Effects", some "__init__"), "__init__", "Effects.__init__", defArgs s_Effects_init, defBody s_Effects_init, defScope s_Effects_init, [], []⟩
def d_Effects_say : He.DefD := ⟨("Effects", some "say"), "say", "Effects.say", defArgs s_Effects_say, defBody s_Effects_say, defScope s_Effects_say, [], []⟩
def d_Effects_ask : He.DefD := ⟨("Effects", some "ask"), "ask", "Effects.ask", defArgs s_Effects_ask, defBody s_Effects_ask, defScope s_Effects_ask, [], []⟩
def fnl : List He.DefD := [d_is_whole, d_has_form, d_parts_of, d_refuse_lacks, d_comes_to, d_joined, d_worth, d_sums_within, d_worked_out, d_law_start, d_law_drawn, d_law_same, d_law_kind, d_law_sum, d_law_any, d_law_quiet, d_law_parts, d_law_all, d_law_names, d_law_given, d_law_worth, d_law_told, d_law, d_Effects_init, d_Effects_say, d_Effects_ask]
def fal : List He.Fa := [.free "len", .free "isinstance", .free "range", .free "int", .free "list", .free "dict", .free "tuple", .free "set", .free "sorted", .free "type", .free "any", .free "all", .free "min", .free "max", .free "enumerate", .free "zip", .free "reversed", .free "bool", .free "str", .free "super", .free "ValueError", .glo "is_whole", .glo "has_form", .glo "parts_of", .glo "refuse_lacks", .glo "comes_to", .glo "joined", .glo "worth", .glo "sums_within", .glo "worked_out", .glo "_law_start", .glo "_law_drawn", .glo "_law_same", .glo "_law_kind", .glo "_law_sum", .glo "_law_any", .glo "_law_quiet", .glo "_law_parts", .glo "_law_all", .glo "_law_names", .glo "_law_given", .glo "_law_worth", .glo "_law_told", .glo "law", .glo "Effects", .glo "LETTERS", .glo "WORDS_WITH_TWO_PARTS", .glo "StepError", .glo "BadSum", .glo "BadSteps", .glo "NoName", .glo "NoMore", .glo "NoSum", .glo "BadText", .int "MODULUS" 1000, .int "LARGEST" 999, .int "MOST_SUMS" 60, .int "MOST_WITHIN" 15, .cls "Effects", .noat "Effects" "given", .noat "Effects" "said", .noat "Effects" "asked", .meth "Effects" "say", .meth "Effects" "ask", .mkr "Effects", .exc "NoName", .exm "NoName" "StepError" true, .exc "NoMore", .exm "NoMore" "StepError" true]
def loosel : List PySem.Str := (["StepError", "BadSum", "BadSteps", "NoName", "NoMore", "NoSum", "BadText", "LETTERS"] : List PySem.Str) ++ (["LARGEST", "WORDS_WITH_TWO_PARTS", "is_whole", "has_form", "parts_of", "MODULUS", "Effects", "refuse_lacks"] : List PySem.Str) ++ (["comes_to", "joined", "MOST_SUMS", "MOST_WITHIN", "worth", "sums_within", "worked_out", "_law_start"] : List PySem.Str) ++ (["_law_drawn", "_law_same", "_law_kind", "_law_sum", "_law_any", "_law_quiet", "_law_parts", "_law_all"] : List PySem.Str) ++ (["_law_names", "_law_given", "_law_worth", "_law_told"] : List PySem.Str)
def excB (K : PySem.W.Frag) (x : Str) : Bool := He.eqO (PySem.W.findIn K (.ref (He.ga K x)) "__getattribute__") (some (some (.builtin "BaseException.__getattribute__"))) && (He.eqO (PySem.W.findIn K (.ref (He.ga K x)) "__getattr__") (some none) && (decide (PySem.W.subIn K (.ref (He.ga K x)) (.type "BaseException") = some true) && (PySem.W.hasDictIn K (He.ga K x) &&
  (He.eqO (PySem.W.findIn K (.ref (He.ga K x)) "__class__") (some (some (.builtin "object.__class__"))) && (He.eqO (PySem.W.specialIn K (.builtin "object.__class__") "__get__") (some (some (.builtin "getset_descriptor.__get__"))) && (decide (PySem.W.takesIn K (.builtin "object.__class__") = some true) && decide (PySem.W.mroIn K (He.ga K x) (.type "object") = some true)))))))
def kinB (K : PySem.W.Frag) (x y : Str) (b : Bool) : Bool := decide (PySem.W.kitOne K (.ref (He.ga K x)) (.ref (He.ga K y)) = some b)
def kindB (K : PySem.W.Frag) (x : Str) (i : Nat) : Bool := excB K x && (decide (PySem.W.kitOne K (.ref (He.ga K x)) (.type "ValueError") = some true) && (kinB K x "BadSum" (i == 0) && (kinB K x "BadSteps" (i == 1) && (kinB K x "NoName" (i == 2) && (kinB K x "NoMore" (i == 3) && (kinB K x "NoSum" (i == 4) && kinB K x "BadText" (i == 5)))))))
def exB (K : PySem.W.Frag) : Bool := He.tupB K "LETTERS" (letters.map He.Dv.str) && (He.tupB K "WORDS_WITH_TWO_PARTS" [.str "add", .str "less", .str "times"] && (kindB K "NoName" 2 && kindB K "NoMore" 3))
def tfl : List He.Defn := [("law", none)]
abbrev RO : PySem.W.OpenRow := PySem.W.OpenLaw.row PySem.Challenge.rw_stepnames_k02_worths
abbrev hk : PySem.W.Hook := He.hookX 5 fal fnl [] tfl exB
def ob (s : PySem.W.SharedT) : He.AlX := He.obsX 5 fal fnl [] tfl exB (HandSHeadRun.getT s)
theorem ob_eq (s : PySem.W.SharedT) : ob s = hk.obs s.abs := He.obsX_eq (HandSHeadRun.getT_eq s)
set_option maxHeartbeats 0 in
theorem run (w : World) : HandSHeadRun.RunEq RO (PySem.W.view RO.prog [41]) hk ob 4000 loosel w := by
  intro os
  kernel_rfl
end My
/-! Wk: walking rules, by the head of a reading. -/
namespace Wk
open PySem L2
/-! ### the built-in names are what they were -/
structure Blt (mg : Str → Option Value) : Prop where
  len : mg "len" = none
  isinstance : mg "isinstance" = none
  range : mg "range" = none
  int : mg "int" = none
  list : mg "list" = none
  dict : mg "dict" = none
  tuple : mg "tuple" = none
  set : mg "set" = none
  sorted : mg "sorted" = none
  type : mg "type" = none
  any : mg "any" = none
  all : mg "all" = none
  min : mg "min" = none
  max : mg "max" = none
  enumerate : mg "enumerate" = none
  zip : mg "zip" = none
  reversed : mg "reversed" = none
  bool : mg "bool" = none
  str : mg "str" = none
  super : mg "super" = none
/-! ### heaps -/
/-- from H to H' all but W is kept, and every tuple -/
structure Fr (W : List Addr) (H H' : Hp) : Prop where
  keep : ∀ b o, b ∉ W → H b = some o → H' b = some o
  tup : ∀ b xs, H b = some (.tup xs) → H' b = some (.tup xs)
theorem Fr.refl {W : List Addr} {H : Hp} : Fr W H H := ⟨fun _ _ _ h => h, fun _ _ h => h⟩
theorem Fr.trans {W : List Addr} {H H1 H2 : Hp} (a : Fr W H H1) (b : Fr W H1 H2) : Fr W H H2 :=
  ⟨fun c o n h => b.keep c o n (a.keep c o n h), fun c xs h => b.tup c xs (a.tup c xs h)⟩
theorem Fr.mono {W W' : List Addr} {H H' : Hp} (a : Fr W H H') (h : ∀ b, b ∈ W → b ∈ W') : Fr W' H H' :=
  ⟨fun c o n x => a.keep c o (fun q => n (h c q)) x, a.tup⟩
theorem Fr.nil {W : List Addr} {H H' : Hp} (a : Fr [] H H') : Fr W H H' := a.mono fun _ h => by cases h
/-- what was not there may change -/
theorem Fr.drop {W : List Addr} {p : Addr} {H H' : Hp} (a : Fr (p :: W) H H') (h : H p = none) : Fr W H H' :=
  ⟨fun c o n x => a.keep c o (fun q => by
    rcases List.mem_cons.mp q with e | e
    · rw [e, h] at x; cases x
    · exact n e) x, a.tup⟩
theorem Fr.new {H : Hp} {p : Addr} {o : HO} (h : H p = none) : Fr [] H (upd H p o) :=
  ⟨fun b u _ q => by rw [upd_ne (ne_of_none q h)]; exact q, fun b u q => by rw [upd_ne (ne_of_none q h)]; exact q⟩
/-- a store into what is no tuple -/
theorem Fr.set {H : Hp} {p : Addr} {o u : HO} (h : H p = some u) (hu : ∀ xs, u ≠ .tup xs) : Fr [p] H (upd H p o) :=
  ⟨fun b w n q => by rw [upd_ne (fun e => n (by rw [e]; exact List.mem_singleton.mpr rfl))]; exact q,
   fun b xs q => by
    rw [upd_ne (fun e => ?_)]
    · exact q
    · rw [e, h] at q; exact hu xs (Option.some.inj q)⟩
theorem Fr.get {W : List Addr} {H H' : Hp} {b : Addr} {o : HO} (a : Fr W H H') (h : H b = some o) (n : b ∉ W) : H' b = some o := a.keep b o n h
theorem Fr.get0 {H H' : Hp} {b : Addr} {o : HO} (a : Fr [] H H') (h : H b = some o) : H' b = some o := a.keep b o (by simp) h
theorem Fr.gett {W : List Addr} {H H' : Hp} {b : Addr} {xs : List V} (a : Fr W H H') (h : H b = some (.tup xs)) : H' b = some (.tup xs) := a.tup b xs h
theorem Fr.getl {W : List Addr} {H H' : Hp} {b : Addr} {xs : List V} (a : Fr W H H') (n : b ∉ W) (h : H b = some (.lst xs)) : H' b = some (.lst xs) := a.keep b _ n h
theorem Fr.getd {W : List Addr} {H H' : Hp} {b : Addr} {xs : List (Key × V)} (a : Fr W H H') (n : b ∉ W) (h : H b = some (.dK xs)) : H' b = some (.dK xs) := a.keep b _ n h
theorem Fr.geti {W : List Addr} {H H' : Hp} {b C dx : Addr} {fs : List (Str × V)} (a : Fr W H H') (n : b ∉ W) (h : H b = some (.ins C dx fs)) : H' b = some (.ins C dx fs) := a.keep b _ n h
theorem ni1 {a b : Addr} (h : a ≠ b) : a ∉ [b] := by simpa using h
theorem ni2 {a b c : Addr} (h : a ≠ b) (h' : a ≠ c) : a ∉ [b, c] := by simp [h, h']
theorem fr_last {W W' : List Addr} {H H1 H' : Hp} (f : Fr W' H1 H') (w : ∀ b, b ∈ W' → b ∈ W) (g : Fr W H H1) : Fr W H H' := g.trans (f.mono w)
theorem nn_l {H : Hp} {p b : Addr} {xs : List V} (n : H p = none) (h : H b = some (.lst xs)) : p ≠ b := (ne_of_none h n).symm
theorem nn_d {H : Hp} {p b : Addr} {xs : List (Key × V)} (n : H p = none) (h : H b = some (.dK xs)) : p ≠ b := (ne_of_none h n).symm
theorem nn_i {H : Hp} {p b C dx : Addr} {xs : List (Str × V)} (n : H p = none) (h : H b = some (.ins C dx xs)) : p ≠ b := (ne_of_none h n).symm
theorem Fr.sqln {K : PySem.W.Frag} {W : List Addr} {H H' : Hp} {b : Addr} {xs : List V} (a : Fr W H H') (n : b ∉ W) (h : SqL K H b xs) : SqL K H' b xs := by
  rcases h with (h | ⟨o, h⟩) | h
  · exact .inl (.inl (a.get h n))
  · exact .inl (.inr ⟨o, a.get h n⟩)
  · exact .inr h
/-- not there behind, not there before -/
theorem Fr.back {H H' : Hp} {p : Addr} (a : Fr [] H H') (h : H' p = none) : H p = none := by
  cases e : H p with
  | none => rfl
  | some o => rw [a.get0 e] at h; cases h
theorem Fr.seql {K : PySem.W.Frag} {W : List Addr} {H H' : Hp} {b : Addr} {xs : List V} (a : Fr W H H') (h : SqL K H b xs) (n : b ∉ W) : SqL K H' b xs := by
  rcases h with (h | ⟨o, h⟩) | h
  · exact .inl (.inl (a.get h n))
  · exact .inl (.inr ⟨o, a.get h n⟩)
  · exact .inr h
theorem Fr.seqt {K : PySem.W.Frag} {W : List Addr} {H H' : Hp} {b : Addr} {xs : List V} (a : Fr W H H') (h : SqT K H b xs) (n : b ∉ W) : SqT K H' b xs := by
  rcases h with (h | ⟨o, h⟩) | h
  · exact .inl (.inl (a.get h n))
  · exact .inl (.inr ⟨o, a.get h n⟩)
  · exact .inr h

/-- len of a list, a tuple -/
def rLenW (K : PySem.W.Frag) : List V → Hp → VK → Prop := fun xs H Q => ∃ p ys, xs = [.ref p] ∧ (SqL K H p ys ∨ SqT K H p ys) ∧ Q (.int ys.length) H
theorem call_lenN {X : Cx} : CallR X (.builtin "len") (rLenW X.K) := call_len_seq
def NewT (Q : VK) (xs : List V) (H : Hp) : Prop := xs.length ≤ sizeLine ∧ ∀ p, H p = none → Q (.ref p) (upd H p (.tup xs))
def NewL (Q : VK) (xs : List V) (H : Hp) : Prop := xs.length ≤ sizeLine ∧ ∀ p, H p = none → Q (.ref p) (upd H p (.lst xs))
def ForB (J : It) (g : TG) (tb : TS) (D : Ends) (σ : St) (H : Hp) : Prop := ∃ W : Nat → Nat → St → Hp → Prop, (∃ m, W 0 m σ H) ∧ ∀ i m σ H, W i m σ H →
  (J.stop i H ∧ D.nx σ H) ∨ (J.go i H ∧ ∃ N : St → Hp → Prop, (∀ σ' H', N σ' H' → ∃ m', m' < m ∧ W (i + 1) m' σ' H') ∧ ∀ x H', J.yld i H x H' → g x σ H' fun σ2 H2 => tb { D with nx := N, ct := N, bk := D.nx } σ2 H2)
def IlB (K : PySem.W.Frag) (R : It → Hp → Prop) (x : V) (H : Hp) : Prop := ∃ a, x = .ref a ∧ (∃ xs, SqL K H a xs) ∧ R (Itl K a) H
def ItB (K : PySem.W.Frag) (R : It → Hp → Prop) (x : V) (H : Hp) : Prop := ∃ a, x = .ref a ∧ (∃ xs, SqT K H a xs) ∧ R (Itt K a) H
def RgB1 (R : It → Hp → Prop) (vs : List V) (H : Hp) : Prop := ∃ j : Int, vs = [.int j] ∧ -(2 ^ 62) ≤ j ∧ j < 2 ^ 62 ∧ R (Itr 0 j.toNat) H
def LcP (D : Addr) (Pv : Addr → Nat → List V → Hp → Prop) (i : Nat) (H : Hp) : Prop := ∃ acc, acc.length ≤ i ∧ H D = some (.lst acc) ∧ Pv D i acc H
/-- behind an element's value -/
def LcE (D : Addr) (Pv : Addr → Nat → List V → Hp → Prop) (i : Nat) (y : V) (H : Hp) : Prop := ∃ acc, H D = some (.lst acc) ∧ acc.length < sizeLine ∧ LcP D Pv (i + 1) (upd H D (.lst (acc ++ [y])))
def LcB (J : It) (g : TG) (tt : TT) (te : TE) (vs : List Nat) (σ : St) (Q : VK) (H1 : Hp) : Prop := ∀ D, H1 D = none → ∃ W : Nat → Nat → Hp → Prop, (∃ m, W 0 m (upd H1 D (.lst []))) ∧ ∀ i m H, W i m H →
  (J.stop i H ∧ Q (.ref D) H) ∨ (J.go i H ∧ ∃ Nx : Hp → Prop, (∀ H', Nx H' → ∃ m', m' < m ∧ W (i + 1) m' H') ∧ ∀ x H', J.yld i H x H' → g x (wipe σ vs) H' fun σ2 H2 => wipe σ2 vs = wipe σ vs ∧ tt σ2 H2 fun b H3 =>
    if b = true then te σ2 H3 fun y H4 => ∃ acc, H4 D = some (.lst acc) ∧ acc.length < sizeLine ∧ Nx (upd H4 D (.lst (acc ++ [y]))) else Nx H3)
def FldB (K : PySem.W.Frag) (f : Str) (Q : VK) (x : V) (H : Hp) : Prop := ∃ a C dx fs v, x = .ref a ∧ H a = some (.ins C dx fs) ∧ Cls K C ∧ NoAttr K C f ∧ fs.lookup f = some v ∧ Q v H
def SfB (K : PySem.W.Frag) (f : Str) (R : Hp → Prop) (y x : V) (H : Hp) : Prop := ∃ a C dx fs, x = .ref a ∧ H a = some (.ins C dx fs) ∧ Cls K C ∧ NoAttr K C f ∧ fs.length < 1000 ∧ R (upd H a (.ins C dx (putF f y fs)))
def AuB (K : PySem.W.Frag) (f : Str) (tv : TE) (rd : V → V → Hp → VK → Prop) (σ : St) (R : Hp → Prop) (x : V) (H : Hp) : Prop := ∃ a C dx fs v, x = .ref a ∧ H a = some (.ins C dx fs) ∧ Cls K C ∧ NoAttr K C f ∧ fs.lookup f = some v ∧
  tv σ H fun y H2 => rd v y H2 fun z H3 => ∃ dx' fs', H3 a = some (.ins C dx' fs') ∧ fs'.length < 1000 ∧ R (upd H3 a (.ins C dx' (putF f z fs')))
def MeB (C : Addr) (m : Str) (R : V → Hp → Prop) (x : V) (H : Hp) : Prop := ∃ a dx fs, x = .ref a ∧ H a = some (.ins C dx fs) ∧ fs.lookup m = none ∧ R x H
def MkB (C : Addr) (sp : Sp) (Q : VK) (E : XK) (vs : List V) (H : Hp) : Prop := ∀ x dx, H x = none → H dx = none → dx ≠ x → sp (.ref x :: vs) (upd (upd H dx (.own x)) x (.ins C dx [])) (fun v H2 => v = .non ∧ Q (.ref x) H2) E
def rIsNW : R2 := fun x y H Q => y = .non ∧ Q (.bl (decide (x = .non))) H
theorem op_isNW {X : Cx} : OpR X (compareOp .Is) rIsNW := op_isN
/-- a test that is a value's truth -/
def tTruW (K : PySem.W.Frag) (ta : TE) : TT := fun σ H R => ta σ H fun x H' => ∃ k, TruV K x H' k ∧ R k H'
def TrB (K : PySem.W.Frag) (R : Bool → Hp → Prop) (x : V) (H : Hp) : Prop := ∃ k, TruV K x H k ∧ R k H
def WhB (P : St → Hp → Prop) (tb : TS) (rt : VK) (nx : St → Hp → Prop) (σ : St) (H : Hp) : Prop := ∃ N : St → Hp → Prop, (∀ σ' H', N σ' H' → P σ' H') ∧ tb ⟨N, rt, nx, N⟩ σ H
def rTyIs : R2 := fun x y H Q => ∃ a b, x = .ty a ∧ y = .ty b ∧ Q (.bl (decide (a = b))) H
theorem op_tyIs {X : Cx} : OpR X (compareOp .Is) rTyIs := op_isTyB
/-- an own exception class without own __init__ -/
structure ExcX (K : PySem.W.Frag) (mg : Str → Option Value) (x : Str) (C : Addr) : Prop where
  m : mg x = some (.ref C)
  xp : PySem.W.excIn K C [.type "ValueError", .type "Exception", .type "BaseException", .type "object"] "ValueError.__new__" = true
  kp : PySem.W.keepIn K (.ref C) = true
  bp : PySem.W.subIn K (.ref C) (.type "BaseException") = some true
  tp : PySem.W.typeIn K (.ref C) = some (.type "type")
def tRaiseA (C : Addr) (W : WX) (t : TA) : TS := fun _ σ H => t σ H fun vs H1 => vs.length ≤ sizeLine ∧ W (.ref C) none σ H1
def RaB (C : Addr) (W : WX) (σ : St) (vs : List V) (H : Hp) : Prop := vs.length ≤ sizeLine ∧ W (.ref C) none σ H
theorem ps_raiseA {X : Cx} {C : Addr} {x : Str} {W : WX} {e : Expr} {es : List Expr} {t : TA} {p pos pos2 : Pos} (hc : X.calm = true) (tk : Takes X W) (T : ExcX X.K X.mg x C) (ha : PA X (e :: es) t) (hg : Gl X x := by rfl) (hdb : (x == ("__debug__" : Str)) = false := by decide)
    (he : starEach (e :: es) X.env = (false, eval e X.env) :: starEach es X.env := by rfl) (hpl : (backTo pos (starEach es X.env)).any (·.1) = false := by rfl) : PS X (.Raise (some (.Call (.Name x p) (e :: es) [] pos)) none pos2) (tRaiseA C W t) :=
  ps_raise hc tk (pmk_ownA PySem.F.excBase_ValueError T.xp T.m T.kp (raises_own T.bp T.tp) hg ha hdb he hpl)
/-- f'..' of two parts or more -/
def tJn (ts : List TE) : TE := fun σ H Q => tJs ts Str.empty σ H fun out H1 => Q (.str out) H1
theorem pe_jn {X : Cx} {v1 v2 : Expr} {rest : List Expr} {ts : List TE} {pos : Pos} (h : PJ X (v1 :: v2 :: rest) ts) : PE X (.JoinedStr (v1 :: v2 :: rest) pos) (tJn ts) := pe_joined h
def JsB (ts : List TE) (acc : Str) (σ : St) (R : Str → Hp → Prop) (x : V) (H : Hp) : Prop := ∃ y : Str, x = .str y ∧ (acc ++ y).length ≤ sizeLine ∧ tJs ts (acc ++ y) σ H R
def FmB (Q : VK) (x : V) (H : Hp) : Prop := (∃ y : Str, x = .str y ∧ y.length ≤ sizeLine ∧ Q (.str y) H) ∨ ∃ i : Int, x = .int i ∧ i.natAbs.log2 < 1920 ∧ Q (.str (toString i)) H
def DgB (x y : V) (H : Hp) (Q : VK) : Prop := ∃ a v, x = .ref a ∧ DGet H a y (some v) ∧ Q v H
def DiB (y x : V) (H : Hp) (Q : VK) : Prop := ∃ a o, x = .ref a ∧ DGet H a y o ∧ Q (.bl o.isSome) H
def DnB (y x : V) (H : Hp) (Q : VK) : Prop := ∃ a o, x = .ref a ∧ DGet H a y o ∧ Q (.bl (!o.isSome)) H
def DpB (x y v : V) (H : Hp) (R : Hp → Prop) : Prop := ∃ a H4, x = .ref a ∧ DPut H a y v H4 ∧ R H4
def NewD (Q : VK) (H : Hp) : Prop := ∀ p, H p = none → Q (.ref p) (upd H p (.dK []))
def StB (R : It → Hp → Prop) (v : V) (H : Hp) : Prop := ∃ x, v = .str x ∧ R (Its x) H
/-- int of a truth value -/
def rIntB : List V → Hp → VK → Prop := fun xs H Q => ∃ k, xs = [.bl k] ∧ Q (.int (if k then 1 else 0)) H
theorem call_intN {X : Cx} : CallR X (.type "int") rIntB := fun pins s σ H xs us Q I r h => call_int1 pins s σ H xs us Q I r (.inr h)
section
variable {σ : St} {H : Hp} {i : Nat} {v x y z : V} {ta tb te tv : TE} {b : Bool} {K : PySem.W.Frag} {a C dx : Addr} {f : Str} {t u : TS} {Q : VK} {nx bk ct : St → Hp → Prop} {rt : VK}
/-! ### statements -/
theorem w_seq (h : t ⟨u ⟨nx, rt, bk, ct⟩, rt, bk, ct⟩ σ H) : tSeq t u ⟨nx, rt, bk, ct⟩ σ H := h
theorem w_next (h : nx σ H) : tNext ⟨nx, rt, bk, ct⟩ σ H := h
theorem w_asg {g : TG} (h : te σ H fun x H1 => g x σ H1 nx) : tAsg te g ⟨nx, rt, bk, ct⟩ σ H := h
theorem w_name {σ' : St} {Q : St → Hp → Prop} (e : σ.set i (some v) = σ') (h : Q σ' H) : gName i v σ H Q := by
  rw [← e] at h; exact h
theorem w_ret (h : te σ H rt) : tRet te ⟨nx, rt, bk, ct⟩ σ H := h
theorem w_retN (h : rt .non H) : tRetN ⟨nx, rt, bk, ct⟩ σ H := h
theorem w_drop (h : te σ H fun _ H1 => nx σ H1) : tDrop te ⟨nx, rt, bk, ct⟩ σ H := h
theorem w_ifS {c : TT} (h : c σ H fun b H1 => if b = true then t ⟨nx, rt, bk, ct⟩ σ H1 else u ⟨nx, rt, bk, ct⟩ σ H1) : tIfS c t u ⟨nx, rt, bk, ct⟩ σ H := h
/-- the yes way shown once, from A -/
theorem w_ifS2 {c : TT} (A : Hp → Prop) (ht : ∀ H1, A H1 → t ⟨nx, rt, bk, ct⟩ σ H1) (h : (∀ H1, A H1 → t ⟨nx, rt, bk, ct⟩ σ H1) → c σ H fun b H1 => if b = true then t ⟨nx, rt, bk, ct⟩ σ H1 else u ⟨nx, rt, bk, ct⟩ σ H1) : tIfS c t u ⟨nx, rt, bk, ct⟩ σ H := h ht
theorem w_gsub {to ti : TE} {s : TSet} {Q : St → Hp → Prop} (h : to σ H fun o H1 => ti σ H1 fun i H2 => s o i v H2 fun H3 => Q σ H3) : gSub to ti s v σ H Q := h
theorem w_gnil {Q : St → Hp → Prop} (h : Q σ H) : gNil [] σ H Q := ⟨rfl, h⟩
theorem w_gcons {g : TG} {gs : TGs} {xs : List V} {Q : St → Hp → Prop} (h : g x σ H fun σ' H' => gs xs σ' H' Q) : gCons g gs (x :: xs) σ H Q := ⟨x, xs, rfl, h⟩
theorem w_gtup {n : Nat} {gs : TGs} {xs : List V} {Q : St → Hp → Prop} (hs : SqT K H a xs) (hn : xs.length = n) (h : gs xs σ H Q) : gTup K n gs (.ref a) σ H Q := ⟨a, xs, rfl, hs, hn, h⟩
theorem w_fld (h : tv σ H fun y H1 => ta σ H1 fun x H2 => SfB K f (fun H => nx σ H) y x H2) : sFld K ta tv f ⟨nx, rt, bk, ct⟩ σ H := h
theorem w_setL {xs ys : List V} {k : Int} {j : Nat} {p : Addr} {Q : Hp → Prop} (h : H p = some (.lst xs)) (hk : ixN xs.length k = some j) (e : xs.set j v = ys) (q : ∀ H1, Fr [p] H H1 → H1 p = some (.lst ys) → Q H1) : rSetL (.ref p) (.int k) v H Q :=
  ⟨p, xs, k, j, rfl, rfl, h, hk, q _ (Fr.set h (by intro z y; cases y)) (by rw [upd_same, e])⟩
theorem atI_map {ns : List Int} {k : Int} (h0 : 0 ≤ k) (h1 : k < ns.length) : ∃ c, atI (ns.map V.int) k = some (.int c) := by
  obtain ⟨n, rfl⟩ : ∃ n : Nat, k = (n : Int) := ⟨k.toNat, by omega⟩
  have hk : n < ns.length := by omega
  exact ⟨ns[n], atI_nat (by rw [List.getElem?_map, List.getElem?_eq_getElem hk]; rfl)⟩


/-! ### tests -/
theorem w_test {R : Bool → Hp → Prop} (h : te σ H fun x H' => ∃ k, x = .bl k ∧ R k H') : tTest te σ H R := h
theorem w_tB {R : Bool → Hp → Prop} (h : te σ H fun x H' => ∃ k, x = .bl k ∧ R k H') : tB te σ H R := h
theorem w_exbl {R : Bool → Prop} (h : R b) : ∃ k, V.bl b = V.bl k ∧ R k := ⟨b, rfl, h⟩
theorem w_and {c d : TT} {R : Bool → Hp → Prop} (h : c σ H fun b H1 => if b = true then d σ H1 R else R false H1) : tAnd c d σ H R := h
theorem w_or {c d : TT} {R : Bool → Hp → Prop} (h : c σ H fun b H1 => if b = true then R true H1 else d σ H1 R) : tOr c d σ H R := h
theorem w_not {c : TT} {R : Bool → Hp → Prop} (h : c σ H fun b H1 => R (!b) H1) : tNot c σ H R := h
theorem w_andV (h : ta σ H fun x H1 => ∃ c, x = .bl c ∧ if c = true then tb σ H1 Q else Q (.bl false) H1) : tAndV ta tb σ H Q := h
theorem w_orV (h : ta σ H fun x H1 => ∃ c, x = .bl c ∧ if c = true then Q (.bl true) H1 else tb σ H1 Q) : tOrV ta tb σ H Q := h
theorem w_notV (h : ta σ H fun x H1 => ∃ c, x = .bl c ∧ Q (.bl (!c)) H1) : tNotV ta σ H Q := h
theorem w_if {c : TT} (h : c σ H fun b H1 => if b = true then ta σ H1 Q else tb σ H1 Q) : tIf c ta tb σ H Q := h
theorem w_yes {R : Bool → Hp → Prop} (h : R true H) : tYes σ H R := h
theorem w_iteD {p : Prop} [Decidable p] {A B : Prop} (h1 : p → A) (h2 : ¬ p → B) : if decide p = true then A else B := by
  by_cases h : p
  · rw [decide_eq_true h, if_pos rfl]; exact h1 h
  · rw [decide_eq_false h, if_neg Bool.false_ne_true]; exact h2 h
theorem w_iteND {p : Prop} [Decidable p] {A B : Prop} (h1 : ¬ p → A) (h2 : p → B) : if (!decide p) = true then A else B := by
  by_cases h : p
  · rw [decide_eq_true h]; exact (by simpa using h2 h)
  · rw [decide_eq_false h]; exact (by simpa using h1 h)
theorem w_iteb {b : Bool} {A B : Prop} (h1 : b = true → A) (h2 : b = false → B) : if b = true then A else B := by
  cases b with
  | true => exact h1 rfl
  | false => exact h2 rfl
theorem w_t {A B : Prop} (h : A) : if true = true then A else B := h
theorem w_f {A B : Prop} (h : B) : if false = true then A else B := by rw [if_neg Bool.false_ne_true]; exact h
theorem w_ist {b : Bool} {A B : Prop} (e : b = true) (h : A) : if b = true then A else B := by rw [e]; exact h
theorem w_isf {b : Bool} {A B : Prop} (e : b = false) (h : B) : if b = true then A else B := by rw [e]; exact w_f h
theorem w_iteS {i j : Str} {A B : Prop} (h1 : i = j → A) (h2 : i ≠ j → B) : if decide (V.str i = V.str j) = true then A else B :=
  w_iteD (fun h => h1 (V.str.inj h)) fun h => h2 fun e => h (by rw [e])
/-- ints compared by ==, != -/
theorem w_iteI {i j : Int} {A B : Prop} (h1 : i = j → A) (h2 : i ≠ j → B) : if decide (V.int i = V.int j) = true then A else B :=
  w_iteD (fun h => h1 (V.int.inj h)) fun h => h2 fun e => h (by rw [e])
theorem w_iteNI {i j : Int} {A B : Prop} (h1 : i ≠ j → A) (h2 : i = j → B) : if (!decide (V.int i = V.int j)) = true then A else B :=
  w_iteND (fun h => h1 fun e => h (by rw [e])) fun h => h2 (V.int.inj h)

/-! ### expressions -/
theorem w_var (h : σ[i]? = some (some v)) (q : Q v H) : tVar i σ H Q := ⟨v, h, q⟩
theorem w_c (q : Q v H) : tC v σ H Q := q
theorem w_op {r : R2} (h : ta σ H fun x H1 => tb σ H1 fun y H2 => r x y H2 Q) : tOp r ta tb σ H Q := h
theorem w_un {r : V → Hp → VK → Prop} (h : ta σ H fun x H1 => r x H1 Q) : tUn r ta σ H Q := h
theorem w_tup {t : TA} (h : t σ H fun xs H1 => NewT Q xs H1) : tTup t σ H Q := h
theorem w_lst {t : TA} (h : t σ H fun xs H1 => NewL Q xs H1) : tLst t σ H Q := h
theorem w_newT {xs : List V} (h : xs.length ≤ 1000) (q : ∀ p H1, H p = none → Fr [] H H1 → H1 p = some (.tup xs) → Q (.ref p) H1) : NewT Q xs H := ⟨Nat.le_of_lt (small1000 h), fun p hp => q p _ hp (.new hp) upd_same⟩
theorem w_newL {xs : List V} (h : xs.length ≤ 1000) (q : ∀ p H1, H p = none → Fr [] H H1 → H1 p = some (.lst xs) → Q (.ref p) H1) : NewL Q xs H := ⟨Nat.le_of_lt (small1000 h), fun p hp => q p _ hp (.new hp) upd_same⟩
theorem w_nil {R : List V → Hp → Prop} (q : R [] H) : tNil σ H R := q
theorem w_cons {tr : TA} {R : List V → Hp → Prop} (h : ta σ H fun x H1 => tr σ H1 fun xs H2 => R (x :: xs) H2) : tCons ta tr σ H R := h
theorem w_cb {r : List V → Hp → VK → Prop} {t : TA} (h : t σ H fun vs H1 => r vs H1 Q) : tCB r t σ H Q := h
theorem w_call {sp : Sp} {E : XK} {t : TA} (h : t σ H fun vs H1 => sp vs H1 Q E) : tCall sp [] E t σ H Q := by
  unfold tCall; simp only [List.append_nil]; exact h
theorem w_bm {T : String} {r : V → List V → Hp → VK → Prop} {t : TA} (h : te σ H fun x H1 => tyV K T x H1 ∧ t σ H1 fun xs H2 => r x xs H2 Q) : tBM K T r te t σ H Q := h
theorem w_bm0 {T : String} {r : V → List V → Hp → VK → Prop} (h : te σ H fun x H1 => tyV K T x H1 ∧ r x [] H1 Q) : tBM0 K T r te σ H Q := h
theorem w_tyl {p : Addr} {xs : List V} {A : Prop} (h : H p = some (.lst xs)) (q : A) : tyV K "list" (.ref p) H ∧ A := ⟨Or.inl ⟨rfl, _, SqL.of h⟩, q⟩
theorem w_sl {r : V → Option Int → Option Int → Hp → VK → Prop} {tl th : TO} (h : te σ H fun x H1 => tl σ H1 fun l H2 => th σ H2 fun u H3 => r x l u H3 Q) : tSl r te tl th σ H Q := h
theorem w_nopart {R : Option Int → Hp → Prop} (q : R none H) : tNoPart σ H R := q
theorem w_part {R : Option Int → Hp → Prop} (h : te σ H fun x H1 => ∃ i, x = .int i ∧ R (some i) H1) : tPart te σ H R := h
theorem w_exint {R : Int → Prop} {i : Int} (h : R i) : ∃ j, V.int i = V.int j ∧ R j := ⟨i, rfl, h⟩
theorem w_tfld (h : ta σ H fun x H1 => FldB K f Q x H1) : tFld K ta f σ H Q := h
theorem w_getfld {fs : List (Str × V)} (ho : H a = some (.ins C dx fs)) (c : Cls K C) (n : NoAttr K C f) (l : fs.lookup f = some v) (q : Q v H) : FldB K f Q (.ref a) H := ⟨a, C, dx, fs, v, rfl, ho, c, n, l, q⟩
theorem w_putfld {fs gs : List (Str × V)} {R : Hp → Prop} (ho : H a = some (.ins C dx fs)) (c : Cls K C) (n : NoAttr K C f) (hl : fs.length < 1000) (e : putF f y fs = gs) (q : ∀ H1, Fr [a] H H1 → H1 a = some (.ins C dx gs) → R H1) : SfB K f R y (.ref a) H :=
  ⟨a, C, dx, fs, rfl, ho, c, n, hl, q _ (Fr.set ho (by intro z e; cases e)) (by rw [upd_same, e])⟩
theorem w_fldaug {rd : V → V → Hp → VK → Prop} (h : ta σ H fun x H1 => AuB K f tv rd σ (fun H => nx σ H) x H1) : sFldAug K ta tv rd f ⟨nx, rt, bk, ct⟩ σ H := h
theorem w_augI {fs gs : List (Str × V)} {R : Hp → Prop} {i j : Int} (ho : H a = some (.ins C dx fs)) (c : Cls K C) (n : NoAttr K C f) (l : fs.lookup f = some (.int i)) (hl : fs.length < 1000) (e : putF f (.int (i + j)) fs = gs) (q : ∀ H1, Fr [a] H H1 → H1 a = some (.ins C dx gs) → R H1) : AuB K f (tC (.int j)) rAdd σ R (.ref a) H :=
  ⟨a, C, dx, fs, _, rfl, ho, c, n, l, i, j, rfl, rfl, dx, fs, ho, hl, q _ (Fr.set ho (by intro z e; cases e)) (by rw [upd_same, e])⟩
theorem w_meth {m : Str} {sp : Sp} {E : XK} {t : TA} (h : ta σ H fun x H1 => MeB C m (fun x H1 => t σ H1 fun vs H2 => sp (x :: vs) H2 Q E) x H1) : tMeth C m sp [] E ta t σ H Q := by
  unfold tMeth; simp only [List.append_nil]; exact h
theorem w_meb {m : Str} {R : V → Hp → Prop} {fs : List (Str × V)} (ho : H a = some (.ins C dx fs)) (l : fs.lookup m = none) (q : R (.ref a) H) : MeB C m R (.ref a) H := ⟨a, dx, fs, rfl, ho, l, q⟩
theorem w_make {sp : Sp} {E : XK} {t : TA} (h : t σ H fun vs H1 => MkB C sp Q E vs H1) : tMake C sp [] E t σ H Q := by
  unfold tMake; simp only [List.append_nil]; exact h
theorem w_mkb {sp : Sp} {E : XK} {vs : List V} (h : ∀ x dx H1, H x = none → H dx = none → dx ≠ x → Fr [] H H1 → H1 x = some (.ins C dx []) → sp (.ref x :: vs) H1 (fun v H2 => v = .non ∧ Q (.ref x) H2) E) : MkB C sp Q E vs H := fun x dx hx hd n =>
  h x dx _ hx hd n ((Fr.new hd).trans (Fr.new (by rw [upd_ne (Ne.symm n)]; exact hx))) upd_same
/-! ### by values -/
theorem w_I0 {g : Int → Int → V} {i j : Int} (q : Q (g i j) H) : rI0 g (.int i) (.int j) H Q := ⟨i, j, rfl, rfl, q⟩
theorem w_I {Cn : Int → Int → Prop} {g : Int → Int → V} {i j : Int} (c : Cn i j) (q : Q (g i j) H) : rI Cn g (.int i) (.int j) H Q := ⟨i, j, rfl, rfl, c, q⟩
theorem w_eq (h : scal x y = true) (q : Q (.bl (decide (x = y))) H) : rEq x y H Q := ⟨h, q⟩
theorem w_ne (h : scal x y = true) (q : Q (.bl (!decide (x = y))) H) : rNe x y H Q := ⟨h, q⟩
theorem w_ixL {p : Addr} {xs : List V} {i : Int} (h : SqL K H p xs) (e : atI xs i = some v) (q : Q v H) : rIxL K (.ref p) (.int i) H Q := ⟨p, xs, i, v, rfl, rfl, h, e, q⟩
theorem w_ix2 {p : Addr} {xs : List V} {c d : V} {k : Int} (h : SqL K H p xs) (e : xs = [c, d]) (h0 : 0 ≤ k) (h1 : k < 2) (q1 : Q c H) (q2 : Q d H) : rIxL K (.ref p) (.int k) H Q := by
  subst e
  have e : k = 0 ∨ k = 1 := by omega
  rcases e with rfl | rfl
  · exact w_ixL h rfl q1
  · exact w_ixL h rfl q2
theorem w_ix3 {p : Addr} {xs : List V} {c d e : V} {k : Int} (h : SqL K H p xs) (eq : xs = [c, d, e]) (h0 : 0 ≤ k) (h1 : k < 3) (q1 : Q c H) (q2 : Q d H) (q3 : Q e H) : rIxL K (.ref p) (.int k) H Q := by
  subst eq
  have e : k = 0 ∨ k = 1 ∨ k = 2 := by omega
  rcases e with rfl | rfl | rfl
  · exact w_ixL h rfl q1
  · exact w_ixL h rfl q2
  · exact w_ixL h rfl q3
theorem w_ix4 {p : Addr} {xs : List V} {c d e f : V} {k : Int} (h : SqL K H p xs) (eq : xs = [c, d, e, f]) (h0 : 0 ≤ k) (h1 : k < 4) (q1 : Q c H) (q2 : Q d H) (q3 : Q e H) (q4 : Q f H) : rIxL K (.ref p) (.int k) H Q := by
  subst eq
  have e : k = 0 ∨ k = 1 ∨ k = 2 ∨ k = 3 := by omega
  rcases e with rfl | rfl | rfl | rfl
  · exact w_ixL h rfl q1
  · exact w_ixL h rfl q2
  · exact w_ixL h rfl q3
  · exact w_ixL h rfl q4
theorem w_ixT {p : Addr} {xs : List V} {i : Int} (h : SqT K H p xs) (e : atI xs i = some v) (q : Q v H) : rIxT K (.ref p) (.int i) H Q := ⟨p, xs, i, v, rfl, rfl, h, e, q⟩
theorem w_ixS {w : Str} {i : Int} {c : Nat} (h : w.length ≤ sizeLine) (e : atI w.cps.toList i = some c) (q : Q (.str ⟨#[c]⟩) H) : rIxS (.str w) (.int i) H Q := ⟨w, i, c, rfl, rfl, h, e, q⟩
theorem w_lenL {p : Addr} {xs : List V} {n : Int} (h : SqL K H p xs) (e : (xs.length : Int) = n) (q : Q (.int n) H) : rLenW K [.ref p] H Q := ⟨p, xs, rfl, .inl h, by rw [e]; exact q⟩
theorem w_lenT {p : Addr} {xs : List V} {n : Int} (h : SqT K H p xs) (e : (xs.length : Int) = n) (q : Q (.int n) H) : rLenW K [.ref p] H Q := ⟨p, xs, rfl, .inr h, by rw [e]; exact q⟩
theorem w_app {l : Addr} {xs : List V} (h : H l = some (.lst xs)) (hz : xs.length < 100000) (q : ∀ H1, Fr [l] H H1 → H1 l = some (.lst (xs ++ [y])) → Q .non H1) : rAppend (.ref l) [y] H Q :=
  ⟨l, xs, y, rfl, rfl, h, Nat.lt_of_lt_of_le hz (by decide), q _ (Fr.set h (by intro z e; cases e)) upd_same⟩
theorem w_cat {l m : Addr} {xs zs : List V} (h : H l = some (.lst xs)) (h' : H m = some (.lst zs)) (hz : xs.length + zs.length ≤ 100000) (q : ∀ p H1, H p = none → Fr [] H H1 → H1 p = some (.lst (xs ++ zs)) → Q (.ref p) H1) : rCat (.ref l) (.ref m) H Q :=
  ⟨l, m, xs, zs, rfl, rfl, h, h', Nat.le_trans hz (by decide), fun p hp => q p _ hp (.new hp) upd_same⟩
theorem w_in {p : Addr} {xs : List V} (h : SqL K H p xs ∨ SqT K H p xs) (hx : flatV x = true) (ha : xs.all flatV = true) (q : Q (.bl (inV x xs)) H) : rIn K false x (.ref p) H Q := ⟨p, xs, rfl, h, hx, ha, q⟩
theorem w_inT {p : Addr} {xs : List V} (h : SqT K H p xs) (hx : flatV x = true) (ha : xs.all flatV = true) (q : Q (.bl (inV x xs)) H) : rIn K false x (.ref p) H Q := ⟨p, xs, rfl, .inr h, hx, ha, q⟩
theorem w_notIn {p : Addr} {xs : List V} (h : SqL K H p xs ∨ SqT K H p xs) (hx : flatV x = true) (ha : xs.all flatV = true) (q : Q (.bl (!inV x xs)) H) : rIn K true x (.ref p) H Q := ⟨p, xs, rfl, h, hx, ha, q⟩
/-! ### loops -/
theorem w_for {wi : TI} {g : TG} {tb : TS} (h : wi σ H fun J H1 => ForB J g tb ⟨nx, rt, bk, ct⟩ σ H1) : tFor wi g tb ⟨nx, rt, bk, ct⟩ σ H := h
theorem w_ilist {tl : TE} {R : It → Hp → Prop} (h : tl σ H fun x H1 => IlB K R x H1) : iList K tl σ H R := h
theorem w_ilb {R : It → Hp → Prop} {xs : List V} (hx : SqL K H a xs) (q : R (Itl K a) H) : IlB K R (.ref a) H := ⟨a, rfl, ⟨xs, hx⟩, q⟩
theorem w_itup {tl : TE} {R : It → Hp → Prop} (h : tl σ H fun x H1 => ItB K R x H1) : iTup K tl σ H R := h
theorem w_itb {R : It → Hp → Prop} {xs : List V} (hx : SqT K H a xs) (q : R (Itt K a) H) : ItB K R (.ref a) H := ⟨a, rfl, ⟨xs, hx⟩, q⟩
theorem w_rng1 {t : TA} {R : It → Hp → Prop} (h : t σ H fun vs H1 => RgB1 R vs H1) : iRng1 t σ H R := h
theorem w_rgb1 {R : It → Hp → Prop} {j : Int} (h0 : 0 ≤ j) (h1 : j ≤ 1000000) (q : R (Itr 0 j.toNat) H) : RgB1 R [.int j] H := ⟨j, rfl, by omega, by omega, q⟩
theorem forL {xs : List V} {g : TG} {tb : TS} (Pv : Nat → St → Hp → Prop) (h0 : Pv 0 σ H) (hl : ∀ i σ H, i ≤ xs.length → Pv i σ H → SqL K H a xs)
    (hs : ∀ i x σ H, xs[i]? = some x → Pv i σ H → g x σ H fun σ2 H2 => tb ⟨Pv (i + 1), rt, nx, Pv (i + 1)⟩ σ2 H2) (hd : ∀ σ H, Pv xs.length σ H → nx σ H) : ForB (Itl K a) g tb ⟨nx, rt, bk, ct⟩ σ H :=
  for_list (D := ⟨nx, rt, bk, ct⟩) Pv h0 hl hs hd
theorem forT {xs : List V} {g : TG} {tb : TS} (Pv : Nat → St → Hp → Prop) (h0 : Pv 0 σ H) (hl : ∀ i σ H, i ≤ xs.length → Pv i σ H → SqT K H a xs)
    (hs : ∀ i x σ H, xs[i]? = some x → Pv i σ H → g x σ H fun σ2 H2 => tb ⟨Pv (i + 1), rt, nx, Pv (i + 1)⟩ σ2 H2) (hd : ∀ σ H, Pv xs.length σ H → nx σ H) : ForB (Itt K a) g tb ⟨nx, rt, bk, ct⟩ σ H :=
  for_tup (D := ⟨nx, rt, bk, ct⟩) Pv h0 hl hs hd
theorem forR {lo : Int} {n : Nat} {g : TG} {tb : TS} (Pv : Nat → St → Hp → Prop) (h0 : Pv 0 σ H)
    (hs : ∀ i σ H, i < n → Pv i σ H → g (.int (lo + i)) σ H fun σ2 H2 => tb ⟨Pv (i + 1), rt, nx, Pv (i + 1)⟩ σ2 H2) (hd : ∀ σ H, Pv n σ H → nx σ H) : ForB (Itr lo n) g tb ⟨nx, rt, bk, ct⟩ σ H :=
  for_range (D := ⟨nx, rt, bk, ct⟩) Pv h0 hs hd
/-! ### comprehensions -/
theorem w_lc {wi : TI} {g : TG} {tt : TT} {vs : List Nat} (h : wi σ H fun J H1 => LcB J g tt te vs σ Q H1) : tLc wi g tt te vs σ H Q := h
theorem w_wipe {σ' τ : St} {A : Prop} {vs : List Nat} (h : wipe σ' vs = wipe τ vs) (q : A) : wipe σ' vs = wipe τ vs ∧ A := ⟨h, q⟩
theorem lcE {D : Addr} {Pv : Addr → Nat → List V → Hp → Prop} {acc : List V} (h : H D = some (.lst acc)) (ha : acc.length ≤ i) (hi : i < 50000) (q : ∀ H5, Fr [D] H H5 → H5 D = some (.lst (acc ++ [y])) → Pv D (i + 1) (acc ++ [y]) H5) : LcE D Pv i y H :=
  ⟨acc, h, Nat.lt_of_le_of_lt ha (Nat.lt_of_lt_of_le hi (by decide)), acc ++ [y], by rw [List.length_append]; exact Nat.succ_le_succ ha, upd_same, q _ (Fr.set h (by intro z e; cases e)) upd_same⟩
theorem lcN {D : Addr} {Pv : Addr → Nat → List V → Hp → Prop} {acc : List V} (h : H D = some (.lst acc)) (ha : acc.length ≤ i) (q : Pv D (i + 1) acc H) : LcP D Pv (i + 1) H := ⟨acc, Nat.le_succ_of_le ha, h, q⟩
theorem lcL {xs : List V} {g : TG} {tt : TT} {vs : List Nat} (Pv : Addr → Nat → List V → Hp → Prop)
    (h0 : ∀ D H', H D = none → Fr [] H H' → H' D = some (.lst []) → Pv D 0 [] H') (hl : ∀ D i acc H', H D = none → Pv D i acc H' → SqL K H' a xs)
    (hs : ∀ D i x acc H', H D = none → xs[i]? = some x → i < xs.length → acc.length ≤ i → H' D = some (.lst acc) → Pv D i acc H' → g x (wipe σ vs) H' fun σ2 H2 => wipe σ2 vs = wipe σ vs ∧ tt σ2 H2 fun b H3 =>
      if b = true then te σ2 H3 fun y H4 => LcE D Pv i y H4 else LcP D Pv (i + 1) H3)
    (hd : ∀ D acc H', H D = none → H' D = some (.lst acc) → acc.length ≤ xs.length → Pv D xs.length acc H' → Q (.ref D) H') : LcB (Itl K a) g tt te vs σ Q H := fun D hD =>
  lc_list (K := K) (xs := xs) (LcP D Pv) ⟨[], Nat.le_refl _, upd_same, h0 D _ hD (.new hD) upd_same⟩ (fun i H' _ ⟨acc, _, _, p⟩ => hl D i acc H' hD p)
    (fun i x H' hx ⟨acc, ha, hA, p⟩ => hs D i x acc H' hD hx (List.getElem?_eq_some_iff.mp hx).1 ha hA p) (fun H' ⟨acc, ha, hA, p⟩ => hd D acc H' hD hA ha p)
theorem lcT {xs : List V} {g : TG} {tt : TT} {vs : List Nat} (Pv : Addr → Nat → List V → Hp → Prop)
    (h0 : ∀ D H', H D = none → Fr [] H H' → H' D = some (.lst []) → Pv D 0 [] H') (hl : ∀ D i acc H', H D = none → Pv D i acc H' → SqT K H' a xs)
    (hs : ∀ D i x acc H', H D = none → xs[i]? = some x → i < xs.length → acc.length ≤ i → H' D = some (.lst acc) → Pv D i acc H' → g x (wipe σ vs) H' fun σ2 H2 => wipe σ2 vs = wipe σ vs ∧ tt σ2 H2 fun b H3 =>
      if b = true then te σ2 H3 fun y H4 => LcE D Pv i y H4 else LcP D Pv (i + 1) H3)
    (hd : ∀ D acc H', H D = none → H' D = some (.lst acc) → acc.length ≤ xs.length → Pv D xs.length acc H' → Q (.ref D) H') : LcB (Itt K a) g tt te vs σ Q H := fun D hD =>
  lc_tup (K := K) (xs := xs) (LcP D Pv) ⟨[], Nat.le_refl _, upd_same, h0 D _ hD (.new hD) upd_same⟩ (fun i H' _ ⟨acc, _, _, p⟩ => hl D i acc H' hD p)
    (fun i x H' hx ⟨acc, ha, hA, p⟩ => hs D i x acc H' hD hx (List.getElem?_eq_some_iff.mp hx).1 ha hA p) (fun H' ⟨acc, ha, hA, p⟩ => hd D acc H' hD hA ha p)
theorem lcR {lo : Int} {n : Nat} {g : TG} {tt : TT} {vs : List Nat} (Pv : Addr → Nat → List V → Hp → Prop)
    (h0 : ∀ D H', H D = none → Fr [] H H' → H' D = some (.lst []) → Pv D 0 [] H')
    (hs : ∀ D i acc H', H D = none → i < n → acc.length ≤ i → H' D = some (.lst acc) → Pv D i acc H' → g (.int (lo + i)) (wipe σ vs) H' fun σ2 H2 => wipe σ2 vs = wipe σ vs ∧ tt σ2 H2 fun b H3 =>
      if b = true then te σ2 H3 fun y H4 => LcE D Pv i y H4 else LcP D Pv (i + 1) H3)
    (hd : ∀ D acc H', H D = none → H' D = some (.lst acc) → acc.length ≤ n → Pv D n acc H' → Q (.ref D) H') : LcB (Itr lo n) g tt te vs σ Q H := fun D hD =>
  lc_range (LcP D Pv) ⟨[], Nat.le_refl _, upd_same, h0 D _ hD (.new hD) upd_same⟩
    (fun i H' hi ⟨acc, ha, hA, p⟩ => hs D i acc H' hD hi ha hA p) (fun H' ⟨acc, ha, hA, p⟩ => hd D acc H' hD hA ha p)
theorem w_intB {k : Bool} (q : Q (.int (if k then 1 else 0)) H) : rIntB [.bl k] H Q := ⟨k, rfl, q⟩
theorem qint {j k : Int} (h : Q (.int j) H) (e : j = k) : Q (.int k) H := e ▸ h
/-! ### while, truth, raise, texts joined, pop, extend -/
theorem w_tru {R : Bool → Hp → Prop} (h : ta σ H fun x H' => TrB K R x H') : tTruW K ta σ H R := h
theorem w_trl {R : Bool → Hp → Prop} {p : Addr} {xs : List V} (h : H p = some (.lst xs)) (q : R (!xs.isEmpty) H) : TrB K R (.ref p) H := ⟨_, .inl ⟨xs, SqL.of h, rfl⟩, q⟩
theorem w_while {c : TT} {tb : TS} (Pv : Nat → St → Hp → Prop) (m0 : Nat) (h0 : Pv m0 σ H) (hs : ∀ m σ H, Pv m σ H → c σ H fun b H1 => if b = true then WhB (fun σ' H' => ∃ m', m' < m ∧ Pv m' σ' H') tb rt nx σ H1 else nx σ H1) : tWhile c tb ⟨nx, rt, bk, ct⟩ σ H :=
  ⟨Pv, ⟨m0, h0⟩, fun m τ G p => hs m τ G p⟩
theorem w_whb {P : St → Hp → Prop} {tb : TS} (h : tb ⟨P, rt, nx, P⟩ σ H) : WhB P tb rt nx σ H := ⟨P, fun _ _ p => p, h⟩
theorem w_chain {r r' : R2} {tc : TE} (h : ta σ H fun x H1 => tb σ H1 fun y H2 => r x y H2 fun z H3 => ∃ k, z = .bl k ∧ (if k = true then tc σ H3 fun w' H4 => r' y w' H4 Q else Q (.bl false) H3)) : tChain r r' ta tb tc σ H Q := h
theorem w_tyIs {c d : String} (q : Q (.bl (decide (c = d))) H) : rTyIs (.ty c) (.ty d) H Q := ⟨c, d, rfl, rfl, q⟩
theorem w_ty4 {T : String} (h : RZ.Ty4 H x T) (q : Q (.ty T) H) : RZ.rTy4 [x] H Q := ⟨x, T, rfl, h, q⟩
theorem w_raise {C : Addr} {W : WX} {t : TA} (h : t σ H fun vs H1 => RaB C W σ vs H1) : tRaiseA C W t ⟨nx, rt, bk, ct⟩ σ H := h
theorem w_rab {C : Addr} {W : WX} (q : W (.ref C) none σ H) : RaB C W σ [x] H := ⟨Nat.le_of_lt (small1000 (by decide : 1 ≤ 1000)), q⟩
theorem w_jn {ts : List TE} (h : tJs ts Str.empty σ H fun out H1 => Q (.str out) H1) : tJn ts σ H Q := h
theorem w_js {t : TE} {ts : List TE} {acc : Str} {R : Str → Hp → Prop} (h : t σ H fun x H1 => JsB ts acc σ R x H1) : tJs (t :: ts) acc σ H R := h
theorem w_jsn {acc : Str} {R : Str → Hp → Prop} (h : R acc H) : tJs [] acc σ H R := h
theorem w_jsb {ts : List TE} {acc y : Str} {R : Str → Hp → Prop} (hl : acc.length + y.length ≤ 100000) (h : tJs ts (acc ++ y) σ H R) : JsB ts acc σ R (.str y) H :=
  ⟨y, rfl, by rw [Str.length_append]; exact Nat.le_trans hl (by decide), h⟩
theorem w_fmt (h : ta σ H fun x H1 => FmB Q x H1) : tFmt ta σ H Q := h
theorem w_fms {y : Str} (hl : y.length ≤ 100000) (q : Q (.str y) H) : FmB Q (.str y) H := .inl ⟨y, rfl, Nat.le_trans hl (by decide), q⟩
theorem w_fmi {j : Int} (h0 : 0 ≤ j) (h1 : j ≤ 100000) (q : ∀ y : Str, y.length ≤ 6 → Q (.str y) H) : FmB Q (.int j) H :=
  .inr ⟨j, rfl, (by
    rcases Nat.eq_zero_or_pos j.natAbs with e | e
    · rw [e]; decide
    · exact (Nat.log2_lt (by omega)).mpr (Nat.lt_of_le_of_lt (show j.natAbs ≤ 2 ^ 20 by omega) (Nat.pow_lt_pow_right (by decide) (by decide)))), q _ (PyProof.Rows.toString_length_le h0 (by decide) (by omega))⟩
theorem w_pop {l : Addr} {xs : List V} (h : H l = some (.lst (xs ++ [y]))) (q : ∀ H1, Fr [l] H H1 → H1 l = some (.lst xs) → Q y H1) : rPop (.ref l) [] H Q :=
  ⟨l, xs ++ [y], y, rfl, rfl, h, by simp, q _ (Fr.set h (by intro z e; cases e)) (by rw [upd_same, List.dropLast_concat])⟩
theorem w_ext {l b : Addr} {xs zs : List V} (h : H l = some (.lst xs)) (h' : H b = some (.lst zs)) (hz : xs.length + zs.length ≤ 100000) (q : ∀ H1, Fr [l] H H1 → H1 l = some (.lst (xs ++ zs)) → Q .non H1) : rExtend (.ref l) [.ref b] H Q :=
  ⟨l, b, xs, zs, rfl, rfl, h, h', Nat.le_trans hz (by decide), q _ (Fr.set h (by intro z e; cases e)) upd_same⟩
theorem w_isN (q : Q (.bl (decide (x = .non))) H) : rIsNW x .non H Q := ⟨rfl, q⟩
theorem w_isiT {tp : Addr} {cs : List V} {t : String} {us : List Value} {b : Bool} (hc : H tp = some (.tup cs)) (hp : Paired ClsV cs us) (h : TyX K H x (.type t)) (e : PySem.W.kitAny K (.type t) us = some b) (q : Q (.bl b) H) : rIsiT K [x, .ref tp] H Q := ⟨x, tp, cs, .type t, us, b, rfl, hc, hp, h, e, q⟩
theorem w_ixS1 {p : Addr} {xs : List V} {j : Int} (h : SqL K H p xs) (e : atI xs j = some v) (q : Q v H) : rIx K (.ref p) (.int j) H Q := .inl ⟨p, xs, j, v, rfl, rfl, h, e, q⟩
theorem w_ixS2 {p : Addr} {xs : List V} {j : Int} (h : SqT K H p xs) (e : atI xs j = some v) (q : Q v H) : rIx K (.ref p) (.int j) H Q := .inr (.inl ⟨p, xs, j, v, rfl, rfl, h, e, q⟩)
theorem w_eqD {d e : PyData} (h : Dp K H x d) (h' : Dp K H y e) (s1 : SeqAt.shaped d = true) (s2 : SeqAt.shaped e = true) (q : Q (.bl (PyData.eqv d e)) H) : rEqD K x y H Q := ⟨d, e, h, h', s1, s2, q⟩
theorem w_neD {d e : PyData} (h : Dp K H x d) (h' : Dp K H y e) (s1 : SeqAt.shaped d = true) (s2 : SeqAt.shaped e = true) (q : Q (.bl (!PyData.eqv d e)) H) : rNeD K x y H Q := ⟨d, e, h, h', s1, s2, q⟩
/-! ### dicts -/
theorem w_dget {td ty : TE} (h : td σ H fun x H1 => ty σ H1 fun y H2 => DgB x y H2 Q) : tDGet td ty σ H Q := h
theorem w_din {td ty : TE} (h : ty σ H fun y H1 => td σ H1 fun x H2 => DiB y x H2 Q) : tDIn ty td σ H Q := h
theorem w_dnotin {td ty : TE} (h : ty σ H fun y H1 => td σ H1 fun x H2 => DnB y x H2 Q) : tDNotIn ty td σ H Q := h
theorem w_dput {td ty tv : TE} (h : tv σ H fun v H1 => td σ H1 fun x H2 => ty σ H2 fun y H3 => DpB x y v H3 fun H4 => nx σ H4) : sDPut td ty tv ⟨nx, rt, bk, ct⟩ σ H := h
theorem w_dnew (h : NewD Q H) : tDNewK σ H Q := h
theorem w_newD (q : ∀ p H1, H p = none → Fr [] H H1 → H1 p = some (.dK []) → Q (.ref p) H1) : NewD Q H := fun p hp => q p _ hp (.new hp) upd_same
theorem w_dgs {kvs : List (Key × V)} {k : Str} (h : H a = some (.dK kvs)) (e : valV kvs (Sum.inr k) = some v) (q : Q v H) : DgB (.ref a) (.str k) H Q := ⟨a, v, rfl, by rw [← e]; exact DGet.k (k := Sum.inr k) h, q⟩
theorem w_dgi {kvs : List (Key × V)} {k : Int} (h : H a = some (.dK kvs)) (e : valV kvs (Sum.inl k) = some v) (q : Q v H) : DgB (.ref a) (.int k) H Q := ⟨a, v, rfl, by rw [← e]; exact DGet.k (k := Sum.inl k) h, q⟩
theorem w_dis {kvs : List (Key × V)} {k : Str} (h : H a = some (.dK kvs)) (q : Q (.bl (valV kvs (Sum.inr k)).isSome) H) : DiB (.str k) (.ref a) H Q := ⟨a, _, rfl, DGet.k (k := Sum.inr k) h, q⟩
theorem w_dii {kvs : List (Key × V)} {k : Int} (h : H a = some (.dK kvs)) (q : Q (.bl (valV kvs (Sum.inl k)).isSome) H) : DiB (.int k) (.ref a) H Q := ⟨a, _, rfl, DGet.k (k := Sum.inl k) h, q⟩
theorem w_dns {kvs : List (Key × V)} {k : Str} (h : H a = some (.dK kvs)) (q : Q (.bl (!(valV kvs (Sum.inr k)).isSome)) H) : DnB (.str k) (.ref a) H Q := ⟨a, _, rfl, DGet.k (k := Sum.inr k) h, q⟩
theorem w_dps {kvs : List (Key × V)} {k : Str} {R : Hp → Prop} (h : H a = some (.dK kvs)) (hl : kvs.length < 1000) (q : ∀ H1, Fr [a] H H1 → H1 a = some (.dK (putK kvs (Sum.inr k) v)) → R H1) : DpB (.ref a) (.str k) v H R :=
  ⟨a, _, rfl, DPut.k (k := Sum.inr k) h (Nat.lt_of_lt_of_le hl (by decide)), q _ (Fr.set h (by intro z e; cases e)) upd_same⟩
theorem w_dpi {kvs : List (Key × V)} {k : Int} {R : Hp → Prop} (h : H a = some (.dK kvs)) (hl : kvs.length < 1000) (q : ∀ H1, Fr [a] H H1 → H1 a = some (.dK (putK kvs (Sum.inl k) v)) → R H1) : DpB (.ref a) (.int k) v H R :=
  ⟨a, _, rfl, DPut.k (k := Sum.inl k) h (Nat.lt_of_lt_of_le hl (by decide)), q _ (Fr.set h (by intro z e; cases e)) upd_same⟩
/-! ### slices -/
theorem w_slT {xs ys : List V} {lo hi : Option Int} (h : SqT K H a xs) (n : ¬ (HT.sIx xs.length 0 lo = 0 ∧ HT.sIx xs.length xs.length hi = xs.length)) (e : cutV xs lo hi = ys) (q : ∀ p H1, H p = none → Fr [] H H1 → H1 p = some (.tup ys) → Q (.ref p) H1) : rSlT K (.ref a) lo hi H Q :=
  ⟨a, xs, rfl, h, n, fun p hp => by rw [e]; exact q p _ hp (.new hp) upd_same⟩
theorem w_slL {xs ys : List V} {lo hi : Option Int} (h : SqL K H a xs) (e : cutV xs lo hi = ys) (q : ∀ p H1, H p = none → Fr [] H H1 → H1 p = some (.lst ys) → Q (.ref p) H1) : rSlL K (.ref a) lo hi H Q :=
  ⟨a, xs, rfl, h, fun p hp => by rw [e]; exact q p _ hp (.new hp) upd_same⟩
/-! ### isinstance -/
theorem w_isi {t : String} {u : String} {b : Bool} (h : TyX K H x (.type t)) (e : kitB t u = some b) (q : Q (.bl b) H) : rIsi K [x, .ty u] H Q := ⟨x, .ty u, .type t, .type u, b, rfl, .ty u, h, kit_ty e, q⟩
theorem ty_tup {xs : List V} (h : H a = some (.tup xs)) : TyX K H (.ref a) (.type "tuple") := .base (.tup h)
theorem ty_lst {xs : List V} (h : H a = some (.lst xs)) : TyX K H (.ref a) (.type "list") := .base (.lst h)
theorem ty_int {j : Int} : TyX K H (.int j) (.type "int") := .base (.int j)
theorem ty_str {z : Str} : TyX K H (.str z) (.type "str") := .base (.str z)
theorem ty_bl {z : Bool} : TyX K H (.bl z) (.type "bool") := .base (.bl z)
theorem ty_non : TyX K H .non (.type "NoneType") := .base .non
/-! ### a text, sign by sign -/
theorem w_istr {te : TE} {R : It → Hp → Prop} (h : te σ H fun v H1 => StB R v H1) : iStr te σ H R := h
theorem w_stb {z : Str} {R : It → Hp → Prop} (q : R (Its z) H) : StB R (.str z) H := ⟨z, rfl, q⟩
theorem forS {z : Str} {g : TG} {tb : TS} (Pv : Nat → St → Hp → Prop) (h0 : Pv 0 σ H)
    (hs : ∀ i c σ H, z.cps[i]? = some c → Pv i σ H → g (.str ⟨#[c]⟩) σ H fun σ2 H2 => tb ⟨Pv (i + 1), rt, nx, Pv (i + 1)⟩ σ2 H2) (hd : ∀ σ H, Pv z.cps.size σ H → nx σ H) : ForB (Its z) g tb ⟨nx, rt, bk, ct⟩ σ H := by
  refine ⟨fun j m τ G => m + j = z.cps.size ∧ Pv j τ G, ⟨z.cps.size, Nat.add_zero _, h0⟩, fun j m τ G hh => ?_⟩
  obtain ⟨e, pv⟩ := hh
  rcases Nat.lt_or_ge j z.cps.size with hj | hj
  · refine Or.inr ⟨hj, Pv (j + 1), fun τ' G' pv' => ⟨m - 1, by omega, by omega, pv'⟩, fun u G' yy => ?_⟩
    obtain ⟨e1, c, hc, e2⟩ := yy
    subst e1 e2
    exact hs j c _ _ hc pv
  · have ej : j = z.cps.size := by omega
    subst ej
    exact Or.inl ⟨Nat.le_refl _, hd _ _ pv⟩
theorem sIx_one (n d : Nat) : HT.sIx (n + 1) d (some 1) = 1 := by
  have h := HT.sIx_nat (n + 1) d 1
  have e : HT.sIx (n + 1) d (some 1) = min 1 (n + 1) := h
  rw [e]; omega
theorem cut_tail (c : V) (xs : List V) : cutV (c :: xs) (some 1) none = xs := by
  unfold cutV
  rw [List.length_cons, sIx_one, HT.sIx_none]
  simp
theorem tail_not (c : V) (xs : List V) : ¬ (HT.sIx (c :: xs).length 0 (some 1) = 0 ∧ HT.sIx (c :: xs).length (c :: xs).length none = (c :: xs).length) := by
  rw [List.length_cons, sIx_one]
  omega
theorem take_snoc {α : Type} {xs : List α} {i : Nat} {x : α} (h : xs[i]? = some x) : xs.take (i + 1) = xs.take i ++ [x] := by
  rw [List.take_succ, h]; rfl
end
section
variable {X : Cx}
theorem pt_tru {e : Expr} {te : TE} (ha : PE X e te) (he : ∀ whole, isTrue e X.env whole = (do let v ← whole; standAt e.pos; holding [v] (truthy v)) := by intro _; rfl) : PT X e (tTruW X.K te) := pt_truth ha he
theorem pe_globR {x : Str} {a : Addr} {pos : Pos} (hg : Gl X x) (hm : X.mg x = some (.ref a)) (hd : (x == ("__debug__" : Str)) = false := by decide) : PE X (.Name x pos) (tC (.ref a)) := pe_glob hg hm rfl hd
theorem pe_globI {x : Str} {n : Int} {pos : Pos} (hg : Gl X x) (hm : ∃ t, X.mg x = some (.int n t)) (hd : (x == ("__debug__" : Str)) = false := by decide) : PE X (.Name x pos) (tC (.int n)) := by
  obtain ⟨t, h⟩ := hm
  exact pe_glob hg h ⟨_, rfl⟩ hd
end
end Wk
/-! sets of ints and texts from a list, with their tables; sorted of one of texts -/
namespace Sx
open PySem PySem.Spec PyProof.Rows L2
def vk : Value → Key
  | .int k _ => .inl k
  | .str x _ => .inr x
  | _ => .inl 0
def ek (e : Int × Value) : Key := vk e.2
def EntK (P : Program) (w : World) (e : Int × Value) : Prop := (mixKind P w).is (ek e) e.2 = true ∧ e.1 = (mixKind P w).hash (ek e)
theorem vk_of {P : Program} {w : World} {k : Key} {v : Value} (h : (mixKind P w).is k v = true) : vk v = k := by
  rcases keyIs_shape h with ⟨i, t, rfl, rfl⟩ | ⟨x, t, rfl, rfl⟩ <;> rfl
theorem scan_of {P : Program} {w : World} {k : Key} {v : Value} (h : (mixKind P w).is k v = true) : v.scannable = true := by
  rcases keyIs_shape h with ⟨i, t, rfl, rfl⟩ | ⟨x, t, rfl, rfl⟩ <;> rfl
/-- the set at a: its members, their number, its table fit to be walked -/
def SetY (P : Program) (w : World) (h : Heap) (a : Addr) (S : Key → Bool) (n : Nat) : Prop :=
  ∃ o es ep t, h.get? a = some o ∧ o.ExactSet ∧ o.data = .set es ep t ∧ (∀ e ∈ es.toList, EntK P w e) ∧ (es.toList.map ek).Nodup ∧ (∀ k, S k = true ↔ k ∈ es.toList.map ek) ∧
    (es.size < scanBound ∧ t.fits es.size = true ∧ es.size = n) ∧ Ris t.place.toList ∧ (w.params.followText "set-order" = true ∨ t.led = true)
section
variable {P : Program} {w : World} {h h' : Heap} {a : Addr} {S : Key → Bool} {n : Nat}
theorem SetY.at (R : SetY P w h a S n) (k : ∀ o, h.get? a = some o → h'.get? a = some o) : SetY P w h' a S n :=
  let ⟨o, es, ep, t, ho, r⟩ := R
  ⟨o, es, ep, t, k o ho, r⟩
theorem SetY.congr {S' : Key → Bool} (R : SetY P w h a S n) (e : ∀ k, S' k = S k) : SetY P w h a S' n := (funext e : S' = S) ▸ R
theorem ent_elems {l : List (Int × Value)} (g : ∀ e ∈ l, EntK P w e) : ElemsOf (mixKind P w) l := fun e he => ⟨⟨ek e, g e he⟩, scan_of (g e he).1⟩
theorem ent_is {e : Int × Value} (g : EntK P w e) (k : Key) : (mixKind P w).is k e.2 = true ↔ ek e = k := ⟨fun z => vk_of z, fun z => z ▸ g.1⟩
theorem ent_mem {l : List (Int × Value)} (g : ∀ e ∈ l, EntK P w e) (k : Key) : k ∈ l.map ek ↔ ∃ e ∈ l, (mixKind P w).is k e.2 = true := by
  rw [List.mem_map]
  exact ⟨fun ⟨e, he, q⟩ => ⟨e, he, (ent_is (g e he) k).2 q⟩, fun ⟨e, he, q⟩ => ⟨e, he, (ent_is (g e he) k).1 q⟩⟩
end
section
variable {P : Program} {w : World} {A : Around} {E : Value → Shared → Prop} {s : Shared} {a : Addr} {S : Key → Bool} {n : Nat}
theorem tailY {g : Bool → Sem Unit} (hg : ∀ (b : Bool) (s₁ : Shared) (Q' : Unit → Shared → Prop), Q' () s₁ → wpAny (model P w) A (g b) Q' E s₁)
    {o : Obj} {es : Array (Int × Value)} {ep : Nat} {t : SetTable} (ho : s.heap.get? a = some o) (hex : o.ExactSet) (hd : o.data = .set es ep t)
    {es1 : Array (Int × Value)} {t2 : SetTable} {S' : Key → Bool} (g1 : ∀ e ∈ es1.toList, EntK P w e) (nd1 : (es1.toList.map ek).Nodup) (m1 : ∀ k, S' k = true ↔ k ∈ es1.toList.map ek)
    (hb1 : es1.size < scanBound) (hf2 : t2.fits es1.size = true) (hr : Ris t2.place.toList) (hl : w.params.followText "set-order" = true ∨ t2.led = true) {wasDummy : Bool} {R : Option Bool → Shared → Prop}
    (hR : ∀ h', Heap.SameBut a s.heap h' → SetY P w h' a S' es1.size → R (some true) { s with heap := h' }) :
    wpAny (model P w) A (do
        storeSet a es1 t2
        if (!wasDummy && t2.tooFull) = true then do
            g (relayAll t2 es1 (SetTable.grown es1.size)).2.2
            storeSet a (relayAll t2 es1 (SetTable.grown es1.size)).1 (relayAll t2 es1 (SetTable.grown es1.size)).2.1
            pure (some true)
          else pure (some true)) R E s := by
  refine wpAny_bind (wpAny_storeSet_of ho hd ?_ (fits_of_scanBound hb1))
  have oA := store_at (es' := es1) (t' := t2) ho hd
  have sA := Heap.SameBut.update s.heap a (Obj.putSet es1 t2)
  split
  · have p1 := relayAll_perm t2 es1 (SetTable.grown es1.size)
    have p2 := relayAll_fits t2 es1 (SetTable.grown es1.size)
    have p3 := relayAll_ris t2 es1 (SetTable.grown es1.size)
    have p4 := relayAll_led t2 es1 (SetTable.grown es1.size)
    generalize relayAll t2 es1 (SetTable.grown es1.size) = Z at p1 p2 p3 p4 ⊢
    obtain ⟨es2, t3, gave⟩ := Z
    dsimp only at p1 p2 p3 p4 ⊢
    have z : es2.size = es1.size := by rw [← Array.length_toList, p1.length_eq, Array.length_toList]
    have zb : es2.size < scanBound := z ▸ hb1
    refine wpAny_bind (hg _ _ _ ?_)
    refine wpAny_bind (wpAny_storeSet_of oA rfl ?_ (fits_of_scanBound zb))
    have oB := store_at (es' := es2) (t' := t3) oA rfl
    refine wpAny_pure (hR _ (sA.trans (Heap.SameBut.update _ a _)) ?_)
    exact ⟨_, es2, _, t3, oB, hex, rfl, fun e he => g1 e (p1.mem_iff.mp he), (p1.map ek).nodup_iff.mpr nd1, fun k => (m1 k).trans (p1.map ek).mem_iff.symm, ⟨zb, p2, z⟩, p3, hl.imp id fun q => p4.trans q⟩
  · exact wpAny_pure (hR _ sA ⟨_, es1, _, t2, oA, hex, rfl, g1, nd1, m1, ⟨hb1, hf2, rfl⟩, hr, hl⟩)
theorem addY {k : Key} {v : Value} {Q : Bool → Shared → Prop} (hk : (mixKind P w).is k v = true) (R : SetY P w s.heap a S n) (room : n + 1 < scanBound)
    (hQ : ∀ h', Heap.SameBut a s.heap h' → SetY P w h' a (fun j => S j || decide (j = k)) (if S k = true then n else n + 1) → Q (!S k) { s with heap := h' }) :
    wpAny (model P w) A (setAddHashed a v ((mixKind P w).hash k)) Q E s := by
  obtain ⟨o, es, ep, t, ho, hex, hd, g, nd, hm, ⟨hb, hf, hn⟩, hr, hl⟩ := R
  have sc : v.scannable = true := scan_of hk
  have el := ent_elems g
  unfold setAddHashed setAddHashedIn
  refine wpAny_holding (wpAny_bind (wpAny_setState_of ho hd hf ?_))
  dsimp only
  rw [byScan_of sc hb el]
  simp only [↓reduceIte]
  unfold setAddByScan
  refine wpAny_bind ?_
  refine wpAny_bind (wpAny_rule ?_)
  refine wpAny_bind (wpAny_setScan_of hk ho hd hf el ?_)
  cases hfi : List.findIdx? (fun e => (mixKind P w).is k e.2) es.toList with
  | some j =>
    dsimp only
    obtain ⟨hj, pj, _⟩ := List.findIdx?_eq_some_iff_getElem.mp hfi
    have inS : S k = true := (hm k).2 ((ent_mem g k).2 ⟨es.toList[j], List.getElem_mem hj, pj⟩)
    refine wpAny_pure (wpAny_pure ?_)
    have q := hQ s.heap (Heap.SameBut.refl a s.heap) ⟨o, es, ep, t, ho, hex, hd, g, nd, fun i => by
      rw [Bool.or_eq_true, decide_eq_true_eq, ← hm i]
      exact ⟨fun z => z.elim id (fun e => e ▸ inS), .inl⟩, ⟨hb, hf, by rw [if_pos inS]; exact hn⟩, hr, hl⟩
    rw [inS] at q
    exact q
  | none =>
    dsimp only
    have out : k ∉ es.toList.map ek := fun z => by
      obtain ⟨e, he, q⟩ := (ent_mem g k).1 z
      have c := List.findIdx?_eq_none_iff.mp hfi e he
      rw [q] at c
      cases c
    have noS : S k = false := Bool.eq_false_iff.mpr fun z => out ((hm k).1 z)
    have p1 := layNew_perm t es ((mixKind P w).hash k) v
    have p2 := layNew_fits t es ((mixKind P w).hash k) v
    have p3 := layNew_ris t es ((mixKind P w).hash k) v hr
    have p4 := layNew_led t es ((mixKind P w).hash k) v
    generalize layNew t es ((mixKind P w).hash k) v = Z at p1 p2 p3 p4 ⊢
    obtain ⟨es1, t1, wasDummy, gave⟩ := Z
    dsimp only at p1 p2 p3 p4 ⊢
    rw [Array.toList_push] at p1
    have pc : es1.toList.Perm (((mixKind P w).hash k, v) :: es.toList) := p1.trans (List.perm_append_singleton _ _)
    have ekv : ek ((mixKind P w).hash k, v) = k := vk_of hk
    have pk : (es1.toList.map ek).Perm (k :: es.toList.map ek) := by
      have z := pc.map ek
      rw [List.map_cons, ekv] at z
      exact z
    have g1 : ∀ e ∈ es1.toList, EntK P w e := fun e he => by
      rcases List.mem_cons.mp (pc.mem_iff.mp he) with z | z
      · rw [z]
        unfold EntK
        rw [ekv]
        exact ⟨hk, rfl⟩
      · exact g e z
    have nd1 : (es1.toList.map ek).Nodup := pk.nodup_iff.mpr (List.nodup_cons.mpr ⟨out, nd⟩)
    have m1 : ∀ i, (S i || decide (i = k)) = true ↔ i ∈ es1.toList.map ek := fun i => by
      rw [Bool.or_eq_true, decide_eq_true_eq, hm i, pk.mem_iff, List.mem_cons]
      exact Or.comm
    have z1 : es1.size = n + 1 := by rw [← Array.length_toList, pc.length_eq, List.length_cons, Array.length_toList, hn]
    have zb : es1.size < scanBound := z1 ▸ room
    have led : w.params.followText "set-order" = true ∨ t1.led = true := hl.imp id fun q => p4.trans q
    have fin : ∀ h', Heap.SameBut a s.heap h' → SetY P w h' a (fun j => S j || decide (j = k)) es1.size → Q true { s with heap := h' } := fun h' sb r => by
      have q := hQ h' sb
      rw [noS] at q
      rw [z1] at r
      exact q r
    refine wpAny_bind ?_
    refine (fun {Q' : Unit → Shared → Prop} (q : Q' () s) => (by cases gave <;> first | exact wpAny_pure q | exact wpAny_rule q : wpAny (model P w) A _ Q' E s)) ?_
    split
    · refine wpAny_bind ?_
      rw [hashByValue_scannable 8 sc]
      refine wpAny_pure ?_
      refine tailY ?_ ho hex hd g1 nd1 m1 zb ?_ ?_ ?_ ?_
      · intro b s₁ Q' q; cases b <;> first | exact wpAny_pure q | exact wpAny_rule q
      · first | (split <;> first | exact p2 | exact SetTable.fits_plain_off p2) | exact p2
      · first | (split <;> exact p3) | exact p3
      · first | (split <;> exact led) | exact led
      · intro h' sb r; dsimp only; exact wpAny_pure (fin h' sb r)
    · refine wpAny_bind (wpAny_pure ?_)
      simp only [↓reduceIte]
      refine tailY ?_ ho hex hd g1 nd1 m1 zb p2 p3 led ?_
      · intro b s₁ Q' q; cases b <;> first | exact wpAny_pure q | exact wpAny_rule q
      · intro h' sb r; dsimp only; exact wpAny_pure (fin h' sb r)
/-! ### set(xs), xs a list -/
def inK (ks : List Key) (j : Key) : Bool := ks.any fun y => decide (j = y)
theorem inK_iff {ks : List Key} {j : Key} : inK ks j = true ↔ j ∈ ks := by
  unfold inK
  rw [List.any_eq_true]
  exact ⟨fun ⟨y, h, e⟩ => of_decide_eq_true e ▸ h, fun h => ⟨j, h, decide_eq_true rfl⟩⟩
theorem newY {h : Heap} {ks : List Key} (ho : h.get? a = some { cls := .type "set", dict := none, data := .set #[] 0 (.fresh 0 0 (!w.params.followText "set-order")) }) : SetY P w h a (fun j => inK (ks.take 0) j) 0 :=
  ⟨_, #[], 0, _, ho, ⟨rfl, rfl, rfl⟩, rfl, (fun e he => by simp at he), (by simp), (fun k => by simp [inK]), ⟨by decide, rfl, rfl⟩, List.Pairwise.nil, by
    show _ ∨ (!w.params.followText "set-order") = true
    cases w.params.followText "set-order"
    · exact .inr rfl
    · exact .inl rfl⟩
theorem loopY {I : Addr} {fp wr : List Addr} {G : Array GenState → Array GenState → Prop} {m : Nat} {Pv : Nat → Value → Prop} {St : Nat → Shared → Prop} {R : Result → Shared → Prop}
    (W : WalksS P w A.in1 I fp wr G m Pv St) (D : Addr) (nD : D ∉ fp) (ks : List Key) (hm : m = ks.length) (hb : ks.length + 1 < scanBound) (hval : ∀ i v, Pv i v → ∃ k, ks[i]? = some k ∧ (mixKind P w).is k v = true) :
    ∀ (j i : Nat) (s : Shared), m - i = j → i ≤ m → St i s → (∃ c, c ≤ i ∧ SetY P w s.heap D (fun j => inK (ks.take i) j) c) →
      (∀ s' c, Moved (D :: wr) G s s' → c ≤ m → SetY P w s'.heap D (fun j => inK ks j) c → R (.ok (.ret .none)) s') →
      codeAny (model P w) A (.builtin "set.update.loop" ⟨[.ref D, .ref I], []⟩) R s := by
  have nw : D ∉ wr := fun h => nD (W.sub _ h)
  have sub : ∀ b ∈ wr, b ∈ D :: wr := fun b hb => List.mem_cons_of_mem _ hb
  intro j
  induction j with
  | zero =>
    intro i s hj hi st ⟨c, hc, hS⟩ hR
    obtain rfl : i = m := by omega
    refine codeAny_builtin F.entry_set_update_loop ?_
    rw [Around.under_plainId F.plain_set_update_loop _]
    show wpAny _ A.in1 (pyNext (.ref I) >>= _) _ _ s
    refine wpAny_bind (W.done s _ _ st fun s' mv => ?_)
    show wpAny _ A.in1 (ret Value.none) _ _ s'
    rw [show ks.take i = ks from List.take_of_length_le (by omega)] at hS
    exact wpAny_pure (hR s' c (mv.mono sub) hc (hS.at fun o e => mv.heap D o nw e))
  | succ j ih =>
    intro i s hj hi st ⟨c, hc, hS⟩ hR
    have lt : i < m := by omega
    refine codeAny_builtin F.entry_set_update_loop ?_
    rw [Around.under_plainId F.plain_set_update_loop _]
    show wpAny _ A.in1 (pyNext (.ref I) >>= _) _ _ s
    refine wpAny_bind (W.item i s _ _ lt st fun v s' hP st' mv => ?_)
    obtain ⟨k, hk, hv⟩ := hval i v hP
    have hS' : SetY P w s'.heap D (fun j => inK (ks.take i) j) c := hS.at fun o e => mv.heap D o nw e
    show wpAny _ A.in1 (holding [v] (setAdd D v) >>= _) _ _ s'
    refine wpAny_bind (wpAny_holding ?_)
    unfold setAdd
    refine wpAny_holding ?_
    refine wpAny_bind ((mixKind P w).pyHash hv ?_)
    refine addY (s := { s' with toks := s'.toks + 1 }) hv hS' (by omega) fun h' sb hS2 => ?_
    have hS3 : SetY P w h' D (fun j => inK (ks.take (i + 1)) j) (if inK (ks.take i) k = true then c else c + 1) := hS2.congr fun j => by
      unfold inK
      rw [List.take_add_one, hk, List.any_append]
      simp
    have hc3 : (if inK (ks.take i) k = true then c else c + 1) ≤ i + 1 := by
      split <;> omega
    refine wpAny_pure ⟨plainId_quiet F.plain_set_update_loop _, ih (i + 1) _ (by omega) lt (W.frame _ s' _ _ st' (Nat.le_succ _) fun b hb o e => ?_) ⟨_, hc3, hS3⟩ fun s'' c2 mv2 hc2 hS4 => ?_⟩
    · exact (sb.2 b fun h => nD (h ▸ hb)).trans e
    · refine hR s'' c2 (Moved.trans W.gtrans ((mv.mono sub).then_heap (Nat.le_succ _) fun b o hb e => ?_) mv2) hc2 hS4
      exact (sb.2 b fun h => hb (h ▸ List.mem_cons_self)).trans e
end
section
variable {P : Program} {w : World} {A : Around} {E : Value → Shared → Prop} {s : Shared}
theorem callY {l : Addr} {items : Array Value} (ks : List Key) {Q : Value → Shared → Prop} (hh : A.handled = none) (hl : s.heap.IsList l items) (hlen : items.size = ks.length) (hit : ∀ (i : Nat) (v : Value), items[i]? = some v → ∃ k, ks[i]? = some k ∧ (mixKind P w).is k v = true) (hb : ks.length + 1 < scanBound)
    (h : ∀ (h' : Heap) (tk c : Nat), SetY P w h' s.heap.objs.size (fun j => inK ks j) c → c ≤ ks.length → (∀ b o, s.heap.get? b = some o → h'.get? b = some o) → Q (.ref s.heap.objs.size) { s with heap := h', toks := tk }) :
    wpAny (model P w) A (call (.type "set") [.ref l]) Q E s := by
  obtain ⟨c, tl, hmro⟩ := F.called_set.mro
  have k1 := F.called_set.made
  have k2 := F.called_set.sub
  refine wpAny_call (codeAny_of_tree ?_)
  show wpAny _ _ (callAny (.type "set") _) _ _ _
  refine wpAny_pure ⟨Code.quiet_builtin _ (by decide +kernel), codeAny_builtin F.entry_type_call ?_⟩
  rw [Around.under_plain (weight_type_call_type "set" [.ref l] []) rfl]
  have k3 := F.called_set.notType
  have k4 := F.called_set.canCreate
  have k5 := F.typeCall_set_1 (.ref l)
  repeat (any_goals (first | assumption | wp_step))
  refine codeAny_mono (code_set_led1 (.ref l) (E := E) (Q₁ := fun obj s₁ => obj = .ref s.heap.objs.size ∧ s₁ = { s with heap := s.heap.push { cls := .type "set", dict := none, data := .set #[] 0 (.fresh 0 0 (!w.params.followText "set-order")) } }) ⟨rfl, rfl⟩) fun r s₁ hr => ?_
  cases r with
  | error e => exact hr
  | ok fl =>
    cases fl with
    | ret obj =>
      obtain ⟨rfl, rfl⟩ := hr
      have hS : (s.heap.push { cls := .type "set", dict := none, data := .set #[] 0 (.fresh 0 0 (!w.params.followText "set-order")) }).get? s.heap.objs.size = some { cls := .type "set", dict := none, data := .set #[] 0 (.fresh 0 0 (!w.params.followText "set-order")) } := Heap.get?_push_size _ rfl
      have hT : Shared.TypeIs { s with heap := s.heap.push { cls := .type "set", dict := none, data := .set #[] 0 (.fresh 0 0 (!w.params.followText "set-order")) } } (.ref s.heap.objs.size) "set" := ⟨_, hS, rfl⟩
      have k6 := F.called_set.init.lookup
      have k7 := F.called_set.init.bind (.ref s.heap.objs.size)
      repeat (any_goals (first | assumption | wp_step))
      refine codeAny_mono (codeAny_call_builtin (R := wants (fun r s₂ => r = .none ∧ ∃ h' tk c, s₂ = { s with heap := h', toks := tk } ∧ SetY P w h' s.heap.objs.size (fun j => inK ks j) c ∧ c ≤ ks.length ∧
          (∀ b o, s.heap.get? b = some o → h'.get? b = some o)) E) F.called_set.init.plain F.entry_set_init (check_set_init_1 hT ?_)) fun r₂ s₂ hr₂ => ?_
      · obtain ⟨ol, hol, hcl, nl, hdl⟩ := hl
        obtain ⟨ocls, odict, odata, oslots⟩ := ol
        simp only at hcl hdl
        subst hcl; subst hdl
        have hol' : (s.heap.push { cls := .type "set", dict := none, data := .set #[] 0 (.fresh 0 0 (!w.params.followText "set-order")) }).get? l = some { cls := .type "list", dict := odict, data := .seq items nl, slots := oslots } := Heap.get?_push_of_some _ hol
        have k8 := F.sub_list_set
        have k9 := F.sub_list_frozenset
        have k10 : (Value.type "list" == Value.type "dict") = false := by decide
        have hl1 : (s.heap.push { cls := .type "set", dict := none, data := .set #[] 0 (.fresh 0 0 (!w.params.followText "set-order")) }).IsList l items := ⟨_, hol', rfl, nl, rfl⟩
        unfold Builtin.«set.__init__» noKeywords Builtin.Frozenset.updateFrom
        generalize hPI : pyIter = PI
        wp_walk
        subst hPI
        refine wpAny_pyIter_list hl1 ?_
        refine wpAny_bind (wpAny_runValue ?_)
        have ltl : l < s.heap.objs.size := Heap.lt_size hol
        have z1 : (s.heap.push { cls := .type "set", dict := none, data := .set #[] 0 (.fresh 0 0 (!w.params.followText "set-order")) }).objs.size = s.heap.objs.size + 1 := Heap.size_push ..
        refine loopY ((Walks.list (by simp [hh]) _ l (by rw [z1]; exact Nat.ne_of_lt (Nat.lt_succ_of_lt ltl)) items).toS) s.heap.objs.size (by rw [z1]; simp only [List.mem_cons, List.not_mem_nil, or_false, not_or]; exact ⟨Nat.ne_of_lt (Nat.lt_succ_self _), Nat.ne_of_gt ltl⟩) ks hlen hb hit (items.size - 0) 0 _ (by omega) (Nat.zero_le _)
          ⟨⟨_, Heap.get?_push_size _ rfl, rfl, rfl⟩, (hl1.push _)⟩ ⟨0, Nat.le_refl 0, newY (Heap.get?_push_of_some _ hS)⟩ fun s' c' mv hc' hS' => ?_
        obtain ⟨h', g2, d', tk', os'⟩ := s'
        obtain rfl : g2 = s.gens := mv.gens
        obtain rfl : d' = s.drawn := mv.drawn
        obtain rfl : os' = s.os := mv.os
        show wpAny _ _ _ _ _ _
        refine wpAny_pure ?_
        show wpAny _ _ (ret Value.none) _ _ _
        refine wpAny_pure ⟨rfl, h', tk', c', rfl, hS', hlen ▸ hc', fun b o e => ?_⟩
        have b0 : b < s.heap.objs.size := Heap.lt_size e
        exact mv.heap b o (by rw [z1]; simp only [List.mem_cons, List.not_mem_nil, or_false, not_or]; exact ⟨Nat.ne_of_lt b0, Nat.ne_of_lt (Nat.lt_succ_of_lt b0)⟩) (Heap.get?_push_of_some _ (Heap.get?_push_of_some _ e))
      · cases r₂ with
        | error e => exact hr₂
        | ok fl₂ =>
          cases fl₂ with
          | ret r =>
            obtain ⟨rfl, h', tk, c', rfl, hS', hc', hk'⟩ := hr₂
            repeat (any_goals (first | assumption | wp_step))
            exact h _ _ _ hS' hc' hk'
          | _ => exact hr₂.elim
    | _ => exact hr.elim
end
end Sx
/-! sets of ints and texts from a list, with their tables; sorted of one of texts -/
namespace Sx
open PySem PySem.Spec PyProof.Rows L2
/-! ### the rules -/
def SetYO (P : Program) (w : World) (a : Addr) (S : Key → Bool) (n : Nat) : HO := .ext fun h => SetY P w h a S n
theorem setY_ok {w : World} {P : Program} {H : Hp} {h : Heap} {a : Addr} {S : Key → Bool} {n : Nat} (R : SetY P w h a S n) : ObjOk P w H h a (SetYO P w a S n) :=
  have ⟨o, _, _, _, ho, _⟩ := R
  ⟨R, ⟨o, ho⟩, fun _ _ p _ => SetY.at p (by assumption)⟩
section
variable {P : Program} {w : World} {A : Around} {E : Value → Shared → Prop} {s : Shared} {a : Addr}
theorem strs_of {P : Program} {w : World} : ∀ l : List Value, (∀ v ∈ l, ∃ x, (mixKind P w).is (.inr x) v = true) → ∃ xs : List Str, StrsAre l xs ∧ l.map vk = xs.map Sum.inr
  | [], _ => ⟨[], .nil, rfl⟩
  | v :: l, h => by
    obtain ⟨xs, h1, h2⟩ := strs_of l fun u hu => h u (List.mem_cons_of_mem _ hu)
    obtain ⟨x, hx⟩ := h v List.mem_cons_self
    rcases keyIs_shape (show keyIs (.inr x) v = true from hx) with ⟨i, t, e, _⟩ | ⟨y, t, e, rfl⟩
    · cases e
    · cases e
      exact ⟨x :: xs, .cons x t h1, by rw [List.map_cons, List.map_cons, h2]; rfl⟩
theorem nodup_inr : ∀ {xs : List Str}, (xs.map (Sum.inr : Str → Key)).Nodup → xs.Nodup
  | [], _ => List.nodup_nil
  | x :: r, h => by
    obtain ⟨h1, h2⟩ := List.nodup_cons.mp h
    exact List.nodup_cons.mpr ⟨fun m => h1 (List.mem_map.mpr ⟨x, m, rfl⟩), nodup_inr h2⟩
theorem sortedY {S : Key → Bool} {n : Nat} {Q : Value → Shared → Prop} (R : SetY P w s.heap a S n) (hh : A.handled = none) (h64 : n < 64) (ht : ∀ k, S k = true → ∃ x, k = .inr x)
    (hQ : ∀ s' p (out : Array Value) (c : Nat) (ys : List Str), (∀ b o, s.heap.get? b = some o → s'.heap.get? b = some o) → s'.gens = s.gens → s'.os = s.os → s.heap.objs.size ≤ p →
      s'.heap.get? p = some (seqObj "list" out c) → StrsAre out.toList ys → sortedS ys = true → ys.Nodup → (∀ x, x ∈ ys ↔ S (.inr x) = true) → ys.length = n → Q (.ref p) s') :
    wpAny (model P w) A (call (.builtin "sorted") [.ref a]) Q E s := by
  obtain ⟨o, es, ep, t, ho, hex, hd, g, nd, hm, ⟨hb, hf, hn⟩, hr, hl⟩ := R
  refine Calls.call_function_entry kind_sorted plain_sorted entry_sorted (args_sorted1 _) ?_
  unfold Builtin.«sorted»
  refine wpAny_bind (m := checkCount "sorted" 1 1 _) (wpAny_pure ?_)
  refine wpAny_bind (collect_set (A := A.in1) hh ⟨o, ho, hex.1, hd⟩ hf hb hr hl fun s1 vs k1 hz g1 o1 pm => ?_)
  have vl : vs.length = n := by rw [pm.length_eq, List.length_map, Array.length_toList]; exact hn
  have pk : (vs.map vk).Perm (es.toList.map ek) := by
    have q := pm.map vk
    rw [List.map_map] at q
    exact q
  obtain ⟨xs, hS, hx⟩ := strs_of (P := P) (w := w) vs fun v hv => by
    obtain ⟨e, he, q⟩ := List.mem_map.mp (pm.mem_iff.mp hv)
    obtain ⟨x, z⟩ := ht (ek e) ((hm _).2 (List.mem_map.mpr ⟨e, he, rfl⟩))
    refine ⟨x, ?_⟩
    rw [← q, ← z]
    exact (g e he).1
  rw [hx] at pk
  refine wpAny_bind (wpAny_newList ?_ (by rw [vl, sizeLine_eq]; omega))
  have hoL : (s1.heap.push (seqObj "list" vs.toArray 0)).get? s1.heap.objs.size = some (seqObj "list" vs.toArray 0) := Heap.get?_push_size _ rfl
  refine wpAny_bind (wpAny_holding (wpAny_call_entry slot_list_sort ⟨_, hoL, rfl⟩ entry_list_sort (list_sort_treeK strKind_oneLt hoL hS.keysOf (fun v₁ v₂ rest e => keyKind_strs (by rw [← e]; exact hS)) (by rw [vl]; exact h64) fun st' hp hs => ⟨_, rfl, ?_⟩) (args_list_sort _)))
  obtain ⟨ys, a1, a2, a3⟩ := sorted_out_str hS hp hs
  obtain ⟨c, hc⟩ := sortedHeap_at (vs := vs) (out := (arrOf st').map (·.2)) hoL
  have pn : (ys.map (Sum.inr : Str → Key)).Perm (es.toList.map ek) := (a2.map _).trans pk
  refine wpAny_pure ⟨_, rfl, hQ _ s1.heap.objs.size _ c ys (fun b u e => ?_) g1 o1 hz hc a1 a3 (nodup_inr (pn.nodup_iff.mpr nd)) (fun x => ?_) ?_⟩
  · have q := k1 b u e
    have lt := Heap.lt_size q
    show (sortedHeap (s1.heap.push (seqObj "list" vs.toArray 0)) s1.heap.objs.size vs _).get? b = some u
    rw [sortedHeap_old (Nat.ne_of_lt lt) (by rw [size_push']; exact Nat.lt_succ_of_lt lt)]
    exact Heap.get?_push_of_some _ q
  · rw [hm, ← pn.mem_iff, List.mem_map]
    exact ⟨fun h => ⟨x, h, rfl⟩, fun ⟨y, h, e⟩ => Sum.inr.inj e ▸ h⟩
  · have z := pn.length_eq
    rw [List.length_map, List.length_map] at z
    rw [z, ← hn, Array.length_toList]
end
section
variable {X : Cx}
theorem setY_get {pins : List (Addr × Obj)} {σ : L2.St} {H : Hp} {s : Shared} {a : Addr} {S : Key → Bool} {n : Nat} (I : Inv X pins σ H s) (ha : H a = some (SetYO X.prog X.w a S n)) : SetY X.prog X.w s.heap a S n := (I.hok a _ ha).1
/-- sorted(found) of texts, fewer than 64 -/
def rSortTx (P : Program) (w : World) : List V → Hp → VK → Prop := fun vs H Q => ∃ (a : Addr) (S : Key → Bool) (n : Nat), vs = [V.ref a] ∧ H a = some (SetYO P w a S n) ∧ n < 64 ∧ (∀ k, S k = true → ∃ x, k = .inr x) ∧
  ∀ (ys : List Str) (p : Addr), sortedS ys = true → ys.Nodup → (∀ x, x ∈ ys ↔ S (.inr x) = true) → ys.length = n → H p = none → Q (.ref p) (upd H p (.lst (ys.map V.str)))
theorem cr_sortTx (hc : X.calm = true) : CallR X (.builtin "sorted") (rSortTx X.prog X.w) := by
  intro pins s σ H vs us Q I r h
  obtain ⟨a, S, n, rfl, ha, h64, ht, q⟩ := h
  rw [Vals.ref1 r]
  refine sortedY (setY_get I ha) (I.ok.hd hc) h64 ht fun s' p out c ys k g o hp hg hi hs hd hm hl => ?_
  have hn : H p = none := I.hok.fresh hp
  have J : Inv X pins σ (upd H p (.lst (ys.map V.str))) { s with heap := s'.heap, gens := s'.gens, drawn := s'.drawn, toks := s'.toks } :=
    I.call (ch := []) (Un.laid k hp hn) (I.hok.laid k hp ⟨by rw [List.length_map, hl, sizeLine_eq]; omega, out.toList, c, vals_of_strs hi, hg⟩) (by rw [g]; exact I.bare) (fun _ z => nomatch z)
  have e : s' = { s with heap := s'.heap, gens := s'.gens, drawn := s'.drawn, toks := s'.toks } := by
    obtain ⟨_, _, _, _, _⟩ := s'
    cases o
    rfl
  rw [e]
  exact ⟨.ref p, _, J, rfl, q ys p hs hd hm hl hn⟩
def rSetKs (K : PySem.W.Frag) (P : Program) (w : World) : List V → Hp → VK → Prop := fun xs H Q => ∃ (l : Addr) (ks : List Key), xs = [V.ref l] ∧ SqL K H l (ks.map kV) ∧ ks.length + 1 < scanBound ∧
  ∀ (p : Addr) (c : Nat), c ≤ ks.length → H p = none → Q (.ref p) (upd H p (SetYO P w p (inK ks) c))
theorem cr_setKs (hc : X.calm = true) : CallR X (.type "set") (rSetKs X.K X.prog X.w) := by
  intro pins s σ H vs us Q I r h
  obtain ⟨l, ks, rfl, hs, hb, q⟩ := h
  obtain ⟨its, rv, hl, _⟩ := I.list hs
  rw [Vals.ref1 r]
  have e1 := rv.length
  rw [List.length_map] at e1
  refine callY ks (I.ok.hd hc) hl.isList (by rw [List.size_toArray]; exact e1.symm) (fun i v hv => ?_) hb fun h' tk c R hcn k => ?_
  · rw [List.getElem?_toArray] at hv
    have hi : i < ks.length := e1 ▸ (List.getElem?_eq_some_iff.mp hv).1
    have hk : (ks.map kV)[i]? = some (kV ks[i]) := by rw [List.getElem?_map, List.getElem?_eq_getElem hi]; rfl
    obtain ⟨u, hu, ru⟩ := Vals.get rv hk
    rw [hv] at hu
    obtain rfl := Option.some.inj hu
    exact ⟨ks[i], List.getElem?_eq_getElem hi, kV_is ru⟩
  · exact ⟨.ref _, upd H s.heap.objs.size (SetYO X.prog X.w s.heap.objs.size (inK ks) c), I.laid (t' := tk) k (Nat.le_refl _) (setY_ok R), rfl, q _ c hcn (I.hok.fresh (Nat.le_refl _))⟩
end
end Sx
/-! a != b of two tuples whose items are equal lists or dicts -/
namespace PySem.SeqAt
open AutoSeq1 (wpAny_loadPart')
open MeetsSeq MeetsSeq2 MeetsSeq3
section
variable {prog : Program} {w : World}
theorem zz_tupNe (l b : Addr) (xs ys : Array Value) (n m : Nat) (d1 d2 : Option Addr) (s1 s2 : Array (Option Value)) (hsz : xs.size = ys.size) :
    MeetsIn prog w (Builtin.«tuple.__ne__» ⟨[.ref l, .ref b], []⟩)
      (fun A R s => s.heap.get? l = some { cls := .type "tuple", dict := d1, data := .seq xs n, slots := s1 } ∧ s.heap.get? b = some { cls := .type "tuple", dict := d2, data := .seq ys m, slots := s2 } ∧
        (∀ j (h1 : j < xs.size) (h2 : j < ys.size), EqP prog w A.in1 s xs[j] ys[j] true) ∧ R (.ok (.ret (.bool false))) s) := by
  intro A R s h
  obtain ⟨hp, g, d, tk, os⟩ := s; obtain ⟨hl, hb, he, h⟩ := h
  have f2 := AutoSeq1.sub_tuple_tuple
  have zl : (xs.toList.zip ys.toList).length = xs.size := by simp [hsz]
  wp_walk using wpAny_loadPart' hl, wpAny_loadPart' hb, wpAny_forIn_list _ (fun rest b s' => b.1 = none ∧ s' = ⟨hp, g, d, tk, os⟩ ∧ ∃ i, rest = (xs.toList.zip ys.toList).drop i) _
  case turn =>
    rintro ⟨y, x⟩ rest b s' ⟨hb', rfl, i, hz⟩
    have lt : i < (xs.toList.zip ys.toList).length := Nat.lt_of_not_le fun h' => by
      rw [List.drop_of_length_le h'] at hz; cases hz
    have h1 : i < xs.size := by omega
    have h2 : i < ys.size := by omega
    rw [List.drop_eq_getElem_cons lt] at hz
    injection hz with e1 e2
    have ey : y = xs[i] := by simpa using congrArg Prod.fst e1
    have ex : x = ys[i] := by simpa using congrArg Prod.snd e1
    subst ey ex
    refine wpAny_bind (he i h1 h2 _ _ ?_)
    wp_walk
    exact ⟨rfl, rfl, i + 1, e2⟩
  case fin =>
    rintro ⟨b1, b2⟩ s' ⟨hb', rfl, i, hz⟩
    simp only at hb'
    subst hb'
    wp_walk
    rw [show Builtin.Tuple.tupleCompareSizes .NotEq xs.size ys.size = .bool false by simp [Builtin.Tuple.tupleCompareSizes, bne, hsz]]
    exact h
  case h => exact ⟨rfl, rfl, 0, rfl⟩
theorem zz_tupsNe {A : Around} {s : Shared} {l b : Addr} {xs ys : Array Value} (hl : s.heap.IsTuple l xs) (hb : s.heap.IsTuple b ys) (hsz : xs.size = ys.size) (hu : A.units < cLine)
    (he : ∀ j (h1 : j < xs.size) (h2 : j < ys.size), EqP prog w A.in1 s xs[j] ys[j] true) (E Q : Value → Shared → Prop) (h : Q (.bool false) s) : wpAny (model prog w) A (richCompare .NotEq (.ref l) (.ref b)) Q E s := by
  obtain ⟨⟨c1, d1, data, s1⟩, o1, e1, n, f1⟩ := id hl
  obtain ⟨⟨c2, d2, data2, s2⟩, o2, e2, m, f2⟩ := id hb
  simp only at e1 f1 e2 f2
  subst e1 f1 e2 f2
  have ta : s.TypeIs (.ref l) "tuple" := ⟨_, o1, rfl⟩
  have tb : s.TypeIs (.ref b) "tuple" := ⟨_, o2, rfl⟩
  exact wpAny_richCompare_same_room (op := .NotEq) ta tb F.slot_tuple_ne (call_meetsIn F.slot_tuple_ne ta F.entry_tuple_ne (F.args_tuple_ne_2 _ _) (zz_tupNe l b xs ys n m d1 d2 s1 s2 hsz)
    ⟨o1, o2, he, show Value.bool false ≠ Value.notImplemented ∧ Q (.bool false) s from ⟨(fun x => nomatch x), h⟩⟩) hu
end
end PySem.SeqAt
namespace L2
open PySem PySem.Spec PyProof.Rows
section
variable {X : Cx}
def rNeP (K : PySem.W.Frag) : R2 := fun x y H Q => ∃ n a b xs ys, n ≤ 60 ∧ x = .ref a ∧ y = .ref b ∧ SqT K H a xs ∧ SqT K H b ys ∧ Paired (EqV K H n) xs ys ∧ Q (.bl false) H
theorem op_neP (hu : X.A.units + 64 < cLine) : OpR X (compareOp .NotEq) (rNeP X.K) := by
  intro pins s σ H x y v u Q I rx ry h
  obtain ⟨n, a, b, xs, ys, hn, rfl, rfl, ha, hb, hp, q⟩ := h
  cases (show v = Value.ref a from rx)
  cases (show u = Value.ref b from ry)
  obtain ⟨us, r1, p1, _⟩ := I.tuple ha
  obtain ⟨ws, r2, p2, _⟩ := I.tuple hb
  have z : us.toArray.size = ws.toArray.size := by
    rw [List.size_toArray, List.size_toArray, ← r1.length, ← r2.length]
    exact Paired.length hp
  refine SeqAt.zz_tupsNe p1 p2 z (by omega) (fun j h1 h2 => ?_) _ _ ⟨.bl false, H, I, rfl, q⟩
  have k := items_run (fun x y v u h rx ry => eqV_run I n X.A.in1 (by show X.A.units + 1 + n < cLine; omega) x y v u h rx ry) hp r1 r2 j (by simpa using h1) (by simpa using h2)
  simpa using k
end
end L2
namespace My
open PySem L2 Wk
/-- a def of the text, by its promise -/
structure Df (P : Program) (w : World) (K : PySem.W.Frag) (mg : Str → Option Value) (base : Heap) (CX : CXT) (k : Nat) (x : Str) (ps : List Str) (sp : Sp) : Prop where
  ex : ∃ (f : Addr) (fd : FuncData), mg x = some (.ref f) ∧ PySem.W.keepIn K (.ref f) = true ∧ Binds K fd ps [] ∧ FnOk P w K mg base CX k f fd ps sp
section
variable {X : Cx}
theorem pe_df {k j : Nat} {x : Str} {ps : List Str} {sp : Sp} {e : Expr} {es : List Expr} {t : TA} {p pos : Pos} (D : Df X.prog X.w X.K X.mg X.base CX0 k x ps sp) (hr : Room j X.A) (hj : k ≤ j) (ha : PA X (e :: es) t) (hg : Gl X x := by rfl)
    (he : starEach (e :: es) X.env = (false, eval e X.env) :: starEach es X.env := by rfl) (hpl : (backTo pos (starEach es X.env)).any (·.1) = false := by rfl) (hdb : (x == ("__debug__" : Str)) = false := by decide) : PE X (.Call (.Name x p) (e :: es) [] pos) (tCall sp [] E0 t) := by
  obtain ⟨f, fd, hm, hk, hb, F⟩ := D.ex
  exact pe_call F (hr.mono hj) hg hm hk hb .nil pass0 ha hdb he hpl
end
section
variable {X : Cx}
theorem pe_dfx {k j : Nat} {x : Str} {ps : List Str} {sp : Sp} {e : Expr} {es : List Expr} {t : TA} {p pos : Pos} {E : XK} (D : Df X.prog X.w X.K X.mg X.base (L2.CX X.prog X.w) k x ps sp) (hr : Room j X.A) (hj : k ≤ j) (tk : Takes X (fun cls d _ H => E cls d H)) (ha : PA X (e :: es) t) (hg : Gl X x := by rfl)
    (he : starEach (e :: es) X.env = (false, eval e X.env) :: starEach es X.env := by rfl) (hpl : (backTo pos (starEach es X.env)).any (·.1) = false := by rfl) (hdb : (x == ("__debug__" : Str)) = false := by decide) : PE X (.Call (.Name x p) (e :: es) [] pos) (tCall sp [] E t) := by
  obtain ⟨f, fd, hm, hk, hb, F⟩ := D.ex
  exact pe_call F (hr.mono hj) hg hm hk hb .nil (passes_call tk (fun _ _ _ _ h => h)) ha hdb he hpl
end
/-! ### sums as data -/
inductive Op where
  | add | less | times
  deriving DecidableEq
def Op.word : Op → Str
  | .add => "add"
  | .less => "less"
  | .times => "times"
inductive Sm where
  | num (n : Int) | name (c : Str) | ask | say (s : Sm) | bin (o : Op) (a b : Sm)
def Sm.size : Sm → Nat
  | .num _ => 1
  | .name _ => 1
  | .ask => 1
  | .say s => s.size + 1
  | .bin _ a b => a.size + b.size + 1
def Sm.depth : Sm → Nat
  | .num _ => 1
  | .name _ => 1
  | .ask => 1
  | .say s => s.depth + 1
  | .bin _ a b => max a.depth b.depth + 1
/-- numbers and letters as they may be -/
def Sm.ok : Sm → Prop
  | .num n => 0 ≤ n ∧ n < 1000
  | .name c => c ∈ letters
  | .ask => True
  | .say s => s.ok
  | .bin _ a b => a.ok ∧ b.ok
def IsSum (H : Hp) : V → Sm → Prop
  | v, .num n => ∃ p, v = .ref p ∧ H p = some (.tup [.str "num", .int n])
  | v, .name c => ∃ p, v = .ref p ∧ H p = some (.tup [.str "name", .str c])
  | v, .ask => ∃ p, v = .ref p ∧ H p = some (.tup [.str "ask"])
  | v, .say s => ∃ p x, v = .ref p ∧ H p = some (.tup [.str "say", x]) ∧ IsSum H x s
  | v, .bin o a b => ∃ p x y, v = .ref p ∧ H p = some (.tup [.str o.word, x, y]) ∧ IsSum H x a ∧ IsSum H y b
theorem IsSum.mono {W : List Addr} {H H' : Hp} (f : Fr W H H') : ∀ {s : Sm} {v : V}, IsSum H v s → IsSum H' v s
  | .num _, _, ⟨p, e, h⟩ => ⟨p, e, f.gett h⟩
  | .name _, _, ⟨p, e, h⟩ => ⟨p, e, f.gett h⟩
  | .ask, _, ⟨p, e, h⟩ => ⟨p, e, f.gett h⟩
  | .say _, _, ⟨p, x, e, h, h1⟩ => ⟨p, x, e, f.gett h, IsSum.mono f h1⟩
  | .bin _ _ _, _, ⟨p, x, y, e, h, h1, h2⟩ => ⟨p, x, y, e, f.gett h, IsSum.mono f h1, IsSum.mono f h2⟩
theorem fr_su {W : List Addr} {H H1 : Hp} {v : V} {s : Sm} (f : Fr W H H1) (h : IsSum H v s) : IsSum H1 v s := IsSum.mono f h
theorem Sm.size_pos (s : Sm) : 1 ≤ s.size := by cases s <;> simp [Sm.size]
theorem Sm.depth_pos (s : Sm) : 1 ≤ s.depth := by cases s <;> simp [Sm.depth]
/-! ### the state of drawing -/
def Known (K : PySem.W.Frag) (a : Addr) (xs : List V) : Prop :=
  ∃ (o : Obj) (its : Array Value) (n : Nat), K.lookup a = some o ∧ o.cls = .type "list" ∧ o.dict = none ∧ o.data = .seq its n ∧ its.size ≤ sizeLine ∧ Vals xs its.toList
/-- the script, apart from what may be written -/
def Scr (K : PySem.W.Frag) (H : Hp) (a : Addr) (xs : List V) (Ws : List Addr) : Prop := (Rd H a (.lst xs) ∧ a ∉ Ws) ∨ Known K a xs
theorem Scr.sq {K : PySem.W.Frag} {H : Hp} {a : Addr} {xs : List V} {Ws : List Addr} (h : Scr K H a xs Ws) : SqL K H a xs := by
  rcases h with ⟨h, _⟩ | h
  · exact .inl h
  · exact .inr h
theorem rd_fr {W : List Addr} {H H' : Hp} {a : Addr} {u : HO} (f : Fr W H H') (h : Rd H a u) (n : a ∉ W) : Rd H' a u := by
  rcases h with h | ⟨o, h⟩
  · exact .inl (f.get h n)
  · exact .inr ⟨o, f.get h n⟩
theorem Scr.fr {K : PySem.W.Frag} {H H' : Hp} {a : Addr} {xs : List V} {Ws W : List Addr} (h : Scr K H a xs Ws) (f : Fr W H H') (hw : ∀ b ∈ W, b ∈ Ws) : Scr K H' a xs Ws := by
  rcases h with ⟨h, n⟩ | h
  · exact .inl ⟨rd_fr f h fun q => n (hw a q), n⟩
  · exact .inr h
/-- the state at st: the script, how many cells are begun, a mixed number, what is left of a cell; Ws: what else may be written -/
def StAt (K : PySem.W.Frag) (Ws : List Addr) (H : Hp) (st : Addr) : Prop :=
  ∃ (a : Addr) (ns : List Int) (i m r : Int), H st = some (.lst [.ref a, .int i, .int m, .int r]) ∧ Scr K H a (ns.map V.int) (st :: Ws) ∧ 0 ≤ i ∧ 0 ≤ m ∧ m < 2147483647
theorem StAt.fr {K : PySem.W.Frag} {Ws W : List Addr} {H H' : Hp} {st : Addr} (h : StAt K Ws H st) (f : Fr W H H') (n : st ∉ W) (hw : ∀ b ∈ W, b ∈ Ws) : StAt K Ws H' st := by
  obtain ⟨a, ns, i, m, r, h1, h2, h3⟩ := h
  exact ⟨a, ns, i, m, r, f.get h1 n, h2.fr f fun b q => List.mem_cons_of_mem _ (hw b q), h3⟩
theorem StAt.fr1 {K : PySem.W.Frag} {Ws : List Addr} {H H' : Hp} {st q : Addr} (h : StAt K Ws H st) (f : Fr [q] H H') (n : st ≠ q) (hw : q ∈ Ws) : StAt K Ws H' st :=
  h.fr f (by simpa using n) (fun b hb => by rw [List.mem_singleton.mp hb]; exact hw)
theorem StAt.fr0 {K : PySem.W.Frag} {Ws : List Addr} {H H' : Hp} {st : Addr} (h : StAt K Ws H st) (f : Fr [] H H') : StAt K Ws H' st := h.fr f (by simp) (by simp)
theorem fr_st0 {K : PySem.W.Frag} {Ws : List Addr} {H H' : Hp} {st : Addr} (f : Fr [] H H') (h : StAt K Ws H st) : StAt K Ws H' st := h.fr0 f
theorem fr_st1 {K : PySem.W.Frag} {Ws : List Addr} {H H' : Hp} {st q : Addr} (f : Fr [q] H H') (n : st ≠ q) (hw : q ∈ Ws) (h : StAt K Ws H st) : StAt K Ws H' st := h.fr1 f n hw
theorem nn_st {K : PySem.W.Frag} {Ws : List Addr} {H : Hp} {p st : Addr} (n : H p = none) (h : StAt K Ws H st) : p ≠ st := by
  obtain ⟨a, ns, i, m, r, h1, _⟩ := h
  exact nn_l n h1
/-- one more thing that may be written, made anew -/
theorem StAt.more {K : PySem.W.Frag} {Ws : List Addr} {H H' : Hp} {st q : Addr} (h : StAt K Ws H st) (f : Fr [] H H') (n : H q = none) : StAt K (q :: Ws) H' st := by
  obtain ⟨a, ns, i, m, r, h1, h2, h3⟩ := h
  refine ⟨a, ns, i, m, r, f.get0 h1, ?_, h3⟩
  rcases h2 with ⟨h, n2⟩ | h
  · refine .inl ⟨rd_fr f h (by simp), ?_⟩
    have nq : a ≠ q := by
      rcases h with h | ⟨o, h⟩
      · exact ne_of_none h n
      · exact ne_of_none h n
    simp only [List.mem_cons, not_or] at n2 ⊢
    exact ⟨n2.1, nq, n2.2⟩
  · exact .inr h
theorem StAt.less {K : PySem.W.Frag} {Ws Ws' : List Addr} {H : Hp} {st : Addr} (h : StAt K Ws H st) (hw : ∀ b ∈ Ws', b ∈ Ws) : StAt K Ws' H st := by
  obtain ⟨a, ns, i, m, r, h1, h2, h3⟩ := h
  refine ⟨a, ns, i, m, r, h1, ?_, h3⟩
  rcases h2 with ⟨h, n2⟩ | h
  · refine .inl ⟨h, ?_⟩
    simp only [List.mem_cons, not_or] at n2 ⊢
    exact ⟨n2.1, fun q => n2.2 (hw a q)⟩
  · exact .inr h
theorem atI_mem {xs : List V} {k : Int} (h0 : 0 ≤ k) (h1 : k < xs.length) : ∃ x, atI xs k = some x ∧ x ∈ xs := by
  obtain ⟨n, rfl⟩ : ∃ n : Nat, k = (n : Int) := ⟨k.toNat, by omega⟩
  have hk : n < xs.length := by omega
  exact ⟨xs[n], atI_nat (List.getElem?_eq_getElem hk), List.getElem_mem hk⟩
def spStart (K : PySem.W.Frag) : Sp := fun vs H Q _ => ∃ (a : Addr) (ns : List Int), vs = [.ref a] ∧ SqL K H a (ns.map V.int) ∧ ∀ (st : Addr) (H' : Hp), H st = none → StAt K [] H' st → Fr [] H H' → Q (.ref st) H'
def spDrawn (K : PySem.W.Frag) : Sp := fun vs H Q _ => ∃ (Ws : List Addr) (st : Addr) (n : Int), vs = [.ref st, .int n] ∧ StAt K Ws H st ∧ 0 < n ∧ n.natAbs < 2 ^ 200 ∧
  ∀ (v : Int) (H' : Hp), 0 ≤ v → v < n → StAt K Ws H' st → Fr [st] H H' → Q (.int v) H'
theorem u_drawn {K : PySem.W.Frag} {Ws : List Addr} {H : Hp} {Q : VK} {E : XK} {st : Addr} {n : Int} (h : StAt K Ws H st) (hn : 0 < n) (hn2 : n.natAbs < 2 ^ 200) (k : ∀ (v : Int) (H' : Hp), 0 ≤ v → v < n → StAt K Ws H' st → Fr [st] H H' → Q (.int v) H') : spDrawn K [.ref st, .int n] H Q E :=
  ⟨Ws, st, n, rfl, h, hn, hn2, k⟩
def spSum (K : PySem.W.Frag) (n : Nat) : Sp := fun vs H Q _ => ∃ (Ws : List Addr) (st rm : Addr) (d r : Int), vs = [.ref st, .int d, .ref rm] ∧ StAt K Ws H st ∧ rm ∈ Ws ∧ H rm = some (.lst [.int r]) ∧ 1 ≤ r ∧ r ≤ 1000 ∧ d < n ∧
  ∀ (v : V) (s : Sm) (H' : Hp), IsSum H' v s → s.ok → ((s.depth : Int) ≤ d ∨ s.depth = 1) → (s.size : Int) ≤ r → H' rm = some (.lst [.int (r - s.size)]) → StAt K Ws H' st → Fr [st, rm] H H' → Q v H'
theorem u_sum {K : PySem.W.Frag} {n : Nat} {Ws : List Addr} {H : Hp} {Q : VK} {E : XK} {st rm : Addr} {d r : Int} (h : StAt K Ws H st) (hw : rm ∈ Ws) (hr : H rm = some (.lst [.int r])) (h1 : 1 ≤ r) (h2 : r ≤ 1000) (hd : d < n)
    (k : ∀ (v : V) (s : Sm) (H' : Hp), IsSum H' v s → s.ok → ((s.depth : Int) ≤ d ∨ s.depth = 1) → (s.size : Int) ≤ r → H' rm = some (.lst [.int (r - s.size)]) → StAt K Ws H' st → Fr [st, rm] H H' → Q v H') : spSum K n [.ref st, .int d, .ref rm] H Q E :=
  ⟨Ws, st, rm, d, r, rfl, h, hw, hr, h1, h2, hd, k⟩
theorem StAt.ne {K : PySem.W.Frag} {Ws : List Addr} {H : Hp} {st rm : Addr} {xs : List V} (h : StAt K Ws H st) (hr : H rm = some (.lst xs)) (hx : xs.length ≠ 4) : st ≠ rm := by
  obtain ⟨a, ns, i, m, r, h1, _⟩ := h
  exact ne_of h1 hr (by
    intro e
    apply hx
    rw [← HO.lst.inj e]
    rfl)
theorem depth_bin {o : Op} {a b : Sm} {n : Nat} (h1 : a.depth ≤ n) (h2 : b.depth ≤ n) : (Sm.bin o a b).depth ≤ n + 1 := Nat.succ_le_succ (Nat.max_le.mpr ⟨h1, h2⟩)
theorem idx2 {a b : Int} {k : Int} (h0 : 0 ≤ k) (h1 : k < 2) : ∃ z, atI [V.int a, V.int b] k = some (.int z) ∧ (z = a ∨ z = b) := by
  have e : k = 0 ∨ k = 1 := by omega
  rcases e with rfl | rfl
  · exact ⟨a, rfl, .inl rfl⟩
  · exact ⟨b, rfl, .inr rfl⟩
theorem idx3i {a b c : Int} {k : Int} (h0 : 0 ≤ k) (h1 : k < 3) : ∃ z, atI [V.int a, V.int b, V.int c] k = some (.int z) ∧ (z = a ∨ z = b ∨ z = c) := by
  have e : k = 0 ∨ k = 1 ∨ k = 2 := by omega
  rcases e with rfl | rfl | rfl
  · exact ⟨a, rfl, .inl rfl⟩
  · exact ⟨b, rfl, .inr (.inl rfl)⟩
  · exact ⟨c, rfl, .inr (.inr rfl)⟩
theorem idx4i {a b c d : Int} {k : Int} (h0 : 0 ≤ k) (h1 : k < 4) : ∃ z, atI [V.int a, V.int b, V.int c, V.int d] k = some (.int z) ∧ (z = a ∨ z = b ∨ z = c ∨ z = d) := by
  have e : k = 0 ∨ k = 1 ∨ k = 2 ∨ k = 3 := by omega
  rcases e with rfl | rfl | rfl | rfl
  · exact ⟨a, rfl, .inl rfl⟩
  · exact ⟨b, rfl, .inr (.inl rfl)⟩
  · exact ⟨c, rfl, .inr (.inr (.inl rfl))⟩
  · exact ⟨d, rfl, .inr (.inr (.inr rfl))⟩
theorem op3 {k : Int} (h0 : 0 ≤ k) (h1 : k < 3) : ∃ o : Op, atI [V.str "add", V.str "less", V.str "times"] k = some (.str o.word) := by
  have e : k = 0 ∨ k = 1 ∨ k = 2 := by omega
  rcases e with rfl | rfl | rfl
  · exact ⟨.add, rfl⟩
  · exact ⟨.less, rfl⟩
  · exact ⟨.times, rfl⟩
theorem idx3 {a b c : V} {k : Int} (h0 : 0 ≤ k) (h1 : k < 3) : ∃ z, atI [a, b, c] k = some z ∧ (z = a ∨ z = b ∨ z = c) := by
  have e : k = 0 ∨ k = 1 ∨ k = 2 := by omega
  rcases e with rfl | rfl | rfl
  · exact ⟨a, rfl, .inl rfl⟩
  · exact ⟨b, rfl, .inr (.inl rfl)⟩
  · exact ⟨c, rfl, .inr (.inr rfl)⟩
theorem idx4 {a b c d : V} {k : Int} (h0 : 0 ≤ k) (h1 : k < 4) : ∃ z, atI [a, b, c, d] k = some z ∧ (z = a ∨ z = b ∨ z = c ∨ z = d) := by
  have e : k = 0 ∨ k = 1 ∨ k = 2 ∨ k = 3 := by omega
  rcases e with rfl | rfl | rfl | rfl
  · exact ⟨a, rfl, .inl rfl⟩
  · exact ⟨b, rfl, .inr (.inl rfl)⟩
  · exact ⟨c, rfl, .inr (.inr (.inl rfl))⟩
  · exact ⟨d, rfl, .inr (.inr (.inr rfl))⟩
theorem letter_at {k : Int} (h0 : 0 ≤ k) (h1 : k < 6) : ∃ c : Nat, atI ("abcdef" : Str).cps.toList k = some c ∧ (⟨#[c]⟩ : Str) ∈ letters := by
  have e : k = 0 ∨ k = 1 ∨ k = 2 ∨ k = 3 ∨ k = 4 ∨ k = 5 := by omega
  rcases e with rfl | rfl | rfl | rfl | rfl | rfl
  · exact ⟨97, by decide +kernel, by decide +kernel⟩
  · exact ⟨98, by decide +kernel, by decide +kernel⟩
  · exact ⟨99, by decide +kernel, by decide +kernel⟩
  · exact ⟨100, by decide +kernel, by decide +kernel⟩
  · exact ⟨101, by decide +kernel, by decide +kernel⟩
  · exact ⟨102, by decide +kernel, by decide +kernel⟩
theorem str_small : ("abcdef" : Str).length ≤ sizeLine := Nat.le_trans (show ("abcdef" : Str).length ≤ 6 by decide +kernel) (by decide)
/-! ### a sum without effects, the sums within -/
def Sm.quiet : Sm → Sm
  | .num n => .num n
  | .name c => .name c
  | .ask => .num 7
  | .say s => s.quiet
  | .bin o a b => .bin o a.quiet b.quiet
theorem Sm.quiet_ok : ∀ {s : Sm}, s.ok → s.quiet.ok
  | .num _, h => h
  | .name _, h => h
  | .ask, _ => ⟨by decide, by decide⟩
  | .say s, h => Sm.quiet_ok (s := s) h
  | .bin _ _ _, h => ⟨Sm.quiet_ok h.1, Sm.quiet_ok h.2⟩
theorem Sm.quiet_size : ∀ s : Sm, s.quiet.size ≤ s.size
  | .num _ => Nat.le_refl _
  | .name _ => Nat.le_refl _
  | .ask => Nat.le_refl _
  | .say s => Nat.le_succ_of_le (Sm.quiet_size s)
  | .bin _ a b => Nat.succ_le_succ (Nat.add_le_add (Sm.quiet_size a) (Sm.quiet_size b))
theorem Sm.quiet_depth : ∀ s : Sm, s.quiet.depth ≤ s.depth
  | .num _ => Nat.le_refl _
  | .name _ => Nat.le_refl _
  | .ask => Nat.le_refl _
  | .say s => Nat.le_succ_of_le (Sm.quiet_depth s)
  | .bin _ a b => by
    have h1 := Sm.quiet_depth a
    have h2 := Sm.quiet_depth b
    show max a.quiet.depth b.quiet.depth + 1 ≤ max a.depth b.depth + 1
    omega
def Sm.subs : Sm → List Sm
  | .say s => [s]
  | .bin _ a b => [a, b]
  | _ => []
def Sm.all : Sm → List Sm
  | .num n => [.num n]
  | .name c => [.name c]
  | .ask => [.ask]
  | .say s => .say s :: s.all
  | .bin o a b => .bin o a b :: (a.all ++ b.all)
theorem Sm.all_length : ∀ s : Sm, s.all.length = s.size
  | .num _ => rfl
  | .name _ => rfl
  | .ask => rfl
  | .say s => congrArg (· + 1) (Sm.all_length s)
  | .bin _ a b => by
    show (a.all ++ b.all).length + 1 = a.size + b.size + 1
    rw [List.length_append, Sm.all_length a, Sm.all_length b]
theorem Sm.all_eq (s : Sm) : s.all = s :: (s.subs.flatMap Sm.all) := by
  cases s <;> simp [Sm.all, Sm.subs]
theorem Sm.subs_depth {s t : Sm} (h : t ∈ s.subs) : t.depth + 1 ≤ s.depth := by
  cases s with
  | say s => simp only [Sm.subs, List.mem_singleton] at h; subst h; exact Nat.le_refl _
  | bin o a b =>
    have e : (Sm.bin o a b).depth = max a.depth b.depth + 1 := rfl
    simp only [Sm.subs, List.mem_cons, List.not_mem_nil, or_false] at h
    rcases h with rfl | rfl <;> omega
  | num _ => cases h
  | name _ => cases h
  | ask => cases h
theorem Sm.subs_size {s t : Sm} (h : t ∈ s.subs) : t.size + 1 ≤ s.size := by
  cases s with
  | say s => simp only [Sm.subs, List.mem_singleton] at h; subst h; exact Nat.le_refl _
  | bin o a b =>
    have e : (Sm.bin o a b).size = a.size + b.size + 1 := rfl
    simp only [Sm.subs, List.mem_cons, List.not_mem_nil, or_false] at h
    rcases h with rfl | rfl <;> omega
  | num _ => cases h
  | name _ => cases h
  | ask => cases h
/-- a list of sums -/
def AllSum (H : Hp) : List V → List Sm → Prop
  | [], [] => True
  | v :: vs, s :: ss => IsSum H v s ∧ AllSum H vs ss
  | _, _ => False
theorem AllSum.mono {W : List Addr} {H H' : Hp} (f : Fr W H H') : ∀ {vs : List V} {ss : List Sm}, AllSum H vs ss → AllSum H' vs ss
  | [], [], _ => trivial
  | _ :: _, _ :: _, h => ⟨h.1.mono f, AllSum.mono f h.2⟩
theorem fr_as {W : List Addr} {H H1 : Hp} {vs : List V} {ss : List Sm} (f : Fr W H H1) (h : AllSum H vs ss) : AllSum H1 vs ss := AllSum.mono f h
theorem AllSum.length {H : Hp} : ∀ {vs : List V} {ss : List Sm}, AllSum H vs ss → vs.length = ss.length
  | [], [], _ => rfl
  | _ :: _, _ :: _, h => congrArg (· + 1) (AllSum.length h.2)
theorem AllSum.app {H : Hp} : ∀ {vs ws : List V} {ss ts : List Sm}, AllSum H vs ss → AllSum H ws ts → AllSum H (vs ++ ws) (ss ++ ts)
  | [], _, [], _, _, h => h
  | _ :: _, _, _ :: _, _, h, h' => ⟨h.1, AllSum.app h.2 h'⟩
theorem AllSum.at {H : Hp} : ∀ {vs : List V} {ss : List Sm} {i : Nat} {v : V}, AllSum H vs ss → vs[i]? = some v → ∃ s, ss[i]? = some s ∧ IsSum H v s
  | _ :: _, s :: _, 0, _, h, e => by
    cases e
    exact ⟨s, rfl, h.1⟩
  | _ :: _, _ :: _, i + 1, _, h, e => AllSum.at (i := i) h.2 e
/-- what stands straight within, by the tuple -/
theorem IsSum.tup {H : Hp} {v : V} {s : Sm} (h : IsSum H v s) : ∃ p xs, v = .ref p ∧ H p = some (.tup xs) := by
  cases s with
  | num n => obtain ⟨p, e, q⟩ := h; exact ⟨p, _, e, q⟩
  | name n => obtain ⟨p, e, q⟩ := h; exact ⟨p, _, e, q⟩
  | ask => obtain ⟨p, e, q⟩ := h; exact ⟨p, _, e, q⟩
  | say s => obtain ⟨p, x, e, q, _⟩ := h; exact ⟨p, _, e, q⟩
  | bin o a b => obtain ⟨p, x, y, e, q, _⟩ := h; exact ⟨p, _, e, q⟩
def spQuiet (n : Nat) : Sp := fun vs H Q _ => ∃ (v : V) (s : Sm), vs = [v] ∧ IsSum H v s ∧ s.depth ≤ n ∧ ∀ (v' : V) (H' : Hp), IsSum H' v' s.quiet → Fr [] H H' → Q v' H'
theorem u_quiet {n : Nat} {H : Hp} {Q : VK} {E : XK} {v : V} {s : Sm} (h : IsSum H v s) (hd : s.depth ≤ n) (k : ∀ (v' : V) (H' : Hp), IsSum H' v' s.quiet → Fr [] H H' → Q v' H') : spQuiet n [v] H Q E := ⟨v, s, rfl, h, hd, k⟩
def spParts : Sp := fun vs H Q _ => ∃ (v : V) (s : Sm), vs = [v] ∧ IsSum H v s ∧ ∀ (p : Addr) (us : List V) (H' : Hp), H p = none → H' p = some (.lst us) → AllSum H' us s.subs → Fr [] H H' → Q (.ref p) H'
theorem u_parts {H : Hp} {Q : VK} {E : XK} {v : V} {s : Sm} (h : IsSum H v s) (k : ∀ (p : Addr) (us : List V) (H' : Hp), H p = none → H' p = some (.lst us) → AllSum H' us s.subs → Fr [] H H' → Q (.ref p) H') : spParts [v] H Q E := ⟨v, s, rfl, h, k⟩
def spAll (n : Nat) : Sp := fun vs H Q _ => ∃ (v : V) (s : Sm), vs = [v] ∧ IsSum H v s ∧ s.depth ≤ n ∧ s.size ≤ 10000 ∧ ∀ (p : Addr) (us : List V) (H' : Hp), H p = none → H' p = some (.lst us) → AllSum H' us s.all → Fr [] H H' → Q (.ref p) H'
theorem u_all {n : Nat} {H : Hp} {Q : VK} {E : XK} {v : V} {s : Sm} (h : IsSum H v s) (hd : s.depth ≤ n) (hz : s.size ≤ 10000) (k : ∀ (p : Addr) (us : List V) (H' : Hp), H p = none → H' p = some (.lst us) → AllSum H' us s.all → Fr [] H H' → Q (.ref p) H') : spAll n [v] H Q E := ⟨v, s, rfl, h, hd, hz, k⟩
theorem subs_all_len (s : Sm) (i : Nat) : ((s.subs.take i).flatMap Sm.all).length + 1 ≤ s.size := by
  cases s with
  | say s =>
    have h := Sm.all_length s
    match i with
    | 0 => simp [Sm.subs, Sm.size]
    | i + 1 => simp [Sm.subs, Sm.size, h]
  | bin o a b =>
    have h := Sm.all_length a
    have h' := Sm.all_length b
    match i with
    | 0 => simp [Sm.subs, Sm.size]
    | 1 => simp [Sm.subs, Sm.size, h]
    | i + 2 => simp [Sm.subs, Sm.size, h, h']
  | num _ => simp [Sm.subs, Sm.size]
  | name _ => simp [Sm.subs, Sm.size]
  | ask => simp [Sm.subs, Sm.size]
/-! ### names and given numbers -/
def nkv (f : Str → Int) (l : List Str) : List (Key × V) := l.map fun c => (Sum.inr c, V.int (f c))
theorem valV_nkv (f : Str → Int) (c : Str) : ∀ l : List Str, valV (nkv f l) (Sum.inr c) = if c ∈ l then some (V.int (f c)) else none
  | [] => by simp [nkv, valV_nil]
  | a :: r => by
    show valV ((Sum.inr a, V.int (f a)) :: nkv f r) (Sum.inr c) = _
    by_cases e : a = c
    · subst e
      rw [valV_pos rfl, if_pos (List.mem_cons_self)]
    · rw [valV_neg (fun q => e (Sum.inr.inj q)), valV_nkv f c r]
      have h : (c ∈ a :: r) ↔ c ∈ r := by
        rw [List.mem_cons]
        exact ⟨fun h => h.resolve_left fun q => e q.symm, Or.inr⟩
      by_cases m : c ∈ r
      · rw [if_pos m, if_pos (h.mpr m)]
      · rw [if_neg m, if_neg fun q => m (h.mp q)]
theorem nkv_put {f : Str → Int} {l : List Str} {c : Str} {v : Int} (h : c ∉ l) : putK (nkv f l) (Sum.inr c) (.int v) = nkv (fun x => if x = c then v else f x) (l ++ [c]) := by
  rw [putK_new _ (by rw [valV_nkv, if_neg h])]
  unfold nkv
  rw [List.map_append]
  have e : l.map (fun c => ((Sum.inr c : Key), V.int (f c))) = l.map (fun x => ((Sum.inr x : Key), V.int (if x = c then v else f x))) := by
    refine List.map_congr_left fun x hx => ?_
    rw [if_neg (fun q : x = c => h (by rw [← q]; exact hx))]
  rw [e]
  simp
theorem letters_nodup : letters.Nodup := by decide +kernel
theorem sign_at {i : Nat} {c : Nat} (h : ("abcdef" : Str).cps[i]? = some c) : letters[i]? = some ⟨#[c]⟩ := by
  have e : ("abcdef" : Str).cps = #[97, 98, 99, 100, 101, 102] := by decide +kernel
  rw [e] at h
  match i, h with
  | 0, h => obtain rfl : 97 = c := Option.some.inj h; decide +kernel
  | 1, h => obtain rfl : 98 = c := Option.some.inj h; decide +kernel
  | 2, h => obtain rfl : 99 = c := Option.some.inj h; decide +kernel
  | 3, h => obtain rfl : 100 = c := Option.some.inj h; decide +kernel
  | 4, h => obtain rfl : 101 = c := Option.some.inj h; decide +kernel
  | 5, h => obtain rfl : 102 = c := Option.some.inj h; decide +kernel
  | n + 6, h => simp at h
theorem sign_size : ("abcdef" : Str).cps.size = 6 := by decide +kernel
theorem letter_new {i : Nat} {c : Str} (h : letters[i]? = some c) : c ∉ letters.take i := by
  intro m
  obtain ⟨j, hj⟩ := List.getElem?_of_mem m
  rw [List.getElem?_take] at hj
  split at hj
  · have := nd_ix letters_nodup h hj
    omega
  · cases hj
def NamesAt (H : Hp) (p : Addr) (f : Str → Int) : Prop := H p = some (.dK (nkv f letters)) ∧ ∀ c, 0 ≤ f c ∧ f c < 1000
def GivenAt (H : Hp) (p : Addr) (gs : List Int) : Prop := H p = some (.lst (gs.map V.int)) ∧ 60 ≤ gs.length ∧ gs.length ≤ 62 ∧ ∀ g ∈ gs, 0 ≤ g ∧ g < 1000
def spNames (K : PySem.W.Frag) : Sp := fun vs H Q _ => ∃ (Ws : List Addr) (st : Addr), vs = [.ref st] ∧ StAt K Ws H st ∧ ∀ (p : Addr) (f : Str → Int) (H' : Hp), H p = none → NamesAt H' p f → StAt K Ws H' st → Fr [st] H H' → Q (.ref p) H'
theorem u_names {K : PySem.W.Frag} {Ws : List Addr} {H : Hp} {Q : VK} {E : XK} {st : Addr} (h : StAt K Ws H st) (k : ∀ (p : Addr) (f : Str → Int) (H' : Hp), H p = none → NamesAt H' p f → StAt K Ws H' st → Fr [st] H H' → Q (.ref p) H') : spNames K [.ref st] H Q E := ⟨Ws, st, rfl, h, k⟩
def spGiven (K : PySem.W.Frag) : Sp := fun vs H Q _ => ∃ (Ws : List Addr) (st : Addr), vs = [.ref st] ∧ StAt K Ws H st ∧ ∀ (p : Addr) (gs : List Int) (H' : Hp), H p = none → GivenAt H' p gs → StAt K Ws H' st → Fr [st] H H' → Q (.ref p) H'
theorem u_given {K : PySem.W.Frag} {Ws : List Addr} {H : Hp} {Q : VK} {E : XK} {st : Addr} (h : StAt K Ws H st) (k : ∀ (p : Addr) (gs : List Int) (H' : Hp), H p = none → GivenAt H' p gs → StAt K Ws H' st → Fr [st] H H' → Q (.ref p) H') : spGiven K [.ref st] H Q E := ⟨Ws, st, rfl, h, k⟩
def spAny (K : PySem.W.Frag) : Sp := fun vs H Q _ => ∃ (Ws : List Addr) (st : Addr), vs = [.ref st] ∧ StAt K Ws H st ∧ ∀ (v : V) (s : Sm) (H' : Hp), IsSum H' v s → s.ok → s.depth ≤ 15 → s.size ≤ 60 → StAt K Ws H' st → Fr [st] H H' → Q v H'
theorem u_any {K : PySem.W.Frag} {Ws : List Addr} {H : Hp} {Q : VK} {E : XK} {st : Addr} (h : StAt K Ws H st) (k : ∀ (v : V) (s : Sm) (H' : Hp), IsSum H' v s → s.ok → s.depth ≤ 15 → s.size ≤ 60 → StAt K Ws H' st → Fr [st] H H' → Q v H') : spAny K [.ref st] H Q E := ⟨Ws, st, rfl, h, k⟩
end My
namespace My
open PySem L2 Wk
/-! ### what a sum comes to -/
def Op.app : Op → Int → Int → Int
  | .add, x, y => (x + y) % 1000
  | .less, x, y => (x - y) % 1000
  | .times, x, y => x * y % 1000
theorem Op.app_range (o : Op) (x y : Int) : 0 ≤ o.app x y ∧ o.app x y < 1000 := by
  cases o <;> exact ⟨Int.emod_nonneg _ (by decide), Int.emod_lt_of_pos _ (by decide)⟩
/-- its number, what is said and how many are asked for behind it -/
def Sm.ev (f : Str → Int) (gs : List Int) : Sm → List Int → Nat → Int × List Int × Nat
  | .num n, sd, k => (n, sd, k)
  | .name c, sd, k => (f c, sd, k)
  | .ask, sd, k => (gs.getD k 0, sd, k + 1)
  | .say s, sd, k => ((s.ev f gs sd k).1, (s.ev f gs sd k).2.1 ++ [(s.ev f gs sd k).1], (s.ev f gs sd k).2.2)
  | .bin o a b, sd, k => (o.app (a.ev f gs sd k).1 (b.ev f gs (a.ev f gs sd k).2.1 (a.ev f gs sd k).2.2).1, (b.ev f gs (a.ev f gs sd k).2.1 (a.ev f gs sd k).2.2).2)
/-- the same of sums in turn -/
def evs (f : Str → Int) (gs : List Int) : List Sm → List Int → Nat → List Int × List Int × Nat
  | [], sd, k => ([], sd, k)
  | s :: r, sd, k => ((s.ev f gs sd k).1 :: (evs f gs r (s.ev f gs sd k).2.1 (s.ev f gs sd k).2.2).1, (evs f gs r (s.ev f gs sd k).2.1 (s.ev f gs sd k).2.2).2)
theorem evs_snoc (f : Str → Int) (gs : List Int) (t : Sm) : ∀ (l : List Sm) (sd : List Int) (k : Nat), evs f gs (l ++ [t]) sd k =
    ((evs f gs l sd k).1 ++ [(t.ev f gs (evs f gs l sd k).2.1 (evs f gs l sd k).2.2).1], (t.ev f gs (evs f gs l sd k).2.1 (evs f gs l sd k).2.2).2)
  | [], sd, k => rfl
  | s :: r, sd, k => by
    show ((s.ev f gs sd k).1 :: (evs f gs (r ++ [t]) _ _).1, (evs f gs (r ++ [t]) _ _).2) = _
    rw [evs_snoc f gs t r]
    rfl
theorem evs_length (f : Str → Int) (gs : List Int) : ∀ (l : List Sm) (sd : List Int) (k : Nat), (evs f gs l sd k).1.length = l.length
  | [], _, _ => rfl
  | _ :: r, _, _ => congrArg (· + 1) (evs_length f gs r _ _)
def Sm.asks : Sm → Nat
  | .ask => 1
  | .say s => s.asks
  | .bin _ a b => a.asks + b.asks
  | _ => 0
def asksL : List Sm → Nat
  | [] => 0
  | s :: r => s.asks + asksL r
theorem asksL_app : ∀ l m : List Sm, asksL (l ++ m) = asksL l + asksL m
  | [], m => (Nat.zero_add _).symm
  | s :: r, m => by
    show s.asks + asksL (r ++ m) = s.asks + asksL r + asksL m
    rw [asksL_app r m, Nat.add_assoc]
theorem Sm.ev_asked (f : Str → Int) (gs : List Int) : ∀ (s : Sm) (sd : List Int) (k : Nat), (s.ev f gs sd k).2.2 = k + s.asks
  | .num _, _, _ => rfl
  | .name _, _, _ => rfl
  | .ask, _, _ => rfl
  | .say s, sd, k => Sm.ev_asked f gs s sd k
  | .bin o a b, sd, k => by
    show (b.ev f gs _ _).2.2 = k + (a.asks + b.asks)
    rw [Sm.ev_asked f gs b, Sm.ev_asked f gs a, Nat.add_assoc]
theorem evs_asked (f : Str → Int) (gs : List Int) : ∀ (l : List Sm) (sd : List Int) (k : Nat), (evs f gs l sd k).2.2 = k + asksL l
  | [], _, _ => rfl
  | s :: r, sd, k => by
    show (evs f gs r _ _).2.2 = k + (s.asks + asksL r)
    rw [evs_asked f gs r, Sm.ev_asked f gs s, Nat.add_assoc]
theorem Sm.ev_said (f : Str → Int) (gs : List Int) : ∀ (s : Sm) (sd : List Int) (k : Nat), (s.ev f gs sd k).2.1.length ≤ sd.length + s.size
  | .num _, _, _ => Nat.le_add_right _ _
  | .name _, _, _ => Nat.le_add_right _ _
  | .ask, _, _ => Nat.le_add_right _ _
  | .say s, sd, k => by
    have h := Sm.ev_said f gs s sd k
    show ((s.ev f gs sd k).2.1 ++ [_]).length ≤ sd.length + (s.size + 1)
    rw [List.length_append, List.length_singleton]
    omega
  | .bin o a b, sd, k => by
    have h := Sm.ev_said f gs a sd k
    have h' := Sm.ev_said f gs b (a.ev f gs sd k).2.1 (a.ev f gs sd k).2.2
    show (b.ev f gs (a.ev f gs sd k).2.1 (a.ev f gs sd k).2.2).2.1.length ≤ sd.length + (a.size + b.size + 1)
    omega
def sizeL : List Sm → Nat
  | [] => 0
  | s :: r => s.size + sizeL r
theorem sizeL_app : ∀ l m : List Sm, sizeL (l ++ m) = sizeL l + sizeL m
  | [], m => (Nat.zero_add _).symm
  | s :: r, m => by
    show s.size + sizeL (r ++ m) = s.size + sizeL r + sizeL m
    rw [sizeL_app r m, Nat.add_assoc]
theorem evs_said (f : Str → Int) (gs : List Int) : ∀ (l : List Sm) (sd : List Int) (k : Nat), (evs f gs l sd k).2.1.length ≤ sd.length + sizeL l
  | [], _, _ => Nat.le_add_right _ _
  | s :: r, sd, k => by
    have h := Sm.ev_said f gs s sd k
    have h' := evs_said f gs r (s.ev f gs sd k).2.1 (s.ev f gs sd k).2.2
    show (evs f gs r (s.ev f gs sd k).2.1 (s.ev f gs sd k).2.2).2.1.length ≤ sd.length + (s.size + sizeL r)
    omega
def Good (f : Str → Int) (gs : List Int) : Prop := (∀ c, 0 ≤ f c ∧ f c < 1000) ∧ ∀ g ∈ gs, 0 ≤ g ∧ g < 1000
theorem getD_range {gs : List Int} (h : ∀ g ∈ gs, 0 ≤ g ∧ g < 1000) (k : Nat) : 0 ≤ gs.getD k 0 ∧ gs.getD k 0 < 1000 := by
  rcases Nat.lt_or_ge k gs.length with hk | hk
  · rw [List.getD_eq_getElem?_getD, List.getElem?_eq_getElem hk]
    exact h _ (List.getElem_mem hk)
  · rw [List.getD_eq_getElem?_getD, List.getElem?_eq_none hk]
    exact ⟨Int.le_refl 0, by decide⟩
theorem Sm.ev_range {f : Str → Int} {gs : List Int} (g : Good f gs) : ∀ {s : Sm}, s.ok → ∀ (sd : List Int) (k : Nat), 0 ≤ (s.ev f gs sd k).1 ∧ (s.ev f gs sd k).1 < 1000
  | .num _, h, _, _ => h
  | .name c, _, _, _ => g.1 c
  | .ask, _, _, k => getD_range g.2 k
  | .say s, h, sd, k => Sm.ev_range g (s := s) h sd k
  | .bin o a b, _, _, _ => o.app_range _ _
theorem subs_asks (s : Sm) (h : s ≠ .ask) : asksL s.subs = s.asks := by
  cases s <;> first | rfl | exact absurd rfl h | skip
theorem subs_asks_le (s : Sm) (i : Nat) : asksL (s.subs.take i) ≤ s.asks := by
  cases s with
  | say s =>
    match i with
    | 0 => exact Nat.zero_le _
    | i + 1 => simp [Sm.subs, asksL, Sm.asks]
  | bin o a b =>
    match i with
    | 0 => exact Nat.zero_le _
    | 1 => simp [Sm.subs, asksL, Sm.asks]
    | i + 2 => simp [Sm.subs, asksL, Sm.asks]
  | num _ => simp [Sm.subs, asksL]
  | name _ => simp [Sm.subs, asksL]
  | ask => simp [Sm.subs, asksL]
theorem subs_size_le (s : Sm) (i : Nat) : sizeL (s.subs.take i) + 1 ≤ s.size := by
  cases s with
  | say s =>
    match i with
    | 0 => simp [sizeL, Sm.size]
    | i + 1 => simp [Sm.subs, sizeL, Sm.size]
  | bin o a b =>
    match i with
    | 0 => simp [sizeL, Sm.size]
    | 1 => simp [Sm.subs, sizeL, Sm.size]
    | i + 2 => simp [Sm.subs, sizeL, Sm.size]
  | num _ => simp [Sm.subs, sizeL, Sm.size]
  | name _ => simp [Sm.subs, sizeL, Sm.size]
  | ask => simp [Sm.subs, sizeL, Sm.size]
theorem subs_ok {s t : Sm} (h : s.ok) (m : t ∈ s.subs) : t.ok := by
  cases s with
  | say s => simp only [Sm.subs, List.mem_singleton] at m; subst m; exact h
  | bin o a b =>
    simp only [Sm.subs, List.mem_cons, List.not_mem_nil, or_false] at m
    rcases m with rfl | rfl
    · exact h.1
    · exact h.2
  | num _ => cases m
  | name _ => cases m
  | ask => cases m
theorem evs_range {f : Str → Int} {gs : List Int} (g : Good f gs) : ∀ (l : List Sm), (∀ t ∈ l, t.ok) → ∀ (sd : List Int) (k : Nat), ∀ x ∈ (evs f gs l sd k).1, 0 ≤ x ∧ x < 1000
  | [], _, _, _, x, hx => by cases hx
  | s :: r, h, sd, k, x, hx => by
    rcases List.mem_cons.mp hx with e | m
    · rw [e]
      exact Sm.ev_range g (h s List.mem_cons_self) sd k
    · exact evs_range g r (fun t ht => h t (List.mem_cons_of_mem _ ht)) _ _ x m
theorem subs_len2 (s : Sm) : s.subs.length ≤ 2 := by cases s <;> simp [Sm.subs]
/-! ### the law's own reckoning -/
structure ToldAt (H : Hp) (td gv : Addr) (gs : List Int) (sl : Addr) (sd : List Int) (k : Nat) : Prop where
  pair : H td = some (.lst [.ref sl, .int k])
  said : H sl = some (.lst (sd.map V.int))
  gvn : H gv = some (.lst (gs.map V.int))
  n1 : gv ≠ sl
  n2 : td ≠ sl
  n3 : gv ≠ td
theorem fr_td {H H' : Hp} {W : List Addr} {td gv sl : Addr} {gs sd : List Int} {k : Nat} (f : Fr W H H') (n1 : td ∉ W) (n2 : sl ∉ W) (n3 : gv ∉ W) (h : ToldAt H td gv gs sl sd k) : ToldAt H' td gv gs sl sd k :=
  ⟨f.get h.pair n1, f.get h.said n2, f.get h.gvn n3, h.n1, h.n2, h.n3⟩
theorem fr_td0 {H H' : Hp} {td gv sl : Addr} {gs sd : List Int} {k : Nat} (f : Fr [] H H') (h : ToldAt H td gv gs sl sd k) : ToldAt H' td gv gs sl sd k := fr_td f (by simp) (by simp) (by simp) h
def NamesV (H : Hp) (nd : Addr) (f : Str → Int) : Prop := ∃ kvs, H nd = some (.dK kvs) ∧ ∀ c ∈ letters, valV kvs (Sum.inr c) = some (.int (f c))
theorem NamesV.fr {W : List Addr} {H H' : Hp} {nd : Addr} {f : Str → Int} (h : NamesV H nd f) (a : Fr W H H') (n : nd ∉ W) : NamesV H' nd f := by
  obtain ⟨kvs, h1, h2⟩ := h
  exact ⟨kvs, a.get h1 n, h2⟩
theorem NamesAt.v {H : Hp} {p : Addr} {f : Str → Int} (h : NamesAt H p f) : NamesV H p f := ⟨_, h.1, fun c hc => by rw [valV_nkv, if_pos hc]⟩
theorem fr_nv {W : List Addr} {H H' : Hp} {nd : Addr} {f : Str → Int} (a : Fr W H H') (n : nd ∉ W) (h : NamesV H nd f) : NamesV H' nd f := h.fr a n
theorem ni3 {a b c d : Addr} (h : a ≠ b) (h' : a ≠ c) (h'' : a ≠ d) : a ∉ [b, c, d] := by simp [h, h', h'']
def spLWorth (n : Nat) : Sp := fun vs H Q _ => ∃ (v : V) (s : Sm) (nd td gv sl : Addr) (gs sd : List Int) (f : Str → Int) (k : Nat), vs = [v, .ref nd, .ref gv, .ref td] ∧ IsSum H v s ∧ s.ok ∧ s.depth ≤ n ∧ Good f gs ∧
  NamesV H nd f ∧ ToldAt H td gv gs sl sd k ∧ k + s.asks ≤ gs.length ∧ sd.length + s.size ≤ 1000 ∧
  ∀ H' : Hp, ToldAt H' td gv gs sl (s.ev f gs sd k).2.1 (s.ev f gs sd k).2.2 → Fr [td, sl] H H' → Q (.int (s.ev f gs sd k).1) H'
theorem u_lworth {n : Nat} {H : Hp} {Q : VK} {E : XK} {v : V} {s : Sm} {nd td gv sl : Addr} {gs sd : List Int} {f : Str → Int} {k : Nat} (h1 : IsSum H v s) (h2 : s.ok) (h3 : s.depth ≤ n) (h4 : Good f gs)
    (h6 : NamesV H nd f) (h7 : ToldAt H td gv gs sl sd k) (h8 : k + s.asks ≤ gs.length) (h9 : sd.length + s.size ≤ 1000) (q : ∀ H' : Hp, ToldAt H' td gv gs sl (s.ev f gs sd k).2.1 (s.ev f gs sd k).2.2 → Fr [td, sl] H H' → Q (.int (s.ev f gs sd k).1) H') : spLWorth n [v, .ref nd, .ref gv, .ref td] H Q E :=
  ⟨v, s, nd, td, gv, sl, gs, sd, f, k, rfl, h1, h2, h3, h4, h6, h7, h8, h9, q⟩
/-- what is told: a tuple of the number, the new list of what is said, how many were asked for -/
def spTold : Sp := fun vs H Q _ => ∃ (v : V) (s : Sm) (nd gv : Addr) (gs : List Int) (f : Str → Int), vs = [v, .ref nd, .ref gv] ∧ IsSum H v s ∧ s.ok ∧ s.depth ≤ 15 ∧ s.size ≤ 60 ∧ Good f gs ∧ NamesV H nd f ∧ H gv = some (.lst (gs.map V.int)) ∧ s.asks ≤ gs.length ∧
  ∀ (t sl : Addr) (H' : Hp), H t = none → H sl = none → H' t = some (.tup [.int (s.ev f gs [] 0).1, .ref sl, .int (s.ev f gs [] 0).2.2]) → H' sl = some (.lst ((s.ev f gs [] 0).2.1.map V.int)) → Fr [] H H' → Q (.ref t) H'
theorem u_told {H : Hp} {Q : VK} {E : XK} {v : V} {s : Sm} {nd gv : Addr} {gs : List Int} {f : Str → Int} (h1 : IsSum H v s) (h2 : s.ok) (h3 : s.depth ≤ 15) (h4 : s.size ≤ 60) (h5 : Good f gs) (h6 : NamesV H nd f) (h7 : H gv = some (.lst (gs.map V.int))) (h8 : s.asks ≤ gs.length)
    (q : ∀ (t sl : Addr) (H' : Hp), H t = none → H sl = none → H' t = some (.tup [.int (s.ev f gs [] 0).1, .ref sl, .int (s.ev f gs [] 0).2.2]) → H' sl = some (.lst ((s.ev f gs [] 0).2.1.map V.int)) → Fr [] H H' → Q (.ref t) H') : spTold [v, .ref nd, .ref gv] H Q E := ⟨v, s, nd, gv, gs, f, rfl, h1, h2, h3, h4, h5, h6, h7, h8, q⟩
theorem Sm.asks_le : ∀ s : Sm, s.asks ≤ s.size
  | .num _ => Nat.zero_le _
  | .name _ => Nat.zero_le _
  | .ask => Nat.le_refl _
  | .say s => Nat.le_succ_of_le (Sm.asks_le s)
  | .bin _ a b => Nat.le_succ_of_le (Nat.add_le_add (Sm.asks_le a) (Sm.asks_le b))
def Sm.isAsk : Sm → Bool
  | .ask => true
  | _ => false
theorem Sm.asks_all : ∀ s : Sm, (s.all.filter Sm.isAsk).length = s.asks
  | .num _ => rfl
  | .name _ => rfl
  | .ask => rfl
  | .say s => Sm.asks_all s
  | .bin o a b => by
    show ((a.all ++ b.all).filter Sm.isAsk).length = a.asks + b.asks
    rw [List.filter_append, List.length_append, Sm.asks_all a, Sm.asks_all b]
def Sm.word : Sm → Str
  | .num _ => "num"
  | .name _ => "name"
  | .ask => "ask"
  | .say _ => "say"
  | .bin o _ _ => o.word
def Sm.letter : Sm → Str
  | .name c => c
  | _ => "a"
theorem ask_word : ∀ s : Sm, decide (s.word = "ask") = s.isAsk
  | .num _ => by show decide (("num" : Str) = "ask") = false; decide +kernel
  | .name _ => by show decide (("name" : Str) = "ask") = false; decide +kernel
  | .ask => by show decide (("ask" : Str) = "ask") = true; decide +kernel
  | .say _ => by show decide (("say" : Str) = "ask") = false; decide +kernel
  | .bin .add _ _ => by show decide (("add" : Str) = "ask") = false; decide +kernel
  | .bin .less _ _ => by show decide (("less" : Str) = "ask") = false; decide +kernel
  | .bin .times _ _ => by show decide (("times" : Str) = "ask") = false; decide +kernel
theorem name_word : ∀ s : Sm, s.word = "name" → s = .name s.letter
  | .num _, h => absurd h (show ¬ ("num" : Str) = "name" by decide +kernel)
  | .name _, _ => rfl
  | .ask, h => absurd h (show ¬ ("ask" : Str) = "name" by decide +kernel)
  | .say _, h => absurd h (show ¬ ("say" : Str) = "name" by decide +kernel)
  | .bin .add _ _, h => absurd h (show ¬ ("add" : Str) = "name" by decide +kernel)
  | .bin .less _ _, h => absurd h (show ¬ ("less" : Str) = "name" by decide +kernel)
  | .bin .times _ _, h => absurd h (show ¬ ("times" : Str) = "name" by decide +kernel)
/-- a tuple that begins with a word; behind the word name stands a letter -/
def PartAt (H : Hp) (v : V) (w c : Str) : Prop := ∃ p xs, v = .ref p ∧ H p = some (.tup xs) ∧ xs[0]? = some (.str w) ∧ (w = "name" → xs[1]? = some (.str c))
def Parts (H : Hp) : List V → List (Str × Str) → Prop
  | [], [] => True
  | v :: vs, p :: ps => PartAt H v p.1 p.2 ∧ Parts H vs ps
  | _, _ => False
theorem fr_pt {W : List Addr} {H H' : Hp} (f : Fr W H H') : ∀ {vs : List V} {ps : List (Str × Str)}, Parts H vs ps → Parts H' vs ps
  | [], [], _ => trivial
  | _ :: _, _ :: _, ⟨⟨p, xs, e, h, r⟩, t⟩ => ⟨⟨p, xs, e, f.gett h, r⟩, fr_pt f t⟩
theorem Parts.at {H : Hp} : ∀ {vs : List V} {ps : List (Str × Str)} {i : Nat} {v : V}, Parts H vs ps → vs[i]? = some v → ∃ p, ps[i]? = some p ∧ PartAt H v p.1 p.2
  | _ :: _, p :: _, 0, _, h, e => by
    cases e
    exact ⟨p, rfl, h.1⟩
  | _ :: _, _ :: _, i + 1, _, h, e => Parts.at (i := i) h.2 e
theorem Parts.length {H : Hp} : ∀ {vs : List V} {ps : List (Str × Str)}, Parts H vs ps → vs.length = ps.length
  | [], [], _ => rfl
  | _ :: _, _ :: _, h => congrArg (· + 1) (Parts.length h.2)
theorem IsSum.part {H : Hp} {v : V} {s : Sm} (h : IsSum H v s) : PartAt H v s.word s.letter := by
  cases s with
  | num n => obtain ⟨p, e, q⟩ := h; exact ⟨p, _, e, q, rfl, fun z => absurd z (show ¬ ("num" : Str) = "name" by decide +kernel)⟩
  | name n => obtain ⟨p, e, q⟩ := h; exact ⟨p, _, e, q, rfl, fun _ => rfl⟩
  | ask => obtain ⟨p, e, q⟩ := h; exact ⟨p, _, e, q, rfl, fun z => absurd z (show ¬ ("ask" : Str) = "name" by decide +kernel)⟩
  | say s => obtain ⟨p, x, e, q, _⟩ := h; exact ⟨p, _, e, q, rfl, fun z => absurd z (show ¬ ("say" : Str) = "name" by decide +kernel)⟩
  | bin o a b =>
    obtain ⟨p, x, y, e, q, _⟩ := h
    exact ⟨p, _, e, q, rfl, fun z => by cases name_word (.bin o a b) z⟩
theorem AllSum.parts {H : Hp} : ∀ {vs : List V} {ss : List Sm}, AllSum H vs ss → Parts H vs (ss.map fun s => (s.word, s.letter))
  | [], [], _ => trivial
  | _ :: _, _ :: _, h => ⟨h.1.part, AllSum.parts h.2⟩
def asksOf (ps : List (Str × Str)) : Nat := (ps.filter fun p => decide (p.1 = ("ask" : Str))).length
theorem asksOf_sums (ss : List Sm) : asksOf (ss.map fun s => (s.word, s.letter)) = (ss.filter Sm.isAsk).length := by
  unfold asksOf
  rw [List.filter_map, List.length_map]
  congr 1
  refine List.filter_congr fun s _ => ?_
  exact ask_word s
def spRefuse (CN CM : Addr) : Sp := fun vs H Q E => ∃ (pl nd gv : Addr) (us gs : List V) (ps : List (Str × Str)) (kvs : List (Key × V)), vs = [.ref pl, .ref nd, .ref gv] ∧ H pl = some (.lst us) ∧ Parts H us ps ∧ us.length ≤ 1000 ∧ H nd = some (.dK kvs) ∧ H gv = some (.lst gs) ∧ gs.length ≤ 1000 ∧
  (∀ p ∈ ps, p.2.length ≤ 1000) ∧
  (((∃ p ∈ ps, p.1 = "name" ∧ valV kvs (Sum.inr p.2) = none) ∧ ∀ H', Fr [] H H' → E (.ref CN) none H') ∨
   ((∀ p ∈ ps, p.1 = "name" → (valV kvs (Sum.inr p.2)).isSome = true) ∧ gs.length < asksOf ps ∧ ∀ H', Fr [] H H' → E (.ref CM) none H') ∨
   ((∀ p ∈ ps, p.1 = "name" → (valV kvs (Sum.inr p.2)).isSome = true) ∧ asksOf ps ≤ gs.length ∧ ∀ H', Fr [] H H' → Q .non H'))
def spWorthP (CN CM : Addr) : Sp := fun vs H Q E => ∃ (v : V) (s : Sm) (nd gv : Addr) (kvs : List (Key × V)) (gs : List Int), vs = [v, .ref nd, .ref gv] ∧ IsSum H v s ∧ s.ok ∧ s.depth ≤ 15 ∧ s.size ≤ 60 ∧ H nd = some (.dK kvs) ∧ H gv = some (.lst (gs.map V.int)) ∧ gs.length ≤ 1000 ∧
  (((∃ c, Sm.name c ∈ s.all ∧ valV kvs (Sum.inr c) = none) ∧ ∀ H', Fr [] H H' → E (.ref CN) none H') ∨
   ((∀ c, Sm.name c ∈ s.all → (valV kvs (Sum.inr c)).isSome = true) ∧ gs.length < s.asks ∧ ∀ H', Fr [] H H' → E (.ref CM) none H') ∨
   (∃ f : Str → Int, NamesV H nd f ∧ Good f gs ∧ s.asks ≤ gs.length ∧
    ∀ (t sl : Addr) (H' : Hp), H t = none → H sl = none → H' t = some (.tup [.int (s.ev f gs [] 0).1, .ref sl, .int (s.ev f gs [] 0).2.2]) → H' sl = some (.lst ((s.ev f gs [] 0).2.1.map V.int)) → Fr [] H H' → Q (.ref t) H'))
theorem all_ok : ∀ (u : Sm), u.ok → ∀ t ∈ u.all, t.ok
  | .num _, h, t, ht => by rw [List.mem_singleton.mp ht]; exact h
  | .name _, h, t, ht => by rw [List.mem_singleton.mp ht]; exact h
  | .ask, h, t, ht => by rw [List.mem_singleton.mp ht]; exact h
  | .say s, h, t, ht => by
    rcases List.mem_cons.mp ht with e | m
    · rw [e]; exact h
    · exact all_ok s h t m
  | .bin o a b, h, t, ht => by
    rcases List.mem_cons.mp ht with e | m
    · rw [e]; exact h
    · rcases List.mem_append.mp m with m | m
      · exact all_ok a h.1 t m
      · exact all_ok b h.2 t m
theorem letters_len : ∀ c ∈ letters, c.length ≤ 1 := by decide +kernel
theorem letter_in {s : Sm} (h : s.ok) : s.letter ∈ letters := by
  cases s with
  | name c => exact h
  | num _ => exact (show ("a" : Str) ∈ letters by decide +kernel)
  | ask => exact (show ("a" : Str) ∈ letters by decide +kernel)
  | say _ => exact (show ("a" : Str) ∈ letters by decide +kernel)
  | bin _ _ _ => exact (show ("a" : Str) ∈ letters by decide +kernel)
theorem name_ok {s : Sm} {c : Str} (h : s.ok) (m : Sm.name c ∈ s.all) : c ∈ letters := all_ok s h _ m
/-! ### the same, and of the same kinds -/
inductive Alike (H : Hp) : Nat → V → V → Prop where
  | int (n : Nat) (i : Int) : Alike H n (.int i) (.int i)
  | str (n : Nat) (z : Str) : Alike H n (.str z) (.str z)
  | bl (n : Nat) (z : Bool) : Alike H n (.bl z) (.bl z)
  | tup (n : Nat) (a b : Addr) (xs ys : List V) (ha : H a = some (.tup xs)) (hb : H b = some (.tup ys)) (hl : xs.length = ys.length) (hz : xs.length ≤ 1000) (h : ∀ (i : Nat) x y, xs[i]? = some x → ys[i]? = some y → Alike H n x y) : Alike H (n + 1) (.ref a) (.ref b)
  | lst (n : Nat) (a b : Addr) (xs ys : List V) (ha : H a = some (.lst xs)) (hb : H b = some (.lst ys)) (hl : xs.length = ys.length) (hz : xs.length ≤ 1000) (h : ∀ (i : Nat) x y, xs[i]? = some x → ys[i]? = some y → Alike H n x y) : Alike H (n + 1) (.ref a) (.ref b)
theorem Alike.mono {H H' : Hp} (f : Fr [] H H') {n : Nat} {x y : V} (h : Alike H n x y) : Alike H' n x y := by
  induction h with
  | int n i => exact .int n i
  | str n z => exact .str n z
  | bl n z => exact .bl n z
  | tup n a b xs ys ha hb hl hz h ih => exact .tup n a b xs ys (f.get0 ha) (f.get0 hb) hl hz ih
  | lst n a b xs ys ha hb hl hz h ih => exact .lst n a b xs ys (f.get0 ha) (f.get0 hb) hl hz ih
theorem fr_al {H H' : Hp} {n : Nat} {x y : V} (f : Fr [] H H') (h : Alike H n x y) : Alike H' n x y := h.mono f
theorem alike_ints {H : Hp} {a b : Addr} {ns : List Int} {n : Nat} (ha : H a = some (.lst (ns.map V.int))) (hb : H b = some (.lst (ns.map V.int))) (hz : ns.length ≤ 1000) : Alike H (n + 1) (.ref a) (.ref b) :=
  .lst n a b _ _ ha hb rfl (by rw [List.length_map]; exact hz) fun i x y hx hy => by
    rw [hx] at hy
    obtain rfl := Option.some.inj hy
    rw [List.getElem?_map] at hx
    cases e : ns[i]? with
    | none => rw [e] at hx; cases hx
    | some z => rw [e] at hx; obtain rfl := Option.some.inj hx; exact .int n z
def spSame (n : Nat) : Sp := fun vs H Q _ => ∃ (x y : V), vs = [x, y] ∧ Alike H n x y ∧ ∀ H', Fr [] H H' → Q (.bl true) H'
theorem u_same {n : Nat} {H : Hp} {Q : VK} {E : XK} {x y : V} (h : Alike H n x y) (k : ∀ H', Fr [] H H' → Q (.bl true) H') : spSame n [x, y] H Q E := ⟨x, y, rfl, h, k⟩
end My
namespace My
open PySem L2 Wk
/-! ### what the program's top has written -/
structure Ad where
  effects : Addr
  letters : Addr
  words : Addr
  stepError : Addr
  badSum : Addr
  badSteps : Addr
  noName : Addr
  noMore : Addr
  noSum : Addr
  badText : Addr
structure Txt (K : PySem.W.Frag) (mg : Str → Option Value) (a : Ad) : Prop where
  cl_Effects : Cls K a.effects
  n_given : NoAttr K a.effects "given"
  n_said : NoAttr K a.effects "said"
  n_asked : NoAttr K a.effects "asked"
  m_Effects : mg "Effects" = some (.ref a.effects)
  m_MODULUS : ∃ t, mg "MODULUS" = some (.int 1000 t)
  m_LARGEST : ∃ t, mg "LARGEST" = some (.int 999 t)
  m_MOST_SUMS : ∃ t, mg "MOST_SUMS" = some (.int 60 t)
  m_MOST_WITHIN : ∃ t, mg "MOST_WITHIN" = some (.int 15 t)
  m_LETTERS : mg "LETTERS" = some (.ref a.letters)
  q_LETTERS : ∀ H, SqT K H a.letters (letters.map V.str)
  m_WORDS_WITH_TWO_PARTS : mg "WORDS_WITH_TWO_PARTS" = some (.ref a.words)
  x_NoName : ExcX K mg "NoName" a.noName
  x_NoMore : ExcX K mg "NoMore" a.noMore
  q_WORDS : ∀ H, SqT K H a.words [.str "add", .str "less", .str "times"]
/-! ### Effects -/
def ef (gv sl : Addr) (k : Nat) : List (Str × V) := [("given", .ref gv), ("said", .ref sl), ("asked", .int k)]
theorem ef_given (gv sl : Addr) (k : Nat) : (ef gv sl k).lookup ("given" : Str) = some (V.ref gv) := by
  have e : (("given" : Str) == "given") = true := by decide +kernel
  simp [ef, List.lookup]
theorem ef_said (gv sl : Addr) (k : Nat) : (ef gv sl k).lookup ("said" : Str) = some (V.ref sl) := by
  have e : (("said" : Str) == "given") = false := by decide +kernel
  simp [ef, List.lookup, e]
theorem ef_asked (gv sl : Addr) (k : Nat) : (ef gv sl k).lookup ("asked" : Str) = some (V.int k) := by
  have e : (("asked" : Str) == "given") = false := by decide +kernel
  have e' : (("asked" : Str) == "said") = false := by decide +kernel
  simp [ef, List.lookup, e, e']
theorem ef_none {gv sl : Addr} {k : Nat} {m : Str} (h1 : (m == ("given" : Str)) = false) (h2 : (m == ("said" : Str)) = false) (h3 : (m == ("asked" : Str)) = false) : (ef gv sl k).lookup m = none := by
  simp [ef, List.lookup, h1, h2, h3]
theorem ga : ¬ (("given" : Str) = "asked") := by decide +kernel
theorem sa : ¬ (("said" : Str) = "asked") := by decide +kernel
theorem gs' : ¬ (("given" : Str) = "said") := by decide +kernel
theorem ef_put (gv sl : Addr) (k : Nat) : putF "asked" (.int ((k : Int) + 1)) (ef gv sl k) = ef gv sl (k + 1) := by
  show (if ("given" : Str) = "asked" then _ else (("given" : Str), V.ref gv) :: (if ("said" : Str) = "asked" then _ else (("said" : Str), V.ref sl) :: (if ("asked" : Str) = "asked" then [(("asked" : Str), V.int ((k : Int) + 1))] else _))) = _
  rw [if_neg ga, if_neg sa, if_pos rfl]
  rfl
theorem ef_put3 (gv sl : Addr) : putF "asked" (.int 0) (putF "said" (.ref sl) (putF "given" (.ref gv) [])) = ef gv sl 0 := by
  show putF "asked" (.int 0) (if ("given" : Str) = "said" then _ else (("given" : Str), V.ref gv) :: [(("said" : Str), V.ref sl)]) = _
  rw [if_neg gs']
  show (if ("given" : Str) = "asked" then _ else (("given" : Str), V.ref gv) :: (if ("said" : Str) = "asked" then _ else (("said" : Str), V.ref sl) :: [(("asked" : Str), V.int 0)])) = _
  rw [if_neg ga, if_neg sa]
  rfl
structure EffAt (C : Addr) (H : Hp) (e dx gv : Addr) (gs : List Int) (sl : Addr) (sd : List Int) (k : Nat) : Prop where
  ins : H e = some (.ins C dx (ef gv sl k))
  said : H sl = some (.lst (sd.map V.int))
  gvn : H gv = some (.lst (gs.map V.int))
  ne : gv ≠ sl
theorem fr_ef {C : Addr} {H H' : Hp} {W : List Addr} {e dx gv sl : Addr} {gs sd : List Int} {k : Nat} (f : Fr W H H') (n1 : e ∉ W) (n2 : sl ∉ W) (n3 : gv ∉ W) (h : EffAt C H e dx gv gs sl sd k) : EffAt C H' e dx gv gs sl sd k :=
  ⟨f.get h.ins n1, f.get h.said n2, f.get h.gvn n3, h.ne⟩
theorem fr_ef0 {C : Addr} {H H' : Hp} {e dx gv sl : Addr} {gs sd : List Int} {k : Nat} (f : Fr [] H H') (h : EffAt C H e dx gv gs sl sd k) : EffAt C H' e dx gv gs sl sd k := fr_ef f (by simp) (by simp) (by simp) h
def spInitE (C : Addr) : Sp := fun vs H Q _ => ∃ (e dx gv : Addr), vs = [.ref e, .ref gv] ∧ H e = some (.ins C dx []) ∧ ∀ (sl : Addr) (H' : Hp), H sl = none → H' e = some (.ins C dx (ef gv sl 0)) → H' sl = some (.lst []) → Fr [e] H H' → Q .non H'
def spSayE (C : Addr) : Sp := fun vs H Q _ => ∃ (e dx gv sl : Addr) (k : Nat) (v : V) (xs : List V), vs = [.ref e, v] ∧ H e = some (.ins C dx (ef gv sl k)) ∧ H sl = some (.lst xs) ∧ xs.length ≤ 1000 ∧ ∀ H' : Hp, H' sl = some (.lst (xs ++ [v])) → Fr [sl] H H' → Q .non H'
def spAskE (C : Addr) : Sp := fun vs H Q _ => ∃ (e dx gv sl : Addr) (k : Nat) (gs : List Int), vs = [.ref e] ∧ H e = some (.ins C dx (ef gv sl k)) ∧ H gv = some (.lst (gs.map V.int)) ∧ k < gs.length ∧ ∀ H' : Hp, H' e = some (.ins C dx (ef gv sl (k + 1))) → Fr [e] H H' → Q (.int (gs.getD k 0)) H'
theorem u_initE {C : Addr} {H : Hp} {Q : VK} {E : XK} {e dx gv : Addr} (h : H e = some (.ins C dx [])) (k : ∀ (sl : Addr) (H' : Hp), H sl = none → H' e = some (.ins C dx (ef gv sl 0)) → H' sl = some (.lst []) → Fr [e] H H' → Q .non H') : spInitE C [.ref e, .ref gv] H Q E := ⟨e, dx, gv, rfl, h, k⟩
theorem u_sayE {C : Addr} {H : Hp} {Q : VK} {E : XK} {e dx gv sl : Addr} {k : Nat} {v : V} {xs : List V} (h : H e = some (.ins C dx (ef gv sl k))) (h' : H sl = some (.lst xs)) (hx : xs.length ≤ 1000) (q : ∀ H' : Hp, H' sl = some (.lst (xs ++ [v])) → Fr [sl] H H' → Q .non H') : spSayE C [.ref e, v] H Q E := ⟨e, dx, gv, sl, k, v, xs, rfl, h, h', hx, q⟩
theorem u_askE {C : Addr} {H : Hp} {Q : VK} {E : XK} {e dx gv sl : Addr} {k : Nat} {gs : List Int} (h : H e = some (.ins C dx (ef gv sl k))) (h' : H gv = some (.lst (gs.map V.int))) (hk : k < gs.length) (q : ∀ H' : Hp, H' e = some (.ins C dx (ef gv sl (k + 1))) → Fr [e] H H' → Q (.int (gs.getD k 0)) H') : spAskE C [.ref e] H Q E := ⟨e, dx, gv, sl, k, gs, rfl, h, h', hk, q⟩
def spJoined : Sp := fun vs H Q _ => ∃ (o : Op) (x y : Int), vs = [.str o.word, .int x, .int y] ∧ x.natAbs < 2 ^ 60 ∧ y.natAbs < 2 ^ 60 ∧ Q (.int (o.app x y)) H
/-- a node's own part -/
def Sm.top (f : Str → Int) (gs : List Int) : Sm → List Int → List Int → Nat → Int × List Int × Nat
  | .num n, _, sd, k => (n, sd, k)
  | .name c, _, sd, k => (f c, sd, k)
  | .ask, _, sd, k => (gs.getD k 0, sd, k + 1)
  | .say _, ws, sd, k => (ws.getD 0 0, sd ++ [ws.getD 0 0], k)
  | .bin o _ _, ws, sd, k => (o.app (ws.getD 0 0) (ws.getD 1 0), sd, k)
theorem ev_top (f : Str → Int) (gs : List Int) (s : Sm) (sd : List Int) (k : Nat) : s.ev f gs sd k = s.top f gs (evs f gs s.subs sd k).1 (evs f gs s.subs sd k).2.1 (evs f gs s.subs sd k).2.2 := by
  cases s <;> rfl
def spComes (C : Addr) : Sp := fun vs H Q _ => ∃ (v : V) (s : Sm) (wl nd e dx gv sl : Addr) (ws gs sd : List Int) (f : Str → Int) (k : Nat), vs = [v, .ref wl, .ref nd, .ref e] ∧ IsSum H v s ∧ s.ok ∧ H wl = some (.lst (ws.map V.int)) ∧ wl ≠ sl ∧ ws.length = s.subs.length ∧ (∀ x ∈ ws, 0 ≤ x ∧ x < 1000) ∧
  NamesV H nd f ∧ EffAt C H e dx gv gs sl sd k ∧ (s = .ask → k < gs.length) ∧ sd.length ≤ 1000 ∧
  ∀ H' : Hp, EffAt C H' e dx gv gs sl (s.top f gs ws sd k).2.1 (s.top f gs ws sd k).2.2 → Fr [e, sl] H H' → Q (.int (s.top f gs ws sd k).1) H'
theorem u_comes {C : Addr} {H : Hp} {Q : VK} {E : XK} {v : V} {s : Sm} {wl nd e dx gv sl : Addr} {ws gs sd : List Int} {f : Str → Int} {k : Nat} (h1 : IsSum H v s) (h2 : s.ok) (h3 : H wl = some (.lst (ws.map V.int))) (h3' : wl ≠ sl) (h4 : ws.length = s.subs.length) (h5 : ∀ x ∈ ws, 0 ≤ x ∧ x < 1000)
    (h6 : NamesV H nd f) (h7 : EffAt C H e dx gv gs sl sd k) (h8 : s = .ask → k < gs.length) (h9 : sd.length ≤ 1000) (q : ∀ H' : Hp, EffAt C H' e dx gv gs sl (s.top f gs ws sd k).2.1 (s.top f gs ws sd k).2.2 → Fr [e, sl] H H' → Q (.int (s.top f gs ws sd k).1) H') : spComes C [v, .ref wl, .ref nd, .ref e] H Q E :=
  ⟨v, s, wl, nd, e, dx, gv, sl, ws, gs, sd, f, k, rfl, h1, h2, h3, h3', h4, h5, h6, h7, h8, h9, q⟩
def spPartsOf : Sp := fun vs H Q _ => ∃ (v : V) (s : Sm), vs = [v] ∧ IsSum H v s ∧ ∀ (p : Addr) (us : List V) (H' : Hp), H' p = some (.tup us) → AllSum H' us s.subs → Fr [] H H' → Q (.ref p) H'
theorem u_partsOf {H : Hp} {Q : VK} {E : XK} {v : V} {s : Sm} (h : IsSum H v s) (k : ∀ (p : Addr) (us : List V) (H' : Hp), H' p = some (.tup us) → AllSum H' us s.subs → Fr [] H H' → Q (.ref p) H') : spPartsOf [v] H Q E := ⟨v, s, rfl, h, k⟩
def spWorked (C : Addr) (n : Nat) : Sp := fun vs H Q _ => ∃ (v : V) (s : Sm) (nd e dx gv sl : Addr) (gs sd : List Int) (f : Str → Int) (k : Nat), vs = [v, .ref nd, .ref e] ∧ IsSum H v s ∧ s.ok ∧ s.depth ≤ n ∧ Good f gs ∧
  NamesV H nd f ∧ EffAt C H e dx gv gs sl sd k ∧ k + s.asks ≤ gs.length ∧ sd.length + s.size ≤ 1000 ∧
  ∀ H' : Hp, EffAt C H' e dx gv gs sl (s.ev f gs sd k).2.1 (s.ev f gs sd k).2.2 → Fr [e, sl] H H' → Q (.int (s.ev f gs sd k).1) H'
theorem u_worked {C : Addr} {n : Nat} {H : Hp} {Q : VK} {E : XK} {v : V} {s : Sm} {nd e dx gv sl : Addr} {gs sd : List Int} {f : Str → Int} {k : Nat} (h1 : IsSum H v s) (h2 : s.ok) (h3 : s.depth ≤ n) (h4 : Good f gs)
    (h6 : NamesV H nd f) (h7 : EffAt C H e dx gv gs sl sd k) (h8 : k + s.asks ≤ gs.length) (h9 : sd.length + s.size ≤ 1000) (q : ∀ H' : Hp, EffAt C H' e dx gv gs sl (s.ev f gs sd k).2.1 (s.ev f gs sd k).2.2 → Fr [e, sl] H H' → Q (.int (s.ev f gs sd k).1) H') : spWorked C n [v, .ref nd, .ref e] H Q E :=
  ⟨v, s, nd, e, dx, gv, sl, gs, sd, f, k, rfl, h1, h2, h3, h4, h6, h7, h8, h9, q⟩
def spWhole : Sp := fun vs H Q _ => ∃ (x : V) (m : Int), vs = [x, .int m] ∧ ((∃ i, x = .int i ∧ Q (.bl (decide (0 ≤ i) && decide (i ≤ m))) H) ∨ ((∃ t, RZ.Ty4 H x t ∧ t ≠ "int") ∧ Q (.bl false) H))
def spForm : Sp := fun vs H Q _ => ∃ (v : V) (s : Sm), vs = [v] ∧ IsSum H v s ∧ s.ok ∧ Q (.bl true) H
/-- what is still to be looked at: sums and how deep they stand -/
def Stk (H : Hp) : List V → List (Sm × Nat) → Prop
  | [], [] => True
  | v :: vs, p :: ps => (∃ q x, v = .ref q ∧ H q = some (.tup [x, .int p.2]) ∧ IsSum H x p.1) ∧ Stk H vs ps
  | _, _ => False
theorem fr_stk {W : List Addr} {H H' : Hp} (f : Fr W H H') : ∀ {vs : List V} {ps : List (Sm × Nat)}, Stk H vs ps → Stk H' vs ps
  | [], [], _ => trivial
  | _ :: _, _ :: _, ⟨⟨q, x, e, h, i⟩, r⟩ => ⟨⟨q, x, e, f.gett h, i.mono f⟩, fr_stk f r⟩
theorem Stk.app {H : Hp} : ∀ {vs ws : List V} {ss ts : List (Sm × Nat)}, Stk H vs ss → Stk H ws ts → Stk H (vs ++ ws) (ss ++ ts)
  | [], _, [], _, _, h => h
  | _ :: _, _, _ :: _, _, h, h' => ⟨h.1, Stk.app h.2 h'⟩
theorem Stk.last {H : Hp} : ∀ {vs : List V} {ss : List (Sm × Nat)}, Stk H vs ss → vs ≠ [] → ∃ ws v ts p, vs = ws ++ [v] ∧ ss = ts ++ [p] ∧ Stk H ws ts ∧ ∃ q x, v = .ref q ∧ H q = some (.tup [x, .int p.2]) ∧ IsSum H x p.1
  | [], _, _, h => absurd rfl h
  | [v], [p], h, _ => ⟨[], v, [], p, rfl, rfl, trivial, h.1⟩
  | v :: v' :: vs, p :: p' :: ps, h, _ => by
    obtain ⟨ws, u, ts, r, e1, e2, h1, h2⟩ := Stk.last (vs := v' :: vs) (ss := p' :: ps) h.2 (by simp)
    exact ⟨v :: ws, u, p :: ts, r, by rw [e1]; rfl, by rw [e2]; rfl, ⟨h.1, h1⟩, h2⟩
  | [_], _ :: _ :: _, h, _ => h.2.elim
  | _ :: _ :: _, [_], h, _ => h.2.elim
theorem Stk.length {H : Hp} : ∀ {vs : List V} {ss : List (Sm × Nat)}, Stk H vs ss → vs.length = ss.length
  | [], [], _ => rfl
  | _ :: _, _ :: _, h => congrArg (· + 1) (Stk.length h.2)
def stkAll (W : List (Sm × Nat)) : List Sm := W.flatMap fun p => p.1.all
theorem stkAll_app (W W' : List (Sm × Nat)) : stkAll (W ++ W') = stkAll W ++ stkAll W' := List.flatMap_append
theorem stk_len (W : List (Sm × Nat)) : W.length ≤ (stkAll W).length := by
  induction W with
  | nil => exact Nat.zero_le _
  | cons p W ih =>
    have h := Sm.all_length p.1
    have h' := p.1.size_pos
    show W.length + 1 ≤ (p.1.all ++ stkAll W).length
    rw [List.length_append]
    omega
def spWithin : Sp := fun vs H Q _ => ∃ (v : V) (s : Sm), vs = [v] ∧ IsSum H v s ∧ s.ok ∧ s.depth ≤ 15 ∧ s.size ≤ 60 ∧ ∀ (p : Addr) (us : List V) (ss : List Sm) (H' : Hp), H p = none → H' p = some (.lst us) → AllSum H' us ss → ss.Perm s.all → Fr [] H H' → Q (.ref p) H'
theorem u_within {H : Hp} {Q : VK} {E : XK} {v : V} {s : Sm} (h1 : IsSum H v s) (h2 : s.ok) (h3 : s.depth ≤ 15) (h4 : s.size ≤ 60) (q : ∀ (p : Addr) (us : List V) (ss : List Sm) (H' : Hp), H p = none → H' p = some (.lst us) → AllSum H' us ss → ss.Perm s.all → Fr [] H H' → Q (.ref p) H') : spWithin [v] H Q E := ⟨v, s, rfl, h1, h2, h3, h4, q⟩
end My
namespace My
open PySem L2 Wk
local macro_rules | `(tactic| walk_at "hs") => `(tactic| first
  | assumption
  | (apply fr_st0; (case f => assumption); (case h => walk_at "hs"))
  | (apply fr_st1; (case f => assumption); (case n => walk_at "ne"); (case hw => first | assumption | exact List.mem_cons_self); (case h => walk_at "hs"))
  | fail "none")
local macro_rules | `(tactic| walk_at "nn") => `(tactic| first
  | (apply nn_st; (case n => assumption); (case h => walk_at "hs"))
  | (apply nn_l; (case n => assumption); (case h => walk_at "hp"))
  | (apply nn_d; (case n => assumption); (case h => walk_at "hp"))
  | (apply nn_i; (case n => assumption); (case h => walk_at "hp"))
  | fail "none")
local macro_rules | `(tactic| walk_at "su") => `(tactic| first
  | assumption
  | (apply fr_su; (case f => assumption); (case h => walk_at "su"))
  | fail "none")
local macro_rules | `(tactic| walk_at "as") => `(tactic| first
  | assumption
  | (apply fr_as; (case f => assumption); (case h => walk_at "as"))
  | fail "none")
local macro_rules | `(tactic| walk_at "ef") => `(tactic| first
  | assumption
  | (apply fr_ef0; (case f => assumption); (case h => walk_at "ef"))
  | (apply fr_ef; (case f => assumption); (case n1 => walk_at "ni"); (case n2 => walk_at "ni"); (case n3 => walk_at "ni"); (case h => walk_at "ef"))
  | fail "none")
local macro_rules | `(tactic| walk_at "td") => `(tactic| first
  | assumption
  | (apply fr_td0; (case f => assumption); (case h => walk_at "td"))
  | (apply fr_td; (case f => assumption); (case n1 => walk_at "ni"); (case n2 => walk_at "ni"); (case n3 => walk_at "ni"); (case h => walk_at "td"))
  | fail "none")
local macro_rules | `(tactic| walk_at "sk") => `(tactic| first
  | assumption
  | (apply fr_stk; (case f => assumption); (case a => walk_at "sk"))
  | fail "none")
local macro_rules | `(tactic| walk_at "al") => `(tactic| first
  | assumption
  | (apply fr_al; (case f => assumption); (case h => walk_at "al"))
  | fail "none")
local macro_rules | `(tactic| walk_at "nv") => `(tactic| first
  | assumption
  | (apply fr_nv; (case a => assumption); (case n => walk_at "ni"); (case h => walk_at "nv"))
  | fail "none")
local macro_rules | `(tactic| walk_at "ne") => `(tactic| first
  | assumption
  | (apply Ne.symm; assumption)
  | walk_at "nn"
  | (apply Ne.symm; walk_at "nn")
  | fail "none")
local macro_rules | `(tactic| walk_at "ni") => `(tactic| first
  | exact List.not_mem_nil
  | (apply ni1; walk_at "ne")
  | (apply ni2 <;> walk_at "ne")
  | (apply ni3 <;> walk_at "ne")
  | fail "none")
local macro_rules | `(tactic| walk_at "hp") => `(tactic| first
  | assumption
  | (apply Fr.gett; (case a => assumption); (case h => walk_at "hp"))
  | (apply Fr.getl; (case a => assumption); (case n => walk_at "ni"); (case h => walk_at "hp"))
  | (apply Fr.getd; (case a => assumption); (case n => walk_at "ni"); (case h => walk_at "hp"))
  | (apply Fr.geti; (case a => assumption); (case n => walk_at "ni"); (case h => walk_at "hp"))
  | fail "none")
local macro_rules | `(tactic| walk_at "sqs") => `(tactic| first
  | assumption
  | (apply Fr.sqln; (case a => assumption); (case n => walk_at "ni"); (case h => walk_at "sqs"))
  | fail "none")
local macro_rules | `(tactic| walk_at "sq") => `(tactic| first
  | assumption
  | (apply SqL.of; walk_at "hp")
  | (apply SqT.of; walk_at "hp")
  | walk_at "sqs"
  | fail "none")
local macro_rules | `(tactic| walk_at "fr") => `(tactic| first
  | exact Fr.refl
  | assumption
  | (apply Fr.mono; (case a => assumption); (case h => simp))
  | (apply fr_last; (case f => assumption); (case w => simp); (case g => walk_at "fr"))
  | fail "none")
local macro_rules | `(tactic| walk_at "st") => `(tactic| ((try dsimp only [cxOf, Cx.nox, Cx.wish]); (try simp only [L2.start, List.map_cons, List.map_nil, List.length_cons, List.length_nil, List.replicate, List.cons_append, List.nil_append, Nat.reduceAdd, Nat.reduceSub])))
local macro_rules | `(tactic| walk_at "lset") => `(tactic| (simp only [wipe, List.map_cons, List.map_nil, Int.reduceToNat, List.set_cons_zero, List.set_cons_succ] <;> rfl))
local macro_rules | `(tactic| walk_at "wk1") => `(tactic| first
  | with_reducible refine' w_seq ?_
  | with_reducible refine' w_asg ?_
  | ((with_reducible refine' w_name ?hs ?_); (case hs => walk_at "lset"))
  | ((with_reducible refine' w_var ?hv ?_); (case hv => rfl))
  | with_reducible refine' w_c ?_
  | with_reducible refine' w_op ?_
  | with_reducible refine' w_un ?_
  | with_reducible refine' w_test ?_
  | with_reducible refine' w_tB ?_
  | with_reducible refine' w_exbl ?_
  | with_reducible refine' w_exint ?_
  | with_reducible refine' w_t ?_
  | with_reducible refine' w_f ?_
  | with_reducible refine' w_ifS ?_
  | with_reducible refine' w_if ?_
  | with_reducible refine' w_and ?_
  | with_reducible refine' w_or ?_
  | with_reducible refine' w_not ?_
  | with_reducible refine' w_andV ?_
  | with_reducible refine' w_orV ?_
  | with_reducible refine' w_notV ?_
  | with_reducible refine' w_ret ?_
  | with_reducible refine' w_retN ?_
  | with_reducible refine' w_drop ?_
  | with_reducible refine' w_next ?_
  | with_reducible refine' w_nil ?_
  | with_reducible refine' w_cons ?_
  | with_reducible refine' w_cb ?_
  | with_reducible refine' w_call ?_
  | with_reducible refine' w_gsub ?_
  | with_reducible refine' w_gnil ?_
  | with_reducible refine' w_gcons ?_
  | ((with_reducible refine' w_gtup ?hs ?hn ?_); (case hs => walk_at "sq"); (case hn => rfl))
  | with_reducible refine' w_fld ?_
  | with_reducible refine' w_tfld ?_
  | with_reducible refine' w_sl ?_
  | with_reducible refine' w_nopart ?_
  | with_reducible refine' w_part ?_
  | with_reducible refine' w_bm ?_
  | with_reducible refine' w_bm0 ?_
  | with_reducible refine' w_yes ?_
  | with_reducible refine' w_tup ?_
  | with_reducible refine' w_lst ?_
  | with_reducible refine' w_I0 ?_
  | ((with_reducible refine' w_I ?hc ?_); (case hc => (first | (show (0 : Int) < _; first | decide | omega | assumption) | exact wide_div (by first | assumption | decide) (b := 200) (by first | assumption | decide) (by decide) (by decide) | exact wide_mul (a := 64) (b := 64) (by omega) (by omega) (by decide) (by decide) (by decide) | exact ⟨by decide, by decide, by decide⟩)))
  | ((with_reducible refine' w_eq ?he ?_); (case he => rfl))
  | ((with_reducible refine' w_ne ?he ?_); (case he => rfl))
  | ((with_reducible refine' w_ixL ?hs ?ha ?_); (case hs => walk_at "sq"); (case ha => rfl))
  | ((with_reducible refine' w_ixT ?hs ?ha ?_); (case hs => walk_at "sq"); (case ha => rfl))
  | ((with_reducible refine' w_lenL ?hs ?he ?_); (case hs => walk_at "sq"); (case he => first | (simp only [List.length_cons, List.length_nil, List.length_map]; rfl) | rfl))
  | ((with_reducible refine' w_lenT ?hs ?he ?_); (case hs => walk_at "sq"); (case he => first | (simp only [List.length_cons, List.length_nil, List.length_map]; rfl) | rfl))
  | ((with_reducible refine' w_setL ?hh ?hk ?he (fun H1 f1 g1 => ?_)); (case hh => walk_at "hp"); (case hk => rfl); (case he => walk_at "lset"))
  | ((with_reducible refine' w_newT ?hl (fun p H1 n1 f1 g1 => ?_)); (case hl => (first | decide | (simp only [List.length_cons, List.length_nil]; decide))))
  | ((with_reducible refine' w_newL ?hl (fun p H1 n1 f1 g1 => ?_)); (case hl => (first | decide | (simp only [List.length_cons, List.length_nil]; decide))))
  | with_reducible refine' w_for ?_
  | with_reducible refine' w_ilist ?_
  | ((with_reducible refine' w_ilb ?hs ?_); (case hs => walk_at "sq"))
  | with_reducible refine' w_itup ?_
  | ((with_reducible refine' w_itb ?hs ?_); (case hs => walk_at "sq"))
  | with_reducible refine' w_rng1 ?_
  | ((with_reducible refine' w_rgb1 ?h0 ?h1 ?_); (case h0 => first | decide | omega); (case h1 => first | decide | omega))
  | with_reducible refine' w_lc ?_
  | ((with_reducible refine' w_wipe ?hw ?_); (case hw => rfl))
  | ((with_reducible refine' w_cat ?ha ?hb ?hl (fun p H1 n1 f1 g1 => ?_)); (case ha => walk_at "hp"); (case hb => walk_at "hp"); (case hl => (first | decide | (simp only [List.length_cons, List.length_nil]; decide))))
  | with_reducible refine' w_dget ?_
  | with_reducible refine' w_din ?_
  | with_reducible refine' w_dnotin ?_
  | with_reducible refine' w_dput ?_
  | with_reducible refine' w_dnew ?_
  | with_reducible refine' w_newD (fun p H1 n1 f1 g1 => ?_)
  | ((with_reducible refine' w_slT ?hs ?hn ?he (fun p H1 n1 f1 g1 => ?_)); (case hs => walk_at "sq"); (case hn => decide); (case he => rfl))
  | with_reducible refine' w_meth ?_
  | with_reducible refine' w_make ?_
  | with_reducible refine' w_mkb (fun x dx H1 n1 m1 d1 f1 g1 => ?_)
  | with_reducible refine' w_fldaug ?_
  | with_reducible refine' w_tru ?_
  | ((with_reducible refine' w_trl ?hh ?_); (case hh => walk_at "hp"))
  | with_reducible refine' w_whb ?_
  | with_reducible refine' w_chain ?_
  | with_reducible refine' w_tyIs ?_
  | with_reducible refine' w_raise ?_
  | with_reducible refine' w_rab ?_
  | with_reducible refine' w_jn ?_
  | with_reducible refine' w_js ?_
  | with_reducible refine' w_jsn ?_
  | with_reducible refine' w_fmt ?_
  | with_reducible refine' w_isN ?_
  | with_reducible refine' w_intB ?_
  | with_reducible refine' w_istr ?_
  | with_reducible refine' w_stb ?_
  | ((with_reducible refine' w_inT ?hs ?hx ?ha ?_); (case hs => walk_at "sq"); (case hx => rfl); (case ha => rfl))
  | ((with_reducible refine' w_isf ?hd ?_); (case hd => decide +kernel))
  | ((with_reducible refine' w_ist ?hd ?_); (case hd => decide +kernel))
  | fail "none")
local macro_rules | `(tactic| walk_at "wk") => `(tactic| repeat walk_at "wk1")

section
variable {P : Program} {w : World} {K : PySem.W.Frag} {mg : Str → Option Value} {base : Heap} {f : Addr} {fd : FuncData}
theorem sc_law_drawn : FnScope ["_law_state", "_law_many", "_law_found", "_law_cell"] ["_law_state", "_law_many"] (defScope s_law_drawn) := ⟨rfl, rfl, rfl, by decide +kernel, rfl, by decide +kernel, by decide +kernel⟩
theorem ok_drawn (F : Fun K "_law_drawn" "_law_drawn" s_law_drawn f fd) (Z : Blt mg) : FnOk P w K mg base CX0 1 f fd ["_law_state", "_law_many"] (spDrawn K) := by
  refine F.ok sc_law_drawn (fun vs H Q E h => ?_) (fun cdv A outer s H vs Q E hr h => ?_)
  · obtain ⟨Ws, st, n, rfl, _⟩ := h
    rfl
  obtain ⟨Ws, st, n, rfl, ⟨a, ns, i, m, r, hst, hsc, hi, hm0, hm1⟩, hn, hn2, k⟩ := h
  have fin : ∀ H' : Hp, Fr [st] H H' → Scr K H' a (ns.map V.int) (st :: Ws) := fun H' f => hsc.fr f (by simp)
  have hsq := hsc.sq
  have hS : ∀ H' : Hp, Fr [st] H H' → SqL K H' a (ns.map V.int) := fun H' f => (fin H' f).sq
  refine ⟨_, (pss_cons (ps_if (pt_cmpR op_gt (pe_ix (r := rIxL K) ix_list (pv 0) pe_int (fun _ _ => rfl)) pe_int (nomark _)) (pss_cons (ps_set (i := 2) sc_law_drawn.nd rfl (Or.inl rfl) (pe_op op_mod (pe_ix (r := rIxL K) ix_list (pv 0) pe_int (fun _ _ => rfl)) (pv 1)))
  (pss_cons (ps_asg (pe_op op_fdivW (pe_ix (r := rIxL K) ix_list (pv 0) pe_int (fun _ _ => rfl)) (pv 1)) (pg_sub (pv 0) pe_int set_list))
  (pss_one (ps_ret (pv 2))))) pss_nil)
  (pss_cons (ps_asg (pe_op op_add (pe_ix (r := rIxL K) ix_list (pv 0) pe_int (fun _ _ => rfl)) pe_int) (pg_sub (pv 0) pe_int set_list))
  (pss_cons (ps_if (pt_cmpR op_le (pe_ix (r := rIxL K) ix_list (pv 0) pe_int (fun _ _ => rfl)) (pe_callB (id := "len") (r := rLenW K) call_lenN (by rfl) Z.len PySem.boot_len (pa_cons (pe_ix (r := rIxL K) ix_list (pv 0) pe_int (fun _ _ => rfl)) pa_nil)) (nomark _)) (pss_cons (ps_set (i := 3) sc_law_drawn.nd rfl (Or.inl rfl) (pe_ix (r := rIxL K) ix_list (pe_ix (r := rIxL K) ix_list (pv 0) pe_int (fun _ _ => rfl)) (pe_op op_sub (pe_ix (r := rIxL K) ix_list (pv 0) pe_int (fun _ _ => rfl)) pe_int) (fun _ _ => rfl)))
  (pss_cons (ps_asg (pe_ifExp (pt_cmpR op_ge (pv 3) (pe_op op_pow pe_int pe_int) (nomark _)) (pe_op op_fdivW (pv 3) (pv 1)) pe_int) (pg_sub (pv 0) pe_int set_list))
  (pss_one (ps_ret (pe_op op_mod (pv 3) (pv 1)))))) pss_nil)
  (pss_cons (ps_asg (pe_op op_mod (pe_op op_add (pe_op op_mulW (pe_ix (r := rIxL K) ix_list (pv 0) pe_int (fun _ _ => rfl)) pe_int) pe_int) pe_int) (pg_sub (pv 0) pe_int set_list))
  (pss_one (ps_ret (pe_op op_mod (pe_op op_fdivW (pe_ix (r := rIxL K) ix_list (pv 0) pe_int (fun _ _ => rfl)) pe_int) (pv 1)))))))), ?_⟩
  walk_at "st"
  walk_at "wk"
  refine w_iteD (fun h1 => ?_) (fun h1 => ?_)
  · walk_at "wk"
    exact k _ _ (Int.emod_nonneg _ (by omega)) (Int.emod_lt_of_pos _ hn) ⟨a, ns, i, m, _, (by walk_at "hp"), fin _ (by walk_at "fr"), hi, hm0, hm1⟩ (by walk_at "fr")
  walk_at "wk"
  refine w_lenL (hS _ (by walk_at "fr")) rfl ?_
  walk_at "wk"
  refine w_iteD (fun h2 => ?_) (fun h2 => ?_)
  · rw [List.length_map] at h2
    obtain ⟨c, hc⟩ := atI_map (ns := ns) (k := i + 1 - 1) (by omega) (by omega)
    walk_at "wk"
    refine w_ixL (hS _ (by walk_at "fr")) hc ?_
    walk_at "wk"
    refine w_iteD (fun h3 => ?_) (fun h3 => ?_)
    · walk_at "wk"
      exact k _ _ (Int.emod_nonneg _ (by omega)) (Int.emod_lt_of_pos _ hn) ⟨a, ns, _, m, _, (by walk_at "hp"), fin _ (by walk_at "fr"), by omega, hm0, hm1⟩ (by walk_at "fr")
    · walk_at "wk"
      exact k _ _ (Int.emod_nonneg _ (by omega)) (Int.emod_lt_of_pos _ hn) ⟨a, ns, _, m, _, (by walk_at "hp"), fin _ (by walk_at "fr"), by omega, hm0, hm1⟩ (by walk_at "fr")
  walk_at "wk"
  exact k _ _ (Int.emod_nonneg _ (by omega)) (Int.emod_lt_of_pos _ hn) ⟨a, ns, _, _, _, (by walk_at "hp"), fin _ (by walk_at "fr"), by omega, Int.emod_nonneg _ (by decide), Int.emod_lt_of_pos _ (by decide)⟩ (by walk_at "fr")
theorem sc_law_start : FnScope ["_law_script", "_law_mixed", "_law_cell"] ["_law_script"] (defScope s_law_start) := ⟨rfl, rfl, rfl, by decide +kernel, rfl, by decide +kernel, by decide +kernel⟩
theorem ok_start (F : Fun K "_law_start" "_law_start" s_law_start f fd) (Z : Blt mg) : FnOk P w K mg base CX0 1 f fd ["_law_script"] (spStart K) := by
  refine F.ok sc_law_start (fun vs H Q E h => ?_) (fun cdv A outer s H vs Q E hr h => ?_)
  · obtain ⟨a, ns, rfl, _⟩ := h
    rfl
  obtain ⟨a, ns, rfl, hsq, k⟩ := h
  refine ⟨_, (pss_cons (ps_set (i := 1) sc_law_start.nd rfl (Or.inl rfl) pe_int)
  (pss_cons (ps_for PassesOwn.never rfl (pi_list (pv 0)) (pg_name (i := 2) sc_law_start.nd rfl (Or.inl rfl)) (pss_one (ps_set (i := 1) sc_law_start.nd rfl (Or.inl rfl) (pe_op op_mod (pe_op op_add (pe_op op_add (pe_op op_mulW (pv 1) pe_int) (pv 2)) pe_int) pe_int))))
  (pss_one (ps_ret (pe_lst (pa_cons (pv 0) (pa_cons pe_int (pa_cons (pv 1) (pa_cons pe_int pa_nil))))))))), ?_⟩
  walk_at "st"
  walk_at "wk"
  refine forL (xs := ns.map V.int) (fun i σ H' => H' = H ∧ ∃ (m : Int) (o : Option V), σ = [some (.ref a), some (.int m), o] ∧ 0 ≤ m ∧ m < 2147483647) ⟨rfl, 1, _, rfl, by decide, by decide⟩ (fun i σ H' _ h => h.1 ▸ hsq) ?_ ?_
  · rintro i x σ H' hx ⟨rfl, m, o, rfl, hm0, hm1⟩
    obtain ⟨c, rfl⟩ : ∃ c, x = V.int c := by
      rw [List.getElem?_map] at hx
      cases e : ns[i]? with
      | none => rw [e] at hx; cases hx
      | some z => rw [e] at hx; exact ⟨z, (Option.some.inj hx).symm⟩
    walk_at "wk"
    exact ⟨rfl, _, _, rfl, Int.emod_nonneg _ (by decide), Int.emod_lt_of_pos _ (by decide)⟩
  · rintro σ H' ⟨rfl, m, o, rfl, hm0, hm1⟩
    walk_at "wk"
    rename_i p H1 n1 f1 g1
    refine k p H1 n1 ⟨a, ns, 0, m, 0, g1, ?_, by decide, hm0, hm1⟩ f1
    rcases hsq with h | h
    · refine .inl ⟨rd_fr f1 h (by simp), ?_⟩
      rcases h with h | ⟨o, h⟩
      · simpa using ne_of_none h n1
      · simpa using ne_of_none h n1
    · exact .inr h
end
end My
namespace My
open PySem L2 Wk
local macro_rules | `(tactic| walk_at "hs") => `(tactic| first
  | assumption
  | (apply fr_st0; (case f => assumption); (case h => walk_at "hs"))
  | (apply fr_st1; (case f => assumption); (case n => walk_at "ne"); (case hw => first | assumption | exact List.mem_cons_self); (case h => walk_at "hs"))
  | fail "none")
local macro_rules | `(tactic| walk_at "nn") => `(tactic| first
  | (apply nn_st; (case n => assumption); (case h => walk_at "hs"))
  | (apply nn_l; (case n => assumption); (case h => walk_at "hp"))
  | (apply nn_d; (case n => assumption); (case h => walk_at "hp"))
  | (apply nn_i; (case n => assumption); (case h => walk_at "hp"))
  | fail "none")
local macro_rules | `(tactic| walk_at "su") => `(tactic| first
  | assumption
  | (apply fr_su; (case f => assumption); (case h => walk_at "su"))
  | fail "none")
local macro_rules | `(tactic| walk_at "as") => `(tactic| first
  | assumption
  | (apply fr_as; (case f => assumption); (case h => walk_at "as"))
  | fail "none")
local macro_rules | `(tactic| walk_at "ef") => `(tactic| first
  | assumption
  | (apply fr_ef0; (case f => assumption); (case h => walk_at "ef"))
  | (apply fr_ef; (case f => assumption); (case n1 => walk_at "ni"); (case n2 => walk_at "ni"); (case n3 => walk_at "ni"); (case h => walk_at "ef"))
  | fail "none")
local macro_rules | `(tactic| walk_at "td") => `(tactic| first
  | assumption
  | (apply fr_td0; (case f => assumption); (case h => walk_at "td"))
  | (apply fr_td; (case f => assumption); (case n1 => walk_at "ni"); (case n2 => walk_at "ni"); (case n3 => walk_at "ni"); (case h => walk_at "td"))
  | fail "none")
local macro_rules | `(tactic| walk_at "sk") => `(tactic| first
  | assumption
  | (apply fr_stk; (case f => assumption); (case a => walk_at "sk"))
  | fail "none")
local macro_rules | `(tactic| walk_at "al") => `(tactic| first
  | assumption
  | (apply fr_al; (case f => assumption); (case h => walk_at "al"))
  | fail "none")
local macro_rules | `(tactic| walk_at "nv") => `(tactic| first
  | assumption
  | (apply fr_nv; (case a => assumption); (case n => walk_at "ni"); (case h => walk_at "nv"))
  | fail "none")
local macro_rules | `(tactic| walk_at "ne") => `(tactic| first
  | assumption
  | (apply Ne.symm; assumption)
  | walk_at "nn"
  | (apply Ne.symm; walk_at "nn")
  | fail "none")
local macro_rules | `(tactic| walk_at "ni") => `(tactic| first
  | exact List.not_mem_nil
  | (apply ni1; walk_at "ne")
  | (apply ni2 <;> walk_at "ne")
  | (apply ni3 <;> walk_at "ne")
  | fail "none")
local macro_rules | `(tactic| walk_at "hp") => `(tactic| first
  | assumption
  | (apply Fr.gett; (case a => assumption); (case h => walk_at "hp"))
  | (apply Fr.getl; (case a => assumption); (case n => walk_at "ni"); (case h => walk_at "hp"))
  | (apply Fr.getd; (case a => assumption); (case n => walk_at "ni"); (case h => walk_at "hp"))
  | (apply Fr.geti; (case a => assumption); (case n => walk_at "ni"); (case h => walk_at "hp"))
  | fail "none")
local macro_rules | `(tactic| walk_at "sqs") => `(tactic| first
  | assumption
  | (apply Fr.sqln; (case a => assumption); (case n => walk_at "ni"); (case h => walk_at "sqs"))
  | fail "none")
local macro_rules | `(tactic| walk_at "sq") => `(tactic| first
  | assumption
  | (apply SqL.of; walk_at "hp")
  | (apply SqT.of; walk_at "hp")
  | walk_at "sqs"
  | fail "none")
local macro_rules | `(tactic| walk_at "fr") => `(tactic| first
  | exact Fr.refl
  | assumption
  | (apply Fr.mono; (case a => assumption); (case h => simp))
  | (apply fr_last; (case f => assumption); (case w => simp); (case g => walk_at "fr"))
  | fail "none")
local macro_rules | `(tactic| walk_at "st") => `(tactic| ((try dsimp only [cxOf, Cx.nox, Cx.wish]); (try simp only [L2.start, List.map_cons, List.map_nil, List.length_cons, List.length_nil, List.replicate, List.cons_append, List.nil_append, Nat.reduceAdd, Nat.reduceSub])))
local macro_rules | `(tactic| walk_at "lset") => `(tactic| (simp only [wipe, List.map_cons, List.map_nil, Int.reduceToNat, List.set_cons_zero, List.set_cons_succ] <;> rfl))
local macro_rules | `(tactic| walk_at "wk1") => `(tactic| first
  | with_reducible refine' w_seq ?_
  | with_reducible refine' w_asg ?_
  | ((with_reducible refine' w_name ?hs ?_); (case hs => walk_at "lset"))
  | ((with_reducible refine' w_var ?hv ?_); (case hv => rfl))
  | with_reducible refine' w_c ?_
  | with_reducible refine' w_op ?_
  | with_reducible refine' w_un ?_
  | with_reducible refine' w_test ?_
  | with_reducible refine' w_tB ?_
  | with_reducible refine' w_exbl ?_
  | with_reducible refine' w_exint ?_
  | with_reducible refine' w_t ?_
  | with_reducible refine' w_f ?_
  | with_reducible refine' w_ifS ?_
  | with_reducible refine' w_if ?_
  | with_reducible refine' w_and ?_
  | with_reducible refine' w_or ?_
  | with_reducible refine' w_not ?_
  | with_reducible refine' w_andV ?_
  | with_reducible refine' w_orV ?_
  | with_reducible refine' w_notV ?_
  | with_reducible refine' w_ret ?_
  | with_reducible refine' w_retN ?_
  | with_reducible refine' w_drop ?_
  | with_reducible refine' w_next ?_
  | with_reducible refine' w_nil ?_
  | with_reducible refine' w_cons ?_
  | with_reducible refine' w_cb ?_
  | with_reducible refine' w_call ?_
  | with_reducible refine' w_gsub ?_
  | with_reducible refine' w_gnil ?_
  | with_reducible refine' w_gcons ?_
  | ((with_reducible refine' w_gtup ?hs ?hn ?_); (case hs => walk_at "sq"); (case hn => rfl))
  | with_reducible refine' w_fld ?_
  | with_reducible refine' w_tfld ?_
  | with_reducible refine' w_sl ?_
  | with_reducible refine' w_nopart ?_
  | with_reducible refine' w_part ?_
  | with_reducible refine' w_bm ?_
  | with_reducible refine' w_bm0 ?_
  | with_reducible refine' w_yes ?_
  | with_reducible refine' w_tup ?_
  | with_reducible refine' w_lst ?_
  | with_reducible refine' w_I0 ?_
  | ((with_reducible refine' w_I ?hc ?_); (case hc => (first | (show (0 : Int) < _; first | decide | omega | assumption) | exact wide_div (by first | assumption | decide) (b := 200) (by first | assumption | decide) (by decide) (by decide) | exact wide_mul (a := 64) (b := 64) (by omega) (by omega) (by decide) (by decide) (by decide) | exact ⟨by decide, by decide, by decide⟩)))
  | ((with_reducible refine' w_eq ?he ?_); (case he => rfl))
  | ((with_reducible refine' w_ne ?he ?_); (case he => rfl))
  | ((with_reducible refine' w_ixL ?hs ?ha ?_); (case hs => walk_at "sq"); (case ha => rfl))
  | ((with_reducible refine' w_ixT ?hs ?ha ?_); (case hs => walk_at "sq"); (case ha => rfl))
  | ((with_reducible refine' w_lenL ?hs ?he ?_); (case hs => walk_at "sq"); (case he => first | (simp only [List.length_cons, List.length_nil, List.length_map]; rfl) | rfl))
  | ((with_reducible refine' w_lenT ?hs ?he ?_); (case hs => walk_at "sq"); (case he => first | (simp only [List.length_cons, List.length_nil, List.length_map]; rfl) | rfl))
  | ((with_reducible refine' w_setL ?hh ?hk ?he (fun H1 f1 g1 => ?_)); (case hh => walk_at "hp"); (case hk => rfl); (case he => walk_at "lset"))
  | ((with_reducible refine' w_newT ?hl (fun p H1 n1 f1 g1 => ?_)); (case hl => (first | decide | (simp only [List.length_cons, List.length_nil]; decide))))
  | ((with_reducible refine' w_newL ?hl (fun p H1 n1 f1 g1 => ?_)); (case hl => (first | decide | (simp only [List.length_cons, List.length_nil]; decide))))
  | with_reducible refine' w_for ?_
  | with_reducible refine' w_ilist ?_
  | ((with_reducible refine' w_ilb ?hs ?_); (case hs => walk_at "sq"))
  | with_reducible refine' w_itup ?_
  | ((with_reducible refine' w_itb ?hs ?_); (case hs => walk_at "sq"))
  | with_reducible refine' w_rng1 ?_
  | ((with_reducible refine' w_rgb1 ?h0 ?h1 ?_); (case h0 => first | decide | omega); (case h1 => first | decide | omega))
  | with_reducible refine' w_lc ?_
  | ((with_reducible refine' w_wipe ?hw ?_); (case hw => rfl))
  | ((with_reducible refine' w_cat ?ha ?hb ?hl (fun p H1 n1 f1 g1 => ?_)); (case ha => walk_at "hp"); (case hb => walk_at "hp"); (case hl => (first | decide | (simp only [List.length_cons, List.length_nil]; decide))))
  | with_reducible refine' w_dget ?_
  | with_reducible refine' w_din ?_
  | with_reducible refine' w_dnotin ?_
  | with_reducible refine' w_dput ?_
  | with_reducible refine' w_dnew ?_
  | with_reducible refine' w_newD (fun p H1 n1 f1 g1 => ?_)
  | ((with_reducible refine' w_slT ?hs ?hn ?he (fun p H1 n1 f1 g1 => ?_)); (case hs => walk_at "sq"); (case hn => decide); (case he => rfl))
  | with_reducible refine' w_meth ?_
  | with_reducible refine' w_make ?_
  | with_reducible refine' w_mkb (fun x dx H1 n1 m1 d1 f1 g1 => ?_)
  | with_reducible refine' w_fldaug ?_
  | with_reducible refine' w_tru ?_
  | ((with_reducible refine' w_trl ?hh ?_); (case hh => walk_at "hp"))
  | with_reducible refine' w_whb ?_
  | with_reducible refine' w_chain ?_
  | with_reducible refine' w_tyIs ?_
  | with_reducible refine' w_raise ?_
  | with_reducible refine' w_rab ?_
  | with_reducible refine' w_jn ?_
  | with_reducible refine' w_js ?_
  | with_reducible refine' w_jsn ?_
  | with_reducible refine' w_fmt ?_
  | with_reducible refine' w_isN ?_
  | with_reducible refine' w_intB ?_
  | with_reducible refine' w_istr ?_
  | with_reducible refine' w_stb ?_
  | ((with_reducible refine' w_inT ?hs ?hx ?ha ?_); (case hs => walk_at "sq"); (case hx => rfl); (case ha => rfl))
  | ((with_reducible refine' w_isf ?hd ?_); (case hd => decide +kernel))
  | ((with_reducible refine' w_ist ?hd ?_); (case hd => decide +kernel))
  | fail "none")
local macro_rules | `(tactic| walk_at "wk") => `(tactic| repeat walk_at "wk1")

def spSumD (K : PySem.W.Frag) (n : Nat) : Sp := fun vs H Q E => 1 ≤ n ∧ spSum K n vs H Q E
section
variable {P : Program} {w : World} {K : PySem.W.Frag} {mg : Str → Option Value} {base : Heap} {f : Addr} {fd : FuncData}
theorem sc_law_sum : FnScope ["_law_state", "_law_deep", "_law_room", "_law_way", "_law_few", "_law_some", "_law_one"] ["_law_state", "_law_deep", "_law_room"] (defScope s_law_sum) := ⟨rfl, rfl, rfl, by decide +kernel, rfl, by decide +kernel, by decide +kernel⟩
theorem ok_sum {n : Nat} (F : Fun K "_law_sum" "_law_sum" s_law_sum f fd) (Z : Blt mg) (D_law_drawn : Df P w K mg base CX0 1 "_law_drawn" ["_law_state", "_law_many"] (spDrawn K))
    (D_law_sum : Df P w K mg base CX0 (n + 1) "_law_sum" ["_law_state", "_law_deep", "_law_room"] (spSumD K n)) : FnOk P w K mg base CX0 (n + 2) f fd ["_law_state", "_law_deep", "_law_room"] (spSum K (n + 1)) := by
  refine F.ok sc_law_sum (fun vs H Q E h => ?_) (fun cdv A outer s H vs Q E hr h => ?_)
  · obtain ⟨Ws, st, rm, d, r, rfl, _⟩ := h
    rfl
  obtain ⟨Ws, st, rm, d, r, rfl, hst, hw, hrm, hr1, hr2, hd, k⟩ := h
  have ne : st ≠ rm := hst.ne hrm (by simp)
  refine ⟨_, (pss_cons (ps_asg (pe_op op_sub (pe_ix (r := rIxL K) ix_list (pv 2) pe_int (fun _ _ => rfl)) pe_int) (pg_sub (pv 2) pe_int set_list))
  (pss_cons (ps_set (i := 3) sc_law_sum.nd rfl (Or.inl rfl) (pe_df D_law_drawn hr (by first | decide | omega) (pa_cons (pv 0) (pa_cons pe_int pa_nil))))
  (pss_cons (ps_if (PW.pt (pw_or (pt_cmpR op_lt (pv 1) pe_int (nomark _)) (pw_or (pt_cmpR op_lt (pe_ix (r := rIxL K) ix_list (pv 2) pe_int (fun _ _ => rfl)) pe_int (nomark _)) (pw_or1 (pt_cmpR op_lt (pv 3) pe_int (nomark _)))))) (pss_cons (ps_set (i := 4) sc_law_sum.nd rfl (Or.inl rfl) (pe_ix (r := rIxL K) ix_list (pe_lst (pa_cons pe_int (pa_cons pe_int pa_nil))) (pe_df D_law_drawn hr (by first | decide | omega) (pa_cons (pv 0) (pa_cons pe_int pa_nil))) (fun _ _ => rfl)))
  (pss_cons (ps_set (i := 5) sc_law_sum.nd rfl (Or.inl rfl) (pe_lst (pa_cons (pe_tup (pa_cons pe_str (pa_cons (pe_df D_law_drawn hr (by first | decide | omega) (pa_cons (pv 0) (pa_cons (pv 4) pa_nil))) pa_nil))) (pa_cons (pe_tup (pa_cons pe_str (pa_cons (pe_ix (r := rIxS) ix_str pe_str (pe_df D_law_drawn hr (by first | decide | omega) (pa_cons (pv 0) (pa_cons (pe_ix (r := rIxL K) ix_list (pe_lst (pa_cons pe_int (pa_cons pe_int pa_nil))) (pe_df D_law_drawn hr (by first | decide | omega) (pa_cons (pv 0) (pa_cons pe_int pa_nil))) (fun _ _ => rfl)) pa_nil))) (fun _ _ => rfl)) pa_nil))) pa_nil))))
  (pss_one (ps_ret (pe_ix (r := rIxL K) ix_list (pe_op op_cat (pv 5) (pe_lst (pa_cons (pe_tup (pa_cons pe_str pa_nil)) (pa_cons (pe_tup (pa_cons pe_str (pa_cons pe_str pa_nil))) pa_nil)))) (pe_df D_law_drawn hr (by first | decide | omega) (pa_cons (pv 0) (pa_cons pe_int pa_nil))) (fun _ _ => rfl)))))) pss_nil)
  (pss_cons (ps_if (pt_cmpR op_eq (pv 3) pe_int (nomark _)) (pss_one (ps_ret (pe_tup (pa_cons pe_str (pa_cons (pe_df D_law_sum hr (by first | decide | omega) (pa_cons (pv 0) (pa_cons (pe_op op_sub (pv 1) pe_int) (pa_cons (pv 2) pa_nil)))) pa_nil))))) pss_nil)
  (pss_cons (ps_asg (pe_op op_sub (pe_ix (r := rIxL K) ix_list (pv 2) pe_int (fun _ _ => rfl)) pe_int) (pg_sub (pv 2) pe_int set_list))
  (pss_cons (ps_set (i := 6) sc_law_sum.nd rfl (Or.inl rfl) (pe_df D_law_sum hr (by first | decide | omega) (pa_cons (pv 0) (pa_cons (pe_op op_sub (pe_op op_sub (pv 1) pe_int) (pe_ix (r := rIxL K) ix_list (pe_lst (pa_cons pe_int (pa_cons pe_int (pa_cons pe_int pa_nil)))) (pe_df D_law_drawn hr (by first | decide | omega) (pa_cons (pv 0) (pa_cons pe_int pa_nil))) (fun _ _ => rfl))) (pa_cons (pv 2) pa_nil)))))
  (pss_cons (ps_asg (pe_op op_add (pe_ix (r := rIxL K) ix_list (pv 2) pe_int (fun _ _ => rfl)) pe_int) (pg_sub (pv 2) pe_int set_list))
  (pss_one (ps_ret (pe_tup (pa_cons (pe_ix (r := rIxL K) ix_list (pe_lst (pa_cons pe_str (pa_cons pe_str (pa_cons pe_str pa_nil)))) (pe_op op_mod (pv 3) pe_int) (fun _ _ => rfl)) (pa_cons (pv 6) (pa_cons (pe_df D_law_sum hr (by first | decide | omega) (pa_cons (pv 0) (pa_cons (pe_op op_sub (pe_op op_sub (pv 1) pe_int) (pe_ix (r := rIxL K) ix_list (pe_lst (pa_cons pe_int (pa_cons pe_int (pa_cons pe_int pa_nil)))) (pe_df D_law_drawn hr (by first | decide | omega) (pa_cons (pv 0) (pa_cons pe_int pa_nil))) (fun _ _ => rfl))) (pa_cons (pv 2) pa_nil)))) pa_nil))))))))))))), ?_⟩
  walk_at "st"
  walk_at "wk"
  refine u_drawn (by walk_at "hs") (by decide) (by decide) (fun way H2 w0 w1 s2 f2 => ?_)
  walk_at "wk1"
  walk_at "wk1"
  refine w_ifS2 (fun H1 => StAt K Ws H1 st ∧ H1 rm = some (.lst [.int (r - 1)]) ∧ Fr [st, rm] H H1) ?leaf (fun leaf => ?_)
  case leaf =>
    rintro H3 ⟨s3, r3, f3⟩
    walk_at "wk"
    refine u_drawn (by walk_at "hs") (by decide) (by decide) (fun v1 H4 a4 b4 s4 f4 => ?_)
    obtain ⟨few, e4, hfew⟩ := idx2 (a := 3) (b := 1000) a4 b4
    refine w_ixL (by walk_at "sq") e4 ?_
    walk_at "wk"
    refine u_drawn (by walk_at "hs") (by omega) (by omega) (fun v2 H5 a5 b5 s5 f5 => ?_)
    walk_at "wk"
    refine u_drawn (by walk_at "hs") (by decide) (by decide) (fun v3 H6 a6 b6 s6 f6 => ?_)
    obtain ⟨few2, e6, hfew2⟩ := idx2 (a := 2) (b := 6) a6 b6
    refine w_ixL (by walk_at "sq") e6 ?_
    walk_at "wk"
    refine u_drawn (by walk_at "hs") (by omega) (by omega) (fun v4 H7 a7 b7 s7 f7 => ?_)
    obtain ⟨c, e7, hc⟩ := letter_at a7 (by omega)
    walk_at "wk"
    refine w_ixS str_small e7 ?_
    walk_at "wk"
    refine u_drawn (by walk_at "hs") (by decide) (by decide) (fun v5 H8 a8 b8 s8 f8 => ?_)
    refine w_ix4 (by walk_at "sq") rfl a8 b8 ?_ ?_ ?_ ?_
    · exact k _ (.num v2) H8 ⟨_, rfl, by walk_at "hp"⟩ ⟨a5, by omega⟩ (.inr rfl) (by show ((1 : Nat) : Int) ≤ r; omega) (by show H8 rm = some (.lst [.int (r - 1)]); walk_at "hp") s8 (by walk_at "fr")
    · exact k _ (.name _) H8 ⟨_, rfl, by walk_at "hp"⟩ hc (.inr rfl) (by show ((1 : Nat) : Int) ≤ r; omega) (by show H8 rm = some (.lst [.int (r - 1)]); walk_at "hp") s8 (by walk_at "fr")
    · exact k _ .ask H8 ⟨_, rfl, by walk_at "hp"⟩ trivial (.inr rfl) (by show ((1 : Nat) : Int) ≤ r; omega) (by show H8 rm = some (.lst [.int (r - 1)]); walk_at "hp") s8 (by walk_at "fr")
    · exact k _ (.name "a") H8 ⟨_, rfl, by walk_at "hp"⟩ (show ("a" : Str) ∈ letters by decide +kernel) (.inr rfl) (by show ((1 : Nat) : Int) ≤ r; omega) (by show H8 rm = some (.lst [.int (r - 1)]); walk_at "hp") s8 (by walk_at "fr")
  walk_at "wk"
  refine w_iteD (fun c1 => leaf _ ⟨by walk_at "hs", by walk_at "hp", by walk_at "fr"⟩) (fun c1 => ?_)
  walk_at "wk"
  refine w_iteD (fun c2 => leaf _ ⟨by walk_at "hs", by walk_at "hp", by walk_at "fr"⟩) (fun c2 => ?_)
  walk_at "wk"
  refine w_iteD (fun c3 => leaf _ ⟨by walk_at "hs", by walk_at "hp", by walk_at "fr"⟩) (fun c3 => ?_)
  walk_at "wk"
  refine w_iteI (fun c4 => ?_) (fun c4 => ?_)
  · walk_at "wk"
    refine ⟨by omega, u_sum (by walk_at "hs") hw (by walk_at "hp") (by omega) (by omega) (by omega) (fun v s H3 q1 q2 q3 q4 q5 q6 f3 => ?_)⟩
    walk_at "wk"
    refine k _ (.say s) _ ⟨_, v, rfl, by walk_at "hp", by walk_at "su"⟩ q2 (.inl ?_) ?_ ?_ (by walk_at "hs") (by walk_at "fr")
    · show ((s.depth + 1 : Nat) : Int) ≤ d
      omega
    · show ((s.size + 1 : Nat) : Int) ≤ r
      omega
    · have e : r - ((Sm.say s).size : Int) = r - 1 - (s.size : Int) := by
        show r - ((s.size + 1 : Nat) : Int) = _
        omega
      rw [e]
      walk_at "hp"
  walk_at "wk"
  refine u_drawn (by walk_at "hs") (by decide) (by decide) (fun v1 H4 a4 b4 s4 f4 => ?_)
  obtain ⟨g, e4, hg⟩ := idx3i (a := 0) (b := 0) (c := 3) a4 b4
  refine w_ixL (by walk_at "sq") e4 ?_
  walk_at "wk"
  refine ⟨by omega, u_sum (by walk_at "hs") hw (by walk_at "hp") (by omega) (by omega) (by omega) (fun v s H5 q1 q2 q3 q4 q5 q6 f5 => ?_)⟩
  walk_at "wk"
  obtain ⟨o, e6⟩ := op3 (k := way % 3) (by omega) (by omega)
  refine w_ixL (by walk_at "sq") e6 ?_
  walk_at "wk"
  refine u_drawn (by walk_at "hs") (by decide) (by decide) (fun v2 H6 a6 b6 s6 f6 => ?_)
  obtain ⟨g2, e7, hg2⟩ := idx3i (a := 0) (b := 0) (c := 3) a6 b6
  refine w_ixL (by walk_at "sq") e7 ?_
  walk_at "wk"
  refine ⟨by omega, u_sum (by walk_at "hs") hw (by walk_at "hp") (by omega) (by omega) (by omega) (fun v' s' H7 q1' q2' q3' q4' q5' q6' f7 => ?_)⟩
  walk_at "wk"
  refine k _ (.bin o s s') _ ⟨_, v, v', rfl, by walk_at "hp", by walk_at "su", by walk_at "su"⟩ ⟨q2, q2'⟩ (.inl ?_) ?_ ?_ (by walk_at "hs") (by walk_at "fr")
  · have d1 : s.depth ≤ d.toNat - 1 := by omega
    have d2 : s'.depth ≤ d.toNat - 1 := by omega
    have d3 := depth_bin (o := o) d1 d2
    omega
  · show ((s.size + s'.size + 1 : Nat) : Int) ≤ r
    omega
  · have e : r - ((Sm.bin o s s').size : Int) = r - 1 - 1 - (s.size : Int) + 1 - (s'.size : Int) := by
      show r - ((s.size + s'.size + 1 : Nat) : Int) = _
      omega
    rw [e]
    walk_at "hp"
end
end My
namespace My
open PySem L2 Wk
local macro_rules | `(tactic| walk_at "hs") => `(tactic| first
  | assumption
  | (apply fr_st0; (case f => assumption); (case h => walk_at "hs"))
  | (apply fr_st1; (case f => assumption); (case n => walk_at "ne"); (case hw => first | assumption | exact List.mem_cons_self); (case h => walk_at "hs"))
  | fail "none")
local macro_rules | `(tactic| walk_at "nn") => `(tactic| first
  | (apply nn_st; (case n => assumption); (case h => walk_at "hs"))
  | (apply nn_l; (case n => assumption); (case h => walk_at "hp"))
  | (apply nn_d; (case n => assumption); (case h => walk_at "hp"))
  | (apply nn_i; (case n => assumption); (case h => walk_at "hp"))
  | fail "none")
local macro_rules | `(tactic| walk_at "su") => `(tactic| first
  | assumption
  | (apply fr_su; (case f => assumption); (case h => walk_at "su"))
  | fail "none")
local macro_rules | `(tactic| walk_at "as") => `(tactic| first
  | assumption
  | (apply fr_as; (case f => assumption); (case h => walk_at "as"))
  | fail "none")
local macro_rules | `(tactic| walk_at "ef") => `(tactic| first
  | assumption
  | (apply fr_ef0; (case f => assumption); (case h => walk_at "ef"))
  | (apply fr_ef; (case f => assumption); (case n1 => walk_at "ni"); (case n2 => walk_at "ni"); (case n3 => walk_at "ni"); (case h => walk_at "ef"))
  | fail "none")
local macro_rules | `(tactic| walk_at "td") => `(tactic| first
  | assumption
  | (apply fr_td0; (case f => assumption); (case h => walk_at "td"))
  | (apply fr_td; (case f => assumption); (case n1 => walk_at "ni"); (case n2 => walk_at "ni"); (case n3 => walk_at "ni"); (case h => walk_at "td"))
  | fail "none")
local macro_rules | `(tactic| walk_at "sk") => `(tactic| first
  | assumption
  | (apply fr_stk; (case f => assumption); (case a => walk_at "sk"))
  | fail "none")
local macro_rules | `(tactic| walk_at "al") => `(tactic| first
  | assumption
  | (apply fr_al; (case f => assumption); (case h => walk_at "al"))
  | fail "none")
local macro_rules | `(tactic| walk_at "nv") => `(tactic| first
  | assumption
  | (apply fr_nv; (case a => assumption); (case n => walk_at "ni"); (case h => walk_at "nv"))
  | fail "none")
local macro_rules | `(tactic| walk_at "ne") => `(tactic| first
  | assumption
  | (apply Ne.symm; assumption)
  | walk_at "nn"
  | (apply Ne.symm; walk_at "nn")
  | fail "none")
local macro_rules | `(tactic| walk_at "ni") => `(tactic| first
  | exact List.not_mem_nil
  | (apply ni1; walk_at "ne")
  | (apply ni2 <;> walk_at "ne")
  | (apply ni3 <;> walk_at "ne")
  | fail "none")
local macro_rules | `(tactic| walk_at "hp") => `(tactic| first
  | assumption
  | (apply Fr.gett; (case a => assumption); (case h => walk_at "hp"))
  | (apply Fr.getl; (case a => assumption); (case n => walk_at "ni"); (case h => walk_at "hp"))
  | (apply Fr.getd; (case a => assumption); (case n => walk_at "ni"); (case h => walk_at "hp"))
  | (apply Fr.geti; (case a => assumption); (case n => walk_at "ni"); (case h => walk_at "hp"))
  | fail "none")
local macro_rules | `(tactic| walk_at "sqs") => `(tactic| first
  | assumption
  | (apply Fr.sqln; (case a => assumption); (case n => walk_at "ni"); (case h => walk_at "sqs"))
  | fail "none")
local macro_rules | `(tactic| walk_at "sq") => `(tactic| first
  | assumption
  | (apply SqL.of; walk_at "hp")
  | (apply SqT.of; walk_at "hp")
  | walk_at "sqs"
  | fail "none")
local macro_rules | `(tactic| walk_at "fr") => `(tactic| first
  | exact Fr.refl
  | assumption
  | (apply Fr.mono; (case a => assumption); (case h => simp))
  | (apply fr_last; (case f => assumption); (case w => simp); (case g => walk_at "fr"))
  | fail "none")
local macro_rules | `(tactic| walk_at "st") => `(tactic| ((try dsimp only [cxOf, Cx.nox, Cx.wish]); (try simp only [L2.start, List.map_cons, List.map_nil, List.length_cons, List.length_nil, List.replicate, List.cons_append, List.nil_append, Nat.reduceAdd, Nat.reduceSub])))
local macro_rules | `(tactic| walk_at "lset") => `(tactic| (simp only [wipe, List.map_cons, List.map_nil, Int.reduceToNat, List.set_cons_zero, List.set_cons_succ] <;> rfl))
local macro_rules | `(tactic| walk_at "wk1") => `(tactic| first
  | with_reducible refine' w_seq ?_
  | with_reducible refine' w_asg ?_
  | ((with_reducible refine' w_name ?hs ?_); (case hs => walk_at "lset"))
  | ((with_reducible refine' w_var ?hv ?_); (case hv => rfl))
  | with_reducible refine' w_c ?_
  | with_reducible refine' w_op ?_
  | with_reducible refine' w_un ?_
  | with_reducible refine' w_test ?_
  | with_reducible refine' w_tB ?_
  | with_reducible refine' w_exbl ?_
  | with_reducible refine' w_exint ?_
  | with_reducible refine' w_t ?_
  | with_reducible refine' w_f ?_
  | with_reducible refine' w_ifS ?_
  | with_reducible refine' w_if ?_
  | with_reducible refine' w_and ?_
  | with_reducible refine' w_or ?_
  | with_reducible refine' w_not ?_
  | with_reducible refine' w_andV ?_
  | with_reducible refine' w_orV ?_
  | with_reducible refine' w_notV ?_
  | with_reducible refine' w_ret ?_
  | with_reducible refine' w_retN ?_
  | with_reducible refine' w_drop ?_
  | with_reducible refine' w_next ?_
  | with_reducible refine' w_nil ?_
  | with_reducible refine' w_cons ?_
  | with_reducible refine' w_cb ?_
  | with_reducible refine' w_call ?_
  | with_reducible refine' w_gsub ?_
  | with_reducible refine' w_gnil ?_
  | with_reducible refine' w_gcons ?_
  | ((with_reducible refine' w_gtup ?hs ?hn ?_); (case hs => walk_at "sq"); (case hn => rfl))
  | with_reducible refine' w_fld ?_
  | with_reducible refine' w_tfld ?_
  | with_reducible refine' w_sl ?_
  | with_reducible refine' w_nopart ?_
  | with_reducible refine' w_part ?_
  | with_reducible refine' w_bm ?_
  | with_reducible refine' w_bm0 ?_
  | with_reducible refine' w_yes ?_
  | with_reducible refine' w_tup ?_
  | with_reducible refine' w_lst ?_
  | with_reducible refine' w_I0 ?_
  | ((with_reducible refine' w_I ?hc ?_); (case hc => (first | (show (0 : Int) < _; first | decide | omega | assumption) | exact wide_div (by first | assumption | decide) (b := 200) (by first | assumption | decide) (by decide) (by decide) | exact wide_mul (a := 64) (b := 64) (by omega) (by omega) (by decide) (by decide) (by decide) | exact ⟨by decide, by decide, by decide⟩)))
  | ((with_reducible refine' w_eq ?he ?_); (case he => rfl))
  | ((with_reducible refine' w_ne ?he ?_); (case he => rfl))
  | ((with_reducible refine' w_ixL ?hs ?ha ?_); (case hs => walk_at "sq"); (case ha => rfl))
  | ((with_reducible refine' w_ixT ?hs ?ha ?_); (case hs => walk_at "sq"); (case ha => rfl))
  | ((with_reducible refine' w_lenL ?hs ?he ?_); (case hs => walk_at "sq"); (case he => first | (simp only [List.length_cons, List.length_nil, List.length_map]; rfl) | rfl))
  | ((with_reducible refine' w_lenT ?hs ?he ?_); (case hs => walk_at "sq"); (case he => first | (simp only [List.length_cons, List.length_nil, List.length_map]; rfl) | rfl))
  | ((with_reducible refine' w_setL ?hh ?hk ?he (fun H1 f1 g1 => ?_)); (case hh => walk_at "hp"); (case hk => rfl); (case he => walk_at "lset"))
  | ((with_reducible refine' w_newT ?hl (fun p H1 n1 f1 g1 => ?_)); (case hl => (first | decide | (simp only [List.length_cons, List.length_nil]; decide))))
  | ((with_reducible refine' w_newL ?hl (fun p H1 n1 f1 g1 => ?_)); (case hl => (first | decide | (simp only [List.length_cons, List.length_nil]; decide))))
  | with_reducible refine' w_for ?_
  | with_reducible refine' w_ilist ?_
  | ((with_reducible refine' w_ilb ?hs ?_); (case hs => walk_at "sq"))
  | with_reducible refine' w_itup ?_
  | ((with_reducible refine' w_itb ?hs ?_); (case hs => walk_at "sq"))
  | with_reducible refine' w_rng1 ?_
  | ((with_reducible refine' w_rgb1 ?h0 ?h1 ?_); (case h0 => first | decide | omega); (case h1 => first | decide | omega))
  | with_reducible refine' w_lc ?_
  | ((with_reducible refine' w_wipe ?hw ?_); (case hw => rfl))
  | ((with_reducible refine' w_cat ?ha ?hb ?hl (fun p H1 n1 f1 g1 => ?_)); (case ha => walk_at "hp"); (case hb => walk_at "hp"); (case hl => (first | decide | (simp only [List.length_cons, List.length_nil]; decide))))
  | with_reducible refine' w_dget ?_
  | with_reducible refine' w_din ?_
  | with_reducible refine' w_dnotin ?_
  | with_reducible refine' w_dput ?_
  | with_reducible refine' w_dnew ?_
  | with_reducible refine' w_newD (fun p H1 n1 f1 g1 => ?_)
  | ((with_reducible refine' w_slT ?hs ?hn ?he (fun p H1 n1 f1 g1 => ?_)); (case hs => walk_at "sq"); (case hn => decide); (case he => rfl))
  | with_reducible refine' w_meth ?_
  | with_reducible refine' w_make ?_
  | with_reducible refine' w_mkb (fun x dx H1 n1 m1 d1 f1 g1 => ?_)
  | with_reducible refine' w_fldaug ?_
  | with_reducible refine' w_tru ?_
  | ((with_reducible refine' w_trl ?hh ?_); (case hh => walk_at "hp"))
  | with_reducible refine' w_whb ?_
  | with_reducible refine' w_chain ?_
  | with_reducible refine' w_tyIs ?_
  | with_reducible refine' w_raise ?_
  | with_reducible refine' w_rab ?_
  | with_reducible refine' w_jn ?_
  | with_reducible refine' w_js ?_
  | with_reducible refine' w_jsn ?_
  | with_reducible refine' w_fmt ?_
  | with_reducible refine' w_isN ?_
  | with_reducible refine' w_intB ?_
  | with_reducible refine' w_istr ?_
  | with_reducible refine' w_stb ?_
  | ((with_reducible refine' w_inT ?hs ?hx ?ha ?_); (case hs => walk_at "sq"); (case hx => rfl); (case ha => rfl))
  | ((with_reducible refine' w_isf ?hd ?_); (case hd => decide +kernel))
  | ((with_reducible refine' w_ist ?hd ?_); (case hd => decide +kernel))
  | fail "none")
local macro_rules | `(tactic| walk_at "wk") => `(tactic| repeat walk_at "wk1")

section
variable {P : Program} {w : World} {K : PySem.W.Frag} {mg : Str → Option Value} {base : Heap} {f : Addr} {fd : FuncData}
theorem none_df {sp : Sp} {ps : List Str} {k : Nat} (no : ∀ vs H Q E, ¬ sp vs H Q E) : FnOk P w K mg base CX0 k f fd ps sp :=
  ⟨fun vs H Q E h => absurd h (no vs H Q E), fun A outer s H args us vs Q E _ _ _ _ h => absurd h (no vs H Q E)⟩
theorem sc_law_quiet : FnScope ["_law_part"] ["_law_part"] (defScope s_law_quiet) := ⟨rfl, rfl, rfl, by decide +kernel, rfl, by decide +kernel, by decide +kernel⟩
theorem ok_quiet {n : Nat} (F : Fun K "_law_quiet" "_law_quiet" s_law_quiet f fd) (Z : Blt mg)
    (D_law_quiet : Df P w K mg base CX0 n "_law_quiet" ["_law_part"] (spQuiet n)) : FnOk P w K mg base CX0 (n + 1) f fd ["_law_part"] (spQuiet (n + 1)) := by
  refine F.ok sc_law_quiet (fun vs H Q E h => ?_) (fun cdv A outer s H vs Q E hr h => ?_)
  · obtain ⟨v, s, rfl, _⟩ := h
    rfl
  obtain ⟨v, s, rfl, hs, hd, k⟩ := h
  refine ⟨_, (pss_cons (ps_if (pt_cmpR op_eq (pe_ix (r := rIxT K) ix_tup (pv 0) pe_int (fun _ _ => rfl)) pe_str (nomark _)) (pss_one (ps_ret (pe_tup (pa_cons pe_str (pa_cons pe_int pa_nil))))) pss_nil)
  (pss_cons (ps_if (pt_cmpR op_eq (pe_ix (r := rIxT K) ix_tup (pv 0) pe_int (fun _ _ => rfl)) pe_str (nomark _)) (pss_one (ps_ret (pe_df D_law_quiet hr (by first | decide | omega) (pa_cons (pe_ix (r := rIxT K) ix_tup (pv 0) pe_int (fun _ _ => rfl)) pa_nil)))) pss_nil)
  (pss_cons (ps_if (pt_cmpR (r := rIn K false) op_in_seq (pe_ix (r := rIxT K) ix_tup (pv 0) pe_int (fun _ _ => rfl)) (pe_tup (pa_cons pe_str (pa_cons pe_str pa_nil))) rfl) (pss_one (ps_ret (pv 0))) pss_nil)
  (pss_one (ps_ret (pe_tup (pa_cons (pe_ix (r := rIxT K) ix_tup (pv 0) pe_int (fun _ _ => rfl)) (pa_cons (pe_df D_law_quiet hr (by first | decide | omega) (pa_cons (pe_ix (r := rIxT K) ix_tup (pv 0) pe_int (fun _ _ => rfl)) pa_nil)) (pa_cons (pe_df D_law_quiet hr (by first | decide | omega) (pa_cons (pe_ix (r := rIxT K) ix_tup (pv 0) pe_int (fun _ _ => rfl)) pa_nil)) pa_nil))))))))), ?_⟩
  walk_at "st"
  cases s with
  | num m =>
    obtain ⟨p, rfl, hp⟩ := hs
    walk_at "wk"
    exact k _ _ ⟨p, rfl, by walk_at "hp"⟩ (by walk_at "fr")
  | name c =>
    obtain ⟨p, rfl, hp⟩ := hs
    walk_at "wk"
    exact k _ _ ⟨p, rfl, by walk_at "hp"⟩ (by walk_at "fr")
  | ask =>
    obtain ⟨p, rfl, hp⟩ := hs
    walk_at "wk"
    exact k _ _ ⟨_, rfl, by walk_at "hp"⟩ (by walk_at "fr")
  | say s =>
    obtain ⟨p, x, rfl, hp, hx⟩ := hs
    walk_at "wk"
    exact u_quiet (by walk_at "su") (Nat.le_of_succ_le_succ hd) k
  | bin o a b =>
    obtain ⟨p, x, y, rfl, hp, hx, hy⟩ := hs
    have hd' : max a.depth b.depth ≤ n := Nat.le_of_succ_le_succ hd
    cases o
    all_goals
      walk_at "wk"
      refine u_quiet (by walk_at "su") (by omega) (fun v1 H1 q1 f1 => ?_)
      walk_at "wk"
      refine u_quiet (by walk_at "su") (by omega) (fun v2 H2 q2 f2 => ?_)
      walk_at "wk"
      exact k _ _ ⟨_, _, _, rfl, by walk_at "hp", by walk_at "su", by walk_at "su"⟩ (by walk_at "fr")
theorem sc_law_parts : FnScope ["_law_part", "_law_one"] ["_law_part"] (defScope s_law_parts) := ⟨rfl, rfl, rfl, by decide +kernel, rfl, by decide +kernel, by decide +kernel⟩
theorem ok_parts (F : Fun K "_law_parts" "_law_parts" s_law_parts f fd) (Z : Blt mg) : FnOk P w K mg base CX0 1 f fd ["_law_part"] spParts := by
  refine F.ok sc_law_parts (fun vs H Q E h => ?_) (fun cdv A outer s H vs Q E hr h => ?_)
  · obtain ⟨v, s, rfl, _⟩ := h
    rfl
  obtain ⟨v, s, rfl, hs, k⟩ := h
  refine ⟨_, (pss_one (ps_ret (pe_lc (own := [("_law_one", 1)]) (g := gName 1) (by rfl) sc_law_parts.nd (pi_tup (pe_slice (r := rSlT K) sl_tup (pv 0) (po_some pe_int) po_none)) (blkOk_by (own := [("_law_one", 1)]) (N := ["_law_part", "_law_one"]) (sc := defScope s_law_parts) (by decide +kernel)) (fun _ _ _ _ _ => pg_name (i := 1) sc_law_parts.nd rfl (Or.inl rfl)) (fun _ _ _ _ _ => (pts_one (pt_val (pe_callB (id := "isinstance") (r := rIsi K) call_isi (by rfl) Z.isinstance (by decide +kernel) (pa_cons (pv 1) (pa_cons (pe_bltn (v := .ty "tuple") (u := .type "tuple") rfl Z.tuple (by decide +kernel) rfl) pa_nil))) (fun _ => rfl)))) (fun _ _ _ _ _ => (pv 1))))), ?_⟩
  walk_at "st"
  -- the tail of the tuple: which of its items are sums
  obtain ⟨p, wd, xs, rfl, hp, hl, hi⟩ : ∃ (p : Addr) (wd : V) (xs : List V), v = .ref p ∧ H p = some (.tup (wd :: xs)) ∧ xs.length ≤ 2 ∧
      ((AllSum H xs s.subs) ∨ (s.subs = [] ∧ ∃ x, xs = [x] ∧ ((∃ j, x = .int j) ∨ ∃ z, x = .str z))) := by
    cases s with
    | num m => obtain ⟨p, rfl, hp⟩ := hs; exact ⟨p, _, _, rfl, hp, by simp, .inr ⟨rfl, _, rfl, .inl ⟨_, rfl⟩⟩⟩
    | name c => obtain ⟨p, rfl, hp⟩ := hs; exact ⟨p, _, _, rfl, hp, by simp, .inr ⟨rfl, _, rfl, .inr ⟨_, rfl⟩⟩⟩
    | ask => obtain ⟨p, rfl, hp⟩ := hs; exact ⟨p, _, _, rfl, hp, by decide, .inl trivial⟩
    | say s => obtain ⟨p, x, rfl, hp, hx⟩ := hs; exact ⟨p, _, _, rfl, hp, by simp, .inl ⟨hx, trivial⟩⟩
    | bin o a b => obtain ⟨p, x, y, rfl, hp, hx, hy⟩ := hs; exact ⟨p, _, _, rfl, hp, by simp, .inl ⟨hx, hy, trivial⟩⟩
  walk_at "wk"
  refine w_slT (SqT.of hp) (tail_not wd xs) (cut_tail wd xs) (fun t H1 n1 f1 g1 => ?_)
  walk_at "wk"
  rcases hi with hi | ⟨e, x, rfl, hx⟩
  · have hi1 : AllSum H1 xs s.subs := by walk_at "as"
    refine lcT (xs := xs) (fun D i acc H' => acc = xs.take i ∧ Fr [D] H1 H') (fun D H' hD f g => ⟨rfl, f.nil⟩) (fun D i acc H' hD ⟨_, f⟩ => by walk_at "sq") (fun D i x acc H' hD hx hlt ha hA ⟨e, f⟩ => ?_) (fun D acc H' hD hA hn ⟨e, f⟩ => ?_)
    · obtain ⟨u, hu, hxu⟩ := hi1.at hx
      obtain ⟨q, ys, rfl, hq⟩ := hxu.tup
      walk_at "wk"
      refine w_isi (ty_tup (by walk_at "hp")) (show kitB "tuple" "tuple" = some true by decide +kernel) ?_
      walk_at "wk"
      refine lcE hA ha (by omega) (fun H5 f5 g5 => ⟨?_, by walk_at "fr"⟩)
      rw [take_snoc hx, e]
    · rw [List.take_length] at e
      subst e
      have f0 := f.drop hD
      exact k D acc H' (f1.back hD) hA (hi1.mono f) (by walk_at "fr")
  · refine lcT (xs := [x]) (fun D i acc H' => acc = [] ∧ Fr [D] H1 H') (fun D H' hD f g => ⟨rfl, f.nil⟩) (fun D i acc H' hD ⟨_, f⟩ => by walk_at "sq") (fun D i y acc H' hD hy hlt ha hA ⟨e, f⟩ => ?_) (fun D acc H' hD hA hn ⟨e, f⟩ => ?_)
    · have ei : i = 0 := by simp at hlt; exact hlt
      subst ei
      obtain rfl : x = y := Option.some.inj hy
      walk_at "wk"
      rcases hx with ⟨j, rfl⟩ | ⟨z, rfl⟩
      · refine w_isi ty_int (show kitB "int" "tuple" = some false by decide +kernel) ?_
        walk_at "wk"
        exact lcN hA ha ⟨e, f⟩
      · refine w_isi ty_str (show kitB "str" "tuple" = some false by decide +kernel) ?_
        walk_at "wk"
        exact lcN hA ha ⟨e, f⟩
    · subst e
      have f0 := f.drop hD
      exact k D [] H' (f1.back hD) hA (by rw [‹s.subs = []›]; trivial) (by walk_at "fr")
theorem sc_law_all : FnScope ["_law_part", "_law_found", "_law_one"] ["_law_part"] (defScope s_law_all) := ⟨rfl, rfl, rfl, by decide +kernel, rfl, by decide +kernel, by decide +kernel⟩
theorem ok_all {n : Nat} (F : Fun K "_law_all" "_law_all" s_law_all f fd) (Z : Blt mg) (D_law_parts : Df P w K mg base CX0 1 "_law_parts" ["_law_part"] spParts)
    (D_law_all : Df P w K mg base CX0 (n + 1) "_law_all" ["_law_part"] (spAll n)) : FnOk P w K mg base CX0 (n + 2) f fd ["_law_part"] (spAll (n + 1)) := by
  refine F.ok sc_law_all (fun vs H Q E h => ?_) (fun cdv A outer s H vs Q E hr h => ?_)
  · obtain ⟨v, s, rfl, _⟩ := h
    rfl
  obtain ⟨v, s, rfl, hs, hd, hz, k⟩ := h
  refine ⟨_, (pss_cons (ps_set (i := 1) sc_law_all.nd rfl (Or.inl rfl) (pe_lst (pa_cons (pv 0) pa_nil)))
  (pss_cons (ps_for PassesOwn.never rfl (pi_list (pe_df D_law_parts hr (by first | decide | omega) (pa_cons (pv 0) pa_nil))) (pg_name (i := 2) sc_law_all.nd rfl (Or.inl rfl)) (pss_one (ps_set (i := 1) sc_law_all.nd rfl (Or.inl rfl) (pe_op op_cat (pv 1) (pe_df D_law_all hr (by first | decide | omega) (pa_cons (pv 2) pa_nil))))))
  (pss_one (ps_ret (pv 1))))), ?_⟩
  walk_at "st"
  walk_at "wk"
  refine u_parts (by walk_at "su") (fun p us H2 n2 g2 a2 f2 => ?_)
  walk_at "wk"
  rename_i q H1 n1 f1 g1
  refine forL (xs := us) (fun i σ H' => ∃ (c : Addr) (ws : List V) (o : Option V), σ = [some v, some (.ref c), o] ∧ H' c = some (.lst ws) ∧ AllSum H' ws (s :: (s.subs.take i).flatMap Sm.all) ∧ Fr [] H2 H' ∧ H c = none)
    ⟨q, [v], _, rfl, by walk_at "hp", ⟨by walk_at "su", trivial⟩, .refl, n1⟩ (fun i σ H' _ ⟨c, ws, o, e, hc, ha, f, n⟩ => by walk_at "sq") ?_ ?_
  · rintro i x σ H' hx ⟨c, ws, o, rfl, hc, ha, f, n⟩
    obtain ⟨u, hu, hxu⟩ := a2.at hx
    have hm := List.mem_of_getElem? hu
    walk_at "wk"
    refine u_all (by walk_at "su") (by have := Sm.subs_depth hm; omega) (by have := Sm.subs_size hm; omega) (fun p3 us3 H3 n3 g3 a3 f3 => ?_)
    have hlen : ws.length + us3.length ≤ 100000 := by
      have h1 := ha.length
      have h2 := a3.length
      rw [List.length_cons] at h1
      have h3 := subs_all_len s i
      have h4 := Sm.all_length u
      have h5 := Sm.subs_size hm
      omega
    refine w_cat (by walk_at "hp") (by walk_at "hp") hlen (fun c2 H4 n4 f4 g4 => ?_)
    walk_at "wk"
    refine ⟨c2, _, _, rfl, g4, ?_, by walk_at "fr", ?_⟩
    · have e : s :: (s.subs.take (i + 1)).flatMap Sm.all = (s :: (s.subs.take i).flatMap Sm.all) ++ u.all := by
        rw [take_snoc hu, List.flatMap_append]
        simp
      rw [e]
      exact AllSum.app (by walk_at "as") (by walk_at "as")
    · exact Fr.back (show Fr [] H H3 by walk_at "fr") n4
  · rintro σ H' ⟨c, ws, o, rfl, hc, ha, f, n⟩
    walk_at "wk"
    refine k c ws H' n hc ?_ (by walk_at "fr")
    have e : s.subs.take us.length = s.subs := by rw [a2.length, List.take_length]
    rw [e, ← Sm.all_eq] at ha
    exact ha
end
end My
namespace My
open PySem L2 Wk
local macro_rules | `(tactic| walk_at "hs") => `(tactic| first
  | assumption
  | (apply fr_st0; (case f => assumption); (case h => walk_at "hs"))
  | (apply fr_st1; (case f => assumption); (case n => walk_at "ne"); (case hw => first | assumption | exact List.mem_cons_self); (case h => walk_at "hs"))
  | fail "none")
local macro_rules | `(tactic| walk_at "nn") => `(tactic| first
  | (apply nn_st; (case n => assumption); (case h => walk_at "hs"))
  | (apply nn_l; (case n => assumption); (case h => walk_at "hp"))
  | (apply nn_d; (case n => assumption); (case h => walk_at "hp"))
  | (apply nn_i; (case n => assumption); (case h => walk_at "hp"))
  | fail "none")
local macro_rules | `(tactic| walk_at "su") => `(tactic| first
  | assumption
  | (apply fr_su; (case f => assumption); (case h => walk_at "su"))
  | fail "none")
local macro_rules | `(tactic| walk_at "as") => `(tactic| first
  | assumption
  | (apply fr_as; (case f => assumption); (case h => walk_at "as"))
  | fail "none")
local macro_rules | `(tactic| walk_at "ef") => `(tactic| first
  | assumption
  | (apply fr_ef0; (case f => assumption); (case h => walk_at "ef"))
  | (apply fr_ef; (case f => assumption); (case n1 => walk_at "ni"); (case n2 => walk_at "ni"); (case n3 => walk_at "ni"); (case h => walk_at "ef"))
  | fail "none")
local macro_rules | `(tactic| walk_at "td") => `(tactic| first
  | assumption
  | (apply fr_td0; (case f => assumption); (case h => walk_at "td"))
  | (apply fr_td; (case f => assumption); (case n1 => walk_at "ni"); (case n2 => walk_at "ni"); (case n3 => walk_at "ni"); (case h => walk_at "td"))
  | fail "none")
local macro_rules | `(tactic| walk_at "sk") => `(tactic| first
  | assumption
  | (apply fr_stk; (case f => assumption); (case a => walk_at "sk"))
  | fail "none")
local macro_rules | `(tactic| walk_at "al") => `(tactic| first
  | assumption
  | (apply fr_al; (case f => assumption); (case h => walk_at "al"))
  | fail "none")
local macro_rules | `(tactic| walk_at "nv") => `(tactic| first
  | assumption
  | (apply fr_nv; (case a => assumption); (case n => walk_at "ni"); (case h => walk_at "nv"))
  | fail "none")
local macro_rules | `(tactic| walk_at "ne") => `(tactic| first
  | assumption
  | (apply Ne.symm; assumption)
  | walk_at "nn"
  | (apply Ne.symm; walk_at "nn")
  | fail "none")
local macro_rules | `(tactic| walk_at "ni") => `(tactic| first
  | exact List.not_mem_nil
  | (apply ni1; walk_at "ne")
  | (apply ni2 <;> walk_at "ne")
  | (apply ni3 <;> walk_at "ne")
  | fail "none")
local macro_rules | `(tactic| walk_at "hp") => `(tactic| first
  | assumption
  | (apply Fr.gett; (case a => assumption); (case h => walk_at "hp"))
  | (apply Fr.getl; (case a => assumption); (case n => walk_at "ni"); (case h => walk_at "hp"))
  | (apply Fr.getd; (case a => assumption); (case n => walk_at "ni"); (case h => walk_at "hp"))
  | (apply Fr.geti; (case a => assumption); (case n => walk_at "ni"); (case h => walk_at "hp"))
  | fail "none")
local macro_rules | `(tactic| walk_at "sqs") => `(tactic| first
  | assumption
  | (apply Fr.sqln; (case a => assumption); (case n => walk_at "ni"); (case h => walk_at "sqs"))
  | fail "none")
local macro_rules | `(tactic| walk_at "sq") => `(tactic| first
  | assumption
  | (apply SqL.of; walk_at "hp")
  | (apply SqT.of; walk_at "hp")
  | walk_at "sqs"
  | fail "none")
local macro_rules | `(tactic| walk_at "fr") => `(tactic| first
  | exact Fr.refl
  | assumption
  | (apply Fr.mono; (case a => assumption); (case h => simp))
  | (apply fr_last; (case f => assumption); (case w => simp); (case g => walk_at "fr"))
  | fail "none")
local macro_rules | `(tactic| walk_at "st") => `(tactic| ((try dsimp only [cxOf, Cx.nox, Cx.wish]); (try simp only [L2.start, List.map_cons, List.map_nil, List.length_cons, List.length_nil, List.replicate, List.cons_append, List.nil_append, Nat.reduceAdd, Nat.reduceSub])))
local macro_rules | `(tactic| walk_at "lset") => `(tactic| (simp only [wipe, List.map_cons, List.map_nil, Int.reduceToNat, List.set_cons_zero, List.set_cons_succ] <;> rfl))
local macro_rules | `(tactic| walk_at "wk1") => `(tactic| first
  | with_reducible refine' w_seq ?_
  | with_reducible refine' w_asg ?_
  | ((with_reducible refine' w_name ?hs ?_); (case hs => walk_at "lset"))
  | ((with_reducible refine' w_var ?hv ?_); (case hv => rfl))
  | with_reducible refine' w_c ?_
  | with_reducible refine' w_op ?_
  | with_reducible refine' w_un ?_
  | with_reducible refine' w_test ?_
  | with_reducible refine' w_tB ?_
  | with_reducible refine' w_exbl ?_
  | with_reducible refine' w_exint ?_
  | with_reducible refine' w_t ?_
  | with_reducible refine' w_f ?_
  | with_reducible refine' w_ifS ?_
  | with_reducible refine' w_if ?_
  | with_reducible refine' w_and ?_
  | with_reducible refine' w_or ?_
  | with_reducible refine' w_not ?_
  | with_reducible refine' w_andV ?_
  | with_reducible refine' w_orV ?_
  | with_reducible refine' w_notV ?_
  | with_reducible refine' w_ret ?_
  | with_reducible refine' w_retN ?_
  | with_reducible refine' w_drop ?_
  | with_reducible refine' w_next ?_
  | with_reducible refine' w_nil ?_
  | with_reducible refine' w_cons ?_
  | with_reducible refine' w_cb ?_
  | with_reducible refine' w_call ?_
  | with_reducible refine' w_gsub ?_
  | with_reducible refine' w_gnil ?_
  | with_reducible refine' w_gcons ?_
  | ((with_reducible refine' w_gtup ?hs ?hn ?_); (case hs => walk_at "sq"); (case hn => rfl))
  | with_reducible refine' w_fld ?_
  | with_reducible refine' w_tfld ?_
  | with_reducible refine' w_sl ?_
  | with_reducible refine' w_nopart ?_
  | with_reducible refine' w_part ?_
  | with_reducible refine' w_bm ?_
  | with_reducible refine' w_bm0 ?_
  | with_reducible refine' w_yes ?_
  | with_reducible refine' w_tup ?_
  | with_reducible refine' w_lst ?_
  | with_reducible refine' w_I0 ?_
  | ((with_reducible refine' w_I ?hc ?_); (case hc => (first | (show (0 : Int) < _; first | decide | omega | assumption) | exact wide_div (by first | assumption | decide) (b := 200) (by first | assumption | decide) (by decide) (by decide) | exact wide_mul (a := 64) (b := 64) (by omega) (by omega) (by decide) (by decide) (by decide) | exact ⟨by decide, by decide, by decide⟩)))
  | ((with_reducible refine' w_eq ?he ?_); (case he => rfl))
  | ((with_reducible refine' w_ne ?he ?_); (case he => rfl))
  | ((with_reducible refine' w_ixL ?hs ?ha ?_); (case hs => walk_at "sq"); (case ha => rfl))
  | ((with_reducible refine' w_ixT ?hs ?ha ?_); (case hs => walk_at "sq"); (case ha => rfl))
  | ((with_reducible refine' w_lenL ?hs ?he ?_); (case hs => walk_at "sq"); (case he => first | (simp only [List.length_cons, List.length_nil, List.length_map]; rfl) | rfl))
  | ((with_reducible refine' w_lenT ?hs ?he ?_); (case hs => walk_at "sq"); (case he => first | (simp only [List.length_cons, List.length_nil, List.length_map]; rfl) | rfl))
  | ((with_reducible refine' w_setL ?hh ?hk ?he (fun H1 f1 g1 => ?_)); (case hh => walk_at "hp"); (case hk => rfl); (case he => walk_at "lset"))
  | ((with_reducible refine' w_newT ?hl (fun p H1 n1 f1 g1 => ?_)); (case hl => (first | decide | (simp only [List.length_cons, List.length_nil]; decide))))
  | ((with_reducible refine' w_newL ?hl (fun p H1 n1 f1 g1 => ?_)); (case hl => (first | decide | (simp only [List.length_cons, List.length_nil]; decide))))
  | with_reducible refine' w_for ?_
  | with_reducible refine' w_ilist ?_
  | ((with_reducible refine' w_ilb ?hs ?_); (case hs => walk_at "sq"))
  | with_reducible refine' w_itup ?_
  | ((with_reducible refine' w_itb ?hs ?_); (case hs => walk_at "sq"))
  | with_reducible refine' w_rng1 ?_
  | ((with_reducible refine' w_rgb1 ?h0 ?h1 ?_); (case h0 => first | decide | omega); (case h1 => first | decide | omega))
  | with_reducible refine' w_lc ?_
  | ((with_reducible refine' w_wipe ?hw ?_); (case hw => rfl))
  | ((with_reducible refine' w_cat ?ha ?hb ?hl (fun p H1 n1 f1 g1 => ?_)); (case ha => walk_at "hp"); (case hb => walk_at "hp"); (case hl => (first | decide | (simp only [List.length_cons, List.length_nil]; decide))))
  | with_reducible refine' w_dget ?_
  | with_reducible refine' w_din ?_
  | with_reducible refine' w_dnotin ?_
  | with_reducible refine' w_dput ?_
  | with_reducible refine' w_dnew ?_
  | with_reducible refine' w_newD (fun p H1 n1 f1 g1 => ?_)
  | ((with_reducible refine' w_slT ?hs ?hn ?he (fun p H1 n1 f1 g1 => ?_)); (case hs => walk_at "sq"); (case hn => decide); (case he => rfl))
  | with_reducible refine' w_meth ?_
  | with_reducible refine' w_make ?_
  | with_reducible refine' w_mkb (fun x dx H1 n1 m1 d1 f1 g1 => ?_)
  | with_reducible refine' w_fldaug ?_
  | with_reducible refine' w_tru ?_
  | ((with_reducible refine' w_trl ?hh ?_); (case hh => walk_at "hp"))
  | with_reducible refine' w_whb ?_
  | with_reducible refine' w_chain ?_
  | with_reducible refine' w_tyIs ?_
  | with_reducible refine' w_raise ?_
  | with_reducible refine' w_rab ?_
  | with_reducible refine' w_jn ?_
  | with_reducible refine' w_js ?_
  | with_reducible refine' w_jsn ?_
  | with_reducible refine' w_fmt ?_
  | with_reducible refine' w_isN ?_
  | with_reducible refine' w_intB ?_
  | with_reducible refine' w_istr ?_
  | with_reducible refine' w_stb ?_
  | ((with_reducible refine' w_inT ?hs ?hx ?ha ?_); (case hs => walk_at "sq"); (case hx => rfl); (case ha => rfl))
  | ((with_reducible refine' w_isf ?hd ?_); (case hd => decide +kernel))
  | ((with_reducible refine' w_ist ?hd ?_); (case hd => decide +kernel))
  | fail "none")
local macro_rules | `(tactic| walk_at "wk") => `(tactic| repeat walk_at "wk1")

section
variable {P : Program} {w : World} {K : PySem.W.Frag} {mg : Str → Option Value} {base : Heap} {f : Addr} {fd : FuncData}
theorem sc_law_names : FnScope ["_law_state", "_law_found", "_law_letter"] ["_law_state"] (defScope s_law_names) := ⟨rfl, rfl, rfl, by decide +kernel, rfl, by decide +kernel, by decide +kernel⟩
theorem ok_names (F : Fun K "_law_names" "_law_names" s_law_names f fd) (Z : Blt mg) (D_law_drawn : Df P w K mg base CX0 1 "_law_drawn" ["_law_state", "_law_many"] (spDrawn K)) : FnOk P w K mg base CX0 2 f fd ["_law_state"] (spNames K) := by
  refine F.ok sc_law_names (fun vs H Q E h => ?_) (fun cdv A outer s H vs Q E hr h => ?_)
  · obtain ⟨Ws, st, rfl, _⟩ := h
    rfl
  obtain ⟨Ws, st, rfl, hst, k⟩ := h
  refine ⟨_, (pss_cons (ps_set (i := 1) sc_law_names.nd rfl (Or.inl rfl) pe_dnewK)
  (pss_cons (ps_for PassesOwn.never rfl (pi_str pe_str) (pg_name (i := 2) sc_law_names.nd rfl (Or.inl rfl)) (pss_one (ps_dput (hu_of hr) (pv 1) (pv 2) (pe_ix (r := rIxL K) ix_list (pe_lst (pa_cons (pe_df D_law_drawn hr (by first | decide | omega) (pa_cons (pv 0) (pa_cons pe_int pa_nil))) (pa_cons (pe_df D_law_drawn hr (by first | decide | omega) (pa_cons (pv 0) (pa_cons pe_int pa_nil))) pa_nil))) (pe_df D_law_drawn hr (by first | decide | omega) (pa_cons (pv 0) (pa_cons pe_int pa_nil))) (fun _ _ => rfl)) rfl)))
  (pss_one (ps_ret (pv 1))))), ?_⟩
  walk_at "st"
  walk_at "wk"
  rename_i p H1 n1 f1 g1
  have np : st ≠ p := by walk_at "ne"
  refine forS (fun i σ H' => ∃ (fn : Str → Int) (o : Option V), σ = [some (.ref st), some (.ref p), o] ∧ H' p = some (.dK (nkv fn (letters.take i))) ∧ (∀ c, 0 ≤ fn c ∧ fn c < 1000) ∧ StAt K (p :: Ws) H' st ∧ Fr [p, st] H1 H')
    ⟨fun _ => 0, _, rfl, g1, fun c => ⟨Int.le_refl 0, by show (0 : Int) < 1000; decide⟩, hst.more f1 n1, .refl⟩ ?_ ?_
  · rintro i c σ H' hc ⟨fn, o, rfl, hd, hb, hs, ff⟩
    have hl := sign_at hc
    walk_at "wk"
    refine u_drawn (by walk_at "hs") (by decide) (by decide) (fun v1 H2 a2 b2 s2 f2 => ?_)
    walk_at "wk"
    refine u_drawn (by walk_at "hs") (by decide) (by decide) (fun v2 H3 a3 b3 s3 f3 => ?_)
    walk_at "wk"
    refine u_drawn (by walk_at "hs") (by decide) (by decide) (fun v3 H4 a4 b4 s4 f4 => ?_)
    obtain ⟨v, e4, hv⟩ := idx2 (a := v1) (b := v2) a4 b4
    refine w_ixL (by walk_at "sq") e4 ?_
    walk_at "wk"
    refine w_dps (by walk_at "hp") (by unfold nkv; rw [List.length_map, List.length_take]; exact Nat.lt_of_le_of_lt (Nat.min_le_right _ _) (by decide)) (fun H5 f5 g5 => ?_)
    rw [nkv_put (letter_new hl), ← take_snoc hl] at g5
    refine ⟨_, _, rfl, g5, fun x => ?_, by walk_at "hs", by walk_at "fr"⟩
    by_cases e : x = ⟨#[c]⟩
    · rw [if_pos e]; omega
    · rw [if_neg e]; exact hb x
  · rintro σ H' ⟨fn, o, rfl, hd, hb, hs, ff⟩
    walk_at "wk"
    rw [sign_size] at hd
    have e : letters.take 6 = letters := rfl
    rw [e] at hd
    exact k p fn H' n1 ⟨hd, hb⟩ (hs.less fun b hb => List.mem_cons_of_mem _ hb) (f1.nil.trans (ff.mono (by simp)) |>.drop n1)
theorem sc_law_given : FnScope ["_law_state", "_law_k"] ["_law_state"] (defScope s_law_given) := ⟨rfl, rfl, rfl, by decide +kernel, rfl, by decide +kernel, by decide +kernel⟩
theorem ok_given (F : Fun K "_law_given" "_law_given" s_law_given f fd) (Z : Blt mg) (D_law_drawn : Df P w K mg base CX0 1 "_law_drawn" ["_law_state", "_law_many"] (spDrawn K)) : FnOk P w K mg base CX0 2 f fd ["_law_state"] (spGiven K) := by
  refine F.ok sc_law_given (fun vs H Q E h => ?_) (fun cdv A outer s H vs Q E hr h => ?_)
  · obtain ⟨Ws, st, rfl, _⟩ := h
    rfl
  obtain ⟨Ws, st, rfl, hst, k⟩ := h
  refine ⟨_, (pss_one (ps_ret (pe_lc (own := [("_law_k", 1)]) (g := gName 1) (tt := tYes) (by rfl) sc_law_given.nd (pi_range1 rfl Z.range (pa_cons (pe_op op_add pe_int (pe_df D_law_drawn hr (by first | decide | omega) (pa_cons (pv 0) (pa_cons pe_int pa_nil)))) pa_nil)) (blkOk_by (own := [("_law_k", 1)]) (N := ["_law_state", "_law_k"]) (sc := defScope s_law_given) (by decide +kernel)) (fun _ _ _ _ _ => pg_name (i := 1) sc_law_given.nd rfl (Or.inl rfl)) (fun _ _ _ _ _ => pts_nil) (fun _ _ _ _ _ => (pe_df D_law_drawn hr (by first | decide | omega) (pa_cons (pv 0) (pa_cons pe_int pa_nil))))))), ?_⟩
  walk_at "st"
  walk_at "wk"
  refine u_drawn hst (by decide) (by decide) (fun v1 H1 a1 b1 s1 f1 => ?_)
  walk_at "wk"
  refine lcR (fun D i acc H' => ∃ gs : List Int, acc = gs.map V.int ∧ gs.length = i ∧ (∀ g ∈ gs, 0 ≤ g ∧ g < 1000) ∧ StAt K (D :: Ws) H' st ∧ st ≠ D ∧ Fr [D, st] H1 H') (fun D H' hD f g => ⟨[], rfl, rfl, by simp, s1.more f hD, (nn_st hD s1).symm, f.nil⟩) (fun D i acc H' hD hlt ha hA ⟨gs, e, hn, hb, hs, nD, ff⟩ => ?_) (fun D acc H' hD hA hn ⟨gs, e, hn2, hb, hs, nD, ff⟩ => ?_)
  · walk_at "wk"
    refine u_drawn hs (by decide) (by decide) (fun v2 H2 a2 b2 s2 f2 => ?_)
    refine lcE (acc := acc) (by walk_at "hp") ha (by omega) (fun H5 f5 g5 => ⟨gs ++ [v2], by rw [e, List.map_append]; rfl, by rw [List.length_append, hn]; rfl, fun g hg => ?_, by walk_at "hs", nD, by walk_at "fr"⟩)
    rcases List.mem_append.mp hg with q | q
    · exact hb g q
    · rw [List.mem_singleton.mp q]; exact ⟨a2, b2⟩
  · subst e
    have f0 : Fr [st] H1 H' := ff.drop hD
    have hD0 : H D = none := by
      cases e : H D with
      | none => rfl
      | some o =>
        have := f1.get e (by simpa using nD.symm)
        rw [hD] at this
        cases this
    exact k D gs H' hD0 ⟨hA, by omega, by omega, hb⟩ (hs.less fun b hb => List.mem_cons_of_mem _ hb) (f1.trans f0)
theorem sc_law_any : FnScope ["_law_state", "_law_part"] ["_law_state"] (defScope s_law_any) := ⟨rfl, rfl, rfl, by decide +kernel, rfl, by decide +kernel, by decide +kernel⟩
theorem ok_any (F : Fun K "_law_any" "_law_any" s_law_any f fd) (Z : Blt mg) (D_law_drawn : Df P w K mg base CX0 1 "_law_drawn" ["_law_state", "_law_many"] (spDrawn K))
    (D_law_sum : Df P w K mg base CX0 17 "_law_sum" ["_law_state", "_law_deep", "_law_room"] (spSum K 16)) (D_law_quiet : Df P w K mg base CX0 16 "_law_quiet" ["_law_part"] (spQuiet 16)) : FnOk P w K mg base CX0 18 f fd ["_law_state"] (spAny K) := by
  refine F.ok sc_law_any (fun vs H Q E h => ?_) (fun cdv A outer s H vs Q E hr h => ?_)
  · obtain ⟨Ws, st, rfl, _⟩ := h
    rfl
  obtain ⟨Ws, st, rfl, hst, k⟩ := h
  refine ⟨_, (pss_cons (ps_set (i := 1) sc_law_any.nd rfl (Or.inl rfl) (pe_df D_law_sum hr (by first | decide | omega) (pa_cons (pv 0) (pa_cons (pe_ix (r := rIxL K) ix_list (pe_lst (pa_cons pe_int (pa_cons pe_int (pa_cons pe_int (pa_cons pe_int pa_nil))))) (pe_df D_law_drawn hr (by first | decide | omega) (pa_cons (pv 0) (pa_cons pe_int pa_nil))) (fun _ _ => rfl)) (pa_cons (pe_lst (pa_cons (pe_ix (r := rIxL K) ix_list (pe_lst (pa_cons pe_int (pa_cons pe_int (pa_cons pe_int pa_nil)))) (pe_df D_law_drawn hr (by first | decide | omega) (pa_cons (pv 0) (pa_cons pe_int pa_nil))) (fun _ _ => rfl)) pa_nil)) pa_nil)))))
  (pss_one (ps_ret (pe_ifExp (pt_cmpR op_eq (pe_df D_law_drawn hr (by first | decide | omega) (pa_cons (pv 0) (pa_cons pe_int pa_nil))) pe_int (nomark _)) (pe_df D_law_quiet hr (by first | decide | omega) (pa_cons (pv 1) pa_nil)) (pv 1))))), ?_⟩
  walk_at "st"
  walk_at "wk"
  refine u_drawn (by walk_at "hs") (by decide) (by decide) (fun v1 H1 a1 b1 s1 f1 => ?_)
  obtain ⟨d, e1, hd⟩ := idx4i (a := 3) (b := 5) (c := 9) (d := 15) a1 b1
  refine w_ixL (by walk_at "sq") e1 ?_
  walk_at "wk"
  refine u_drawn (by walk_at "hs") (by decide) (by decide) (fun v2 H2 a2 b2 s2 f2 => ?_)
  obtain ⟨r, e2, hrr⟩ := idx3i (a := 8) (b := 20) (c := 60) a2 b2
  refine w_ixL (by walk_at "sq") e2 ?_
  walk_at "wk"
  rename_i rm H3 n3 f3 g3
  have s3 := s2.more f3 n3
  refine u_sum s3 List.mem_cons_self (by walk_at "hp") (by omega) (by omega) (by omega) (fun v s H4 q1 q2 q3 q4 q5 q6 f4 => ?_)
  have s4 := q6.less (Ws' := Ws) fun b hb => List.mem_cons_of_mem _ hb
  have f34 : Fr [st] H2 H4 := (f3.nil.trans (f4.mono (W' := [rm, st]) (by simp [or_comm]))).drop n3
  walk_at "wk"
  refine u_drawn s4 (by decide) (by decide) (fun v5 H5 a5 b5 s5 f5 => ?_)
  have dp : s.depth ≤ 15 := by omega
  walk_at "wk"
  refine w_iteI (fun c => ?_) (fun c => ?_)
  · walk_at "wk"
    refine u_quiet (by walk_at "su") (by omega) (fun v' H6 q7 f6 => ?_)
    exact k v' s.quiet H6 q7 (Sm.quiet_ok q2) (Nat.le_trans (Sm.quiet_depth s) dp) (Nat.le_trans (Sm.quiet_size s) (by omega)) (by walk_at "hs") (by walk_at "fr")
  · walk_at "wk"
    exact k v s H5 (by walk_at "su") q2 dp (by omega) s5 (by walk_at "fr")
end
end My
namespace My
open PySem L2 Wk
local macro_rules | `(tactic| walk_at "hs") => `(tactic| first
  | assumption
  | (apply fr_st0; (case f => assumption); (case h => walk_at "hs"))
  | (apply fr_st1; (case f => assumption); (case n => walk_at "ne"); (case hw => first | assumption | exact List.mem_cons_self); (case h => walk_at "hs"))
  | fail "none")
local macro_rules | `(tactic| walk_at "nn") => `(tactic| first
  | (apply nn_st; (case n => assumption); (case h => walk_at "hs"))
  | (apply nn_l; (case n => assumption); (case h => walk_at "hp"))
  | (apply nn_d; (case n => assumption); (case h => walk_at "hp"))
  | (apply nn_i; (case n => assumption); (case h => walk_at "hp"))
  | fail "none")
local macro_rules | `(tactic| walk_at "su") => `(tactic| first
  | assumption
  | (apply fr_su; (case f => assumption); (case h => walk_at "su"))
  | fail "none")
local macro_rules | `(tactic| walk_at "as") => `(tactic| first
  | assumption
  | (apply fr_as; (case f => assumption); (case h => walk_at "as"))
  | fail "none")
local macro_rules | `(tactic| walk_at "ef") => `(tactic| first
  | assumption
  | (apply fr_ef0; (case f => assumption); (case h => walk_at "ef"))
  | (apply fr_ef; (case f => assumption); (case n1 => walk_at "ni"); (case n2 => walk_at "ni"); (case n3 => walk_at "ni"); (case h => walk_at "ef"))
  | fail "none")
local macro_rules | `(tactic| walk_at "td") => `(tactic| first
  | assumption
  | (apply fr_td0; (case f => assumption); (case h => walk_at "td"))
  | (apply fr_td; (case f => assumption); (case n1 => walk_at "ni"); (case n2 => walk_at "ni"); (case n3 => walk_at "ni"); (case h => walk_at "td"))
  | fail "none")
local macro_rules | `(tactic| walk_at "sk") => `(tactic| first
  | assumption
  | (apply fr_stk; (case f => assumption); (case a => walk_at "sk"))
  | fail "none")
local macro_rules | `(tactic| walk_at "al") => `(tactic| first
  | assumption
  | (apply fr_al; (case f => assumption); (case h => walk_at "al"))
  | fail "none")
local macro_rules | `(tactic| walk_at "nv") => `(tactic| first
  | assumption
  | (apply fr_nv; (case a => assumption); (case n => walk_at "ni"); (case h => walk_at "nv"))
  | fail "none")
local macro_rules | `(tactic| walk_at "ne") => `(tactic| first
  | assumption
  | (apply Ne.symm; assumption)
  | walk_at "nn"
  | (apply Ne.symm; walk_at "nn")
  | fail "none")
local macro_rules | `(tactic| walk_at "ni") => `(tactic| first
  | exact List.not_mem_nil
  | (apply ni1; walk_at "ne")
  | (apply ni2 <;> walk_at "ne")
  | (apply ni3 <;> walk_at "ne")
  | fail "none")
local macro_rules | `(tactic| walk_at "hp") => `(tactic| first
  | assumption
  | (apply Fr.gett; (case a => assumption); (case h => walk_at "hp"))
  | (apply Fr.getl; (case a => assumption); (case n => walk_at "ni"); (case h => walk_at "hp"))
  | (apply Fr.getd; (case a => assumption); (case n => walk_at "ni"); (case h => walk_at "hp"))
  | (apply Fr.geti; (case a => assumption); (case n => walk_at "ni"); (case h => walk_at "hp"))
  | fail "none")
local macro_rules | `(tactic| walk_at "sqs") => `(tactic| first
  | assumption
  | (apply Fr.sqln; (case a => assumption); (case n => walk_at "ni"); (case h => walk_at "sqs"))
  | fail "none")
local macro_rules | `(tactic| walk_at "sq") => `(tactic| first
  | assumption
  | (apply SqL.of; walk_at "hp")
  | (apply SqT.of; walk_at "hp")
  | walk_at "sqs"
  | fail "none")
local macro_rules | `(tactic| walk_at "fr") => `(tactic| first
  | exact Fr.refl
  | assumption
  | (apply Fr.mono; (case a => assumption); (case h => simp))
  | (apply fr_last; (case f => assumption); (case w => simp); (case g => walk_at "fr"))
  | fail "none")
local macro_rules | `(tactic| walk_at "st") => `(tactic| ((try dsimp only [cxOf, Cx.nox, Cx.wish]); (try simp only [L2.start, List.map_cons, List.map_nil, List.length_cons, List.length_nil, List.replicate, List.cons_append, List.nil_append, Nat.reduceAdd, Nat.reduceSub])))
local macro_rules | `(tactic| walk_at "lset") => `(tactic| (simp only [wipe, List.map_cons, List.map_nil, Int.reduceToNat, List.set_cons_zero, List.set_cons_succ] <;> rfl))
local macro_rules | `(tactic| walk_at "wk1") => `(tactic| first
  | with_reducible refine' w_seq ?_
  | with_reducible refine' w_asg ?_
  | ((with_reducible refine' w_name ?hs ?_); (case hs => walk_at "lset"))
  | ((with_reducible refine' w_var ?hv ?_); (case hv => rfl))
  | with_reducible refine' w_c ?_
  | with_reducible refine' w_op ?_
  | with_reducible refine' w_un ?_
  | with_reducible refine' w_test ?_
  | with_reducible refine' w_tB ?_
  | with_reducible refine' w_exbl ?_
  | with_reducible refine' w_exint ?_
  | with_reducible refine' w_t ?_
  | with_reducible refine' w_f ?_
  | with_reducible refine' w_ifS ?_
  | with_reducible refine' w_if ?_
  | with_reducible refine' w_and ?_
  | with_reducible refine' w_or ?_
  | with_reducible refine' w_not ?_
  | with_reducible refine' w_andV ?_
  | with_reducible refine' w_orV ?_
  | with_reducible refine' w_notV ?_
  | with_reducible refine' w_ret ?_
  | with_reducible refine' w_retN ?_
  | with_reducible refine' w_drop ?_
  | with_reducible refine' w_next ?_
  | with_reducible refine' w_nil ?_
  | with_reducible refine' w_cons ?_
  | with_reducible refine' w_cb ?_
  | with_reducible refine' w_call ?_
  | with_reducible refine' w_gsub ?_
  | with_reducible refine' w_gnil ?_
  | with_reducible refine' w_gcons ?_
  | ((with_reducible refine' w_gtup ?hs ?hn ?_); (case hs => walk_at "sq"); (case hn => rfl))
  | with_reducible refine' w_fld ?_
  | with_reducible refine' w_tfld ?_
  | with_reducible refine' w_sl ?_
  | with_reducible refine' w_nopart ?_
  | with_reducible refine' w_part ?_
  | with_reducible refine' w_bm ?_
  | with_reducible refine' w_bm0 ?_
  | with_reducible refine' w_yes ?_
  | with_reducible refine' w_tup ?_
  | with_reducible refine' w_lst ?_
  | with_reducible refine' w_I0 ?_
  | ((with_reducible refine' w_I ?hc ?_); (case hc => (first | (show (0 : Int) < _; first | decide | omega | assumption) | exact wide_div (by first | assumption | decide) (b := 200) (by first | assumption | decide) (by decide) (by decide) | exact wide_mul (a := 64) (b := 64) (by omega) (by omega) (by decide) (by decide) (by decide) | exact ⟨by decide, by decide, by decide⟩)))
  | ((with_reducible refine' w_eq ?he ?_); (case he => rfl))
  | ((with_reducible refine' w_ne ?he ?_); (case he => rfl))
  | ((with_reducible refine' w_ixL ?hs ?ha ?_); (case hs => walk_at "sq"); (case ha => rfl))
  | ((with_reducible refine' w_ixT ?hs ?ha ?_); (case hs => walk_at "sq"); (case ha => rfl))
  | ((with_reducible refine' w_lenL ?hs ?he ?_); (case hs => walk_at "sq"); (case he => first | (simp only [List.length_cons, List.length_nil, List.length_map]; rfl) | rfl))
  | ((with_reducible refine' w_lenT ?hs ?he ?_); (case hs => walk_at "sq"); (case he => first | (simp only [List.length_cons, List.length_nil, List.length_map]; rfl) | rfl))
  | ((with_reducible refine' w_setL ?hh ?hk ?he (fun H1 f1 g1 => ?_)); (case hh => walk_at "hp"); (case hk => rfl); (case he => walk_at "lset"))
  | ((with_reducible refine' w_newT ?hl (fun p H1 n1 f1 g1 => ?_)); (case hl => (first | decide | (simp only [List.length_cons, List.length_nil]; decide))))
  | ((with_reducible refine' w_newL ?hl (fun p H1 n1 f1 g1 => ?_)); (case hl => (first | decide | (simp only [List.length_cons, List.length_nil]; decide))))
  | with_reducible refine' w_for ?_
  | with_reducible refine' w_ilist ?_
  | ((with_reducible refine' w_ilb ?hs ?_); (case hs => walk_at "sq"))
  | with_reducible refine' w_itup ?_
  | ((with_reducible refine' w_itb ?hs ?_); (case hs => walk_at "sq"))
  | with_reducible refine' w_rng1 ?_
  | ((with_reducible refine' w_rgb1 ?h0 ?h1 ?_); (case h0 => first | decide | omega); (case h1 => first | decide | omega))
  | with_reducible refine' w_lc ?_
  | ((with_reducible refine' w_wipe ?hw ?_); (case hw => rfl))
  | ((with_reducible refine' w_cat ?ha ?hb ?hl (fun p H1 n1 f1 g1 => ?_)); (case ha => walk_at "hp"); (case hb => walk_at "hp"); (case hl => (first | decide | (simp only [List.length_cons, List.length_nil]; decide))))
  | with_reducible refine' w_dget ?_
  | with_reducible refine' w_din ?_
  | with_reducible refine' w_dnotin ?_
  | with_reducible refine' w_dput ?_
  | with_reducible refine' w_dnew ?_
  | with_reducible refine' w_newD (fun p H1 n1 f1 g1 => ?_)
  | ((with_reducible refine' w_slT ?hs ?hn ?he (fun p H1 n1 f1 g1 => ?_)); (case hs => walk_at "sq"); (case hn => decide); (case he => rfl))
  | with_reducible refine' w_meth ?_
  | with_reducible refine' w_make ?_
  | with_reducible refine' w_mkb (fun x dx H1 n1 m1 d1 f1 g1 => ?_)
  | with_reducible refine' w_fldaug ?_
  | with_reducible refine' w_tru ?_
  | ((with_reducible refine' w_trl ?hh ?_); (case hh => walk_at "hp"))
  | with_reducible refine' w_whb ?_
  | with_reducible refine' w_chain ?_
  | with_reducible refine' w_tyIs ?_
  | with_reducible refine' w_raise ?_
  | with_reducible refine' w_rab ?_
  | with_reducible refine' w_jn ?_
  | with_reducible refine' w_js ?_
  | with_reducible refine' w_jsn ?_
  | with_reducible refine' w_fmt ?_
  | with_reducible refine' w_isN ?_
  | with_reducible refine' w_intB ?_
  | with_reducible refine' w_istr ?_
  | with_reducible refine' w_stb ?_
  | ((with_reducible refine' w_inT ?hs ?hx ?ha ?_); (case hs => walk_at "sq"); (case hx => rfl); (case ha => rfl))
  | ((with_reducible refine' w_isf ?hd ?_); (case hd => decide +kernel))
  | ((with_reducible refine' w_ist ?hd ?_); (case hd => decide +kernel))
  | fail "none")
local macro_rules | `(tactic| walk_at "wk") => `(tactic| repeat walk_at "wk1")

section
variable {P : Program} {w : World} {K : PySem.W.Frag} {mg : Str → Option Value} {base : Heap} {f : Addr} {fd : FuncData}
theorem lw_comp {n : Nat} {H1 : Hp} {Q : VK} {t nd td gv sl : Addr} {us : List V} {s : Sm} {gs sd : List Int} {fn : Str → Int} {m : Nat} {v : V} {o4 o5 o6 : Option V} (g1 : H1 t = some (.tup us)) (a1 : AllSum H1 us s.subs) (hok : s.ok) (hd : s.depth ≤ n + 1) (hg : Good fn gs)
    (hn1 : NamesV H1 nd fn) (he1 : ToldAt H1 td gv gs sl sd m) (hk : m + s.asks ≤ gs.length) (hsd : sd.length + s.size ≤ 1000)
    (k : ∀ (D : Addr) (H' : Hp), H1 D = none → H' D = some (.lst ((evs fn gs s.subs sd m).1.map V.int)) → ToldAt H' td gv gs sl (evs fn gs s.subs sd m).2.1 (evs fn gs s.subs sd m).2.2 → Fr [td, sl] H1 H' → Q (.ref D) H') :
    LcB (Itt K t) (gName 6) tYes (tCall (spLWorth n) [] E0 (tCons (tVar 6) (tCons (tVar 1) (tCons (tVar 2) (tCons (tVar 3) tNil))))) [6] [some v, some (.ref nd), some (.ref gv), some (.ref td), o4, o5, o6] Q H1 := by
  have hn' := hn1
  obtain ⟨kvs, hnd, hv⟩ := hn'
  have n1 : nd ≠ td := ne_of hnd he1.pair (by intro z; cases z)
  have n2 : nd ≠ sl := ne_of hnd he1.said (by intro z; cases z)
  refine lcT (xs := us) (fun D i acc H' => acc = (evs fn gs (s.subs.take i) sd m).1.map V.int ∧ ToldAt H' td gv gs sl (evs fn gs (s.subs.take i) sd m).2.1 (evs fn gs (s.subs.take i) sd m).2.2 ∧ Fr [D, td, sl] H1 H')
    (fun D H' hD f g => ⟨rfl, by walk_at "td", f.nil⟩) (fun D i acc H' hD ⟨_, _, f⟩ => SqT.of (f.tup _ _ g1)) (fun D i x acc H' hD hx hlt ha hA ⟨e1, e2, f⟩ => ?_) (fun D acc H' hD hA hn ⟨e1, e2, f⟩ => ?_)
  · obtain ⟨u, ht, hxt⟩ := a1.at hx
    have hm := List.mem_of_getElem? ht
    have d1 : D ≠ td := nn_l hD he1.pair
    have d2 : D ≠ sl := nn_l hD he1.said
    have d3 : D ≠ gv := nn_l hD he1.gvn
    have d4 : nd ≠ D := ne_of_none hnd hD
    walk_at "wk"
    have q1 := subs_asks_le s (i + 1)
    have q2 := subs_size_le s (i + 1)
    rw [take_snoc ht, asksL_app] at q1
    rw [take_snoc ht, sizeL_app] at q2
    have q3 := evs_asked fn gs (s.subs.take i) sd m
    have q4 := evs_said fn gs (s.subs.take i) sd m
    simp only [asksL, sizeL] at q1 q2
    refine u_lworth (by walk_at "su") (subs_ok hok hm) (by have := Sm.subs_depth hm; omega) hg (by walk_at "nv") e2 (by omega) (by omega) (fun H2 e3 f2 => ?_)
    refine lcE (acc := acc) (f2.getl (ni2 d1 d2) hA) ha (by have := a1.length; have := subs_len2 s; omega) (fun H5 f5 g5 => ⟨?_, ?_, by walk_at "fr"⟩)
    · rw [take_snoc ht, evs_snoc, e1, List.map_append]
      rfl
    · rw [take_snoc ht, evs_snoc]
      exact fr_td f5 (ni1 d1.symm) (ni1 d2.symm) (ni1 d3.symm) e3
  · have et : s.subs.take us.length = s.subs := by rw [a1.length, List.take_length]
    rw [et] at e1 e2
    rw [e1] at hA
    exact k D H' hD hA e2 (f.drop hD)
theorem op_law {o : Op} {x y : Int} (h : o ≠ .times) : x + y * (if decide (o = .less) then -1 else 1) - (x + y * (if decide (o = .less) then -1 else 1)) / 1000 * 1000 = o.app x y := by
  cases o with
  | add => simp [Op.app]; omega
  | less => simp [Op.app]; omega
  | times => exact absurd rfl h
theorem sc_law_worth : FnScope ["_law_part", "_law_names_here", "_law_given_here", "_law_told_here", "_law_numbers", "_law_found", "_law_one"] ["_law_part", "_law_names_here", "_law_given_here", "_law_told_here"] (defScope s_law_worth) := ⟨rfl, rfl, rfl, by decide +kernel, rfl, by decide +kernel, by decide +kernel⟩
theorem ok_lworth {n : Nat} (F : Fun K "_law_worth" "_law_worth" s_law_worth f fd) (Z : Blt mg)
    (D_law_worth : Df P w K mg base CX0 n "_law_worth" ["_law_part", "_law_names_here", "_law_given_here", "_law_told_here"] (spLWorth n)) : FnOk P w K mg base CX0 (n + 1) f fd ["_law_part", "_law_names_here", "_law_given_here", "_law_told_here"] (spLWorth (n + 1)) := by
  refine F.ok sc_law_worth (fun vs H Q E h => ?_) (fun cdv A outer s H vs Q E hr h => ?_)
  · obtain ⟨v, s, nd, td, gv, sl, gs, sd, fn, m, rfl, _⟩ := h
    rfl
  obtain ⟨v, s, nd, td, gv, sl, gs, sd, fn, m, rfl, hs, hok, hd, hg, hn, he, hk, hsd, k⟩ := h
  have hn' := hn
  obtain ⟨kvs, hnd, hv⟩ := hn'
  have n1 : nd ≠ td := ne_of hnd he.pair (by intro z; cases z)
  have n2 : nd ≠ sl := ne_of hnd he.said (by intro z; cases z)
  have n3 := he.n1
  have n4 := he.n2
  have n5 := he.n3
  have hpair := he.pair
  refine ⟨_, (pss_cons (ps_if (pt_cmpR op_eq (pe_ix (r := rIxT K) ix_tup (pv 0) pe_int (fun _ _ => rfl)) pe_str (nomark _)) (pss_one (ps_ret (pe_ix (r := rIxT K) ix_tup (pv 0) pe_int (fun _ _ => rfl)))) pss_nil)
  (pss_cons (ps_if (pt_cmpR op_eq (pe_ix (r := rIxT K) ix_tup (pv 0) pe_int (fun _ _ => rfl)) pe_str (nomark _)) (pss_one (ps_ret (pe_dget (hu_of hr) (pv 1) (pe_ix (r := rIxT K) ix_tup (pv 0) pe_int (fun _ _ => rfl)) (fun _ _ => rfl)))) pss_nil)
  (pss_cons (ps_if (pt_cmpR op_eq (pe_ix (r := rIxT K) ix_tup (pv 0) pe_int (fun _ _ => rfl)) pe_str (nomark _)) (pss_cons (ps_asg (pe_op op_add (pe_ix (r := rIxL K) ix_list (pv 3) pe_int (fun _ _ => rfl)) pe_int) (pg_sub (pv 3) pe_int set_list))
  (pss_one (ps_ret (pe_ix (r := rIxL K) ix_list (pv 2) (pe_op op_sub (pe_ix (r := rIxL K) ix_list (pv 3) pe_int (fun _ _ => rfl)) pe_int) (fun _ _ => rfl))))) pss_nil)
  (pss_cons (ps_setLc (i := 4) (own := [("_law_one", 6)]) (g := gName 6) (tt := tYes) (by rfl) sc_law_worth.nd rfl rfl (sw_true rfl rfl rfl (by decide +kernel)) (pi_tup (pe_slice (r := rSlT K) sl_tup (pv 0) (po_some pe_int) po_none)) (blkOk_by (own := [("_law_one", 6)]) (N := ["_law_part", "_law_names_here", "_law_given_here", "_law_told_here", "_law_numbers", "_law_found", "_law_one"]) (sc := defScope s_law_worth) (by decide +kernel)) (fun _ _ _ _ _ => pg_name (i := 6) sc_law_worth.nd rfl (Or.inl rfl)) (fun _ _ _ _ _ => pts_nil) (fun _ _ _ _ _ => (pe_df D_law_worth hr (by first | decide | omega) (pa_cons (pv 6) (pa_cons (pv 1) (pa_cons (pv 2) (pa_cons (pv 3) pa_nil)))))))
  (pss_cons (ps_if (pt_cmpR op_eq (pe_ix (r := rIxT K) ix_tup (pv 0) pe_int (fun _ _ => rfl)) pe_str (nomark _)) (pss_cons (ps_expr (pe_bm PySem.F.plainAttrs_list PySem.F.slot_list_append PySem.F.type_list_append mt_append (pe_ix (r := rIxL K) ix_list (pv 3) pe_int (fun _ _ => rfl)) (pa_cons (pe_ix (r := rIxL K) ix_list (pv 4) pe_int (fun _ _ => rfl)) pa_nil)))
  (pss_one (ps_ret (pe_ix (r := rIxL K) ix_list (pv 4) pe_int (fun _ _ => rfl))))) pss_nil)
  (pss_cons (ps_set (i := 5) sc_law_worth.nd rfl (Or.inl rfl) (pe_op op_mulW (pe_ix (r := rIxL K) ix_list (pv 4) pe_int (fun _ _ => rfl)) (pe_ix (r := rIxL K) ix_list (pv 4) pe_int (fun _ _ => rfl))))
  (pss_cons (ps_if (pt_cmpR op_ne (pe_ix (r := rIxT K) ix_tup (pv 0) pe_int (fun _ _ => rfl)) pe_str (nomark _)) (pss_one (ps_set (i := 5) sc_law_worth.nd rfl (Or.inl rfl) (pe_op op_add (pe_ix (r := rIxL K) ix_list (pv 4) pe_int (fun _ _ => rfl)) (pe_op op_mulW (pe_ix (r := rIxL K) ix_list (pv 4) pe_int (fun _ _ => rfl)) (pe_ix (r := rIxL K) ix_list (pe_lst (pa_cons pe_int (pa_cons (pe_op op_sub pe_int pe_int) pa_nil))) (pe_callTy call_intN (by rfl) Z.int (by decide +kernel) (pa_cons (pe_cmpR op_eq (pe_ix (r := rIxT K) ix_tup (pv 0) pe_int (fun _ _ => rfl)) pe_str (nomark _)) pa_nil)) (fun _ _ => rfl)))))) pss_nil)
  (pss_one (ps_ret (pe_op op_sub (pv 5) (pe_op op_mulW (pe_op op_fdivW (pv 5) pe_int) pe_int))))))))))), ?_⟩
  walk_at "st"
  cases s with
  | num z =>
    obtain ⟨p, rfl, hp⟩ := hs
    walk_at "wk"
    exact k H he .refl
  | name c =>
    obtain ⟨p, rfl, hp⟩ := hs
    walk_at "wk"
    refine w_dgs hnd (hv c hok) ?_
    exact k H he .refl
  | ask =>
    obtain ⟨p, rfl, hp⟩ := hs
    walk_at "wk"
    rename_i H1 f1 g1
    have hm : m < gs.length := hk
    have e1 : atI (gs.map V.int) ((m : Int) + 1 - 1) = some (.int (gs.getD m 0)) := by
      have e : (m : Int) + 1 - 1 = (m : Int) := by omega
      rw [e]
      exact atI_nat (by rw [List.getElem?_map, List.getElem?_eq_getElem hm, List.getD_eq_getElem?_getD, List.getElem?_eq_getElem hm]; rfl)
    refine w_ixL (SqL.of (f1.getl (ni1 n5) he.gvn)) e1 ?_
    exact k H1 ⟨g1, f1.getl (ni1 n4.symm) he.said, f1.getl (ni1 n5) he.gvn, n3, n4, n5⟩ (by walk_at "fr")
  | say s =>
    obtain ⟨p, x, rfl, hp, hx⟩ := hs
    walk_at "wk"
    refine w_slT (SqT.of hp) (tail_not _ _) (cut_tail _ _) (fun t H1 i1 f1 g1 => ?_)
    walk_at "wk"
    refine lw_comp (s := .say s) g1 ⟨by walk_at "su", trivial⟩ hok hd hg (by walk_at "nv") (by walk_at "td") hk hsd (fun D H2 hD hA e2 f2 => ?_)
    have d2 : D ≠ sl := nn_l (f1.back hD) he.said
    have hsaid := e2.said
    have hpair2 := e2.pair
    walk_at "wk"
    refine w_tyl hsaid ?_
    walk_at "wk"
    have q1 := evs_said fn gs (Sm.say s).subs sd m
    have q2 := subs_size_le (Sm.say s) 1
    have q3 : sizeL ((Sm.say s).subs.take 1) = sizeL (Sm.say s).subs := rfl
    refine w_app hsaid (by rw [List.length_map]; omega) (fun H3 f3 g3 => ?_)
    walk_at "wk"
    refine k H3 ⟨f3.getl (ni1 n4) hpair2, ?_, f3.getl (ni1 n3) e2.gvn, n3, n4, n5⟩ (f1.nil.trans (f2.trans (f3.mono (by simp))))
    show H3 sl = some (.lst (((evs fn gs [s] sd m).2.1 ++ [(s.ev fn gs sd m).1]).map V.int))
    rw [List.map_append]
    exact g3
  | bin o a b =>
    obtain ⟨p, x, y, rfl, hp, hx, hy⟩ := hs
    cases o
    all_goals
      walk_at "wk"
      refine w_slT (SqT.of hp) (tail_not _ _) (cut_tail _ _) (fun t H1 i1 f1 g1 => ?_)
      walk_at "wk"
      refine lw_comp (s := .bin _ a b) g1 ⟨by walk_at "su", by walk_at "su", trivial⟩ hok hd hg (by walk_at "nv") (by walk_at "td") hk hsd (fun D H2 hD hA e2 f2 => ?_)
      have rx := Sm.ev_range hg hok.1 sd m
      have ry := Sm.ev_range hg hok.2 (a.ev fn gs sd m).2.1 (a.ev fn gs sd m).2.2
      have rxy : 0 ≤ (a.ev fn gs sd m).1 * (b.ev fn gs (a.ev fn gs sd m).2.1 (a.ev fn gs sd m).2.2).1 ∧ (a.ev fn gs sd m).1 * (b.ev fn gs (a.ev fn gs sd m).2.1 (a.ev fn gs sd m).2.2).1 ≤ 1000 * 1000 :=
        ⟨Int.mul_nonneg rx.1 ry.1, Int.mul_le_mul (by omega) (by omega) ry.1 (by decide)⟩
      walk_at "wk"
      refine qint (k _ (by walk_at "td") (by walk_at "fr")) ?_
      simp only [Sm.ev, Op.app]
      omega
theorem sc_law_told : FnScope ["_law_part", "_law_names_here", "_law_given_here", "_law_told_here", "_law_number"] ["_law_part", "_law_names_here", "_law_given_here"] (defScope s_law_told) := ⟨rfl, rfl, rfl, by decide +kernel, rfl, by decide +kernel, by decide +kernel⟩
theorem ok_told (F : Fun K "_law_told" "_law_told" s_law_told f fd) (Z : Blt mg)
    (D_law_worth : Df P w K mg base CX0 16 "_law_worth" ["_law_part", "_law_names_here", "_law_given_here", "_law_told_here"] (spLWorth 16)) : FnOk P w K mg base CX0 17 f fd ["_law_part", "_law_names_here", "_law_given_here"] spTold := by
  refine F.ok sc_law_told (fun vs H Q E h => ?_) (fun cdv A outer s H vs Q E hr h => ?_)
  · obtain ⟨v, s, nd, gv, gs, fn, rfl, _⟩ := h
    rfl
  obtain ⟨v, s, nd, gv, gs, fn, rfl, hs, hok, hd, hz, hg, hn, hgv, hk, k⟩ := h
  have hn' := hn
  obtain ⟨kvs, hnd, hv⟩ := hn'
  refine ⟨_, (pss_cons (ps_set (i := 3) sc_law_told.nd rfl (Or.inl rfl) (pe_lst (pa_cons (pe_lst pa_nil) (pa_cons pe_int pa_nil))))
  (pss_cons (ps_set (i := 4) sc_law_told.nd rfl (Or.inl rfl) (pe_df D_law_worth hr (by first | decide | omega) (pa_cons (pv 0) (pa_cons (pv 1) (pa_cons (pv 2) (pa_cons (pv 3) pa_nil))))))
  (pss_one (ps_ret (pe_tup (pa_cons (pv 4) (pa_cons (pe_ix (r := rIxL K) ix_list (pv 3) pe_int (fun _ _ => rfl)) (pa_cons (pe_ix (r := rIxL K) ix_list (pv 3) pe_int (fun _ _ => rfl)) pa_nil)))))))), ?_⟩
  walk_at "st"
  walk_at "wk"
  rename_i sl H1 i1 f1 g1 td H2 i2 f2 g2
  have n1 : gv ≠ sl := ne_of_none hgv i1
  have n2 : td ≠ sl := nn_l i2 g1
  have n3 : gv ≠ td := ne_of_none (f1.get0 hgv) i2
  have t2 : ToldAt H2 td gv gs sl [] 0 := ⟨g2, f2.get0 g1, f2.get0 (f1.get0 hgv), n1, n2, n3⟩
  refine u_lworth (by walk_at "su") hok (by omega) hg (by walk_at "nv") t2 (by omega) (by simp; omega) (fun H3 t3 f3 => ?_)
  have hp3 := t3.pair
  walk_at "wk"
  rename_i t H4 i4 f4 g4
  have f03 : Fr [] H H3 := (f1.nil.trans ((f2.nil.trans f3).drop i2)).drop i1
  exact k t sl H4 (f03.back i4) i1 g4 (f4.get0 t3.said) (f03.trans f4)
end
end My
namespace My
open PySem L2 Wk
local macro_rules | `(tactic| walk_at "hs") => `(tactic| first
  | assumption
  | (apply fr_st0; (case f => assumption); (case h => walk_at "hs"))
  | (apply fr_st1; (case f => assumption); (case n => walk_at "ne"); (case hw => first | assumption | exact List.mem_cons_self); (case h => walk_at "hs"))
  | fail "none")
local macro_rules | `(tactic| walk_at "nn") => `(tactic| first
  | (apply nn_st; (case n => assumption); (case h => walk_at "hs"))
  | (apply nn_l; (case n => assumption); (case h => walk_at "hp"))
  | (apply nn_d; (case n => assumption); (case h => walk_at "hp"))
  | (apply nn_i; (case n => assumption); (case h => walk_at "hp"))
  | fail "none")
local macro_rules | `(tactic| walk_at "su") => `(tactic| first
  | assumption
  | (apply fr_su; (case f => assumption); (case h => walk_at "su"))
  | fail "none")
local macro_rules | `(tactic| walk_at "as") => `(tactic| first
  | assumption
  | (apply fr_as; (case f => assumption); (case h => walk_at "as"))
  | fail "none")
local macro_rules | `(tactic| walk_at "ef") => `(tactic| first
  | assumption
  | (apply fr_ef0; (case f => assumption); (case h => walk_at "ef"))
  | (apply fr_ef; (case f => assumption); (case n1 => walk_at "ni"); (case n2 => walk_at "ni"); (case n3 => walk_at "ni"); (case h => walk_at "ef"))
  | fail "none")
local macro_rules | `(tactic| walk_at "td") => `(tactic| first
  | assumption
  | (apply fr_td0; (case f => assumption); (case h => walk_at "td"))
  | (apply fr_td; (case f => assumption); (case n1 => walk_at "ni"); (case n2 => walk_at "ni"); (case n3 => walk_at "ni"); (case h => walk_at "td"))
  | fail "none")
local macro_rules | `(tactic| walk_at "sk") => `(tactic| first
  | assumption
  | (apply fr_stk; (case f => assumption); (case a => walk_at "sk"))
  | fail "none")
local macro_rules | `(tactic| walk_at "al") => `(tactic| first
  | assumption
  | (apply fr_al; (case f => assumption); (case h => walk_at "al"))
  | fail "none")
local macro_rules | `(tactic| walk_at "nv") => `(tactic| first
  | assumption
  | (apply fr_nv; (case a => assumption); (case n => walk_at "ni"); (case h => walk_at "nv"))
  | fail "none")
local macro_rules | `(tactic| walk_at "ne") => `(tactic| first
  | assumption
  | (apply Ne.symm; assumption)
  | walk_at "nn"
  | (apply Ne.symm; walk_at "nn")
  | fail "none")
local macro_rules | `(tactic| walk_at "ni") => `(tactic| first
  | exact List.not_mem_nil
  | (apply ni1; walk_at "ne")
  | (apply ni2 <;> walk_at "ne")
  | (apply ni3 <;> walk_at "ne")
  | fail "none")
local macro_rules | `(tactic| walk_at "hp") => `(tactic| first
  | assumption
  | (apply Fr.gett; (case a => assumption); (case h => walk_at "hp"))
  | (apply Fr.getl; (case a => assumption); (case n => walk_at "ni"); (case h => walk_at "hp"))
  | (apply Fr.getd; (case a => assumption); (case n => walk_at "ni"); (case h => walk_at "hp"))
  | (apply Fr.geti; (case a => assumption); (case n => walk_at "ni"); (case h => walk_at "hp"))
  | fail "none")
local macro_rules | `(tactic| walk_at "sqs") => `(tactic| first
  | assumption
  | (apply Fr.sqln; (case a => assumption); (case n => walk_at "ni"); (case h => walk_at "sqs"))
  | fail "none")
local macro_rules | `(tactic| walk_at "sq") => `(tactic| first
  | assumption
  | (apply SqL.of; walk_at "hp")
  | (apply SqT.of; walk_at "hp")
  | walk_at "sqs"
  | fail "none")
local macro_rules | `(tactic| walk_at "fr") => `(tactic| first
  | exact Fr.refl
  | assumption
  | (apply Fr.mono; (case a => assumption); (case h => simp))
  | (apply fr_last; (case f => assumption); (case w => simp); (case g => walk_at "fr"))
  | fail "none")
local macro_rules | `(tactic| walk_at "st") => `(tactic| ((try dsimp only [cxOf, Cx.nox, Cx.wish]); (try simp only [L2.start, List.map_cons, List.map_nil, List.length_cons, List.length_nil, List.replicate, List.cons_append, List.nil_append, Nat.reduceAdd, Nat.reduceSub])))
local macro_rules | `(tactic| walk_at "lset") => `(tactic| (simp only [wipe, List.map_cons, List.map_nil, Int.reduceToNat, List.set_cons_zero, List.set_cons_succ] <;> rfl))
local macro_rules | `(tactic| walk_at "wk1") => `(tactic| first
  | with_reducible refine' w_seq ?_
  | with_reducible refine' w_asg ?_
  | ((with_reducible refine' w_name ?hs ?_); (case hs => walk_at "lset"))
  | ((with_reducible refine' w_var ?hv ?_); (case hv => rfl))
  | with_reducible refine' w_c ?_
  | with_reducible refine' w_op ?_
  | with_reducible refine' w_un ?_
  | with_reducible refine' w_test ?_
  | with_reducible refine' w_tB ?_
  | with_reducible refine' w_exbl ?_
  | with_reducible refine' w_exint ?_
  | with_reducible refine' w_t ?_
  | with_reducible refine' w_f ?_
  | with_reducible refine' w_ifS ?_
  | with_reducible refine' w_if ?_
  | with_reducible refine' w_and ?_
  | with_reducible refine' w_or ?_
  | with_reducible refine' w_not ?_
  | with_reducible refine' w_andV ?_
  | with_reducible refine' w_orV ?_
  | with_reducible refine' w_notV ?_
  | with_reducible refine' w_ret ?_
  | with_reducible refine' w_retN ?_
  | with_reducible refine' w_drop ?_
  | with_reducible refine' w_next ?_
  | with_reducible refine' w_nil ?_
  | with_reducible refine' w_cons ?_
  | with_reducible refine' w_cb ?_
  | with_reducible refine' w_call ?_
  | with_reducible refine' w_gsub ?_
  | with_reducible refine' w_gnil ?_
  | with_reducible refine' w_gcons ?_
  | ((with_reducible refine' w_gtup ?hs ?hn ?_); (case hs => walk_at "sq"); (case hn => rfl))
  | with_reducible refine' w_fld ?_
  | with_reducible refine' w_tfld ?_
  | with_reducible refine' w_sl ?_
  | with_reducible refine' w_nopart ?_
  | with_reducible refine' w_part ?_
  | with_reducible refine' w_bm ?_
  | with_reducible refine' w_bm0 ?_
  | with_reducible refine' w_yes ?_
  | with_reducible refine' w_tup ?_
  | with_reducible refine' w_lst ?_
  | with_reducible refine' w_I0 ?_
  | ((with_reducible refine' w_I ?hc ?_); (case hc => (first | (show (0 : Int) < _; first | decide | omega | assumption) | exact wide_div (by first | assumption | decide) (b := 200) (by first | assumption | decide) (by decide) (by decide) | exact wide_mul (a := 64) (b := 64) (by omega) (by omega) (by decide) (by decide) (by decide) | exact ⟨by decide, by decide, by decide⟩)))
  | ((with_reducible refine' w_eq ?he ?_); (case he => rfl))
  | ((with_reducible refine' w_ne ?he ?_); (case he => rfl))
  | ((with_reducible refine' w_ixL ?hs ?ha ?_); (case hs => walk_at "sq"); (case ha => rfl))
  | ((with_reducible refine' w_ixT ?hs ?ha ?_); (case hs => walk_at "sq"); (case ha => rfl))
  | ((with_reducible refine' w_lenL ?hs ?he ?_); (case hs => walk_at "sq"); (case he => first | (simp only [List.length_cons, List.length_nil, List.length_map]; rfl) | rfl))
  | ((with_reducible refine' w_lenT ?hs ?he ?_); (case hs => walk_at "sq"); (case he => first | (simp only [List.length_cons, List.length_nil, List.length_map]; rfl) | rfl))
  | ((with_reducible refine' w_setL ?hh ?hk ?he (fun H1 f1 g1 => ?_)); (case hh => walk_at "hp"); (case hk => rfl); (case he => walk_at "lset"))
  | ((with_reducible refine' w_newT ?hl (fun p H1 n1 f1 g1 => ?_)); (case hl => (first | decide | (simp only [List.length_cons, List.length_nil]; decide))))
  | ((with_reducible refine' w_newL ?hl (fun p H1 n1 f1 g1 => ?_)); (case hl => (first | decide | (simp only [List.length_cons, List.length_nil]; decide))))
  | with_reducible refine' w_for ?_
  | with_reducible refine' w_ilist ?_
  | ((with_reducible refine' w_ilb ?hs ?_); (case hs => walk_at "sq"))
  | with_reducible refine' w_itup ?_
  | ((with_reducible refine' w_itb ?hs ?_); (case hs => walk_at "sq"))
  | with_reducible refine' w_rng1 ?_
  | ((with_reducible refine' w_rgb1 ?h0 ?h1 ?_); (case h0 => first | decide | omega); (case h1 => first | decide | omega))
  | with_reducible refine' w_lc ?_
  | ((with_reducible refine' w_wipe ?hw ?_); (case hw => rfl))
  | ((with_reducible refine' w_cat ?ha ?hb ?hl (fun p H1 n1 f1 g1 => ?_)); (case ha => walk_at "hp"); (case hb => walk_at "hp"); (case hl => (first | decide | (simp only [List.length_cons, List.length_nil]; decide))))
  | with_reducible refine' w_dget ?_
  | with_reducible refine' w_din ?_
  | with_reducible refine' w_dnotin ?_
  | with_reducible refine' w_dput ?_
  | with_reducible refine' w_dnew ?_
  | with_reducible refine' w_newD (fun p H1 n1 f1 g1 => ?_)
  | ((with_reducible refine' w_slT ?hs ?hn ?he (fun p H1 n1 f1 g1 => ?_)); (case hs => walk_at "sq"); (case hn => decide); (case he => rfl))
  | with_reducible refine' w_meth ?_
  | with_reducible refine' w_make ?_
  | with_reducible refine' w_mkb (fun x dx H1 n1 m1 d1 f1 g1 => ?_)
  | with_reducible refine' w_fldaug ?_
  | with_reducible refine' w_tru ?_
  | ((with_reducible refine' w_trl ?hh ?_); (case hh => walk_at "hp"))
  | with_reducible refine' w_whb ?_
  | with_reducible refine' w_chain ?_
  | with_reducible refine' w_tyIs ?_
  | with_reducible refine' w_raise ?_
  | with_reducible refine' w_rab ?_
  | with_reducible refine' w_jn ?_
  | with_reducible refine' w_js ?_
  | with_reducible refine' w_jsn ?_
  | with_reducible refine' w_fmt ?_
  | with_reducible refine' w_isN ?_
  | with_reducible refine' w_intB ?_
  | with_reducible refine' w_istr ?_
  | with_reducible refine' w_stb ?_
  | ((with_reducible refine' w_inT ?hs ?hx ?ha ?_); (case hs => walk_at "sq"); (case hx => rfl); (case ha => rfl))
  | ((with_reducible refine' w_isf ?hd ?_); (case hd => decide +kernel))
  | ((with_reducible refine' w_ist ?hd ?_); (case hd => decide +kernel))
  | fail "none")
local macro_rules | `(tactic| walk_at "wk") => `(tactic| repeat walk_at "wk1")

section
variable {P : Program} {w : World} {K : PySem.W.Frag} {mg : Str → Option Value} {base : Heap} {f : Addr} {fd : FuncData}
theorem two_cls : Paired ClsV [V.ty "tuple", V.ty "list"] [Value.type "tuple", Value.type "list"] := .cons (.ty _) (.cons (.ty _) .nil)
theorem kit2 {K : PySem.W.Frag} {t : String} {b1 b2 r : Bool} (h1 : kitB t "tuple" = some b1) (h2 : kitB t "list" = some b2) (hr : r = (b1 || b2)) : PySem.W.kitAny K (.type t) [.type "tuple", .type "list"] = some r :=
  kitAny_cons (kit_ty h1) (fun e => kitAny_cons (kit_ty h2) (fun e2 => by rw [hr, e, e2]; exact kitAny_nil) (fun e2 => by rw [hr, e2, Bool.or_true])) (fun e => by rw [hr, e, Bool.true_or])
theorem qbl {b c : Bool} {Q : VK} {H : Hp} (h : Q (.bl b) H) (e : b = c) : Q (.bl c) H := e ▸ h
theorem atI_n {xs : List V} {j : Int} {i : Nat} {v : V} (e : j = (i : Int)) (h : xs[i]? = some v) : atI xs j = some v := by rw [e]; exact atI_nat h
theorem fr_ald {H H' : Hp} {D : Addr} {n : Nat} {x y : V} (hD : H D = none) (f : Fr [D] H H') (h : Alike H n x y) : Alike H' n x y := by
  induction h with
  | int n i => exact .int n i
  | str n z => exact .str n z
  | bl n z => exact .bl n z
  | tup n a b xs ys ha hb hl hz h ih => exact .tup n a b xs ys (f.gett ha) (f.gett hb) hl hz ih
  | lst n a b xs ys ha hb hl hz h ih => exact .lst n a b xs ys (f.getl (ni1 (nn_l hD ha).symm) ha) (f.getl (ni1 (nn_l hD hb).symm) hb) hl hz ih
theorem sc_law_same : FnScope ["_law_found", "_law_due", "_law_k"] ["_law_found", "_law_due"] (defScope s_law_same) := ⟨rfl, rfl, rfl, by decide +kernel, rfl, by decide +kernel, by decide +kernel⟩
/-- one level down; at the bottom nothing is asked -/
def spSameD (n : Nat) : Sp := fun vs H Q E => 1 ≤ n ∧ spSame (n - 1) vs H Q E
theorem ok_same {n : Nat} (F : Fun K "_law_same" "_law_same" s_law_same f fd) (Z : Blt mg) (D_law_same : Df P w K mg base CX0 n "_law_same" ["_law_found", "_law_due"] (spSameD n)) : FnOk P w K mg base CX0 (n + 1) f fd ["_law_found", "_law_due"] (spSame n) := by
  refine F.ok sc_law_same (fun vs H Q E h => ?_) (fun cdv A outer s H vs Q E hr h => ?_)
  · obtain ⟨x, y, rfl, _⟩ := h
    rfl
  obtain ⟨x, y, rfl, h, k⟩ := h
  refine ⟨_, (pss_cons (ps_if (pt_val (pe_callB (id := "isinstance") (r := rIsiT K) call_isiT (by rfl) Z.isinstance (by decide +kernel) (pa_cons (pv 1) (pa_cons (pe_tup (pa_cons (pe_bltn (v := .ty "tuple") (u := .type "tuple") rfl Z.tuple (by decide +kernel) rfl) (pa_cons (pe_bltn (v := .ty "list") (u := .type "list") rfl Z.list (by decide +kernel) rfl) pa_nil))) pa_nil))) (fun _ => rfl)) (pss_cons (ps_if (PW.pt (pw_or (pt_not (pt_val (pe_callB (id := "isinstance") (r := rIsiT K) call_isiT (by rfl) Z.isinstance (by decide +kernel) (pa_cons (pv 0) (pa_cons (pe_tup (pa_cons (pe_bltn (v := .ty "tuple") (u := .type "tuple") rfl Z.tuple (by decide +kernel) rfl) (pa_cons (pe_bltn (v := .ty "list") (u := .type "list") rfl Z.list (by decide +kernel) rfl) pa_nil))) pa_nil))) (fun _ => rfl))) (pw_or1 (pt_cmpR op_ne (pe_callB (id := "isinstance") (r := rIsi K) call_isi (by rfl) Z.isinstance (by decide +kernel) (pa_cons (pv 0) (pa_cons (pe_bltn (v := .ty "list") (u := .type "list") rfl Z.list (by decide +kernel) rfl) pa_nil))) (pe_callB (id := "isinstance") (r := rIsi K) call_isi (by rfl) Z.isinstance (by decide +kernel) (pa_cons (pv 1) (pa_cons (pe_bltn (v := .ty "list") (u := .type "list") rfl Z.list (by decide +kernel) rfl) pa_nil))) (nomark _))))) (pss_one (ps_ret pe_bl)) pss_nil)
  (pss_cons (ps_if (pt_cmpR op_ne (pe_callB (id := "len") (r := rLenW K) call_lenN (by rfl) Z.len PySem.boot_len (pa_cons (pv 0) pa_nil)) (pe_callB (id := "len") (r := rLenW K) call_lenN (by rfl) Z.len PySem.boot_len (pa_cons (pv 1) pa_nil)) (nomark _)) (pss_one (ps_ret pe_bl)) pss_nil)
  (pss_one (ps_ret (pe_cmpR (r := rEqD K) (op_eqD hr.units) (pe_lc (own := [("_law_k", 2)]) (g := gName 2) (by rfl) sc_law_same.nd (pi_range1 rfl Z.range (pa_cons (pe_callB (id := "len") (r := rLenW K) call_lenN (by rfl) Z.len PySem.boot_len (pa_cons (pv 1) pa_nil)) pa_nil)) (blkOk_by (own := [("_law_k", 2)]) (N := ["_law_found", "_law_due", "_law_k"]) (sc := defScope s_law_same) (by decide +kernel)) (fun _ _ _ _ _ => pg_name (i := 2) sc_law_same.nd rfl (Or.inl rfl)) (fun _ _ _ _ _ => (pts_one (pt_not (pt_val (pe_df D_law_same hr (by first | decide | omega) (pa_cons (pe_ix (r := rIx K) ix_seq (pv 0) (pv 2) (fun _ _ => rfl)) (pa_cons (pe_ix (r := rIx K) ix_seq (pv 1) (pv 2) (fun _ _ => rfl)) pa_nil))) (fun _ => rfl))))) (fun _ _ _ _ _ => (pv 2))) (pe_lst pa_nil) (nomark _)))))) pss_nil)
  (pss_cons (ps_if (pt_cmpR op_isNW (pv 1) pe_non (nomark _)) (pss_one (ps_ret (pe_cmpR op_isNW (pv 0) pe_non (nomark _)))) pss_nil)
  (pss_cons (ps_if (pt_val (pe_callB (id := "isinstance") (r := rIsi K) call_isi (by rfl) Z.isinstance (by decide +kernel) (pa_cons (pv 1) (pa_cons (pe_bltn (v := .ty "str") (u := .type "str") rfl Z.str (by decide +kernel) rfl) pa_nil))) (fun _ => rfl)) (pss_one (ps_ret (pe_and (pe_callB (id := "isinstance") (r := rIsi K) call_isi (by rfl) Z.isinstance (by decide +kernel) (pa_cons (pv 0) (pa_cons (pe_bltn (v := .ty "str") (u := .type "str") rfl Z.str (by decide +kernel) rfl) pa_nil))) (pe_one (pe_cmpR op_eq (pv 0) (pv 1) (nomark _)))))) pss_nil)
  (pss_cons (ps_if (PW.pt (pw_or (pt_val (pe_callB (id := "isinstance") (r := rIsi K) call_isi (by rfl) Z.isinstance (by decide +kernel) (pa_cons (pv 1) (pa_cons (pe_bltn (v := .ty "bool") (u := .type "bool") rfl Z.bool (by decide +kernel) rfl) pa_nil))) (fun _ => rfl)) (pw_or1 (pt_val (pe_callB (id := "isinstance") (r := rIsi K) call_isi (by rfl) Z.isinstance (by decide +kernel) (pa_cons (pv 0) (pa_cons (pe_bltn (v := .ty "bool") (u := .type "bool") rfl Z.bool (by decide +kernel) rfl) pa_nil))) (fun _ => rfl))))) (pss_one (ps_ret (pe_and (pe_callB (id := "isinstance") (r := rIsi K) call_isi (by rfl) Z.isinstance (by decide +kernel) (pa_cons (pv 1) (pa_cons (pe_bltn (v := .ty "bool") (u := .type "bool") rfl Z.bool (by decide +kernel) rfl) pa_nil))) (pe_and (pe_callB (id := "isinstance") (r := rIsi K) call_isi (by rfl) Z.isinstance (by decide +kernel) (pa_cons (pv 0) (pa_cons (pe_bltn (v := .ty "bool") (u := .type "bool") rfl Z.bool (by decide +kernel) rfl) pa_nil))) (pe_one (pe_cmpR op_eq (pv 0) (pv 1) (nomark _))))))) pss_nil)
  (pss_one (ps_ret (pe_and (pe_callB (id := "isinstance") (r := rIsi K) call_isi (by rfl) Z.isinstance (by decide +kernel) (pa_cons (pv 0) (pa_cons (pe_bltn (v := .ty "int") (u := .type "int") rfl Z.int (by decide +kernel) rfl) pa_nil))) (pe_one (pe_cmpR op_eq (pv 0) (pv 1) (nomark _)))))))))), ?_⟩
  walk_at "st"
  cases h with
  | int _ i =>
    walk_at "wk"
    refine w_isiT (by walk_at "hp") two_cls ty_int (kit2 (show kitB "int" "tuple" = some false by decide +kernel) (show kitB "int" "list" = some false by decide +kernel) rfl) ?_
    walk_at "wk"
    refine w_isf (decide_eq_false (by intro e; cases e)) ?_
    walk_at "wk"
    refine w_isi ty_int (show kitB "int" "str" = some false by decide +kernel) ?_
    walk_at "wk"
    refine w_isi ty_int (show kitB "int" "bool" = some false by decide +kernel) ?_
    walk_at "wk"
    refine w_isi ty_int (show kitB "int" "bool" = some false by decide +kernel) ?_
    walk_at "wk"
    refine w_isi ty_int (show kitB "int" "int" = some true by decide +kernel) ?_
    walk_at "wk"
    exact qbl (k _ (by walk_at "fr")) (by simp)
  | str _ z =>
    walk_at "wk"
    refine w_isiT (by walk_at "hp") two_cls ty_str (kit2 (show kitB "str" "tuple" = some false by decide +kernel) (show kitB "str" "list" = some false by decide +kernel) rfl) ?_
    walk_at "wk"
    refine w_isf (decide_eq_false (by intro e; cases e)) ?_
    walk_at "wk"
    refine w_isi ty_str (show kitB "str" "str" = some true by decide +kernel) ?_
    walk_at "wk"
    refine w_isi ty_str (show kitB "str" "str" = some true by decide +kernel) ?_
    walk_at "wk"
    exact qbl (k _ (by walk_at "fr")) (by simp)
  | bl _ z =>
    walk_at "wk"
    refine w_isiT (by walk_at "hp") two_cls ty_bl (kit2 (show kitB "bool" "tuple" = some false by decide +kernel) (show kitB "bool" "list" = some false by decide +kernel) rfl) ?_
    walk_at "wk"
    refine w_isf (decide_eq_false (by intro e; cases e)) ?_
    walk_at "wk"
    refine w_isi ty_bl (show kitB "bool" "str" = some false by decide +kernel) ?_
    walk_at "wk"
    refine w_isi ty_bl (show kitB "bool" "bool" = some true by decide +kernel) ?_
    walk_at "wk"
    refine w_isi ty_bl (show kitB "bool" "bool" = some true by decide +kernel) ?_
    walk_at "wk"
    refine w_isi ty_bl (show kitB "bool" "bool" = some true by decide +kernel) ?_
    walk_at "wk"
    exact qbl (k _ (by walk_at "fr")) (by simp)
  | tup _ a b xs ys ha hb hl hz h =>
    walk_at "wk"
    refine w_isiT (by walk_at "hp") two_cls (ty_tup (by walk_at "hp")) (kit2 (show kitB "tuple" "tuple" = some true by decide +kernel) (show kitB "tuple" "list" = some false by decide +kernel) rfl) ?_
    walk_at "wk"
    refine w_isiT (by walk_at "hp") two_cls (ty_tup (by walk_at "hp")) (kit2 (show kitB "tuple" "tuple" = some true by decide +kernel) (show kitB "tuple" "list" = some false by decide +kernel) rfl) ?_
    walk_at "wk"
    refine w_isi (ty_tup (by walk_at "hp")) (show kitB "tuple" "list" = some false by decide +kernel) ?_
    walk_at "wk"
    refine w_isi (ty_tup (by walk_at "hp")) (show kitB "tuple" "list" = some false by decide +kernel) ?_
    walk_at "wk"
    refine w_isf (by rw [hl]; simp) ?_
    walk_at "wk"
    rename_i p1 H1 n1 f1 g1 p2 H2 n2 f2 g2
    have f0 : Fr [] H H2 := by walk_at "fr"
    refine lcR (fun D i acc H' => acc = [] ∧ Fr [D] H2 H') (fun D H' hD f g => ⟨rfl, f.nil⟩) (fun D i acc H' hD hlt hac hA ⟨e, f⟩ => ?_) (fun D acc H' hD hA hn ⟨e, f⟩ => ?_)
    · have hx : xs[i]? = some xs[i] := List.getElem?_eq_getElem (by omega)
      have hy : ys[i]? = some ys[i] := List.getElem?_eq_getElem (by omega)
      walk_at "wk"
      refine w_ixS2 (SqT.of (f.gett (f0.gett ha))) (atI_n (by simp) hx) ?_
      walk_at "wk"
      refine w_ixS2 (SqT.of (f.gett (f0.gett hb))) (atI_n (by simp) hy) ?_
      walk_at "wk"
      have al := h i xs[i] ys[i] hx hy
      refine ⟨Nat.le_add_left 1 _, u_same (n := _) (fr_ald hD f (al.mono f0)) (fun H4 f4 => ?_)⟩
      walk_at "wk"
      subst e
      exact lcN (f4.getl (by simp) hA) (Nat.zero_le _) ⟨rfl, by walk_at "fr"⟩
    · subst e
      walk_at "wk"
      rename_i p3 H3 n3 f3 g3
      refine w_eqD (.lst (SqL.of (f3.getl (by simp) hA)) .nil) (.lst (SqL.of g3) .nil) rfl rfl ?_
      exact qbl (k _ (f0.trans ((f.drop hD).trans f3))) (by decide)
  | lst _ a b xs ys ha hb hl hz h =>
    walk_at "wk"
    refine w_isiT (by walk_at "hp") two_cls (ty_lst (by walk_at "hp")) (kit2 (show kitB "list" "tuple" = some false by decide +kernel) (show kitB "list" "list" = some true by decide +kernel) rfl) ?_
    walk_at "wk"
    refine w_isiT (by walk_at "hp") two_cls (ty_lst (by walk_at "hp")) (kit2 (show kitB "list" "tuple" = some false by decide +kernel) (show kitB "list" "list" = some true by decide +kernel) rfl) ?_
    walk_at "wk"
    refine w_isi (ty_lst (by walk_at "hp")) (show kitB "list" "list" = some true by decide +kernel) ?_
    walk_at "wk"
    refine w_isi (ty_lst (by walk_at "hp")) (show kitB "list" "list" = some true by decide +kernel) ?_
    walk_at "wk"
    refine w_isf (by rw [hl]; simp) ?_
    walk_at "wk"
    rename_i p1 H1 n1 f1 g1 p2 H2 n2 f2 g2
    have f0 : Fr [] H H2 := by walk_at "fr"
    refine lcR (fun D i acc H' => acc = [] ∧ Fr [D] H2 H') (fun D H' hD f g => ⟨rfl, f.nil⟩) (fun D i acc H' hD hlt hac hA ⟨e, f⟩ => ?_) (fun D acc H' hD hA hn ⟨e, f⟩ => ?_)
    · have hx : xs[i]? = some xs[i] := List.getElem?_eq_getElem (by omega)
      have hy : ys[i]? = some ys[i] := List.getElem?_eq_getElem (by omega)
      walk_at "wk"
      refine w_ixS1 (SqL.of (f.getl (ni1 (nn_l hD (f0.get0 ha)).symm) (f0.get0 ha))) (atI_n (by simp) hx) ?_
      walk_at "wk"
      refine w_ixS1 (SqL.of (f.getl (ni1 (nn_l hD (f0.get0 hb)).symm) (f0.get0 hb))) (atI_n (by simp) hy) ?_
      walk_at "wk"
      have al := h i xs[i] ys[i] hx hy
      refine ⟨Nat.le_add_left 1 _, u_same (n := _) (fr_ald hD f (al.mono f0)) (fun H4 f4 => ?_)⟩
      walk_at "wk"
      subst e
      exact lcN (f4.getl (by simp) hA) (Nat.zero_le _) ⟨rfl, by walk_at "fr"⟩
    · subst e
      walk_at "wk"
      rename_i p3 H3 n3 f3 g3
      refine w_eqD (.lst (SqL.of (f3.getl (by simp) hA)) .nil) (.lst (SqL.of g3) .nil) rfl rfl ?_
      exact qbl (k _ (f0.trans ((f.drop hD).trans f3))) (by decide)
end
end My
namespace My
open PySem L2 Wk
local macro_rules | `(tactic| walk_at "hs") => `(tactic| first
  | assumption
  | (apply fr_st0; (case f => assumption); (case h => walk_at "hs"))
  | (apply fr_st1; (case f => assumption); (case n => walk_at "ne"); (case hw => first | assumption | exact List.mem_cons_self); (case h => walk_at "hs"))
  | fail "none")
local macro_rules | `(tactic| walk_at "nn") => `(tactic| first
  | (apply nn_st; (case n => assumption); (case h => walk_at "hs"))
  | (apply nn_l; (case n => assumption); (case h => walk_at "hp"))
  | (apply nn_d; (case n => assumption); (case h => walk_at "hp"))
  | (apply nn_i; (case n => assumption); (case h => walk_at "hp"))
  | fail "none")
local macro_rules | `(tactic| walk_at "su") => `(tactic| first
  | assumption
  | (apply fr_su; (case f => assumption); (case h => walk_at "su"))
  | fail "none")
local macro_rules | `(tactic| walk_at "as") => `(tactic| first
  | assumption
  | (apply fr_as; (case f => assumption); (case h => walk_at "as"))
  | fail "none")
local macro_rules | `(tactic| walk_at "ef") => `(tactic| first
  | assumption
  | (apply fr_ef0; (case f => assumption); (case h => walk_at "ef"))
  | (apply fr_ef; (case f => assumption); (case n1 => walk_at "ni"); (case n2 => walk_at "ni"); (case n3 => walk_at "ni"); (case h => walk_at "ef"))
  | fail "none")
local macro_rules | `(tactic| walk_at "td") => `(tactic| first
  | assumption
  | (apply fr_td0; (case f => assumption); (case h => walk_at "td"))
  | (apply fr_td; (case f => assumption); (case n1 => walk_at "ni"); (case n2 => walk_at "ni"); (case n3 => walk_at "ni"); (case h => walk_at "td"))
  | fail "none")
local macro_rules | `(tactic| walk_at "sk") => `(tactic| first
  | assumption
  | (apply fr_stk; (case f => assumption); (case a => walk_at "sk"))
  | fail "none")
local macro_rules | `(tactic| walk_at "al") => `(tactic| first
  | assumption
  | (apply fr_al; (case f => assumption); (case h => walk_at "al"))
  | fail "none")
local macro_rules | `(tactic| walk_at "nv") => `(tactic| first
  | assumption
  | (apply fr_nv; (case a => assumption); (case n => walk_at "ni"); (case h => walk_at "nv"))
  | fail "none")
local macro_rules | `(tactic| walk_at "ne") => `(tactic| first
  | assumption
  | (apply Ne.symm; assumption)
  | walk_at "nn"
  | (apply Ne.symm; walk_at "nn")
  | fail "none")
local macro_rules | `(tactic| walk_at "ni") => `(tactic| first
  | exact List.not_mem_nil
  | (apply ni1; walk_at "ne")
  | (apply ni2 <;> walk_at "ne")
  | (apply ni3 <;> walk_at "ne")
  | fail "none")
local macro_rules | `(tactic| walk_at "hp") => `(tactic| first
  | assumption
  | (apply Fr.gett; (case a => assumption); (case h => walk_at "hp"))
  | (apply Fr.getl; (case a => assumption); (case n => walk_at "ni"); (case h => walk_at "hp"))
  | (apply Fr.getd; (case a => assumption); (case n => walk_at "ni"); (case h => walk_at "hp"))
  | (apply Fr.geti; (case a => assumption); (case n => walk_at "ni"); (case h => walk_at "hp"))
  | fail "none")
local macro_rules | `(tactic| walk_at "sqs") => `(tactic| first
  | assumption
  | (apply Fr.sqln; (case a => assumption); (case n => walk_at "ni"); (case h => walk_at "sqs"))
  | fail "none")
local macro_rules | `(tactic| walk_at "sq") => `(tactic| first
  | assumption
  | (apply SqL.of; walk_at "hp")
  | (apply SqT.of; walk_at "hp")
  | walk_at "sqs"
  | fail "none")
local macro_rules | `(tactic| walk_at "fr") => `(tactic| first
  | exact Fr.refl
  | assumption
  | (apply Fr.mono; (case a => assumption); (case h => simp))
  | (apply fr_last; (case f => assumption); (case w => simp); (case g => walk_at "fr"))
  | fail "none")
local macro_rules | `(tactic| walk_at "st") => `(tactic| ((try dsimp only [cxOf, Cx.nox, Cx.wish]); (try simp only [L2.start, List.map_cons, List.map_nil, List.length_cons, List.length_nil, List.replicate, List.cons_append, List.nil_append, Nat.reduceAdd, Nat.reduceSub])))
local macro_rules | `(tactic| walk_at "lset") => `(tactic| (simp only [wipe, List.map_cons, List.map_nil, Int.reduceToNat, List.set_cons_zero, List.set_cons_succ] <;> rfl))
local macro_rules | `(tactic| walk_at "wk1") => `(tactic| first
  | with_reducible refine' w_seq ?_
  | with_reducible refine' w_asg ?_
  | ((with_reducible refine' w_name ?hs ?_); (case hs => walk_at "lset"))
  | ((with_reducible refine' w_var ?hv ?_); (case hv => rfl))
  | with_reducible refine' w_c ?_
  | with_reducible refine' w_op ?_
  | with_reducible refine' w_un ?_
  | with_reducible refine' w_test ?_
  | with_reducible refine' w_tB ?_
  | with_reducible refine' w_exbl ?_
  | with_reducible refine' w_exint ?_
  | with_reducible refine' w_t ?_
  | with_reducible refine' w_f ?_
  | with_reducible refine' w_ifS ?_
  | with_reducible refine' w_if ?_
  | with_reducible refine' w_and ?_
  | with_reducible refine' w_or ?_
  | with_reducible refine' w_not ?_
  | with_reducible refine' w_andV ?_
  | with_reducible refine' w_orV ?_
  | with_reducible refine' w_notV ?_
  | with_reducible refine' w_ret ?_
  | with_reducible refine' w_retN ?_
  | with_reducible refine' w_drop ?_
  | with_reducible refine' w_next ?_
  | with_reducible refine' w_nil ?_
  | with_reducible refine' w_cons ?_
  | with_reducible refine' w_cb ?_
  | with_reducible refine' w_call ?_
  | with_reducible refine' w_gsub ?_
  | with_reducible refine' w_gnil ?_
  | with_reducible refine' w_gcons ?_
  | ((with_reducible refine' w_gtup ?hs ?hn ?_); (case hs => walk_at "sq"); (case hn => rfl))
  | with_reducible refine' w_fld ?_
  | with_reducible refine' w_tfld ?_
  | with_reducible refine' w_sl ?_
  | with_reducible refine' w_nopart ?_
  | with_reducible refine' w_part ?_
  | with_reducible refine' w_bm ?_
  | with_reducible refine' w_bm0 ?_
  | with_reducible refine' w_yes ?_
  | with_reducible refine' w_tup ?_
  | with_reducible refine' w_lst ?_
  | with_reducible refine' w_I0 ?_
  | ((with_reducible refine' w_I ?hc ?_); (case hc => (first | (show (0 : Int) < _; first | decide | omega | assumption) | exact wide_div (by first | assumption | decide) (b := 200) (by first | assumption | decide) (by decide) (by decide) | exact wide_mul (a := 64) (b := 64) (by omega) (by omega) (by decide) (by decide) (by decide) | exact ⟨by decide, by decide, by decide⟩)))
  | ((with_reducible refine' w_eq ?he ?_); (case he => rfl))
  | ((with_reducible refine' w_ne ?he ?_); (case he => rfl))
  | ((with_reducible refine' w_ixL ?hs ?ha ?_); (case hs => walk_at "sq"); (case ha => rfl))
  | ((with_reducible refine' w_ixT ?hs ?ha ?_); (case hs => walk_at "sq"); (case ha => rfl))
  | ((with_reducible refine' w_lenL ?hs ?he ?_); (case hs => walk_at "sq"); (case he => first | (simp only [List.length_cons, List.length_nil, List.length_map]; rfl) | rfl))
  | ((with_reducible refine' w_lenT ?hs ?he ?_); (case hs => walk_at "sq"); (case he => first | (simp only [List.length_cons, List.length_nil, List.length_map]; rfl) | rfl))
  | ((with_reducible refine' w_setL ?hh ?hk ?he (fun H1 f1 g1 => ?_)); (case hh => walk_at "hp"); (case hk => rfl); (case he => walk_at "lset"))
  | ((with_reducible refine' w_newT ?hl (fun p H1 n1 f1 g1 => ?_)); (case hl => (first | decide | (simp only [List.length_cons, List.length_nil]; decide))))
  | ((with_reducible refine' w_newL ?hl (fun p H1 n1 f1 g1 => ?_)); (case hl => (first | decide | (simp only [List.length_cons, List.length_nil]; decide))))
  | with_reducible refine' w_for ?_
  | with_reducible refine' w_ilist ?_
  | ((with_reducible refine' w_ilb ?hs ?_); (case hs => walk_at "sq"))
  | with_reducible refine' w_itup ?_
  | ((with_reducible refine' w_itb ?hs ?_); (case hs => walk_at "sq"))
  | with_reducible refine' w_rng1 ?_
  | ((with_reducible refine' w_rgb1 ?h0 ?h1 ?_); (case h0 => first | decide | omega); (case h1 => first | decide | omega))
  | with_reducible refine' w_lc ?_
  | ((with_reducible refine' w_wipe ?hw ?_); (case hw => rfl))
  | ((with_reducible refine' w_cat ?ha ?hb ?hl (fun p H1 n1 f1 g1 => ?_)); (case ha => walk_at "hp"); (case hb => walk_at "hp"); (case hl => (first | decide | (simp only [List.length_cons, List.length_nil]; decide))))
  | with_reducible refine' w_dget ?_
  | with_reducible refine' w_din ?_
  | with_reducible refine' w_dnotin ?_
  | with_reducible refine' w_dput ?_
  | with_reducible refine' w_dnew ?_
  | with_reducible refine' w_newD (fun p H1 n1 f1 g1 => ?_)
  | ((with_reducible refine' w_slT ?hs ?hn ?he (fun p H1 n1 f1 g1 => ?_)); (case hs => walk_at "sq"); (case hn => decide); (case he => rfl))
  | with_reducible refine' w_meth ?_
  | with_reducible refine' w_make ?_
  | with_reducible refine' w_mkb (fun x dx H1 n1 m1 d1 f1 g1 => ?_)
  | with_reducible refine' w_fldaug ?_
  | with_reducible refine' w_tru ?_
  | ((with_reducible refine' w_trl ?hh ?_); (case hh => walk_at "hp"))
  | with_reducible refine' w_whb ?_
  | with_reducible refine' w_chain ?_
  | with_reducible refine' w_tyIs ?_
  | with_reducible refine' w_raise ?_
  | with_reducible refine' w_rab ?_
  | with_reducible refine' w_jn ?_
  | with_reducible refine' w_js ?_
  | with_reducible refine' w_jsn ?_
  | with_reducible refine' w_fmt ?_
  | with_reducible refine' w_isN ?_
  | with_reducible refine' w_intB ?_
  | with_reducible refine' w_istr ?_
  | with_reducible refine' w_stb ?_
  | ((with_reducible refine' w_inT ?hs ?hx ?ha ?_); (case hs => walk_at "sq"); (case hx => rfl); (case ha => rfl))
  | ((with_reducible refine' w_isf ?hd ?_); (case hd => decide +kernel))
  | ((with_reducible refine' w_ist ?hd ?_); (case hd => decide +kernel))
  | fail "none")
local macro_rules | `(tactic| walk_at "wk") => `(tactic| repeat walk_at "wk1")

section
variable {P : Program} {w : World} {K : PySem.W.Frag} {mg : Str → Option Value} {base : Heap} {f : Addr} {fd : FuncData} {a : Ad}
theorem sc_joined : FnScope ["word", "first", "second"] ["word", "first", "second"] (defScope s_joined) := ⟨rfl, rfl, rfl, by decide +kernel, rfl, by decide +kernel, by decide +kernel⟩
theorem ok_joined (F : Fun K "joined" "joined" s_joined f fd) (Z : Blt mg) (T : Txt K mg a) : FnOk P w K mg base CX0 1 f fd ["word", "first", "second"] spJoined := by
  refine F.ok sc_joined (fun vs H Q E h => ?_) (fun cdv A outer s H vs Q E hr h => ?_)
  · obtain ⟨o, x, y, rfl, _⟩ := h
    rfl
  obtain ⟨o, x, y, rfl, hx, hy, k⟩ := h
  refine ⟨_, (pss_cons (ps_if (pt_cmpR op_eq (pv 0) pe_str (nomark _)) (pss_one (ps_ret (pe_op op_mod (pe_op op_add (pv 1) (pv 2)) (pe_globI rfl T.m_MODULUS)))) pss_nil)
  (pss_cons (ps_if (pt_cmpR op_eq (pv 0) pe_str (nomark _)) (pss_one (ps_ret (pe_op op_mod (pe_op op_sub (pv 1) (pv 2)) (pe_globI rfl T.m_MODULUS)))) pss_nil)
  (pss_one (ps_ret (pe_op op_mod (pe_op op_mulW (pv 1) (pv 2)) (pe_globI rfl T.m_MODULUS)))))), ?_⟩
  walk_at "st"
  cases o
  all_goals
    walk_at "wk"
    exact k
theorem sc_parts_of : FnScope ["part"] ["part"] (defScope s_parts_of) := ⟨rfl, rfl, rfl, by decide +kernel, rfl, by decide +kernel, by decide +kernel⟩
theorem ok_parts_of (F : Fun K "parts_of" "parts_of" s_parts_of f fd) (Z : Blt mg) (T : Txt K mg a) : FnOk P w K mg base CX0 1 f fd ["part"] spPartsOf := by
  refine F.ok sc_parts_of (fun vs H Q E h => ?_) (fun cdv A outer s H vs Q E hr h => ?_)
  · obtain ⟨v, s, rfl, _⟩ := h
    rfl
  obtain ⟨v, s, rfl, hs, k⟩ := h
  have tw := T.q_WORDS
  refine ⟨_, (pss_cons (ps_if (PW.pt (pw_or (pt_cmpR op_eq (pe_ix (r := rIxT K) ix_tup (pv 0) pe_int (fun _ _ => rfl)) pe_str (nomark _)) (pw_or1 (pt_cmpR (r := rIn K false) op_in_seq (pe_ix (r := rIxT K) ix_tup (pv 0) pe_int (fun _ _ => rfl)) (pe_globR rfl T.m_WORDS_WITH_TWO_PARTS) rfl)))) (pss_one (ps_ret (pe_slice (r := rSlT K) sl_tup (pv 0) (po_some pe_int) po_none))) pss_nil)
  (pss_one (ps_ret (pe_tup pa_nil)))), ?_⟩
  walk_at "st"
  cases s with
  | num m =>
    obtain ⟨p, rfl, hp⟩ := hs
    walk_at "wk"
    refine w_inT (tw _) rfl rfl ?_
    walk_at "wk"
    exact k _ [] _ (by assumption) trivial (by walk_at "fr")
  | name c =>
    obtain ⟨p, rfl, hp⟩ := hs
    walk_at "wk"
    refine w_inT (tw _) rfl rfl ?_
    walk_at "wk"
    exact k _ [] _ (by assumption) trivial (by walk_at "fr")
  | ask =>
    obtain ⟨p, rfl, hp⟩ := hs
    walk_at "wk"
    refine w_inT (tw _) rfl rfl ?_
    walk_at "wk"
    exact k _ [] _ (by assumption) trivial (by walk_at "fr")
  | say s =>
    obtain ⟨p, x, rfl, hp, hx⟩ := hs
    walk_at "wk"
    refine w_slT (SqT.of hp) (tail_not _ _) (cut_tail _ _) (fun t H1 n1 f1 g1 => ?_)
    exact k t _ H1 g1 ⟨by walk_at "su", trivial⟩ f1
  | bin o a b =>
    obtain ⟨p, x, y, rfl, hp, hx, hy⟩ := hs
    cases o
    all_goals
      walk_at "wk"
      refine w_inT (tw _) rfl rfl ?_
      walk_at "wk"
      refine w_slT (SqT.of hp) (tail_not _ _) (cut_tail _ _) (fun t H1 n1 f1 g1 => ?_)
      exact k t _ H1 g1 ⟨by walk_at "su", by walk_at "su", trivial⟩ f1
theorem sc_Effects_init : FnScope ["self", "given"] ["self", "given"] (defScope s_Effects_init) := ⟨rfl, rfl, rfl, by decide +kernel, rfl, by decide +kernel, by decide +kernel⟩
theorem ok_initE (F : Fun K "__init__" "Effects.__init__" s_Effects_init f fd) (T : Txt K mg a) : FnOk P w K mg base CX0 1 f fd ["self", "given"] (spInitE a.effects) := by
  refine F.ok sc_Effects_init (fun vs H Q E h => ?_) (fun cdv A outer s H vs Q E hr h => ?_)
  · obtain ⟨e, dx, gv, rfl, _⟩ := h
    rfl
  obtain ⟨e, dx, gv, rfl, he, k⟩ := h
  refine ⟨_, (pss_cons (ps_fld (pv 0) (pv 1) rfl)
  (pss_cons (ps_fld (pv 0) (pe_lst pa_nil) rfl)
  (pss_one (ps_fld (pv 0) pe_int rfl)))), ?_⟩
  walk_at "st"
  walk_at "wk"
  refine w_putfld he T.cl_Effects T.n_given (by simp) rfl (fun H1 f1 g1 => ?_)
  walk_at "wk"
  rename_i sl H2 n2 f2 g2
  have g2' := f2.geti (by simp) g1
  have ne : sl ≠ e := nn_i n2 g1
  refine w_putfld g2' T.cl_Effects T.n_said (by simp [putF]) rfl (fun H3 f3 g3 => ?_)
  walk_at "wk"
  refine w_putfld g3 T.cl_Effects T.n_asked (by simp [putF]; split <;> simp) (ef_put3 gv sl) (fun H4 f4 g4 => ?_)
  have n0 : H sl = none := by
    cases q : H sl with
    | none => rfl
    | some o =>
      have := f1.get q (by simpa using ne)
      rw [n2] at this
      cases this
  exact k sl H4 n0 g4 (by walk_at "hp") (by walk_at "fr")
theorem sc_Effects_say : FnScope ["self", "number"] ["self", "number"] (defScope s_Effects_say) := ⟨rfl, rfl, rfl, by decide +kernel, rfl, by decide +kernel, by decide +kernel⟩
theorem ok_sayE (F : Fun K "say" "Effects.say" s_Effects_say f fd) (T : Txt K mg a) : FnOk P w K mg base CX0 1 f fd ["self", "number"] (spSayE a.effects) := by
  refine F.ok sc_Effects_say (fun vs H Q E h => ?_) (fun cdv A outer s H vs Q E hr h => ?_)
  · obtain ⟨e, dx, gv, sl, n, v, xs, rfl, _⟩ := h
    rfl
  obtain ⟨e, dx, gv, sl, n, v, xs, rfl, he, hs, hx, k⟩ := h
  refine ⟨_, (pss_one (ps_expr (pe_bm PySem.F.plainAttrs_list PySem.F.slot_list_append PySem.F.type_list_append mt_append (pe_fld (pv 0) rfl) (pa_cons (pv 1) pa_nil)))), ?_⟩
  walk_at "st"
  walk_at "wk"
  refine w_getfld he T.cl_Effects T.n_said (ef_said _ _ _) ?_
  refine w_tyl hs ?_
  walk_at "wk"
  refine w_app hs (by omega) (fun H1 f1 g1 => ?_)
  exact k H1 g1 f1
theorem sc_Effects_ask : FnScope ["self", "number"] ["self"] (defScope s_Effects_ask) := ⟨rfl, rfl, rfl, by decide +kernel, rfl, by decide +kernel, by decide +kernel⟩
theorem ok_askE (F : Fun K "ask" "Effects.ask" s_Effects_ask f fd) (T : Txt K mg a) : FnOk P w K mg base CX0 1 f fd ["self"] (spAskE a.effects) := by
  refine F.ok sc_Effects_ask (fun vs H Q E h => ?_) (fun cdv A outer s H vs Q E hr h => ?_)
  · obtain ⟨e, dx, gv, sl, n, gs, rfl, _⟩ := h
    rfl
  obtain ⟨e, dx, gv, sl, n, gs, rfl, he, hg, hn, k⟩ := h
  refine ⟨_, (pss_cons (ps_set (i := 1) sc_Effects_ask.nd rfl (Or.inl rfl) (pe_ix (r := rIxL K) ix_list (pe_fld (pv 0) rfl) (pe_fld (pv 0) rfl) (fun _ _ => rfl)))
  (pss_cons (ps_fldaug (pv 0) pe_int in_add)
  (pss_one (ps_ret (pv 1))))), ?_⟩
  walk_at "st"
  walk_at "wk"
  refine w_getfld he T.cl_Effects T.n_given (ef_given _ _ _) ?_
  walk_at "wk"
  refine w_getfld he T.cl_Effects T.n_asked (ef_asked _ _ _) ?_
  have e1 : atI (gs.map V.int) (n : Int) = some (.int (gs.getD n 0)) := atI_nat (by rw [List.getElem?_map, List.getElem?_eq_getElem hn, List.getD_eq_getElem?_getD, List.getElem?_eq_getElem hn]; rfl)
  refine w_ixL (SqL.of hg) e1 ?_
  walk_at "wk"
  refine w_augI he T.cl_Effects T.n_asked (ef_asked _ _ _) (by simp [ef]) (ef_put _ _ _) (fun H1 f1 g1 => ?_)
  walk_at "wk"
  exact k H1 g1 f1
end
end My
namespace My
open PySem L2 Wk
local macro_rules | `(tactic| walk_at "hs") => `(tactic| first
  | assumption
  | (apply fr_st0; (case f => assumption); (case h => walk_at "hs"))
  | (apply fr_st1; (case f => assumption); (case n => walk_at "ne"); (case hw => first | assumption | exact List.mem_cons_self); (case h => walk_at "hs"))
  | fail "none")
local macro_rules | `(tactic| walk_at "nn") => `(tactic| first
  | (apply nn_st; (case n => assumption); (case h => walk_at "hs"))
  | (apply nn_l; (case n => assumption); (case h => walk_at "hp"))
  | (apply nn_d; (case n => assumption); (case h => walk_at "hp"))
  | (apply nn_i; (case n => assumption); (case h => walk_at "hp"))
  | fail "none")
local macro_rules | `(tactic| walk_at "su") => `(tactic| first
  | assumption
  | (apply fr_su; (case f => assumption); (case h => walk_at "su"))
  | fail "none")
local macro_rules | `(tactic| walk_at "as") => `(tactic| first
  | assumption
  | (apply fr_as; (case f => assumption); (case h => walk_at "as"))
  | fail "none")
local macro_rules | `(tactic| walk_at "ef") => `(tactic| first
  | assumption
  | (apply fr_ef0; (case f => assumption); (case h => walk_at "ef"))
  | (apply fr_ef; (case f => assumption); (case n1 => walk_at "ni"); (case n2 => walk_at "ni"); (case n3 => walk_at "ni"); (case h => walk_at "ef"))
  | fail "none")
local macro_rules | `(tactic| walk_at "td") => `(tactic| first
  | assumption
  | (apply fr_td0; (case f => assumption); (case h => walk_at "td"))
  | (apply fr_td; (case f => assumption); (case n1 => walk_at "ni"); (case n2 => walk_at "ni"); (case n3 => walk_at "ni"); (case h => walk_at "td"))
  | fail "none")
local macro_rules | `(tactic| walk_at "sk") => `(tactic| first
  | assumption
  | (apply fr_stk; (case f => assumption); (case a => walk_at "sk"))
  | fail "none")
local macro_rules | `(tactic| walk_at "al") => `(tactic| first
  | assumption
  | (apply fr_al; (case f => assumption); (case h => walk_at "al"))
  | fail "none")
local macro_rules | `(tactic| walk_at "nv") => `(tactic| first
  | assumption
  | (apply fr_nv; (case a => assumption); (case n => walk_at "ni"); (case h => walk_at "nv"))
  | fail "none")
local macro_rules | `(tactic| walk_at "ne") => `(tactic| first
  | assumption
  | (apply Ne.symm; assumption)
  | walk_at "nn"
  | (apply Ne.symm; walk_at "nn")
  | fail "none")
local macro_rules | `(tactic| walk_at "ni") => `(tactic| first
  | exact List.not_mem_nil
  | (apply ni1; walk_at "ne")
  | (apply ni2 <;> walk_at "ne")
  | (apply ni3 <;> walk_at "ne")
  | fail "none")
local macro_rules | `(tactic| walk_at "hp") => `(tactic| first
  | assumption
  | (apply Fr.gett; (case a => assumption); (case h => walk_at "hp"))
  | (apply Fr.getl; (case a => assumption); (case n => walk_at "ni"); (case h => walk_at "hp"))
  | (apply Fr.getd; (case a => assumption); (case n => walk_at "ni"); (case h => walk_at "hp"))
  | (apply Fr.geti; (case a => assumption); (case n => walk_at "ni"); (case h => walk_at "hp"))
  | fail "none")
local macro_rules | `(tactic| walk_at "sqs") => `(tactic| first
  | assumption
  | (apply Fr.sqln; (case a => assumption); (case n => walk_at "ni"); (case h => walk_at "sqs"))
  | fail "none")
local macro_rules | `(tactic| walk_at "sq") => `(tactic| first
  | assumption
  | (apply SqL.of; walk_at "hp")
  | (apply SqT.of; walk_at "hp")
  | walk_at "sqs"
  | fail "none")
local macro_rules | `(tactic| walk_at "fr") => `(tactic| first
  | exact Fr.refl
  | assumption
  | (apply Fr.mono; (case a => assumption); (case h => simp))
  | (apply fr_last; (case f => assumption); (case w => simp); (case g => walk_at "fr"))
  | fail "none")
local macro_rules | `(tactic| walk_at "st") => `(tactic| ((try dsimp only [cxOf, Cx.nox, Cx.wish]); (try simp only [L2.start, List.map_cons, List.map_nil, List.length_cons, List.length_nil, List.replicate, List.cons_append, List.nil_append, Nat.reduceAdd, Nat.reduceSub])))
local macro_rules | `(tactic| walk_at "lset") => `(tactic| (simp only [wipe, List.map_cons, List.map_nil, Int.reduceToNat, List.set_cons_zero, List.set_cons_succ] <;> rfl))
local macro_rules | `(tactic| walk_at "wk1") => `(tactic| first
  | with_reducible refine' w_seq ?_
  | with_reducible refine' w_asg ?_
  | ((with_reducible refine' w_name ?hs ?_); (case hs => walk_at "lset"))
  | ((with_reducible refine' w_var ?hv ?_); (case hv => rfl))
  | with_reducible refine' w_c ?_
  | with_reducible refine' w_op ?_
  | with_reducible refine' w_un ?_
  | with_reducible refine' w_test ?_
  | with_reducible refine' w_tB ?_
  | with_reducible refine' w_exbl ?_
  | with_reducible refine' w_exint ?_
  | with_reducible refine' w_t ?_
  | with_reducible refine' w_f ?_
  | with_reducible refine' w_ifS ?_
  | with_reducible refine' w_if ?_
  | with_reducible refine' w_and ?_
  | with_reducible refine' w_or ?_
  | with_reducible refine' w_not ?_
  | with_reducible refine' w_andV ?_
  | with_reducible refine' w_orV ?_
  | with_reducible refine' w_notV ?_
  | with_reducible refine' w_ret ?_
  | with_reducible refine' w_retN ?_
  | with_reducible refine' w_drop ?_
  | with_reducible refine' w_next ?_
  | with_reducible refine' w_nil ?_
  | with_reducible refine' w_cons ?_
  | with_reducible refine' w_cb ?_
  | with_reducible refine' w_call ?_
  | with_reducible refine' w_gsub ?_
  | with_reducible refine' w_gnil ?_
  | with_reducible refine' w_gcons ?_
  | ((with_reducible refine' w_gtup ?hs ?hn ?_); (case hs => walk_at "sq"); (case hn => rfl))
  | with_reducible refine' w_fld ?_
  | with_reducible refine' w_tfld ?_
  | with_reducible refine' w_sl ?_
  | with_reducible refine' w_nopart ?_
  | with_reducible refine' w_part ?_
  | with_reducible refine' w_bm ?_
  | with_reducible refine' w_bm0 ?_
  | with_reducible refine' w_yes ?_
  | with_reducible refine' w_tup ?_
  | with_reducible refine' w_lst ?_
  | with_reducible refine' w_I0 ?_
  | ((with_reducible refine' w_I ?hc ?_); (case hc => (first | (show (0 : Int) < _; first | decide | omega | assumption) | exact wide_div (by first | assumption | decide) (b := 200) (by first | assumption | decide) (by decide) (by decide) | exact wide_mul (a := 64) (b := 64) (by omega) (by omega) (by decide) (by decide) (by decide) | exact ⟨by decide, by decide, by decide⟩)))
  | ((with_reducible refine' w_eq ?he ?_); (case he => rfl))
  | ((with_reducible refine' w_ne ?he ?_); (case he => rfl))
  | ((with_reducible refine' w_ixL ?hs ?ha ?_); (case hs => walk_at "sq"); (case ha => rfl))
  | ((with_reducible refine' w_ixT ?hs ?ha ?_); (case hs => walk_at "sq"); (case ha => rfl))
  | ((with_reducible refine' w_lenL ?hs ?he ?_); (case hs => walk_at "sq"); (case he => first | (simp only [List.length_cons, List.length_nil, List.length_map]; rfl) | rfl))
  | ((with_reducible refine' w_lenT ?hs ?he ?_); (case hs => walk_at "sq"); (case he => first | (simp only [List.length_cons, List.length_nil, List.length_map]; rfl) | rfl))
  | ((with_reducible refine' w_setL ?hh ?hk ?he (fun H1 f1 g1 => ?_)); (case hh => walk_at "hp"); (case hk => rfl); (case he => walk_at "lset"))
  | ((with_reducible refine' w_newT ?hl (fun p H1 n1 f1 g1 => ?_)); (case hl => (first | decide | (simp only [List.length_cons, List.length_nil]; decide))))
  | ((with_reducible refine' w_newL ?hl (fun p H1 n1 f1 g1 => ?_)); (case hl => (first | decide | (simp only [List.length_cons, List.length_nil]; decide))))
  | with_reducible refine' w_for ?_
  | with_reducible refine' w_ilist ?_
  | ((with_reducible refine' w_ilb ?hs ?_); (case hs => walk_at "sq"))
  | with_reducible refine' w_itup ?_
  | ((with_reducible refine' w_itb ?hs ?_); (case hs => walk_at "sq"))
  | with_reducible refine' w_rng1 ?_
  | ((with_reducible refine' w_rgb1 ?h0 ?h1 ?_); (case h0 => first | decide | omega); (case h1 => first | decide | omega))
  | with_reducible refine' w_lc ?_
  | ((with_reducible refine' w_wipe ?hw ?_); (case hw => rfl))
  | ((with_reducible refine' w_cat ?ha ?hb ?hl (fun p H1 n1 f1 g1 => ?_)); (case ha => walk_at "hp"); (case hb => walk_at "hp"); (case hl => (first | decide | (simp only [List.length_cons, List.length_nil]; decide))))
  | with_reducible refine' w_dget ?_
  | with_reducible refine' w_din ?_
  | with_reducible refine' w_dnotin ?_
  | with_reducible refine' w_dput ?_
  | with_reducible refine' w_dnew ?_
  | with_reducible refine' w_newD (fun p H1 n1 f1 g1 => ?_)
  | ((with_reducible refine' w_slT ?hs ?hn ?he (fun p H1 n1 f1 g1 => ?_)); (case hs => walk_at "sq"); (case hn => decide); (case he => rfl))
  | with_reducible refine' w_meth ?_
  | with_reducible refine' w_make ?_
  | with_reducible refine' w_mkb (fun x dx H1 n1 m1 d1 f1 g1 => ?_)
  | with_reducible refine' w_fldaug ?_
  | with_reducible refine' w_tru ?_
  | ((with_reducible refine' w_trl ?hh ?_); (case hh => walk_at "hp"))
  | with_reducible refine' w_whb ?_
  | with_reducible refine' w_chain ?_
  | with_reducible refine' w_tyIs ?_
  | with_reducible refine' w_raise ?_
  | with_reducible refine' w_rab ?_
  | with_reducible refine' w_jn ?_
  | with_reducible refine' w_js ?_
  | with_reducible refine' w_jsn ?_
  | with_reducible refine' w_fmt ?_
  | with_reducible refine' w_isN ?_
  | with_reducible refine' w_intB ?_
  | with_reducible refine' w_istr ?_
  | with_reducible refine' w_stb ?_
  | ((with_reducible refine' w_inT ?hs ?hx ?ha ?_); (case hs => walk_at "sq"); (case hx => rfl); (case ha => rfl))
  | ((with_reducible refine' w_isf ?hd ?_); (case hd => decide +kernel))
  | ((with_reducible refine' w_ist ?hd ?_); (case hd => decide +kernel))
  | fail "none")
local macro_rules | `(tactic| walk_at "wk") => `(tactic| repeat walk_at "wk1")

section
variable {P : Program} {w : World} {K : PySem.W.Frag} {mg : Str → Option Value} {base : Heap} {f : Addr} {fd : FuncData} {a : Ad}
theorem sc_comes_to : FnScope ["part", "worths", "names", "effects", "word"] ["part", "worths", "names", "effects"] (defScope s_comes_to) := ⟨rfl, rfl, rfl, by decide +kernel, rfl, by decide +kernel, by decide +kernel⟩
theorem ok_comes {gS gA : Addr} {gSd gAd : FuncData} (F : Fun K "comes_to" "comes_to" s_comes_to f fd) (Z : Blt mg) (T : Txt K mg a) (D_joined : Df P w K mg base CX0 1 "joined" ["word", "first", "second"] spJoined)
    (mt_say : Meth K a.effects "say" gS) (b_say : Binds K gSd ["self", "number"] []) (G_say : FnOk P w K mg base CX0 1 gS gSd ["self", "number"] (spSayE a.effects))
    (mt_ask : Meth K a.effects "ask" gA) (b_ask : Binds K gAd ["self"] []) (G_ask : FnOk P w K mg base CX0 1 gA gAd ["self"] (spAskE a.effects)) : FnOk P w K mg base CX0 2 f fd ["part", "worths", "names", "effects"] (spComes a.effects) := by
  refine F.ok sc_comes_to (fun vs H Q E h => ?_) (fun cdv A outer s H vs Q E hr h => ?_)
  · obtain ⟨v, s, wl, nd, e, dx, gv, sl, ws, gs, sd, fn, n, rfl, _⟩ := h
    rfl
  obtain ⟨v, s, wl, nd, e, dx, gv, sl, ws, gs, sd, fn, n, rfl, hs, hok, hw, hwn, hlen, hws, hn, he, hask, hsd, k⟩ := h
  refine ⟨_, (pss_cons (ps_set (i := 4) sc_comes_to.nd rfl (Or.inl rfl) (pe_ix (r := rIxT K) ix_tup (pv 0) pe_int (fun _ _ => rfl)))
  (pss_cons (ps_if (pt_cmpR op_eq (pv 4) pe_str (nomark _)) (pss_one (ps_ret (pe_ix (r := rIxT K) ix_tup (pv 0) pe_int (fun _ _ => rfl)))) pss_nil)
  (pss_cons (ps_if (pt_cmpR op_eq (pv 4) pe_str (nomark _)) (pss_one (ps_ret (pe_dget (hu_of hr) (pv 2) (pe_ix (r := rIxT K) ix_tup (pv 0) pe_int (fun _ _ => rfl)) (fun _ _ => rfl)))) pss_nil)
  (pss_cons (ps_if (pt_cmpR op_eq (pv 4) pe_str (nomark _)) (pss_one (ps_ret (pe_meth0 (pv 3) T.cl_Effects mt_ask G_ask (hr.mono (by first | decide | omega)) b_ask .nil pass0))) pss_nil)
  (pss_cons (ps_if (pt_cmpR op_eq (pv 4) pe_str (nomark _)) (pss_cons (ps_expr (pe_meth (pv 3) T.cl_Effects mt_say G_say (hr.mono (by first | decide | omega)) b_say .nil pass0 (pa_cons (pe_ix (r := rIxL K) ix_list (pv 1) pe_int (fun _ _ => rfl)) pa_nil)))
  (pss_one (ps_ret (pe_ix (r := rIxL K) ix_list (pv 1) pe_int (fun _ _ => rfl))))) pss_nil)
  (pss_one (ps_ret (pe_df D_joined hr (by first | decide | omega) (pa_cons (pv 4) (pa_cons (pe_ix (r := rIxL K) ix_list (pv 1) pe_int (fun _ _ => rfl)) (pa_cons (pe_ix (r := rIxL K) ix_list (pv 1) pe_int (fun _ _ => rfl)) pa_nil))))))))))), ?_⟩
  walk_at "st"
  cases s with
  | num m =>
    obtain ⟨p, rfl, hp⟩ := hs
    walk_at "wk"
    exact k H he .refl
  | name c =>
    obtain ⟨p, rfl, hp⟩ := hs
    obtain ⟨kvs, hd, hv⟩ := hn
    walk_at "wk"
    refine w_dgs hd (hv c hok) ?_
    exact k H he .refl
  | ask =>
    obtain ⟨p, rfl, hp⟩ := hs
    walk_at "wk"
    refine w_meb he.ins (ef_none (by decide +kernel) (by decide +kernel) (by decide +kernel)) ?_
    walk_at "wk"
    refine u_askE he.ins he.gvn (hask rfl) (fun H1 g1 f1 => ?_)
    have n1 : sl ≠ e := ne_of he.said he.ins (by intro z; cases z)
    have n2 : gv ≠ e := ne_of he.gvn he.ins (by intro z; cases z)
    exact k H1 ⟨g1, f1.getl (ni1 n1) he.said, f1.getl (ni1 n2) he.gvn, he.ne⟩ (by walk_at "fr")
  | say s =>
    obtain ⟨p, x, rfl, hp, hx⟩ := hs
    match ws, hlen with
    | [y], _ =>
      walk_at "wk"
      refine w_meb he.ins (ef_none (by decide +kernel) (by decide +kernel) (by decide +kernel)) ?_
      walk_at "wk"
      refine u_sayE he.ins he.said (by rw [List.length_map]; exact hsd) (fun H1 g1 f1 => ?_)
      have n1 : e ≠ sl := ne_of he.ins he.said (by intro z; cases z)
      have g1' : H1 sl = some (.lst ((sd ++ [y]).map V.int)) := by rw [List.map_append]; exact g1
      walk_at "wk"
      exact k H1 ⟨f1.geti (ni1 n1) he.ins, g1', f1.getl (ni1 he.ne) he.gvn, he.ne⟩ (by walk_at "fr")
  | bin o a b =>
    obtain ⟨p, x, y, rfl, hp, hx, hy⟩ := hs
    match ws, hlen with
    | [y1, y2], _ =>
      have h1 := hws y1 (by simp)
      have h2 := hws y2 (by simp)
      cases o
      all_goals
        walk_at "wk"
      · exact ⟨.add, y1, y2, rfl, by omega, by omega, k H he .refl⟩
      · exact ⟨.less, y1, y2, rfl, by omega, by omega, k H he .refl⟩
      · exact ⟨.times, y1, y2, rfl, by omega, by omega, k H he .refl⟩
theorem sc_worked_out : FnScope ["part", "names", "effects", "worths", "inner"] ["part", "names", "effects"] (defScope s_worked_out) := ⟨rfl, rfl, rfl, by decide +kernel, rfl, by decide +kernel, by decide +kernel⟩
theorem ok_worked {n : Nat} (F : Fun K "worked_out" "worked_out" s_worked_out f fd) (Z : Blt mg) (T : Txt K mg a) (D_parts_of : Df P w K mg base CX0 1 "parts_of" ["part"] spPartsOf)
    (D_comes_to : Df P w K mg base CX0 2 "comes_to" ["part", "worths", "names", "effects"] (spComes a.effects))
    (D_worked_out : Df P w K mg base CX0 (n + 2) "worked_out" ["part", "names", "effects"] (spWorked a.effects n)) : FnOk P w K mg base CX0 (n + 3) f fd ["part", "names", "effects"] (spWorked a.effects (n + 1)) := by
  refine F.ok sc_worked_out (fun vs H Q E h => ?_) (fun cdv A outer s H vs Q E hr h => ?_)
  · obtain ⟨v, s, nd, e, dx, gv, sl, gs, sd, fn, m, rfl, _⟩ := h
    rfl
  obtain ⟨v, s, nd, e, dx, gv, sl, gs, sd, fn, m, rfl, hs, hok, hd, hg, hn, he, hk, hsd, k⟩ := h
  have hn' := hn
  obtain ⟨kvs, hnd, _⟩ := hn'
  have n1 : nd ≠ e := ne_of hnd he.ins (by intro z; cases z)
  have n2 : nd ≠ sl := ne_of hnd he.said (by intro z; cases z)
  have n3 : sl ≠ e := ne_of he.said he.ins (by intro z; cases z)
  have n4 : gv ≠ e := ne_of he.gvn he.ins (by intro z; cases z)
  have n5 := he.ne
  refine ⟨_, (pss_cons (ps_setLc (i := 3) (own := [("inner", 4)]) (g := gName 4) (tt := tYes) (by rfl) sc_worked_out.nd rfl rfl (sw_true rfl rfl rfl (by decide +kernel)) (pi_tup (pe_df D_parts_of hr (by first | decide | omega) (pa_cons (pv 0) pa_nil))) (blkOk_by (own := [("inner", 4)]) (N := ["part", "names", "effects", "worths", "inner"]) (sc := defScope s_worked_out) (by decide +kernel)) (fun _ _ _ _ _ => pg_name (i := 4) sc_worked_out.nd rfl (Or.inl rfl)) (fun _ _ _ _ _ => pts_nil) (fun _ _ _ _ _ => (pe_df D_worked_out hr (by first | decide | omega) (pa_cons (pv 4) (pa_cons (pv 1) (pa_cons (pv 2) pa_nil))))))
  (pss_one (ps_ret (pe_df D_comes_to hr (by first | decide | omega) (pa_cons (pv 0) (pa_cons (pv 3) (pa_cons (pv 1) (pa_cons (pv 2) pa_nil)))))))), ?_⟩
  walk_at "st"
  walk_at "wk"
  refine u_partsOf hs (fun p us H1 g1 a1 f1 => ?_)
  walk_at "wk"
  have he1 : EffAt a.effects H1 e dx gv gs sl sd m := by walk_at "ef"
  have hn1 : NamesV H1 nd fn := by walk_at "nv"
  refine lcT (xs := us) (fun D i acc H' => acc = (evs fn gs (s.subs.take i) sd m).1.map V.int ∧ EffAt a.effects H' e dx gv gs sl (evs fn gs (s.subs.take i) sd m).2.1 (evs fn gs (s.subs.take i) sd m).2.2 ∧ Fr [D, e, sl] H1 H')
    (fun D H' hD f g => ⟨rfl, by walk_at "ef", f.nil⟩) (fun D i acc H' hD ⟨_, _, f⟩ => SqT.of (f.tup _ _ g1)) (fun D i x acc H' hD hx hlt ha hA ⟨e1, e2, f⟩ => ?_) (fun D acc H' hD hA hn ⟨e1, e2, f⟩ => ?_)
  · obtain ⟨t, ht, hxt⟩ := a1.at hx
    have hm := List.mem_of_getElem? ht
    have d1 : D ≠ e := nn_i hD he1.ins
    have d2 : D ≠ sl := nn_l hD he1.said
    have d3 : D ≠ gv := nn_l hD he1.gvn
    have d4 : nd ≠ D := ne_of_none (f1.getd (by simp) hnd) hD
    walk_at "wk"
    have q1 := subs_asks_le s (i + 1)
    have q2 := subs_size_le s (i + 1)
    rw [take_snoc ht, asksL_app] at q1
    rw [take_snoc ht, sizeL_app] at q2
    have q3 := evs_asked fn gs (s.subs.take i) sd m
    have q4 := evs_said fn gs (s.subs.take i) sd m
    simp only [asksL, sizeL] at q1 q2
    refine u_worked (by walk_at "su") (subs_ok hok hm) (by have := Sm.subs_depth hm; omega) hg (by walk_at "nv") e2 (by omega) (by omega) (fun H2 e3 f2 => ?_)
    refine lcE (acc := acc) (f2.getl (ni2 d1 d2) hA) ha (by have := a1.length; have := subs_len2 s; omega) (fun H5 f5 g5 => ⟨?_, ?_, by walk_at "fr"⟩)
    · rw [take_snoc ht, evs_snoc, e1, List.map_append]
      rfl
    · rw [take_snoc ht, evs_snoc]
      exact fr_ef f5 (ni1 d1.symm) (ni1 d2.symm) (ni1 d3.symm) e3
  · have et : s.subs.take us.length = s.subs := by rw [a1.length, List.take_length]
    rw [et] at e1 e2
    have d2 : D ≠ sl := nn_l hD he1.said
    have d4 : nd ≠ D := ne_of_none (f1.getd (by simp) hnd) hD
    have r1 := evs_said fn gs s.subs sd m
    have r2 := subs_size_le s 2
    have r3 : s.subs.take 2 = s.subs := List.take_of_length_le (subs_len2 s)
    rw [r3] at r2
    rw [e1] at hA
    walk_at "wk"
    refine u_comes (by walk_at "su") hok hA d2 (evs_length _ _ _ _ _) (evs_range hg s.subs (fun t ht => subs_ok hok ht) sd m) (by walk_at "nv") e2 (fun es => ?_) (by omega) (fun H3 e3 f3 => ?_)
    · subst es
      have q : (evs fn gs Sm.ask.subs sd m).2.2 = m := rfl
      have q' : m + 1 ≤ gs.length := hk
      omega
    · rw [← ev_top] at e3
      have ev : (s.top fn gs (evs fn gs s.subs sd m).1 (evs fn gs s.subs sd m).2.1 (evs fn gs s.subs sd m).2.2) = s.ev fn gs sd m := (ev_top fn gs s sd m).symm
      rw [ev]
      exact k H3 e3 ((f1.nil.trans ((f.drop hD).mono (by simp))).trans f3)
end
end My
namespace My
open PySem L2 Wk
local macro_rules | `(tactic| walk_at "hs") => `(tactic| first
  | assumption
  | (apply fr_st0; (case f => assumption); (case h => walk_at "hs"))
  | (apply fr_st1; (case f => assumption); (case n => walk_at "ne"); (case hw => first | assumption | exact List.mem_cons_self); (case h => walk_at "hs"))
  | fail "none")
local macro_rules | `(tactic| walk_at "nn") => `(tactic| first
  | (apply nn_st; (case n => assumption); (case h => walk_at "hs"))
  | (apply nn_l; (case n => assumption); (case h => walk_at "hp"))
  | (apply nn_d; (case n => assumption); (case h => walk_at "hp"))
  | (apply nn_i; (case n => assumption); (case h => walk_at "hp"))
  | fail "none")
local macro_rules | `(tactic| walk_at "su") => `(tactic| first
  | assumption
  | (apply fr_su; (case f => assumption); (case h => walk_at "su"))
  | fail "none")
local macro_rules | `(tactic| walk_at "as") => `(tactic| first
  | assumption
  | (apply fr_as; (case f => assumption); (case h => walk_at "as"))
  | fail "none")
local macro_rules | `(tactic| walk_at "ef") => `(tactic| first
  | assumption
  | (apply fr_ef0; (case f => assumption); (case h => walk_at "ef"))
  | (apply fr_ef; (case f => assumption); (case n1 => walk_at "ni"); (case n2 => walk_at "ni"); (case n3 => walk_at "ni"); (case h => walk_at "ef"))
  | fail "none")
local macro_rules | `(tactic| walk_at "td") => `(tactic| first
  | assumption
  | (apply fr_td0; (case f => assumption); (case h => walk_at "td"))
  | (apply fr_td; (case f => assumption); (case n1 => walk_at "ni"); (case n2 => walk_at "ni"); (case n3 => walk_at "ni"); (case h => walk_at "td"))
  | fail "none")
local macro_rules | `(tactic| walk_at "sk") => `(tactic| first
  | assumption
  | (apply fr_stk; (case f => assumption); (case a => walk_at "sk"))
  | fail "none")
local macro_rules | `(tactic| walk_at "al") => `(tactic| first
  | assumption
  | (apply fr_al; (case f => assumption); (case h => walk_at "al"))
  | fail "none")
local macro_rules | `(tactic| walk_at "nv") => `(tactic| first
  | assumption
  | (apply fr_nv; (case a => assumption); (case n => walk_at "ni"); (case h => walk_at "nv"))
  | fail "none")
local macro_rules | `(tactic| walk_at "ne") => `(tactic| first
  | assumption
  | (apply Ne.symm; assumption)
  | walk_at "nn"
  | (apply Ne.symm; walk_at "nn")
  | fail "none")
local macro_rules | `(tactic| walk_at "ni") => `(tactic| first
  | exact List.not_mem_nil
  | (apply ni1; walk_at "ne")
  | (apply ni2 <;> walk_at "ne")
  | (apply ni3 <;> walk_at "ne")
  | fail "none")
local macro_rules | `(tactic| walk_at "hp") => `(tactic| first
  | assumption
  | (apply Fr.gett; (case a => assumption); (case h => walk_at "hp"))
  | (apply Fr.getl; (case a => assumption); (case n => walk_at "ni"); (case h => walk_at "hp"))
  | (apply Fr.getd; (case a => assumption); (case n => walk_at "ni"); (case h => walk_at "hp"))
  | (apply Fr.geti; (case a => assumption); (case n => walk_at "ni"); (case h => walk_at "hp"))
  | fail "none")
local macro_rules | `(tactic| walk_at "sqs") => `(tactic| first
  | assumption
  | (apply Fr.sqln; (case a => assumption); (case n => walk_at "ni"); (case h => walk_at "sqs"))
  | fail "none")
local macro_rules | `(tactic| walk_at "sq") => `(tactic| first
  | assumption
  | (apply SqL.of; walk_at "hp")
  | (apply SqT.of; walk_at "hp")
  | walk_at "sqs"
  | fail "none")
local macro_rules | `(tactic| walk_at "fr") => `(tactic| first
  | exact Fr.refl
  | assumption
  | (apply Fr.mono; (case a => assumption); (case h => simp))
  | (apply fr_last; (case f => assumption); (case w => simp); (case g => walk_at "fr"))
  | fail "none")
local macro_rules | `(tactic| walk_at "st") => `(tactic| ((try dsimp only [cxOf, Cx.nox, Cx.wish]); (try simp only [L2.start, List.map_cons, List.map_nil, List.length_cons, List.length_nil, List.replicate, List.cons_append, List.nil_append, Nat.reduceAdd, Nat.reduceSub])))
local macro_rules | `(tactic| walk_at "lset") => `(tactic| (simp only [wipe, List.map_cons, List.map_nil, Int.reduceToNat, List.set_cons_zero, List.set_cons_succ] <;> rfl))
local macro_rules | `(tactic| walk_at "wk1") => `(tactic| first
  | with_reducible refine' w_seq ?_
  | with_reducible refine' w_asg ?_
  | ((with_reducible refine' w_name ?hs ?_); (case hs => walk_at "lset"))
  | ((with_reducible refine' w_var ?hv ?_); (case hv => rfl))
  | with_reducible refine' w_c ?_
  | with_reducible refine' w_op ?_
  | with_reducible refine' w_un ?_
  | with_reducible refine' w_test ?_
  | with_reducible refine' w_tB ?_
  | with_reducible refine' w_exbl ?_
  | with_reducible refine' w_exint ?_
  | with_reducible refine' w_t ?_
  | with_reducible refine' w_f ?_
  | with_reducible refine' w_ifS ?_
  | with_reducible refine' w_if ?_
  | with_reducible refine' w_and ?_
  | with_reducible refine' w_or ?_
  | with_reducible refine' w_not ?_
  | with_reducible refine' w_andV ?_
  | with_reducible refine' w_orV ?_
  | with_reducible refine' w_notV ?_
  | with_reducible refine' w_ret ?_
  | with_reducible refine' w_retN ?_
  | with_reducible refine' w_drop ?_
  | with_reducible refine' w_next ?_
  | with_reducible refine' w_nil ?_
  | with_reducible refine' w_cons ?_
  | with_reducible refine' w_cb ?_
  | with_reducible refine' w_call ?_
  | with_reducible refine' w_gsub ?_
  | with_reducible refine' w_gnil ?_
  | with_reducible refine' w_gcons ?_
  | ((with_reducible refine' w_gtup ?hs ?hn ?_); (case hs => walk_at "sq"); (case hn => rfl))
  | with_reducible refine' w_fld ?_
  | with_reducible refine' w_tfld ?_
  | with_reducible refine' w_sl ?_
  | with_reducible refine' w_nopart ?_
  | with_reducible refine' w_part ?_
  | with_reducible refine' w_bm ?_
  | with_reducible refine' w_bm0 ?_
  | with_reducible refine' w_yes ?_
  | with_reducible refine' w_tup ?_
  | with_reducible refine' w_lst ?_
  | with_reducible refine' w_I0 ?_
  | ((with_reducible refine' w_I ?hc ?_); (case hc => (first | (show (0 : Int) < _; first | decide | omega | assumption) | exact wide_div (by first | assumption | decide) (b := 200) (by first | assumption | decide) (by decide) (by decide) | exact wide_mul (a := 64) (b := 64) (by omega) (by omega) (by decide) (by decide) (by decide) | exact ⟨by decide, by decide, by decide⟩)))
  | ((with_reducible refine' w_eq ?he ?_); (case he => rfl))
  | ((with_reducible refine' w_ne ?he ?_); (case he => rfl))
  | ((with_reducible refine' w_ixL ?hs ?ha ?_); (case hs => walk_at "sq"); (case ha => rfl))
  | ((with_reducible refine' w_ixT ?hs ?ha ?_); (case hs => walk_at "sq"); (case ha => rfl))
  | ((with_reducible refine' w_lenL ?hs ?he ?_); (case hs => walk_at "sq"); (case he => first | (simp only [List.length_cons, List.length_nil, List.length_map]; rfl) | rfl))
  | ((with_reducible refine' w_lenT ?hs ?he ?_); (case hs => walk_at "sq"); (case he => first | (simp only [List.length_cons, List.length_nil, List.length_map]; rfl) | rfl))
  | ((with_reducible refine' w_setL ?hh ?hk ?he (fun H1 f1 g1 => ?_)); (case hh => walk_at "hp"); (case hk => rfl); (case he => walk_at "lset"))
  | ((with_reducible refine' w_newT ?hl (fun p H1 n1 f1 g1 => ?_)); (case hl => (first | decide | (simp only [List.length_cons, List.length_nil]; decide))))
  | ((with_reducible refine' w_newL ?hl (fun p H1 n1 f1 g1 => ?_)); (case hl => (first | decide | (simp only [List.length_cons, List.length_nil]; decide))))
  | with_reducible refine' w_for ?_
  | with_reducible refine' w_ilist ?_
  | ((with_reducible refine' w_ilb ?hs ?_); (case hs => walk_at "sq"))
  | with_reducible refine' w_itup ?_
  | ((with_reducible refine' w_itb ?hs ?_); (case hs => walk_at "sq"))
  | with_reducible refine' w_rng1 ?_
  | ((with_reducible refine' w_rgb1 ?h0 ?h1 ?_); (case h0 => first | decide | omega); (case h1 => first | decide | omega))
  | with_reducible refine' w_lc ?_
  | ((with_reducible refine' w_wipe ?hw ?_); (case hw => rfl))
  | ((with_reducible refine' w_cat ?ha ?hb ?hl (fun p H1 n1 f1 g1 => ?_)); (case ha => walk_at "hp"); (case hb => walk_at "hp"); (case hl => (first | decide | (simp only [List.length_cons, List.length_nil]; decide))))
  | with_reducible refine' w_dget ?_
  | with_reducible refine' w_din ?_
  | with_reducible refine' w_dnotin ?_
  | with_reducible refine' w_dput ?_
  | with_reducible refine' w_dnew ?_
  | with_reducible refine' w_newD (fun p H1 n1 f1 g1 => ?_)
  | ((with_reducible refine' w_slT ?hs ?hn ?he (fun p H1 n1 f1 g1 => ?_)); (case hs => walk_at "sq"); (case hn => decide); (case he => rfl))
  | with_reducible refine' w_meth ?_
  | with_reducible refine' w_make ?_
  | with_reducible refine' w_mkb (fun x dx H1 n1 m1 d1 f1 g1 => ?_)
  | with_reducible refine' w_fldaug ?_
  | with_reducible refine' w_tru ?_
  | ((with_reducible refine' w_trl ?hh ?_); (case hh => walk_at "hp"))
  | with_reducible refine' w_whb ?_
  | with_reducible refine' w_chain ?_
  | with_reducible refine' w_tyIs ?_
  | with_reducible refine' w_raise ?_
  | with_reducible refine' w_rab ?_
  | with_reducible refine' w_jn ?_
  | with_reducible refine' w_js ?_
  | with_reducible refine' w_jsn ?_
  | with_reducible refine' w_fmt ?_
  | with_reducible refine' w_isN ?_
  | with_reducible refine' w_intB ?_
  | with_reducible refine' w_istr ?_
  | with_reducible refine' w_stb ?_
  | ((with_reducible refine' w_inT ?hs ?hx ?ha ?_); (case hs => walk_at "sq"); (case hx => rfl); (case ha => rfl))
  | ((with_reducible refine' w_isf ?hd ?_); (case hd => decide +kernel))
  | ((with_reducible refine' w_ist ?hd ?_); (case hd => decide +kernel))
  | fail "none")
local macro_rules | `(tactic| walk_at "wk") => `(tactic| repeat walk_at "wk1")

section
variable {P : Program} {w : World} {K : PySem.W.Frag} {mg : Str → Option Value} {base : Heap} {f : Addr} {fd : FuncData} {a : Ad}
theorem sc_is_whole : FnScope ["found", "most"] ["found", "most"] (defScope s_is_whole) := ⟨rfl, rfl, rfl, by decide +kernel, rfl, by decide +kernel, by decide +kernel⟩
theorem ok_whole (F : Fun K "is_whole" "is_whole" s_is_whole f fd) (Z : Blt mg) : FnOk P w K mg base CX0 1 f fd ["found", "most"] spWhole := by
  refine F.ok sc_is_whole (fun vs H Q E h => ?_) (fun cdv A outer s H vs Q E hr h => ?_)
  · obtain ⟨x, m, rfl, _⟩ := h
    rfl
  obtain ⟨x, m, rfl, h⟩ := h
  refine ⟨_, (pss_one (ps_ret (pe_and (pe_cmpR op_tyIs (pe_callTy (r := RZ.rTy4) RZ.call_type4 (by rfl) Z.type (by decide +kernel) (pa_cons (pv 0) pa_nil)) (pe_bltn (v := .ty "int") (u := .type "int") rfl Z.int (by decide +kernel) rfl) (nomark _)) (pe_one (pe_chain op_le op_le pe_int (pv 0) (pv 1)))))), ?_⟩
  walk_at "st"
  rcases h with ⟨i, rfl, k⟩ | ⟨⟨t, ht, hn⟩, k⟩
  · walk_at "wk"
    refine w_ty4 (.int i) ?_
    walk_at "wk"
    refine w_iteD (fun c => ?_) (fun c => ?_)
    · walk_at "wk"
      rw [decide_eq_true c] at k
      exact k
    · rw [decide_eq_false c] at k
      exact k
  · walk_at "wk"
    refine w_ty4 ht ?_
    walk_at "wk"
    refine w_isf (decide_eq_false hn) ?_
    exact k
theorem sc_has_form : FnScope ["part", "word"] ["part"] (defScope s_has_form) := ⟨rfl, rfl, rfl, by decide +kernel, rfl, by decide +kernel, by decide +kernel⟩
theorem ok_form (F : Fun K "has_form" "has_form" s_has_form f fd) (Z : Blt mg) (T : Txt K mg a) (D_is_whole : Df P w K mg base CX0 1 "is_whole" ["found", "most"] spWhole) : FnOk P w K mg base CX0 2 f fd ["part"] spForm := by
  refine F.ok sc_has_form (fun vs H Q E h => ?_) (fun cdv A outer s H vs Q E hr h => ?_)
  · obtain ⟨v, s, rfl, _⟩ := h
    rfl
  obtain ⟨v, s, rfl, hs, hok, k⟩ := h
  have tw := T.q_WORDS
  have tl := T.q_LETTERS
  refine ⟨_, (pss_cons (ps_if (PW.pt (pw_or (pt_not (pt_val (pe_callB (id := "isinstance") (r := rIsi K) call_isi (by rfl) Z.isinstance (by decide +kernel) (pa_cons (pv 0) (pa_cons (pe_bltn (v := .ty "tuple") (u := .type "tuple") rfl Z.tuple (by decide +kernel) rfl) pa_nil))) (fun _ => rfl))) (pw_or1 (pt_cmpR op_eq (pe_callB (id := "len") (r := rLenW K) call_lenN (by rfl) Z.len PySem.boot_len (pa_cons (pv 0) pa_nil)) pe_int (nomark _))))) (pss_one (ps_ret pe_bl)) pss_nil)
  (pss_cons (ps_set (i := 1) sc_has_form.nd rfl (Or.inl rfl) (pe_ix (r := rIxT K) ix_tup (pv 0) pe_int (fun _ _ => rfl)))
  (pss_cons (ps_if (pt_cmpR op_eq (pv 1) pe_str (nomark _)) (pss_one (ps_ret (pe_and (pe_cmpR op_eq (pe_callB (id := "len") (r := rLenW K) call_lenN (by rfl) Z.len PySem.boot_len (pa_cons (pv 0) pa_nil)) pe_int (nomark _)) (pe_one (pe_df D_is_whole hr (by first | decide | omega) (pa_cons (pe_ix (r := rIxT K) ix_tup (pv 0) pe_int (fun _ _ => rfl)) (pa_cons (pe_globI rfl T.m_LARGEST) pa_nil))))))) pss_nil)
  (pss_cons (ps_if (pt_cmpR op_eq (pv 1) pe_str (nomark _)) (pss_one (ps_ret (pe_and (pe_cmpR op_eq (pe_callB (id := "len") (r := rLenW K) call_lenN (by rfl) Z.len PySem.boot_len (pa_cons (pv 0) pa_nil)) pe_int (nomark _)) (pe_one (pe_cmpR (r := rIn K false) op_in_seq (pe_ix (r := rIxT K) ix_tup (pv 0) pe_int (fun _ _ => rfl)) (pe_globR rfl T.m_LETTERS) rfl))))) pss_nil)
  (pss_cons (ps_if (pt_cmpR (r := rIn K false) op_in_seq (pv 1) (pe_globR rfl T.m_WORDS_WITH_TWO_PARTS) rfl) (pss_one (ps_ret (pe_cmpR op_eq (pe_callB (id := "len") (r := rLenW K) call_lenN (by rfl) Z.len PySem.boot_len (pa_cons (pv 0) pa_nil)) pe_int (nomark _)))) pss_nil)
  (pss_cons (ps_if (pt_cmpR op_eq (pv 1) pe_str (nomark _)) (pss_one (ps_ret (pe_cmpR op_eq (pe_callB (id := "len") (r := rLenW K) call_lenN (by rfl) Z.len PySem.boot_len (pa_cons (pv 0) pa_nil)) pe_int (nomark _)))) pss_nil)
  (pss_one (ps_ret (pe_and (pe_cmpR op_eq (pv 1) pe_str (nomark _)) (pe_one (pe_cmpR op_eq (pe_callB (id := "len") (r := rLenW K) call_lenN (by rfl) Z.len PySem.boot_len (pa_cons (pv 0) pa_nil)) pe_int (nomark _)))))))))))), ?_⟩
  walk_at "st"
  have tt : kitB "tuple" "tuple" = some true := by decide +kernel
  cases s with
  | num m =>
    obtain ⟨p, rfl, hp⟩ := hs
    walk_at "wk"
    refine w_isi (ty_tup hp) tt ?_
    have hk : (decide (0 ≤ m) && decide (m ≤ 999)) = true := by
      obtain ⟨h0, h1⟩ : 0 ≤ m ∧ m < 1000 := hok
      rw [decide_eq_true h0, decide_eq_true (by omega)]; rfl
    walk_at "wk"
    refine ⟨_, _, rfl, .inl ⟨m, rfl, ?_⟩⟩
    rw [hk]
    exact k
  | name c =>
    obtain ⟨p, rfl, hp⟩ := hs
    walk_at "wk"
    refine w_isi (ty_tup hp) tt ?_
    have hin : inV (.str c) (letters.map V.str) = true := by
      have m : c ∈ letters := hok
      unfold inV
      rw [List.any_map, List.any_eq_true]
      exact ⟨c, m, by simp [eqV]⟩
    walk_at "wk"
    refine w_inT (tl _) rfl rfl ?_
    rw [hin]
    exact k
  | ask =>
    obtain ⟨p, rfl, hp⟩ := hs
    walk_at "wk"
    refine w_isi (ty_tup hp) tt ?_
    walk_at "wk"
    refine w_inT (tw _) rfl rfl ?_
    walk_at "wk"
    exact k
  | say s =>
    obtain ⟨p, x, rfl, hp, hx⟩ := hs
    walk_at "wk"
    refine w_isi (ty_tup hp) tt ?_
    walk_at "wk"
    refine w_inT (tw _) rfl rfl ?_
    walk_at "wk"
    exact k
  | bin o a b =>
    obtain ⟨p, x, y, rfl, hp, hx, hy⟩ := hs
    cases o
    all_goals
      walk_at "wk"
      refine w_isi (ty_tup hp) tt ?_
      walk_at "wk"
      refine w_inT (tw _) rfl rfl ?_
      walk_at "wk"
      exact k
end
end My
namespace My
open PySem L2 Wk
local macro_rules | `(tactic| walk_at "hs") => `(tactic| first
  | assumption
  | (apply fr_st0; (case f => assumption); (case h => walk_at "hs"))
  | (apply fr_st1; (case f => assumption); (case n => walk_at "ne"); (case hw => first | assumption | exact List.mem_cons_self); (case h => walk_at "hs"))
  | fail "none")
local macro_rules | `(tactic| walk_at "nn") => `(tactic| first
  | (apply nn_st; (case n => assumption); (case h => walk_at "hs"))
  | (apply nn_l; (case n => assumption); (case h => walk_at "hp"))
  | (apply nn_d; (case n => assumption); (case h => walk_at "hp"))
  | (apply nn_i; (case n => assumption); (case h => walk_at "hp"))
  | fail "none")
local macro_rules | `(tactic| walk_at "su") => `(tactic| first
  | assumption
  | (apply fr_su; (case f => assumption); (case h => walk_at "su"))
  | fail "none")
local macro_rules | `(tactic| walk_at "as") => `(tactic| first
  | assumption
  | (apply fr_as; (case f => assumption); (case h => walk_at "as"))
  | fail "none")
local macro_rules | `(tactic| walk_at "ef") => `(tactic| first
  | assumption
  | (apply fr_ef0; (case f => assumption); (case h => walk_at "ef"))
  | (apply fr_ef; (case f => assumption); (case n1 => walk_at "ni"); (case n2 => walk_at "ni"); (case n3 => walk_at "ni"); (case h => walk_at "ef"))
  | fail "none")
local macro_rules | `(tactic| walk_at "td") => `(tactic| first
  | assumption
  | (apply fr_td0; (case f => assumption); (case h => walk_at "td"))
  | (apply fr_td; (case f => assumption); (case n1 => walk_at "ni"); (case n2 => walk_at "ni"); (case n3 => walk_at "ni"); (case h => walk_at "td"))
  | fail "none")
local macro_rules | `(tactic| walk_at "sk") => `(tactic| first
  | assumption
  | (apply fr_stk; (case f => assumption); (case a => walk_at "sk"))
  | fail "none")
local macro_rules | `(tactic| walk_at "al") => `(tactic| first
  | assumption
  | (apply fr_al; (case f => assumption); (case h => walk_at "al"))
  | fail "none")
local macro_rules | `(tactic| walk_at "nv") => `(tactic| first
  | assumption
  | (apply fr_nv; (case a => assumption); (case n => walk_at "ni"); (case h => walk_at "nv"))
  | fail "none")
local macro_rules | `(tactic| walk_at "ne") => `(tactic| first
  | assumption
  | (apply Ne.symm; assumption)
  | walk_at "nn"
  | (apply Ne.symm; walk_at "nn")
  | fail "none")
local macro_rules | `(tactic| walk_at "ni") => `(tactic| first
  | exact List.not_mem_nil
  | (apply ni1; walk_at "ne")
  | (apply ni2 <;> walk_at "ne")
  | (apply ni3 <;> walk_at "ne")
  | fail "none")
local macro_rules | `(tactic| walk_at "hp") => `(tactic| first
  | assumption
  | (apply Fr.gett; (case a => assumption); (case h => walk_at "hp"))
  | (apply Fr.getl; (case a => assumption); (case n => walk_at "ni"); (case h => walk_at "hp"))
  | (apply Fr.getd; (case a => assumption); (case n => walk_at "ni"); (case h => walk_at "hp"))
  | (apply Fr.geti; (case a => assumption); (case n => walk_at "ni"); (case h => walk_at "hp"))
  | fail "none")
local macro_rules | `(tactic| walk_at "sqs") => `(tactic| first
  | assumption
  | (apply Fr.sqln; (case a => assumption); (case n => walk_at "ni"); (case h => walk_at "sqs"))
  | fail "none")
local macro_rules | `(tactic| walk_at "sq") => `(tactic| first
  | assumption
  | (apply SqL.of; walk_at "hp")
  | (apply SqT.of; walk_at "hp")
  | walk_at "sqs"
  | fail "none")
local macro_rules | `(tactic| walk_at "fr") => `(tactic| first
  | exact Fr.refl
  | assumption
  | (apply Fr.mono; (case a => assumption); (case h => simp))
  | (apply fr_last; (case f => assumption); (case w => simp); (case g => walk_at "fr"))
  | fail "none")
local macro_rules | `(tactic| walk_at "st") => `(tactic| ((try dsimp only [cxOf, Cx.nox, Cx.wish]); (try simp only [L2.start, List.map_cons, List.map_nil, List.length_cons, List.length_nil, List.replicate, List.cons_append, List.nil_append, Nat.reduceAdd, Nat.reduceSub])))
local macro_rules | `(tactic| walk_at "lset") => `(tactic| (simp only [wipe, List.map_cons, List.map_nil, Int.reduceToNat, List.set_cons_zero, List.set_cons_succ] <;> rfl))
local macro_rules | `(tactic| walk_at "wk1") => `(tactic| first
  | with_reducible refine' w_seq ?_
  | with_reducible refine' w_asg ?_
  | ((with_reducible refine' w_name ?hs ?_); (case hs => walk_at "lset"))
  | ((with_reducible refine' w_var ?hv ?_); (case hv => rfl))
  | with_reducible refine' w_c ?_
  | with_reducible refine' w_op ?_
  | with_reducible refine' w_un ?_
  | with_reducible refine' w_test ?_
  | with_reducible refine' w_tB ?_
  | with_reducible refine' w_exbl ?_
  | with_reducible refine' w_exint ?_
  | with_reducible refine' w_t ?_
  | with_reducible refine' w_f ?_
  | with_reducible refine' w_ifS ?_
  | with_reducible refine' w_if ?_
  | with_reducible refine' w_and ?_
  | with_reducible refine' w_or ?_
  | with_reducible refine' w_not ?_
  | with_reducible refine' w_andV ?_
  | with_reducible refine' w_orV ?_
  | with_reducible refine' w_notV ?_
  | with_reducible refine' w_ret ?_
  | with_reducible refine' w_retN ?_
  | with_reducible refine' w_drop ?_
  | with_reducible refine' w_next ?_
  | with_reducible refine' w_nil ?_
  | with_reducible refine' w_cons ?_
  | with_reducible refine' w_cb ?_
  | with_reducible refine' w_call ?_
  | with_reducible refine' w_gsub ?_
  | with_reducible refine' w_gnil ?_
  | with_reducible refine' w_gcons ?_
  | ((with_reducible refine' w_gtup ?hs ?hn ?_); (case hs => walk_at "sq"); (case hn => rfl))
  | with_reducible refine' w_fld ?_
  | with_reducible refine' w_tfld ?_
  | with_reducible refine' w_sl ?_
  | with_reducible refine' w_nopart ?_
  | with_reducible refine' w_part ?_
  | with_reducible refine' w_bm ?_
  | with_reducible refine' w_bm0 ?_
  | with_reducible refine' w_yes ?_
  | with_reducible refine' w_tup ?_
  | with_reducible refine' w_lst ?_
  | with_reducible refine' w_I0 ?_
  | ((with_reducible refine' w_I ?hc ?_); (case hc => (first | (show (0 : Int) < _; first | decide | omega | assumption) | exact wide_div (by first | assumption | decide) (b := 200) (by first | assumption | decide) (by decide) (by decide) | exact wide_mul (a := 64) (b := 64) (by omega) (by omega) (by decide) (by decide) (by decide) | exact ⟨by decide, by decide, by decide⟩)))
  | ((with_reducible refine' w_eq ?he ?_); (case he => rfl))
  | ((with_reducible refine' w_ne ?he ?_); (case he => rfl))
  | ((with_reducible refine' w_ixL ?hs ?ha ?_); (case hs => walk_at "sq"); (case ha => rfl))
  | ((with_reducible refine' w_ixT ?hs ?ha ?_); (case hs => walk_at "sq"); (case ha => rfl))
  | ((with_reducible refine' w_lenL ?hs ?he ?_); (case hs => walk_at "sq"); (case he => first | (simp only [List.length_cons, List.length_nil, List.length_map]; rfl) | rfl))
  | ((with_reducible refine' w_lenT ?hs ?he ?_); (case hs => walk_at "sq"); (case he => first | (simp only [List.length_cons, List.length_nil, List.length_map]; rfl) | rfl))
  | ((with_reducible refine' w_setL ?hh ?hk ?he (fun H1 f1 g1 => ?_)); (case hh => walk_at "hp"); (case hk => rfl); (case he => walk_at "lset"))
  | ((with_reducible refine' w_newT ?hl (fun p H1 n1 f1 g1 => ?_)); (case hl => (first | decide | (simp only [List.length_cons, List.length_nil]; decide))))
  | ((with_reducible refine' w_newL ?hl (fun p H1 n1 f1 g1 => ?_)); (case hl => (first | decide | (simp only [List.length_cons, List.length_nil]; decide))))
  | with_reducible refine' w_for ?_
  | with_reducible refine' w_ilist ?_
  | ((with_reducible refine' w_ilb ?hs ?_); (case hs => walk_at "sq"))
  | with_reducible refine' w_itup ?_
  | ((with_reducible refine' w_itb ?hs ?_); (case hs => walk_at "sq"))
  | with_reducible refine' w_rng1 ?_
  | ((with_reducible refine' w_rgb1 ?h0 ?h1 ?_); (case h0 => first | decide | omega); (case h1 => first | decide | omega))
  | with_reducible refine' w_lc ?_
  | ((with_reducible refine' w_wipe ?hw ?_); (case hw => rfl))
  | ((with_reducible refine' w_cat ?ha ?hb ?hl (fun p H1 n1 f1 g1 => ?_)); (case ha => walk_at "hp"); (case hb => walk_at "hp"); (case hl => (first | decide | (simp only [List.length_cons, List.length_nil]; decide))))
  | with_reducible refine' w_dget ?_
  | with_reducible refine' w_din ?_
  | with_reducible refine' w_dnotin ?_
  | with_reducible refine' w_dput ?_
  | with_reducible refine' w_dnew ?_
  | with_reducible refine' w_newD (fun p H1 n1 f1 g1 => ?_)
  | ((with_reducible refine' w_slT ?hs ?hn ?he (fun p H1 n1 f1 g1 => ?_)); (case hs => walk_at "sq"); (case hn => decide); (case he => rfl))
  | with_reducible refine' w_meth ?_
  | with_reducible refine' w_make ?_
  | with_reducible refine' w_mkb (fun x dx H1 n1 m1 d1 f1 g1 => ?_)
  | with_reducible refine' w_fldaug ?_
  | with_reducible refine' w_tru ?_
  | ((with_reducible refine' w_trl ?hh ?_); (case hh => walk_at "hp"))
  | with_reducible refine' w_whb ?_
  | with_reducible refine' w_chain ?_
  | with_reducible refine' w_tyIs ?_
  | with_reducible refine' w_raise ?_
  | with_reducible refine' w_rab ?_
  | with_reducible refine' w_jn ?_
  | with_reducible refine' w_js ?_
  | with_reducible refine' w_jsn ?_
  | with_reducible refine' w_fmt ?_
  | with_reducible refine' w_isN ?_
  | with_reducible refine' w_intB ?_
  | with_reducible refine' w_istr ?_
  | with_reducible refine' w_stb ?_
  | ((with_reducible refine' w_inT ?hs ?hx ?ha ?_); (case hs => walk_at "sq"); (case hx => rfl); (case ha => rfl))
  | ((with_reducible refine' w_isf ?hd ?_); (case hd => decide +kernel))
  | ((with_reducible refine' w_ist ?hd ?_); (case hd => decide +kernel))
  | fail "none")
local macro_rules | `(tactic| walk_at "wk") => `(tactic| repeat walk_at "wk1")

section
variable {P : Program} {w : World} {K : PySem.W.Frag} {mg : Str → Option Value} {base : Heap} {f : Addr} {fd : FuncData} {a : Ad}
theorem stk_perm {l ss : List Sm} {t : Sm} {ts : List (Sm × Nat)} {n : Nat} (h : (ss ++ stkAll (ts ++ [(t, n)])).Perm l) : ((ss ++ [t]) ++ stkAll (ts ++ (t.subs.map fun u => (u, n + 1)))).Perm l := by
  refine List.Perm.trans ?_ h
  have e1 : stkAll (ts ++ [(t, n)]) = stkAll ts ++ t.all := by rw [stkAll_app]; simp [stkAll]
  have e2 : stkAll (ts ++ (t.subs.map fun u => (u, n + 1))) = stkAll ts ++ t.subs.flatMap Sm.all := by
    rw [stkAll_app]
    congr 1
    unfold stkAll
    rw [List.flatMap_map]
  rw [e1, e2, Sm.all_eq t, List.append_assoc]
  refine List.Perm.append_left ss ?_
  rw [← List.append_assoc]
  refine (List.Perm.append_right _ List.perm_append_comm).trans ?_
  rw [List.append_assoc]
  exact List.Perm.refl _
theorem sc_sums_within : FnScope ["part", "found", "waiting", "here", "level", "inner"] ["part"] (defScope s_sums_within) := ⟨rfl, rfl, rfl, by decide +kernel, rfl, by decide +kernel, by decide +kernel⟩
theorem ok_within (F : Fun K "sums_within" "sums_within" s_sums_within f fd) (Z : Blt mg) (T : Txt K mg a) (D_has_form : Df P w K mg base CX0 2 "has_form" ["part"] spForm) (D_parts_of : Df P w K mg base CX0 1 "parts_of" ["part"] spPartsOf) : FnOk P w K mg base CX0 3 f fd ["part"] spWithin := by
  refine F.ok sc_sums_within (fun vs H Q E h => ?_) (fun cdv A outer s H vs Q E hr h => ?_)
  · obtain ⟨v, s, rfl, _⟩ := h
    rfl
  obtain ⟨v, s, rfl, hs, hok, hd, hz, k⟩ := h
  refine ⟨_, (pss_cons (ps_set (i := 1) sc_sums_within.nd rfl (Or.inl rfl) (pe_lst pa_nil))
  (pss_cons (ps_set (i := 2) sc_sums_within.nd rfl (Or.inl rfl) (pe_lst (pa_cons (pe_tup (pa_cons (pv 0) (pa_cons pe_int pa_nil))) pa_nil)))
  (pss_cons (ps_while PassesOwn.never (pt_tru (pv 2)) (pss_cons (ps_asg (pe_bm0 PySem.F.plainAttrs_list PySem.F.slot_list_pop PySem.F.type_list_pop mt_pop (pv 2)) (pg_tup rfl (pgs_cons (pg_name (i := 3) sc_sums_within.nd rfl (Or.inl rfl)) (pgs_cons (pg_name (i := 4) sc_sums_within.nd rfl (Or.inr rfl)) pgs_nil))))
  (pss_cons (ps_if (PW.pt (pw_or (pt_cmpR op_eq (pe_callB (id := "len") (r := rLenW K) call_lenN (by rfl) Z.len PySem.boot_len (pa_cons (pv 1) pa_nil)) (pe_globI rfl T.m_MOST_SUMS) (nomark _)) (pw_or (pt_cmpR op_gt (pv 4) (pe_globI rfl T.m_MOST_WITHIN) (nomark _)) (pw_or1 (pt_not (pt_val (pe_df D_has_form hr (by first | decide | omega) (pa_cons (pv 3) pa_nil)) (fun _ => rfl))))))) (pss_one ps_never) pss_nil)
  (pss_cons (ps_expr (pe_bm PySem.F.plainAttrs_list PySem.F.slot_list_append PySem.F.type_list_append mt_append (pv 1) (pa_cons (pv 3) pa_nil)))
  (pss_one (ps_expr (pe_bm PySem.F.plainAttrs_list PySem.F.slot_list_extend PySem.F.type_list_extend mt_extend (pv 2) (pa_cons (pe_lc (own := [("inner", 5)]) (g := gName 5) (tt := tYes) (by rfl) sc_sums_within.nd (pi_tup (pe_df D_parts_of hr (by first | decide | omega) (pa_cons (pv 3) pa_nil))) (blkOk_by (own := [("inner", 5)]) (N := ["part", "found", "waiting", "here", "level", "inner"]) (sc := defScope s_sums_within) (by decide +kernel)) (fun _ _ _ _ _ => pg_name (i := 5) sc_sums_within.nd rfl (Or.inl rfl)) (fun _ _ _ _ _ => pts_nil) (fun _ _ _ _ _ => (pe_tup (pa_cons (pv 5) (pa_cons (pe_op op_add (pv 4) pe_int) pa_nil))))) pa_nil))))))))
  (pss_one (ps_ret (pv 1)))))), ?_⟩
  walk_at "st"
  walk_at "wk"
  rename_i fo H1 i1 f1 g1 q H2 i2 f2 g2 wa H3 i3 f3 g3
  have nfw : fo ≠ wa := ne_of_none (f2.get0 g1) i3
  have oks : ∀ t ∈ s.all, t.ok := by
    intro t ht
    have gen : ∀ (u : Sm), u.ok → ∀ t ∈ u.all, t.ok := by
      intro u
      induction u with
      | num n => intro h t ht; rw [List.mem_singleton.mp ht]; exact h
      | name n => intro h t ht; rw [List.mem_singleton.mp ht]; exact h
      | ask => intro h t ht; rw [List.mem_singleton.mp ht]; exact h
      | say s ih =>
        intro h t ht
        rcases List.mem_cons.mp ht with e | m
        · rw [e]; exact h
        · exact ih h t m
      | bin o a b iha ihb =>
        intro h t ht
        rcases List.mem_cons.mp ht with e | m
        · rw [e]; exact h
        · rcases List.mem_append.mp m with m | m
          · exact iha h.1 t m
          · exact ihb h.2 t m
    exact gen s hok t ht
  refine w_while (fun m σ H' => ∃ (us ws : List V) (ss : List Sm) (W : List (Sm × Nat)) (o3 o4 o5 : Option V), σ = [some v, some (.ref fo), some (.ref wa), o3, o4, o5] ∧ H' fo = some (.lst us) ∧ H' wa = some (.lst ws) ∧ AllSum H' us ss ∧ Stk H' ws W ∧
      (∀ p ∈ W, p.2 + p.1.depth ≤ 16) ∧ (ss ++ stkAll W).Perm s.all ∧ m = (stkAll W).length ∧ Fr [fo, wa] H3 H')
    s.size ⟨[], [.ref q], [], [(s, 1)], _, _, _, rfl, by walk_at "hp", by walk_at "hp", trivial, ⟨⟨q, v, rfl, by walk_at "hp", by walk_at "su"⟩, trivial⟩, by simp; omega, by simp [stkAll], by simp [stkAll, Sm.all_length], .refl⟩ ?_
  rintro m σ H' ⟨us, ws, ss, W, o3, o4, o5, rfl, hfo, hwa, has, hst, hdp, hpm, rfl, ff⟩
  have hlen := hpm.length_eq
  rw [List.length_append, Sm.all_length] at hlen
  walk_at "wk"
  refine w_iteb (fun c => ?_) (fun c => ?_)
  · have hne : ws ≠ [] := by
      intro e
      rw [e] at c
      cases c
    obtain ⟨ws', u, ts, p, rfl, rfl, hst', q', x, rfl, hq, hx⟩ := hst.last hne
    obtain ⟨t, n⟩ := p
    have hq' : H' q' = some (.tup [x, .int n]) := hq
    have hx' : IsSum H' x t := hx
    have hdn : n + t.depth ≤ 16 := hdp (t, n) (by simp)
    have e1 : (stkAll (ts ++ [(t, n)])).length = (stkAll ts).length + t.size := by
      rw [stkAll_app, List.length_append, ← Sm.all_length t]
      simp [stkAll]
    rw [e1] at hlen
    have hpos := t.size_pos
    have hl2 := has.length
    have hmt : t ∈ s.all := hpm.mem_iff.mp (by
      rw [stkAll_app, List.mem_append, List.mem_append]
      refine .inr (.inr ?_)
      show t ∈ stkAll [(t, n)]
      unfold stkAll
      rw [List.flatMap_cons, List.flatMap_nil, List.append_nil, Sm.all_eq]
      exact List.mem_cons_self)
    walk_at "wk"
    refine w_tyl hwa ?_
    refine w_pop hwa (fun H4 f4 g4 => ?_)
    walk_at "wk"
    refine w_iteI (fun c2 => by omega) (fun c2 => ?_)
    walk_at "wk"
    refine w_iteD (fun c3 => by have := t.depth_pos; omega) (fun c3 => ?_)
    walk_at "wk"
    refine ⟨_, t, rfl, by walk_at "su", oks t hmt, ?_⟩
    walk_at "wk"
    have hfo4 : H4 fo = some (.lst us) := f4.getl (ni1 nfw) hfo
    refine w_tyl hfo4 ?_
    walk_at "wk"
    refine w_app hfo4 (by omega) (fun H5 f5 g5 => ?_)
    have hwa5 : H5 wa = some (.lst ws') := f5.getl (ni1 nfw.symm) g4
    walk_at "wk"
    refine w_tyl hwa5 ?_
    walk_at "wk"
    refine u_partsOf (by walk_at "su") (fun tp vs2 H6 g6 a6 f6 => ?_)
    walk_at "wk"
    refine lcT (xs := vs2) (fun D i acc H' => Stk H' acc ((t.subs.take i).map fun u => (u, n + 1)) ∧ Fr [D] H6 H') (fun D H' hD f g => ⟨trivial, f.nil⟩) (fun D i acc H' hD ⟨_, f⟩ => SqT.of (f.gett g6)) (fun D i y acc H' hD hy hlt ha hA ⟨e, f⟩ => ?_) (fun D acc H7 hD hA hn ⟨e, f⟩ => ?_)
    · obtain ⟨u, hu, hxu⟩ := a6.at hy
      walk_at "wk"
      rename_i tq H8 i8 f8 g8
      refine lcE (acc := acc) (by walk_at "hp") ha (by have := a6.length; have := subs_len2 t; omega) (fun H9 f9 g9 => ⟨?_, by walk_at "fr"⟩)
      rw [take_snoc hu, List.map_append]
      exact Stk.app (by walk_at "sk") ⟨⟨tq, y, rfl, by walk_at "hp", by walk_at "su"⟩, trivial⟩
    · have et : t.subs.take vs2.length = t.subs := by rw [a6.length, List.take_length]
      rw [et] at e
      have f67 : Fr [] H6 H7 := f.drop hD
      have hwa7 : H7 wa = some (.lst ws') := f67.get0 (f6.get0 hwa5)
      walk_at "wk"
      have l1 := hst'.length
      have l2 := stk_len ts
      have l3 := subs_len2 t
      have l4 := a6.length
      refine w_ext hwa7 hA (by omega) (fun H8 f8 g8 => ?_)
      refine ⟨(stkAll (ts ++ (t.subs.map fun u => (u, n + 1)))).length, ?_, us ++ [x], ws' ++ acc, ss ++ [t], ts ++ (t.subs.map fun u => (u, n + 1)), _, _, _, rfl, ?_, g8, ?_, ?_, ?_, stk_perm hpm, rfl, ?_⟩
      · have := (stk_perm hpm).length_eq
        rw [List.length_append, Sm.all_length, List.length_append, List.length_singleton] at this
        omega
      · exact f8.getl (ni1 nfw) (f67.get0 (f6.get0 g5))
      · have fa : Fr [fo, wa] H' H8 := by walk_at "fr"
        exact AllSum.app (has.mono fa) ⟨hx'.mono fa, trivial⟩
      · exact Stk.app (by walk_at "sk") (fr_stk f8 e)
      · intro p hp
        rcases List.mem_append.mp hp with m | m
        · exact hdp p (by simp [m])
        · obtain ⟨u, hu, rfl⟩ := List.mem_map.mp m
          have := Sm.subs_depth hu
          show n + 1 + u.depth ≤ 16
          omega
      · walk_at "fr"
  · have he : ws = [] := by
      cases ws with
      | nil => rfl
      | cons _ _ => cases c
    subst he
    have hW : W = [] := by
      cases W with
      | nil => rfl
      | cons _ _ => exact hst.elim
    subst hW
    walk_at "wk"
    have f0 : Fr [] H H' := (f1.nil.trans ((f2.nil.trans ((f3.nil.trans (ff.mono (W' := [wa, fo]) (by simp [or_comm]))).drop i3)).mono (by simp))).drop i1
    exact k fo us ss H' i1 hfo has (by simpa [stkAll] using hpm) f0
end
end My
namespace My
open PySem L2 Wk
local macro_rules | `(tactic| walk_at "hs") => `(tactic| first
  | assumption
  | (apply fr_st0; (case f => assumption); (case h => walk_at "hs"))
  | (apply fr_st1; (case f => assumption); (case n => walk_at "ne"); (case hw => first | assumption | exact List.mem_cons_self); (case h => walk_at "hs"))
  | fail "none")
local macro_rules | `(tactic| walk_at "nn") => `(tactic| first
  | (apply nn_st; (case n => assumption); (case h => walk_at "hs"))
  | (apply nn_l; (case n => assumption); (case h => walk_at "hp"))
  | (apply nn_d; (case n => assumption); (case h => walk_at "hp"))
  | (apply nn_i; (case n => assumption); (case h => walk_at "hp"))
  | fail "none")
local macro_rules | `(tactic| walk_at "su") => `(tactic| first
  | assumption
  | (apply fr_su; (case f => assumption); (case h => walk_at "su"))
  | fail "none")
local macro_rules | `(tactic| walk_at "as") => `(tactic| first
  | assumption
  | (apply fr_as; (case f => assumption); (case h => walk_at "as"))
  | fail "none")
local macro_rules | `(tactic| walk_at "ef") => `(tactic| first
  | assumption
  | (apply fr_ef0; (case f => assumption); (case h => walk_at "ef"))
  | (apply fr_ef; (case f => assumption); (case n1 => walk_at "ni"); (case n2 => walk_at "ni"); (case n3 => walk_at "ni"); (case h => walk_at "ef"))
  | fail "none")
local macro_rules | `(tactic| walk_at "td") => `(tactic| first
  | assumption
  | (apply fr_td0; (case f => assumption); (case h => walk_at "td"))
  | (apply fr_td; (case f => assumption); (case n1 => walk_at "ni"); (case n2 => walk_at "ni"); (case n3 => walk_at "ni"); (case h => walk_at "td"))
  | fail "none")
local macro_rules | `(tactic| walk_at "sk") => `(tactic| first
  | assumption
  | (apply fr_stk; (case f => assumption); (case a => walk_at "sk"))
  | fail "none")
local macro_rules | `(tactic| walk_at "al") => `(tactic| first
  | assumption
  | (apply fr_al; (case f => assumption); (case h => walk_at "al"))
  | fail "none")
local macro_rules | `(tactic| walk_at "nv") => `(tactic| first
  | assumption
  | (apply fr_nv; (case a => assumption); (case n => walk_at "ni"); (case h => walk_at "nv"))
  | fail "none")
local macro_rules | `(tactic| walk_at "ne") => `(tactic| first
  | assumption
  | (apply Ne.symm; assumption)
  | walk_at "nn"
  | (apply Ne.symm; walk_at "nn")
  | fail "none")
local macro_rules | `(tactic| walk_at "ni") => `(tactic| first
  | exact List.not_mem_nil
  | (apply ni1; walk_at "ne")
  | (apply ni2 <;> walk_at "ne")
  | (apply ni3 <;> walk_at "ne")
  | fail "none")
local macro_rules | `(tactic| walk_at "hp") => `(tactic| first
  | assumption
  | (apply Fr.gett; (case a => assumption); (case h => walk_at "hp"))
  | (apply Fr.getl; (case a => assumption); (case n => walk_at "ni"); (case h => walk_at "hp"))
  | (apply Fr.getd; (case a => assumption); (case n => walk_at "ni"); (case h => walk_at "hp"))
  | (apply Fr.geti; (case a => assumption); (case n => walk_at "ni"); (case h => walk_at "hp"))
  | fail "none")
local macro_rules | `(tactic| walk_at "sqs") => `(tactic| first
  | assumption
  | (apply Fr.sqln; (case a => assumption); (case n => walk_at "ni"); (case h => walk_at "sqs"))
  | fail "none")
local macro_rules | `(tactic| walk_at "sq") => `(tactic| first
  | assumption
  | (apply SqL.of; walk_at "hp")
  | (apply SqT.of; walk_at "hp")
  | walk_at "sqs"
  | fail "none")
local macro_rules | `(tactic| walk_at "fr") => `(tactic| first
  | exact Fr.refl
  | assumption
  | (apply Fr.mono; (case a => assumption); (case h => simp))
  | (apply fr_last; (case f => assumption); (case w => simp); (case g => walk_at "fr"))
  | fail "none")
local macro_rules | `(tactic| walk_at "st") => `(tactic| ((try dsimp only [cxOf, Cx.nox, Cx.wish]); (try simp only [L2.start, List.map_cons, List.map_nil, List.length_cons, List.length_nil, List.replicate, List.cons_append, List.nil_append, Nat.reduceAdd, Nat.reduceSub])))
local macro_rules | `(tactic| walk_at "lset") => `(tactic| (simp only [wipe, List.map_cons, List.map_nil, Int.reduceToNat, List.set_cons_zero, List.set_cons_succ] <;> rfl))
local macro_rules | `(tactic| walk_at "wk1") => `(tactic| first
  | with_reducible refine' w_seq ?_
  | with_reducible refine' w_asg ?_
  | ((with_reducible refine' w_name ?hs ?_); (case hs => walk_at "lset"))
  | ((with_reducible refine' w_var ?hv ?_); (case hv => rfl))
  | with_reducible refine' w_c ?_
  | with_reducible refine' w_op ?_
  | with_reducible refine' w_un ?_
  | with_reducible refine' w_test ?_
  | with_reducible refine' w_tB ?_
  | with_reducible refine' w_exbl ?_
  | with_reducible refine' w_exint ?_
  | with_reducible refine' w_t ?_
  | with_reducible refine' w_f ?_
  | with_reducible refine' w_ifS ?_
  | with_reducible refine' w_if ?_
  | with_reducible refine' w_and ?_
  | with_reducible refine' w_or ?_
  | with_reducible refine' w_not ?_
  | with_reducible refine' w_andV ?_
  | with_reducible refine' w_orV ?_
  | with_reducible refine' w_notV ?_
  | with_reducible refine' w_ret ?_
  | with_reducible refine' w_retN ?_
  | with_reducible refine' w_drop ?_
  | with_reducible refine' w_next ?_
  | with_reducible refine' w_nil ?_
  | with_reducible refine' w_cons ?_
  | with_reducible refine' w_cb ?_
  | with_reducible refine' w_call ?_
  | with_reducible refine' w_gsub ?_
  | with_reducible refine' w_gnil ?_
  | with_reducible refine' w_gcons ?_
  | ((with_reducible refine' w_gtup ?hs ?hn ?_); (case hs => walk_at "sq"); (case hn => rfl))
  | with_reducible refine' w_fld ?_
  | with_reducible refine' w_tfld ?_
  | with_reducible refine' w_sl ?_
  | with_reducible refine' w_nopart ?_
  | with_reducible refine' w_part ?_
  | with_reducible refine' w_bm ?_
  | with_reducible refine' w_bm0 ?_
  | with_reducible refine' w_yes ?_
  | with_reducible refine' w_tup ?_
  | with_reducible refine' w_lst ?_
  | with_reducible refine' w_I0 ?_
  | ((with_reducible refine' w_I ?hc ?_); (case hc => (first | (show (0 : Int) < _; first | decide | omega | assumption) | exact wide_div (by first | assumption | decide) (b := 200) (by first | assumption | decide) (by decide) (by decide) | exact wide_mul (a := 64) (b := 64) (by omega) (by omega) (by decide) (by decide) (by decide) | exact ⟨by decide, by decide, by decide⟩)))
  | ((with_reducible refine' w_eq ?he ?_); (case he => rfl))
  | ((with_reducible refine' w_ne ?he ?_); (case he => rfl))
  | ((with_reducible refine' w_ixL ?hs ?ha ?_); (case hs => walk_at "sq"); (case ha => rfl))
  | ((with_reducible refine' w_ixT ?hs ?ha ?_); (case hs => walk_at "sq"); (case ha => rfl))
  | ((with_reducible refine' w_lenL ?hs ?he ?_); (case hs => walk_at "sq"); (case he => first | (simp only [List.length_cons, List.length_nil, List.length_map]; rfl) | rfl))
  | ((with_reducible refine' w_lenT ?hs ?he ?_); (case hs => walk_at "sq"); (case he => first | (simp only [List.length_cons, List.length_nil, List.length_map]; rfl) | rfl))
  | ((with_reducible refine' w_setL ?hh ?hk ?he (fun H1 f1 g1 => ?_)); (case hh => walk_at "hp"); (case hk => rfl); (case he => walk_at "lset"))
  | ((with_reducible refine' w_newT ?hl (fun p H1 n1 f1 g1 => ?_)); (case hl => (first | decide | (simp only [List.length_cons, List.length_nil]; decide))))
  | ((with_reducible refine' w_newL ?hl (fun p H1 n1 f1 g1 => ?_)); (case hl => (first | decide | (simp only [List.length_cons, List.length_nil]; decide))))
  | with_reducible refine' w_for ?_
  | with_reducible refine' w_ilist ?_
  | ((with_reducible refine' w_ilb ?hs ?_); (case hs => walk_at "sq"))
  | with_reducible refine' w_itup ?_
  | ((with_reducible refine' w_itb ?hs ?_); (case hs => walk_at "sq"))
  | with_reducible refine' w_rng1 ?_
  | ((with_reducible refine' w_rgb1 ?h0 ?h1 ?_); (case h0 => first | decide | omega); (case h1 => first | decide | omega))
  | with_reducible refine' w_lc ?_
  | ((with_reducible refine' w_wipe ?hw ?_); (case hw => rfl))
  | ((with_reducible refine' w_cat ?ha ?hb ?hl (fun p H1 n1 f1 g1 => ?_)); (case ha => walk_at "hp"); (case hb => walk_at "hp"); (case hl => (first | decide | (simp only [List.length_cons, List.length_nil]; decide))))
  | with_reducible refine' w_dget ?_
  | with_reducible refine' w_din ?_
  | with_reducible refine' w_dnotin ?_
  | with_reducible refine' w_dput ?_
  | with_reducible refine' w_dnew ?_
  | with_reducible refine' w_newD (fun p H1 n1 f1 g1 => ?_)
  | ((with_reducible refine' w_slT ?hs ?hn ?he (fun p H1 n1 f1 g1 => ?_)); (case hs => walk_at "sq"); (case hn => decide); (case he => rfl))
  | with_reducible refine' w_meth ?_
  | with_reducible refine' w_make ?_
  | with_reducible refine' w_mkb (fun x dx H1 n1 m1 d1 f1 g1 => ?_)
  | with_reducible refine' w_fldaug ?_
  | with_reducible refine' w_tru ?_
  | ((with_reducible refine' w_trl ?hh ?_); (case hh => walk_at "hp"))
  | with_reducible refine' w_whb ?_
  | with_reducible refine' w_chain ?_
  | with_reducible refine' w_tyIs ?_
  | with_reducible refine' w_raise ?_
  | with_reducible refine' w_rab ?_
  | with_reducible refine' w_jn ?_
  | with_reducible refine' w_js ?_
  | with_reducible refine' w_jsn ?_
  | with_reducible refine' w_fmt ?_
  | with_reducible refine' w_isN ?_
  | with_reducible refine' w_intB ?_
  | with_reducible refine' w_istr ?_
  | with_reducible refine' w_stb ?_
  | ((with_reducible refine' w_inT ?hs ?hx ?ha ?_); (case hs => walk_at "sq"); (case hx => rfl); (case ha => rfl))
  | ((with_reducible refine' w_isf ?hd ?_); (case hd => decide +kernel))
  | ((with_reducible refine' w_ist ?hd ?_); (case hd => decide +kernel))
  | fail "none")
local macro_rules | `(tactic| walk_at "wk") => `(tactic| repeat walk_at "wk1")

section
variable {P : Program} {w : World} {K : PySem.W.Frag} {mg : Str → Option Value} {base : Heap} {f : Addr} {fd : FuncData} {a : Ad}
theorem sc_refuse_lacks : FnScope ["parts", "names", "given", "part", "asks"] ["parts", "names", "given"] (defScope s_refuse_lacks) := ⟨rfl, rfl, rfl, by decide +kernel, rfl, by decide +kernel, by decide +kernel⟩
theorem ok_refuse (F : Fun K "refuse_lacks" "refuse_lacks" s_refuse_lacks f fd) (Z : Blt mg) (T : Txt K mg a) : FnOk P w K mg base (L2.CX P w) 1 f fd ["parts", "names", "given"] (spRefuse a.noName a.noMore) := by
  refine F.okX sc_refuse_lacks (fun vs H Q E h => ?_) (fun cdv A outer s H vs Q E hr h => ?_)
  · obtain ⟨pl, nd, gv, us, gs, ps, kvs, rfl, _⟩ := h
    rfl
  obtain ⟨pl, nd, gv, us, gs, ps, kvs, rfl, hpl, hps, hul, hnd, hgv, hgl, hcl, k⟩ := h
  have hl := hps.length
  refine ⟨_, (pss_cons (ps_for (passes_of rfl) rfl (pi_list (pv 0)) (pg_name (i := 3) sc_refuse_lacks.nd rfl (Or.inl rfl)) (pss_one (ps_if (PW.pt (pw_and (pt_cmpR op_eq (pe_ix (r := rIxT K) ix_tup (pv 3) pe_int (fun _ _ => rfl)) pe_str (nomark _)) (pw_and1 (pt_cmp (pc_dnotin (hu_of hr) (pe_ix (r := rIxT K) ix_tup (pv 3) pe_int (fun _ _ => rfl)) (pv 1)) rfl)))) (pss_one (ps_raiseA rfl (takes_of rfl rfl rfl rfl) T.x_NoName (pa_cons (pe_jn (.cons pe_str (.cons (pe_fmt (pe_ix (r := rIxT K) ix_tup (pv 3) pe_int (fun _ _ => rfl))) .nil))) pa_nil))) pss_nil)))
  (pss_cons (ps_setLc (i := 4) (own := [("part", 3)]) (g := gName 3) (by rfl) sc_refuse_lacks.nd rfl rfl (sw_true rfl rfl rfl (by decide +kernel)) (pi_list (pv 0)) (blkOk_by (own := [("part", 3)]) (N := ["parts", "names", "given", "part", "asks"]) (sc := defScope s_refuse_lacks) (by decide +kernel)) (fun _ _ _ _ _ => pg_name (i := 3) sc_refuse_lacks.nd rfl (Or.inl rfl)) (fun _ _ _ _ _ => (pts_one (pt_cmpR op_eq (pe_ix (r := rIxT K) ix_tup (pv 3) pe_int (fun _ _ => rfl)) pe_str (nomark _)))) (fun _ _ _ _ _ => (pv 3)))
  (pss_one (ps_if (pt_cmpR op_gt (pe_callB (id := "len") (r := rLenW K) call_lenN (by rfl) Z.len PySem.boot_len (pa_cons (pv 4) pa_nil)) (pe_callB (id := "len") (r := rLenW K) call_lenN (by rfl) Z.len PySem.boot_len (pa_cons (pv 2) pa_nil)) (nomark _)) (pss_one (ps_raiseA rfl (takes_of rfl rfl rfl rfl) T.x_NoMore (pa_cons (pe_jn (.cons (pe_fmt (pe_callB (id := "len") (r := rLenW K) call_lenN (by rfl) Z.len PySem.boot_len (pa_cons (pv 4) pa_nil))) (.cons pe_str (.cons (pe_fmt (pe_callB (id := "len") (r := rLenW K) call_lenN (by rfl) Z.len PySem.boot_len (pa_cons (pv 2) pa_nil))) (.cons pe_str .nil))))) pa_nil))) pss_nil)))), ?_⟩
  walk_at "st"
  walk_at "wk"
  refine forL (xs := us) (fun i σ H' => ∃ (o3 : Option V), σ = [some (.ref pl), some (.ref nd), some (.ref gv), o3, none] ∧ H' = H ∧ ∀ p ∈ ps.take i, p.1 = "name" → (valV kvs (Sum.inr p.2)).isSome = true) ⟨_, rfl, rfl, by simp⟩ (fun i σ H' _ ⟨o3, _, e, _⟩ => by rw [e]; exact SqL.of hpl) ?_ ?_
  · rintro i x σ H' hx ⟨o3, rfl, rfl, hi⟩
    obtain ⟨p, hp, q, xs, rfl, hq, h0, h1⟩ := hps.at hx
    have more : (p.1 = "name" → (valV kvs (Sum.inr p.2)).isSome = true) → ∀ p ∈ ps.take (i + 1), p.1 = "name" → (valV kvs (Sum.inr p.2)).isSome = true := by
      intro hh u hu
      rw [take_snoc hp] at hu
      rcases List.mem_append.mp hu with m | m
      · exact hi u m
      · rw [List.mem_singleton.mp m]; exact hh
    have hm := List.mem_of_getElem? hp
    walk_at "wk"
    refine w_ixT (SqT.of hq) (atI_nat (j := 0) h0) ?_
    walk_at "wk"
    refine w_iteS (fun c => ?_) (fun c => ?_)
    · walk_at "wk"
      refine w_ixT (SqT.of hq) (atI_nat (j := 1) (h1 c)) ?_
      walk_at "wk"
      refine w_dns hnd ?_
      walk_at "wk"
      refine w_iteb (fun c2 => ?_) (fun c2 => ?_)
      · have hv : valV kvs (Sum.inr p.2) = none := by
          cases e : valV kvs (Sum.inr p.2) with
          | none => rfl
          | some z => rw [e] at c2; cases c2
        have kk : ∀ H1, Fr [] H' H1 → E (.ref a.noName) none H1 := by
          rcases k with ⟨_, k⟩ | ⟨k1, _⟩ | ⟨k1, _⟩
          · exact k
          · have := k1 p hm c; rw [hv] at this; cases this
          · have := k1 p hm c; rw [hv] at this; cases this
        have l0 : Str.empty.length = 0 := rfl
        have l1 : ("no number for the name " : Str).length ≤ 100 := by decide +kernel
        have l2 := hcl p hm
        walk_at "wk"
        refine w_jsb (by omega) ?_
        walk_at "wk"
        refine w_ixT (SqT.of hq) (atI_nat (j := 1) (h1 c)) ?_
        refine w_fms (by omega) ?_
        refine w_jsb (by rw [Str.length_append]; omega) ?_
        walk_at "wk"
        exact kk _ .refl
      · walk_at "wk"
        refine ⟨_, rfl, rfl, more fun _ => ?_⟩
        cases e : valV kvs (Sum.inr p.2) with
        | none => rw [e] at c2; cases c2
        | some z => rfl
    · walk_at "wk"
      exact ⟨_, rfl, rfl, more fun e => absurd e c⟩
  · rintro σ H' ⟨o3, rfl, rfl, hi⟩
    rw [hl, List.take_length] at hi
    walk_at "wk"
    refine lcL (xs := us) (fun D i acc H1 => acc.length = asksOf (ps.take i) ∧ Fr [D] H' H1) (fun D H1 hD f g => ⟨rfl, f.nil⟩) (fun D i acc H1 hD ⟨_, f⟩ => SqL.of (f.getl (ni1 (nn_l hD hpl).symm) hpl)) (fun D i x acc H1 hD hx hlt ha hA ⟨e, f⟩ => ?_) (fun D acc H1 hD hA hn ⟨e, f⟩ => ?_)
    · obtain ⟨p, hp, q, xs, rfl, hq, h0, h1⟩ := hps.at hx
      have et : asksOf (ps.take (i + 1)) = asksOf (ps.take i) + (if p.1 = ("ask" : Str) then 1 else 0) := by
        rw [take_snoc hp]
        unfold asksOf
        rw [List.filter_append, List.length_append]
        congr 1
        by_cases c : p.1 = ("ask" : Str)
        · simp [c]
        · simp [c]
      walk_at "wk"
      refine w_ixT (SqT.of (f.gett hq)) (atI_nat (j := 0) h0) ?_
      walk_at "wk"
      refine w_iteS (fun c => ?_) (fun c => ?_)
      · walk_at "wk"
        refine lcE hA ha (by omega) (fun H5 f5 g5 => ⟨?_, by walk_at "fr"⟩)
        rw [et, if_pos c, List.length_append, e]
        rfl
      · refine lcN hA ha ⟨?_, f⟩
        rw [et, if_neg c, e]
        rfl
    · rw [hl, List.take_length] at e
      have f0 : Fr [] H' H1 := f.drop hD
      have hgv1 : H1 gv = some (.lst gs) := f0.get0 hgv
      walk_at "wk"
      refine w_iteD (fun c => ?_) (fun c => ?_)
      · have kk : ∀ H1, Fr [] H' H1 → E (.ref a.noMore) none H1 := by
          rcases k with ⟨⟨p, hp, h1, h2⟩, _⟩ | ⟨_, _, k⟩ | ⟨_, h2, _⟩
          · have := hi p hp h1
            rw [h2] at this
            cases this
          · exact k
          · omega
        have l0 : Str.empty.length = 0 := rfl
        have l1 : (" asks, but " : Str).length ≤ 100 := by decide +kernel
        have l2 : (" given" : Str).length ≤ 100 := by decide +kernel
        walk_at "wk"
        refine w_fmi (by omega) (by omega) (fun y hy => ?_)
        refine w_jsb (by omega) ?_
        walk_at "wk"
        refine w_jsb (by rw [Str.length_append]; omega) ?_
        walk_at "wk"
        refine w_fmi (by omega) (by omega) (fun y2 hy2 => ?_)
        refine w_jsb (by rw [Str.length_append, Str.length_append]; omega) ?_
        walk_at "wk"
        refine w_jsb (by rw [Str.length_append, Str.length_append, Str.length_append]; omega) ?_
        walk_at "wk"
        exact kk _ f0
      · walk_at "wk"
        rcases k with ⟨⟨p, hp, h1, h2⟩, _⟩ | ⟨_, h2, _⟩ | ⟨_, _, k⟩
        · have := hi p hp h1
          rw [h2] at this
          cases this
        · omega
        · exact k _ f0
end
end My
namespace My
open PySem L2 Wk
local macro_rules | `(tactic| walk_at "hs") => `(tactic| first
  | assumption
  | (apply fr_st0; (case f => assumption); (case h => walk_at "hs"))
  | (apply fr_st1; (case f => assumption); (case n => walk_at "ne"); (case hw => first | assumption | exact List.mem_cons_self); (case h => walk_at "hs"))
  | fail "none")
local macro_rules | `(tactic| walk_at "nn") => `(tactic| first
  | (apply nn_st; (case n => assumption); (case h => walk_at "hs"))
  | (apply nn_l; (case n => assumption); (case h => walk_at "hp"))
  | (apply nn_d; (case n => assumption); (case h => walk_at "hp"))
  | (apply nn_i; (case n => assumption); (case h => walk_at "hp"))
  | fail "none")
local macro_rules | `(tactic| walk_at "su") => `(tactic| first
  | assumption
  | (apply fr_su; (case f => assumption); (case h => walk_at "su"))
  | fail "none")
local macro_rules | `(tactic| walk_at "as") => `(tactic| first
  | assumption
  | (apply fr_as; (case f => assumption); (case h => walk_at "as"))
  | fail "none")
local macro_rules | `(tactic| walk_at "ef") => `(tactic| first
  | assumption
  | (apply fr_ef0; (case f => assumption); (case h => walk_at "ef"))
  | (apply fr_ef; (case f => assumption); (case n1 => walk_at "ni"); (case n2 => walk_at "ni"); (case n3 => walk_at "ni"); (case h => walk_at "ef"))
  | fail "none")
local macro_rules | `(tactic| walk_at "td") => `(tactic| first
  | assumption
  | (apply fr_td0; (case f => assumption); (case h => walk_at "td"))
  | (apply fr_td; (case f => assumption); (case n1 => walk_at "ni"); (case n2 => walk_at "ni"); (case n3 => walk_at "ni"); (case h => walk_at "td"))
  | fail "none")
local macro_rules | `(tactic| walk_at "sk") => `(tactic| first
  | assumption
  | (apply fr_stk; (case f => assumption); (case a => walk_at "sk"))
  | fail "none")
local macro_rules | `(tactic| walk_at "al") => `(tactic| first
  | assumption
  | (apply fr_al; (case f => assumption); (case h => walk_at "al"))
  | fail "none")
local macro_rules | `(tactic| walk_at "nv") => `(tactic| first
  | assumption
  | (apply fr_nv; (case a => assumption); (case n => walk_at "ni"); (case h => walk_at "nv"))
  | fail "none")
local macro_rules | `(tactic| walk_at "ne") => `(tactic| first
  | assumption
  | (apply Ne.symm; assumption)
  | walk_at "nn"
  | (apply Ne.symm; walk_at "nn")
  | fail "none")
local macro_rules | `(tactic| walk_at "ni") => `(tactic| first
  | exact List.not_mem_nil
  | (apply ni1; walk_at "ne")
  | (apply ni2 <;> walk_at "ne")
  | (apply ni3 <;> walk_at "ne")
  | fail "none")
local macro_rules | `(tactic| walk_at "hp") => `(tactic| first
  | assumption
  | (apply Fr.gett; (case a => assumption); (case h => walk_at "hp"))
  | (apply Fr.getl; (case a => assumption); (case n => walk_at "ni"); (case h => walk_at "hp"))
  | (apply Fr.getd; (case a => assumption); (case n => walk_at "ni"); (case h => walk_at "hp"))
  | (apply Fr.geti; (case a => assumption); (case n => walk_at "ni"); (case h => walk_at "hp"))
  | fail "none")
local macro_rules | `(tactic| walk_at "sqs") => `(tactic| first
  | assumption
  | (apply Fr.sqln; (case a => assumption); (case n => walk_at "ni"); (case h => walk_at "sqs"))
  | fail "none")
local macro_rules | `(tactic| walk_at "sq") => `(tactic| first
  | assumption
  | (apply SqL.of; walk_at "hp")
  | (apply SqT.of; walk_at "hp")
  | walk_at "sqs"
  | fail "none")
local macro_rules | `(tactic| walk_at "fr") => `(tactic| first
  | exact Fr.refl
  | assumption
  | (apply Fr.mono; (case a => assumption); (case h => simp))
  | (apply fr_last; (case f => assumption); (case w => simp); (case g => walk_at "fr"))
  | fail "none")
local macro_rules | `(tactic| walk_at "st") => `(tactic| ((try dsimp only [cxOf, Cx.nox, Cx.wish]); (try simp only [L2.start, List.map_cons, List.map_nil, List.length_cons, List.length_nil, List.replicate, List.cons_append, List.nil_append, Nat.reduceAdd, Nat.reduceSub])))
local macro_rules | `(tactic| walk_at "lset") => `(tactic| (simp only [wipe, List.map_cons, List.map_nil, Int.reduceToNat, List.set_cons_zero, List.set_cons_succ] <;> rfl))
local macro_rules | `(tactic| walk_at "wk1") => `(tactic| first
  | with_reducible refine' w_seq ?_
  | with_reducible refine' w_asg ?_
  | ((with_reducible refine' w_name ?hs ?_); (case hs => walk_at "lset"))
  | ((with_reducible refine' w_var ?hv ?_); (case hv => rfl))
  | with_reducible refine' w_c ?_
  | with_reducible refine' w_op ?_
  | with_reducible refine' w_un ?_
  | with_reducible refine' w_test ?_
  | with_reducible refine' w_tB ?_
  | with_reducible refine' w_exbl ?_
  | with_reducible refine' w_exint ?_
  | with_reducible refine' w_t ?_
  | with_reducible refine' w_f ?_
  | with_reducible refine' w_ifS ?_
  | with_reducible refine' w_if ?_
  | with_reducible refine' w_and ?_
  | with_reducible refine' w_or ?_
  | with_reducible refine' w_not ?_
  | with_reducible refine' w_andV ?_
  | with_reducible refine' w_orV ?_
  | with_reducible refine' w_notV ?_
  | with_reducible refine' w_ret ?_
  | with_reducible refine' w_retN ?_
  | with_reducible refine' w_drop ?_
  | with_reducible refine' w_next ?_
  | with_reducible refine' w_nil ?_
  | with_reducible refine' w_cons ?_
  | with_reducible refine' w_cb ?_
  | with_reducible refine' w_call ?_
  | with_reducible refine' w_gsub ?_
  | with_reducible refine' w_gnil ?_
  | with_reducible refine' w_gcons ?_
  | ((with_reducible refine' w_gtup ?hs ?hn ?_); (case hs => walk_at "sq"); (case hn => rfl))
  | with_reducible refine' w_fld ?_
  | with_reducible refine' w_tfld ?_
  | with_reducible refine' w_sl ?_
  | with_reducible refine' w_nopart ?_
  | with_reducible refine' w_part ?_
  | with_reducible refine' w_bm ?_
  | with_reducible refine' w_bm0 ?_
  | with_reducible refine' w_yes ?_
  | with_reducible refine' w_tup ?_
  | with_reducible refine' w_lst ?_
  | with_reducible refine' w_I0 ?_
  | ((with_reducible refine' w_I ?hc ?_); (case hc => (first | (show (0 : Int) < _; first | decide | omega | assumption) | exact wide_div (by first | assumption | decide) (b := 200) (by first | assumption | decide) (by decide) (by decide) | exact wide_mul (a := 64) (b := 64) (by omega) (by omega) (by decide) (by decide) (by decide) | exact ⟨by decide, by decide, by decide⟩)))
  | ((with_reducible refine' w_eq ?he ?_); (case he => rfl))
  | ((with_reducible refine' w_ne ?he ?_); (case he => rfl))
  | ((with_reducible refine' w_ixL ?hs ?ha ?_); (case hs => walk_at "sq"); (case ha => rfl))
  | ((with_reducible refine' w_ixT ?hs ?ha ?_); (case hs => walk_at "sq"); (case ha => rfl))
  | ((with_reducible refine' w_lenL ?hs ?he ?_); (case hs => walk_at "sq"); (case he => first | (simp only [List.length_cons, List.length_nil, List.length_map]; rfl) | rfl))
  | ((with_reducible refine' w_lenT ?hs ?he ?_); (case hs => walk_at "sq"); (case he => first | (simp only [List.length_cons, List.length_nil, List.length_map]; rfl) | rfl))
  | ((with_reducible refine' w_setL ?hh ?hk ?he (fun H1 f1 g1 => ?_)); (case hh => walk_at "hp"); (case hk => rfl); (case he => walk_at "lset"))
  | ((with_reducible refine' w_newT ?hl (fun p H1 n1 f1 g1 => ?_)); (case hl => (first | decide | (simp only [List.length_cons, List.length_nil]; decide))))
  | ((with_reducible refine' w_newL ?hl (fun p H1 n1 f1 g1 => ?_)); (case hl => (first | decide | (simp only [List.length_cons, List.length_nil]; decide))))
  | with_reducible refine' w_for ?_
  | with_reducible refine' w_ilist ?_
  | ((with_reducible refine' w_ilb ?hs ?_); (case hs => walk_at "sq"))
  | with_reducible refine' w_itup ?_
  | ((with_reducible refine' w_itb ?hs ?_); (case hs => walk_at "sq"))
  | with_reducible refine' w_rng1 ?_
  | ((with_reducible refine' w_rgb1 ?h0 ?h1 ?_); (case h0 => first | decide | omega); (case h1 => first | decide | omega))
  | with_reducible refine' w_lc ?_
  | ((with_reducible refine' w_wipe ?hw ?_); (case hw => rfl))
  | ((with_reducible refine' w_cat ?ha ?hb ?hl (fun p H1 n1 f1 g1 => ?_)); (case ha => walk_at "hp"); (case hb => walk_at "hp"); (case hl => (first | decide | (simp only [List.length_cons, List.length_nil]; decide))))
  | with_reducible refine' w_dget ?_
  | with_reducible refine' w_din ?_
  | with_reducible refine' w_dnotin ?_
  | with_reducible refine' w_dput ?_
  | with_reducible refine' w_dnew ?_
  | with_reducible refine' w_newD (fun p H1 n1 f1 g1 => ?_)
  | ((with_reducible refine' w_slT ?hs ?hn ?he (fun p H1 n1 f1 g1 => ?_)); (case hs => walk_at "sq"); (case hn => decide); (case he => rfl))
  | with_reducible refine' w_meth ?_
  | with_reducible refine' w_make ?_
  | with_reducible refine' w_mkb (fun x dx H1 n1 m1 d1 f1 g1 => ?_)
  | with_reducible refine' w_fldaug ?_
  | with_reducible refine' w_tru ?_
  | ((with_reducible refine' w_trl ?hh ?_); (case hh => walk_at "hp"))
  | with_reducible refine' w_whb ?_
  | with_reducible refine' w_chain ?_
  | with_reducible refine' w_tyIs ?_
  | with_reducible refine' w_raise ?_
  | with_reducible refine' w_rab ?_
  | with_reducible refine' w_jn ?_
  | with_reducible refine' w_js ?_
  | with_reducible refine' w_jsn ?_
  | with_reducible refine' w_fmt ?_
  | with_reducible refine' w_isN ?_
  | with_reducible refine' w_intB ?_
  | with_reducible refine' w_istr ?_
  | with_reducible refine' w_stb ?_
  | ((with_reducible refine' w_inT ?hs ?hx ?ha ?_); (case hs => walk_at "sq"); (case hx => rfl); (case ha => rfl))
  | ((with_reducible refine' w_isf ?hd ?_); (case hd => decide +kernel))
  | ((with_reducible refine' w_ist ?hd ?_); (case hd => decide +kernel))
  | fail "none")
local macro_rules | `(tactic| walk_at "wk") => `(tactic| repeat walk_at "wk1")

section
variable {P : Program} {w : World} {K : PySem.W.Frag} {mg : Str → Option Value} {base : Heap} {f : Addr} {fd : FuncData} {a : Ad}
theorem sc_worth : FnScope ["part", "names", "given", "effects", "number"] ["part", "names", "given"] (defScope s_worth) := ⟨rfl, rfl, rfl, by decide +kernel, rfl, by decide +kernel, by decide +kernel⟩
theorem ok_worth {fI : Addr} {fdI : FuncData} (F : Fun K "worth" "worth" s_worth f fd) (Z : Blt mg) (T : Txt K mg a) (D_sums_within : Df P w K mg base CX0 3 "sums_within" ["part"] spWithin)
    (D_refuse_lacks : Df P w K mg base (L2.CX P w) 1 "refuse_lacks" ["parts", "names", "given"] (spRefuse a.noName a.noMore)) (D_worked_out : Df P w K mg base CX0 18 "worked_out" ["part", "names", "effects"] (spWorked a.effects 16))
    (M_Effects : Mk K a.effects fI) (b_Effects : Binds K fdI ["self", "given"] []) (G_Effects : FnOk P w K mg base CX0 1 fI fdI ["self", "given"] (spInitE a.effects)) : FnOk P w K mg base (L2.CX P w) 19 f fd ["part", "names", "given"] (spWorthP a.noName a.noMore) := by
  refine F.okX sc_worth (fun vs H Q E h => ?_) (fun cdv A outer s H vs Q E hr h => ?_)
  · obtain ⟨v, s, nd, gv, kvs, gs, rfl, _⟩ := h
    rfl
  obtain ⟨v, s, nd, gv, kvs, gs, rfl, hs, hok, hd, hz, hnd, hgv, hgl, k⟩ := h
  refine ⟨_, (pss_cons (ps_expr (pe_dfx D_refuse_lacks hr (by first | decide | omega) (takes_of rfl rfl rfl rfl) (pa_cons (pe_df D_sums_within hr (by first | decide | omega) (pa_cons (pv 0) pa_nil)) (pa_cons (pv 1) (pa_cons (pv 2) pa_nil)))))
  (pss_cons (ps_set (i := 3) sc_worth.nd rfl (Or.inl rfl) (pe_make M_Effects G_Effects (hr.mono (by first | decide | omega)) rfl T.m_Effects b_Effects .nil pass0 (pa_cons (pv 2) pa_nil)))
  (pss_cons (ps_set (i := 4) sc_worth.nd rfl (Or.inl rfl) (pe_df D_worked_out hr (by first | decide | omega) (pa_cons (pv 0) (pa_cons (pv 1) (pa_cons (pv 3) pa_nil)))))
  (pss_one (ps_ret (pe_tup (pa_cons (pv 4) (pa_cons (pe_fld (pv 3) rfl) (pa_cons (pe_fld (pv 3) rfl) pa_nil))))))))), ?_⟩
  walk_at "st"
  walk_at "wk"
  refine u_within hs hok hd hz (fun pl us ss H1 i1 g1 a1 p1 f1 => ?_)
  walk_at "wk"
  have l1 := a1.length
  have l2 := p1.length_eq
  rw [Sm.all_length] at l2
  have aks : asksOf (ss.map fun s => (s.word, s.letter)) = s.asks := by
    rw [asksOf_sums, ← Sm.asks_all s]
    exact (p1.filter _).length_eq
  have ltl : ∀ p ∈ ss.map (fun s => (s.word, s.letter)), p.2.length ≤ 1000 := by
    intro p hp
    obtain ⟨t, ht, rfl⟩ := List.mem_map.mp hp
    have := letters_len _ (letter_in (all_ok s hok t (p1.mem_iff.mp ht)))
    show t.letter.length ≤ 1000
    omega
  refine ⟨pl, nd, gv, us, gs.map V.int, _, kvs, rfl, g1, a1.parts, by omega, by walk_at "hp", by walk_at "hp", by rw [List.length_map]; exact hgl, ltl, ?_⟩
  have names_of : ∀ p ∈ ss.map (fun s => (s.word, s.letter)), p.1 = ("name" : Str) → Sm.name p.2 ∈ s.all := by
    intro p hp e
    obtain ⟨t, ht, rfl⟩ := List.mem_map.mp hp
    have e2 := name_word t e
    have m := p1.mem_iff.mp ht
    rw [e2] at m
    exact m
  rcases k with ⟨⟨c, hc, hv⟩, k⟩ | ⟨h1, h2, k⟩ | ⟨fn, hn, hg, hk, k⟩
  · refine .inl ⟨⟨(("name" : Str), c), List.mem_map.mpr ⟨.name c, p1.mem_iff.mpr hc, rfl⟩, rfl, hv⟩, fun H2 f2 => k H2 (f1.trans f2)⟩
  · refine .inr (.inl ⟨fun p hp e => h1 _ (names_of p hp e), by rw [List.length_map, aks]; exact h2, fun H2 f2 => k H2 (f1.trans f2)⟩)
  · have hn' := hn
    obtain ⟨kvs', hnd', hv'⟩ := hn'
    rw [hnd] at hnd'
    obtain rfl : kvs = kvs' := HO.dK.inj (Option.some.inj hnd')
    refine .inr (.inr ⟨fun p hp e => ?_, by rw [List.length_map, aks]; exact hk, fun H2 f2 => ?_⟩)
    · rw [hv' _ (name_ok hok (names_of p hp e))]
      rfl
    have f02 : Fr [] H H2 := f1.trans f2
    walk_at "wk"
    rename_i e dx H3 ie id ned f3 g3
    have ge : gv ≠ e := ne_of_none (f02.get0 hgv) ie
    have nde : nd ≠ e := ne_of_none (f02.get0 hnd) ie
    refine u_initE g3 (fun sl H4 i4 g4 s4 f4 => ⟨rfl, ?_⟩)
    have gsl : gv ≠ sl := ne_of_none (f3.get0 (f02.get0 hgv)) i4
    have e4 : EffAt a.effects H4 e dx gv gs sl [] 0 := ⟨g4, s4, f4.getl (ni1 ge) (f3.get0 (f02.get0 hgv)), gsl⟩
    have f24 : Fr [] H2 H4 := (f3.nil.trans f4).drop ie
    have f04 : Fr [] H H4 := f02.trans f24
    walk_at "wk"
    refine u_worked (hs.mono f04) hok (by omega) hg (hn.fr f04 (by simp)) e4 (by omega) (by show 0 + s.size ≤ 1000; omega) (fun H5 e5 f5 => ?_)
    walk_at "wk"
    refine w_getfld e5.ins T.cl_Effects T.n_said (ef_said _ _ _) ?_
    walk_at "wk"
    refine w_getfld e5.ins T.cl_Effects T.n_asked (ef_asked _ _ _) ?_
    walk_at "wk"
    rename_i t H6 i6 f6 g6
    have sl2 : H2 sl = none := f3.back i4
    have f25 : Fr [] H2 H5 := (((f3.nil.trans (f4.mono (W' := [e, sl]) (by simp))).trans f5).drop ie).drop sl2
    have f05 : Fr [] H H5 := f02.trans f25
    exact k t sl H6 (f05.back i6) (f02.back sl2) g6 (f6.get0 e5.said) (f05.trans f6)
end
end My
namespace My
open PySem L2 Wk
local macro_rules | `(tactic| walk_at "hs") => `(tactic| first
  | assumption
  | (apply fr_st0; (case f => assumption); (case h => walk_at "hs"))
  | (apply fr_st1; (case f => assumption); (case n => walk_at "ne"); (case hw => first | assumption | exact List.mem_cons_self); (case h => walk_at "hs"))
  | fail "none")
local macro_rules | `(tactic| walk_at "nn") => `(tactic| first
  | (apply nn_st; (case n => assumption); (case h => walk_at "hs"))
  | (apply nn_l; (case n => assumption); (case h => walk_at "hp"))
  | (apply nn_d; (case n => assumption); (case h => walk_at "hp"))
  | (apply nn_i; (case n => assumption); (case h => walk_at "hp"))
  | fail "none")
local macro_rules | `(tactic| walk_at "su") => `(tactic| first
  | assumption
  | (apply fr_su; (case f => assumption); (case h => walk_at "su"))
  | fail "none")
local macro_rules | `(tactic| walk_at "as") => `(tactic| first
  | assumption
  | (apply fr_as; (case f => assumption); (case h => walk_at "as"))
  | fail "none")
local macro_rules | `(tactic| walk_at "ef") => `(tactic| first
  | assumption
  | (apply fr_ef0; (case f => assumption); (case h => walk_at "ef"))
  | (apply fr_ef; (case f => assumption); (case n1 => walk_at "ni"); (case n2 => walk_at "ni"); (case n3 => walk_at "ni"); (case h => walk_at "ef"))
  | fail "none")
local macro_rules | `(tactic| walk_at "td") => `(tactic| first
  | assumption
  | (apply fr_td0; (case f => assumption); (case h => walk_at "td"))
  | (apply fr_td; (case f => assumption); (case n1 => walk_at "ni"); (case n2 => walk_at "ni"); (case n3 => walk_at "ni"); (case h => walk_at "td"))
  | fail "none")
local macro_rules | `(tactic| walk_at "sk") => `(tactic| first
  | assumption
  | (apply fr_stk; (case f => assumption); (case a => walk_at "sk"))
  | fail "none")
local macro_rules | `(tactic| walk_at "al") => `(tactic| first
  | assumption
  | (apply fr_al; (case f => assumption); (case h => walk_at "al"))
  | fail "none")
local macro_rules | `(tactic| walk_at "nv") => `(tactic| first
  | assumption
  | (apply fr_nv; (case a => assumption); (case n => walk_at "ni"); (case h => walk_at "nv"))
  | fail "none")
local macro_rules | `(tactic| walk_at "ne") => `(tactic| first
  | assumption
  | (apply Ne.symm; assumption)
  | walk_at "nn"
  | (apply Ne.symm; walk_at "nn")
  | fail "none")
local macro_rules | `(tactic| walk_at "ni") => `(tactic| first
  | exact List.not_mem_nil
  | (apply ni1; walk_at "ne")
  | (apply ni2 <;> walk_at "ne")
  | (apply ni3 <;> walk_at "ne")
  | fail "none")
local macro_rules | `(tactic| walk_at "hp") => `(tactic| first
  | assumption
  | (apply Fr.gett; (case a => assumption); (case h => walk_at "hp"))
  | (apply Fr.getl; (case a => assumption); (case n => walk_at "ni"); (case h => walk_at "hp"))
  | (apply Fr.getd; (case a => assumption); (case n => walk_at "ni"); (case h => walk_at "hp"))
  | (apply Fr.geti; (case a => assumption); (case n => walk_at "ni"); (case h => walk_at "hp"))
  | fail "none")
local macro_rules | `(tactic| walk_at "sqs") => `(tactic| first
  | assumption
  | (apply Fr.sqln; (case a => assumption); (case n => walk_at "ni"); (case h => walk_at "sqs"))
  | fail "none")
local macro_rules | `(tactic| walk_at "sq") => `(tactic| first
  | assumption
  | (apply SqL.of; walk_at "hp")
  | (apply SqT.of; walk_at "hp")
  | walk_at "sqs"
  | fail "none")
local macro_rules | `(tactic| walk_at "fr") => `(tactic| first
  | exact Fr.refl
  | assumption
  | (apply Fr.mono; (case a => assumption); (case h => simp))
  | (apply fr_last; (case f => assumption); (case w => simp); (case g => walk_at "fr"))
  | fail "none")
local macro_rules | `(tactic| walk_at "st") => `(tactic| ((try dsimp only [cxOf, Cx.nox, Cx.wish]); (try simp only [L2.start, List.map_cons, List.map_nil, List.length_cons, List.length_nil, List.replicate, List.cons_append, List.nil_append, Nat.reduceAdd, Nat.reduceSub])))
local macro_rules | `(tactic| walk_at "lset") => `(tactic| (simp only [wipe, List.map_cons, List.map_nil, Int.reduceToNat, List.set_cons_zero, List.set_cons_succ] <;> rfl))
local macro_rules | `(tactic| walk_at "wk1") => `(tactic| first
  | with_reducible refine' w_seq ?_
  | with_reducible refine' w_asg ?_
  | ((with_reducible refine' w_name ?hs ?_); (case hs => walk_at "lset"))
  | ((with_reducible refine' w_var ?hv ?_); (case hv => rfl))
  | with_reducible refine' w_c ?_
  | with_reducible refine' w_op ?_
  | with_reducible refine' w_un ?_
  | with_reducible refine' w_test ?_
  | with_reducible refine' w_tB ?_
  | with_reducible refine' w_exbl ?_
  | with_reducible refine' w_exint ?_
  | with_reducible refine' w_t ?_
  | with_reducible refine' w_f ?_
  | with_reducible refine' w_ifS ?_
  | with_reducible refine' w_if ?_
  | with_reducible refine' w_and ?_
  | with_reducible refine' w_or ?_
  | with_reducible refine' w_not ?_
  | with_reducible refine' w_andV ?_
  | with_reducible refine' w_orV ?_
  | with_reducible refine' w_notV ?_
  | with_reducible refine' w_ret ?_
  | with_reducible refine' w_retN ?_
  | with_reducible refine' w_drop ?_
  | with_reducible refine' w_next ?_
  | with_reducible refine' w_nil ?_
  | with_reducible refine' w_cons ?_
  | with_reducible refine' w_cb ?_
  | with_reducible refine' w_call ?_
  | with_reducible refine' w_gsub ?_
  | with_reducible refine' w_gnil ?_
  | with_reducible refine' w_gcons ?_
  | ((with_reducible refine' w_gtup ?hs ?hn ?_); (case hs => walk_at "sq"); (case hn => rfl))
  | with_reducible refine' w_fld ?_
  | with_reducible refine' w_tfld ?_
  | with_reducible refine' w_sl ?_
  | with_reducible refine' w_nopart ?_
  | with_reducible refine' w_part ?_
  | with_reducible refine' w_bm ?_
  | with_reducible refine' w_bm0 ?_
  | with_reducible refine' w_yes ?_
  | with_reducible refine' w_tup ?_
  | with_reducible refine' w_lst ?_
  | with_reducible refine' w_I0 ?_
  | ((with_reducible refine' w_I ?hc ?_); (case hc => (first | (show (0 : Int) < _; first | decide | omega | assumption) | exact wide_div (by first | assumption | decide) (b := 200) (by first | assumption | decide) (by decide) (by decide) | exact wide_mul (a := 64) (b := 64) (by omega) (by omega) (by decide) (by decide) (by decide) | exact ⟨by decide, by decide, by decide⟩)))
  | ((with_reducible refine' w_eq ?he ?_); (case he => rfl))
  | ((with_reducible refine' w_ne ?he ?_); (case he => rfl))
  | ((with_reducible refine' w_ixL ?hs ?ha ?_); (case hs => walk_at "sq"); (case ha => rfl))
  | ((with_reducible refine' w_ixT ?hs ?ha ?_); (case hs => walk_at "sq"); (case ha => rfl))
  | ((with_reducible refine' w_lenL ?hs ?he ?_); (case hs => walk_at "sq"); (case he => first | (simp only [List.length_cons, List.length_nil, List.length_map]; rfl) | rfl))
  | ((with_reducible refine' w_lenT ?hs ?he ?_); (case hs => walk_at "sq"); (case he => first | (simp only [List.length_cons, List.length_nil, List.length_map]; rfl) | rfl))
  | ((with_reducible refine' w_setL ?hh ?hk ?he (fun H1 f1 g1 => ?_)); (case hh => walk_at "hp"); (case hk => rfl); (case he => walk_at "lset"))
  | ((with_reducible refine' w_newT ?hl (fun p H1 n1 f1 g1 => ?_)); (case hl => (first | decide | (simp only [List.length_cons, List.length_nil]; decide))))
  | ((with_reducible refine' w_newL ?hl (fun p H1 n1 f1 g1 => ?_)); (case hl => (first | decide | (simp only [List.length_cons, List.length_nil]; decide))))
  | with_reducible refine' w_for ?_
  | with_reducible refine' w_ilist ?_
  | ((with_reducible refine' w_ilb ?hs ?_); (case hs => walk_at "sq"))
  | with_reducible refine' w_itup ?_
  | ((with_reducible refine' w_itb ?hs ?_); (case hs => walk_at "sq"))
  | with_reducible refine' w_rng1 ?_
  | ((with_reducible refine' w_rgb1 ?h0 ?h1 ?_); (case h0 => first | decide | omega); (case h1 => first | decide | omega))
  | with_reducible refine' w_lc ?_
  | ((with_reducible refine' w_wipe ?hw ?_); (case hw => rfl))
  | ((with_reducible refine' w_cat ?ha ?hb ?hl (fun p H1 n1 f1 g1 => ?_)); (case ha => walk_at "hp"); (case hb => walk_at "hp"); (case hl => (first | decide | (simp only [List.length_cons, List.length_nil]; decide))))
  | with_reducible refine' w_dget ?_
  | with_reducible refine' w_din ?_
  | with_reducible refine' w_dnotin ?_
  | with_reducible refine' w_dput ?_
  | with_reducible refine' w_dnew ?_
  | with_reducible refine' w_newD (fun p H1 n1 f1 g1 => ?_)
  | ((with_reducible refine' w_slT ?hs ?hn ?he (fun p H1 n1 f1 g1 => ?_)); (case hs => walk_at "sq"); (case hn => decide); (case he => rfl))
  | with_reducible refine' w_meth ?_
  | with_reducible refine' w_make ?_
  | with_reducible refine' w_mkb (fun x dx H1 n1 m1 d1 f1 g1 => ?_)
  | with_reducible refine' w_fldaug ?_
  | with_reducible refine' w_tru ?_
  | ((with_reducible refine' w_trl ?hh ?_); (case hh => walk_at "hp"))
  | with_reducible refine' w_whb ?_
  | with_reducible refine' w_chain ?_
  | with_reducible refine' w_tyIs ?_
  | with_reducible refine' w_raise ?_
  | with_reducible refine' w_rab ?_
  | with_reducible refine' w_jn ?_
  | with_reducible refine' w_js ?_
  | with_reducible refine' w_jsn ?_
  | with_reducible refine' w_fmt ?_
  | with_reducible refine' w_isN ?_
  | with_reducible refine' w_intB ?_
  | with_reducible refine' w_istr ?_
  | with_reducible refine' w_stb ?_
  | ((with_reducible refine' w_inT ?hs ?hx ?ha ?_); (case hs => walk_at "sq"); (case hx => rfl); (case ha => rfl))
  | ((with_reducible refine' w_isf ?hd ?_); (case hd => decide +kernel))
  | ((with_reducible refine' w_ist ?hd ?_); (case hd => decide +kernel))
  | fail "none")
local macro_rules | `(tactic| walk_at "wk") => `(tactic| repeat walk_at "wk1")

/-! ### list.count of flat items; isinstance of a caught error -/
section
variable {X : Cx}
def rCntF (K : PySem.W.Frag) : V → List V → Hp → VK → Prop := fun x xs H Q => ∃ (a : Addr) (ys : List V) (y : V), x = V.ref a ∧ xs = [y] ∧ SqL K H a ys ∧ flatV y = true ∧ ys.all flatV = true ∧ Q (.int (ys.countP (fun z => eqV z y) : Nat)) H
theorem countP_flat {y : V} : ∀ {ys : List V} {us : List Value}, Vals ys us → ys.all flatV = true → us.countP (eqU y) = ys.countP fun z => eqV z y
  | _, _, .nil, _ => rfl
  | v :: ys, u :: us, .cons r t, f => by
    rw [List.all_cons, Bool.and_eq_true] at f
    rw [List.countP_cons, List.countP_cons, countP_flat t f.2, eqU_of r f.1]
theorem mt_countF : MtR X "list.count" (rCntF X.K) := by
  intro pins s σ H x xs v us Q I rx rxs h
  obtain ⟨a, ys, y, rfl, rfl, hs, fy, fys, q⟩ := h
  cases rx
  obtain ⟨uy, rfl, ry⟩ := rxs.one
  obtain ⟨its, rv, ⟨⟨cls, dd, data, sl⟩, n, ho, hc, hdn, hd⟩, _⟩ := I.list hs
  simp only at hc hd
  subst hc hd
  refine call_meets PySem.F.slot_list_count ⟨_, ho, rfl⟩ PySem.F.entry_list_count (PySem.F.args_list_count_2 _ _)
    (SeqAt.list_countAt a its.toArray n dd sl uy (eqU y)) ⟨ho, fun u hu => mem_eqAt ry fy rv fys u (by simpa using hu), ?_⟩
  have ec : its.toArray.toList.countP (eqU y) = ys.countP fun z => eqV z y := countP_flat rv fys
  rw [ec]
  exact ⟨.int (ys.countP (fun z => eqV z y) : Nat), H, I.tok _, ⟨s.toks, rfl⟩, q⟩
theorem mt_countK {K : PySem.W.Frag} (h : X.K = K) : MtR X "list.count" (rCntF K) := h ▸ mt_countF
theorem mt_indexK {K : PySem.W.Frag} (h : X.K = K) : MtR X "list.index" (rIndex K) := h ▸ mt_index
theorem pe_bmK {K : PySem.W.Frag} {T name id : String} {r : V → List V → Hp → VK → Prop} {o e : Expr} {es : List Expr} {to : TE} {t : TA} {apos cpos : Pos} (hK : X.K = K) (pa : PlainAttrs T) (slot : Slot T name id) (hty : typeOf (.builtin id) = pure (.type "method_descriptor")) (hm : MtR X id r) (ho : PE X o to) (ha : PA X (e :: es) t)
    (hbase : attributeBase o name X.env (eval o X.env) = eval o X.env := by rfl)
    (hfew : ((backTo cpos (starEach (e :: es) X.env)).all (fun x => !x.1) && (backToKw cpos (keywordEach [] X.env)).all (fun x => x.1.isSome)
      && decide ((e :: es).length + ([] : List Keyword).length + (if ([] : List Keyword).isEmpty then 0 else 1) < 30)) = true := by rfl)
    (hline : (apos.endLine == cpos.line) = true := by rfl) (hs : starEach (e :: es) X.env = (false, eval e X.env) :: starEach es X.env := by rfl) (hplain : (backTo cpos (starEach es X.env)).any (·.1) = false := by rfl) :
    PE X (.Call (.Attribute o name apos) (e :: es) [] cpos) (tBM K T r to t) := hK ▸ pe_bm pa slot hty hm ho ha hbase hfew hline hs hplain
def rIsX (K : PySem.W.Frag) (cls : Value) (d : Option Addr) (a : Addr) : List V → Hp → VK → Prop := fun xs H Q => ∃ D, cls = .ref D ∧ d = none ∧ ExcC K D ∧ rIsE K D a xs H Q
theorem call_isX {a : Addr} {oe : Obj} {pn : List (Addr × Obj)} {cls : Value} {d : Option Addr} (hz : Zc cls d oe) (hf : ∃ vs, oe.data = .fields vs) : CallR (X.suite a ((a, oe) :: pn)) (.builtin "isinstance") (rIsX X.K cls d a) := by
  intro pins s σ H xs us Q I r h
  obtain ⟨D, rfl, rfl, C, h⟩ := h
  exact call_isE C hz hf pins s σ H xs us Q I r h
def tENever : TE := fun _ _ _ => False
theorem pe_never {e : Expr} : PE X e tENever := ⟨fun _ _ _ _ _ _ h => h.elim⟩
end
theorem w_isXr {K : PySem.W.Frag} {D C a : Addr} {b : Bool} {H : Hp} {Q : VK} (x : ExcC K D) (e : PySem.W.kitOne K (.ref D) (.ref C) = some b) (q : Q (.bl b) H) : rIsX K (.ref D) none a [.ref a, .ref C] H Q := ⟨D, rfl, rfl, x, .ref C, .ref C, b, rfl, fun u h => h, e, q⟩
theorem w_isXt {K : PySem.W.Frag} {D a : Addr} {t : String} {b : Bool} {H : Hp} {Q : VK} (x : ExcC K D) (e : PySem.W.kitOne K (.ref D) (.type t) = some b) (q : Q (.bl b) H) : rIsX K (.ref D) none a [.ref a, .ty t] H Q := ⟨D, rfl, rfl, x, .ty t, .type t, b, rfl, fun u h => h, e, q⟩
theorem w_cntF {K : PySem.W.Frag} {p : Addr} {ys : List V} {y : V} {c : Nat} {H : Hp} {Q : VK} (h : SqL K H p ys) (f : flatV y = true) (fs : ys.all flatV = true) (e : ys.countP (fun z => eqV z y) = c) (q : Q (.int c) H) : rCntF K (.ref p) [y] H Q := ⟨p, ys, y, rfl, rfl, h, f, fs, e ▸ q⟩
theorem w_index {K : PySem.W.Frag} {p : Addr} {ys : List V} {y z : V} {j : Nat} {H : Hp} {Q : VK} (h : SqL K H p ys) (f : flatV y = true) (fs : ys.all flatV = true) (hz : ys[j]? = some z) (e : eqV z y = true) (no : (ys.take j).all (fun z => !eqV z y) = true) (q : Q (.int (j : Nat)) H) : rIndex K (.ref p) [y] H Q :=
  ⟨p, ys, y, j, z, rfl, rfl, h, f, fs, hz, e, fun m z' hm hz' => by
    have := List.all_eq_true.mp no z' (List.mem_of_getElem? (i := m) (by rw [List.getElem?_take, if_pos hm]; exact hz'))
    simpa using this, q⟩
/-! ### _law_kind -/
structure KindT (K : PySem.W.Frag) (ad : Ad) (D : Addr) (i : Nat) : Prop where
  exc : ExcC K D
  err : PySem.W.exmOne K (.ref D) (.ref ad.stepError) = some true
  val : PySem.W.kitOne K (.ref D) (.type "ValueError") = some true
  k0 : PySem.W.kitOne K (.ref D) (.ref ad.badSum) = some (i == 0)
  k1 : PySem.W.kitOne K (.ref D) (.ref ad.badSteps) = some (i == 1)
  k2 : PySem.W.kitOne K (.ref D) (.ref ad.noName) = some (i == 2)
  k3 : PySem.W.kitOne K (.ref D) (.ref ad.noMore) = some (i == 3)
  k4 : PySem.W.kitOne K (.ref D) (.ref ad.noSum) = some (i == 4)
  k5 : PySem.W.kitOne K (.ref D) (.ref ad.badText) = some (i == 5)
structure KMg (mg : Str → Option Value) (ad : Ad) : Prop where
  ve : mg "ValueError" = none
  m_StepError : mg "StepError" = some (.ref ad.stepError)
  m_BadSum : mg "BadSum" = some (.ref ad.badSum)
  m_BadSteps : mg "BadSteps" = some (.ref ad.badSteps)
  m_NoName : mg "NoName" = some (.ref ad.noName)
  m_NoMore : mg "NoMore" = some (.ref ad.noMore)
  m_NoSum : mg "NoSum" = some (.ref ad.noSum)
  m_BadText : mg "BadText" = some (.ref ad.badText)
def TTk (K : PySem.W.Frag) (ad : Ad) : (XK → Hp → VK → Prop) → Hp → VK → Prop := fun tl H Q =>
  tl (fun cls d H' => d = none ∧ ∃ D i, cls = .ref D ∧ KindT K ad D i ∧ (i = 2 ∨ i = 3) ∧ ∀ H'', Fr [] H' H'' → Q (.str (if i = 2 then "NoName" else "NoMore")) H'') H Q
theorem sc_law_kind : FnScope ["_law_work", "e", "_law_kinds", "_law_words", "_law_word"] ["_law_work"] (defScope s_law_kind) := ⟨rfl, rfl, rfl, by decide +kernel, rfl, by decide +kernel, by decide +kernel⟩
theorem takes_len {X : Cx} {W : WX} {n : Nat} (hn : X.N.length = n) (t : Takes X W) : Takes X (fun cls d σ H => σ.length = n → W cls d σ H) := fun u s' ⟨a, B, sI, pins, σ, H, cls, d, e, I, nb, up, sky, na, os, ag, w⟩ =>
  t u s' ⟨a, B, sI, pins, σ, H, cls, d, e, I, nb, up, sky, na, os, ag, w (I.len.trans hn)⟩
theorem len5 {α : Type} : ∀ {l : List α}, l.length = 5 → ∃ a b c d e, l = [a, b, c, d, e]
  | [a, b, c, d, e], _ => ⟨a, b, c, d, e, rfl⟩
def suiteOf : List Stmt → List Stmt
  | [.Try _ [.ExceptHandler _ _ b _] _ _ _] => b
  | _ => []
theorem kind_suite {P : Program} {w : World} {K : PySem.W.Frag} {mg : Str → Option Value} {base : Heap} {g : Addr} {cdg : Value} {A : Around} {stack : List Env} {s : Shared} {H0 : Hp} {ad : Ad} (Z : Blt mg) (T : KMg mg ad) :
    ∃ ts : Addr → Value → Option Addr → TS, (∀ (a : Addr) (oe : Obj) (cls : Value) (d : Option Addr) (pn : List (Addr × Obj)), Zc cls d oe → (∃ vs, oe.data = .fields vs) →
      PSs ((cxOf C8.CX0 P w K mg base ["_law_work", "e", "_law_kinds", "_law_words", "_law_word"] "_law_kind" (defScope s_law_kind) g cdg A stack s H0 C8.E0).nox.suite a ((a, oe) :: pn)) (suiteOf (defBody s_law_kind)) (ts a cls d)) ∧
    ∀ (a D : Addr) (i : Nat) (σ' : St) (H : Hp) (Dn : Ends), KindT K ad D i → (i = 2 ∨ i = 3) → σ'.length = 5 → (∀ H', Fr [] H H' → Dn.rt (.str (if i = 2 then "NoName" else "NoMore")) H') → ts a (.ref D) none Dn (σ'.set 1 (some (.ref a))) H := by
  refine ⟨_, fun a oe cls d pn hz hf => (pss_cons (ps_set (i := 2) sc_law_kind.nd rfl (Or.inl rfl) (pe_lst (pa_cons (pe_callB (id := "isinstance") (r := rIsX K cls d a) (call_isX hz hf) (by rfl) Z.isinstance (by decide +kernel) (pa_cons (pv 1) (pa_cons (pe_globR rfl T.m_BadSum) pa_nil))) (pa_cons (pe_callB (id := "isinstance") (r := rIsX K cls d a) (call_isX hz hf) (by rfl) Z.isinstance (by decide +kernel) (pa_cons (pv 1) (pa_cons (pe_globR rfl T.m_BadSteps) pa_nil))) (pa_cons (pe_callB (id := "isinstance") (r := rIsX K cls d a) (call_isX hz hf) (by rfl) Z.isinstance (by decide +kernel) (pa_cons (pv 1) (pa_cons (pe_globR rfl T.m_NoName) pa_nil))) (pa_cons (pe_callB (id := "isinstance") (r := rIsX K cls d a) (call_isX hz hf) (by rfl) Z.isinstance (by decide +kernel) (pa_cons (pv 1) (pa_cons (pe_globR rfl T.m_NoMore) pa_nil))) pa_nil))))))
  (pss_cons (ps_set (i := 2) sc_law_kind.nd rfl (Or.inl rfl) (pe_op op_cat (pv 2) (pe_lst (pa_cons (pe_callB (id := "isinstance") (r := rIsX K cls d a) (call_isX hz hf) (by rfl) Z.isinstance (by decide +kernel) (pa_cons (pv 1) (pa_cons (pe_globR rfl T.m_NoSum) pa_nil))) (pa_cons (pe_callB (id := "isinstance") (r := rIsX K cls d a) (call_isX hz hf) (by rfl) Z.isinstance (by decide +kernel) (pa_cons (pv 1) (pa_cons (pe_globR rfl T.m_BadText) pa_nil))) pa_nil)))))
  (pss_cons (ps_set (i := 3) sc_law_kind.nd rfl (Or.inl rfl) (pe_lst (pa_cons pe_str (pa_cons pe_str (pa_cons pe_str (pa_cons pe_str (pa_cons pe_str (pa_cons pe_str pa_nil))))))))
  (pss_cons (ps_if (PW.pt (pw_or (pt_cmpR op_ne (pe_bmK (K := K) (by rfl) PySem.F.plainAttrs_list PySem.F.slot_list_count PySem.F.type_list_count (r := rCntF K) (mt_countK (by rfl)) (pv 2) (pa_cons pe_bl pa_nil)) pe_int (nomark _)) (pw_or1 (pt_not (pt_val (pe_callB (id := "isinstance") (r := rIsX K cls d a) (call_isX hz hf) (by rfl) Z.isinstance (by decide +kernel) (pa_cons (pv 1) (pa_cons (pe_bltn (v := .ty "ValueError") (u := .type "ValueError") rfl T.ve (by decide +kernel) rfl) pa_nil))) (fun _ => rfl)))))) (pss_one (ps_ret pe_str)) pss_nil)
  (pss_cons (ps_set (i := 4) sc_law_kind.nd rfl (Or.inl rfl) (pe_ix (r := rIxL K) ix_list (pv 3) (pe_bmK (K := K) (by rfl) PySem.F.plainAttrs_list PySem.F.slot_list_index PySem.F.type_list_index (r := rIndex K) (mt_indexK (by rfl)) (pv 2) (pa_cons pe_bl pa_nil)) (fun _ _ => rfl)))
  (pss_cons (ps_if (pt_cmpR op_eq (pv 4) pe_str (nomark _)) (pss_one (ps_ret (pe_tup (pa_cons (pv 4) (pa_cons pe_never pa_nil))))) pss_nil)
  (pss_one (ps_ret (pe_ifExp (pt_cmpR op_eq (pv 4) pe_str (nomark _)) (pe_tup (pa_cons (pv 4) (pa_cons pe_never pa_nil))) (pv 4)))))))))), ?_⟩
  intro a D i σ' H Dn KT hi hl k
  obtain ⟨nx, rt, bk, ct⟩ := Dn
  obtain ⟨x0, x1, x2, x3, x4, rfl⟩ := len5 hl
  rcases hi with rfl | rfl
  · simp only [List.set_cons_zero, List.set_cons_succ]
    walk_at "wk"
    refine w_isXr KT.exc KT.k0 ?_
    walk_at "wk"
    refine w_isXr KT.exc KT.k1 ?_
    walk_at "wk"
    refine w_isXr KT.exc KT.k2 ?_
    walk_at "wk"
    refine w_isXr KT.exc KT.k3 ?_
    walk_at "wk"
    refine w_isXr KT.exc KT.k4 ?_
    walk_at "wk"
    refine w_isXr KT.exc KT.k5 ?_
    walk_at "wk"
    rename_i p1 H1 n1 f1 g1 p2 H2 n2 f2 g2 p3 H3 n3 f3 g3 p4 H4 n4 f4 g4
    have g34 := f4.get0 g3
    refine w_tyl g34 ?_
    walk_at "wk"
    refine w_cntF (SqL.of g34) rfl rfl (c := 1) (by decide) ?_
    walk_at "wk"
    refine w_isXt KT.exc KT.val ?_
    walk_at "wk"
    refine w_tyl g34 ?_
    walk_at "wk"
    refine w_index (SqL.of g34) rfl rfl (j := 2) (z := .bl true) rfl (by decide) (by decide) ?_
    walk_at "wk"
    exact k _ (f1.trans (f2.trans (f3.trans f4)))
  · simp only [List.set_cons_zero, List.set_cons_succ]
    walk_at "wk"
    refine w_isXr KT.exc KT.k0 ?_
    walk_at "wk"
    refine w_isXr KT.exc KT.k1 ?_
    walk_at "wk"
    refine w_isXr KT.exc KT.k2 ?_
    walk_at "wk"
    refine w_isXr KT.exc KT.k3 ?_
    walk_at "wk"
    refine w_isXr KT.exc KT.k4 ?_
    walk_at "wk"
    refine w_isXr KT.exc KT.k5 ?_
    walk_at "wk"
    rename_i p1 H1 n1 f1 g1 p2 H2 n2 f2 g2 p3 H3 n3 f3 g3 p4 H4 n4 f4 g4
    have g34 := f4.get0 g3
    refine w_tyl g34 ?_
    walk_at "wk"
    refine w_cntF (SqL.of g34) rfl rfl (c := 1) (by decide) ?_
    walk_at "wk"
    refine w_isXt KT.exc KT.val ?_
    walk_at "wk"
    refine w_tyl g34 ?_
    walk_at "wk"
    refine w_index (SqL.of g34) rfl rfl (j := 3) (z := .bl true) rfl (by decide) (by decide) ?_
    walk_at "wk"
    exact k _ (f1.trans (f2.trans (f3.trans f4)))
theorem kind_gives {X : Cx} {g : Addr} {cdg : Value} {q : Str} {ad : Ad} (Z : Blt X.mg) (T : KMg X.mg ad) :
    LamX.GivesTo X ["_law_work", "e", "_law_kinds", "_law_words", "_law_word"] "_law_kind" (defScope s_law_kind) g cdg (defBody s_law_kind) "_law_work" q (TTk X.K ad) := by
  intro f c' s H Q tl act hc h
  obtain ⟨ts, h1, h2⟩ := kind_suite (P := X.prog) (w := X.w) (K := X.K) (mg := X.mg) (base := X.base) (g := g) (cdg := cdg) (A := X.A) (stack := X.stack) (s := s) (H0 := H) (ad := ad) Z T
  refine ⟨_, pss_one (ps_try_as (X := (cxOf C8.CX0 X.prog X.w X.K X.mg X.base ["_law_work", "e", "_law_kinds", "_law_words", "_law_word"] "_law_kind" (defScope s_law_kind) g cdg X.A X.stack s H C8.E0).nox) (x := "StepError") (n := "e") (c := .ref ad.stepError) (i := 1)
      (tb := fun W D σ H => ∃ Ech : XK, (∀ cls d σ' H', σ'.length = 5 → Ech cls d H' → W cls d σ' H') ∧ σ[0]? = some (some (.ref f)) ∧ H c' = some (LamX.CodeO c' q) ∧ tl Ech H D.rt) (ts := ts)
      rfl rfl sc_law_kind.nd rfl rfl ⟨rfl, by decide, .inl T.m_StepError⟩ LamX.takes0 (fun W pn xe tk _ => ?_) h1), ?_⟩
  · refine ⟨fun pins s' σ H' D I h' => ?_⟩
    obtain ⟨Ech, hW, h1, h2, h3⟩ := h'
    have hp := act (fun cls d σ H => σ.length = 5 → W cls d σ H) pn xe Ech ⟨141, 15, 141, 24⟩ ⟨141, 15, 141, 26⟩ (takes_len rfl tk) fun cls d σ' H' z hl => hW cls d σ' H' hl z
    exact (pss_one (ps_ret (pos := ⟨141, 8, 141, 26⟩) hp)).run pins s' σ H' D I ⟨h1, h2, h3⟩
  · refine ⟨_, fun cls d σ' H' hl z => ?_, rfl, hc, h⟩
    obtain ⟨rfl, D, i, rfl, KT, hi, kk⟩ := z
    exact ⟨true, KT.err, fun _ a _ => h2 a D i σ' H' _ KT hi hl kk, fun e => by cases e⟩
end My
namespace My
open PySem L2 Wk
theorem ev_take {f : Str → Int} {gs : List Int} {n : Nat} : ∀ (s : Sm) (sd : List Int) (k : Nat), k + s.asks ≤ n → s.ev f (gs.take n) sd k = s.ev f gs sd k
  | .num _, _, _, _ => rfl
  | .name _, _, _, _ => rfl
  | .ask, sd, k, h => by
    have h' : k < n := h
    show ((gs.take n).getD k 0, sd, k + 1) = (gs.getD k 0, sd, k + 1)
    rw [List.getD_eq_getElem?_getD, List.getD_eq_getElem?_getD, List.getElem?_take, if_pos h']
  | .say s, sd, k, h => by
    show ((s.ev f (gs.take n) sd k).1, (s.ev f (gs.take n) sd k).2.1 ++ [(s.ev f (gs.take n) sd k).1], (s.ev f (gs.take n) sd k).2.2) = _
    rw [ev_take s sd k h]
    rfl
  | .bin o a b, sd, k, h => by
    have h' : k + (a.asks + b.asks) ≤ n := h
    have e1 := ev_take (f := f) (gs := gs) a sd k (by omega : k + a.asks ≤ n)
    have e2 := ev_take (f := f) (gs := gs) b (a.ev f gs sd k).2.1 (a.ev f gs sd k).2.2 (show (a.ev f gs sd k).2.2 + b.asks ≤ n by rw [Sm.ev_asked]; omega)
    show (o.app (a.ev f (gs.take n) sd k).1 (b.ev f (gs.take n) (a.ev f (gs.take n) sd k).2.1 (a.ev f (gs.take n) sd k).2.2).1, (b.ev f (gs.take n) (a.ev f (gs.take n) sd k).2.1 (a.ev f (gs.take n) sd k).2.2).2) = _
    rw [e1, e2]
    rfl
theorem ev_due (f : Str → Int) (gs : List Int) (s : Sm) : (s.ev f gs [] 0).2.2 = s.asks := by rw [Sm.ev_asked, Nat.zero_add]
theorem valV_drop {kvs : List (Key × V)} {k : Key} : valV (dropK kvs k) k = none := by
  unfold valV dropK
  rw [Option.map_eq_none_iff, List.find?_eq_none]
  intro x hx
  have := (List.mem_filter.mp hx).2
  simpa using this
/-! ### a lambda is made: all but the tables stays -/
theorem ext_sum {H H' : Hp} (e : LamX.ExtN H H') : ∀ {s : Sm} {v : V}, IsSum H v s → IsSum H' v s
  | .num _, _, ⟨p, a, h⟩ => ⟨p, a, e p _ h fun _ z => by cases z⟩
  | .name _, _, ⟨p, a, h⟩ => ⟨p, a, e p _ h fun _ z => by cases z⟩
  | .ask, _, ⟨p, a, h⟩ => ⟨p, a, e p _ h fun _ z => by cases z⟩
  | .say _, _, ⟨p, x, a, h, i⟩ => ⟨p, x, a, e p _ h (fun _ z => by cases z), ext_sum e i⟩
  | .bin _ _ _, _, ⟨p, x, y, a, h, i, j⟩ => ⟨p, x, y, a, e p _ h (fun _ z => by cases z), ext_sum e i, ext_sum e j⟩
theorem ext_l {H H' : Hp} (e : LamX.ExtN H H') {p : Addr} {xs : List V} (h : H p = some (.lst xs)) : H' p = some (.lst xs) := e p _ h fun _ z => by cases z
theorem ext_d {H H' : Hp} (e : LamX.ExtN H H') {p : Addr} {xs : List (Key × V)} (h : H p = some (.dK xs)) : H' p = some (.dK xs) := e p _ h fun _ z => by cases z
theorem ext_st {K : PySem.W.Frag} {H H' : Hp} (e : LamX.ExtN H H') {Ws : List Addr} {st : Addr} (h : StAt K Ws H st) : StAt K Ws H' st := by
  obtain ⟨a, ns, i, m, r, h1, h2, h3⟩ := h
  refine ⟨a, ns, i, m, r, ext_l e h1, ?_, h3⟩
  rcases h2 with ⟨h, n⟩ | h
  · rcases h with h | ⟨o, h⟩
    · exact .inl ⟨.inl (ext_l e h), n⟩
    · exact .inl ⟨.inr ⟨o, e _ _ h fun _ z => by cases z⟩, n⟩
  · exact .inr h
/-- what is written is none of the tables and none of the code objects -/
theorem tabs_fr {T : List (Addr × Str)} {W : List Addr} {H H' : Hp} (t : LamX.Tabs T H) (f : Fr W H H') (n : ∀ b ∈ W, ∀ o, H b = some o → (∃ xs, o = .lst xs) ∨ ∃ ks, o = .dK ks) : LamX.Tabs T H' := fun p hp => by
  obtain ⟨ps, h1, h2, h3⟩ := t p hp
  have out : ∀ b o, H b = some o → (∀ xs, o ≠ .lst xs) → (∀ ks, o ≠ .dK ks) → b ∉ W := fun b o h z1 z2 m => by
    rcases n b m o h with ⟨xs, e⟩ | ⟨ks, e⟩
    · exact z1 xs e
    · exact z2 ks e
  refine ⟨ps, f.get h1 (out _ _ h1 (fun _ z => by cases z) fun _ z => by cases z), h2, fun pos cv hc => ?_⟩
  obtain ⟨c, e1, e2⟩ := h3 pos cv hc
  exact ⟨c, e1, f.get e2 (out _ _ e2 (fun _ z => by unfold LamX.CodeO at z; cases z) fun _ z => by unfold LamX.CodeO at z; cases z)⟩
/-! ### what was handed in is what it was -/
theorem nkv_mem {f : Str → Int} {l : List Str} {p : Key × V} (h : p ∈ nkv f l) : ∃ c, c ∈ l ∧ p = (Sum.inr c, .int (f c)) := by
  obtain ⟨c, hc, e⟩ := List.mem_map.mp h
  exact ⟨c, hc, e.symm⟩
theorem eqv_names {K : PySem.W.Frag} {H : Hp} {a b : Addr} {f : Str → Int} (ha : H a = some (.dK (nkv f letters))) (hb : H b = some (.dK (nkv f letters))) : EqV K H 2 (.ref a) (.ref b) :=
  .inr (.inr (.inr ⟨a, b, _, _, rfl, rfl, ha, hb, rfl, fun p hp => by
    obtain ⟨c, hc, rfl⟩ := nkv_mem hp
    exact ⟨.int (f c), by rw [valV_nkv, if_pos hc], .inl ⟨rfl, rfl⟩⟩⟩))
theorem paired_self {F : V → V → Prop} : ∀ {xs : List V}, (∀ x ∈ xs, F x x) → Paired F xs xs
  | [], _ => .nil
  | x :: r, h => .cons (h x List.mem_cons_self) (paired_self fun y hy => h y (List.mem_cons_of_mem _ hy))
theorem eqv_given {K : PySem.W.Frag} {H : Hp} {a b : Addr} {gs : List Int} (ha : H a = some (.lst (gs.map V.int))) (hb : H b = some (.lst (gs.map V.int))) : EqV K H 2 (.ref a) (.ref b) :=
  .inr (.inr (.inl ⟨a, b, _, _, rfl, rfl, SqL.of ha, SqL.of hb, paired_self fun x hx => by
    obtain ⟨g, _, rfl⟩ := List.mem_map.mp hx
    exact .inl ⟨rfl, rfl⟩⟩))
theorem cut_few {gs : List Int} {n : Nat} (h : n ≤ gs.length) : cutV (gs.map V.int) none (some (n : Int)) = (gs.take n).map V.int := by
  unfold cutV
  rw [HT.sIx_none, HT.sIx_nat, List.drop_zero, List.length_map, Nat.min_eq_left h, Nat.sub_zero, List.map_take]
theorem cut_rest {gs : List Int} (h : 1 ≤ gs.length) : cutV (gs.map V.int) (some 1) none = (gs.drop 1).map V.int := by
  unfold cutV
  rw [HT.sIx_none, show HT.sIx (gs.map V.int).length 0 (some 1) = min 1 (gs.map V.int).length from HT.sIx_nat _ _ 1, List.length_map, Nat.min_eq_left h, List.map_drop]
  exact List.take_of_length_le (by rw [List.length_drop, List.length_map]; omega)
theorem alike_told {H : Hp} {t1 t2 s1 s2 : Addr} {a c : Int} {ns : List Int} (h1 : H t1 = some (.tup [.int a, .ref s1, .int c])) (h2 : H t2 = some (.tup [.int a, .ref s2, .int c])) (e1 : H s1 = some (.lst (ns.map V.int))) (e2 : H s2 = some (.lst (ns.map V.int))) (hz : ns.length ≤ 1000) : Alike H 3 (.ref t1) (.ref t2) :=
  .tup 2 t1 t2 _ _ h1 h2 rfl (by simp only [List.length_cons, List.length_nil]; decide) fun i x y hx hy => by
    match i with
    | 0 => cases hx; cases hy; exact .int 2 a
    | 1 => cases hx; cases hy; exact alike_ints e1 e2 hz
    | 2 => cases hx; cases hy; exact .int 2 c
    | i + 3 => cases hx
theorem StAt.dict {K : PySem.W.Frag} {Ws : List Addr} {H : Hp} {st q : Addr} {kvs : List (Key × V)} (h : StAt K Ws H st) (hq : H q = some (.dK kvs)) : StAt K (q :: Ws) H st := by
  obtain ⟨a, ns, i, m, r, h1, h2, h3⟩ := h
  refine ⟨a, ns, i, m, r, h1, ?_, h3⟩
  rcases h2 with ⟨h, n2⟩ | h
  · refine .inl ⟨h, ?_⟩
    have nq : a ≠ q := fun e => by
      subst e
      rcases h with h | ⟨o, h⟩
      · rw [h] at hq; cases hq
      · rw [h] at hq; cases hq
    simp only [List.mem_cons, not_or] at n2 ⊢
    exact ⟨n2.1, nq, n2.2⟩
  · exact .inr h
theorem dp_strs {K : PySem.W.Frag} {H : Hp} : ∀ ys : List Str, DpAll K H (ys.map V.str) (ys.map PyData.str)
  | [] => .nil
  | y :: r => .cons (.str y) (dp_strs r)
theorem lay_strs : ∀ {ys : List Str}, (∀ y ∈ ys, PyData.canLay0 (.str y) = true) → PyData.canLayAll0 (ys.map PyData.str) = true
  | [], _ => rfl
  | y :: r, h => by
    show (PyData.canLay0 (.str y) && PyData.canLayAll0 (r.map PyData.str)) = true
    rw [h y List.mem_cons_self, lay_strs fun z hz => h z (List.mem_cons_of_mem _ hz)]
    rfl
theorem shaped_strs {ys : List Str} (h : ∀ y ∈ ys, PyData.canLay0 (.str y) = true) (hd : PyData.depthAll (ys.map PyData.str) ≤ 3) : SeqAt.shaped (.list (ys.map PyData.str)) = true := by
  unfold SeqAt.shaped
  rw [show PyData.canLay0 (.list (ys.map PyData.str)) = PyData.canLayAll0 (ys.map PyData.str) from rfl, lay_strs h, Bool.true_and, decide_eq_true_eq]
  show PyData.depthAll (ys.map PyData.str) + 1 ≤ 64
  omega
theorem depth_strs : ∀ ys : List Str, PyData.depthAll (ys.map PyData.str) ≤ 3
  | [] => by simp [PyData.depthAll]
  | y :: r => by
    have := depth_strs r
    simp only [List.map_cons, PyData.depthAll, PyData.depth]
    omega
theorem lay_letters : ∀ c ∈ letters, PyData.canLay0 (.str c) = true := by decide +kernel
end My
namespace My
open PySem L2 Wk
local macro_rules | `(tactic| walk_at "hs") => `(tactic| first
  | assumption
  | (apply fr_st0; (case f => assumption); (case h => walk_at "hs"))
  | (apply fr_st1; (case f => assumption); (case n => walk_at "ne"); (case hw => first | assumption | exact List.mem_cons_self); (case h => walk_at "hs"))
  | fail "none")
local macro_rules | `(tactic| walk_at "nn") => `(tactic| first
  | (apply nn_st; (case n => assumption); (case h => walk_at "hs"))
  | (apply nn_l; (case n => assumption); (case h => walk_at "hp"))
  | (apply nn_d; (case n => assumption); (case h => walk_at "hp"))
  | (apply nn_i; (case n => assumption); (case h => walk_at "hp"))
  | fail "none")
local macro_rules | `(tactic| walk_at "su") => `(tactic| first
  | assumption
  | (apply fr_su; (case f => assumption); (case h => walk_at "su"))
  | fail "none")
local macro_rules | `(tactic| walk_at "as") => `(tactic| first
  | assumption
  | (apply fr_as; (case f => assumption); (case h => walk_at "as"))
  | fail "none")
local macro_rules | `(tactic| walk_at "ef") => `(tactic| first
  | assumption
  | (apply fr_ef0; (case f => assumption); (case h => walk_at "ef"))
  | (apply fr_ef; (case f => assumption); (case n1 => walk_at "ni"); (case n2 => walk_at "ni"); (case n3 => walk_at "ni"); (case h => walk_at "ef"))
  | fail "none")
local macro_rules | `(tactic| walk_at "td") => `(tactic| first
  | assumption
  | (apply fr_td0; (case f => assumption); (case h => walk_at "td"))
  | (apply fr_td; (case f => assumption); (case n1 => walk_at "ni"); (case n2 => walk_at "ni"); (case n3 => walk_at "ni"); (case h => walk_at "td"))
  | fail "none")
local macro_rules | `(tactic| walk_at "sk") => `(tactic| first
  | assumption
  | (apply fr_stk; (case f => assumption); (case a => walk_at "sk"))
  | fail "none")
local macro_rules | `(tactic| walk_at "al") => `(tactic| first
  | assumption
  | (apply fr_al; (case f => assumption); (case h => walk_at "al"))
  | fail "none")
local macro_rules | `(tactic| walk_at "nv") => `(tactic| first
  | assumption
  | (apply fr_nv; (case a => assumption); (case n => walk_at "ni"); (case h => walk_at "nv"))
  | fail "none")
local macro_rules | `(tactic| walk_at "ne") => `(tactic| first
  | assumption
  | (apply Ne.symm; assumption)
  | walk_at "nn"
  | (apply Ne.symm; walk_at "nn")
  | fail "none")
local macro_rules | `(tactic| walk_at "ni") => `(tactic| first
  | exact List.not_mem_nil
  | (apply ni1; walk_at "ne")
  | (apply ni2 <;> walk_at "ne")
  | (apply ni3 <;> walk_at "ne")
  | fail "none")
local macro_rules | `(tactic| walk_at "hp") => `(tactic| first
  | assumption
  | (apply Fr.gett; (case a => assumption); (case h => walk_at "hp"))
  | (apply Fr.getl; (case a => assumption); (case n => walk_at "ni"); (case h => walk_at "hp"))
  | (apply Fr.getd; (case a => assumption); (case n => walk_at "ni"); (case h => walk_at "hp"))
  | (apply Fr.geti; (case a => assumption); (case n => walk_at "ni"); (case h => walk_at "hp"))
  | fail "none")
local macro_rules | `(tactic| walk_at "sqs") => `(tactic| first
  | assumption
  | (apply Fr.sqln; (case a => assumption); (case n => walk_at "ni"); (case h => walk_at "sqs"))
  | fail "none")
local macro_rules | `(tactic| walk_at "sq") => `(tactic| first
  | assumption
  | (apply SqL.of; walk_at "hp")
  | (apply SqT.of; walk_at "hp")
  | walk_at "sqs"
  | fail "none")
local macro_rules | `(tactic| walk_at "fr") => `(tactic| first
  | exact Fr.refl
  | assumption
  | (apply Fr.mono; (case a => assumption); (case h => simp))
  | (apply fr_last; (case f => assumption); (case w => simp); (case g => walk_at "fr"))
  | fail "none")
local macro_rules | `(tactic| walk_at "st") => `(tactic| ((try dsimp only [cxOf, Cx.nox, Cx.wish]); (try simp only [L2.start, List.map_cons, List.map_nil, List.length_cons, List.length_nil, List.replicate, List.cons_append, List.nil_append, Nat.reduceAdd, Nat.reduceSub])))
local macro_rules | `(tactic| walk_at "lset") => `(tactic| (simp only [wipe, List.map_cons, List.map_nil, Int.reduceToNat, List.set_cons_zero, List.set_cons_succ] <;> rfl))
local macro_rules | `(tactic| walk_at "wk1") => `(tactic| first
  | with_reducible refine' w_seq ?_
  | with_reducible refine' w_asg ?_
  | ((with_reducible refine' w_name ?hs ?_); (case hs => walk_at "lset"))
  | ((with_reducible refine' w_var ?hv ?_); (case hv => rfl))
  | with_reducible refine' w_c ?_
  | with_reducible refine' w_op ?_
  | with_reducible refine' w_un ?_
  | with_reducible refine' w_test ?_
  | with_reducible refine' w_tB ?_
  | with_reducible refine' w_exbl ?_
  | with_reducible refine' w_exint ?_
  | with_reducible refine' w_t ?_
  | with_reducible refine' w_f ?_
  | with_reducible refine' w_ifS ?_
  | with_reducible refine' w_if ?_
  | with_reducible refine' w_and ?_
  | with_reducible refine' w_or ?_
  | with_reducible refine' w_not ?_
  | with_reducible refine' w_andV ?_
  | with_reducible refine' w_orV ?_
  | with_reducible refine' w_notV ?_
  | with_reducible refine' w_ret ?_
  | with_reducible refine' w_retN ?_
  | with_reducible refine' w_drop ?_
  | with_reducible refine' w_next ?_
  | with_reducible refine' w_nil ?_
  | with_reducible refine' w_cons ?_
  | with_reducible refine' w_cb ?_
  | with_reducible refine' w_call ?_
  | with_reducible refine' w_gsub ?_
  | with_reducible refine' w_gnil ?_
  | with_reducible refine' w_gcons ?_
  | ((with_reducible refine' w_gtup ?hs ?hn ?_); (case hs => walk_at "sq"); (case hn => rfl))
  | with_reducible refine' w_fld ?_
  | with_reducible refine' w_tfld ?_
  | with_reducible refine' w_sl ?_
  | with_reducible refine' w_nopart ?_
  | with_reducible refine' w_part ?_
  | with_reducible refine' w_bm ?_
  | with_reducible refine' w_bm0 ?_
  | with_reducible refine' w_yes ?_
  | with_reducible refine' w_tup ?_
  | with_reducible refine' w_lst ?_
  | with_reducible refine' w_I0 ?_
  | ((with_reducible refine' w_I ?hc ?_); (case hc => (first | (show (0 : Int) < _; first | decide | omega | assumption) | exact wide_div (by first | assumption | decide) (b := 200) (by first | assumption | decide) (by decide) (by decide) | exact wide_mul (a := 64) (b := 64) (by omega) (by omega) (by decide) (by decide) (by decide) | exact ⟨by decide, by decide, by decide⟩)))
  | ((with_reducible refine' w_eq ?he ?_); (case he => rfl))
  | ((with_reducible refine' w_ne ?he ?_); (case he => rfl))
  | ((with_reducible refine' w_ixL ?hs ?ha ?_); (case hs => walk_at "sq"); (case ha => rfl))
  | ((with_reducible refine' w_ixT ?hs ?ha ?_); (case hs => walk_at "sq"); (case ha => rfl))
  | ((with_reducible refine' w_lenL ?hs ?he ?_); (case hs => walk_at "sq"); (case he => first | (simp only [List.length_cons, List.length_nil, List.length_map]; rfl) | rfl))
  | ((with_reducible refine' w_lenT ?hs ?he ?_); (case hs => walk_at "sq"); (case he => first | (simp only [List.length_cons, List.length_nil, List.length_map]; rfl) | rfl))
  | ((with_reducible refine' w_setL ?hh ?hk ?he (fun H1 f1 g1 => ?_)); (case hh => walk_at "hp"); (case hk => rfl); (case he => walk_at "lset"))
  | ((with_reducible refine' w_newT ?hl (fun p H1 n1 f1 g1 => ?_)); (case hl => (first | decide | (simp only [List.length_cons, List.length_nil]; decide))))
  | ((with_reducible refine' w_newL ?hl (fun p H1 n1 f1 g1 => ?_)); (case hl => (first | decide | (simp only [List.length_cons, List.length_nil]; decide))))
  | with_reducible refine' w_for ?_
  | with_reducible refine' w_ilist ?_
  | ((with_reducible refine' w_ilb ?hs ?_); (case hs => walk_at "sq"))
  | with_reducible refine' w_itup ?_
  | ((with_reducible refine' w_itb ?hs ?_); (case hs => walk_at "sq"))
  | with_reducible refine' w_rng1 ?_
  | ((with_reducible refine' w_rgb1 ?h0 ?h1 ?_); (case h0 => first | decide | omega); (case h1 => first | decide | omega))
  | with_reducible refine' w_lc ?_
  | ((with_reducible refine' w_wipe ?hw ?_); (case hw => rfl))
  | ((with_reducible refine' w_cat ?ha ?hb ?hl (fun p H1 n1 f1 g1 => ?_)); (case ha => walk_at "hp"); (case hb => walk_at "hp"); (case hl => (first | decide | (simp only [List.length_cons, List.length_nil]; decide))))
  | with_reducible refine' w_dget ?_
  | with_reducible refine' w_din ?_
  | with_reducible refine' w_dnotin ?_
  | with_reducible refine' w_dput ?_
  | with_reducible refine' w_dnew ?_
  | with_reducible refine' w_newD (fun p H1 n1 f1 g1 => ?_)
  | ((with_reducible refine' w_slT ?hs ?hn ?he (fun p H1 n1 f1 g1 => ?_)); (case hs => walk_at "sq"); (case hn => decide); (case he => rfl))
  | with_reducible refine' w_meth ?_
  | with_reducible refine' w_make ?_
  | with_reducible refine' w_mkb (fun x dx H1 n1 m1 d1 f1 g1 => ?_)
  | with_reducible refine' w_fldaug ?_
  | with_reducible refine' w_tru ?_
  | ((with_reducible refine' w_trl ?hh ?_); (case hh => walk_at "hp"))
  | with_reducible refine' w_whb ?_
  | with_reducible refine' w_chain ?_
  | with_reducible refine' w_tyIs ?_
  | with_reducible refine' w_raise ?_
  | with_reducible refine' w_rab ?_
  | with_reducible refine' w_jn ?_
  | with_reducible refine' w_js ?_
  | with_reducible refine' w_jsn ?_
  | with_reducible refine' w_fmt ?_
  | with_reducible refine' w_isN ?_
  | with_reducible refine' w_intB ?_
  | with_reducible refine' w_istr ?_
  | with_reducible refine' w_stb ?_
  | ((with_reducible refine' w_inT ?hs ?hx ?ha ?_); (case hs => walk_at "sq"); (case hx => rfl); (case ha => rfl))
  | ((with_reducible refine' w_isf ?hd ?_); (case hd => decide +kernel))
  | ((with_reducible refine' w_ist ?hd ?_); (case hd => decide +kernel))
  | fail "none")
local macro_rules | `(tactic| walk_at "wk") => `(tactic| repeat walk_at "wk1")

section
variable {X : Cx}
def rDictC : List V → Hp → VK → Prop := fun xs H Q => ∃ (a : Addr) (kvs : List (Key × V)), xs = [.ref a] ∧ Rd H a (.dK kvs) ∧ ∀ p, H p = none → Q (.ref p) (upd H p (.dK kvs))
theorem call_dictC : CallR X (.type "dict") rDictC := call_dictD
def rListC (K : PySem.W.Frag) : List V → Hp → VK → Prop := fun xs H Q => ∃ p ys, xs = [.ref p] ∧ (SqL K H p ys ∨ SqT K H p ys) ∧ ∀ l, H l = none → Q (.ref l) (upd H l (.lst ys))
theorem call_listC {K : PySem.W.Frag} (h : X.K = K) : CallR X (.type "list") (rListC K) := h ▸ call_list_of
end
theorem w_dictC {H : Hp} {Q : VK} {p : Addr} {kvs : List (Key × V)} (h : H p = some (.dK kvs)) (q : ∀ q H1, H q = none → Fr [] H H1 → H1 q = some (.dK kvs) → Q (.ref q) H1) : rDictC [.ref p] H Q := ⟨p, kvs, rfl, .inl h, fun d n => q d _ n (.new n) upd_same⟩
def PopB (a : Addr) (y : V) (H : Hp) (Q : VK) : Prop := ∃ kvs k v, H a = some (.dK kvs) ∧ y = kV k ∧ valV kvs k = some v ∧ Q v (upd H a (.dK (dropK kvs k)))
theorem w_dpop {td ty : TE} {σ : St} {H : Hp} {Q : VK} (h : td σ H fun x H1 => ∃ a, x = .ref a ∧ IsD H1 a ∧ ty σ H1 fun y H2 => PopB a y H2 Q) : tDPop1 td ty σ H Q := h
theorem w_popb {a : Addr} {kvs : List (Key × V)} {y : Str} {v : V} {H : Hp} {Q : VK} (h : H a = some (.dK kvs)) (e : valV kvs (Sum.inr y) = some v) (q : ∀ H1, Fr [a] H H1 → H1 a = some (.dK (dropK kvs (Sum.inr y))) → Q v H1) : PopB a (.str y) H Q :=
  ⟨kvs, Sum.inr y, v, h, rfl, e, q _ (Fr.set h (by intro z e; cases e)) upd_same⟩
theorem w_guard {b : Bool} {o : TE} {σ : St} {R : Bool → Hp → Prop} {H : Hp} (F : Hp → Prop) (h0 : F H) (tail : ∀ Hz, F Hz → R false Hz) (h1 : b = true → (∀ Hz, F Hz → R false Hz) → tTest o σ H R) : if b = true then tTest o σ H R else R false H := by
  cases b with
  | false => rw [if_neg Bool.false_ne_true]; exact tail H h0
  | true => rw [if_pos rfl]; exact h1 rfl tail
theorem w_lam {K : PySem.W.Frag} {T : List (Addr × Str)} {a : Ad} {t : XK → TE} {σ : St} {H : Hp} {Q : VK} (h : LamX.Tabs T H) (q : ∀ H1, LamX.ExtN H H1 → LamX.Tabs T H1 →
    t (fun cls d H' => d = none ∧ ∃ D i, cls = .ref D ∧ KindT K a D i ∧ (i = 2 ∨ i = 3) ∧ ∀ H'', Fr [] H' H'' → Q (.str (if i = 2 then "NoName" else "NoMore")) H'') σ H1 Q) : LamX.tLam T (TTk K a) t σ H Q := ⟨h, q⟩
theorem w_setKs {K : PySem.W.Frag} {P : Program} {w : World} {H : Hp} {Q : VK} {D : Addr} {cs : List Str} (h : H D = some (.lst (cs.map V.str))) (hz : cs.length ≤ 1000)
    (q : ∀ p c H1, c ≤ cs.length → H p = none → Fr [] H H1 → H1 p = some (Sx.SetYO P w p (Sx.inK (cs.map Sum.inr)) c) → Q (.ref p) H1) : Sx.rSetKs K P w [.ref D] H Q := by
  refine ⟨D, cs.map Sum.inr, rfl, SqL.of ?_, by rw [List.length_map]; unfold scanBound; omega, fun p c hc n => ?_⟩
  · rw [List.map_map]
    exact h
  · rw [List.length_map] at hc
    exact q p c _ hc n (.new n) upd_same
theorem w_sortTx {P : Program} {w : World} {H : Hp} {Q : VK} {p : Addr} {cs : List Str} {c : Nat} (h : H p = some (Sx.SetYO P w p (Sx.inK (cs.map Sum.inr)) c)) (hc : c < 64)
    (q : ∀ (ys : List Str) yl H1, (∀ x, x ∈ ys ↔ x ∈ cs) → ys.length = c → H yl = none → Fr [] H H1 → H1 yl = some (.lst (ys.map V.str)) → Q (.ref yl) H1) : Sx.rSortTx P w [.ref p] H Q := by
  have mem : ∀ x, Sx.inK (cs.map Sum.inr) (Sum.inr x) = true ↔ x ∈ cs := fun x => by
    rw [Sx.inK_iff, List.mem_map]
    exact ⟨fun ⟨y, hy, e⟩ => Sum.inr.inj e ▸ hy, fun h => ⟨x, h, rfl⟩⟩
  refine ⟨p, _, c, rfl, h, hc, fun k hk => ?_, fun ys yl _ _ hm hl n => q ys yl _ (fun x => (hm x).trans (mem x)) hl n (.new n) upd_same⟩
  obtain ⟨x, _, e⟩ := List.mem_map.mp (Sx.inK_iff.mp hk)
  exact ⟨x, e.symm⟩
theorem w_listC {K : PySem.W.Frag} {H : Hp} {Q : VK} {p : Addr} {xs : List V} (h : SqL K H p xs) (q : ∀ q H1, H q = none → Fr [] H H1 → H1 q = some (.lst xs) → Q (.ref q) H1) : rListC K [.ref p] H Q := ⟨p, xs, rfl, .inl h, fun d n => q d _ n (.new n) upd_same⟩
section
variable {P : Program} {w : World} {K : PySem.W.Frag} {mg : Str → Option Value} {base : Heap}
def TB0 (PT : Addr) : List (Addr × Str) := [(PT, (("law" : Str) ++ ".<locals>.") ++ "<lambda>")]
def spLaw (K : PySem.W.Frag) (PT : Addr) : Sp := fun vs H Q _ => ∃ (sc : Addr) (ns : List Int), vs = [.ref sc] ∧ SqL K H sc (ns.map V.int) ∧ LamX.Tabs (TB0 PT) H ∧ ∀ H', Q (.bl true) H'
theorem sc_law : FnScope ["_law_script", "_law_state", "_law_turn", "_law_part", "_law_names_here", "_law_given_here", "_law_due", "_law_handed", "_law_again", "_law_found", "_law_letters", "_law_few", "_law_one"] ["_law_script"] (defScope s_law) := ⟨rfl, rfl, rfl, by decide +kernel, rfl, by decide +kernel, by decide +kernel⟩
theorem ok_law {fl fk cl PT : Addr} {a : Ad} {oc : Value} {od an : Option Addr} {osl : Array (Option Value)} {kV doc pm ct : Value} {oc2 : Value} {od2 an2 : Option Addr} {osl2 : Array (Option Value)} {kV2 doc2 pm2 cd2 ct2 : Value}
    (ll : K.lookup fl = some ⟨oc, od, .func (PySem.W.fnOf "law" "law" (defArgs s_law) (defBody s_law) (defScope s_law) .none kV doc pm an (.ref cl) ct), osl⟩) (lc : PySem.W.codeIn K (.ref cl) "law" = true)
    (lk : K.lookup fk = some ⟨oc2, od2, .func (PySem.W.fnOf "_law_kind" "_law_kind" (defArgs s_law_kind) (defBody s_law_kind) (defScope s_law_kind) .none kV2 doc2 pm2 an2 cd2 ct2), osl2⟩) (ck : PySem.W.codeIn K cd2 "_law_kind" = true)
    (bk : L2.Binds K (PySem.W.fnOf "_law_kind" "_law_kind" (defArgs s_law_kind) (defBody s_law_kind) (defScope s_law_kind) .none kV2 doc2 pm2 an2 cd2 ct2) ["_law_work"] []) (kk : PySem.W.keepIn K (.ref fk) = true) (mk : mg "_law_kind" = some (.ref fk))
    (Z : Blt mg) (T : KMg mg a) (KN : KindT K a a.noName 2) (KM : KindT K a a.noMore 3) (TB : LamX.TabB base mg cl PT)
    (D_law_start : Df P w K mg base CX0 1 "_law_start" ["_law_script"] (spStart K)) (D_law_drawn : Df P w K mg base CX0 1 "_law_drawn" ["_law_state", "_law_many"] (spDrawn K))
    (D_law_any : Df P w K mg base CX0 18 "_law_any" ["_law_state"] (spAny K)) (D_law_names : Df P w K mg base CX0 2 "_law_names" ["_law_state"] (spNames K)) (D_law_given : Df P w K mg base CX0 2 "_law_given" ["_law_state"] (spGiven K))
    (D_law_told : Df P w K mg base CX0 17 "_law_told" ["_law_part", "_law_names_here", "_law_given_here"] spTold) (D_law_same : Df P w K mg base CX0 4 "_law_same" ["_law_found", "_law_due"] (spSame 3))
    (D_law_all : Df P w K mg base CX0 17 "_law_all" ["_law_part"] (spAll 16)) (D_worth : Df P w K mg base (L2.CX P w) 19 "worth" ["part", "names", "given"] (spWorthP a.noName a.noMore)) :
    FnOk P w K mg base CX0 23 fl (PySem.W.fnOf "law" "law" (defArgs s_law) (defBody s_law) (defScope s_law) .none kV doc pm an (.ref cl) ct) ["_law_script"] (spLaw K PT) := by
  refine fn_of ll lc sc_law (fun vs H Q E h => ?_) (fun A outer s H vs Q E hr h => ?_)
  · obtain ⟨sc, ns, rfl, _⟩ := h
    rfl
  obtain ⟨sc, ns, rfl, hsc, htb, k⟩ := h
  have key : ∃ t, PSs (cxOf CX0 P w K mg base ["_law_script", "_law_state", "_law_turn", "_law_part", "_law_names_here", "_law_given_here", "_law_due", "_law_handed", "_law_again", "_law_found", "_law_letters", "_law_few", "_law_one"] "law" (defScope s_law) fl (.ref cl) A outer s H E).nox (defBody s_law) t ∧ t { nx := fun _ H' => Q .non H', rt := Q } (L2.start ["_law_script", "_law_state", "_law_turn", "_law_part", "_law_names_here", "_law_given_here", "_law_due", "_law_handed", "_law_again", "_law_found", "_law_letters", "_law_few", "_law_one"] [.ref sc]) H := by
    refine ⟨_, (pss_cons (ps_set (i := 1) sc_law.nd rfl (Or.inl rfl) (pe_df D_law_start hr (by first | decide | omega) (pa_cons (pv 0) pa_nil)))
  (pss_cons (ps_for PassesOwn.never rfl (pi_range1 rfl Z.range (pa_cons pe_int pa_nil)) (pg_name (i := 2) sc_law.nd rfl (Or.inl rfl)) (pss_cons (ps_set (i := 3) sc_law.nd rfl (Or.inr rfl) (pe_df D_law_any hr (by first | decide | omega) (pa_cons (pv 1) pa_nil)))
  (pss_cons (ps_asg (pe_tup (pa_cons (pe_df D_law_names hr (by first | decide | omega) (pa_cons (pv 1) pa_nil)) (pa_cons (pe_df D_law_given hr (by first | decide | omega) (pa_cons (pv 1) pa_nil)) pa_nil))) (pg_tup rfl (pgs_cons (pg_name (i := 4) sc_law.nd rfl (Or.inr rfl)) (pgs_cons (pg_name (i := 5) sc_law.nd rfl (Or.inl rfl)) pgs_nil))))
  (pss_cons (ps_set (i := 6) sc_law.nd rfl (Or.inl rfl) (pe_df D_law_told hr (by first | decide | omega) (pa_cons (pv 3) (pa_cons (pv 4) (pa_cons (pv 5) pa_nil)))))
  (pss_cons (ps_set (i := 7) sc_law.nd rfl (Or.inl rfl) (pe_tup (pa_cons (pe_callTy (r := rDictC) call_dictC (by rfl) Z.dict (by decide +kernel) (pa_cons (pv 4) pa_nil)) (pa_cons (pe_callTy (r := rListC K) (call_listC (by rfl)) (by rfl) Z.list (by decide +kernel) (pa_cons (pv 5) pa_nil)) pa_nil))))
  (pss_cons (ps_for PassesOwn.never rfl (pi_range1 rfl Z.range (pa_cons pe_int pa_nil)) (pg_name (i := 8) sc_law.nd rfl (Or.inl rfl)) (pss_cons (ps_set (i := 9) sc_law.nd rfl (Or.inl rfl) (pe_dfx D_worth hr (by first | decide | omega) LamX.takes0 (pa_cons (pv 3) (pa_cons (pe_ix (r := rIxT K) ix_tup (pv 7) pe_int (fun _ _ => rfl)) (pa_cons (pe_ix (r := rIxT K) ix_tup (pv 7) pe_int (fun _ _ => rfl)) pa_nil)))))
  (pss_cons (ps_if (PW.pt (pw_or (pt_not (pt_val (pe_df D_law_same hr (by first | decide | omega) (pa_cons (pv 9) (pa_cons (pv 6) pa_nil))) (fun _ => rfl))) (pw_or1 (pt_cmpR (r := rNeP K) (op_neP hr.units) (pv 7) (pe_tup (pa_cons (pv 4) (pa_cons (pv 5) pa_nil))) (nomark _))))) (pss_one (ps_ret pe_bl)) pss_nil)
  (pss_one (ps_expr (pe_bm PySem.F.plainAttrs_list PySem.F.slot_list_append PySem.F.type_list_append mt_append (pe_ix (r := rIxT K) ix_tup (pv 9) pe_int (fun _ _ => rfl)) (pa_cons pe_int pa_nil)))))))
  (pss_cons (ps_set (i := 10) sc_law.nd rfl (Or.inl rfl) (pe_callB (r := Sx.rSortTx P w) (Sx.cr_sortTx rfl) (by rfl) Z.sorted (by decide +kernel) (pa_cons (pe_callTy (r := Sx.rSetKs K P w) (Sx.cr_setKs rfl) (by rfl) Z.set (by decide +kernel) (pa_cons (pe_lc (own := [("_law_one", 12)]) (g := gName 12) (by rfl) sc_law.nd (pi_list (pe_df D_law_all hr (by first | decide | omega) (pa_cons (pv 3) pa_nil))) (blkOk_by (own := [("_law_one", 12)]) (N := ["_law_script", "_law_state", "_law_turn", "_law_part", "_law_names_here", "_law_given_here", "_law_due", "_law_handed", "_law_again", "_law_found", "_law_letters", "_law_few", "_law_one"]) (sc := defScope s_law) (by decide +kernel)) (fun _ _ _ _ _ => pg_name (i := 12) sc_law.nd rfl (Or.inl rfl)) (fun _ _ _ _ _ => (pts_one (pt_cmpR op_eq (pe_ix (r := rIxT K) ix_tup (pv 12) pe_int (fun _ _ => rfl)) pe_str (nomark _)))) (fun _ _ _ _ _ => (pe_ix (r := rIxT K) ix_tup (pv 12) pe_int (fun _ _ => rfl)))) pa_nil)) pa_nil)))
  (pss_cons (ps_set (i := 11) sc_law.nd rfl (Or.inr rfl) (pe_slice (r := rSlL K) sl_list (pv 5) po_none (po_some (pe_ix (r := rIxT K) ix_tup (pv 6) pe_int (fun _ _ => rfl)))))
  (pss_cons (ps_if (pt_not (pt_val (pe_df D_law_same hr (by first | decide | omega) (pa_cons (pe_dfx D_worth hr (by first | decide | omega) LamX.takes0 (pa_cons (pv 3) (pa_cons (pv 4) (pa_cons (pv 11) pa_nil)))) (pa_cons (pv 6) pa_nil))) (fun _ => rfl))) (pss_one (ps_ret pe_bl)) pss_nil)
  (pss_cons (ps_if (PW.pt (pw_and (pt_cmpR op_gt (pe_ix (r := rIxT K) ix_tup (pv 6) pe_int (fun _ _ => rfl)) pe_int (nomark _)) (pw_and1 (pt_cmpR op_ne (LamX.pe_lamcall (T := TB0 PT) (TT := TTk K a) (x := "_law_kind") (a := "_law_work") (g := fk) (c := cl) (P := PT) (k := 19) (Ng := ["_law_work", "e", "_law_kinds", "_law_words", "_law_word"]) rfl mk kk lk ck bk sc_law_kind rfl (Or.inl rfl) (kind_gives Z T) TB rfl (List.mem_singleton.mpr rfl) (fun p hp _ => by rw [List.mem_singleton.mp hp]; rfl) (hr.mono (by first | decide | omega)) (LamX.lamS_by (show LamX.lamSB (defScope s_law) _ = true by decide +kernel)) rfl (fun _ _ _ _ _ => rfl) (fun A outer s H E f c' hr2 => (pe_dfx D_worth hr2 (by first | decide | omega) (takes_of rfl rfl rfl rfl) (pa_cons (pv 3) (pa_cons (pv 4) (pa_cons (pe_slice (r := rSlL K) sl_list (pv 11) (po_some pe_int) po_none) pa_nil)))))) pe_str (nomark _))))) (pss_one (ps_ret pe_bl)) pss_nil)
  (pss_one (ps_if (pt_cmpR (r := rNeD K) (op_neD hr.units) (pv 10) (pe_lst pa_nil) (nomark _)) (pss_cons (ps_expr (pe_dpop1 (pv 4) (pe_ix (r := rIxL K) ix_list (pv 10) (pe_df D_law_drawn hr (by first | decide | omega) (pa_cons (pv 1) (pa_cons (pe_callB (id := "len") (r := rLenW K) call_lenN (by rfl) Z.len PySem.boot_len (pa_cons (pv 10) pa_nil)) pa_nil))) (fun _ _ => rfl)) ⟨rfl, rfl, rfl, rfl⟩))
  (pss_one (ps_if (pt_cmpR op_ne (LamX.pe_lamcall (T := TB0 PT) (TT := TTk K a) (x := "_law_kind") (a := "_law_work") (g := fk) (c := cl) (P := PT) (k := 19) (Ng := ["_law_work", "e", "_law_kinds", "_law_words", "_law_word"]) rfl mk kk lk ck bk sc_law_kind rfl (Or.inl rfl) (kind_gives Z T) TB rfl (List.mem_singleton.mpr rfl) (fun p hp _ => by rw [List.mem_singleton.mp hp]; rfl) (hr.mono (by first | decide | omega)) (LamX.lamS_by (show LamX.lamSB (defScope s_law) _ = true by decide +kernel)) rfl (fun _ _ _ _ _ => rfl) (fun A outer s H E f c' hr2 => (pe_dfx D_worth hr2 (by first | decide | omega) (takes_of rfl rfl rfl rfl) (pa_cons (pv 3) (pa_cons (pv 4) (pa_cons (pe_lst pa_nil) pa_nil)))))) pe_str (nomark _)) (pss_one (ps_ret pe_bl)) pss_nil))) pss_nil))))))))))))
  (pss_one (ps_ret pe_bl)))), ?_⟩
    walk_at "st"
    walk_at "wk"
    refine ⟨sc, ns, rfl, hsc, fun st H1 n1 s1 f1 => ?_⟩
    walk_at "wk"
    refine forR (fun i σ H' => ∃ o2 o3 o4 o5 o6 o7 o8 o9 o10 o11 o12, σ = [some (.ref sc), some (.ref st), o2, o3, o4, o5, o6, o7, o8, o9, o10, o11, o12] ∧ StAt K [] H' st ∧ LamX.Tabs (TB0 PT) H') ⟨_, _, _, _, _, _, _, _, _, _, _, rfl, s1, tabs_fr htb f1 (by simp)⟩ ?_ ?_
    · rintro i σ H0 hi ⟨o2, o3, o4, o5, o6, o7, o8, o9, o10, o11, o12, rfl, s0, tb0⟩
      walk_at "wk"
      refine u_any s0 (fun v s H2 q1 q2 q3 q4 s2 f2 => ?_)
      have tb2 : LamX.Tabs (TB0 PT) H2 := tabs_fr tb0 f2 (fun b hb o ho => by rw [List.mem_singleton.mp hb] at ho; obtain ⟨_, _, _, _, _, hs, _⟩ := s0; rw [hs] at ho; cases ho; exact .inl ⟨_, rfl⟩)
      walk_at "wk"
      refine u_names s2 (fun nd f H3 n3 hn s3 f3 => ?_)
      have tb3 : LamX.Tabs (TB0 PT) H3 := tabs_fr tb2 f3 (fun b hb o ho => by rw [List.mem_singleton.mp hb] at ho; obtain ⟨_, _, _, _, _, hs, _⟩ := s2; rw [hs] at ho; cases ho; exact .inl ⟨_, rfl⟩)
      walk_at "wk"
      refine u_given s3 (fun gv gs H4 n4 hg s4 f4 => ?_)
      have tb4 : LamX.Tabs (TB0 PT) H4 := tabs_fr tb3 f4 (fun b hb o ho => by rw [List.mem_singleton.mp hb] at ho; obtain ⟨_, _, _, _, _, hs, _⟩ := s3; rw [hs] at ho; cases ho; exact .inl ⟨_, rfl⟩)
      walk_at "wk"
      rename_i p5 H5 n5 f5 g5
      obtain ⟨hg1, hg2, hg3, hg4⟩ := hg
      have hnv : NamesV H5 nd f := by
        have := hn.v
        walk_at "nv"
      have sum5 : IsSum H5 v s := by walk_at "su"
      have gv5 : H5 gv = some (.lst (gs.map V.int)) := f5.get0 hg1
      have good : Good f gs := ⟨hn.2, hg4⟩
      have hle := s.asks_le
      refine u_told sum5 q2 q3 q4 good hnv gv5 (by omega) (fun du sl H6 n6 n6' g6 h6 f6 => ?_)
      walk_at "wk"
      have nd6 : H6 nd = some (.dK (nkv f letters)) := by
        have := hn.1
        walk_at "hp"
      have gv6 : H6 gv = some (.lst (gs.map V.int)) := f6.get0 gv5
      refine w_dictC nd6 (fun d2 H7 n7 f7 g7 => ?_)
      walk_at "wk"
      refine w_listC (SqL.of (f7.get0 gv6)) (fun l2 H8 n8 f8 g8 => ?_)
      walk_at "wk"
      rename_i hd H9 n9 f9 g9
      have d9 : H9 d2 = some (.dK (nkv f letters)) := f9.get0 (f8.get0 g7)
      have l9 : H9 l2 = some (.lst (gs.map V.int)) := f9.get0 g8
      have nd9 : H9 nd = some (.dK (nkv f letters)) := f9.get0 (f8.get0 (f7.get0 nd6))
      have gv9 : H9 gv = some (.lst (gs.map V.int)) := f9.get0 (f8.get0 (f7.get0 gv6))
      have du9 : H9 du = some (.tup [.int (s.ev f gs [] 0).1, .ref sl, .int (s.ev f gs [] 0).2.2]) := by walk_at "hp"
      have sl9 : H9 sl = some (.lst ((s.ev f gs [] 0).2.1.map V.int)) := by walk_at "hp"
      have sum9 : IsSum H9 v s := by walk_at "su"
      have s9 : StAt K [] H9 st := by walk_at "hs"
      have tb9 : LamX.Tabs (TB0 PT) H9 := by
        have : Fr [] H4 H9 := by walk_at "fr"
        exact tabs_fr tb4 this (by simp)
      clear hn n3 n4 n5 n6 n6' g6 h6 f2 f3 f4 f5 f6 f7 f8 f9 g5 g7 g8 n7 n8 n9 nd6 gv6 gv5 hg1 hnv sum5 q1 s0 s2 s3 s4 tb0 tb2 tb3 tb4
      refine forR (fun j σ H' => ∃ o8 o9, σ = [some (.ref sc), some (.ref st), some (.int (0 + (i : Int))), some v, some (.ref nd), some (.ref gv), some (.ref du), some (.ref hd), o8, o9, o10, o11, o12] ∧ Fr [] H9 H') ⟨_, _, rfl, Fr.refl⟩ ?_ ?_
      · rintro j σ Ha hj ⟨o8, o9, rfl, fj⟩
        have hda : Ha hd = some (.tup [.ref d2, .ref l2]) := fj.get0 g9
        have da : Ha d2 = some (.dK (nkv f letters)) := fj.get0 d9
        have la : Ha l2 = some (.lst (gs.map V.int)) := fj.get0 l9
        have sia : IsSum Ha v s := by walk_at "su"
        walk_at "wk"
        refine ⟨v, s, d2, l2, _, gs, rfl, sia, q2, q3, q4, da, la, by omega, .inr (.inr ⟨f, NamesAt.v ⟨da, good.1⟩, good, by omega, fun ft fl Hb nt nl gt gl fb => ?_⟩)⟩
        walk_at "wk"
        refine u_same (alike_told gt (fb.get0 (fj.get0 du9)) gl (fb.get0 (fj.get0 sl9)) (by have := Sm.ev_said f gs s [] 0; simp only [List.length_nil] at this; omega)) (fun Hc fc => ?_)
        walk_at "wk"
        rename_i tp Hd nD fd gd
        have fad : Fr [] Ha Hd := fb.trans (fc.trans fd)
        refine ⟨2, hd, tp, _, _, by decide, rfl, rfl, SqT.of (fad.get0 hda), SqT.of gd, .cons (eqv_names (fad.get0 da) (fad.get0 (fj.get0 nd9))) (.cons (eqv_given (fad.get0 la) (fad.get0 (fj.get0 gv9))) .nil), ?_⟩
        walk_at "wk"
        refine w_ixT (SqT.of ((fc.trans fd).get0 gt)) (atI_nat (j := 1) rfl) ?_
        walk_at "wk"
        have fld := (fc.trans fd).get0 gl
        refine w_tyl fld ?_
        walk_at "wk"
        have lsd := Sm.ev_said f gs s [] 0
        simp only [List.length_nil] at lsd
        refine w_app fld (by rw [List.length_map]; omega) (fun He fe ge => ?_)
        exact ⟨_, _, rfl, fj.trans (((fad.nil).trans fe).drop nl)⟩
      · rintro σ Ha ⟨o8, o9, rfl, fa⟩
        have sia : IsSum Ha v s := by walk_at "su"
        walk_at "wk"
        refine u_all sia (by omega) (by omega) (fun al us Hb nb gb ab fb => ?_)
        walk_at "wk"
        have usl := ab.length
        rw [Sm.all_length] at usl
        refine lcL (xs := us) (fun D i acc H' => (∃ cs : List Str, acc = cs.map V.str ∧ ∀ c, c ∈ cs ↔ Sm.name c ∈ s.all.take i) ∧ Fr [D] Hb H') (fun D H' hD f g => ⟨⟨[], rfl, by simp⟩, f.nil⟩) (fun D i acc H' hD ⟨_, f⟩ => SqL.of (f.getl (ni1 (nn_l hD gb).symm) gb)) (fun D m x acc H' hD hx hlt ha hA ⟨⟨cs, hcs, hmem⟩, ff⟩ => ?_) (fun D acc H' hD hA hn ⟨⟨cs, hcs, hmem⟩, ff⟩ => ?_)
        · obtain ⟨t, ht, hxt⟩ := ab.at hx
          obtain ⟨q, xs, rfl, hq, h0, h1⟩ := hxt.part
          have hq' := ff.gett hq
          walk_at "wk"
          refine w_ixT (SqT.of hq') (atI_nat (j := 0) h0) ?_
          walk_at "wk"
          refine w_iteS (fun c => ?_) (fun c => ?_)
          · walk_at "wk"
            refine w_ixT (SqT.of hq') (atI_nat (j := 1) (h1 c)) ?_
            refine lcE (acc := acc) hA ha (by omega) (fun He fe ge => ⟨⟨cs ++ [t.letter], by rw [hcs, List.map_append]; rfl, fun c' => ?_⟩, ff.trans fe⟩)
            rw [take_snoc ht, List.mem_append, List.mem_append, hmem, List.mem_singleton, List.mem_singleton, name_word t c]
            exact or_congr_right ⟨fun e => by rw [e]; rfl, fun e => by injection e⟩
          · walk_at "wk"
            refine lcN hA ha ⟨⟨cs, hcs, fun c' => ?_⟩, ff⟩
            rw [hmem, take_snoc ht, List.mem_append, List.mem_singleton]
            exact ⟨.inl, fun z => z.resolve_right fun e => c (by rw [← e]; rfl)⟩
        · have f0 : Fr [] Hb H' := ff.drop hD
          rw [hcs, List.length_map] at hn
          rw [usl, ← Sm.all_length, List.take_length] at hmem
          rw [hcs] at hA
          walk_at "wk"
          refine w_setKs hA (by omega) (fun sp c Hs hc ns fs gset => ?_)
          walk_at "wk"
          refine w_sortTx gset (by omega) (fun ys yl Hy hys hyl ny fy gy => ?_)
          walk_at "wk"
          have fHy : Fr [] H9 Hy := fa.trans (fb.trans (f0.trans (fs.trans fy)))
          rw [ev_due]
          refine w_slL (SqL.of (fHy.get0 gv9)) (cut_few (by omega)) (fun fw Hf nf ff2 gf => ?_)
          have fHf : Fr [] H9 Hf := fHy.trans ff2
          have tl : (gs.take s.asks).length = s.asks := by rw [List.length_take]; omega
          walk_at "wk"
          refine ⟨v, s, nd, fw, _, gs.take s.asks, rfl, sum9.mono fHf, q2, q3, q4, fHf.get0 nd9, gf, by omega, .inr (.inr ⟨f, NamesAt.v ⟨fHf.get0 nd9, good.1⟩, ⟨good.1, fun g hg => good.2 g (List.mem_of_mem_take hg)⟩, by omega, fun ft fl Hw nt nl gt gl fw2 => ?_⟩)⟩
          rw [ev_take s [] 0 (by omega)] at gt gl
          walk_at "wk"
          have fHw : Fr [] H9 Hw := fHf.trans fw2
          have lsd := Sm.ev_said f gs s [] 0
          simp only [List.length_nil] at lsd
          refine u_same (alike_told gt (fHw.get0 du9) gl (fHw.get0 sl9) (by omega)) (fun Hx fx => ?_)
          have fHx : Fr [] H9 Hx := fHw.trans fx
          have fyx : Fr [] Hy Hx := ff2.trans (fw2.trans fx)
          have ffx : Fr [] Hf Hx := fw2.trans fx
          have dux := fHx.get0 du9
          rw [ev_due] at dux
          have fwx := ffx.get0 gf
          have ndx := fHx.get0 nd9
          have ylx := fyx.get0 gy
          have sx : StAt K [] Hx st := s9.fr0 fHx
          have sumx : IsSum Hx v s := sum9.mono fHx
          have tbx : LamX.Tabs (TB0 PT) Hx := tabs_fr tb9 fHx (by simp)
          clear fHx fyx ffx fx fHw fw2 fHf ff2 fHy fy fs f0 fa fb gf gl gt gy gset hA hD ff gb ab
          walk_at "wk"
          refine w_guard (fun Hz => StAt K [] Hz st ∧ LamX.Tabs (TB0 PT) Hz ∧ IsSum Hz v s ∧ Hz nd = some (.dK (nkv f letters)) ∧ Hz yl = some (.lst (ys.map V.str))) ⟨sx, tbx, sumx, ndx, ylx⟩ (fun Hz hz => ?_) (fun c tail => ?_)
          · obtain ⟨sz, tbz, sumz, ndz, ylz⟩ := hz
            have inl : ∀ y ∈ ys, Sm.name y ∈ s.all := fun y hy => (hmem y).1 ((hys y).1 hy)
            walk_at "wk"
            rename_i ep Hz1 ne fe ge
            refine w_neD (.lst (SqL.of (fe.get0 ylz)) (dp_strs ys)) (.lst (SqL.of ge) .nil) (shaped_strs (fun y hy => lay_letters y (name_ok q2 (inl y hy))) (depth_strs ys)) rfl ?_
            rcases ys with _ | ⟨y0, yr⟩
            · refine ⟨_, rfl, ?_⟩
              refine w_isf (by simp [PyData.eqv, PyData.eqvAll]) ?_
              walk_at "wk"
              exact ⟨_, _, _, _, _, _, _, _, _, _, _, rfl, sz.fr0 fe, tabs_fr tbz fe (by simp)⟩
            · refine ⟨_, rfl, ?_⟩
              refine w_ist (by simp [PyData.eqv, PyData.eqvAll]) ?_
              walk_at "wk"
              refine w_dpop ?_
              walk_at "wk"
              have nde := fe.get0 ndz
              have yle := fe.get0 ylz
              have se := sz.fr0 fe
              have tbe := tabs_fr tbz fe (by simp)
              have sume := sumz.mono fe
              refine ⟨nd, rfl, .inl ⟨_, .inl nde⟩, ?_⟩
              walk_at "wk"
              simp only [List.length_cons] at hyl
              have nst : nd ≠ st := fun e => by
                obtain ⟨_, _, _, _, _, h, _⟩ := se
                rw [← e, nde] at h
                cases h
              have yst : yl ≠ st := fun e => by
                obtain ⟨_, _, _, _, _, h, _⟩ := se
                rw [← e, yle] at h
                cases h
              refine u_drawn se (by omega) (Nat.lt_of_le_of_lt (show (((yr.length + 1 : Nat) : Int)).natAbs ≤ 100 by omega) (by decide)) (fun v6 H6 a6 b6 s6 f6 => ?_)
              have tb6 : LamX.Tabs (TB0 PT) H6 := tabs_fr tbe f6 (fun b hb o ho => by rw [List.mem_singleton.mp hb] at ho; obtain ⟨_, _, _, _, _, hs, _⟩ := se; rw [hs] at ho; cases ho; exact .inl ⟨_, rfl⟩)
              obtain ⟨x6, e6, m6⟩ := atI_mem (xs := (y0 :: yr).map V.str) a6 (by rw [List.length_map, List.length_cons]; exact b6)
              obtain ⟨y6, my, rfl⟩ := List.mem_map.mp m6
              have nd6 := f6.getd (ni1 nst) nde
              have in6 := inl y6 my
              refine w_ixL (SqL.of (f6.getl (ni1 yst) yle)) e6 ?_
              refine w_popb nd6 (by rw [valV_nkv, if_pos (name_ok q2 in6)]) (fun H7 f7 g7 => ?_)
              have s7 : StAt K [] H7 st := ((s6.dict nd6).fr1 f7 nst.symm List.mem_cons_self).less (by simp)
              have tb7 : LamX.Tabs (TB0 PT) H7 := tabs_fr tb6 f7 (fun b hb o ho => by rw [List.mem_singleton.mp hb, nd6] at ho; cases ho; exact .inr ⟨_, rfl⟩)
              have sum7 : IsSum H7 v s := (sume.mono f6).mono f7
              walk_at "wk"
              refine w_lam tb7 (fun Hl el tbl => ?_)
              walk_at "wk"
              rename_i ep2 Hm nm fm gm
              refine ⟨v, s, nd, ep2, _, [], rfl, (ext_sum el sum7).mono fm, q2, q3, q4, fm.get0 (ext_d el g7), gm, by simp, .inl ⟨⟨y6, in6, valV_drop⟩, fun He fe => ⟨rfl, a.noName, 2, rfl, KN, .inl rfl, fun Hq fq => ?_⟩⟩⟩
              walk_at "wk"
              have fz : Fr [] Hl Hq := fm.trans (fe.trans fq)
              exact ⟨_, _, _, _, _, _, _, _, _, _, _, rfl, (ext_st el s7).fr0 fz, tabs_fr tbl fz (by simp)⟩
          · have c' := of_decide_eq_true c
            have pos : 0 < s.asks := by omega
            walk_at "wk"
            refine w_lam tbx (fun Hl el tbl => ?_)
            walk_at "wk"
            refine w_slL (SqL.of (ext_l el fwx)) (cut_rest (by omega)) (fun rs Hr nr fr gr => ?_)
            walk_at "wk"
            refine ⟨v, s, nd, rs, _, (gs.take s.asks).drop 1, rfl, (ext_sum el sumx).mono fr, q2, q3, q4, fr.get0 (ext_d el ndx), gr, by rw [List.length_drop]; omega, .inr (.inl ⟨fun c hc => by rw [valV_nkv, if_pos (name_ok q2 hc)]; rfl, by rw [List.length_drop]; omega, fun He fe => ⟨rfl, a.noMore, 3, rfl, KM, .inr rfl, fun Hq fq => ?_⟩⟩)⟩
            refine w_c ?_
            refine w_ne rfl ?_
            refine ⟨_, rfl, ?_⟩
            have fz : Fr [] Hl Hq := fr.trans (fe.trans fq)
            exact tail Hq ⟨(ext_st el sx).fr0 fz, tabs_fr tbl fz (by simp), (ext_sum el sumx).mono fz, fz.get0 (ext_d el ndx), fz.get0 (ext_l el ylx)⟩
    · rintro σ Hz ⟨o2, o3, o4, o5, o6, o7, o8, o9, o10, o11, o12, rfl, _⟩
      walk_at "wk"
      exact k _
  obtain ⟨t, h1, h2⟩ := key
  exact ⟨t, h1.nox, h2⟩
end
end My
namespace My
open PySem PySem.Spec PyProof.Rows L2 Wk
theorem excB_ok {K : PySem.W.Frag} {x : Str} (h : excB K x = true) : ExcC K (He.ga K x) := by
  obtain ⟨h1, h⟩ := He.ba h
  obtain ⟨h2, h⟩ := He.ba h
  obtain ⟨h3, h⟩ := He.ba h
  obtain ⟨h4, h⟩ := He.ba h
  obtain ⟨h5, h⟩ := He.ba h
  obtain ⟨h6, h⟩ := He.ba h
  obtain ⟨h7, h⟩ := He.ba h
  exact ⟨He.eqO_ok h1, He.eqO_ok h2, of_decide_eq_true h3, h4, He.eqO_ok h5, He.eqO_ok h6, of_decide_eq_true h7, of_decide_eq_true h⟩
def adOf (K : PySem.W.Frag) : Ad := ⟨He.ga K "Effects", He.ga K "LETTERS", He.ga K "WORDS_WITH_TWO_PARTS", He.ga K "StepError", He.ga K "BadSum", He.ga K "BadSteps", He.ga K "NoName", He.ga K "NoMore", He.ga K "NoSum", He.ga K "BadText"⟩
theorem kindB_ok {K : PySem.W.Frag} {x : Str} {i : Nat} (h : kindB K x i = true) (e : PySem.W.exmOne K (.ref (He.ga K x)) (.ref (He.ga K "StepError")) = some true) : KindT K (adOf K) (He.ga K x) i := by
  obtain ⟨h1, h⟩ := He.ba h
  obtain ⟨h2, h⟩ := He.ba h
  obtain ⟨h3, h⟩ := He.ba h
  obtain ⟨h4, h⟩ := He.ba h
  obtain ⟨h5, h⟩ := He.ba h
  obtain ⟨h6, h⟩ := He.ba h
  obtain ⟨h7, h8⟩ := He.ba h
  exact ⟨excB_ok h1, e, of_decide_eq_true h2, of_decide_eq_true h3, of_decide_eq_true h4, of_decide_eq_true h5, of_decide_eq_true h6, of_decide_eq_true h7, of_decide_eq_true h8⟩
theorem fun_of {K : PySem.W.Frag} {x q : Str} {st : Stmt} {f : Addr} {fd : FuncData} (h : FunD K x q (defArgs st) (defBody st) (defScope st) [] [] f fd) : Fun K x q st f fd := by
  obtain ⟨⟨oc, od, dV, kV, doc, pm, an, cdv, ct, osl, e, lk, cd, dv, _⟩, kp⟩ := h
  rcases dv with ⟨_, e2⟩ | ⟨e2, _⟩
  · subst e2
    exact ⟨⟨oc, od, kV, doc, pm, an, cdv, ct, osl, e, lk, cd⟩, kp⟩
  · exact absurd rfl e2
theorem fn_imp {P : Program} {w : World} {K : PySem.W.Frag} {mg : Str → Option Value} {base : Heap} {CX : CXT} {k : Nat} {f : Addr} {fd : FuncData} {ps : List Str} {sp sp' : Sp} (F : FnOk P w K mg base CX k f fd ps sp) (h : ∀ vs H Q E, sp' vs H Q E → sp vs H Q E) : FnOk P w K mg base CX k f fd ps sp' :=
  ⟨fun vs H Q E z => F.len vs H Q E (h _ _ _ _ z), fun A outer s H args us vs Q E hr e0 hb r z => F.run A outer s H args us vs Q E hr e0 hb r (h _ _ _ _ z)⟩
/-! ### the promises of all defs -/
theorem facts {w : World} {K : PySem.W.Frag} {h : Heap} {mg : Str → Option Value} {f : Addr} (X : K.In h) (Gm : h.Ns mainGlobals mg) (hfa : mg ("law" : Str) = some (.ref f)) (c : He.SaysX fal fnl [] tfl exB w h K) :
    LamX.LawAtS PySem.Challenge.rw_stepnames_k02_worths w K CX0 23 63 "_law_script" mg f h := by
  obtain ⟨e1, e⟩ := He.ba c.more
  obtain ⟨e2, e⟩ := He.ba e
  obtain ⟨e3, e4⟩ := He.ba e
  have g_is_whole := He.glo_ok X Gm (c.t.d.fact 21 (f := .glo "is_whole") rfl)
  have g_has_form := He.glo_ok X Gm (c.t.d.fact 22 (f := .glo "has_form") rfl)
  have g_parts_of := He.glo_ok X Gm (c.t.d.fact 23 (f := .glo "parts_of") rfl)
  have g_refuse_lacks := He.glo_ok X Gm (c.t.d.fact 24 (f := .glo "refuse_lacks") rfl)
  have g_comes_to := He.glo_ok X Gm (c.t.d.fact 25 (f := .glo "comes_to") rfl)
  have g_joined := He.glo_ok X Gm (c.t.d.fact 26 (f := .glo "joined") rfl)
  have g_worth := He.glo_ok X Gm (c.t.d.fact 27 (f := .glo "worth") rfl)
  have g_sums_within := He.glo_ok X Gm (c.t.d.fact 28 (f := .glo "sums_within") rfl)
  have g_worked_out := He.glo_ok X Gm (c.t.d.fact 29 (f := .glo "worked_out") rfl)
  have g_law_start := He.glo_ok X Gm (c.t.d.fact 30 (f := .glo "_law_start") rfl)
  have g_law_drawn := He.glo_ok X Gm (c.t.d.fact 31 (f := .glo "_law_drawn") rfl)
  have g_law_same := He.glo_ok X Gm (c.t.d.fact 32 (f := .glo "_law_same") rfl)
  have g_law_kind := He.glo_ok X Gm (c.t.d.fact 33 (f := .glo "_law_kind") rfl)
  have g_law_sum := He.glo_ok X Gm (c.t.d.fact 34 (f := .glo "_law_sum") rfl)
  have g_law_any := He.glo_ok X Gm (c.t.d.fact 35 (f := .glo "_law_any") rfl)
  have g_law_quiet := He.glo_ok X Gm (c.t.d.fact 36 (f := .glo "_law_quiet") rfl)
  have g_law_parts := He.glo_ok X Gm (c.t.d.fact 37 (f := .glo "_law_parts") rfl)
  have g_law_all := He.glo_ok X Gm (c.t.d.fact 38 (f := .glo "_law_all") rfl)
  have g_law_names := He.glo_ok X Gm (c.t.d.fact 39 (f := .glo "_law_names") rfl)
  have g_law_given := He.glo_ok X Gm (c.t.d.fact 40 (f := .glo "_law_given") rfl)
  have g_law_worth := He.glo_ok X Gm (c.t.d.fact 41 (f := .glo "_law_worth") rfl)
  have g_law_told := He.glo_ok X Gm (c.t.d.fact 42 (f := .glo "_law_told") rfl)
  have g_law := He.glo_ok X Gm (c.t.d.fact 43 (f := .glo "law") rfl)
  have g_Effects := He.glo_ok X Gm (c.t.d.fact 44 (f := .glo "Effects") rfl)
  have g_LETTERS := He.glo_ok X Gm (c.t.d.fact 45 (f := .glo "LETTERS") rfl)
  have g_WORDS_WITH_TWO_PARTS := He.glo_ok X Gm (c.t.d.fact 46 (f := .glo "WORDS_WITH_TWO_PARTS") rfl)
  have g_StepError := He.glo_ok X Gm (c.t.d.fact 47 (f := .glo "StepError") rfl)
  have g_BadSum := He.glo_ok X Gm (c.t.d.fact 48 (f := .glo "BadSum") rfl)
  have g_BadSteps := He.glo_ok X Gm (c.t.d.fact 49 (f := .glo "BadSteps") rfl)
  have g_NoName := He.glo_ok X Gm (c.t.d.fact 50 (f := .glo "NoName") rfl)
  have g_NoMore := He.glo_ok X Gm (c.t.d.fact 51 (f := .glo "NoMore") rfl)
  have g_NoSum := He.glo_ok X Gm (c.t.d.fact 52 (f := .glo "NoSum") rfl)
  have g_BadText := He.glo_ok X Gm (c.t.d.fact 53 (f := .glo "BadText") rfl)
  have Z : Blt mg := ⟨He.free_ok X Gm (c.t.d.fact 0 (f := .free "len") rfl), He.free_ok X Gm (c.t.d.fact 1 (f := .free "isinstance") rfl), He.free_ok X Gm (c.t.d.fact 2 (f := .free "range") rfl), He.free_ok X Gm (c.t.d.fact 3 (f := .free "int") rfl), He.free_ok X Gm (c.t.d.fact 4 (f := .free "list") rfl), He.free_ok X Gm (c.t.d.fact 5 (f := .free "dict") rfl), He.free_ok X Gm (c.t.d.fact 6 (f := .free "tuple") rfl), He.free_ok X Gm (c.t.d.fact 7 (f := .free "set") rfl), He.free_ok X Gm (c.t.d.fact 8 (f := .free "sorted") rfl), He.free_ok X Gm (c.t.d.fact 9 (f := .free "type") rfl), He.free_ok X Gm (c.t.d.fact 10 (f := .free "any") rfl), He.free_ok X Gm (c.t.d.fact 11 (f := .free "all") rfl), He.free_ok X Gm (c.t.d.fact 12 (f := .free "min") rfl), He.free_ok X Gm (c.t.d.fact 13 (f := .free "max") rfl), He.free_ok X Gm (c.t.d.fact 14 (f := .free "enumerate") rfl), He.free_ok X Gm (c.t.d.fact 15 (f := .free "zip") rfl), He.free_ok X Gm (c.t.d.fact 16 (f := .free "reversed") rfl), He.free_ok X Gm (c.t.d.fact 17 (f := .free "bool") rfl), He.free_ok X Gm (c.t.d.fact 18 (f := .free "str") rfl), He.free_ok X Gm (c.t.d.fact 19 (f := .free "super") rfl)⟩
  have TK : KMg mg (adOf K) := ⟨He.free_ok X Gm (c.t.d.fact 20 (f := .free "ValueError") rfl), g_StepError, g_BadSum, g_BadSteps, g_NoName, g_NoMore, g_NoSum, g_BadText⟩
  have KN : KindT K (adOf K) (adOf K).noName 2 := kindB_ok e3 (He.exm_ok (c.t.d.fact 66 (f := .exm "NoName" "StepError" true) rfl))
  have KM : KindT K (adOf K) (adOf K).noMore 3 := kindB_ok e4 (He.exm_ok (c.t.d.fact 68 (f := .exm "NoMore" "StepError" true) rfl))
  obtain ⟨x1NoName, x2NoName, x3NoName, x4NoName⟩ := He.exc_ok (c.t.d.fact 65 (f := .exc "NoName") rfl)
  obtain ⟨x1NoMore, x2NoMore, x3NoMore, x4NoMore⟩ := He.exc_ok (c.t.d.fact 67 (f := .exc "NoMore") rfl)
  have T : Txt K mg (adOf K) :=
    { cl_Effects := He.cls_ok (c.t.d.fact 58 (f := .cls "Effects") rfl), n_given := He.noat_ok (c.t.d.fact 59 (f := .noat "Effects" "given") rfl), n_said := He.noat_ok (c.t.d.fact 60 (f := .noat "Effects" "said") rfl), n_asked := He.noat_ok (c.t.d.fact 61 (f := .noat "Effects" "asked") rfl), m_Effects := g_Effects,
      m_MODULUS := He.int_ok X Gm (c.t.d.fact 54 (f := .int "MODULUS" 1000) rfl), m_LARGEST := He.int_ok X Gm (c.t.d.fact 55 (f := .int "LARGEST" 999) rfl), m_MOST_SUMS := He.int_ok X Gm (c.t.d.fact 56 (f := .int "MOST_SUMS" 60) rfl), m_MOST_WITHIN := He.int_ok X Gm (c.t.d.fact 57 (f := .int "MOST_WITHIN" 15) rfl),
      m_LETTERS := g_LETTERS, q_LETTERS := fun H => He.tupB_ok e1 H, m_WORDS_WITH_TWO_PARTS := g_WORDS_WITH_TWO_PARTS, q_WORDS := fun H => He.tupB_ok e2 H,
      x_NoName := ⟨g_NoName, x1NoName, x2NoName, x3NoName, x4NoName⟩, x_NoMore := ⟨g_NoMore, x1NoMore, x2NoMore, x3NoMore, x4NoMore⟩ }
  obtain ⟨fd_is_whole, W_is_whole⟩ := c.t.d.def_ 0 (d := d_is_whole) rfl
  have F_is_whole : Fun K _ _ s_is_whole (He.fAd K d_is_whole.at_) fd_is_whole := fun_of W_is_whole
  have b_is_whole : Binds K fd_is_whole ["found", "most"] [] := F_is_whole.binds (ps := ["found", "most"]) fun _ _ _ _ _ _ us hl => match us, hl with | [_, _], _ => rfl
  obtain ⟨fd_has_form, W_has_form⟩ := c.t.d.def_ 1 (d := d_has_form) rfl
  have F_has_form : Fun K _ _ s_has_form (He.fAd K d_has_form.at_) fd_has_form := fun_of W_has_form
  have b_has_form : Binds K fd_has_form ["part"] [] := F_has_form.binds (ps := ["part"]) fun _ _ _ _ _ _ us hl => match us, hl with | [_], _ => rfl
  obtain ⟨fd_parts_of, W_parts_of⟩ := c.t.d.def_ 2 (d := d_parts_of) rfl
  have F_parts_of : Fun K _ _ s_parts_of (He.fAd K d_parts_of.at_) fd_parts_of := fun_of W_parts_of
  have b_parts_of : Binds K fd_parts_of ["part"] [] := F_parts_of.binds (ps := ["part"]) fun _ _ _ _ _ _ us hl => match us, hl with | [_], _ => rfl
  obtain ⟨fd_refuse_lacks, W_refuse_lacks⟩ := c.t.d.def_ 3 (d := d_refuse_lacks) rfl
  have F_refuse_lacks : Fun K _ _ s_refuse_lacks (He.fAd K d_refuse_lacks.at_) fd_refuse_lacks := fun_of W_refuse_lacks
  have b_refuse_lacks : Binds K fd_refuse_lacks ["parts", "names", "given"] [] := F_refuse_lacks.binds (ps := ["parts", "names", "given"]) fun _ _ _ _ _ _ us hl => match us, hl with | [_, _, _], _ => rfl
  obtain ⟨fd_comes_to, W_comes_to⟩ := c.t.d.def_ 4 (d := d_comes_to) rfl
  have F_comes_to : Fun K _ _ s_comes_to (He.fAd K d_comes_to.at_) fd_comes_to := fun_of W_comes_to
  have b_comes_to : Binds K fd_comes_to ["part", "worths", "names", "effects"] [] := F_comes_to.binds (ps := ["part", "worths", "names", "effects"]) fun _ _ _ _ _ _ us hl => match us, hl with | [_, _, _, _], _ => rfl
  obtain ⟨fd_joined, W_joined⟩ := c.t.d.def_ 5 (d := d_joined) rfl
  have F_joined : Fun K _ _ s_joined (He.fAd K d_joined.at_) fd_joined := fun_of W_joined
  have b_joined : Binds K fd_joined ["word", "first", "second"] [] := F_joined.binds (ps := ["word", "first", "second"]) fun _ _ _ _ _ _ us hl => match us, hl with | [_, _, _], _ => rfl
  obtain ⟨fd_worth, W_worth⟩ := c.t.d.def_ 6 (d := d_worth) rfl
  have F_worth : Fun K _ _ s_worth (He.fAd K d_worth.at_) fd_worth := fun_of W_worth
  have b_worth : Binds K fd_worth ["part", "names", "given"] [] := F_worth.binds (ps := ["part", "names", "given"]) fun _ _ _ _ _ _ us hl => match us, hl with | [_, _, _], _ => rfl
  obtain ⟨fd_sums_within, W_sums_within⟩ := c.t.d.def_ 7 (d := d_sums_within) rfl
  have F_sums_within : Fun K _ _ s_sums_within (He.fAd K d_sums_within.at_) fd_sums_within := fun_of W_sums_within
  have b_sums_within : Binds K fd_sums_within ["part"] [] := F_sums_within.binds (ps := ["part"]) fun _ _ _ _ _ _ us hl => match us, hl with | [_], _ => rfl
  obtain ⟨fd_worked_out, W_worked_out⟩ := c.t.d.def_ 8 (d := d_worked_out) rfl
  have F_worked_out : Fun K _ _ s_worked_out (He.fAd K d_worked_out.at_) fd_worked_out := fun_of W_worked_out
  have b_worked_out : Binds K fd_worked_out ["part", "names", "effects"] [] := F_worked_out.binds (ps := ["part", "names", "effects"]) fun _ _ _ _ _ _ us hl => match us, hl with | [_, _, _], _ => rfl
  obtain ⟨fd_law_start, W_law_start⟩ := c.t.d.def_ 9 (d := d_law_start) rfl
  have F_law_start : Fun K _ _ s_law_start (He.fAd K d_law_start.at_) fd_law_start := fun_of W_law_start
  have b_law_start : Binds K fd_law_start ["_law_script"] [] := F_law_start.binds (ps := ["_law_script"]) fun _ _ _ _ _ _ us hl => match us, hl with | [_], _ => rfl
  obtain ⟨fd_law_drawn, W_law_drawn⟩ := c.t.d.def_ 10 (d := d_law_drawn) rfl
  have F_law_drawn : Fun K _ _ s_law_drawn (He.fAd K d_law_drawn.at_) fd_law_drawn := fun_of W_law_drawn
  have b_law_drawn : Binds K fd_law_drawn ["_law_state", "_law_many"] [] := F_law_drawn.binds (ps := ["_law_state", "_law_many"]) fun _ _ _ _ _ _ us hl => match us, hl with | [_, _], _ => rfl
  obtain ⟨fd_law_same, W_law_same⟩ := c.t.d.def_ 11 (d := d_law_same) rfl
  have F_law_same : Fun K _ _ s_law_same (He.fAd K d_law_same.at_) fd_law_same := fun_of W_law_same
  have b_law_same : Binds K fd_law_same ["_law_found", "_law_due"] [] := F_law_same.binds (ps := ["_law_found", "_law_due"]) fun _ _ _ _ _ _ us hl => match us, hl with | [_, _], _ => rfl
  obtain ⟨fd_law_kind, W_law_kind⟩ := c.t.d.def_ 12 (d := d_law_kind) rfl
  have F_law_kind : Fun K _ _ s_law_kind (He.fAd K d_law_kind.at_) fd_law_kind := fun_of W_law_kind
  have b_law_kind : Binds K fd_law_kind ["_law_work"] [] := F_law_kind.binds (ps := ["_law_work"]) fun _ _ _ _ _ _ us hl => match us, hl with | [_], _ => rfl
  obtain ⟨fd_law_sum, W_law_sum⟩ := c.t.d.def_ 13 (d := d_law_sum) rfl
  have F_law_sum : Fun K _ _ s_law_sum (He.fAd K d_law_sum.at_) fd_law_sum := fun_of W_law_sum
  have b_law_sum : Binds K fd_law_sum ["_law_state", "_law_deep", "_law_room"] [] := F_law_sum.binds (ps := ["_law_state", "_law_deep", "_law_room"]) fun _ _ _ _ _ _ us hl => match us, hl with | [_, _, _], _ => rfl
  obtain ⟨fd_law_any, W_law_any⟩ := c.t.d.def_ 14 (d := d_law_any) rfl
  have F_law_any : Fun K _ _ s_law_any (He.fAd K d_law_any.at_) fd_law_any := fun_of W_law_any
  have b_law_any : Binds K fd_law_any ["_law_state"] [] := F_law_any.binds (ps := ["_law_state"]) fun _ _ _ _ _ _ us hl => match us, hl with | [_], _ => rfl
  obtain ⟨fd_law_quiet, W_law_quiet⟩ := c.t.d.def_ 15 (d := d_law_quiet) rfl
  have F_law_quiet : Fun K _ _ s_law_quiet (He.fAd K d_law_quiet.at_) fd_law_quiet := fun_of W_law_quiet
  have b_law_quiet : Binds K fd_law_quiet ["_law_part"] [] := F_law_quiet.binds (ps := ["_law_part"]) fun _ _ _ _ _ _ us hl => match us, hl with | [_], _ => rfl
  obtain ⟨fd_law_parts, W_law_parts⟩ := c.t.d.def_ 16 (d := d_law_parts) rfl
  have F_law_parts : Fun K _ _ s_law_parts (He.fAd K d_law_parts.at_) fd_law_parts := fun_of W_law_parts
  have b_law_parts : Binds K fd_law_parts ["_law_part"] [] := F_law_parts.binds (ps := ["_law_part"]) fun _ _ _ _ _ _ us hl => match us, hl with | [_], _ => rfl
  obtain ⟨fd_law_all, W_law_all⟩ := c.t.d.def_ 17 (d := d_law_all) rfl
  have F_law_all : Fun K _ _ s_law_all (He.fAd K d_law_all.at_) fd_law_all := fun_of W_law_all
  have b_law_all : Binds K fd_law_all ["_law_part"] [] := F_law_all.binds (ps := ["_law_part"]) fun _ _ _ _ _ _ us hl => match us, hl with | [_], _ => rfl
  obtain ⟨fd_law_names, W_law_names⟩ := c.t.d.def_ 18 (d := d_law_names) rfl
  have F_law_names : Fun K _ _ s_law_names (He.fAd K d_law_names.at_) fd_law_names := fun_of W_law_names
  have b_law_names : Binds K fd_law_names ["_law_state"] [] := F_law_names.binds (ps := ["_law_state"]) fun _ _ _ _ _ _ us hl => match us, hl with | [_], _ => rfl
  obtain ⟨fd_law_given, W_law_given⟩ := c.t.d.def_ 19 (d := d_law_given) rfl
  have F_law_given : Fun K _ _ s_law_given (He.fAd K d_law_given.at_) fd_law_given := fun_of W_law_given
  have b_law_given : Binds K fd_law_given ["_law_state"] [] := F_law_given.binds (ps := ["_law_state"]) fun _ _ _ _ _ _ us hl => match us, hl with | [_], _ => rfl
  obtain ⟨fd_law_worth, W_law_worth⟩ := c.t.d.def_ 20 (d := d_law_worth) rfl
  have F_law_worth : Fun K _ _ s_law_worth (He.fAd K d_law_worth.at_) fd_law_worth := fun_of W_law_worth
  have b_law_worth : Binds K fd_law_worth ["_law_part", "_law_names_here", "_law_given_here", "_law_told_here"] [] := F_law_worth.binds (ps := ["_law_part", "_law_names_here", "_law_given_here", "_law_told_here"]) fun _ _ _ _ _ _ us hl => match us, hl with | [_, _, _, _], _ => rfl
  obtain ⟨fd_law_told, W_law_told⟩ := c.t.d.def_ 21 (d := d_law_told) rfl
  have F_law_told : Fun K _ _ s_law_told (He.fAd K d_law_told.at_) fd_law_told := fun_of W_law_told
  have b_law_told : Binds K fd_law_told ["_law_part", "_law_names_here", "_law_given_here"] [] := F_law_told.binds (ps := ["_law_part", "_law_names_here", "_law_given_here"]) fun _ _ _ _ _ _ us hl => match us, hl with | [_, _, _], _ => rfl
  obtain ⟨fd_law, W_law⟩ := c.t.d.def_ 22 (d := d_law) rfl
  have F_law : Fun K _ _ s_law (He.fAd K d_law.at_) fd_law := fun_of W_law
  have b_law : Binds K fd_law ["_law_script"] [] := F_law.binds (ps := ["_law_script"]) fun _ _ _ _ _ _ us hl => match us, hl with | [_], _ => rfl
  obtain ⟨fd_Effects_init, W_Effects_init⟩ := c.t.d.def_ 23 (d := d_Effects_init) rfl
  have F_Effects_init : Fun K _ _ s_Effects_init (He.fAd K d_Effects_init.at_) fd_Effects_init := fun_of W_Effects_init
  have b_Effects_init : Binds K fd_Effects_init ["self", "given"] [] := F_Effects_init.binds (ps := ["self", "given"]) fun _ _ _ _ _ _ us hl => match us, hl with | [_, _], _ => rfl
  obtain ⟨fd_Effects_say, W_Effects_say⟩ := c.t.d.def_ 24 (d := d_Effects_say) rfl
  have F_Effects_say : Fun K _ _ s_Effects_say (He.fAd K d_Effects_say.at_) fd_Effects_say := fun_of W_Effects_say
  have b_Effects_say : Binds K fd_Effects_say ["self", "number"] [] := F_Effects_say.binds (ps := ["self", "number"]) fun _ _ _ _ _ _ us hl => match us, hl with | [_, _], _ => rfl
  obtain ⟨fd_Effects_ask, W_Effects_ask⟩ := c.t.d.def_ 25 (d := d_Effects_ask) rfl
  have F_Effects_ask : Fun K _ _ s_Effects_ask (He.fAd K d_Effects_ask.at_) fd_Effects_ask := fun_of W_Effects_ask
  have b_Effects_ask : Binds K fd_Effects_ask ["self"] [] := F_Effects_ask.binds (ps := ["self"]) fun _ _ _ _ _ _ us hl => match us, hl with | [_], _ => rfl
  refine ⟨fd_law, [He.cT K ("law", none)], spLaw K (He.cT K ("law", none)).2, ?_, ?_, ?_, ?_, ?_, ?_⟩
  · intro p hp
    rw [List.mem_singleton.mp hp]
    exact c.empty _ List.mem_cons_self
  · intro p hp
    rw [List.mem_singleton.mp hp]
    exact c.out _ List.mem_cons_self
  · intro p hp
    rw [List.mem_singleton.mp hp]
    exact PySem.W.codeHd_of_K X (c.hd _ List.mem_cons_self)
  · intro s u
    obtain ⟨oc, od, kV, doc, pm, an, cdv, ct, osl, e, _⟩ := F_law.ex
    rw [e]
    exact .of_eq rfl
  · intro H a ns _ _ hT hS
    exact ⟨a, ns, rfl, hS, fun p hp => by rw [List.mem_singleton.mp hp]; exact LamX.TabS.nil (hT _ List.mem_cons_self), fun _ => rfl⟩
  · intro base KB GB TBs
    have TB := TBs _ List.mem_cons_self
    have D_law_drawn : Df PySem.Challenge.rw_stepnames_k02_worths.prog w K mg base CX0 1 "_law_drawn" ["_law_state", "_law_many"] (spDrawn K) := ⟨_, fd_law_drawn, g_law_drawn, F_law_drawn.kp, b_law_drawn, ok_drawn F_law_drawn Z⟩
    have D_law_start : Df PySem.Challenge.rw_stepnames_k02_worths.prog w K mg base CX0 1 "_law_start" ["_law_script"] (spStart K) := ⟨_, fd_law_start, g_law_start, F_law_start.kp, b_law_start, ok_start F_law_start Z⟩
    have R_sum : ∀ n : Nat, Df PySem.Challenge.rw_stepnames_k02_worths.prog w K mg base CX0 (n + 1) "_law_sum" ["_law_state", "_law_deep", "_law_room"] (spSumD K n) := by
      intro n
      induction n with
      | zero => exact ⟨_, fd_law_sum, g_law_sum, F_law_sum.kp, b_law_sum, none_df (fun vs H Q E h => by exact absurd h.1 (by decide))⟩
      | succ n ih => exact ⟨_, fd_law_sum, g_law_sum, F_law_sum.kp, b_law_sum, fn_imp (ok_sum F_law_sum Z D_law_drawn ih) (fun _ _ _ _ h => h.2)⟩
    have D_law_sum : Df PySem.Challenge.rw_stepnames_k02_worths.prog w K mg base CX0 17 "_law_sum" ["_law_state", "_law_deep", "_law_room"] (spSum K 16) := ⟨_, fd_law_sum, g_law_sum, F_law_sum.kp, b_law_sum, ok_sum F_law_sum Z D_law_drawn (R_sum 15)⟩
    have R_quiet : ∀ n : Nat, Df PySem.Challenge.rw_stepnames_k02_worths.prog w K mg base CX0 (n + 0) "_law_quiet" ["_law_part"] (spQuiet n) := by
      intro n
      induction n with
      | zero => exact ⟨_, fd_law_quiet, g_law_quiet, F_law_quiet.kp, b_law_quiet, none_df (fun vs H Q E h => by obtain ⟨v, s, _, _, hd, _⟩ := h; have := s.depth_pos; omega)⟩
      | succ n ih => exact ⟨_, fd_law_quiet, g_law_quiet, F_law_quiet.kp, b_law_quiet, ok_quiet F_law_quiet Z ih⟩
    have D_law_parts : Df PySem.Challenge.rw_stepnames_k02_worths.prog w K mg base CX0 1 "_law_parts" ["_law_part"] spParts := ⟨_, fd_law_parts, g_law_parts, F_law_parts.kp, b_law_parts, ok_parts F_law_parts Z⟩
    have R_all : ∀ n : Nat, Df PySem.Challenge.rw_stepnames_k02_worths.prog w K mg base CX0 (n + 1) "_law_all" ["_law_part"] (spAll n) := by
      intro n
      induction n with
      | zero => exact ⟨_, fd_law_all, g_law_all, F_law_all.kp, b_law_all, none_df (fun vs H Q E h => by obtain ⟨v, s, _, _, hd, _⟩ := h; have := s.depth_pos; omega)⟩
      | succ n ih => exact ⟨_, fd_law_all, g_law_all, F_law_all.kp, b_law_all, ok_all F_law_all Z D_law_parts ih⟩
    have D_law_any : Df PySem.Challenge.rw_stepnames_k02_worths.prog w K mg base CX0 18 "_law_any" ["_law_state"] (spAny K) := ⟨_, fd_law_any, g_law_any, F_law_any.kp, b_law_any, ok_any F_law_any Z D_law_drawn D_law_sum (R_quiet 16)⟩
    have D_law_names : Df PySem.Challenge.rw_stepnames_k02_worths.prog w K mg base CX0 2 "_law_names" ["_law_state"] (spNames K) := ⟨_, fd_law_names, g_law_names, F_law_names.kp, b_law_names, ok_names F_law_names Z D_law_drawn⟩
    have D_law_given : Df PySem.Challenge.rw_stepnames_k02_worths.prog w K mg base CX0 2 "_law_given" ["_law_state"] (spGiven K) := ⟨_, fd_law_given, g_law_given, F_law_given.kp, b_law_given, ok_given F_law_given Z D_law_drawn⟩
    have R_lworth : ∀ n : Nat, Df PySem.Challenge.rw_stepnames_k02_worths.prog w K mg base CX0 (n + 0) "_law_worth" ["_law_part", "_law_names_here", "_law_given_here", "_law_told_here"] (spLWorth n) := by
      intro n
      induction n with
      | zero => exact ⟨_, fd_law_worth, g_law_worth, F_law_worth.kp, b_law_worth, none_df (fun vs H Q E h => by obtain ⟨v, s, _, _, _, _, _, _, _, _, _, _, _, hd, _⟩ := h; have := s.depth_pos; omega)⟩
      | succ n ih => exact ⟨_, fd_law_worth, g_law_worth, F_law_worth.kp, b_law_worth, ok_lworth F_law_worth Z ih⟩
    have D_law_told : Df PySem.Challenge.rw_stepnames_k02_worths.prog w K mg base CX0 17 "_law_told" ["_law_part", "_law_names_here", "_law_given_here"] spTold := ⟨_, fd_law_told, g_law_told, F_law_told.kp, b_law_told, ok_told F_law_told Z (R_lworth 16)⟩
    have R_same : ∀ n : Nat, Df PySem.Challenge.rw_stepnames_k02_worths.prog w K mg base CX0 (n + 0) "_law_same" ["_law_found", "_law_due"] (spSameD n) := by
      intro n
      induction n with
      | zero => exact ⟨_, fd_law_same, g_law_same, F_law_same.kp, b_law_same, none_df (fun vs H Q E h => by exact absurd h.1 (by decide))⟩
      | succ n ih => exact ⟨_, fd_law_same, g_law_same, F_law_same.kp, b_law_same, fn_imp (ok_same F_law_same Z ih) (fun _ _ _ _ h => h.2)⟩
    have D_law_same : Df PySem.Challenge.rw_stepnames_k02_worths.prog w K mg base CX0 4 "_law_same" ["_law_found", "_law_due"] (spSame 3) := ⟨_, fd_law_same, g_law_same, F_law_same.kp, b_law_same, ok_same F_law_same Z (R_same 3)⟩
    have D_joined : Df PySem.Challenge.rw_stepnames_k02_worths.prog w K mg base CX0 1 "joined" ["word", "first", "second"] spJoined := ⟨_, fd_joined, g_joined, F_joined.kp, b_joined, ok_joined F_joined Z T⟩
    have D_parts_of : Df PySem.Challenge.rw_stepnames_k02_worths.prog w K mg base CX0 1 "parts_of" ["part"] spPartsOf := ⟨_, fd_parts_of, g_parts_of, F_parts_of.kp, b_parts_of, ok_parts_of F_parts_of Z T⟩
    have G_say := ok_sayE (P := PySem.Challenge.rw_stepnames_k02_worths.prog) (w := w) (mg := mg) (base := base) F_Effects_say T
    have G_ask := ok_askE (P := PySem.Challenge.rw_stepnames_k02_worths.prog) (w := w) (mg := mg) (base := base) F_Effects_ask T
    have G_init := ok_initE (P := PySem.Challenge.rw_stepnames_k02_worths.prog) (w := w) (mg := mg) (base := base) F_Effects_init T
    have D_comes_to : Df PySem.Challenge.rw_stepnames_k02_worths.prog w K mg base CX0 2 "comes_to" ["part", "worths", "names", "effects"] (spComes (adOf K).effects) := ⟨_, fd_comes_to, g_comes_to, F_comes_to.kp, b_comes_to, ok_comes F_comes_to Z T D_joined (He.meth_ok (c.t.d.fact 62 (f := .meth "Effects" "say") rfl)) b_Effects_say G_say (He.meth_ok (c.t.d.fact 63 (f := .meth "Effects" "ask") rfl)) b_Effects_ask G_ask⟩
    have R_worked : ∀ n : Nat, Df PySem.Challenge.rw_stepnames_k02_worths.prog w K mg base CX0 (n + 2) "worked_out" ["part", "names", "effects"] (spWorked (adOf K).effects n) := by
      intro n
      induction n with
      | zero => exact ⟨_, fd_worked_out, g_worked_out, F_worked_out.kp, b_worked_out, none_df (fun vs H Q E h => by obtain ⟨v, s, _, _, _, _, _, _, _, _, _, _, _, _, hd, _⟩ := h; have := s.depth_pos; omega)⟩
      | succ n ih => exact ⟨_, fd_worked_out, g_worked_out, F_worked_out.kp, b_worked_out, ok_worked F_worked_out Z T D_parts_of D_comes_to ih⟩
    have D_is_whole : Df PySem.Challenge.rw_stepnames_k02_worths.prog w K mg base CX0 1 "is_whole" ["found", "most"] spWhole := ⟨_, fd_is_whole, g_is_whole, F_is_whole.kp, b_is_whole, ok_whole F_is_whole Z⟩
    have D_has_form : Df PySem.Challenge.rw_stepnames_k02_worths.prog w K mg base CX0 2 "has_form" ["part"] spForm := ⟨_, fd_has_form, g_has_form, F_has_form.kp, b_has_form, ok_form F_has_form Z T D_is_whole⟩
    have D_sums_within : Df PySem.Challenge.rw_stepnames_k02_worths.prog w K mg base CX0 3 "sums_within" ["part"] spWithin := ⟨_, fd_sums_within, g_sums_within, F_sums_within.kp, b_sums_within, ok_within F_sums_within Z T D_has_form D_parts_of⟩
    have D_refuse_lacks : Df PySem.Challenge.rw_stepnames_k02_worths.prog w K mg base (L2.CX PySem.Challenge.rw_stepnames_k02_worths.prog w) 1 "refuse_lacks" ["parts", "names", "given"] (spRefuse (adOf K).noName (adOf K).noMore) := ⟨_, fd_refuse_lacks, g_refuse_lacks, F_refuse_lacks.kp, b_refuse_lacks, ok_refuse F_refuse_lacks Z T⟩
    have D_worth : Df PySem.Challenge.rw_stepnames_k02_worths.prog w K mg base (L2.CX PySem.Challenge.rw_stepnames_k02_worths.prog w) 19 "worth" ["part", "names", "given"] (spWorthP (adOf K).noName (adOf K).noMore) := ⟨_, fd_worth, g_worth, F_worth.kp, b_worth, ok_worth F_worth Z T D_sums_within D_refuse_lacks (R_worked 16) (He.mkr_ok (c.t.d.fact 64 (f := .mkr "Effects") rfl)) b_Effects_init G_init⟩
    obtain ⟨oc, od, kV, doc, pm, an, cdv, ct, osl, ef, lk, cd⟩ := F_law.ex
    obtain ⟨oc2, od2, kV2, doc2, pm2, an2, cdv2, ct2, osl2, ef2, lk2, cd2⟩ := F_law_kind.ex
    obtain ⟨cl, ecl⟩ := He.codeIn_ref cd
    subst ef ef2 ecl
    have ec : (He.cT K ("law", none)).1 = cl := He.codeOf_eq lk rfl
    rw [ec] at TB
    have eg := hfa.symm.trans g_law
    cases eg
    exact ok_law lk cd lk2 cd2 b_law_kind F_law_kind.kp g_law_kind Z TK KN KM TB D_law_start D_law_drawn D_law_any D_law_names D_law_given D_law_told D_law_same (R_all 16) D_worth
end My
namespace My
open PySem PySem.Spec PyProof.Rows L2 Wk
end My
open PySem PySem.W PySem.Calls PyProof.Rows
set_option maxHeartbeats 0 in
theorem PySem.Challenge.cw_stepnames_k02_worths_holds : PySem.Challenge.rw_stepnames_k02_worths.Holds := by
  w_on; o_law
  refine HandSHeadRun.head_any (r := OpenLaw.row PySem.Challenge.rw_stepnames_k02_worths) (q := view (OpenLaw.row PySem.Challenge.rw_stepnames_k02_worths).prog [41]) (H := My.hk) (ob := My.ob) (M := 4000) (loose := My.loosel) (d := HandSHeadRun.topDef (OpenLaw.row PySem.Challenge.rw_stepnames_k02_worths).prog 41) (kwd := []) My.ob_eq
    (by kernel_rfl) (fun s => by kernel_rfl) My.run (by kernel_rfl) (by kernel_rfl) (by kernel_rfl) (by rfl) (by first | assumption | decide +kernel) (by decide +kernel) ⟨rfl, rfl, rfl, rfl, rfl, by decide +kernel⟩ ?hw ?hc
  case hw => w_witness2
  case hc =>
    refine LamX.walk_ofTsE (l := PySem.Challenge.rw_stepnames_k02_worths) (n := 63) (k := 23) (x := "_law_script") (CX := fun _ => L2.CX0) rfl (by decide) (by kernel_rfl) ⟨rfl, by decide, by decide⟩ ?F (fun _ _ _ _ _ z => z)
    intro w mg fa h Y G hmg0
    obtain ⟨K, KX, c⟩ := Y
    have hmg : mg ("law" : PySem.Str) = some (.ref fa) := by
      have e : (HandSHeadRun.topDef (OpenLaw.row PySem.Challenge.rw_stepnames_k02_worths).prog 41).name = ("law" : PySem.Str) := by kernel_rfl
      rw [← e]
      exact hmg0
    exact ⟨K, KX, My.facts KX G hmg c⟩
