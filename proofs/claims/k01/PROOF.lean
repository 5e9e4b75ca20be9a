import PyProof.Rows.All
import Wide.All
import OpenK.AllK
import Wide.FinOn
import PyProof.EqAt
import PyProof.EqKinds
import PyProof.TupleCall
import HandS.ForMost
import HandS.Exc
import HandS.ExcOwn
import HandS.WordsExc
import HandS.Defaults
import HandS.IsInst
import HandS.More
import HandS.Style
import HandS.Head0
import HandS.Head1
import HandS.Head2
import HandS.HeadEnd
import HandS.HeadHook1
import HandS.HeadHook2
import HandS.Walk
import HandS.Codes
import HandS.Strs
import HandS.TupAny
import HandS.TryOnly
import HandS.DictComp
import HandS.Property
import HandS.MakeKw
import HandS.Finally
import OpenK.KMeth
import KE.KEqNest
import HandS.ExcInit
import HandS.ExcField
import HandS.HotCalls
import HandS.ExcCtx
import HandS.ExcInitHot
import HandS.MakeKwOnly
import PySem.Challenge.RW_onwardasks_k01_kind_told
set_option Elab.async false
set_option linter.all false
set_option maxRecDepth 100000
set_option maxHeartbeats 4000000
/-! Kb, 1: readings under short names, a deep description of data, what a step leaves alone. -/
namespace Kb
open PySem PySem.Spec PyProof.Rows L2

/-! ### readings under a name -/
def rJoin (K : PySem.W.Frag) : V → List V → Hp → VK → Prop := fun x xs H Q => ∃ a p, ∃ ys : List Str, x = .str a ∧ xs = [.ref p] ∧ (SqL K H p (ys.map V.str) ∨ SqT K H p (ys.map V.str)) ∧
  (ys.map (·.length)).sum + ys.length * a.length ≤ 16777216 ∧ Q (.str (Txt.join a ys)) H
def rAbs : List V → Hp → VK → Prop := fun xs H Q => ∃ i, xs = [.int i] ∧ Q (.int (if i < 0 then -i else i)) H
def rInt1 : List V → Hp → VK → Prop := fun xs H Q => (∃ i, xs = [.int i] ∧ Q (.int i) H) ∨ ∃ k, xs = [.bl k] ∧ Q (.int (if k then 1 else 0)) H
def rMin2 : List V → Hp → VK → Prop := fun xs H Q => ∃ i j, xs = [.int i, .int j] ∧ Q (.int (if j < i then j else i)) H
def rLenA (K : PySem.W.Frag) : List V → Hp → VK → Prop := fun xs H Q => ∃ x n, xs = [x] ∧ LenV K x H n ∧ Q (.int n) H
def rLenD : List V → Hp → VK → Prop := fun xs H Q => ∃ a kvs, xs = [V.ref a] ∧ H a = some (.dK kvs) ∧ Q (.int kvs.length) H
def rListOf (K : PySem.W.Frag) : List V → Hp → VK → Prop := fun xs H Q => ∃ p ys, xs = [.ref p] ∧ (SqL K H p ys ∨ SqT K H p ys) ∧ ∀ l, H l = none → Q (.ref l) (upd H l (.lst ys))
def rTupOf (K : PySem.W.Frag) : List V → Hp → VK → Prop := fun xs H Q => ∃ p ys, xs = [.ref p] ∧ ((SqL K H p ys ∧ ∀ l, H l = none → Q (.ref l) (upd H l (.tup ys))) ∨ (SqT K H p ys ∧ Q (.ref p) H))
def rDictD : List V → Hp → VK → Prop := fun xs H Q => ∃ (a : Addr) (kvs : List (Key × V)), xs = [.ref a] ∧ Rd H a (.dK kvs) ∧ ∀ p, H p = none → Q (.ref p) (upd H p (.dK kvs))
def rSortD : List V → Hp → VK → Prop := fun xs H Q => ∃ (a : Addr) (kvs : List (Key × V)) (ks : List Str), xs = [.ref a] ∧ Rd H a (.dK kvs) ∧ kvs.map (·.1) = ks.map Sum.inr ∧ ks.length < 64 ∧ ∀ ys p, ys.Perm ks → sortedS ys = true → H p = none → Q (.ref p) (upd H p (.lst (ys.map V.str)))
abbrev rAddI : R2 := rI0 fun i j => .int (i + j)
abbrev rSubI : R2 := rI0 fun i j => .int (i - j)
abbrev rMulI : R2 := rI CMul fun i j => .int (i * j)
abbrev rDivI : R2 := rI CDivN fun i j => .int (i.fdiv j)
abbrev rModI : R2 := rI (fun _ j => j ≠ 0) fun i j => .int (i.fmod j)
abbrev rPowI : R2 := rI CPow fun i j => .int (i ^ j.toNat)
abbrev rLtI : R2 := rI0 fun i j => .bl (decide (i < j))
abbrev rLeI : R2 := rI0 fun i j => .bl (decide (i ≤ j))
abbrev rGtI : R2 := rI0 fun i j => .bl (decide (j < i))
abbrev rGeI : R2 := rI0 fun i j => .bl (decide (j ≤ i))
def rInT (neg : Bool) : R2 := fun x y H Q => ∃ (c : Nat) (z : Str), x = .str ⟨#[c]⟩ ∧ y = .str z ∧ Q (.bl (if neg then !decide (c ∈ z.cps.toList) else decide (c ∈ z.cps.toList))) H
section
variable {X : Cx}
theorem kJoin : MtR X "str.join" (rJoin X.K) := mt_join
theorem kAbs : CallR X (.builtin "abs") rAbs := call_abs
theorem kInt1 : CallR X (.type "int") rInt1 := call_int1
theorem kMin2 (hc : X.calm = true) : CallR X (.builtin "min") rMin2 := call_min2 hc
theorem kLenA : CallR X (.builtin "len") (rLenA X.K) := call_len
theorem kLenD : CallR X (.builtin "len") rLenD := call_lenD
theorem kListOf : CallR X (.type "list") (rListOf X.K) := call_list_of
theorem kTupOf : CallR X (.type "tuple") (rTupOf X.K) := call_tuple_of
theorem kDictD : CallR X (.type "dict") rDictD := call_dictD
theorem kSortD (hc : X.calm = true) : CallR X (.builtin "sorted") rSortD := call_sortedD hc
theorem kAdd : OpR X (binaryOp .Add) rAddI := op_add
theorem kSub : OpR X (binaryOp .Sub) rSubI := op_sub
theorem kMul : OpR X (binaryOp .Mult) rMulI := op_mul
theorem kDiv : OpR X (binaryOp .FloorDiv) rDivI := op_fdivN
theorem kMod : OpR X (binaryOp .Mod) rModI := op_modN
theorem kPow : OpR X (binaryOp .Pow) rPowI := op_pow
theorem kLt : OpR X (compareOp .Lt) rLtI := op_lt
theorem kLe : OpR X (compareOp .LtE) rLeI := op_le
theorem kGt : OpR X (compareOp .Gt) rGtI := op_gt
theorem kGe : OpR X (compareOp .GtE) rGeI := op_ge
theorem kInT : OpR X (compareOp .In) (rInT false) := by
  intro pins s σ H x y v u Q I rx ry h
  exact op_in_sign pins s σ H x y v u Q I rx ry h
theorem kNotInT : OpR X (compareOp .NotIn) (rInT true) := by
  intro pins s σ H x y v u Q I rx ry h
  exact op_notIn_sign pins s σ H x y v u Q I rx ry h
end

/-- a frame's slots at the entry: n of them, the arguments first -/
abbrev st0 (n : Nat) (vs : List V) : L2.St := vs.map some ++ List.replicate (n - vs.length) none
/-- the end of a def's body -/
abbrev fin (Q : VK) : Ends := { nx := fun _ H' => Q .non H', rt := Q }

/-! ### data -/
/-- nested data of the program: None, truth values, ints, texts; tuples, lists, dicts with text keys -/
inductive D where
  | non | bl (b : Bool) | int (i : Int) | str (x : Str)
  | tup (ds : List D) | lst (ds : List D) | dct (kds : List (Str × D))

mutual
/-- v is the data d in H, none of its objects in M -/
def At (M : List Addr) (H : Hp) : D → V → Prop
  | .non, v => v = .non
  | .bl b, v => v = .bl b
  | .int i, v => v = .int i
  | .str x, v => v = .str x
  | .tup ds, v => ∃ p xs, v = .ref p ∧ p ∉ M ∧ H p = some (.tup xs) ∧ AtL M H ds xs
  | .lst ds, v => ∃ p xs, v = .ref p ∧ p ∉ M ∧ H p = some (.lst xs) ∧ AtL M H ds xs
  | .dct kds, v => ∃ p kvs, v = .ref p ∧ p ∉ M ∧ H p = some (.dK kvs) ∧ AtP M H kds kvs
def AtL (M : List Addr) (H : Hp) : List D → List V → Prop
  | [], xs => xs = []
  | d :: ds, xs => ∃ x r, xs = x :: r ∧ At M H d x ∧ AtL M H ds r
def AtP (M : List Addr) (H : Hp) : List (Str × D) → List (Key × V) → Prop
  | [], xs => xs = []
  | (k, d) :: ds, xs => ∃ x r, xs = (Sum.inr k, x) :: r ∧ At M H d x ∧ AtP M H ds r
end

/-- all but the objects in M are as they were; those stand, too -/
structure But (M : List Addr) (H H' : Hp) : Prop where
  keep : ∀ a o, a ∉ M → H a = some o → H' a = some o
  stand : ∀ a, H a ≠ none → H' a ≠ none
theorem But.refl {M : List Addr} {H : Hp} : But M H H := ⟨fun _ _ _ h => h, fun _ h => h⟩
theorem But.trans {M : List Addr} {H H1 H2 : Hp} (a : But M H H1) (b : But M H1 H2) : But M H H2 := ⟨fun x o m h => b.keep x o m (a.keep x o m h), fun x h => b.stand x (a.stand x h)⟩
theorem But.more {M M' : List Addr} {H H' : Hp} (a : But M H H') (s : ∀ x ∈ M, x ∈ M') : But M' H H' := ⟨fun x o m h => a.keep x o (fun z => m (s x z)) h, a.stand⟩
theorem But.upd {M : List Addr} {H H' : Hp} {p : Addr} {o : HO} (b : But M H H') (h : p ∈ M ∨ H p = none) : But M H (upd H' p o) := by
  refine ⟨fun a u m e => ?_, fun a n => ?_⟩
  · have n : a ≠ p := fun z => by
      rcases h with h | h
      · rw [z] at m
        exact m h
      · rw [z, h] at e
        cases e
    rw [upd_ne n]
    exact b.keep a u m e
  · by_cases z : a = p
    · rw [z, upd_same]
      exact fun q => nomatch q
    · rw [upd_ne z]
      exact b.stand a n
theorem But.upd' {M : List Addr} {H H' : Hp} {p : Addr} {o : HO} (b : But M H H') (h : H' p = none) : But M H (L2.upd H' p o) := b.upd (.inr (by
  cases q : H p with
  | none => rfl
  | some u => exact absurd h (b.stand p (by rw [q]; exact fun z => nomatch z))))
theorem But.new {M : List Addr} {H : Hp} {p : Addr} {o : HO} (h : H p = none) : But M H (L2.upd H p o) := But.refl.upd (.inr h)
theorem But.nil {M : List Addr} {H H' : Hp} (b : But [] H H') : But M H H' := b.more fun _ z => by cases z
theorem But.free {M : List Addr} {H H' : Hp} {p : Addr} (b : But M H H') (h : H' p = none) : H p = none := by
  cases q : H p with
  | none => rfl
  | some u => exact absurd h (b.stand p (by rw [q]; exact fun z => nomatch z))
/-- the objects in M stand -/
def Std (M : List Addr) (H : Hp) : Prop := ∀ x ∈ M, H x ≠ none
theorem Std.but {M M' : List Addr} {H H' : Hp} (s : Std M H) (b : But M' H H') : Std M H' := fun x m => b.stand x (s x m)
theorem Std.nil {H : Hp} : Std [] H := fun _ z => by cases z
theorem Std.cons {M : List Addr} {H : Hp} {a : Addr} {o : HO} (h : H a = some o) (s : Std M H) : Std (a :: M) H := fun x m => by
  rcases List.mem_cons.mp m with z | z
  · rw [z, h]
    exact fun q => nomatch q
  · exact s x z
theorem Std.no {M : List Addr} {H : Hp} {p : Addr} (s : Std M H) (h : H p = none) : p ∉ M := fun m => s p m h
theorem ne_none {H : Hp} {a : Addr} {o : HO} (h : H a = some o) : H a ≠ none := by
  rw [h]
  exact fun q => nomatch q

mutual
theorem At.mono' {M M' : List Addr} {H H' : Hp} (e : ∀ p o, p ∉ M → H p = some o → p ∉ M' ∧ H' p = some o) : ∀ (d : D) (v : V), At M H d v → At M' H' d v
  | .non, _, h => h
  | .bl _, _, h => h
  | .int _, _, h => h
  | .str _, _, h => h
  | .tup ds, _, h => by
    obtain ⟨p, xs, e1, m, hp, hl⟩ := h
    obtain ⟨m', hp'⟩ := e p _ m hp
    exact ⟨p, xs, e1, m', hp', AtL.mono' e ds xs hl⟩
  | .lst ds, _, h => by
    obtain ⟨p, xs, e1, m, hp, hl⟩ := h
    obtain ⟨m', hp'⟩ := e p _ m hp
    exact ⟨p, xs, e1, m', hp', AtL.mono' e ds xs hl⟩
  | .dct kds, _, h => by
    obtain ⟨p, xs, e1, m, hp, hl⟩ := h
    obtain ⟨m', hp'⟩ := e p _ m hp
    exact ⟨p, xs, e1, m', hp', AtP.mono' e kds xs hl⟩
theorem AtL.mono' {M M' : List Addr} {H H' : Hp} (e : ∀ p o, p ∉ M → H p = some o → p ∉ M' ∧ H' p = some o) : ∀ (ds : List D) (xs : List V), AtL M H ds xs → AtL M' H' ds xs
  | [], _, h => h
  | d :: ds, _, h => by
    obtain ⟨x, r, e1, h1, h2⟩ := h
    exact ⟨x, r, e1, At.mono' e d x h1, AtL.mono' e ds r h2⟩
theorem AtP.mono' {M M' : List Addr} {H H' : Hp} (e : ∀ p o, p ∉ M → H p = some o → p ∉ M' ∧ H' p = some o) : ∀ (ds : List (Str × D)) (xs : List (Key × V)), AtP M H ds xs → AtP M' H' ds xs
  | [], _, h => h
  | (k, d) :: ds, _, h => by
    obtain ⟨x, r, e1, h1, h2⟩ := h
    exact ⟨x, r, e1, At.mono' e d x h1, AtP.mono' e ds r h2⟩
end
section
variable {M M' : List Addr} {H H' : Hp} {d : D} {v : V} {ds : List D} {xs : List V}
theorem At.mono (b : But M H H') (h : At M H d v) : At M H' d v := At.mono' (fun p o m e => ⟨m, b.keep p o m e⟩) d v h
theorem AtL.mono (b : But M H H') (h : AtL M H ds xs) : AtL M H' ds xs := AtL.mono' (fun p o m e => ⟨m, b.keep p o m e⟩) ds xs h
/-- fewer objects are excluded -/
theorem At.less (s : ∀ x ∈ M', x ∈ M) (h : At M H d v) : At M' H d v := At.mono' (fun p o m e => ⟨fun z => m (s p z), e⟩) d v h
theorem AtL.less (s : ∀ x ∈ M', x ∈ M) (h : AtL M H ds xs) : AtL M' H ds xs := AtL.mono' (fun p o m e => ⟨fun z => m (s p z), e⟩) ds xs h
/-- an object that does not stand may be excluded -/
theorem At.excl {l : Addr} (n : H l = none) (h : At M H d v) : At (l :: M) H d v := At.mono' (fun p o m e => ⟨fun z => by
  rcases List.mem_cons.mp z with z | z
  · rw [z, n] at e
    cases e
  · exact m z, e⟩) d v h
theorem AtL.excl {l : Addr} (n : H l = none) (h : AtL M H ds xs) : AtL (l :: M) H ds xs := AtL.mono' (fun p o m e => ⟨fun z => by
  rcases List.mem_cons.mp z with z | z
  · rw [z, n] at e
    cases e
  · exact m z, e⟩) ds xs h
/-- v is the data d, made of objects that did not stand in H -/
def New (H H' : Hp) (d : D) (v : V) : Prop := ∀ M, Std M H → At M H' d v
def NewL (H H' : Hp) (ds : List D) (xs : List V) : Prop := ∀ M, Std M H → AtL M H' ds xs
theorem New.mono {H H1 H2 : Hp} {M : List Addr} (n : New H H1 d v) (s : Std M H) (b : But M H1 H2) : New H H2 d v := fun M' s' =>
  At.mono' (M := M' ++ M) (fun p o m e => ⟨fun z => m (List.mem_append.mpr (.inl z)), b.keep p o (fun z => m (List.mem_append.mpr (.inr z))) e⟩) d v (n (M' ++ M) fun x m => (List.mem_append.mp m).elim (s' x) (s x))
theorem NewL.mono {H H1 H2 : Hp} {M : List Addr} (n : NewL H H1 ds xs) (s : Std M H) (b : But M H1 H2) : NewL H H2 ds xs := fun M' s' =>
  AtL.mono' (M := M' ++ M) (fun p o m e => ⟨fun z => m (List.mem_append.mpr (.inl z)), b.keep p o (fun z => m (List.mem_append.mpr (.inr z))) e⟩) ds xs (n (M' ++ M) fun x m => (List.mem_append.mp m).elim (s' x) (s x))
/-- what is new over a later heap is new over an earlier one -/
theorem New.pre {H0 H H' : Hp} (b : ∀ a, H0 a ≠ none → H a ≠ none) (n : New H H' d v) : New H0 H' d v := fun M' s' => n M' fun x m => b x (s' x m)
theorem NewL.pre {H0 H H' : Hp} (b : ∀ a, H0 a ≠ none → H a ≠ none) (n : NewL H H' ds xs) : NewL H0 H' ds xs := fun M' s' => n M' fun x m => b x (s' x m)
theorem NewL.nil {H H' : Hp} : NewL H H' [] [] := fun _ _ => rfl
theorem NewL.cons {H H' : Hp} (h : New H H' d v) (t : NewL H H' ds xs) : NewL H H' (d :: ds) (v :: xs) := fun M s => ⟨v, xs, rfl, h M s, t M s⟩
theorem New.str {H H' : Hp} {x : Str} : New H H' (.str x) (.str x) := fun _ _ => rfl
theorem New.bl {H H' : Hp} {x : Bool} : New H H' (.bl x) (.bl x) := fun _ _ => rfl
theorem New.int {H H' : Hp} {x : Int} : New H H' (.int x) (.int x) := fun _ _ => rfl
theorem New.non {H H' : Hp} : New H H' .non .non := fun _ _ => rfl
theorem NewL.strs {H H' : Hp} : ∀ {xs : List Str}, NewL H H' (xs.map D.str) (xs.map V.str)
  | [] => NewL.nil
  | x :: xs => NewL.cons New.str NewL.strs
/-- a tuple, a list, a dict is laid over new parts -/
theorem New.tup {H H1 : Hp} {p : Addr} (n : NewL H H1 ds xs) (b : ∀ a, H a ≠ none → H1 a ≠ none) (hp : H1 p = none) : New H (upd H1 p (.tup xs)) (.tup ds) (.ref p) := fun M s =>
  ⟨p, xs, rfl, fun m => b p (s p m) hp, upd_same, AtL.mono (But.new hp) (n M s)⟩
theorem New.lst {H H1 : Hp} {p : Addr} (n : NewL H H1 ds xs) (b : ∀ a, H a ≠ none → H1 a ≠ none) (hp : H1 p = none) : New H (upd H1 p (.lst xs)) (.lst ds) (.ref p) := fun M s =>
  ⟨p, xs, rfl, fun m => b p (s p m) hp, upd_same, AtL.mono (But.new hp) (n M s)⟩
theorem AtL.length : ∀ {ds : List D} {xs : List V}, AtL M H ds xs → xs.length = ds.length
  | [], _, h => by
    cases h
    rfl
  | d :: ds, _, h => by
    obtain ⟨x, r, e1, h1, h2⟩ := h
    subst e1
    rw [List.length_cons, List.length_cons, AtL.length h2]
theorem AtL.get : ∀ {ds : List D} {xs : List V} {i : Nat} {x : V}, AtL M H ds xs → xs[i]? = some x → ∃ d, ds[i]? = some d ∧ At M H d x
  | [], _, i, x, h, e => by
    cases h
    simp at e
  | d :: ds, _, 0, x, h, e => by
    obtain ⟨y, r, e1, h1, h2⟩ := h
    subst e1
    simp at e
    subst e
    exact ⟨d, rfl, h1⟩
  | d :: ds, _, i + 1, x, h, e => by
    obtain ⟨y, r, e1, h1, h2⟩ := h
    subst e1
    obtain ⟨d', q1, q2⟩ := AtL.get (i := i) (x := x) h2 (by simpa using e)
    exact ⟨d', by simpa using q1, q2⟩
theorem AtL.snoc : ∀ {ds : List D} {xs : List V} {d : D} {x : V}, AtL M H ds xs → At M H d x → AtL M H (ds ++ [d]) (xs ++ [x])
  | [], _, d, x, h, hx => by
    cases h
    exact ⟨x, [], rfl, hx, rfl⟩
  | d0 :: ds, _, d, x, h, hx => by
    obtain ⟨y, r, e1, h1, h2⟩ := h
    subst e1
    exact ⟨y, r ++ [x], rfl, h1, AtL.snoc h2 hx⟩
end
end Kb

set_option Elab.async false
set_option linter.all false
set_option maxRecDepth 100000
set_option maxHeartbeats 4000000
/-! Kb, 2: the law's drawing machine: what each of its defs promises, and why. -/
namespace Kb
open PySem PySem.Spec PyProof.Rows L2

/-- the machine's state at a: its cells at c, two counters -/
structure StAt (H : Hp) (a c : Addr) : Prop where
  ne : a ≠ c
  st : ∃ p n : Int, H a = some (.lst [.ref c, .int p, .int n])
  cs : ∃ ns : List Int, H c = some (.lst (ns.map V.int)) ∧ ns ≠ [] ∧ ns.length ≤ 63
theorem StAt.mono {H H' : Hp} {a c : Addr} {M : List Addr} (S : StAt H a c) (ha : a ∉ M) (hc : c ∉ M) (b : But M H H') : StAt H' a c := by
  obtain ⟨ne, ⟨p, n, h1⟩, ns, h2, h3⟩ := S
  exact ⟨ne, ⟨p, n, b.keep _ _ ha h1⟩, ns, b.keep _ _ hc h2, h3⟩

theorem StAt.std {H : Hp} {a c : Addr} (S : StAt H a c) : Std [a, c] H := by
  obtain ⟨ne, ⟨p, n, h1⟩, ns, h2, h3⟩ := S
  exact Std.cons h1 (Std.cons h2 Std.nil)
theorem StAt.no {H : Hp} {a c p : Addr} (S : StAt H a c) (h : H p = none) : p ∉ [a, c] := S.std.no h
/-- an object is laid, or one outside is changed -/
theorem StAt.upd {H : Hp} {a c p : Addr} {o : HO} (S : StAt H a c) (h : p ∉ [a, c]) : StAt (upd H p o) a c :=
  S.mono (M := [p]) (fun m => h (by rw [List.mem_singleton.mp m]; simp)) (fun m => h (by rw [List.mem_singleton.mp m]; simp)) (But.refl.upd (.inl (by simp)))
theorem StAt.new {H : Hp} {a c p : Addr} {o : HO} (S : StAt H a c) (h : H p = none) : StAt (L2.upd H p o) a c := S.upd (S.no h)
theorem StAt.nil {H H' : Hp} {a c : Addr} (S : StAt H a c) (b : But [] H H') : StAt H' a c := S.mono (M := []) (by simp) (by simp) b

/-! ### _law_draw -/
def sp_l_draw (K : PySem.W.Frag) : Sp := fun vs H Q _ => ∃ (a c : Addr) (m : Int), vs = [.ref a, .int m] ∧ StAt H a c ∧ 0 < m ∧ m ≤ 1000 ∧
  ∀ (r : Int) (H' : Hp), 0 ≤ r → r < m → StAt H' a c → But [a, c] H H' → Q (.int r) H'
def t_l_draw (K : PySem.W.Frag) : TS :=
  (tSeq (tAsg (tOp (rIxL K) (tVar 0) (tC (.int 0))) (gName 2))
  (tSeq (tAsg (tOp rModI (tCB rInt1 (tCons (tOp (rIxL K) (tVar 0) (tC (.int 1))) tNil)) (tCB (rLenA K) (tCons (tVar 2) tNil))) (gName 3))
  (tSeq (tAsg (tOp rAddI (tOp (rIxL K) (tVar 0) (tC (.int 1))) (tC (.int 1))) (gSub (tVar 0) (tC (.int 1)) rSetL))
  (tSeq (tAsg (tOp (rIxL K) (tVar 2) (tVar 3)) (gName 4))
  (tSeq (tIfS (tTest (tOp rGeI (tVar 4) (tOp rPowI (tC (.int 10)) (tC (.int 18)))))
    (tSeq (tAsg (tOp rDivI (tVar 4) (tVar 1)) (gSub (tVar 2) (tVar 3) rSetL))
  (tRet (tOp rModI (tCB rInt1 (tCons (tVar 4) tNil)) (tVar 1))))
    tNext)
  (tSeq (tAsg (tOp rAddI (tOp (rIxL K) (tVar 0) (tC (.int 2))) (tC (.int 1))) (gSub (tVar 0) (tC (.int 2)) rSetL))
  (tSeq (tAsg (tOp rModI (tCB rInt1 (tCons (tOp rMulI (tOp rAddI (tOp rAddI (tVar 4) (tOp rMulI (tC (.int 7919)) (tOp (rIxL K) (tVar 0) (tC (.int 2))))) (tC (.int 1))) (tC (.int 48271))) tNil)) (tC (.int 2147483647))) (gName 5))
  (tSeq (tAsg (tOp rModI (tCB rInt1 (tCons (tOp rMulI (tVar 5) (tOp rAddI (tOp rDivI (tVar 5) (tC (.int 1009))) (tC (.int 69621)))) tNil)) (tC (.int 2147483647))) (gName 5))
  (tSeq (tAsg (tOp rModI (tCB rInt1 (tCons (tOp rMulI (tVar 5) (tOp rAddI (tOp rDivI (tVar 5) (tC (.int 2003))) (tC (.int 40692)))) tNil)) (tC (.int 2147483399))) (gName 5))
  (tRet (tOp rModI (tCB rInt1 (tCons (tOp rDivI (tVar 5) (tC (.int 16))) tNil)) (tVar 1))))))))))))

theorem fmod_lo {x y : Int} (h : 0 < y) : 0 ≤ x.fmod y := by
  rw [Int.fmod_eq_emod_of_nonneg _ (Int.le_of_lt h)]
  exact Int.emod_nonneg _ (by omega)
theorem fmod_hi {x y : Int} (h : 0 < y) : x.fmod y < y := by
  rw [Int.fmod_eq_emod_of_nonneg _ (Int.le_of_lt h)]
  exact Int.emod_lt_of_pos _ h
theorem cmul_fmod {x y : Int} (h : 0 < y) (h2 : y ≤ 9223372036854775808) : -(2 ^ 64) < x.fmod y ∧ x.fmod y < 2 ^ 64 := by
  have a := fmod_lo (x := x) h
  have b := fmod_hi (x := x) h
  exact ⟨by omega, by omega⟩
theorem set_int {ns : List Int} {j : Nat} {z : Int} : (ns.map V.int).set j (.int z) = (ns.set j z).map V.int := by
  rw [List.map_set]

theorem pure_l_draw {K : PySem.W.Frag} (vs : List V) (H : Hp) (Q : VK) (E : XK) (h : sp_l_draw K vs H Q E) : t_l_draw K (fin Q) (st0 6 vs) H := by
  obtain ⟨a, c, m, rfl, S, hm, hm2, k⟩ := h
  obtain ⟨ne, ⟨p, n, hs⟩, ns, hc, hne, hlen⟩ := S
  have hl0 : (0 : Int) < (ns.length : Int) := by
    cases ns with
    | nil => exact absurd rfl hne
    | cons _ _ => simp only [List.length_cons]; omega
  have hlm : (ns.map V.int).length = ns.length := List.length_map ..
  -- cells = s[0]
  refine ⟨_, rfl, _, _, _, _, rfl, rfl, SqL.of hs, rfl, ?_⟩
  -- place = int(s[1]) % len(cells)
  refine ⟨_, rfl, _, _, _, _, rfl, rfl, SqL.of hs, rfl, .inl ⟨p, rfl, _, rfl, _, (ns.map V.int).length, rfl, .inl ⟨_, SqL.of hc, rfl⟩, _, _, rfl, rfl, (by rw [hlm]; omega), ?_⟩⟩
  -- s[1] = s[1] + 1
  refine ⟨_, rfl, _, _, _, _, rfl, rfl, SqL.of hs, rfl, _, _, rfl, rfl, _, rfl, _, _, _, 1, rfl, rfl, hs, rfl, ?_⟩
  -- number = cells[place]
  have j0 : 0 ≤ p.fmod ((ns.map V.int).length : Int) := by rw [hlm]; exact fmod_lo hl0
  have j1 : p.fmod ((ns.map V.int).length : Int) < (ns.length : Int) := by rw [hlm]; exact fmod_hi hl0
  obtain ⟨i, hj⟩ : ∃ i : Nat, p.fmod ((ns.map V.int).length : Int) = (i : Int) := ⟨_, (Int.toNat_of_nonneg j0).symm⟩
  have hi : i < ns.length := by omega
  have hx : (ns.map V.int)[i]? = some (.int ns[i]) := by rw [List.getElem?_map, List.getElem?_eq_getElem hi] <;> rfl
  have hc1 : ∀ o, (upd H a o) c = some (.lst (ns.map V.int)) := fun o => by rw [upd_ne (Ne.symm ne)]; exact hc
  refine ⟨_, rfl, _, rfl, _, _, _, _, rfl, rfl, SqL.of (hc1 _), at_of hj hx, ?_⟩
  -- if number >= 10 ** 18
  have hixn : ixN (ns.map V.int).length (p.fmod ((ns.map V.int).length : Int)) = some i := by
    rw [hj]
    unfold ixN
    rw [if_pos (by omega), if_pos (by rw [hlm]; omega)]
    rfl
  refine ⟨_, rfl, _, _, rfl, rfl, ⟨by decide, by decide, by decide⟩, _, _, rfl, rfl, _, rfl, ?_⟩
  refine ite2 (fun _ => ?_) (fun _ => ?_)
  · -- cells[place] = number // m; return int(number) % m
    refine ⟨_, rfl, _, rfl, _, _, rfl, rfl, ⟨by omega, by omega⟩, _, rfl, _, rfl, _, _, _, i, rfl, rfl, hc1 _, hixn, ?_⟩
    refine ⟨_, rfl, .inl ⟨_, rfl, _, rfl, _, _, rfl, rfl, (by omega), ?_⟩⟩
    refine k _ _ (fmod_lo hm) (fmod_hi hm) ⟨ne, ⟨p + 1, n, ?_⟩, ns.set i (ns[i].fdiv m), ?_, ?_, ?_⟩ ?_
    · rw [upd_ne ne, upd_same]
      rfl
    · rw [upd_same, set_int]
    · intro z
      have := congrArg List.length z
      rw [List.length_set] at this
      simp at this
      exact hne this
    · rw [List.length_set]
      exact hlen
    · exact (But.refl.upd (.inl (by simp))).upd (.inl (by simp))
  · -- s[2] = s[2] + 1
    refine ⟨_, rfl, _, _, _, _, rfl, rfl, SqL.of upd_same, rfl, _, _, rfl, rfl, _, rfl, _, _, _, 2, rfl, rfl, upd_same, rfl, ?_⟩
    -- mixed
    refine ⟨_, rfl, _, rfl, _, _, _, _, rfl, rfl, SqL.of upd_same, rfl, _, _, rfl, rfl, .inl ⟨by decide, by decide⟩, _, _, rfl, rfl, _, _, rfl, rfl, _, _, rfl, rfl, .inr ⟨by decide, by decide⟩, .inl ⟨_, rfl, _, _, rfl, rfl, (by show (_ : Int) ≠ 0; decide), ?_⟩⟩
    refine ⟨_, rfl, _, rfl, _, _, rfl, rfl, ⟨by decide, by decide⟩, _, _, rfl, rfl, _, _, rfl, rfl,   .inl (cmul_fmod (by decide) (by decide)), .inl ⟨_, rfl, _, _, rfl, rfl, (by show (_ : Int) ≠ 0; decide), ?_⟩⟩
    refine ⟨_, rfl, _, rfl, _, _, rfl, rfl, ⟨by decide, by decide⟩, _, _, rfl, rfl, _, _, rfl, rfl,   .inl (cmul_fmod (by decide) (by decide)), .inl ⟨_, rfl, _, _, rfl, rfl, (by show (_ : Int) ≠ 0; decide), ?_⟩⟩
    refine ⟨_, rfl, _, _, rfl, rfl, ⟨by decide, by decide⟩, .inl ⟨_, rfl, _, rfl, _, _, rfl, rfl, (by omega), ?_⟩⟩
    refine k _ _ (fmod_lo hm) (fmod_hi hm) ⟨ne, ⟨p + 1, n + 1, ?_⟩, ns, ?_, hne, hlen⟩ ?_
    · rw [upd_same]
      rfl
    · rw [upd_ne (Ne.symm ne)]
      exact hc1 _
    · exact (But.refl.upd (.inl (by simp))).upd (.inl (by simp))
end Kb
namespace Kb
open PySem PySem.Spec PyProof.Rows L2
theorem len_l_draw {K : PySem.W.Frag} {vs : List V} {H : Hp} {Q : VK} {E : XK} (h : sp_l_draw K vs H Q E) : vs.length = 2 := by
  obtain ⟨a, c, m, rfl, _⟩ := h
  rfl
end Kb

set_option Elab.async false
set_option linter.all false
set_option maxRecDepth 100000
set_option maxHeartbeats 4000000
/-! Kb, 3: names and lists that are drawn. -/
namespace Kb
open PySem PySem.Spec PyProof.Rows L2

abbrev cs (x : Str) : List Nat := x.cps.toList
/-- a name: 1 to 8 letters from a to z -/
structure IsName (x : Str) : Prop where
  lo : 1 ≤ (cs x).length
  hi : (cs x).length ≤ 8
  az : ∀ c ∈ cs x, 97 ≤ c ∧ c ≤ 122
def AZ : Str := "abcdefghijklmnopqrstuvwxyz"
theorem az_get {i : Nat} (h : i < 26) : (cs AZ)[i]? = some (97 + i) := by
  have a : ∀ i, i < 26 → (cs AZ)[i]? = some (97 + i) := by decide +kernel
  exact a i h
theorem az_len : AZ.length ≤ sizeLine := by decide +kernel
theorem az_cs : cs AZ = (List.range 26).map (97 + ·) := by decide +kernel
theorem az_mem {c : Nat} : c ∈ cs AZ ↔ 97 ≤ c ∧ c ≤ 122 := by
  rw [az_cs]
  simp only [List.mem_map, List.mem_range]
  constructor
  · rintro ⟨a, h, rfl⟩
    omega
  · intro h
    exact ⟨c - 97, by omega, by omega⟩
theorem joinL_one : ∀ ps : List (List Nat), TL.joinL [] ps = ps.flatten
  | [] => rfl
  | [p] => by simp [TL.joinL]
  | p :: q :: r => by
    show p ++ ([] ++ TL.joinL [] (q :: r)) = _
    rw [joinL_one (q :: r), List.nil_append]
    simp only [List.flatten_cons]
theorem cs_one (c : Nat) : cs (⟨#[c]⟩ : Str) = [c] := rfl
theorem cs_join {ns : List Nat} : cs (Txt.join ("" : Str) (ns.map fun c => (⟨#[c]⟩ : Str))) = ns := by
  have e := TL.tl_join ("" : Str) (ns.map fun c => (⟨#[c]⟩ : Str))
  have e2 : TL.tl ("" : Str) = [] := by decide +kernel
  rw [e2, joinL_one, List.map_map] at e
  rw [TL.join_eq]
  refine Eq.trans e ?_
  clear e e2
  induction ns with
  | nil => rfl
  | cons a l ih =>
    rw [List.map_cons, List.flatten_cons, ih]
    rfl
theorem str_ext {x y : Str} (h : cs x = cs y) : x = y := by
  cases x with
  | mk a =>
    cases y with
    | mk b =>
      have : a.toList = b.toList := h
      rw [Array.toList_inj.mp this]
theorem pigeon {α : Type} [DecidableEq α] : ∀ {l ws : List α}, l.Nodup → (∀ x ∈ l, x ∈ ws) → l.length ≤ ws.length
  | [], ws, _, _ => Nat.zero_le _
  | x :: l, ws, hn, hs => by
    obtain ⟨h1, h2⟩ := List.nodup_cons.mp hn
    have hx : x ∈ ws := hs x (List.mem_cons_self ..)
    have h3 : l.length ≤ (ws.erase x).length := pigeon h2 fun y hy => by
      have hne : y ≠ x := fun z => h1 (z ▸ hy)
      exact (List.mem_erase_of_ne hne).mpr (hs y (List.mem_cons_of_mem _ hy))
    have h4 := List.length_erase_of_mem hx
    have h5 : 0 < ws.length := List.length_pos_of_mem hx
    rw [List.length_cons]
    omega

/-! ### flat lists -/
theorem flat_strs {ws : List Str} : (ws.map V.str).all flatV = true := by
  rw [List.all_map]
  exact List.all_eq_true.mpr fun _ _ => rfl
theorem inV_strs {w : Str} {ws : List Str} : inV (.str w) (ws.map V.str) = decide (w ∈ ws) := by
  unfold inV
  rw [List.any_map]
  induction ws with
  | nil => rfl
  | cons a l ih =>
    rw [List.any_cons, ih]
    have e : ((fun y => eqV y (V.str w)) ∘ V.str) a = decide (a = w) := by
      show (a == w) = _
      by_cases h : a = w
      · rw [h, decide_eq_true rfl]
        exact beq_self_eq_true w
      · rw [decide_eq_false h]
        exact beq_eq_false_iff_ne.mpr h
    rw [e]
    by_cases h : a = w
    · subst h
      simp
    · have h' : ¬ w = a := fun z => h z.symm
      simp [h, h']

/-! ### _law_pick -/
def sp_l_pick (K : PySem.W.Frag) : Sp := fun vs H Q _ => ∃ (a c r : Addr) (xs : List V), vs = [.ref a, .ref r] ∧ StAt H a c ∧ r ∉ [a, c] ∧ H r = some (.lst xs) ∧ xs ≠ [] ∧ xs.length ≤ 1000 ∧
  ∀ (x : V) (H' : Hp), x ∈ xs → StAt H' a c → But [a, c] H H' → Q x H'
theorem len_l_pick {K : PySem.W.Frag} {vs : List V} {H : Hp} {Q : VK} {E : XK} (h : sp_l_pick K vs H Q E) : vs.length = 2 := by
  obtain ⟨a, c, m, xs, rfl, _⟩ := h
  rfl
def t_l_pick (K : PySem.W.Frag) : TS :=
  (tRet (tOp (rIxL K) (tVar 1) (tCall (sp_l_draw K) [] E0 (tCons (tVar 0) (tCons (tCB (rLenA K) (tCons (tVar 1) tNil)) tNil)))))
theorem idx_of {n : Int} {k : Nat} (h0 : 0 ≤ n) (h1 : n < (k : Int)) : ∃ i : Nat, n = (i : Int) ∧ i < k := ⟨n.toNat, by omega, by omega⟩
theorem pure_l_pick {K : PySem.W.Frag} (vs : List V) (H : Hp) (Q : VK) (E : XK) (h : sp_l_pick K vs H Q E) : t_l_pick K (fin Q) (st0 2 vs) H := by
  obtain ⟨a, c, r, xs, rfl, S, hr, hx, hne, hl, k⟩ := h
  have h0 : 0 < xs.length := List.length_pos_iff.mpr hne
  refine ⟨_, rfl, _, rfl, _, rfl, _, xs.length, rfl, .inl ⟨_, SqL.of hx, rfl⟩, a, c, xs.length, rfl, S, by omega, by omega, fun n H' h1 h2 S' B => ?_⟩
  obtain ⟨i, rfl, hi⟩ := idx_of h1 h2
  exact ⟨_, _, _, _, rfl, rfl, SqL.of (B.keep _ _ hr hx), atI_nat (List.getElem?_eq_getElem hi), k _ _ (List.getElem_mem hi) S' B⟩

/-! ### _law_word -/
def sp_l_word (K : PySem.W.Frag) : Sp := fun vs H Q _ => ∃ (a c r : Addr) (ws : List Str), vs = [.ref a, .ref r] ∧ StAt H a c ∧ r ∉ [a, c] ∧ H r = some (.lst (ws.map V.str)) ∧ ws.length ≤ 11 ∧
  ∀ (w : Str) (H' : Hp), IsName w → w ∉ ws → StAt H' a c → But [a, c] H H' → Q (.str w) H'
theorem len_l_word {K : PySem.W.Frag} {vs : List V} {H : Hp} {Q : VK} {E : XK} (h : sp_l_word K vs H Q E) : vs.length = 2 := by
  obtain ⟨a, c, m, xs, rfl, _⟩ := h
  rfl
def t_l_word (K : PySem.W.Frag) : TS :=
  (tSeq (tAsg (tC (.str ("abcdefghijklmnopqrstuvwxyz" : Str))) (gName 2))
  (tSeq (tAsg (tOp (rIxL K) (tLst (tCons (tC (.int 1)) (tCons (tC (.int 1)) (tCons (tC (.int 2)) (tCons (tC (.int 8)) (tCons (tC (.int 3)) (tCons (tC (.int 5)) (tCons (tC (.int 4)) (tCons (tC (.int 7)) (tCons (tC (.int 6)) tNil)))))))))) (tCall (sp_l_draw K) [] E0 (tCons (tVar 0) (tCons (tC (.int 9)) tNil)))) (gName 3))
  (tSeq (tAsg (tM1 (rJoin K) (tC (.str ("" : Str))) (tLc (iRng1 (tCons (tVar 3) tNil)) (gName 5) tYes (tOp rIxS (tVar 2) (tCall (sp_l_draw K) [] E0 (tCons (tVar 0) (tCons (tC (.int 26)) tNil)))) [5])) (gName 4))
  (tSeq (tIfS (tTest (tOp (rIn K false) (tVar 4) (tVar 1)))
    (tRet (tOp (rIxL K) (tLc (iStr (tC (.str ("qwertyuiopas" : Str)))) (gName 6) (tTest (tOp (rIn K true) (tVar 6) (tVar 1))) (tVar 6) [6]) (tC (.int 0))))
    tNext)
  (tRet (tVar 4))))))
def QW : Str := "qwertyuiopas"
theorem qw_name : ∀ c ∈ cs QW, IsName (⟨#[c]⟩ : Str) := by
  have h : ∀ c ∈ cs QW, 97 ≤ c ∧ c ≤ 122 := by decide +kernel
  intro c hc
  refine ⟨by rw [cs_one, List.length_singleton]; decide, by rw [cs_one, List.length_singleton]; decide, fun d hd => ?_⟩
  rw [cs_one] at hd
  rw [List.mem_singleton.mp hd]
  exact h c hc
theorem qw_free {ws : List Str} (h : ws.length ≤ 11) : ∃ c ∈ cs QW, (⟨#[c]⟩ : Str) ∉ ws := by
  refine Classical.byContradiction fun n => ?_
  have hn : ((cs QW).map fun c => (⟨#[c]⟩ : Str)).Nodup := by decide +kernel
  have hl : ((cs QW).map fun c => (⟨#[c]⟩ : Str)).length = 12 := by decide +kernel
  have := pigeon (ws := ws) hn fun x hx => by
    obtain ⟨c, hc, rfl⟩ := List.mem_map.mp hx
    exact Classical.byContradiction fun z => n ⟨c, hc, z⟩
  omega
theorem sum_ones : ∀ ns : List Nat, ((ns.map fun c => (⟨#[c]⟩ : Str)).map (·.length)).sum = ns.length
  | [] => rfl
  | c :: ns => by
    rw [List.map_cons, List.map_cons, List.sum_cons, List.length_cons, sum_ones ns]
    show 1 + _ = _
    omega
theorem word_tail {K : PySem.W.Frag} {r : Addr} {ws : List Str} {w : Str} {H : Hp} {Q : VK} {σ : L2.St} (hw : ws.length ≤ 11) (h1 : σ[1]? = some (some (.ref r))) (h4 : σ[4]? = some (some (.str w))) (hσ : σ.length = 7) (hr : H r = some (.lst (ws.map V.str))) (nw : IsName w)
    (k : ∀ (w : Str) (H' : Hp), IsName w → w ∉ ws → But [] H H' → Q (.str w) H') :
    (tSeq (tIfS (tTest (tOp (rIn K false) (tVar 4) (tVar 1)))
    (tRet (tOp (rIxL K) (tLc (iStr (tC (.str ("qwertyuiopas" : Str)))) (gName 6) (tTest (tOp (rIn K true) (tVar 6) (tVar 1))) (tVar 6) [6]) (tC (.int 0))))
    tNext)
  (tRet (tVar 4))) (fin Q) σ H := by
  refine ⟨_, h4, _, h1, _, _, rfl, .inl (SqL.of hr), rfl, flat_strs, _, rfl, ?_⟩
  show (if (if false = true then !inV (V.str w) (ws.map V.str) else inV (V.str w) (ws.map V.str)) = true then _ else _)
  rw [if_neg Bool.false_ne_true, inV_strs]
  refine ite2 (fun _ => ?_) (fun hnw => ?_)
  · -- [x for x in 'qwertyuiopas' if x not in taken][0]
    refine ⟨QW, rfl, fun Dl hD => ?_⟩
    refine lc_it walk_str (fun i H' => ∃ acc : List Str, H' Dl = some (.lst (acc.map V.str)) ∧ acc.length ≤ i ∧ (∀ x ∈ acc, x ∉ ws ∧ IsName x) ∧ (∀ (j : Nat) ch, j < i → (cs QW)[j]? = some ch → (⟨#[ch]⟩ : Str) ∉ ws → acc ≠ []) ∧ But [] H H')
      ⟨[], upd_same, Nat.le_refl _, (fun _ z => by cases z), (fun j ch hj _ _ => absurd hj (Nat.not_lt_zero _)), But.new hD⟩ (fun _ _ _ _ => trivial) ?_ ?_
    · rintro i x H1 H2 hi ⟨acc, g1, g2, g3, g4, B⟩ ⟨rfl, ch, hch, rfl⟩
      have hch' : (cs QW)[i]? = some ch := by rw [Array.getElem?_toList]; exact hch
      have hmem : ch ∈ cs QW := List.mem_of_getElem? hch'
      have hr1 : H2 r = some (.lst (ws.map V.str)) := B.keep _ _ (by simp) hr
      have e6 : ∀ z : Option V, (((wipe σ [6]).set 6 z))[6]? = some z := fun z => by
        rw [List.getElem?_set_self]
        rw [wipe_length, hσ]
        decide
      have e1 : ∀ z : Option V, (((wipe σ [6]).set 6 z))[1]? = some (some (.ref r)) := fun z => by
        show ((σ.set 6 none).set 6 z)[1]? = _
        rw [List.getElem?_set_ne (by decide), List.getElem?_set_ne (by decide)]
        exact h1
      refine ⟨by show ((σ.set 6 none).set 6 _).set 6 none = σ.set 6 none; rw [List.set_set, List.set_set], _, e6 _, _, e1 _, _, _, rfl, .inl (SqL.of hr1), rfl, flat_strs, _, rfl, ?_⟩
      show (if (if true = true then !inV (V.str ⟨#[ch]⟩) (ws.map V.str) else inV (V.str ⟨#[ch]⟩) (ws.map V.str)) = true then _ else _)
      rw [if_pos rfl, inV_strs]
      refine ite2 (fun hin => ?_) (fun hin => ?_)
      · have hni : (⟨#[ch]⟩ : Str) ∉ ws := by simpa using hin
        refine ⟨_, e6 _, _, g1, ?_, acc ++ [⟨#[ch]⟩], ?_, ?_, ?_, ?_, ?_⟩
        · have : QW.cps.size = 12 := by decide +kernel
          rw [List.length_map]
          exact small1000 (by omega)
        · rw [upd_same, List.map_append]
          rfl
        · rw [List.length_append]
          simp
          omega
        · intro x hx
          rcases List.mem_append.mp hx with hx | hx
          · exact g3 x hx
          · rw [List.mem_singleton.mp hx]
            exact ⟨hni, qw_name ch hmem⟩
        · intro j c' hj hc' hf z
          exact absurd (congrArg List.length z) (by simp)
        · exact B.upd (.inr hD)
      · have hyi : (⟨#[ch]⟩ : Str) ∈ ws := by simpa using hin
        refine ⟨acc, g1, by omega, g3, fun j c' hj hc' hf => ?_, B⟩
        by_cases hji : j = i
        · subst hji
          rw [hch'] at hc'
          exact absurd hyi (by rw [Option.some.inj hc']; exact hf)
        · exact g4 j c' (by omega) hc' hf
    · rintro H1 ⟨acc, g1, g2, g3, g4, B⟩
      obtain ⟨ch, hm, hf⟩ := qw_free hw
      obtain ⟨j, hj, ej⟩ := List.getElem_of_mem hm
      have hne : acc ≠ [] := g4 j ch (by simpa using hj) (by rw [List.getElem?_eq_getElem hj, ej]) hf
      cases acc with
      | nil => exact absurd rfl hne
      | cons w0 r0 =>
        obtain ⟨h5, h6⟩ := g3 w0 (List.mem_cons_self ..)
        exact ⟨_, _, _, _, rfl, rfl, SqL.of g1, at_of (j := 0) rfl rfl, k _ _ h6 h5 B⟩
  · exact ⟨_, h4, k w H nw (by simpa using hnw) But.refl⟩
theorem pure_l_word {K : PySem.W.Frag} (vs : List V) (H : Hp) (Q : VK) (E : XK) (h : sp_l_word K vs H Q E) : t_l_word K (fin Q) (st0 7 vs) H := by
  obtain ⟨a, c, r, ws, rfl, S, hr, hx, hl, k⟩ := h
  refine ⟨by show 9 ≤ sizeLine; decide, fun p hp => ?_⟩
  refine ⟨_, rfl, a, c, 9, rfl, S.mono (M := []) (by simp) (by simp) (But.new hp), by decide, by decide, fun n H1 h1 h2 S1 B1 => ?_⟩
  have npa : p ∉ [a, c] := S.no hp
  obtain ⟨i, rfl, hi⟩ := idx_of (k := 9) h1 h2
  have hp1 := B1.keep p _ npa upd_same
  have hsz : ∃ z : Nat, ([1, 1, 2, 8, 3, 5, 4, 7, 6] : List Int)[i]? = some (z : Int) ∧ 1 ≤ z ∧ z ≤ 8 := by
    have : ∀ i, i < 9 → ∃ z : Nat, z ≤ 8 ∧ ([1, 1, 2, 8, 3, 5, 4, 7, 6] : List Int)[i]? = some (z : Int) ∧ 1 ≤ z := by decide
    obtain ⟨z, z1, z2, z3⟩ := this i hi
    exact ⟨z, z2, z3, z1⟩
  obtain ⟨z, hz, z1, z8⟩ := hsz
  have hz' : ([.int 1, .int 1, .int 2, .int 8, .int 3, .int 5, .int 4, .int 7, .int 6] : List V)[i]? = some (.int (z : Int)) := by
    have e : ([.int 1, .int 1, .int 2, .int 8, .int 3, .int 5, .int 4, .int 7, .int 6] : List V) = ([1, 1, 2, 8, 3, 5, 4, 7, 6] : List Int).map V.int := rfl
    rw [e, List.getElem?_map, hz]
    rfl
  refine ⟨_, _, _, _, rfl, rfl, SqL.of hp1, atI_nat hz', ?_⟩
  have B01 : But [a, c] H H1 := (But.new hp).trans B1
  -- ''.join([letters[draw(26)] for k in range(size)])
  refine ⟨⟨_, rfl⟩, _, rfl, (z : Int), rfl, by omega, by omega, fun Dl hD => ?_⟩
  refine lc_it walk_range (fun i H' => ∃ ns : List Nat, H' Dl = some (.lst ((ns.map fun c => (⟨#[c]⟩ : Str)).map V.str)) ∧ ns.length = i ∧ (∀ c ∈ ns, 97 ≤ c ∧ c ≤ 122) ∧ StAt H' a c ∧ But [a, c] H H' ∧ Dl ∉ [a, c])
    ⟨[], upd_same, rfl, (fun _ z => by cases z), S1.mono (M := []) (by simp) (by simp) (But.new hD), B01.upd' hD, S1.no hD⟩ (fun _ _ _ _ => trivial) ?_ ?_
  · rintro i x H2 H3 hi' ⟨ns, g1, g2, g3, g4, g5, g6⟩ ⟨rfl, rfl⟩
    refine ⟨rfl, _, rfl, _, rfl, a, c, 26, rfl, g4, by decide, by decide, fun n H4 e1 e2 S4 B4 => ?_⟩
    obtain ⟨j, rfl, hj⟩ := idx_of (k := 26) e1 e2
    have g1' := B4.keep Dl _ g6 g1
    refine ⟨AZ, _, _, rfl, rfl, az_len, atI_nat (az_get hj), _, g1', ?_, ns ++ [97 + j], ?_, ?_, ?_, ?_, ?_, g6⟩
    · rw [List.length_map, List.length_map]
      exact small1000 (by omega)
    · rw [upd_same, List.map_append, List.map_append]
      rfl
    · rw [List.length_append, g2]
      rfl
    · intro c' hc'
      rcases List.mem_append.mp hc' with h | h
      · exact g3 c' h
      · rw [List.mem_singleton.mp h]
        omega
    · exact S4.mono (M := [Dl]) (fun m => g6 (by rw [List.mem_singleton.mp m]; simp)) (fun m => g6 (by rw [List.mem_singleton.mp m]; simp)) (But.refl.upd (.inl (by simp)))
    · exact (g5.trans B4).upd (.inr (B01.free hD))
  · rintro H2 ⟨ns, g1, g2, g3, g4, g5, g6⟩
    have hlen := sum_ones ns
    have hz0 : (("" : Str)).length = 0 := by decide +kernel
    refine ⟨_, _, _, rfl, rfl, .inl (SqL.of g1), by rw [hlen, hz0]; omega, ?_⟩
    have nm : IsName (Txt.join ("" : Str) (ns.map fun c => (⟨#[c]⟩ : Str))) := by
      refine ⟨?_, ?_, ?_⟩
      · rw [cs_join]; omega
      · rw [cs_join]; omega
      · rw [cs_join]; exact g3
    exact word_tail hl rfl rfl rfl (g5.keep _ _ hr hx) nm fun w H3 n1 n2 B3 => k w H3 n1 n2 (g4.mono (M := []) (by simp) (by simp) B3) (g5.trans B3.nil)
end Kb

set_option Elab.async false
set_option linter.all false
set_option maxRecDepth 100000
set_option maxHeartbeats 4000000
/-! Kb, 4: lists of names, parts of lists, shuffled lists. -/
namespace Kb
open PySem PySem.Spec PyProof.Rows L2

/-! ### _law_words -/
def sp_l_words (K : PySem.W.Frag) : Sp := fun vs H Q _ => ∃ (a c : Addr) (m : Nat), vs = [.ref a, .int (m : Int)] ∧ StAt H a c ∧ m ≤ 11 ∧
  ∀ (ws : List Str) (l : Addr) (H' : Hp), ws.length = m → (∀ w ∈ ws, IsName w) → ws.Nodup → H l = none → H' l = some (.lst (ws.map V.str)) → StAt H' a c → But [a, c] H H' → Q (.ref l) H'
theorem len_l_words {K : PySem.W.Frag} {vs : List V} {H : Hp} {Q : VK} {E : XK} (h : sp_l_words K vs H Q E) : vs.length = 2 := by
  obtain ⟨a, c, m, rfl, _⟩ := h
  rfl
def t_l_words (K : PySem.W.Frag) : TS :=
  (tSeq (tAsg (tLst tNil) (gName 2))
  (tSeq (tFor (iRng1 (tCons (tVar 1) tNil)) (gName 3)
    (tDrop (tBM K "list" rAppend (tVar 2) (tCons (tCall (sp_l_word K) [] E0 (tCons (tVar 0) (tCons (tVar 2) tNil))) tNil))))
  (tRet (tVar 2))))
theorem sz0 : 0 ≤ sizeLine := Nat.zero_le _
theorem pure_l_words {K : PySem.W.Frag} (vs : List V) (H : Hp) (Q : VK) (E : XK) (h : sp_l_words K vs H Q E) : t_l_words K (fin Q) (st0 4 vs) H := by
  obtain ⟨a, c, m, rfl, S, hm, k⟩ := h
  refine ⟨sz0, fun l hl => ?_⟩
  have nl := S.no hl
  refine ⟨_, rfl, (m : Int), rfl, by omega, by omega, for_range (fun i σ H' => ∃ (ws : List Str) (v : Option V), σ = [some (.ref a), some (.int (m : Int)), some (.ref l), v] ∧ ws.length = i ∧ (∀ w ∈ ws, IsName w) ∧ ws.Nodup ∧
    H' l = some (.lst (ws.map V.str)) ∧ StAt H' a c ∧ But [a, c] H H') ⟨[], none, rfl, rfl, (fun _ z => by cases z), List.nodup_nil, upd_same, S.new hl, But.new hl⟩ ?_ ?_⟩
  · rintro i σ H1 hi ⟨ws, v, rfl, h1, h2, h3, h4, S1, B1⟩
    have hi' : i < m := by omega
    refine ⟨_, rfl, .inl ⟨rfl, _, SqL.of h4⟩, _, rfl, _, rfl, a, c, l, ws, rfl, S1, nl, h4, by omega, fun w H2 n1 n2 S2 B2 => ?_⟩
    have h4' := B2.keep _ _ nl h4
    refine ⟨_, _, _, rfl, rfl, h4', by rw [List.length_map]; exact small1000 (by omega), ws ++ [w], _, rfl, by rw [List.length_append, h1]; rfl, ?_, nd_snoc h3 n2, ?_, S2.upd nl, (B1.trans B2).upd (.inr hl)⟩
    · intro x hx
      rcases List.mem_append.mp hx with hx | hx
      · exact h2 x hx
      · rw [List.mem_singleton.mp hx]
        exact n1
    · rw [upd_same, List.map_append]
      rfl
  · rintro σ H1 ⟨ws, v, rfl, h1, h2, h3, h4, S1, B1⟩
    exact ⟨_, rfl, k ws l H1 (by simpa using h1) h2 h3 hl h4 S1 B1⟩

/-! ### _law_some -/
def sp_l_some (K : PySem.W.Frag) : Sp := fun vs H Q _ => ∃ (a c r : Addr) (xs : List V), vs = [.ref a, .ref r] ∧ StAt H a c ∧ r ∉ [a, c] ∧ H r = some (.lst xs) ∧ xs.length ≤ 1000 ∧
  ∀ (ys : List V) (l : Addr) (H' : Hp), ys.Sublist xs → H l = none → H' l = some (.lst ys) → StAt H' a c → But [a, c] H H' → Q (.ref l) H'
theorem len_l_some {K : PySem.W.Frag} {vs : List V} {H : Hp} {Q : VK} {E : XK} (h : sp_l_some K vs H Q E) : vs.length = 2 := by
  obtain ⟨a, c, m, xs, rfl, _⟩ := h
  rfl
def t_l_some (K : PySem.W.Frag) : TS :=
  (tRet (tLc (iList K (tVar 1)) (gName 2) (tTest (tOp rEq (tCall (sp_l_draw K) [] E0 (tCons (tVar 0) (tCons (tC (.int 2)) tNil))) (tC (.int 1)))) (tVar 2) [2]))
theorem pure_l_some {K : PySem.W.Frag} (vs : List V) (H : Hp) (Q : VK) (E : XK) (h : sp_l_some K vs H Q E) : t_l_some K (fin Q) (st0 3 vs) H := by
  obtain ⟨a, c, r, xs, rfl, S, hr, hx, hl, k⟩ := h
  refine ⟨_, rfl, r, rfl, ⟨_, SqL.of hx⟩, fun Dl hD => ?_⟩
  have nl := S.no hD
  refine lc_it (walk_list (xs := xs)) (fun i H' => ∃ acc : List V, H' Dl = some (.lst acc) ∧ acc.Sublist (xs.take i) ∧ StAt H' a c ∧ But [a, c] H H')
    ⟨[], upd_same, by simp, S.new hD, But.new hD⟩ (fun i H' _ ⟨_, _, _, _, B⟩ => SqL.of (B.keep _ _ hr hx)) ?_ ?_
  · rintro i x H1 H2 hi ⟨acc, h1, h2, S1, B1⟩ ⟨rfl, hxi⟩
    have et : xs.take (i + 1) = xs.take i ++ [x] := by
      rw [List.take_add_one, hxi]
      rfl
    have hal : acc.length ≤ 1000 := by
      have := h2.length_le
      rw [List.length_take] at this
      omega
    refine ⟨rfl, _, rfl, a, c, 2, rfl, S1, by decide, by decide, fun n H3 e1 e2 S3 B3 => ⟨rfl, _, rfl, ?_⟩⟩
    refine ite2 (fun _ => ?_) (fun _ => ?_)
    · refine ⟨_, rfl, acc, B3.keep _ _ nl h1, small1000 hal, acc ++ [x], upd_same, ?_, S3.upd nl, (B1.trans B3).upd (.inr hD)⟩
      rw [et]
      exact List.Sublist.append h2 (List.Sublist.refl _)
    · refine ⟨acc, B3.keep _ _ nl h1, ?_, S3, B1.trans B3⟩
      rw [et]
      exact h2.trans (List.sublist_append_left _ _)
  · rintro H1 ⟨acc, h1, h2, S1, B1⟩
    rw [List.take_length] at h2
    exact k acc Dl H1 h2 hD h1 S1 B1

/-! ### _law_shuffled -/
def sp_l_shuffled (K : PySem.W.Frag) : Sp := fun vs H Q _ => ∃ (a c r : Addr) (xs : List V), vs = [.ref a, .ref r] ∧ StAt H a c ∧ r ∉ [a, c] ∧ H r = some (.lst xs) ∧ xs.length ≤ 1000 ∧
  ∀ (ys : List V) (l : Addr) (H' : Hp), ys.Perm xs → H l = none → H' l = some (.lst ys) → StAt H' a c → But [a, c] H H' → Q (.ref l) H'
theorem len_l_shuffled {K : PySem.W.Frag} {vs : List V} {H : Hp} {Q : VK} {E : XK} (h : sp_l_shuffled K vs H Q E) : vs.length = 2 := by
  obtain ⟨a, c, m, xs, rfl, _⟩ := h
  rfl
def t_l_shuffled (K : PySem.W.Frag) : TS :=
  (tSeq (tAsg (tCB (rListOf K) (tCons (tVar 1) tNil)) (gName 2))
  (tSeq (tAsg (tLst tNil) (gName 3))
  (tSeq (tFor (iRng1 (tCons (tCB (rLenA K) (tCons (tVar 1) tNil)) tNil)) (gName 4)
    (tDrop (tBM K "list" rAppend (tVar 3) (tCons (tBM K "list" rPopAt (tVar 2) (tCons (tCall (sp_l_draw K) [] E0 (tCons (tVar 0) (tCons (tCB (rLenA K) (tCons (tVar 2) tNil)) tNil))) tNil)) tNil))))
  (tRet (tVar 3)))))
theorem perm_pop {α : Type} : ∀ {l : List α} {i : Nat} {x : α}, l[i]? = some x → l.Perm (x :: l.eraseIdx i)
  | [], i, x, h => by simp at h
  | a :: l, 0, x, h => by
    simp at h
    subst h
    exact List.Perm.refl _
  | a :: l, i + 1, x, h => by
    have ih := perm_pop (l := l) (i := i) (x := x) (by simpa using h)
    rw [List.eraseIdx_cons_succ]
    exact (ih.cons a).trans (List.Perm.swap _ _ _)
theorem pure_l_shuffled {K : PySem.W.Frag} (vs : List V) (H : Hp) (Q : VK) (E : XK) (h : sp_l_shuffled K vs H Q E) : t_l_shuffled K (fin Q) (st0 5 vs) H := by
  obtain ⟨a, c, r, xs, rfl, S, hr, hx, hl, k⟩ := h
  refine ⟨_, rfl, r, xs, rfl, .inl (SqL.of hx), fun p hp => ?_⟩
  have np := S.no hp
  have S0 := S.new (o := HO.lst xs) hp
  refine ⟨sz0, fun l hl' => ?_⟩
  have nl := S0.no hl'
  have hl0 : H l = none := (But.new (M := []) hp).free hl'
  have hne : l ≠ p := fun z => by rw [z, upd_same] at hl'; cases hl'
  have hxr : ∀ o o', upd (upd H p o) l o' r = some (.lst xs) := fun o o' => by
    rw [upd_ne (ne_of_none hx hl0), upd_ne (ne_of_none hx hp)]
    exact hx
  refine ⟨_, rfl, _, xs.length, rfl, .inl ⟨_, SqL.of (hxr _ _), rfl⟩, (xs.length : Int), rfl, by omega, by omega, for_range (fun i σ H' => ∃ (rest mixed : List V) (v : Option V), σ = [some (.ref a), some (.ref r), some (.ref p), some (.ref l), v] ∧
    rest.length + i = xs.length ∧ (mixed ++ rest).Perm xs ∧ mixed.length = i ∧ H' p = some (.lst rest) ∧ H' l = some (.lst mixed) ∧ StAt H' a c ∧ But [a, c] H H')
    ⟨xs, [], none, rfl, rfl, List.Perm.refl _, rfl, by rw [upd_ne (Ne.symm hne), upd_same], upd_same, S0.new hl', (But.new hp).upd (.inr hl0)⟩ ?_ ?_⟩
  · rintro i σ H1 hi ⟨rest, mixed, v, rfl, h1, h2, h3, h4, h5, S1, B1⟩
    have hrl : 0 < rest.length := by
      have : i < xs.length := by omega
      omega
    refine ⟨_, rfl, .inl ⟨rfl, _, SqL.of h5⟩, _, rfl, .inl ⟨rfl, _, SqL.of h4⟩, _, rfl, _, rfl, _, rest.length, rfl, .inl ⟨_, SqL.of h4, rfl⟩, a, c, rest.length, rfl, S1, by omega, by omega, fun n H2 e1 e2 S2 B2 => ?_⟩
    obtain ⟨j, rfl, hj⟩ := idx_of e1 e2
    have h4' := B2.keep _ _ np h4
    have h5' := B2.keep _ _ nl h5
    refine ⟨p, rest, (j : Int), j, rest[j], rfl, rfl, h4', by omega, by omega, ?_, List.getElem?_eq_getElem hj, ?_⟩
    · unfold seqIndex?
      first
        | (rw [if_neg (by omega)]; simp; omega)
        | (simp; omega)
    · refine ⟨l, mixed, rest[j], rfl, rfl, by rw [upd_ne hne]; exact h5', small1000 (by omega), rest.eraseIdx j, mixed ++ [rest[j]], _, rfl, ?_, ?_, ?_, ?_, upd_same, (S2.upd np).upd nl, ((B1.trans B2).upd (.inr hp)).upd (.inr hl0)⟩
      · rw [List.length_eraseIdx_of_lt hj]
        omega
      · rw [List.append_assoc]
        exact ((perm_pop (List.getElem?_eq_getElem hj)).symm.append_left mixed).trans h2
      · rw [List.length_append, h3]
        rfl
      · rw [upd_ne (Ne.symm hne), upd_same]
  · rintro σ H1 ⟨rest, mixed, v, rfl, h1, h2, h3, h4, h5, S1, B1⟩
    have : rest = [] := by
      have : rest.length = 0 := by
        have h1' : rest.length + (xs.length : Int).toNat = xs.length := h1
        simp at h1'
        exact List.length_eq_zero_iff.mpr h1'
      exact List.length_eq_zero_iff.mp this
    subst this
    rw [List.append_nil] at h2
    exact ⟨_, rfl, k mixed l H1 h2 hl0 h5 S1 B1⟩
end Kb

set_option Elab.async false
set_option linter.all false
set_option maxRecDepth 100000
set_option maxHeartbeats 4000000
/-! Kb, 5: flat lists compared; sorted lists of texts. -/
namespace Kb
open PySem PySem.Spec PyProof.Rows L2

/-- flat data as the library has it -/
def pd : V → PyData
  | .bl b => .bool b
  | .int i => .int i
  | .str x => .str x
  | _ => .none
def okF : V → Bool
  | .non => true
  | .bl _ => true
  | .int _ => true
  | .str x => PyData.strOk x
  | _ => false
theorem dp_flat {K : PySem.W.Frag} {H : Hp} : ∀ {x : V}, okF x = true → Dp K H x (pd x)
  | .non, _ => .non
  | .bl b, _ => .bl b
  | .int i, _ => .int i
  | .str x, _ => .str x
theorem dp_flats {K : PySem.W.Frag} {H : Hp} : ∀ {xs : List V}, xs.all okF = true → DpAll K H xs (xs.map pd)
  | [], _ => .nil
  | x :: xs, h => by
    rw [List.all_cons] at h
    obtain ⟨h1, h2⟩ := Bool.and_eq_true_iff.mp h
    exact .cons (dp_flat h1) (dp_flats h2)
theorem lay_flat : ∀ {xs : List V}, xs.all okF = true → PyData.canLayAll0 (xs.map pd) = true
  | [], _ => by simp [PyData.canLayAll0]
  | x :: xs, h => by
    rw [List.all_cons] at h
    obtain ⟨h1, h2⟩ := Bool.and_eq_true_iff.mp h
    rw [List.map_cons, PyData.canLayAll0, lay_flat h2, Bool.and_true]
    cases x <;> simp_all [pd, okF, PyData.canLay0]
theorem depth_flat : ∀ {xs : List V}, PyData.depth (.list (xs.map pd)) ≤ 2
  | [] => by decide
  | x :: xs => by
    have ih := depth_flat (xs := xs)
    have hx : PyData.depth (pd x) ≤ 1 := by cases x <;> simp [pd, PyData.depth]
    simp only [List.map_cons, PyData.depth, PyData.depthAll] at ih ⊢
    omega
theorem shaped_flat {xs : List V} (h : xs.all okF = true) : SeqAt.shaped (.list (xs.map pd)) = true := by
  unfold SeqAt.shaped
  rw [Bool.and_eq_true_iff]
  refine ⟨?_, decide_eq_true (Nat.le_trans depth_flat (by decide))⟩
  rw [PyData.canLay0]
  exact lay_flat h
theorem shaped_nil : SeqAt.shaped (.list []) = true := by decide +kernel
theorem eqv_nil {ds : List PyData} : PyData.eqv (.list ds) (.list []) = ds.isEmpty := by
  cases ds <;> simp [PyData.eqv, PyData.eqvAll]
/-- xs == [] -/
theorem eqE {K : PySem.W.Frag} {H : Hp} {p q : Addr} {xs : List V} {Q : VK} (hp : H p = some (.lst xs)) (hx : xs.all okF = true) (hq : H q = some (.lst [])) (k : Q (.bl xs.isEmpty) H) : rEqD K (.ref p) (.ref q) H Q := by
  refine ⟨.list (xs.map pd), .list [], .lst (SqL.of hp) (dp_flats hx), .lst (SqL.of hq) .nil, shaped_flat hx, shaped_nil, ?_⟩
  rw [eqv_nil]
  cases xs <;> exact k
theorem neE {K : PySem.W.Frag} {H : Hp} {p q : Addr} {xs : List V} {Q : VK} (hp : H p = some (.lst xs)) (hx : xs.all okF = true) (hq : H q = some (.lst [])) (k : Q (.bl (!xs.isEmpty)) H) : rNeD K (.ref p) (.ref q) H Q := by
  refine ⟨.list (xs.map pd), .list [], .lst (SqL.of hp) (dp_flats hx), .lst (SqL.of hq) .nil, shaped_flat hx, shaped_nil, ?_⟩
  rw [eqv_nil]
  cases xs <;> exact k
theorem ok_name {x : Str} (h : IsName x) : PyData.strOk x = true := by
  unfold PyData.strOk
  rw [Array.all_eq_true_iff_forall_mem]
  intro c hc
  have := h.az c (Array.mem_toList_iff.mpr hc)
  exact decide_eq_true (by omega)
/-- a name or "" -/
def IsNE (x : Str) : Prop := IsName x ∨ x = ""
theorem ok_ne {x : Str} (h : IsNE x) : PyData.strOk x = true := by
  rcases h with h | h
  · exact ok_name h
  · rw [h]
    decide +kernel
theorem okF_strs {ws : List Str} (h : ∀ w ∈ ws, PyData.strOk w = true) : (ws.map V.str).all okF = true := by
  rw [List.all_map]
  exact List.all_eq_true.mpr h
theorem name_ne {x : Str} (h : IsName x) : x ≠ "" := fun e => by
  have h1 := h.lo
  have h2 : (cs ("" : Str)).length = 0 := by decide +kernel
  rw [e] at h1
  omega

/-! ### sorted texts -/
def Le (a b : Str) : Prop := cs a ≤ cs b
theorem le_iff {a b : Str} : Le a b ↔ ltCps (cs b) (cs a) = false := by
  rw [ltCps_eq]
  unfold Le
  rw [decide_eq_false_iff_not]
  exact Iff.symm List.not_lt
theorem rising_pw : ∀ {r : List Str} {p : Str}, risingS p r = true → (p :: r).Pairwise Le
  | [], p, _ => List.pairwise_singleton _ _
  | y :: r, p, h => by
    unfold risingS at h
    obtain ⟨h1, h2⟩ := Bool.and_eq_true_iff.mp h
    have ih := rising_pw h2
    have h3 : Le p y := le_iff.mpr (by simpa using h1)
    refine List.pairwise_cons.mpr ⟨fun z hz => ?_, ih⟩
    rcases List.mem_cons.mp hz with e | hz
    · rw [e]
      exact h3
    · exact List.le_trans h3 ((List.pairwise_cons.mp ih).1 z hz)
theorem sorted_pw : ∀ {l : List Str}, sortedS l = true → l.Pairwise Le
  | [], _ => List.Pairwise.nil
  | _ :: _, h => rising_pw h
theorem sorted_uniq {α : Type} {r : α → α → Prop} (anti : ∀ a b, r a b → r b a → a = b) : ∀ {l1 l2 : List α}, l1.Perm l2 → l1.Pairwise r → l2.Pairwise r → l1 = l2
  | [], l2, h, _, _ => (List.Perm.nil_eq h)
  | a :: l1, [], h, _, _ => absurd h.length_eq (by simp)
  | a :: l1, b :: l2, h, p1, p2 => by
    obtain ⟨q1, q2⟩ := List.pairwise_cons.mp p1
    obtain ⟨q3, q4⟩ := List.pairwise_cons.mp p2
    have e : a = b := by
      have h1 : a ∈ b :: l2 := h.subset (List.mem_cons_self ..)
      have h2 : b ∈ a :: l1 := h.symm.subset (List.mem_cons_self ..)
      rcases List.mem_cons.mp h1 with e | h1
      · exact e
      · rcases List.mem_cons.mp h2 with e | h2
        · exact e.symm
        · exact anti a b (q1 b h2) (q3 a h1)
    subst e
    rw [sorted_uniq anti h.cons_inv q2 q4]
theorem le_anti (a b : Str) (h1 : Le a b) (h2 : Le b a) : a = b := str_ext (List.le_antisymm h1 h2)
theorem sorted_same {l1 l2 : List Str} (h : l1.Perm l2) (h1 : sortedS l1 = true) (h2 : sortedS l2 = true) : l1 = l2 := sorted_uniq le_anti h (sorted_pw h1) (sorted_pw h2)
end Kb

set_option Elab.async false
set_option linter.all false
set_option maxRecDepth 100000
set_option maxHeartbeats 4000000
/-! Kb, 6: kinds as data: choices, own answers, rules that are drawn. -/
namespace Kb
open PySem PySem.Spec PyProof.Rows L2

inductive Own where
  | val (v : Str) | self | link (l : Str)
inductive Rule where
  | bar (ns : List Str) | tell (ns : List Str) (v : Str) | self (ns : List Str) | give (ns : List Str) (l : Str) (last : Bool) | send (ns : List Str) (l under : Str) (last wraps : Bool)
def nmD (ns : List Str) : D := .tup (ns.map D.str)
def man (b : Bool) : Str := if b then "last" else "try"
def Own.d : Own → D
  | .val v => .tup [.str "value", .str v]
  | .self => .tup [.str "self"]
  | .link l => .tup [.str "link", .str l]
def Rule.d : Rule → D
  | .bar ns => .tup [.str "bar", nmD ns]
  | .tell ns v => .tup [.str "tell", nmD ns, .str v]
  | .self ns => .tup [.str "self", nmD ns]
  | .give ns l b => .tup [.str "give", nmD ns, .str l, .str (man b)]
  | .send ns l u b w => .tup [.str "send", nmD ns, .str l, .str u, .str (man b), .bl w]
def Rule.names : Rule → List Str
  | .bar ns => ns
  | .tell ns _ => ns
  | .self ns => ns
  | .give ns _ _ => ns
  | .send ns _ _ _ _ => ns
/-- names in the place of a rule's names or of a link's choices -/
structure NamesOk (ns : List Str) : Prop where
  len : ns.length ≤ 4
  nd : ns.Nodup
  so : sortedS ns = true
/-- a rule of a kind with these links, over these asked names -/
def Rule.ok (asked links : List Str) (r : Rule) : Prop := NamesOk r.names ∧ (∀ n ∈ r.names, n ∈ asked) ∧ match r with
  | .bar _ => True
  | .tell _ v => IsName v
  | .self _ => True
  | .give _ l _ => l ∈ links
  | .send _ l u _ _ => l ∈ links ∧ (u = "" ∨ u ∈ asked)
def Own.ok (links : List Str) : Own → Prop
  | .val v => IsName v
  | .self => True
  | .link l => l ∈ links

/-! ### _law_choices -/
structure ChoOk (kinds : List Str) (ys : List Str) : Prop extends NamesOk ys where
  some : ys ≠ []
  mem : ∀ y ∈ ys, y ∈ kinds ∨ y = ""
def sp_l_choices (K : PySem.W.Frag) : Sp := fun vs H Q _ => ∃ (a c r : Addr) (ks : List Str), vs = [.ref a, .ref r] ∧ StAt H a c ∧ r ∉ [a, c] ∧ H r = some (.lst (ks.map V.str)) ∧ ks ≠ [] ∧ ks.length ≤ 4 ∧ (∀ k ∈ ks, IsName k) ∧ ks.Nodup ∧
  ∀ (ys : List Str) (p : Addr) (H' : Hp), ChoOk ks ys → H p = none → H' p = some (.tup (ys.map V.str)) → StAt H' a c → But [a, c] H H' → Q (.ref p) H'
theorem len_l_choices {K : PySem.W.Frag} {vs : List V} {H : Hp} {Q : VK} {E : XK} (h : sp_l_choices K vs H Q E) : vs.length = 2 := by
  obtain ⟨a, c, r, ks, rfl, _⟩ := h
  rfl
def t_l_choices (K : PySem.W.Frag) : TS :=
  (tSeq (tAsg (tCall (sp_l_some K) [] E0 (tCons (tVar 0) (tCons (tOp rCat (tVar 1) (tLst (tCons (tC (.str ("" : Str))) tNil))) tNil))) (gName 2))
  (C8.tCut (tIfS (tTest (tOp (rEqD K) (tVar 2) (tLst tNil)))
    (tAsg (tLst (tCons (tCall (sp_l_pick K) [] E0 (tCons (tVar 0) (tCons (tVar 1) tNil))) tNil)) (gName 2))
    tNext)
  (tRet (tCB (rTupOf K) (tCons (tCB (rSortedS K) (tCons (tSl (rSlL K) (tVar 2) tNoPart (tPart (tC (.int 4)))) tNil)) tNil)))))
theorem sub_strs {ys : List V} {ws : List Str} (h : ys.Sublist (ws.map V.str)) : ∃ zs : List Str, zs.Sublist ws ∧ ys = zs.map V.str := by
  obtain ⟨zs, h1, h2⟩ := List.sublist_map_iff.mp h
  exact ⟨zs, h1, h2⟩
theorem cut4 {xs : List V} : cutV xs none (some 4) = xs.take 4 := by
  unfold cutV HT.sIx
  simp
theorem pure_l_choices {K : PySem.W.Frag} (vs : List V) (H : Hp) (Q : VK) (E : XK) (h : sp_l_choices K vs H Q E) : t_l_choices K (fin Q) (st0 3 vs) H := by
  obtain ⟨a, c, r, ks, rfl, S, hr, hx, hne, hl, hn, hnd, k⟩ := h
  refine ⟨_, rfl, _, rfl, by show 1 ≤ sizeLine; decide, fun p hp => ?_⟩
  have nrp : r ≠ p := ne_of_none hx hp
  refine ⟨_, _, _, _, rfl, rfl, by rw [upd_ne nrp]; exact hx, upd_same, by rw [List.length_map]; exact Nat.le_of_lt (small1000 (by simp; omega)), fun q hq => ?_⟩
  have hp0 : H p = none := hp
  have hq0 : H q = none := (But.new (M := []) hp).free hq
  have S1 : StAt (upd (upd H p (.lst [.str ("" : Str)])) q (.lst (ks.map V.str ++ [.str ("" : Str)]))) a c := (S.new hp).new hq
  have B1 : But [a, c] H (upd (upd H p (.lst [.str ("" : Str)])) q (.lst (ks.map V.str ++ [.str ("" : Str)]))) := (But.new hp).upd (.inr hq0)
  refine ⟨a, c, q, ks.map V.str ++ [.str ("" : Str)], rfl, S1, (S.new hp).no hq, upd_same, by simp; omega, fun ys l H2 hs hl2 hl3 S2 B2 => ?_⟩
  have e : ks.map V.str ++ [V.str ("" : Str)] = (ks ++ [("" : Str)]).map V.str := by rw [List.map_append]; rfl
  rw [e] at hs
  obtain ⟨zs, hz, rfl⟩ := sub_strs hs
  have znd : zs.Nodup := hz.nodup (nd_snoc hnd fun m => name_ne (hn _ m) rfl)
  have zmem : ∀ z ∈ zs, z ∈ ks ∨ z = "" := fun z m => by
    rcases List.mem_append.mp (hz.subset m) with h | h
    · exact .inl h
    · exact .inr (List.mem_singleton.mp h)
  have zok : ∀ z ∈ zs, PyData.strOk z = true := fun z m => ok_ne ((zmem z m).elim (fun h => .inl (hn z h)) .inr)
  have hl0 : H l = none := B1.free hl2
  have hr2 : H2 r = some (.lst (ks.map V.str)) := B2.keep _ _ hr (by rw [upd_ne (ne_of_none hx hq0), upd_ne nrp]; exact hx)
  refine ⟨fun σ H' => ∃ (v : Addr) (us : List Str), σ = [some (.ref a), some (.ref r), some (.ref v)] ∧ H' v = some (.lst (us.map V.str)) ∧ us ≠ [] ∧ us.Nodup ∧ (∀ z ∈ us, z ∈ ks ∨ z = "") ∧ us.length ≤ 5 ∧ StAt H' a c ∧ But [a, c] H H', ?_, ?_⟩
  · refine ⟨_, rfl, by show 0 ≤ sizeLine; exact sz0, fun q1 hq1 => eqE (by rw [upd_ne (ne_of_none hl3 hq1)]; exact hl3) (okF_strs zok) upd_same ⟨_, rfl, ?_⟩⟩
    have S3 := S2.new (o := .lst []) hq1
    have B3 : But [a, c] H (upd H2 q1 (.lst [])) := ((B1.trans B2).upd' hq1)
    cases zs with
    | nil =>
      refine iteT ?_
      refine ⟨_, rfl, _, rfl, a, c, r, ks.map V.str, rfl, S3, hr, by rw [upd_ne (ne_of_none hr2 hq1)]; exact hr2, by simpa using hne, by rw [List.length_map]; omega, fun x H4 hx4 S4 B4 => ?_⟩
      obtain ⟨w, hw, rfl⟩ := List.mem_map.mp hx4
      refine ⟨by show 1 ≤ sizeLine; decide, fun q2 hq2 => ?_⟩
      exact ⟨q2, [w], rfl, upd_same, by simp, by simp, fun z m => by rw [List.mem_singleton.mp m]; exact .inl hw, by simp, S4.new hq2, (B3.trans B4).upd' hq2⟩
    | cons z0 zr =>
      refine iteF ?_
      refine ⟨l, z0 :: zr, rfl, by rw [upd_ne (ne_of_none hl3 hq1)]; exact hl3, by simp, znd, zmem, ?_, S3, B3⟩
      have := hz.length_le
      simp at this ⊢
      omega
  · rintro σ H3 ⟨v, us, rfl, h1, h2, h3, h4, h5, S3, B3⟩
    refine ⟨_, rfl, _, rfl, _, _, rfl, SqL.of h1, fun p1 hp1 => ?_⟩
    rw [cut4, ← List.map_take]
    refine ⟨p1, us.take 4, rfl, SqL.of upd_same, by rw [List.length_take]; omega, fun ys p2 hpm hso hp2 => ?_⟩
    refine ⟨p2, ys.map V.str, rfl, .inl ⟨SqL.of upd_same, fun p3 hp3 => ?_⟩⟩
    have hlen := hpm.length_eq
    rw [List.length_take] at hlen
    refine k ys p3 _ ⟨⟨by omega, hpm.symm.nodup (h3.sublist (List.take_sublist ..)), hso⟩, fun z => ?_, fun y m => h4 y (List.mem_of_mem_take (hpm.subset m))⟩
      ((B3.upd' hp1).upd' hp2 |>.free hp3) upd_same (((S3.new hp1).new hp2).new hp3) (((B3.upd' hp1).upd' hp2).upd' hp3)
    rw [z] at hlen
    have : us.length = 0 := by simp at hlen; omega
    exact h2 (List.length_eq_zero_iff.mp this)

/-! ### _law_value -/
def sp_l_value (K : PySem.W.Frag) : Sp := fun vs H Q _ => ∃ (a c : Addr), vs = [.ref a] ∧ StAt H a c ∧ ∀ (w : Str) (H' : Hp), IsName w → StAt H' a c → But [a, c] H H' → Q (.str w) H'
theorem len_l_value {K : PySem.W.Frag} {vs : List V} {H : Hp} {Q : VK} {E : XK} (h : sp_l_value K vs H Q E) : vs.length = 1 := by
  obtain ⟨a, c, rfl, _⟩ := h
  rfl
def t_l_value (K : PySem.W.Frag) : TS :=
  (tSeq (tIfS (tTest (tOp rEq (tCall (sp_l_draw K) [] E0 (tCons (tVar 0) (tCons (tC (.int 5)) tNil))) (tC (.int 0))))
    (tRet (tCall (sp_l_word K) [] E0 (tCons (tVar 0) (tCons (tLst tNil) tNil))))
    tNext)
  (tRet (tCall (sp_l_pick K) [] E0 (tCons (tVar 0) (tCons (tLst (tCons (tC (.str ("x" : Str))) (tCons (tC (.str ("y" : Str))) tNil))) tNil)))))
theorem isName_of {x : Str} (h : (decide (1 ≤ (cs x).length) && (decide ((cs x).length ≤ 8) && (cs x).all fun c => decide (97 ≤ c) && decide (c ≤ 122))) = true) : IsName x := by
  obtain ⟨h1, h2⟩ := Bool.and_eq_true_iff.mp h
  obtain ⟨h2, h3⟩ := Bool.and_eq_true_iff.mp h2
  refine ⟨of_decide_eq_true h1, of_decide_eq_true h2, fun c hc => ?_⟩
  obtain ⟨a, b⟩ := Bool.and_eq_true_iff.mp (List.all_eq_true.mp h3 c hc)
  exact ⟨of_decide_eq_true a, of_decide_eq_true b⟩
theorem pure_l_value {K : PySem.W.Frag} (vs : List V) (H : Hp) (Q : VK) (E : XK) (h : sp_l_value K vs H Q E) : t_l_value K (fin Q) (st0 1 vs) H := by
  obtain ⟨a, c, rfl, S, k⟩ := h
  refine ⟨_, rfl, a, c, 5, rfl, S, by decide, by decide, fun n H1 e1 e2 S1 B1 => ⟨rfl, _, rfl, ?_⟩⟩
  refine ite2 (fun _ => ?_) (fun _ => ?_)
  · refine ⟨_, rfl, sz0, fun p hp => ⟨a, c, p, [], rfl, S1.new hp, S1.no hp, upd_same, by simp, fun w H2 n1 _ S2 B2 => k w H2 n1 S2 ((B1.upd' hp).trans B2)⟩⟩
  · refine ⟨_, rfl, by show 2 ≤ sizeLine; decide, fun p hp => ⟨a, c, p, _, rfl, S1.new hp, S1.no hp, upd_same, by simp, by simp, fun x H2 hx S2 B2 => ?_⟩⟩
    have hb := (B1.upd' (o := .lst [.str ("x" : Str), .str ("y" : Str)]) hp).trans B2
    rcases List.mem_cons.mp hx with e | hx
    · rw [e]
      exact k _ _ (isName_of (by decide +kernel)) S2 hb
    · rw [List.mem_singleton.mp hx]
      exact k _ _ (isName_of (by decide +kernel)) S2 hb
end Kb

set_option Elab.async false
set_option linter.all false
set_option maxRecDepth 100000
set_option maxHeartbeats 4000000
/-! Kb, 7: rules, own answers, doors. -/
namespace Kb
open PySem PySem.Spec PyProof.Rows L2

/-! ### dicts and lists that grow -/
def NewP (H H' : Hp) (kds : List (Str × D)) (kvs : List (Key × V)) : Prop := ∀ M, Std M H → AtP M H' kds kvs
theorem NewP.mono {H H1 H2 : Hp} {M : List Addr} {kds : List (Str × D)} {kvs : List (Key × V)} (n : NewP H H1 kds kvs) (s : Std M H) (b : But M H1 H2) : NewP H H2 kds kvs := fun M' s' =>
  AtP.mono' (M := M' ++ M) (fun p o m e => ⟨fun z => m (List.mem_append.mpr (.inl z)), b.keep p o (fun z => m (List.mem_append.mpr (.inr z))) e⟩) kds kvs (n (M' ++ M) fun x m => (List.mem_append.mp m).elim (s' x) (s x))
theorem NewP.mono2 {H H1 H2 : Hp} {M : List Addr} {kds : List (Str × D)} {kvs : List (Key × V)} (n : NewP H H1 kds kvs) (hM : ∀ x ∈ M, H x ≠ none ∨ H1 x = none) (b : ∀ p o, p ∉ M → H1 p = some o → H2 p = some o) : NewP H H2 kds kvs := fun M' s' =>
  AtP.mono' (M := M' ++ M.filter fun x => (H x).isSome) (fun p o m e => ⟨fun z => m (List.mem_append.mpr (.inl z)), b p o (fun z => by
    rcases hM p z with h | h
    · exact m (List.mem_append.mpr (.inr (List.mem_filter.mpr ⟨z, by cases q : H p with
        | none => exact absurd q h
        | some u => rfl⟩)))
    · rw [h] at e
      cases e) e⟩) kds kvs (n _ fun x m => (List.mem_append.mp m).elim (s' x) fun m => by
        have := (List.mem_filter.mp m).2
        cases q : H x with
        | none => rw [q] at this; cases this
        | some u => exact fun z => nomatch z)
theorem AtP.snoc {M : List Addr} {H : Hp} : ∀ {ds : List (Str × D)} {xs : List (Key × V)} {k : Str} {d : D} {x : V}, AtP M H ds xs → At M H d x → AtP M H (ds ++ [(k, d)]) (xs ++ [(Sum.inr k, x)])
  | [], _, k, d, x, h, hx => by
    cases h
    exact ⟨x, [], rfl, hx, rfl⟩
  | (k0, d0) :: ds, _, k, d, x, h, hx => by
    obtain ⟨y, r, e1, h1, h2⟩ := h
    subst e1
    exact ⟨y, r ++ [(Sum.inr k, x)], rfl, h1, AtP.snoc h2 hx⟩
theorem AtP.keys {M : List Addr} {H : Hp} : ∀ {ds : List (Str × D)} {xs : List (Key × V)}, AtP M H ds xs → xs.map (·.1) = ds.map fun p => (Sum.inr p.1 : Key)
  | [], _, h => by
    cases h
    rfl
  | (k0, d0) :: ds, _, h => by
    obtain ⟨y, r, e1, h1, h2⟩ := h
    subst e1
    rw [List.map_cons, List.map_cons, AtP.keys h2]
theorem NewP.snoc {H H' : Hp} {kds : List (Str × D)} {kvs : List (Key × V)} {k : Str} {d : D} {v : V} (n : NewP H H' kds kvs) (h : New H H' d v) : NewP H H' (kds ++ [(k, d)]) (kvs ++ [(Sum.inr k, v)]) := fun M s => AtP.snoc (n M s) (h M s)
theorem NewL.snoc {H H' : Hp} {ds : List D} {xs : List V} {d : D} {v : V} (n : NewL H H' ds xs) (h : New H H' d v) : NewL H H' (ds ++ [d]) (xs ++ [v]) := fun M s => AtL.snoc (n M s) (h M s)
theorem New.dctm {H H0 H' : Hp} {p : Addr} {kds : List (Str × D)} {kvs : List (Key × V)} (n : NewP H0 H' kds kvs) (b : ∀ a, H a ≠ none → H0 a ≠ none) (hp : H p = none) (h : H' p = some (.dK kvs)) : New H H' (.dct kds) (.ref p) := fun M s =>
  ⟨p, kvs, rfl, fun m => s p m hp, h, n M fun x m => b x (s x m)⟩
theorem New.lstm {H H0 H' : Hp} {p : Addr} {ds : List D} {xs : List V} (n : NewL H0 H' ds xs) (b : ∀ a, H a ≠ none → H0 a ≠ none) (hp : H p = none) (h : H' p = some (.lst xs)) : New H H' (.lst ds) (.ref p) := fun M s =>
  ⟨p, xs, rfl, fun m => s p m hp, h, n M fun x m => b x (s x m)⟩
theorem New.tupm {H H0 H' : Hp} {p : Addr} {ds : List D} {xs : List V} (n : NewL H0 H' ds xs) (b : ∀ a, H a ≠ none → H0 a ≠ none) (hp : H p = none) (h : H' p = some (.tup xs)) : New H H' (.tup ds) (.ref p) := fun M s =>
  ⟨p, xs, rfl, fun m => s p m hp, h, n M fun x m => b x (s x m)⟩
theorem New.strs {H H' : Hp} {p : Addr} {ys : List Str} (hp : H p = none) (h : H' p = some (.tup (ys.map V.str))) : New H H' (nmD ys) (.ref p) := New.tupm (H0 := H) NewL.strs (fun _ h => h) hp h

/-- tuple(sorted(us[:4])) -/
theorem sort4 {K : PySem.W.Frag} {σ : L2.St} {l : Addr} {us : List Str} {H1 : Hp} {Q : VK} (h : H1 l = some (.lst (us.map V.str)))
    (k : ∀ (ys : List Str) (p : Addr) (H' : Hp), ys.Perm (us.take 4) → sortedS ys = true → H1 p = none → H' p = some (.tup (ys.map V.str)) → But [] H1 H' → Q (.ref p) H') :
    (fun (u : Option Int) (H3 : Hp) => rSlL K (.ref l) none u H3 fun x H1 => tNil σ H1 fun xs H2 => (fun vs H1 => rSortedS K vs H1 fun x H1 => tNil σ H1 fun xs H2 => (fun vs H1 => rTupOf K vs H1 Q) (x :: xs) H2) (x :: xs) H2) (some 4) H1 := by
  refine ⟨_, _, rfl, SqL.of h, fun p1 hp1 => ?_⟩
  rw [cut4, ← List.map_take]
  refine ⟨p1, us.take 4, rfl, SqL.of upd_same, by rw [List.length_take]; omega, fun ys p2 hpm hso hp2 => ?_⟩
  refine ⟨p2, ys.map V.str, rfl, .inl ⟨SqL.of upd_same, fun p3 hp3 => ?_⟩⟩
  have b2 : But [] H1 (upd (upd H1 p1 (.lst ((us.take 4).map V.str))) p2 (.lst (ys.map V.str))) := (But.new hp1).upd' hp2
  exact k ys p3 _ hpm hso (b2.free hp3) upd_same (b2.upd' hp3)

/-! ### _law_rule -/
/-- names that are asked; links -/
structure Names (n : Nat) (ws : List Str) : Prop where
  len : ws.length ≤ n
  nd : ws.Nodup
  nm : ∀ w ∈ ws, IsName w
def sp_l_rule (K : PySem.W.Frag) : Sp := fun vs H Q _ => ∃ (a c r1 r2 : Addr) (asked links : List Str), vs = [.ref a, .ref r1, .ref r2] ∧ StAt H a c ∧ r1 ∉ [a, c] ∧ r2 ∉ [a, c] ∧
  H r1 = some (.lst (asked.map V.str)) ∧ H r2 = some (.lst (links.map V.str)) ∧ Names 11 asked ∧ Names 11 links ∧
  ∀ (rl : Rule) (v : V) (H' : Hp), rl.ok asked links → New H H' rl.d v → StAt H' a c → But [a, c] H H' → Q v H'
theorem len_l_rule {K : PySem.W.Frag} {vs : List V} {H : Hp} {Q : VK} {E : XK} (h : sp_l_rule K vs H Q E) : vs.length = 3 := by
  obtain ⟨a, c, r1, r2, _, _, rfl, _⟩ := h
  rfl
def t_l_rule (K : PySem.W.Frag) : TS :=
  (tSeq (tAsg (tTup tNil) (gName 3))
  (C8.tCut (tIfS (tTest (tOp rGtI (tCall (sp_l_draw K) [] E0 (tCons (tVar 0) (tCons (tC (.int 3)) tNil))) (tC (.int 0))))
    (tAsg (tCB (rTupOf K) (tCons (tCB (rSortedS K) (tCons (tSl (rSlL K) (tCall (sp_l_some K) [] E0 (tCons (tVar 0) (tCons (tVar 1) tNil))) tNoPart (tPart (tC (.int 4)))) tNil)) tNil)) (gName 3))
    tNext)
  (tSeq (tAsg (tCall (sp_l_draw K) [] E0 (tCons (tVar 0) (tCons (tC (.int 10)) tNil))) (gName 4))
  (tSeq (tIfS (tTest (tOp rEq (tVar 4) (tC (.int 0))))
    (tRet (tTup (tCons (tC (.str ("bar" : Str))) (tCons (tVar 3) tNil))))
    tNext)
  (tSeq (tIfS (tOr (tTest (tOp rEq (tVar 4) (tC (.int 1)))) (tAnd (tTest (tOp (rEqD K) (tVar 2) (tLst tNil))) (tTest (tOp rGtI (tVar 4) (tC (.int 2))))))
    (tRet (tTup (tCons (tC (.str ("tell" : Str))) (tCons (tVar 3) (tCons (tCall (sp_l_value K) [] E0 (tCons (tVar 0) tNil)) tNil)))))
    tNext)
  (tSeq (tIfS (tTest (tOp rEq (tVar 4) (tC (.int 2))))
    (tRet (tTup (tCons (tC (.str ("self" : Str))) (tCons (tVar 3) tNil))))
    tNext)
  (tSeq (tAsg (tCall (sp_l_pick K) [] E0 (tCons (tVar 0) (tCons (tVar 2) tNil))) (gName 5))
  (tSeq (tAsg (tCall (sp_l_pick K) [] E0 (tCons (tVar 0) (tCons (tLst (tCons (tC (.str ("try" : Str))) (tCons (tC (.str ("last" : Str))) tNil))) tNil))) (gName 6))
  (tSeq (tIfS (tTest (tOp rEq (tVar 4) (tC (.int 3))))
    (tRet (tTup (tCons (tC (.str ("give" : Str))) (tCons (tVar 3) (tCons (tVar 5) (tCons (tVar 6) tNil))))))
    tNext)
  (tSeq (tAsg (tCall (sp_l_pick K) [] E0 (tCons (tVar 0) (tCons (tOp rCat (tLst (tCons (tC (.str ("" : Str))) tNil)) (tVar 1)) tNil))) (gName 7))
  (tRet (tTup (tCons (tC (.str ("send" : Str))) (tCons (tVar 3) (tCons (tVar 5) (tCons (tVar 7) (tCons (tVar 6) (tCons (tOp rEq (tCall (sp_l_draw K) [] E0 (tCons (tVar 0) (tCons (tC (.int 2)) tNil))) (tC (.int 1))) tNil))))))))))))))))))
theorem names_ok {n : Nat} {ws : List Str} (h : Names n ws) : (ws.map V.str).all okF = true := okF_strs fun w m => ok_name (h.nm w m)
theorem dec_int {i j : Int} : decide (V.int i = V.int j) = decide (i = j) := by
  by_cases h : i = j
  · rw [h, decide_eq_true rfl, decide_eq_true rfl]
  · rw [decide_eq_false h, decide_eq_false (fun z => h (V.int.inj z))]
theorem pure_l_rule {K : PySem.W.Frag} (vs : List V) (H : Hp) (Q : VK) (E : XK) (h : sp_l_rule K vs H Q E) : t_l_rule K (fin Q) (st0 8 vs) H := by
  obtain ⟨a, c, r1, r2, asked, links, rfl, S, n1, n2, h1, h2, ok1, ok2, k⟩ := h
  refine ⟨sz0, fun p hp => ?_⟩
  refine ⟨fun σ H' => ∃ (q : Addr) (ns : List Str), σ = [some (.ref a), some (.ref r1), some (.ref r2), some (.ref q), none, none, none, none] ∧ NamesOk ns ∧ (∀ n ∈ ns, n ∈ asked) ∧ New H H' (nmD ns) (.ref q) ∧ StAt H' a c ∧ But [a, c] H H', ?_, ?_⟩
  · have S0 := S.new (o := .tup []) hp
    refine ⟨_, rfl, a, c, 3, rfl, S0, by decide, by decide, fun n H1 e1 e2 S1 B1 => ⟨_, _, rfl, rfl, _, rfl, ?_⟩⟩
    have B01 : But [a, c] H H1 := (But.new hp).trans B1
    refine ite2 (fun _ => ?_) (fun _ => ?_)
    · refine ⟨_, rfl, _, rfl, a, c, r1, asked.map V.str, rfl, S1, n1, B01.keep _ _ n1 h1, by rw [List.length_map]; exact Nat.le_trans ok1.len (by decide), fun ys l H2 hs hl hl2 S2 B2 => ?_⟩
      obtain ⟨zs, hz, rfl⟩ := sub_strs hs
      refine ⟨_, rfl, ?_⟩
      refine sort4 (K := K) hl2 fun ys p2 H3 hpm hso hp2 hp3 B3 => ?_
      have hlen := hpm.length_eq
      rw [List.length_take] at hlen
      have B03 := (B01.trans B2).trans B3.nil
      exact ⟨p2, ys, rfl, ⟨by omega, hpm.symm.nodup ((hz.nodup ok1.nd).sublist (List.take_sublist ..)), hso⟩, fun n m => hz.subset (List.mem_of_mem_take (hpm.subset m)), New.strs ((B01.trans B2).free hp2) hp3, S2.nil B3, B03⟩
    · exact ⟨p, [], rfl, ⟨by simp, List.nodup_nil, rfl⟩, by simp, New.strs (ys := []) hp (B1.keep _ _ (S.no hp) upd_same), S1, B01⟩
  · rintro σ H1 ⟨q, ns, rfl, nok, nas, nw, S1, B1⟩
    refine ⟨_, rfl, a, c, 10, rfl, S1, by decide, by decide, fun n H2 e1 e2 S2 B2 => ?_⟩
    have B02 := B1.trans B2
    have nw2 : New H H2 (nmD ns) (.ref q) := nw.mono S.std B2
    refine ⟨_, rfl, rfl, _, rfl, ?_⟩
    rw [dec_int]
    refine ite2 (fun _ => ?_) (fun hn0 => ?_)
    · refine ⟨_, rfl, by show 2 ≤ sizeLine; decide, fun p2 hp2 => ?_⟩
      exact k (.bar ns) _ _ ⟨nok, nas, trivial⟩ (New.tup (NewL.cons New.str (NewL.cons nw2 NewL.nil)) B02.stand hp2) (S2.new hp2) (B02.upd' hp2)
    have hn0 : n ≠ 0 := by simpa using hn0
    have hl2 : H2 r2 = some (.lst (links.map V.str)) := B02.keep _ _ n2 h2
    have tell : ∀ H3, But [] H2 H3 → tRet (tTup (tCons (tC (.str ("tell" : Str))) (tCons (tVar 3) (tCons (tCall (sp_l_value K) [] E0 (tCons (tVar 0) tNil)) tNil)))) (fin Q) [some (.ref a), some (.ref r1), some (.ref r2), some (.ref q), some (.int n), none, none, none] H3 := by
      intro H3 B3
      have S3 := S2.nil B3
      refine ⟨_, rfl, _, rfl, a, c, rfl, S3, fun w H4 nw4 S4 B4 => ?_⟩
      have B04 := (B02.trans B3.nil).trans B4
      refine ⟨by show 3 ≤ sizeLine; decide, fun p2 hp2 => ?_⟩
      refine k (.tell ns w) _ _ ⟨nok, nas, nw4⟩ (New.tup (NewL.cons New.str (NewL.cons ((nw2.mono Std.nil B3).mono S.std B4) (NewL.cons New.str NewL.nil))) B04.stand hp2) (S4.new hp2) (B04.upd' hp2)
    refine ⟨_, rfl, rfl, _, rfl, ?_⟩
    rw [dec_int]
    refine ite2 (fun _ => iteT (tell H2 But.refl)) (fun hn1 => ?_)
    have hn1 : n ≠ 1 := by simpa using hn1
    refine ⟨_, rfl, sz0, fun p2 hp2 => eqE (by rw [upd_ne (ne_of_none hl2 hp2)]; exact hl2) (names_ok ok2) upd_same ⟨_, rfl, ?_⟩⟩
    have B3 : But [] H2 (upd H2 p2 (.lst [])) := But.new hp2
    have rest : n ≤ 2 ∨ links ≠ [] → ∀ D, D = fin Q → (tSeq (tIfS (tTest (tOp rEq (tVar 4) (tC (.int 2))))
    (tRet (tTup (tCons (tC (.str ("self" : Str))) (tCons (tVar 3) tNil))))
    tNext)
  (tSeq (tAsg (tCall (sp_l_pick K) [] E0 (tCons (tVar 0) (tCons (tVar 2) tNil))) (gName 5))
  (tSeq (tAsg (tCall (sp_l_pick K) [] E0 (tCons (tVar 0) (tCons (tLst (tCons (tC (.str ("try" : Str))) (tCons (tC (.str ("last" : Str))) tNil))) tNil))) (gName 6))
  (tSeq (tIfS (tTest (tOp rEq (tVar 4) (tC (.int 3))))
    (tRet (tTup (tCons (tC (.str ("give" : Str))) (tCons (tVar 3) (tCons (tVar 5) (tCons (tVar 6) tNil))))))
    tNext)
  (tSeq (tAsg (tCall (sp_l_pick K) [] E0 (tCons (tVar 0) (tCons (tOp rCat (tLst (tCons (tC (.str ("" : Str))) tNil)) (tVar 1)) tNil))) (gName 7))
  (tRet (tTup (tCons (tC (.str ("send" : Str))) (tCons (tVar 3) (tCons (tVar 5) (tCons (tVar 7) (tCons (tVar 6) (tCons (tOp rEq (tCall (sp_l_draw K) [] E0 (tCons (tVar 0) (tCons (tC (.int 2)) tNil))) (tC (.int 1))) tNil)))))))))))))
      D [some (.ref a), some (.ref r1), some (.ref r2), some (.ref q), some (.int n), none, none, none] (upd H2 p2 (.lst [])) := by
      rintro hor D rfl
      have S3 := S2.nil B3
      have B03 := B02.trans (B3.nil (M := [a, c]))
      have nw3 := nw2.mono Std.nil B3
      refine ⟨_, rfl, rfl, _, rfl, ?_⟩
      rw [dec_int]
      refine ite2 (fun _ => ?_) (fun hn2 => ?_)
      · refine ⟨_, rfl, by show 2 ≤ sizeLine; decide, fun p3 hp3 => ?_⟩
        exact k (.self ns) _ _ ⟨nok, nas, trivial⟩ (New.tup (NewL.cons New.str (NewL.cons nw3 NewL.nil)) B03.stand hp3) (S3.new hp3) (B03.upd' hp3)
      have hn2 : n ≠ 2 := by simpa using hn2
      have hli : links ≠ [] := hor.resolve_left (by omega)
      refine ⟨_, rfl, _, rfl, a, c, r2, links.map V.str, rfl, S3, n2, B03.keep _ _ n2 h2, by simpa using hli, by rw [List.length_map]; exact Nat.le_trans ok2.len (by decide), fun x H4 hx S4 B4 => ?_⟩
      obtain ⟨lk, hlk, rfl⟩ := List.mem_map.mp hx
      refine ⟨_, rfl, by show 2 ≤ sizeLine; decide, fun p4 hp4 => ⟨a, c, p4, _, rfl, S4.new hp4, S4.no hp4, upd_same, by simp, by simp, fun x H5 hx5 S5 B5 => ?_⟩⟩
      have B34 : But [a, c] (upd H2 p2 (.lst [])) H5 := (B4.upd' hp4).trans B5
      obtain ⟨b, rfl⟩ : ∃ b, x = V.str (man b) := by
        rcases List.mem_cons.mp hx5 with e | hx5
        · exact ⟨false, e⟩
        · exact ⟨true, List.mem_singleton.mp hx5⟩
      have B05 := B03.trans B34
      have nw5 := nw3.mono S.std B34
      refine ⟨_, rfl, rfl, _, rfl, ?_⟩
      rw [dec_int]
      refine ite2 (fun _ => ?_) (fun hn3 => ?_)
      · refine ⟨_, rfl, _, rfl, _, rfl, by show 4 ≤ sizeLine; decide, fun p6 hp6 => ?_⟩
        exact k (.give ns lk b) _ _ ⟨nok, nas, hlk⟩ (New.tup (NewL.cons New.str (NewL.cons nw5 (NewL.cons New.str (NewL.cons New.str NewL.nil)))) B05.stand hp6) (S5.new hp6) (B05.upd' hp6)
      · refine ⟨_, rfl, by show 1 ≤ sizeLine; decide, fun p6 hp6 => ?_⟩
        have h16 : (upd H5 p6 (.lst [.str ("" : Str)])) r1 = some (.lst (asked.map V.str)) := by
          rw [upd_ne (ne_of_none (B05.keep _ _ n1 h1) hp6)]
          exact B05.keep _ _ n1 h1
        refine ⟨_, rfl, _, _, _, _, rfl, rfl, upd_same, h16, by rw [List.length_map]; exact Nat.le_trans (show 1 + asked.length ≤ 12 by have := ok1.len; omega) (by decide), fun p7 hp7 => ?_⟩
        have S7 := (S5.new (o := .lst [.str ("" : Str)]) hp6).new (o := .lst ([.str ("" : Str)] ++ asked.map V.str)) hp7
        refine ⟨a, c, p7, _, rfl, S7, (S5.new hp6).no hp7, upd_same, by simp, by have := ok1.len; simp; omega, fun x H8 hx8 S8 B8 => ?_⟩
        obtain ⟨u, hu, rfl⟩ : ∃ u : Str, (u = "" ∨ u ∈ asked) ∧ x = V.str u := by
          rcases List.mem_cons.mp hx8 with e | hx8
          · exact ⟨"", .inl rfl, e⟩
          · obtain ⟨u, hu, e⟩ := List.mem_map.mp hx8
            exact ⟨u, .inr hu, e.symm⟩
        have B58 := ((But.refl (M := [a, c]) (H := H5)).upd' (o := .lst [.str ("" : Str)]) hp6 |>.upd' hp7).trans B8
        refine ⟨_, rfl, _, rfl, _, rfl, _, rfl, _, rfl, a, c, 2, rfl, S8, by decide, by decide, fun m H9 e1 e2 S9 B9 => ⟨rfl, ?_⟩⟩
        have B59 := B58.trans B9
        refine ⟨by show 6 ≤ sizeLine; decide, fun p9 hp9 => ?_⟩
        have B09 := B05.trans B59
        exact k (.send ns lk u b (decide (V.int m = V.int 1))) _ _ ⟨nok, nas, hlk, hu⟩ (New.tup (NewL.cons New.str (NewL.cons (nw5.mono S.std B59) (NewL.cons New.str (NewL.cons New.str (NewL.cons New.str (NewL.cons New.bl NewL.nil)))))) B09.stand hp9) (S9.new hp9) (B09.upd' hp9)
    cases hlk : links with
    | nil =>
      subst hlk
      refine iteT ?_
      refine ⟨_, rfl, _, _, rfl, rfl, _, rfl, ?_⟩
      refine ite2 (fun _ => tell _ B3) (fun hn => rest (.inl (by have : ¬ (2 : Int) < n := by simpa using hn
                                                                 omega)) _ rfl)
    | cons l0 lr => exact iteF (iteF (rest (.inr (by rw [hlk]; simp)) _ rfl))
end Kb

set_option Elab.async false
set_option linter.all false
set_option maxRecDepth 100000
set_option maxHeartbeats 4000000
/-! Kb, 8: own answers, doors. -/
namespace Kb
open PySem PySem.Spec PyProof.Rows L2

/-! ### _law_own -/
abbrev ownD (os : List (Str × Own)) : List (Str × D) := os.map fun p => (p.1, p.2.d)
structure OwnsOk (asked links : List Str) (os : List (Str × Own)) : Prop where
  sub : (os.map (·.1)).Sublist (asked.take 5)
  ok : ∀ p ∈ os, p.2.ok links
def sp_l_own (K : PySem.W.Frag) : Sp := fun vs H Q _ => ∃ (a c r1 r2 : Addr) (asked links : List Str), vs = [.ref a, .ref r1, .ref r2] ∧ StAt H a c ∧ r1 ∉ [a, c] ∧ r2 ∉ [a, c] ∧
  H r1 = some (.lst (asked.map V.str)) ∧ H r2 = some (.lst (links.map V.str)) ∧ Names 11 asked ∧ Names 11 links ∧
  ∀ (os : List (Str × Own)) (v : V) (H' : Hp), OwnsOk asked links os → New H H' (.dct (ownD os)) v → StAt H' a c → But [a, c] H H' → Q v H'
theorem len_l_own {K : PySem.W.Frag} {vs : List V} {H : Hp} {Q : VK} {E : XK} (h : sp_l_own K vs H Q E) : vs.length = 3 := by
  obtain ⟨a, c, r1, r2, _, _, rfl, _⟩ := h
  rfl
def t_l_own (K : PySem.W.Frag) : TS :=
  (tSeq (tAsg tDNewK (gName 3))
  (tSeq (tFor (iList K (tSl (rSlL K) (tVar 1) tNoPart (tPart (tC (.int 5))))) (gName 4)
    (tSeq (tAsg (tCall (sp_l_draw K) [] E0 (tCons (tVar 0) (tCons (tC (.int 8)) tNil))) (gName 5))
  (C8.tCut (tIfS (tTest (tOp rEq (tVar 5) (tC (.int 0))))
    (sDPut (tVar 3) (tVar 4) (tTup (tCons (tC (.str ("value" : Str))) (tCons (tCall (sp_l_value K) [] E0 (tCons (tVar 0) tNil)) tNil))))
    tNext)
  (C8.tCut (tIfS (tTest (tOp rEq (tVar 5) (tC (.int 1))))
    (sDPut (tVar 3) (tVar 4) (tTup (tCons (tC (.str ("self" : Str))) tNil)))
    tNext)
  (tIfS (tAnd (tTest (tOp rEq (tVar 5) (tC (.int 2)))) (tTest (tOp (rNeD K) (tVar 2) (tLst tNil))))
    (sDPut (tVar 3) (tVar 4) (tTup (tCons (tC (.str ("link" : Str))) (tCons (tCall (sp_l_pick K) [] E0 (tCons (tVar 0) (tCons (tVar 2) tNil))) tNil))))
    tNext)))))
  (tRet (tVar 3))))
theorem cutN {xs : List V} {n : Nat} : cutV xs none (some (n : Int)) = xs.take n := by
  unfold cutV HT.sIx
  simp
  rw [if_neg (by omega)]
  omega
theorem valV_none {kvs : List (Key × V)} {k : Key} (h : k ∉ kvs.map (·.1)) : valV kvs k = none := by
  cases e : valV kvs k with
  | none => rfl
  | some v => exact absurd (valV_in e) h
theorem keys_inr {os : List (Str × D)} {kvs : List (Key × V)} {k : Str} (h : kvs.map (·.1) = os.map fun p => (Sum.inr p.1 : Key)) (n : k ∉ os.map (·.1)) : (Sum.inr k : Key) ∉ kvs.map (·.1) := by
  rw [h]
  intro m
  obtain ⟨p, hp, e⟩ := List.mem_map.mp m
  exact n (List.mem_map.mpr ⟨p, hp, Sum.inr.inj e⟩)
theorem keys_len {os : List (Str × D)} {kvs : List (Key × V)} (h : kvs.map (·.1) = os.map fun p => (Sum.inr p.1 : Key)) : kvs.length = os.length := by
  have := congrArg List.length h
  rw [List.length_map, List.length_map] at this
  exact this
/-- what the loop over the names keeps -/
structure OwnI (H0 : Hp) (a c d : Addr) (done links : List Str) (os : List (Str × Own)) (kvs : List (Key × V)) (H H' : Hp) : Prop where
  sub : (os.map (·.1)).Sublist done
  ok : ∀ p ∈ os, p.2.ok links
  at_ : H' d = some (.dK kvs)
  ks : kvs.map (·.1) = (ownD os).map fun p => (Sum.inr p.1 : Key)
  nw : NewP H0 H' (ownD os) kvs
  st : StAt H' a c
  but : But [a, c] H H'
theorem pure_l_own {K : PySem.W.Frag} (vs : List V) (H : Hp) (Q : VK) (E : XK) (h : sp_l_own K vs H Q E) : t_l_own K (fin Q) (st0 6 vs) H := by
  obtain ⟨a, c, r1, r2, asked, links, rfl, S, n1, n2, h1, h2, ok1, ok2, k⟩ := h
  intro d hd
  have nd := S.no hd
  have h1' : (upd H d (.dK [])) r1 = some (.lst (asked.map V.str)) := by rw [upd_ne (ne_of_none h1 hd)]; exact h1
  refine ⟨_, rfl, _, rfl, _, _, rfl, SqL.of h1', fun p hp => ?_⟩
  have hp0 : H p = none := (But.new (M := []) hd).free hp
  have np := S.no hp0
  have npd : d ≠ p := fun z => by rw [← z, upd_same] at hp; cases hp
  rw [show (5 : Int) = ((5 : Nat) : Int) from rfl, cutN, ← List.map_take]
  -- the base: behind the dict and the slice
  have B0 : But [a, c] H (upd (upd H d (.dK [])) p (.lst ((asked.take 5).map V.str))) := (But.new hd).upd (.inr hp0)
  have S0 : StAt (upd (upd H d (.dK [])) p (.lst ((asked.take 5).map V.str))) a c := (S.new hd).upd np
  have std0 : Std [d, a, c] (upd (upd H d (.dK [])) p (.lst ((asked.take 5).map V.str))) := Std.cons (a := d) (o := .dK []) (by rw [upd_ne npd, upd_same]) S0.std
  generalize hH0 : upd (upd H d (.dK [])) p (.lst ((asked.take 5).map V.str)) = H0 at B0 S0 std0 ⊢
  have hd0 : H0 d = some (.dK []) := by rw [← hH0, upd_ne npd, upd_same]
  have hp1 : H0 p = some (.lst ((asked.take 5).map V.str)) := by rw [← hH0, upd_same]
  have tnd : (asked.take 5).Nodup := ok1.nd.sublist (List.take_sublist ..)
  have tl5 : (asked.take 5).length ≤ 5 := by rw [List.length_take]; omega
  refine ⟨p, rfl, ⟨_, SqL.of hp1⟩, for_list (K := K) (a := p) (xs := (asked.take 5).map V.str) (fun i σ H' => ∃ (os : List (Str × Own)) (kvs : List (Key × V)) (v4 v5 : Option V), σ = [some (.ref a), some (.ref r1), some (.ref r2), some (.ref d), v4, v5] ∧
    OwnI H0 a c d ((asked.take 5).take i) links os kvs H H' ∧ But [d, a, c] H0 H')
    ⟨[], [], none, none, rfl, ⟨by simp, by simp, hd0, rfl, fun _ _ => rfl, S0, B0⟩, But.refl⟩ (fun i σ H' _ ⟨_, _, _, _, _, I, B⟩ => SqL.of (B.keep _ _ (by
      intro m
      rcases List.mem_cons.mp m with e | m
      · exact npd e.symm
      · exact np m) hp1)) ?_ ?_⟩
  · rintro i x σ H1 hx ⟨os, kvs, v4, v5, rfl, I, BB⟩
    rw [List.getElem?_map] at hx
    obtain ⟨w, hw, rfl⟩ := Option.map_eq_some_iff.mp hx
    have et : (asked.take 5).take (i + 1) = (asked.take 5).take i ++ [w] := by
      rw [List.take_add_one, hw]
      rfl
    have wno : w ∉ (asked.take 5).take i := fun m => by
      have : ((asked.take 5).take (i + 1)).Nodup := tnd.sublist (List.take_sublist ..)
      rw [et] at this
      exact (List.nodup_append.mp this).2.2 w m w (List.mem_singleton.mpr rfl) rfl
    refine ⟨_, rfl, a, c, 8, rfl, I.st, by decide, by decide, fun n H2 e1 e2 S2 B2 => ?_⟩
    -- the words between the three ifs
    have I2 : OwnI H0 a c d ((asked.take 5).take i) links os kvs H H2 := ⟨I.sub, I.ok, B2.keep _ _ nd I.at_, I.ks, I.nw.mono S0.std B2, S2, I.but.trans B2⟩
    have BB2 : But [d, a, c] H0 H2 := BB.trans (B2.more (by intro x m; exact List.mem_cons_of_mem _ m))
    have put : ∀ (H3 : Hp) (o : Own) (v : V), o.ok links → New H0 H3 o.d v → But [a, c] H2 H3 → StAt H3 a c →
        ∃ H4, DPut H3 d (.str w) v H4 ∧ OwnI H0 a c d ((asked.take 5).take (i + 1)) links (os ++ [(w, o)]) (kvs ++ [(Sum.inr w, v)]) H H4 ∧ But [d, a, c] H0 H4 := by
      intro H3 o v hov hnw B3 S3
      have hd3 := B3.keep _ _ nd I2.at_
      have hno : (Sum.inr w : Key) ∉ kvs.map (·.1) := keys_inr I.ks fun m => wno (I.sub.subset (by
        have : (ownD os).map (·.1) = os.map (·.1) := by rw [List.map_map]; rfl
        rw [← this]
        exact m))
      have hlen : kvs.length ≤ 5 := by
        rw [keys_len I.ks, List.length_map]
        have := I.sub.length_le
        rw [List.length_map, List.length_take] at this
        omega
      refine ⟨_, DPut.k (k := Sum.inr w) hd3 (small1000 (by omega)), ?_, ?_⟩
      · have e : putK kvs (Sum.inr w : Key) v = kvs ++ [(Sum.inr w, v)] := putK_new v (valV_none hno)
        have nwP : NewP H0 (upd H3 d (.dK (putK kvs (Sum.inr w : Key) v))) (ownD (os ++ [(w, o)])) (kvs ++ [(Sum.inr w, v)]) := by
          have e2 : ownD (os ++ [(w, o)]) = ownD os ++ [(w, o.d)] := by rw [ownD, List.map_append]; rfl
          rw [e2]
          exact ((I2.nw.mono S0.std B3).snoc hnw).mono (M := [d]) (fun x m => by rw [List.mem_singleton.mp m]; exact ne_none hd0) (But.refl.upd (.inl (by simp)))
        refine ⟨?_, ?_, by rw [upd_same, e], ?_, nwP, S3.upd nd, (I2.but.trans B3).upd (.inr hd)⟩
        · rw [List.map_append, et]
          exact I.sub.append (List.Sublist.refl _)
        · intro q hq
          rcases List.mem_append.mp hq with hq | hq
          · exact I.ok q hq
          · rw [List.mem_singleton.mp hq]
            exact hov
        · rw [List.map_append, I.ks]
          simp only [ownD, List.map_append]
          rfl
      · exact (BB2.trans (B3.more (by intro x m; exact List.mem_cons_of_mem _ m))).upd (.inl (by simp))
    -- Mid: either nothing yet, or done
    refine ⟨fun σ H' => ∃ (os' : List (Str × Own)) (kvs' : List (Key × V)), σ = [some (.ref a), some (.ref r1), some (.ref r2), some (.ref d), some (.str w), some (.int n)] ∧
      ((n ≠ 0 ∧ os' = os ∧ kvs' = kvs ∧ H' = H2) ∨ (n = 0 ∧ OwnI H0 a c d ((asked.take 5).take (i + 1)) links os' kvs' H H' ∧ But [d, a, c] H0 H')), ?_, ?_⟩
    · refine ⟨_, rfl, rfl, _, rfl, ?_⟩
      rw [dec_int]
      refine ite2 (fun hn => ?_) (fun hn => ?_)
      · have hn : n = 0 := by simpa using hn
        refine ⟨_, rfl, a, c, rfl, S2, fun u H3 nu S3 B3 => ?_⟩
        refine ⟨by show 2 ≤ sizeLine; decide, fun q hq => ?_⟩
        obtain ⟨H4, hput, I4, B4⟩ := put (upd H3 q (.tup [.str ("value" : Str), .str u])) (.val u) (.ref q) nu (New.tup (NewL.cons New.str (NewL.cons New.str NewL.nil)) (BB2.trans (B3.more (by intro x m; exact List.mem_cons_of_mem _ m))).stand hq) (B3.upd' hq) (S3.new hq)
        exact ⟨_, rfl, _, rfl, d, H4, rfl, hput, _, _, rfl, .inr ⟨hn, I4, B4⟩⟩
      · have hn : n ≠ 0 := by simpa using hn
        exact ⟨os, kvs, rfl, .inl ⟨hn, rfl, rfl, rfl⟩⟩
    · rintro σ H3 ⟨os', kvs', rfl, hor⟩
      refine ⟨fun σ H' => ∃ (os' : List (Str × Own)) (kvs' : List (Key × V)), σ = [some (.ref a), some (.ref r1), some (.ref r2), some (.ref d), some (.str w), some (.int n)] ∧
        ((n ≠ 0 ∧ n ≠ 1 ∧ os' = os ∧ kvs' = kvs ∧ H' = H2) ∨ ((n = 0 ∨ n = 1) ∧ OwnI H0 a c d ((asked.take 5).take (i + 1)) links os' kvs' H H' ∧ But [d, a, c] H0 H')), ?_, ?_⟩
      · refine ⟨_, rfl, rfl, _, rfl, ?_⟩
        rw [dec_int]
        refine ite2 (fun hn => ?_) (fun hn => ?_)
        · have hn : n = 1 := by simpa using hn
          rcases hor with ⟨hn0, rfl, rfl, rfl⟩ | ⟨hn0, _⟩
          · refine ⟨by show 1 ≤ sizeLine; decide, fun q hq => ?_⟩
            obtain ⟨H4, hput, I4, B4⟩ := put (upd H3 q (.tup [.str ("self" : Str)])) .self (.ref q) trivial (New.tup (NewL.cons New.str NewL.nil) BB2.stand hq) (But.refl.upd' hq) (S2.new hq)
            exact ⟨_, rfl, _, rfl, d, H4, rfl, hput, _, _, rfl, .inr ⟨.inr hn, I4, B4⟩⟩
          · omega
        · have hn : n ≠ 1 := by simpa using hn
          rcases hor with ⟨hn0, rfl, rfl, rfl⟩ | ⟨hn0, I3, B3⟩
          · exact ⟨_, _, rfl, .inl ⟨hn0, hn, rfl, rfl, rfl⟩⟩
          · exact ⟨_, _, rfl, .inr ⟨.inl hn0, I3, B3⟩⟩
      · rintro σ H4 ⟨os', kvs', rfl, hor⟩
        have skip : n ≠ 0 → n ≠ 1 → ∀ H5, But [] H2 H5 → ∃ os kvs v4 v5, [some (V.ref a), some (V.ref r1), some (V.ref r2), some (V.ref d), some (V.str w), some (V.int n)] = [some (.ref a), some (.ref r1), some (.ref r2), some (.ref d), v4, v5] ∧
            OwnI H0 a c d ((asked.take 5).take (i + 1)) links os kvs H H5 ∧ But [d, a, c] H0 H5 := by
          intro _ _ H5 B5
          refine ⟨os, kvs, _, _, rfl, ⟨?_, I.ok, B5.keep _ _ (by simp) I2.at_, I.ks, I2.nw.mono Std.nil B5, S2.nil B5, I2.but.trans B5.nil⟩, BB2.trans B5.nil⟩
          rw [et]
          exact I.sub.trans (List.sublist_append_left _ _)
        refine ⟨_, rfl, rfl, _, rfl, ?_⟩
        rw [dec_int]
        refine ite2 (fun hn => ?_) (fun hn => ?_)
        · have hn : n = 2 := by simpa using hn
          rcases hor with ⟨hn0, hn1, rfl, rfl, rfl⟩ | ⟨hn0, _⟩
          · have hl2 := I2.but.keep _ _ n2 h2
            refine ⟨_, rfl, sz0, fun q hq => neE (by rw [upd_ne (ne_of_none hl2 hq)]; exact hl2) (names_ok ok2) upd_same ⟨_, rfl, ?_⟩⟩
            have B5 : But [] H4 (upd H4 q (.lst [])) := But.new hq
            refine ite2 (fun hne => ?_) (fun _ => skip hn0 hn1 _ B5)
            · have hlk : links ≠ [] := fun z => by rw [z] at hne; cases hne
              refine ⟨_, rfl, _, rfl, a, c, r2, links.map V.str, rfl, S2.nil B5, n2, B5.keep _ _ (by simp) hl2, by simpa using hlk, by rw [List.length_map]; exact Nat.le_trans ok2.len (by decide), fun x H6 hx6 S6 B6 => ?_⟩
              obtain ⟨lk, hlk2, rfl⟩ := List.mem_map.mp hx6
              refine ⟨by show 2 ≤ sizeLine; decide, fun q2 hq2 => ?_⟩
              have B26 : But [a, c] H4 H6 := B5.nil.trans B6
              obtain ⟨H7, hput, I7, B7⟩ := put (upd H6 q2 (.tup [.str ("link" : Str), .str lk])) (.link lk) (.ref q2) hlk2 (New.tup (NewL.cons New.str (NewL.cons New.str NewL.nil)) (BB2.trans (B26.more (by intro x m; exact List.mem_cons_of_mem _ m))).stand hq2) (B26.upd' hq2) (S6.new hq2)
              exact ⟨_, rfl, _, rfl, d, H7, rfl, hput, _, _, _, _, rfl, I7, B7⟩
          · omega
        · rcases hor with ⟨hn0, hn1, rfl, rfl, rfl⟩ | ⟨hn0, I3, B3⟩
          · exact iteF (skip hn0 hn1 _ But.refl)
          · exact iteF ⟨_, _, _, _, rfl, I3, B3⟩
  · rintro σ H1 ⟨os, kvs, v4, v5, rfl, I, BB⟩
    rw [List.length_map, List.take_length] at I
    exact ⟨_, rfl, k os _ H1 ⟨I.sub, I.ok⟩ (New.dctm I.nw B0.stand hd I.at_) I.st I.but⟩
end Kb

set_option Elab.async false
set_option linter.all false
set_option maxRecDepth 100000
set_option maxHeartbeats 4000000
/-! Kb, 9: doors; a drawn house as data. -/
namespace Kb
open PySem PySem.Spec PyProof.Rows L2

/-! ### _law_doors -/
def sp_l_doors (K : PySem.W.Frag) : Sp := fun vs H Q _ => ∃ (a c : Addr) (m : Nat), vs = [.ref a, .int (m : Int)] ∧ StAt H a c ∧ m ≤ 10 ∧
  ∀ (ws : List Str) (l : Addr) (H' : Hp), Names m ws → H l = none → H' l = some (.lst (ws.map V.str)) → StAt H' a c → But [a, c] H H' → Q (.ref l) H'
theorem len_l_doors {K : PySem.W.Frag} {vs : List V} {H : Hp} {Q : VK} {E : XK} (h : sp_l_doors K vs H Q E) : vs.length = 2 := by
  obtain ⟨a, c, m, rfl, _⟩ := h
  rfl
def t_l_doors (K : PySem.W.Frag) : TS :=
  (tSeq (tIfS (tOr (tTest (tOp rEq (tVar 1) (tC (.int 0)))) (tTest (tOp rEq (tCall (sp_l_draw K) [] E0 (tCons (tVar 0) (tCons (tC (.int 6)) tNil))) (tC (.int 0)))))
    (tRet (tLst tNil))
    tNext)
  (tRet (tCall (sp_l_words K) [] E0 (tCons (tVar 0) (tCons (tCB rMin2 (tCons (tVar 1) (tCons (tOp rAddI (tC (.int 1)) (tCall (sp_l_draw K) [] E0 (tCons (tVar 0) (tCons (tOp rAddI (tVar 1) (tC (.int 1))) tNil)))) tNil))) tNil)))))
theorem pure_l_doors {K : PySem.W.Frag} (vs : List V) (H : Hp) (Q : VK) (E : XK) (h : sp_l_doors K vs H Q E) : t_l_doors K (fin Q) (st0 2 vs) H := by
  obtain ⟨a, c, m, rfl, S, hm, k⟩ := h
  have none_ : ∀ H1, StAt H1 a c → But [a, c] H H1 → tRet (tLst tNil) (fin Q) (st0 2 [.ref a, .int (m : Int)]) H1 := fun H1 S1 B1 =>
    ⟨sz0, fun p hp => k [] p _ ⟨Nat.zero_le _, List.nodup_nil, by simp⟩ (B1.free hp) upd_same (S1.new hp) (B1.upd' hp)⟩
  refine ⟨_, rfl, rfl, _, rfl, ?_⟩
  rw [dec_int]
  refine ite2 (fun _ => iteT (none_ H S But.refl)) (fun hn => ?_)
  have hm0 : m ≠ 0 := fun z => hn (by rw [z]; rfl)
  refine ⟨_, rfl, a, c, 6, rfl, S, by decide, by decide, fun n H1 e1 e2 S1 B1 => ⟨rfl, _, rfl, ?_⟩⟩
  refine ite2 (fun _ => none_ H1 S1 B1) (fun _ => ?_)
  refine ⟨_, rfl, _, rfl, _, rfl, _, rfl, _, _, rfl, rfl, a, c, (m : Int) + 1, rfl, S1, by omega, by omega, fun n H2 e1 e2 S2 B2 => ?_⟩
  obtain ⟨i, rfl, hi⟩ := idx_of (k := m + 1) e1 e2
  refine ⟨_, _, rfl, rfl, _, _, rfl, ?_⟩
  have go : ∀ z : Int, (∃ z' : Nat, z = (z' : Int) ∧ z' ≤ m) → sp_l_words K ([V.ref a, V.int z] ++ []) H2 Q E0 := by
    rintro z ⟨z', rfl, hz⟩
    exact ⟨a, c, z', rfl, S2, by omega, fun ws l H3 h1 h2 h3 h4 h5 S3 B3 => k ws l H3 ⟨by omega, h3, h2⟩ ((B1.trans B2).free h4) h5 S3 ((B1.trans B2).trans B3)⟩
  refine go _ ?_
  show ∃ z' : Nat, (if (1 : Int) + (i : Int) < (m : Int) then (1 : Int) + (i : Int) else (m : Int)) = (z' : Int) ∧ z' ≤ m
  by_cases hlt : (1 : Int) + (i : Int) < (m : Int)
  · rw [if_pos hlt]
    exact ⟨i + 1, by omega, by omega⟩
  · rw [if_neg hlt]
    exact ⟨m, rfl, Nat.le_refl _⟩

/-! ### _law_house -/
structure KD where
  name : Str
  links : List (Str × List Str)
  own : List (Str × Own)
  rules : List Rule
  hid : Bool
abbrev KD.lks (k : KD) : List Str := k.links.map (·.1)
abbrev linkD (ls : List (Str × List Str)) : List (Str × D) := ls.map fun p => (p.1, nmD p.2)
def KD.d (k : KD) : D := .lst [.str k.name, .dct (linkD k.links), .dct (ownD k.own), .lst (k.rules.map Rule.d), .bl k.hid]
structure KdOk (kinds asked : List Str) (ln rn : Nat) (k : KD) : Prop where
  lk : Names ln k.lks
  cho : ∀ p ∈ k.links, ChoOk kinds p.2
  own : OwnsOk asked k.lks k.own
  rl : k.rules.length ≤ rn
  ro : ∀ r ∈ k.rules, r.ok asked k.lks
structure HsOk (kn ln an rn : Nat) (kinds asked : List Str) (hs : List KD) : Prop where
  nm : hs.map KD.name = kinds
  ks : Names kn kinds
  kne : kinds ≠ []
  as : Names an asked
  ok : ∀ k ∈ hs, KdOk kinds asked ln rn k
def sp_l_house (K : PySem.W.Frag) : Sp := fun vs H Q _ => ∃ (a c : Addr) (kn ln an rn : Nat), vs = [.ref a, .int (kn : Int), .int (ln : Int), .int (an : Int), .int (rn : Int)] ∧ StAt H a c ∧ 1 ≤ kn ∧ kn ≤ 4 ∧ ln ≤ 10 ∧ 1 ≤ an ∧ an ≤ 10 ∧ rn ≤ 300 ∧
  ∀ (kinds asked : List Str) (hs : List KD) (v : V) (H' : Hp), HsOk kn ln an rn kinds asked hs → New H H' (.lst (hs.map KD.d)) v → StAt H' a c → But [a, c] H H' → Q v H'
theorem len_l_house {K : PySem.W.Frag} {vs : List V} {H : Hp} {Q : VK} {E : XK} (h : sp_l_house K vs H Q E) : vs.length = 5 := by
  obtain ⟨a, c, _, _, _, _, rfl, _⟩ := h
  rfl
def t_l_house (K : PySem.W.Frag) : TS :=
  (tSeq (tAsg (tCall (sp_l_words K) [] E0 (tCons (tVar 0) (tCons (tOp rAddI (tC (.int 1)) (tCall (sp_l_draw K) [] E0 (tCons (tVar 0) (tCons (tVar 1) tNil)))) tNil))) (gName 5))
  (tSeq (tAsg (tCall (sp_l_words K) [] E0 (tCons (tVar 0) (tCons (tOp rAddI (tC (.int 1)) (tCall (sp_l_draw K) [] E0 (tCons (tVar 0) (tCons (tVar 3) tNil)))) tNil))) (gName 6))
  (tSeq (tAsg (tLst tNil) (gName 7))
  (tSeq (tFor (iList K (tVar 5)) (gName 8)
    (tSeq (tAsg (tCall (sp_l_doors K) [] E0 (tCons (tVar 0) (tCons (tVar 2) tNil))) (gName 9))
  (tSeq (tAsg tDNewK (gName 10))
  (tSeq (tFor (iList K (tVar 9)) (gName 11)
    (sDPut (tVar 10) (tVar 11) (tCall (sp_l_choices K) [] E0 (tCons (tVar 0) (tCons (tVar 5) tNil)))))
  (tSeq (tAsg (tLc (iRng1 (tCons (tCall (sp_l_draw K) [] E0 (tCons (tVar 0) (tCons (tOp rAddI (tVar 4) (tC (.int 1))) tNil))) tNil)) (gName 13) tYes (tCall (sp_l_rule K) [] E0 (tCons (tVar 0) (tCons (tVar 6) (tCons (tVar 9) tNil)))) [13]) (gName 12))
  (tDrop (tBM K "list" rAppend (tVar 7) (tCons (tLst (tCons (tVar 8) (tCons (tVar 10) (tCons (tCall (sp_l_own K) [] E0 (tCons (tVar 0) (tCons (tVar 6) (tCons (tVar 9) tNil)))) (tCons (tVar 12) (tCons (tOp rEq (tCall (sp_l_draw K) [] E0 (tCons (tVar 0) (tCons (tC (.int 4)) tNil))) (tC (.int 0))) tNil)))))) tNil))))))))
  (tRet (tVar 7))))))
theorem one_add {a : Addr} {i : Nat} : ([V.ref a, V.int (1 + (i : Int))] : List V) ++ [] = [.ref a, .int ((i + 1 : Nat) : Int)] := by
  rw [show (1 : Int) + (i : Int) = ((i + 1 : Nat) : Int) by omega]
  rfl
theorem sub2 {a c x : Addr} : ∀ y ∈ [a, c], y ∈ [x, a, c] := fun y m => List.mem_cons_of_mem _ m
theorem not3 {a c x y : Addr} (h : y ≠ x) (n : y ∉ [a, c]) : y ∉ [x, a, c] := fun m => by
  rcases List.mem_cons.mp m with e | m
  · exact h e
  · exact n m
theorem pure_l_house {K : PySem.W.Frag} (vs : List V) (H : Hp) (Q : VK) (E : XK) (h : sp_l_house K vs H Q E) : t_l_house K (fin Q) (st0 14 vs) H := by
  obtain ⟨a, c, kn, ln, an, rn, rfl, S, kn1, kn4, ln2, an1, an8, rn3, k⟩ := h
  -- the kinds' names
  refine ⟨_, rfl, _, rfl, _, rfl, a, c, (kn : Int), rfl, S, by omega, by omega, fun n H1 e1 e2 S1 B1 => ?_⟩
  obtain ⟨i, rfl, hi⟩ := idx_of (k := kn) e1 e2
  refine ⟨_, _, rfl, rfl, a, c, i + 1, one_add, S1, by omega, fun kinds w5 H2 k1 k2 k3 k4 k5 S2 B2 => ?_⟩
  have B02 := B1.trans B2
  have n5 := S1.no k4
  have kok : Names kn kinds := ⟨by omega, k3, k2⟩
  have kne : kinds ≠ [] := fun z => by rw [z] at k1; cases k1
  -- the asked names
  refine ⟨_, rfl, _, rfl, _, rfl, a, c, (an : Int), rfl, S2, by omega, by omega, fun n H3 e1 e2 S3 B3 => ?_⟩
  obtain ⟨j, rfl, hj⟩ := idx_of (k := an) e1 e2
  refine ⟨_, _, rfl, rfl, a, c, j + 1, one_add, S3, by omega, fun asked w6 H4 a1 a2 a3 a4 a5 S4 B4 => ?_⟩
  have B04 := (B02.trans B3).trans B4
  have n6 := S3.no a4
  have aok : Names an asked := ⟨by omega, a3, a2⟩
  have k5' : H4 w5 = some (.lst (kinds.map V.str)) := (B3.trans B4).keep _ _ n5 k5
  refine ⟨sz0, fun hh hhh => ?_⟩
  have nh := S4.no hhh
  have S5 := S4.new (o := .lst []) hhh
  have hh0 : H hh = none := B04.free hhh
  have B05 : But [a, c] H (upd H4 hh (.lst [])) := B04.upd' hhh
  have k55 : upd H4 hh (.lst []) w5 = some (.lst (kinds.map V.str)) := by rw [upd_ne (ne_of_none k5' hhh)]; exact k5'
  have a55 : upd H4 hh (.lst []) w6 = some (.lst (asked.map V.str)) := by rw [upd_ne (ne_of_none a5 hhh)]; exact a5
  have hh5 : upd H4 hh (.lst []) hh = some (.lst []) := upd_same
  generalize upd H4 hh (.lst []) = H5 at S5 B05 k55 a55 hh5 ⊢
  have std5 : Std [hh, a, c] H5 := Std.cons hh5 S5.std
  have n5h : w5 ∉ [hh, a, c] := not3 (fun z => by rw [z, hhh] at k5'; cases k5') n5
  have n6h : w6 ∉ [hh, a, c] := not3 (fun z => by rw [z, hhh] at a5; cases a5) n6
  refine ⟨_, rfl, w5, rfl, ⟨_, SqL.of k55⟩, for_list (K := K) (a := w5) (xs := kinds.map V.str) (fun i σ H' => ∃ (hs : List KD) (xs : List V) (v8 v9 v10 v11 v12 v13 : Option V),
    σ = [some (.ref a), some (.int (kn : Int)), some (.int (ln : Int)), some (.int (an : Int)), some (.int (rn : Int)), some (.ref w5), some (.ref w6), some (.ref hh), v8, v9, v10, v11, v12, v13] ∧
    hs.map KD.name = kinds.take i ∧ (∀ k ∈ hs, KdOk kinds asked ln rn k) ∧ H' hh = some (.lst xs) ∧ NewL H5 H' (hs.map KD.d) xs ∧ xs.length = i ∧ StAt H' a c ∧ But [a, c] H H' ∧ But [hh, a, c] H5 H')
    ⟨[], [], none, none, none, none, none, none, rfl, by simp, by simp, hh5, NewL.nil, rfl, S5, B05, But.refl⟩ (fun i σ H' _ ⟨_, _, _, _, _, _, _, _, _, _, _, _, _, _, _, _, B⟩ => SqL.of (B.keep _ _ n5h k55)) ?_ ?_⟩
  · rintro i x σ H6 hx ⟨hs, xs, v8, v9, v10, v11, v12, v13, rfl, q1, q2, q3, q4, q5, S6, B06, BB6⟩
    rw [List.getElem?_map] at hx
    obtain ⟨w, hw, rfl⟩ := Option.map_eq_some_iff.mp hx
    have hil : i < 4 := by
      have := (List.getElem?_eq_some_iff.mp hw).1
      have := kok.len
      omega
    -- doors
    refine ⟨_, rfl, _, rfl, a, c, ln, rfl, S6, ln2, fun ds l9 H7 dok hl9 hd9 S7 B7 => ?_⟩
    have n9 := S6.no hl9
    have BB7 := BB6.trans (B7.more sub2)
    have n9h : l9 ≠ hh := fun z => by rw [z, q3] at hl9; cases hl9
    -- leads = {}
    intro d hd
    have nd := S7.no hd
    have d9 : d ≠ l9 := fun z => by rw [z, hd9] at hd; cases hd
    have ndh : d ≠ hh := fun z => by
      have := B7.keep _ _ nh q3
      rw [← z, hd] at this
      cases this
    have S8 := S7.new (o := .dK []) hd
    have hl9' : upd H7 d (.dK []) l9 = some (.lst (ds.map V.str)) := by rw [upd_ne (Ne.symm d9)]; exact hd9
    have hd8 : upd H7 d (.dK []) d = some (.dK []) := upd_same
    have B78 : But [] H7 (upd H7 d (.dK [])) := But.new hd
    have BB8 : But [hh, a, c] H5 (upd H7 d (.dK [])) := BB7.trans B78.nil
    generalize upd H7 d (.dK []) = H8 at S8 hl9' hd8 B78 BB8 ⊢
    have std8 : Std [d, a, c] H8 := Std.cons hd8 S8.std
    refine ⟨_, rfl, l9, rfl, ⟨_, SqL.of hl9'⟩, for_list (K := K) (a := l9) (xs := ds.map V.str) (fun i' σ H' => ∃ (ls : List (Str × List Str)) (kvs : List (Key × V)) (v11 : Option V),
      σ = [some (.ref a), some (.int (kn : Int)), some (.int (ln : Int)), some (.int (an : Int)), some (.int (rn : Int)), some (.ref w5), some (.ref w6), some (.ref hh), some (.str w), some (.ref l9), some (.ref d), v11, v12, v13] ∧
      ls.map (·.1) = ds.take i' ∧ (∀ p ∈ ls, ChoOk kinds p.2) ∧ H' d = some (.dK kvs) ∧ kvs.map (·.1) = (linkD ls).map (fun p => (Sum.inr p.1 : Key)) ∧ NewP H8 H' (linkD ls) kvs ∧ StAt H' a c ∧ But [d, a, c] H8 H')
      ⟨[], [], v11, rfl, by simp, by simp, hd8, rfl, fun _ _ => rfl, S8, But.refl⟩ (fun i σ H' _ ⟨_, _, _, _, _, _, _, _, _, _, B⟩ => SqL.of (B.keep _ _ (not3 (Ne.symm d9) n9) hl9')) ?_ ?_⟩
    · rintro i' x σ H9 hx9 ⟨ls, kvs, v11', rfl, g1, g2, g3, g4, g5, S9, B9⟩
      rw [List.getElem?_map] at hx9
      obtain ⟨lk, hlk, rfl⟩ := Option.map_eq_some_iff.mp hx9
      have n5d : w5 ∉ [d, a, c] := not3 (fun z => by have := BB8.keep _ _ n5h k55; rw [z, hd8] at this; cases this) n5
      have hw5 : H9 w5 = some (.lst (kinds.map V.str)) := B9.keep _ _ n5d (BB8.keep _ _ n5h k55)
      refine ⟨_, rfl, _, rfl, a, c, w5, kinds, rfl, S9, n5, hw5, kne, Nat.le_trans kok.len kn4, kok.nm, kok.nd, fun ys p H10 cho hp hp10 S10 B10 => ?_⟩
      have hd10 := B10.keep _ _ nd g3
      have hno : (Sum.inr lk : Key) ∉ kvs.map (·.1) := keys_inr g4 fun m => by
        have e : (linkD ls).map (·.1) = ls.map (·.1) := by rw [List.map_map]; rfl
        rw [e, g1] at m
        have : (ds.take (i' + 1)).Nodup := dok.nd.sublist (List.take_sublist ..)
        rw [List.take_add_one, hlk] at this
        exact (List.nodup_append.mp this).2.2 lk m lk (List.mem_singleton.mpr rfl) rfl
      have hlen : kvs.length ≤ 10 := by
        have e1 := keys_len g4
        have e2 := congrArg List.length g1
        rw [List.length_map, List.length_take] at e2
        rw [List.length_map] at e1
        have := dok.len
        omega
      refine ⟨_, rfl, _, rfl, d, _, rfl, DPut.k (k := Sum.inr lk) hd10 (small1000 (by omega)), ?_⟩
      have e : putK kvs (Sum.inr lk : Key) (.ref p) = kvs ++ [(Sum.inr lk, .ref p)] := putK_new _ (valV_none hno)
      refine ⟨ls ++ [(lk, ys)], kvs ++ [(Sum.inr lk, .ref p)], _, rfl, ?_, ?_, by rw [upd_same, e], ?_, ?_, S10.upd nd, (B9.trans (B10.more sub2)).upd (.inl (by simp))⟩
      · rw [List.map_append, g1, List.take_add_one, hlk]
        rfl
      · intro q hq
        rcases List.mem_append.mp hq with hq | hq
        · exact g2 q hq
        · rw [List.mem_singleton.mp hq]
          exact cho
      · rw [List.map_append, g4]
        simp only [linkD, List.map_append]
        rfl
      · have e2 : linkD (ls ++ [(lk, ys)]) = linkD ls ++ [(lk, nmD ys)] := by rw [linkD, List.map_append]; rfl
        rw [e2]
        have nn : New H8 H10 (nmD ys) (.ref p) := (New.strs hp hp10).pre B9.stand
        exact ((g5.mono S8.std B10).snoc nn).mono (M := [d]) (fun x m => by rw [List.mem_singleton.mp m]; exact ne_none hd8) (But.refl.upd (.inl (by simp)))
    · rintro σ H9 ⟨ls, kvs, v11', rfl, g1, g2, g3, g4, g5, S9, B9⟩
      rw [List.length_map, List.take_length] at g1
      have n6d : w6 ∉ [d, a, c] := not3 (fun z => by have := BB8.keep _ _ n6h a55; rw [z, hd8] at this; cases this) n6
      have hw6 : H9 w6 = some (.lst (asked.map V.str)) := B9.keep _ _ n6d (BB8.keep _ _ n6h a55)
      have h99 : H9 l9 = some (.lst (ds.map V.str)) := B9.keep _ _ (not3 (Ne.symm d9) n9) hl9'
      -- the rules
      refine ⟨_, rfl, _, rfl, _, _, rfl, rfl, a, c, (rn : Int) + 1, rfl, S9, by omega, by omega, fun m H10 e1 e2 S10 B10 => ?_⟩
      obtain ⟨r, rfl, hr⟩ := idx_of (k := rn + 1) e1 e2
      refine ⟨(r : Int), rfl, by omega, by omega, fun Dl hD => ?_⟩
      have nD := S10.no hD
      have S11 := S10.new (o := .lst []) hD
      have hDl : upd H10 Dl (.lst []) Dl = some (.lst []) := upd_same
      have B1011 : But [] H10 (upd H10 Dl (.lst [])) := But.new hD
      have nDw6 : w6 ≠ Dl := fun z => by have := B10.keep _ _ n6 hw6; rw [z, hD] at this; cases this
      have nDl9 : l9 ≠ Dl := fun z => by have := B10.keep _ _ n9 h99; rw [z, hD] at this; cases this
      have w611 := B1011.keep _ _ (by simp) (B10.keep _ _ n6 hw6)
      have l911 := B1011.keep _ _ (by simp) (B10.keep _ _ n9 h99)
      have B911 : But [a, c] H9 (upd H10 Dl (.lst [])) := B10.trans B1011.nil
      refine lc_it walk_range (fun i' H' => ∃ (rs : List Rule) (ys : List V), H' Dl = some (.lst ys) ∧ NewL (upd H10 Dl (.lst [])) H' (rs.map Rule.d) ys ∧ ys.length = i' ∧ rs.length = i' ∧ (∀ r ∈ rs, r.ok asked ds) ∧ StAt H' a c ∧ But [Dl, a, c] (upd H10 Dl (.lst [])) H')
        ⟨[], [], upd_same, NewL.nil, rfl, rfl, by simp, S11, But.refl⟩ (fun _ _ _ _ => trivial) ?_ ?_
      · rintro i' x Ha Hb hi' ⟨rs, ys, f1, f2, f3, f4, f5, S12, B12⟩ ⟨rfl, rfl⟩
        refine ⟨rfl, _, rfl, _, rfl, _, rfl, a, c, w6, l9, asked, ds, rfl, S12, n6, n9, B12.keep _ _ (not3 nDw6 n6) w611, B12.keep _ _ (not3 nDl9 n9) l911, ⟨Nat.le_trans aok.len (by omega), aok.nd, aok.nm⟩, ⟨Nat.le_trans dok.len (by omega), dok.nd, dok.nm⟩, fun rl v Hc rok nw S13 B13 => ?_⟩
        refine ⟨ys, B13.keep _ _ nD f1, small1000 (by omega), rs ++ [rl], ys ++ [v], upd_same, ?_, by simp [f3], by simp [f4], ?_, S13.upd nD, (B12.trans (B13.more sub2)).upd (.inl (by simp))⟩
        · rw [List.map_append]
          exact ((f2.mono S11.std B13).snoc (nw.pre B12.stand)).mono (M := [Dl]) (fun x m => by rw [List.mem_singleton.mp m]; exact ne_none hDl) (But.refl.upd (.inl (by simp)))
        · intro q hq
          rcases List.mem_append.mp hq with hq | hq
          · exact f5 q hq
          · rw [List.mem_singleton.mp hq]
            exact rok
      · rintro Ha ⟨rs, ys, f1, f2, f3, f4, f5, S12, B12⟩
        -- house.append([word, leads, own(..), listed, draw(4) == 0])
        have hhA : Ha hh = some (.lst xs) := by
          refine B12.keep _ _ (not3 (fun z => ?_) nh) (B911.keep _ _ nh (B9.keep _ _ (not3 (Ne.symm ndh) nh) ?_))
          · have := B10.keep _ _ nh (B9.keep _ _ (not3 (Ne.symm ndh) nh) (B78.keep _ _ (by simp) (B7.keep _ _ nh q3)))
            rw [z, hD] at this
            cases this
          · exact B78.keep _ _ (by simp) (B7.keep _ _ nh q3)
        have w6A := B12.keep _ _ (not3 nDw6 n6) w611
        have l9A := B12.keep _ _ (not3 nDl9 n9) l911
        have dA9 : (upd H10 Dl (.lst [])) d = some (.dK kvs) := B911.keep _ _ nd g3
        have ndD : d ≠ Dl := fun z => by have := B10.keep _ _ nd g3; rw [z, hD] at this; cases this
        have dA : Ha d = some (.dK kvs) := B12.keep _ _ (not3 ndD nd) dA9
        refine ⟨_, rfl, .inl ⟨rfl, _, SqL.of hhA⟩, _, rfl, _, rfl, _, rfl, _, rfl, _, rfl, a, c, w6, l9, asked, ds, rfl, S12, n6, n9, w6A, l9A, ⟨Nat.le_trans aok.len (by omega), aok.nd, aok.nm⟩, ⟨Nat.le_trans dok.len (by omega), dok.nd, dok.nm⟩, fun os vo Hc ook nwo S13 B13 => ?_⟩
        refine ⟨_, rfl, _, rfl, a, c, 4, rfl, S13, by decide, by decide, fun m Hd e1 e2 S14 B14 => ⟨rfl, ?_⟩⟩
        refine ⟨by show 5 ≤ sizeLine; decide, fun p hp => ?_⟩
        have BAd : But [a, c] Ha Hd := B13.trans B14
        have hhd := BAd.keep _ _ nh hhA
        have d6 : H6 d = none := B7.free hd
        have D9 : H9 Dl = none := B10.free hD
        have D6 : H6 Dl = none := B7.free (B78.free (B9.free D9))
        have B6d : But [a, c] H6 Hd := by
          refine ⟨fun x o m e => ?_, fun x n => BAd.stand _ (B12.stand _ (B911.stand _ (B9.stand _ (B78.stand _ (B7.stand _ n)))))⟩
          have xd : x ≠ d := ne_of_none e d6
          have xD : x ≠ Dl := ne_of_none e D6
          exact BAd.keep _ _ m (B12.keep _ _ (not3 xD m) (B911.keep _ _ m (B9.keep _ _ (not3 xd m) (B78.keep _ _ (by simp) (B7.keep _ _ m e)))))
        have st5A : ∀ x, H5 x ≠ none → Ha x ≠ none := fun x n => B12.stand _ (B911.stand _ (B9.stand _ (BB8.stand _ n)))
        -- the parts are new
        have nL : New H5 Hd (.dct (linkD ls)) (.ref d) := by
          have n1 : NewP H8 Ha (linkD ls) kvs := (g5.mono S8.std B10).mono2 (M := [Dl, a, c]) (fun x m => by
            rcases List.mem_cons.mp m with e | m
            · rw [e]; exact .inr hD
            · exact .inl (S8.std x m)) fun p' o m e => B12.keep _ _ m (B1011.keep _ _ (by simp) e)
          exact (New.dctm (H := H7) (H0 := H8) (n1.mono S8.std BAd) B78.stand hd (BAd.keep _ _ nd dA)).pre BB7.stand
        have nO : New H5 Hd (.dct (ownD os)) vo := (nwo.mono S12.std B14).pre st5A
        have nR : New H5 Hd (.lst (rs.map Rule.d)) (.ref Dl) := (New.lstm (H := H10) (f2.mono S11.std BAd) B1011.stand hD (BAd.keep _ _ nD f1)).pre fun x n => B10.stand _ (B9.stand _ (BB8.stand _ n))
        have nK : New H5 (upd Hd p (.lst [.str w, .ref d, vo, .ref Dl, .bl (decide (V.int m = V.int 0))])) (KD.d ⟨w, ls, os, rs, decide (V.int m = V.int 0)⟩) (.ref p) :=
          New.lst (NewL.cons New.str (NewL.cons nL (NewL.cons nO (NewL.cons nR (NewL.cons New.bl NewL.nil))))) (fun x n => BAd.stand _ (st5A x n)) hp
        have hhd := B6d.keep _ _ nh q3
        have hhp : hh ≠ p := ne_of_none hhd hp
        refine ⟨hh, xs, _, rfl, rfl, by rw [upd_ne hhp]; exact hhd, small1000 (by omega), ?_⟩
        refine ⟨hs ++ [⟨w, ls, os, rs, decide (V.int m = V.int 0)⟩], xs ++ [.ref p], _, _, _, _, _, _, rfl, ?_, ?_, upd_same, ?_, by simp [q5], (S14.new hp).upd nh, ((B06.trans B6d).upd' hp).upd (.inr hh0), ((BB6.trans (B6d.more sub2)).upd' hp).upd (.inl (by simp))⟩
        · rw [List.map_append, q1, List.take_add_one, hw]
          rfl
        · intro q hq
          rcases List.mem_append.mp hq with hq | hq
          · exact q2 q hq
          · rw [List.mem_singleton.mp hq]
            refine ⟨?_, g2, ?_, ?_, ?_⟩
            · show Names ln (ls.map (·.1))
              rw [g1]
              exact dok
            · show OwnsOk asked (ls.map (·.1)) os
              rw [g1]
              exact ook
            · show rs.length ≤ rn
              omega
            · show ∀ r ∈ rs, r.ok asked (ls.map (·.1))
              rw [g1]
              exact f5
        · rw [List.map_append]
          exact (((q4.mono S5.std B6d).mono (M := []) Std.nil (But.new hp)).snoc nK).mono (M := [hh]) (fun x m => by rw [List.mem_singleton.mp m]; exact ne_none hh5) (But.refl.upd (.inl (by simp)))
  · rintro σ H6 ⟨hs, xs, v8, v9, v10, v11, v12, v13, rfl, q1, q2, q3, q4, q5, S6, B06, BB6⟩
    rw [List.length_map, List.take_length] at q1
    exact ⟨_, rfl, k kinds asked hs _ H6 ⟨q1, kok, kne, aok, q2⟩ (New.lstm q4 B05.stand hh0 q3) S6 B06⟩
end Kb

set_option Elab.async false
set_option linter.all false
set_option maxRecDepth 100000
set_option maxHeartbeats 4000000
/-! Kb, 10: len(set(xs)) of texts. -/
namespace Kb
open PySem PySem.Spec PyProof.Rows L2

/-- the texts met so far, each once -/
def uni (l : List Str) : List Str := l.foldl (fun u x => if x ∈ u then u else u ++ [x]) []
theorem uni_snoc {l : List Str} {x : Str} : uni (l ++ [x]) = if x ∈ uni l then uni l else uni l ++ [x] := by
  unfold uni
  rw [List.foldl_append]
  rfl
theorem snoc_ind {α : Type} {P : List α → Prop} (h0 : P []) (hs : ∀ l x, P l → P (l ++ [x])) (l : List α) : P l := by
  have key : ∀ r : List α, P r.reverse := by
    intro r
    induction r with
    | nil => exact h0
    | cons a r ih =>
      rw [List.reverse_cons]
      exact hs _ _ ih
  have := key l.reverse
  rwa [List.reverse_reverse] at this
theorem uni_mem {l : List Str} {y : Str} : y ∈ uni l ↔ y ∈ l := by
  refine snoc_ind (P := fun l => y ∈ uni l ↔ y ∈ l) Iff.rfl (fun l x ih => ?_) l
  rw [uni_snoc, List.mem_append, List.mem_singleton]
  by_cases h : x ∈ uni l
  · rw [if_pos h, ih]
    refine ⟨.inl, fun z => z.elim id fun e => ?_⟩
    rw [e]
    rw [e] at ih
    exact ih.mp h
  · rw [if_neg h, List.mem_append, List.mem_singleton, ih]
theorem uni_le (l : List Str) : (uni l).length ≤ l.length := by
  refine snoc_ind (P := fun l => (uni l).length ≤ l.length) (Nat.le_refl _) (fun l x ih => ?_) l
  rw [uni_snoc, List.length_append, List.length_singleton]
  split
  · omega
  · rw [List.length_append, List.length_singleton]
    omega
theorem uni_nd {l : List Str} : (uni l).length = l.length ↔ l.Nodup := by
  refine snoc_ind (P := fun l => (uni l).length = l.length ↔ l.Nodup) (by simp [uni]) (fun l x ih => ?_) l
  rw [uni_snoc, List.length_append, List.length_singleton]
  have hle := uni_le l
  by_cases h : x ∈ uni l
  · rw [if_pos h]
    refine ⟨fun z => by omega, fun z => ?_⟩
    exact absurd rfl ((List.nodup_append.mp z).2.2 x (uni_mem.mp h) x (List.mem_singleton.mpr rfl))
  · rw [if_neg h, List.length_append, List.length_singleton]
    have h' : x ∉ l := fun m => h (uni_mem.mpr m)
    refine ⟨fun z => nd_snoc (ih.mp (by omega)) h', fun z => ?_⟩
    have : (uni l).length = l.length := ih.mpr (List.nodup_append.mp z).1
    omega

abbrev freshSet (led : Bool) : Obj := { cls := .type "set", dict := none, data := .set #[] 0 (.fresh 0 0 led) }
section
variable {prog : Program} {w : World} {A : Around} {R : Result → Shared → Prop} {I : Addr} {fp wr : List Addr} {G : Array GenState → Array GenState → Prop} {n : Nat} {P : Nat → Value → Prop} {St : Nat → Shared → Prop}
/-- the set S takes in what is walked from turn i on -/
theorem upd_loop (W : WalksS prog w A.in1 I fp wr G n P St) {S : Addr} (hS0 : S ∉ fp) {xs : List Str} (hz : xs.length = n) (hr : n + 2 < scanBound) (hv : ∀ i v, P i v → ∃ t, v = .str (xs.getD i Str.empty) t)
    (k : Nat) : ∀ (i : Nat) (s : Shared), n - i = k → i ≤ n → St i s → s.heap.SetOf (PySem.strKind prog w) S (fun y => decide (y ∈ xs.take i)) (uni (xs.take i)).length →
      (∀ s', Moved (S :: wr) G s s' → s'.heap.SetOf (PySem.strKind prog w) S (fun y => decide (y ∈ xs)) (uni xs).length → R (.ok (.ret .none)) s') → codeAny (model prog w) A (.builtin "set.update.loop" ⟨[.ref S, .ref I], []⟩) R s := by
  have hw : S ∉ wr := fun m => hS0 (W.sub _ m)
  have more : ∀ b ∈ wr, b ∈ S :: wr := fun b m => List.mem_cons_of_mem _ m
  induction k with
  | zero =>
    intro i s e1 e2 st o1 fin
    have e3 : i = n := by omega
    subst e3
    refine codeAny_builtin F.entry_set_update_loop ?_
    rw [Around.under_plainId F.plain_set_update_loop _]
    show wpAny _ A.in1 (pyNext (.ref I) >>= _) _ _ s
    refine wpAny_bind (W.done s _ _ st fun s2 mv => ?_)
    show wpAny _ A.in1 (ret Value.none) _ _ s2
    refine wpAny_pure (fin s2 (mv.mono more) ?_)
    rw [← hz, List.take_length] at o1
    obtain ⟨ob, es, ep, tb, g, r⟩ := o1
    exact ⟨ob, es, ep, tb, mv.heap S _ hw g, r⟩
  | succ k ih =>
    intro i s e1 e2 st o1 fin
    have lt : i < n := by omega
    refine codeAny_builtin F.entry_set_update_loop ?_
    rw [Around.under_plainId F.plain_set_update_loop _]
    show wpAny _ A.in1 (pyNext (.ref I) >>= _) _ _ s
    refine wpAny_bind (W.item i s _ _ lt st fun v s2 pv st2 mv => ?_)
    obtain ⟨t, rfl⟩ := hv i v pv
    have o2 : s2.heap.SetOf (PySem.strKind prog w) S (fun y => decide (y ∈ xs.take i)) (uni (xs.take i)).length := by
      obtain ⟨ob, es, ep, tb, g, r⟩ := o1
      exact ⟨ob, es, ep, tb, mv.heap S _ hw g, r⟩
    show wpAny _ A.in1 (holding [Value.str (xs.getD i Str.empty) t] (setAdd S (.str (xs.getD i Str.empty) t)) >>= _) _ _ s2
    refine wpAny_bind (wpAny_holding ?_)
    unfold setAdd
    refine wpAny_holding (wpAny_bind ((PySem.strKind prog w).pyHash (k := xs.getD i Str.empty) (strKind_is _ _ _ _) ?_))
    have hx : xs[i]? = some (xs.getD i Str.empty) := by
      rw [List.getD_eq_getElem?_getD, List.getElem?_eq_getElem (by omega)]
      rfl
    have et : xs.take (i + 1) = xs.take i ++ [xs.getD i Str.empty] := by
      rw [List.take_add_one, hx]
      rfl
    have small : (uni (xs.take i)).length + 1 < scanBound := by
      have := uni_le (xs.take i)
      rw [List.length_take] at this
      omega
    refine wpAny_setAddHashed_of (knd := PySem.strKind prog w) (s := { s2 with toks := s2.toks + 1 }) (strKind_is _ _ _ _) rfl o2 small fun h3 sb o3 => ?_
    have o4 : h3.SetOf (PySem.strKind prog w) S (fun y => decide (y ∈ xs.take (i + 1))) (uni (xs.take (i + 1))).length := by
      refine SetOf_congr o3 (fun y => ?_) ?_
      · rw [et, ← Bool.decide_or]
        refine decide_eq_decide.mpr ?_
        rw [List.mem_append, List.mem_singleton]
      · rw [et, uni_snoc]
        by_cases hm : xs.getD i Str.empty ∈ xs.take i
        · rw [if_pos (uni_mem.mpr hm), if_pos (decide_eq_true hm)]
        · rw [if_neg (fun z => hm (uni_mem.mp z)), if_neg (by simpa using hm), List.length_append]
          rfl
    refine wpAny_pure ⟨plainId_quiet F.plain_set_update_loop _, ih (i + 1) _ (by omega) lt (W.frame _ s2 _ _ st2 (Nat.le_succ _) fun b hb ob e => ?_) o4 fun s5 mv5 o5 => fin s5 ?_ o5⟩
    · have ne : b ≠ S := fun z => hS0 (by rw [← z]; exact hb)
      rw [sb.2 b ne]
      exact e
    · refine Moved.trans W.gtrans ((mv.mono more).then_heap (Nat.le_succ _) fun b ob hb e => ?_) mv5
      have ne : b ≠ S := fun z => hb (by rw [z]; exact List.mem_cons_self)
      rw [sb.2 b ne]
      exact e
end
section
variable {prog : Program} {w : World} {A : Around} {E : Value → Shared → Prop} {s : Shared} {l : Addr} {its : Array Value} {xs : List Str} {Q : Value → Shared → Prop}
/-- what set(xs) hands on -/
abbrev SetGot (prog : Program) (w : World) (s : Shared) (xs : List Str) (h' : Heap) : Prop :=
  h'.SetOf (PySem.strKind prog w) s.heap.objs.size (fun y => decide (y ∈ xs)) (uni xs).length ∧ ∀ b o, b < s.heap.objs.size → s.heap.get? b = some o → h'.get? b = some o
set_option maxHeartbeats 3200000 in
theorem set_of_list (hc : A.handled = none) (hl : s.heap.IsList l its) (hi : StrsAre its.toList xs) (small : xs.length + 2 < scanBound)
    (h : ∀ (h' : Heap) (tk : Nat), SetGot prog w s xs h' → Q (.ref s.heap.objs.size) { s with heap := h', toks := tk }) : wpAny (model prog w) A (call (.type "set") [.ref l]) Q E s := by
  obtain ⟨c, tl, mro_⟩ := F.called_set.mro
  have made_ := F.called_set.made
  have sub_ := F.called_set.sub
  refine wpAny_call (codeAny_of_tree ?_)
  show wpAny _ _ (callAny (.type "set") _) _ _ _
  refine wpAny_pure ⟨Code.quiet_builtin _ (by decide +kernel), codeAny_builtin F.entry_type_call ?_⟩
  rw [Around.under_plain (weight_type_call_type "set" [.ref l] []) rfl]
  have not_ := F.called_set.notType
  have can_ := F.called_set.canCreate
  have call_ := F.typeCall_set_1 (.ref l)
  repeat (any_goals (first | assumption | wp_step))
  refine codeAny_mono (code_set_new_1 (.ref l) (E := E) (Q₁ := fun ob t => ∃ led : Bool, ob = .ref s.heap.objs.size ∧ t = { s with heap := s.heap.push (freshSet led) }) fun led => ⟨led, rfl, rfl⟩) fun r t hr => ?_
  match r, hr with
  | .error _, hr => exact hr
  | .ok .next, hr => exact hr.elim
  | .ok .brk, hr => exact hr.elim
  | .ok .cont, hr => exact hr.elim
  | .ok (.ret _), ⟨led, e1, e2⟩ =>
    subst e1 e2
    have at0 : (s.heap.push (freshSet led)).get? s.heap.objs.size = some (freshSet led) := Heap.get?_push_size _ rfl
    have ty0 : Shared.TypeIs { s with heap := s.heap.push (freshSet led) } (.ref s.heap.objs.size) "set" := ⟨_, at0, rfl⟩
    have look_ := F.called_set.init.lookup
    have bind_ := F.called_set.init.bind (.ref s.heap.objs.size)
    repeat (any_goals (first | assumption | wp_step))
    refine codeAny_mono (codeAny_call_builtin (R := wants (fun r t => r = .none ∧ ∃ h' tk, t = { s with heap := h', toks := tk } ∧ SetGot prog w s xs h') E) F.called_set.init.plain F.entry_set_init (check_set_init_1 ty0 ?_)) fun r2 t2 hr2 => ?_
    · obtain ⟨⟨ocls, odict, odata, oslots⟩, ol, ocl, on, od⟩ := hl
      simp only at ocl od
      subst ocl od
      have at1 : (s.heap.push (freshSet led)).get? l = some { cls := .type "list", dict := odict, data := .seq its on, slots := oslots } := Heap.get?_push_of_some _ ol
      have sub1 := F.sub_list_set
      have sub2 := F.sub_list_frozenset
      have notd : (Value.type "list" == Value.type "dict") = false := by decide
      have is1 : (s.heap.push (freshSet led)).IsList l its := ⟨_, at1, rfl, on, rfl⟩
      unfold Builtin.«set.__init__» noKeywords Builtin.Frozenset.updateFrom
      generalize hPI : pyIter = PI
      wp_walk
      subst hPI
      refine wpAny_pyIter_list is1 (wpAny_bind (wpAny_runValue ?_))
      have ltl : l < s.heap.objs.size := Heap.lt_size ol
      have calm3 : A.in1.in1.in1.handled = none := by simp [hc]
      have neI : l ≠ (s.heap.push (freshSet led)).objs.size := by
        rw [Heap.size_push]
        exact Nat.ne_of_lt (Nat.lt_succ_of_lt ltl)
      have noS : s.heap.objs.size ∉ [(s.heap.push (freshSet led)).objs.size, l] := by
        rw [Heap.size_push]
        simp only [List.mem_cons, List.not_mem_nil, or_false, not_or]
        exact ⟨Nat.ne_of_lt (Nat.lt_succ_self _), Nat.ne_of_gt ltl⟩
      have zl : xs.length = its.size := by rw [← StrsAre.len_eq hi, Array.length_toList]
      refine upd_loop ((Walks.list calm3 _ l neI its).toS) noS zl (by omega) (fun i v hv => SS.strs_at hi i v (by rw [Array.getElem?_toList]; exact hv)) (its.size - 0) 0 _ (by omega) (Nat.zero_le _) ⟨⟨_, Heap.get?_push_size _ rfl, rfl, rfl⟩, is1.push _⟩ ?o0 ?fin
      case o0 =>
        have at2 : ((s.heap.push (freshSet led)).push { cls := .type "list_iterator", data := .fields #[.ref l, .int 0 0] }).get? s.heap.objs.size = some (freshSet led) := Heap.get?_push_of_some _ at0
        refine SetOf_congr ((setObjOf_fresh (knd := PySem.strKind prog w) led).setOf at2 (by unfold scanBound; omega)) (fun y => ?_) rfl
        simp
      case fin =>
        intro s3 mv o3
        obtain ⟨h3, g3, d3, t3, os3⟩ := s3
        obtain rfl : g3 = s.gens := mv.gens
        obtain rfl : d3 = s.drawn := mv.drawn
        obtain rfl : os3 = s.os := mv.os
        show wpAny _ _ _ _ _ _
        refine wpAny_pure ?_
        show wpAny _ _ (ret Value.none) _ _ _
        refine wpAny_pure ⟨rfl, h3, t3, rfl, o3, fun b ob hb e => mv.heap b ob (fun m => ?_) (Heap.get?_push_of_some _ (Heap.get?_push_of_some _ e))⟩
        simp only [List.mem_cons, List.not_mem_nil, or_false, Heap.size_push] at m
        rcases m with e | e
        · exact absurd (e ▸ hb) (Nat.lt_irrefl _)
        · rw [e] at hb
          exact absurd hb (Nat.not_lt.mpr (Nat.le_succ _))
    · match r2, hr2 with
      | .error _, hr2 => exact hr2
      | .ok .next, hr2 => exact hr2.elim
      | .ok .brk, hr2 => exact hr2.elim
      | .ok .cont, hr2 => exact hr2.elim
      | .ok (.ret _), ⟨e1, h3, tk, e2, got⟩ =>
        subst e1 e2
        repeat (any_goals (first | assumption | wp_step))
        exact h _ _ got
set_option maxHeartbeats 3200000 in
theorem set_of_tuple (hc : A.handled = none) (hl : s.heap.IsTuple l its) (hi : StrsAre its.toList xs) (small : xs.length + 2 < scanBound)
    (h : ∀ (h' : Heap) (tk : Nat), SetGot prog w s xs h' → Q (.ref s.heap.objs.size) { s with heap := h', toks := tk }) : wpAny (model prog w) A (call (.type "set") [.ref l]) Q E s := by
  obtain ⟨c, tl, mro_⟩ := F.called_set.mro
  have made_ := F.called_set.made
  have sub_ := F.called_set.sub
  refine wpAny_call (codeAny_of_tree ?_)
  show wpAny _ _ (callAny (.type "set") _) _ _ _
  refine wpAny_pure ⟨Code.quiet_builtin _ (by decide +kernel), codeAny_builtin F.entry_type_call ?_⟩
  rw [Around.under_plain (weight_type_call_type "set" [.ref l] []) rfl]
  have not_ := F.called_set.notType
  have can_ := F.called_set.canCreate
  have call_ := F.typeCall_set_1 (.ref l)
  repeat (any_goals (first | assumption | wp_step))
  refine codeAny_mono (code_set_new_1 (.ref l) (E := E) (Q₁ := fun ob t => ∃ led : Bool, ob = .ref s.heap.objs.size ∧ t = { s with heap := s.heap.push (freshSet led) }) fun led => ⟨led, rfl, rfl⟩) fun r t hr => ?_
  match r, hr with
  | .error _, hr => exact hr
  | .ok .next, hr => exact hr.elim
  | .ok .brk, hr => exact hr.elim
  | .ok .cont, hr => exact hr.elim
  | .ok (.ret _), ⟨led, e1, e2⟩ =>
    subst e1 e2
    have at0 : (s.heap.push (freshSet led)).get? s.heap.objs.size = some (freshSet led) := Heap.get?_push_size _ rfl
    have ty0 : Shared.TypeIs { s with heap := s.heap.push (freshSet led) } (.ref s.heap.objs.size) "set" := ⟨_, at0, rfl⟩
    have look_ := F.called_set.init.lookup
    have bind_ := F.called_set.init.bind (.ref s.heap.objs.size)
    repeat (any_goals (first | assumption | wp_step))
    refine codeAny_mono (codeAny_call_builtin (R := wants (fun r t => r = .none ∧ ∃ h' tk, t = { s with heap := h', toks := tk } ∧ SetGot prog w s xs h') E) F.called_set.init.plain F.entry_set_init (check_set_init_1 ty0 ?_)) fun r2 t2 hr2 => ?_
    · obtain ⟨⟨ocls, odict, odata, oslots⟩, ol, ocl, on, od⟩ := hl
      simp only at ocl od
      subst ocl od
      have at1 : (s.heap.push (freshSet led)).get? l = some { cls := .type "tuple", dict := odict, data := .seq its on, slots := oslots } := Heap.get?_push_of_some _ ol
      have sub1 := F.sub_tuple_set
      have sub2 := F.sub_tuple_frozenset
      have notd : (Value.type "tuple" == Value.type "dict") = false := by decide
      have is1 : (s.heap.push (freshSet led)).IsTuple l its := ⟨_, at1, rfl, on, rfl⟩
      unfold Builtin.«set.__init__» noKeywords Builtin.Frozenset.updateFrom
      generalize hPI : pyIter = PI
      wp_walk
      subst hPI
      refine wpAny_pyIter_tuple is1 (wpAny_bind (wpAny_runValue ?_))
      have ltl : l < s.heap.objs.size := Heap.lt_size ol
      have calm3 : A.in1.in1.in1.handled = none := by simp [hc]
      have neI : l ≠ (s.heap.push (freshSet led)).objs.size := by
        rw [Heap.size_push]
        exact Nat.ne_of_lt (Nat.lt_succ_of_lt ltl)
      have noS : s.heap.objs.size ∉ [(s.heap.push (freshSet led)).objs.size, l] := by
        rw [Heap.size_push]
        simp only [List.mem_cons, List.not_mem_nil, or_false, not_or]
        exact ⟨Nat.ne_of_lt (Nat.lt_succ_self _), Nat.ne_of_gt ltl⟩
      have zl : xs.length = its.size := by rw [← StrsAre.len_eq hi, Array.length_toList]
      refine upd_loop ((Walks.tuple calm3 _ l neI its).toS) noS zl (by omega) (fun i v hv => SS.strs_at hi i v (by rw [Array.getElem?_toList]; exact hv)) (its.size - 0) 0 _ (by omega) (Nat.zero_le _) ⟨⟨_, Heap.get?_push_size _ rfl, rfl, rfl⟩, is1.push _⟩ ?o0 ?fin
      case o0 =>
        have at2 : ((s.heap.push (freshSet led)).push { cls := .type "tuple_iterator", data := .fields #[.ref l, .int 0 0] }).get? s.heap.objs.size = some (freshSet led) := Heap.get?_push_of_some _ at0
        refine SetOf_congr ((setObjOf_fresh (knd := PySem.strKind prog w) led).setOf at2 (by unfold scanBound; omega)) (fun y => ?_) rfl
        simp
      case fin =>
        intro s3 mv o3
        obtain ⟨h3, g3, d3, t3, os3⟩ := s3
        obtain rfl : g3 = s.gens := mv.gens
        obtain rfl : d3 = s.drawn := mv.drawn
        obtain rfl : os3 = s.os := mv.os
        show wpAny _ _ _ _ _ _
        refine wpAny_pure ?_
        show wpAny _ _ (ret Value.none) _ _ _
        refine wpAny_pure ⟨rfl, h3, t3, rfl, o3, fun b ob hb e => mv.heap b ob (fun m => ?_) (Heap.get?_push_of_some _ (Heap.get?_push_of_some _ e))⟩
        simp only [List.mem_cons, List.not_mem_nil, or_false, Heap.size_push] at m
        rcases m with e | e
        · exact absurd (e ▸ hb) (Nat.lt_irrefl _)
        · rw [e] at hb
          exact absurd hb (Nat.not_lt.mpr (Nat.le_succ _))
    · match r2, hr2 with
      | .error _, hr2 => exact hr2
      | .ok .next, hr2 => exact hr2.elim
      | .ok .brk, hr2 => exact hr2.elim
      | .ok .cont, hr2 => exact hr2.elim
      | .ok (.ret _), ⟨e1, h3, tk, e2, got⟩ =>
        subst e1 e2
        repeat (any_goals (first | assumption | wp_step))
        exact h _ _ got
end
/-- len(set(xs)) -/
def tLenUni (K : PySem.W.Frag) (ta : TE) : TE := fun σ H Q => ta σ H fun x H1 => ∃ (l : Addr) (xs : List Str), x = .ref l ∧ (SqL K H1 l (xs.map V.str) ∨ SqT K H1 l (xs.map V.str)) ∧ xs.length ≤ 1000 ∧ Q (.int ((uni xs).length : Nat)) H1
theorem pe_lenUni {X : Cx} {a : Expr} {ta : TE} {p p2 q pos : Pos} (hg : Gl X "len") (hm : X.mg "len" = none) (hg2 : Gl X "set") (hm2 : X.mg "set" = none) (ha : PE X a ta) (hc : X.calm = true := by rfl)
    (na : starEach [a] X.env = (false, eval a X.env) :: starEach [] X.env := by rfl) : PE X (.Call (.Name "len" p) [.Call (.Name "set" p2) [a] [] q] [] pos) (tLenUni X.K ta) := by
  refine ⟨fun pins s σ H Q I h => Call_ (ld_blt I hg hm boot_len ?_)⟩
  refine callWith_builtin1 (args_cons (Call_ (ld_blt I hg2 hm2 boot_set ?_)) rfl) rfl rfl
  refine callWith_type1 (args_cons (thn (ha.run pins s σ H _ I h) fun v s1 ⟨x, H1, I1, r1, l, xs, ex, hq, hs, q1⟩ => args_nil ?_) na) na rfl
  subst ex
  obtain rfl : v = Value.ref l := r1
  have fin : ∀ (h' : Heap) (tk : Nat), SetGot X.prog X.w s1 xs h' → wpAny (model X.prog X.w) X.A (spliced (backTo pos (starEach [] X.env)))
      (fun vs s₂ => wpAny (model X.prog X.w) X.A (call (.builtin "len") (Value.ref s1.heap.objs.size :: vs)) (EP X pins σ Q) X.xe s₂) X.xe { s1 with heap := h', toks := tk } := by
    rintro h' tk ⟨⟨o, es, ep, t, ho, hex, hd, _, _, _, hf, hn⟩, hk⟩
    refine args_nil ?_
    have I2 : Inv X pins σ H1 { s1 with heap := h', toks := tk } := I1.kept fun b o e => hk b o (Heap.lt_size e) e
    have := uni_le xs
    exact call_len_set ho hex hd hf (by rw [hn]; omega) ⟨.int (uni xs).length, H1, I2.tok _, ⟨_, by rw [hn]⟩, q1⟩
  rcases hq with hq | hq
  · obtain ⟨its, r, pl, hz⟩ := I1.list hq
    exact set_of_list (I1.ok.hd hc) pl.isList (by simpa using strsAre_of r) (by unfold scanBound; omega) fin
  · obtain ⟨its, r, pl, hz⟩ := I1.tuple hq
    exact set_of_tuple (I1.ok.hd hc) pl (by simpa using strsAre_of r) (by unfold scanBound; omega) fin
end Kb

set_option Elab.async false
set_option linter.all false
set_option maxRecDepth 100000
set_option maxHeartbeats 4000000
/-! Kb, 11: the tests of onwardasks.terms and onwardasks.kinds over data. -/
namespace Kb
open PySem PySem.Spec PyProof.Rows L2

/-! ### data seen by isinstance, len, an index -/
def D.ty : D → String
  | .non => "NoneType" | .bl _ => "bool" | .int _ => "int" | .str _ => "str" | .tup _ => "tuple" | .lst _ => "list" | .dct _ => "dict"
def D.isStr : D → Bool
  | .str _ => true
  | _ => false
def D.isSeq : D → Bool
  | .tup _ => true
  | .lst _ => true
  | _ => false
theorem At.ty {K : PySem.W.Frag} {M : List Addr} {H : Hp} {d : D} {x : V} (h : At M H d x) : TyX K H x (.type d.ty) := by
  cases d with
  | non => cases h; exact .base .non
  | bl b => cases h; exact .base (.bl b)
  | int i => cases h; exact .base (.int i)
  | str s => cases h; exact .base (.str s)
  | tup ds =>
    obtain ⟨p, xs, e, _, hp, _⟩ := h
    subst e
    exact .base (.tup hp)
  | lst ds =>
    obtain ⟨p, xs, e, _, hp, _⟩ := h
    subst e
    exact .base (.lst hp)
  | dct ds =>
    obtain ⟨p, xs, e, _, hp, _⟩ := h
    subst e
    exact .base (.dK hp)
section
variable {K : PySem.W.Frag} {M : List Addr} {H : Hp} {d : D} {x : V} {Q : VK} {σ : L2.St}
theorem kit_str : PySem.W.kitOne K (.type d.ty) (.type "str") = some d.isStr := by
  cases d with
  | non => exact kit_ty (show kitB "NoneType" "str" = some false by decide +kernel)
  | bl _ => exact kit_ty (show kitB "bool" "str" = some false by decide +kernel)
  | int _ => exact kit_ty (show kitB "int" "str" = some false by decide +kernel)
  | str _ => exact kit_ty (show kitB "str" "str" = some true by decide +kernel)
  | tup _ => exact kit_ty (show kitB "tuple" "str" = some false by decide +kernel)
  | lst _ => exact kit_ty (show kitB "list" "str" = some false by decide +kernel)
  | dct _ => exact kit_ty (show kitB "dict" "str" = some false by decide +kernel)
theorem rd_isStr (h : At M H d x) (q : Q (.bl d.isStr) H) : rIsi K [x, .ty "str"] H Q := ⟨x, _, _, _, d.isStr, rfl, .ty _, h.ty, kit_str, q⟩
theorem kit_seq : PySem.W.kitAny K (.type d.ty) [.type "list", .type "tuple"] = some d.isSeq := by
  cases d with
  | non => exact kitAny_cons (kit_ty (show kitB "NoneType" "list" = some false by decide +kernel)) (fun _ => kitAny_cons (kit_ty (show kitB "NoneType" "tuple" = some false by decide +kernel)) (fun _ => kitAny_nil) fun z => nomatch z) fun z => nomatch z
  | bl _ => exact kitAny_cons (kit_ty (show kitB "bool" "list" = some false by decide +kernel)) (fun _ => kitAny_cons (kit_ty (show kitB "bool" "tuple" = some false by decide +kernel)) (fun _ => kitAny_nil) fun z => nomatch z) fun z => nomatch z
  | int _ => exact kitAny_cons (kit_ty (show kitB "int" "list" = some false by decide +kernel)) (fun _ => kitAny_cons (kit_ty (show kitB "int" "tuple" = some false by decide +kernel)) (fun _ => kitAny_nil) fun z => nomatch z) fun z => nomatch z
  | str _ => exact kitAny_cons (kit_ty (show kitB "str" "list" = some false by decide +kernel)) (fun _ => kitAny_cons (kit_ty (show kitB "str" "tuple" = some false by decide +kernel)) (fun _ => kitAny_nil) fun z => nomatch z) fun z => nomatch z
  | tup _ => exact kitAny_cons (kit_ty (show kitB "tuple" "list" = some false by decide +kernel)) (fun _ => kitAny_cons (kit_ty (show kitB "tuple" "tuple" = some true by decide +kernel)) (fun z => nomatch z) fun _ => rfl) fun z => nomatch z
  | lst _ => exact kitAny_cons (kit_ty (show kitB "list" "list" = some true by decide +kernel)) (fun z => nomatch z) fun _ => rfl
  | dct _ => exact kitAny_cons (kit_ty (show kitB "dict" "list" = some false by decide +kernel)) (fun _ => kitAny_cons (kit_ty (show kitB "dict" "tuple" = some false by decide +kernel)) (fun _ => kitAny_nil) fun z => nomatch z) fun z => nomatch z
end
/-- a list or a tuple of xs -/
def SqV (K : PySem.W.Frag) (H : Hp) (p : Addr) (xs : List V) : Prop := SqL K H p xs ∨ SqT K H p xs
theorem SqV.but {K : PySem.W.Frag} {H H' : Hp} {p : Addr} {xs : List V} (h : SqV K H p xs) (b : But [] H H') : SqV K H' p xs := by
  have e : Same H H' := fun a o g => b.keep a o (by simp) g
  rcases h with h | h
  · exact .inl (e.seq h)
  · refine .inr ?_
    rcases h with (h | ⟨o, h⟩) | h
    · exact .inl (.inl (e _ _ h))
    · exact .inl (.inr ⟨o, e _ _ h⟩)
    · exact .inr h
def D.items : D → List D
  | .tup ds => ds
  | .lst ds => ds
  | _ => []
theorem At.seq {K : PySem.W.Frag} {M : List Addr} {H : Hp} {d : D} {x : V} (h : At M H d x) (s : d.isSeq = true) : ∃ p xs, x = .ref p ∧ SqV K H p xs ∧ AtL M H d.items xs := by
  cases d with
  | tup ds =>
    obtain ⟨p, xs, e, _, hp, hl⟩ := h
    exact ⟨p, xs, e, .inr (SqT.of hp), hl⟩
  | lst ds =>
    obtain ⟨p, xs, e, _, hp, hl⟩ := h
    exact ⟨p, xs, e, .inl (SqL.of hp), hl⟩
  | _ => cases s
theorem SqV.len {K : PySem.W.Frag} {H : Hp} {p : Addr} {xs : List V} {Q : VK} (h : SqV K H p xs) (q : Q (.int (xs.length : Int)) H) : rLenA K [.ref p] H Q := by
  refine ⟨_, xs.length, rfl, ?_, q⟩
  rcases h with h | h
  · exact .inl ⟨_, h, rfl⟩
  · exact .inr ⟨_, h, rfl⟩
theorem SqV.lenV {K : PySem.W.Frag} {H : Hp} {p : Addr} {xs : List V} (h : SqV K H p xs) : LenV K (.ref p) H xs.length := by
  rcases h with h | h
  · exact .inl ⟨_, h, rfl⟩
  · exact .inr ⟨_, h, rfl⟩
theorem SqV.ix {K : PySem.W.Frag} {H : Hp} {p : Addr} {xs : List V} {Q : VK} {i : Nat} {z : Int} {v : V} (h : SqV K H p xs) (e : xs[i]? = some v) (ez : z = (i : Int)) (q : Q v H) : rIx K (.ref p) (.int z) H Q := by
  rcases h with h | h
  · exact .inl ⟨_, _, _, _, rfl, rfl, h, at_of ez e, q⟩
  · exact .inr (.inl ⟨_, _, _, _, rfl, rfl, h, at_of ez e, q⟩)
/-! ### for over a list or a tuple -/
def iSeq (K : PySem.W.Frag) (t : TE) : TI := fun σ H R => t σ H fun x H1 => ∃ a, x = .ref a ∧ (((∃ xs, SqL K H1 a xs) ∧ R (Itl K a) H1) ∨ ((∃ xs, SqT K H1 a xs) ∧ R (Itt K a) H1))
theorem pi_seqVar {X : Cx} {tg : Expr} {i : Nat} {y : Str} {pos : Pos} (h : PE X (.Name y pos) (tVar i)) : PI X tg (.Name y pos) (iSeq X.K (tVar i)) := by
  refine ⟨fun pins s σ H R I q => ?_⟩
  obtain ⟨v, hv, a, e, q⟩ := q
  rcases q with ⟨h1, q⟩ | ⟨h1, q⟩
  · exact (pi_list (tg := tg) h).run pins s σ H R I ⟨v, hv, a, e, h1, q⟩
  · exact (pi_tup (tg := tg) h).run pins s σ H R I ⟨v, hv, a, e, h1, q⟩
theorem rd_seq {K : PySem.W.Frag} {i : Nat} {σ : L2.St} {H : Hp} {p : Addr} {xs : List V} {R : It → Hp → Prop} (hσ : σ[i]? = some (some (.ref p))) (h : SqV K H p xs)
    (k : ∀ (J : It) (G : Hp → Prop), Walk J xs.length G (YAt xs) → (∀ H', But [] H H' → G H') → R J H) : iSeq K (tVar i) σ H R := by
  refine ⟨_, hσ, p, rfl, ?_⟩
  rcases id h with h1 | h1
  · refine .inl ⟨⟨_, h1⟩, k _ _ walk_list fun H' b => ?_⟩
    have e : Same H H' := fun a o g => b.keep a o (by simp) g
    exact e.seq h1
  · refine .inr ⟨⟨_, h1⟩, k _ _ walk_tup fun H' b => ?_⟩
    rcases (show SqV K H p xs from .inr h1).but b with h2 | h2
    · exact (by
        have e : Same H H' := fun a o g => b.keep a o (by simp) g
        rcases h1 with (h | ⟨o, h⟩) | h
        · exact .inl (.inl (e _ _ h))
        · exact .inl (.inr ⟨o, e _ _ h⟩)
        · exact .inr h)
    · exact h2
/-- [f(y) for y in ..], each value known, nothing but new objects -/
theorem lc_map {J : It} {G : Hp → Prop} {xs : List V} {σ : L2.St} {H H1 : Hp} {j : Nat} {te : TE} {Q : VK} (w : Walk J xs.length G (YAt xs)) (hG : ∀ H', But [] H H' → G H') (f : Nat → V) (hl : xs.length ≤ 1000) (b1 : But [] H H1)
    (step : ∀ n y H2, xs[n]? = some y → But [] H H2 → ∀ Q' : VK, (∀ H3, But [] H2 H3 → Q' (f n) H3) → te ((wipe σ [j]).set j (some y)) H2 Q')
    (k : ∀ D H', H1 D = none → H' D = some (.lst ((List.range xs.length).map f)) → But [] H H' → Q (.ref D) H') :
    ∀ D, H1 D = none → ∃ W : Nat → Nat → Hp → Prop, (∃ m, W 0 m (upd H1 D (.lst []))) ∧ ∀ i m H, W i m H →
  (J.stop i H ∧ Q (.ref D) H) ∨ (J.go i H ∧ ∃ Nx : Hp → Prop, (∀ H', Nx H' → ∃ m', m' < m ∧ W (i + 1) m' H') ∧ ∀ x H', J.yld i H x H' → gName j x (wipe σ [j]) H' fun σ2 H2 => wipe σ2 [j] = wipe σ [j] ∧ tYes σ2 H2 fun b H3 =>
    if b = true then te σ2 H3 fun y H4 => ∃ acc, H4 D = some (.lst acc) ∧ acc.length < sizeLine ∧ Nx (upd H4 D (.lst (acc ++ [y]))) else Nx H3) := by
  intro Dl hD
  have hD0 := b1.free hD
  refine lc_it w (fun i H' => H' Dl = some (.lst ((List.range i).map f)) ∧ But [] H H') ⟨upd_same, b1.upd' hD⟩ (fun i H' _ p => hG H' p.2) ?_ (fun H' p => k Dl H' hD p.1 p.2)
  rintro i x H2 H3 hi ⟨p1, p2⟩ ⟨rfl, hx⟩
  refine ⟨?_, ?_⟩
  · show ((wipe σ [j]).set j (some x)).set j none = wipe σ [j]
    show ((σ.set j none).set j (some x)).set j none = σ.set j none
    rw [List.set_set, List.set_set]
  refine step i x _ hx p2 _ fun H4 b4 => ⟨_, b4.keep _ _ (by simp) p1, ?_, ?_, (p2.trans b4).upd (.inr hD0)⟩
  · rw [List.length_map, List.length_range]
    exact small1000 (by omega)
  · rw [upd_same, List.range_succ, List.map_append]
    rfl
theorem lc_seq {K : PySem.W.Frag} {i j : Nat} {te : TE} {σ : L2.St} {H : Hp} {p : Addr} {xs : List V} {Q : VK} (hσ : σ[i]? = some (some (.ref p))) (hq : SqV K H p xs) (f : Nat → V) (hl : xs.length ≤ 1000)
    (step : ∀ n y H2, xs[n]? = some y → But [] H H2 → ∀ Q' : VK, (∀ H3, But [] H2 H3 → Q' (f n) H3) → te ((wipe σ [j]).set j (some y)) H2 Q')
    (k : ∀ D H', H D = none → H' D = some (.lst ((List.range xs.length).map f)) → But [] H H' → Q (.ref D) H') : tLc (iSeq K (tVar i)) (gName j) tYes te [j] σ H Q :=
  rd_seq hσ hq fun _ _ w hG => lc_map w hG f hl But.refl step k
/-- target, .. = list or tuple -/
def gSeq (K : PySem.W.Frag) (n : Nat) (t : List V → L2.St → Hp → (L2.St → Hp → Prop) → Prop) : TG := fun v σ H Q => ∃ a xs, v = .ref a ∧ SqV K H a xs ∧ xs.length = n ∧ t xs σ H Q
theorem pg_seq {X : Cx} {es : List Expr} {k : Nat} {t : List V → L2.St → Hp → (L2.St → Hp → Prop) → Prop} {n : Nat} {pos : Pos} (h : PGs X es t) (hc : X.calm = true := by rfl)
    (hn : (assignEach es X.env).length = n := by rfl) (hst : (assignEach es X.env).findIdx? (·.1) = none := by rfl) : PG X (.Tuple es k pos) (gSeq X.K n t) := by
  refine ⟨fun pins s σ H v u Q I r hw => ?_⟩
  obtain ⟨a, xs, e1, hq, hl, hw⟩ := hw
  rcases hq with hq | hq
  · exact (pg_lst hc h hn hst).run pins s σ H v u Q I r ⟨a, xs, e1, hq, hl, hw⟩
  · exact (pg_tup hc h hn hst).run pins s σ H v u Q I r ⟨a, xs, e1, hq, hl, hw⟩
end Kb

set_option Elab.async false
set_option linter.all false
set_option maxRecDepth 100000
set_option maxHeartbeats 4000000
/-! Kb, 12: is_name .. is_rule over data. -/
namespace Kb
open PySem PySem.Spec PyProof.Rows L2

/-- a text that isn't too long -/
def fineS (x : Str) : Bool := decide (x.length ≤ 100000)
mutual
def D.fine : D → Bool
  | .str x => fineS x
  | .tup ds => decide (ds.length ≤ 1000) && fineL ds
  | .lst ds => decide (ds.length ≤ 1000) && fineL ds
  | .dct kds => decide (kds.length ≤ 1000) && fineP kds
  | .non => true
  | .bl _ => true
  | .int _ => true
def fineL : List D → Bool
  | [] => true
  | d :: ds => d.fine && fineL ds
def fineP : List (Str × D) → Bool
  | [] => true
  | (k, d) :: ds => fineS k && (d.fine && fineP ds)
end
theorem fineL_get : ∀ {ds : List D} {i : Nat} {d : D}, fineL ds = true → ds[i]? = some d → d.fine = true
  | [], i, d, _, e => by simp at e
  | a :: ds, 0, d, h, e => by
    simp at e
    subst e
    unfold fineL at h
    exact (Bool.and_eq_true_iff.mp h).1
  | a :: ds, i + 1, d, h, e => by
    unfold fineL at h
    exact fineL_get (i := i) (Bool.and_eq_true_iff.mp h).2 (by simpa using e)
theorem D.fine_items {d : D} (h : d.fine = true) : d.items.length ≤ 1000 ∧ fineL d.items = true := by
  cases d with
  | tup ds =>
    unfold D.fine at h
    obtain ⟨a, b⟩ := Bool.and_eq_true_iff.mp h
    exact ⟨of_decide_eq_true a, b⟩
  | lst ds =>
    unfold D.fine at h
    obtain ⟨a, b⟩ := Bool.and_eq_true_iff.mp h
    exact ⟨of_decide_eq_true a, b⟩
  | _ => exact ⟨Nat.zero_le _, rfl⟩
theorem fine_len {x : Str} (h : fineS x = true) : x.length ≤ sizeLine := Nat.le_trans (of_decide_eq_true h) (by decide)

/-! ### is_name -/
def azB (c : Nat) : Bool := decide (97 ≤ c) && decide (c ≤ 122)
def nameB (x : Str) : Bool := decide (1 ≤ (cs x).length) && (decide ((cs x).length ≤ 8) && (cs x).all azB)
theorem nameB_iff {x : Str} : nameB x = true ↔ IsName x := by
  refine ⟨fun h => isName_of h, fun h => ?_⟩
  unfold nameB
  rw [decide_eq_true h.lo, decide_eq_true h.hi, Bool.true_and, Bool.true_and]
  refine List.all_eq_true.mpr fun c hc => ?_
  unfold azB
  rw [decide_eq_true (h.az c hc).1, decide_eq_true (h.az c hc).2]
  rfl
def isNameD : D → Bool
  | .str x => nameB x
  | _ => false
/-- a test of one datum -/
def spT (f : D → Bool) : Sp := fun vs H Q _ => ∃ (d : D) (x : V), vs = [x] ∧ At [] H d x ∧ d.fine = true ∧ ∀ H', But [] H H' → Q (.bl (f d)) H'
theorem len_spT {f : D → Bool} {vs : List V} {H : Hp} {Q : VK} {E : XK} (h : spT f vs H Q E) : vs.length = 1 := by
  obtain ⟨d, x, rfl, _⟩ := h
  rfl
abbrev sp_is_name (K : PySem.W.Frag) : Sp := spT isNameD
theorem len_is_name {K : PySem.W.Frag} {vs : List V} {H : Hp} {Q : VK} {E : XK} (h : sp_is_name K vs H Q E) : vs.length = 1 := len_spT h
def t_is_name (K : PySem.W.Frag) : TS :=
  (tSeq (tIfS (tOr (tNot (tB (tCB (rIsi K) (tCons (tVar 0) (tCons (tC (.ty "str")) tNil))))) (tNot (tTest (tChain rLeI rLeI (tC (.int 1)) (tCB (rLenA K) (tCons (tVar 0) tNil)) (tC (.int 8))))))
    (tRet (tC (.bl false)))
    tNext)
  (tRet (tCB (rAll K) (tCons (tLc (iStr (tVar 0)) (gName 1) tYes (tOp (rInT false) (tVar 1) (tC (.str ("abcdefghijklmnopqrstuvwxyz" : Str)))) [1]) tNil))))
theorem len_cs {x : Str} : x.length = (cs x).length := by
  show x.cps.size = _
  rw [Array.length_toList]
theorem pure_is_name {K : PySem.W.Frag} (vs : List V) (H : Hp) (Q : VK) (E : XK) (h : sp_is_name K vs H Q E) : t_is_name K (fin Q) (st0 2 vs) H := by
  obtain ⟨d, x, rfl, hx, hf, k⟩ := h
  refine ⟨_, rfl, x, _, _, _, d.isStr, rfl, .ty _, hx.ty, kit_str, _, rfl, ?_⟩
  cases hs : d.isStr with
  | false =>
    refine iteT ?_
    have e : isNameD d = false := by cases d <;> first | rfl | cases hs
    show Q (.bl false) H
    rw [← e]
    exact k H But.refl
  | true =>
    refine iteF ?_
    obtain ⟨z, rfl⟩ : ∃ z, d = .str z := by cases d <;> first | exact ⟨_, rfl⟩ | cases hs
    obtain rfl : x = V.str z := hx
    have hz : fineS z = true := hf
    have hl := fine_len hz
    have no : nameB z = false → Q (.bl false) H := fun e => by
      have := k H But.refl
      rw [show isNameD (.str z) = false from e] at this
      exact this
    refine ⟨_, rfl, _, z.length, rfl, ⟨hl, rfl⟩, _, _, rfl, rfl, _, rfl, ?_⟩
    refine ite2 (fun h1 => ?_) (fun h1 => ?_)
    · refine ⟨_, _, rfl, rfl, _, rfl, ?_⟩
      refine ite2 (fun h2 => ?_) (fun h2 => ?_)
      · refine no ?_
        have h2 : ¬ ((z.length : Int) ≤ 8) := by simpa using h2
        unfold nameB
        rw [← len_cs, decide_eq_false (show ¬ z.length ≤ 8 by omega), Bool.false_and, Bool.and_false]
      · have h1 : (1 : Int) ≤ z.length := by simpa using h1
        have h2 : (z.length : Int) ≤ 8 := by simpa using h2
        refine ⟨_, rfl, z, rfl, fun Dl hD => ?_⟩
        refine lc_it walk_str (fun i H' => H' Dl = some (.lst (((cs z).take i).map fun c => V.bl (azB c))) ∧ But [] H H') ⟨upd_same, But.new hD⟩ (fun _ _ _ _ => trivial) ?_ ?_
        · rintro i v H1 H2 hi ⟨p1, p2⟩ ⟨rfl, c, hc, rfl⟩
          have hc' : (cs z)[i]? = some c := by rw [Array.getElem?_toList]; exact hc
          refine ⟨rfl, _, rfl, c, AZ, rfl, rfl, _, p1, ?_, ?_, p2.upd (.inr hD)⟩
          · rw [List.length_map, List.length_take]
            exact small1000 (by rw [← len_cs]; omega)
          · rw [upd_same, List.take_add_one, hc', List.map_append]
            have e : (if false = true then !decide (c ∈ AZ.cps.toList) else decide (c ∈ AZ.cps.toList)) = azB c := by
              rw [if_neg Bool.false_ne_true]
              unfold azB
              rw [← Bool.decide_and]
              exact decide_eq_decide.mpr az_mem
            rw [e]
            rfl
        · rintro H1 ⟨p1, p2⟩
          have hsz : z.cps.size = (cs z).length := (Array.length_toList ..).symm
          rw [hsz, List.take_length] at p1
          refine ⟨Dl, (cs z).map azB, rfl, SqL.of (by rw [List.map_map]; exact p1), ?_⟩
          have e : isNameD (.str z) = ((cs z).map azB).all id := by
            show nameB z = _
            unfold nameB
            rw [← len_cs, decide_eq_true (show 1 ≤ z.length by omega), decide_eq_true (show z.length ≤ 8 by omega), List.all_map]
            rfl
          rw [← e]
          exact k H1 p2
    · refine ⟨_, rfl, ?_⟩
      refine no ?_
      have h1 : ¬ ((1 : Int) ≤ z.length) := by simpa using h1
      unfold nameB
      rw [← len_cs, decide_eq_false (show ¬ 1 ≤ z.length by omega), Bool.false_and]

/-! ### is_name_or_empty, is_list -/
def neB (x : Str) : Bool := decide (x = "") || nameB x
def isNED : D → Bool
  | .str x => neB x
  | _ => false
theorem neB_iff {x : Str} : neB x = true ↔ IsNE x := by
  unfold neB IsNE
  rw [Bool.or_eq_true, decide_eq_true_iff, nameB_iff, or_comm]
abbrev sp_is_name_or_empty (K : PySem.W.Frag) : Sp := spT isNED
theorem len_is_name_or_empty {K : PySem.W.Frag} {vs : List V} {H : Hp} {Q : VK} {E : XK} (h : sp_is_name_or_empty K vs H Q E) : vs.length = 1 := len_spT h
def t_is_name_or_empty (K : PySem.W.Frag) : TS :=
  (tRet (tAndV (tCB (rIsi K) (tCons (tVar 0) (tCons (tC (.ty "str")) tNil))) (tOrV (tOp rEq (tVar 0) (tC (.str ("" : Str)))) (tCall (sp_is_name K) [] E0 (tCons (tVar 0) tNil)))))
theorem dec_str {x y : Str} : decide (V.str x = V.str y) = decide (x = y) := by
  by_cases h : x = y
  · rw [h, decide_eq_true rfl, decide_eq_true rfl]
  · rw [decide_eq_false h, decide_eq_false (fun z => h (V.str.inj z))]
theorem pure_is_name_or_empty {K : PySem.W.Frag} (vs : List V) (H : Hp) (Q : VK) (E : XK) (h : sp_is_name_or_empty K vs H Q E) : t_is_name_or_empty K (fin Q) (st0 1 vs) H := by
  obtain ⟨d, x, rfl, hx, hf, k⟩ := h
  refine ⟨_, rfl, x, _, _, _, d.isStr, rfl, .ty _, hx.ty, kit_str, _, rfl, ?_⟩
  cases hs : d.isStr with
  | false =>
    refine iteF ?_
    have e : isNED d = false := by cases d <;> first | rfl | cases hs
    show Q (.bl false) H
    rw [← e]
    exact k H But.refl
  | true =>
    refine iteT ?_
    obtain ⟨z, rfl⟩ : ∃ z, d = .str z := by cases d <;> first | exact ⟨_, rfl⟩ | cases hs
    obtain rfl : x = V.str z := hx
    refine ⟨_, rfl, rfl, _, rfl, ?_⟩
    rw [dec_str]
    refine ite2 (fun h1 => ?_) (fun h1 => ?_)
    · have e : isNED (.str z) = true := by
        show (decide (z = "") || nameB z) = true
        rw [h1]
        rfl
      show Q (.bl true) H
      rw [← e]
      exact k H But.refl
    · refine ⟨_, rfl, .str z, _, rfl, rfl, hf, fun H' b => ?_⟩
      have e : isNED (.str z) = isNameD (.str z) := by
        show (decide (z = "") || nameB z) = nameB z
        have : decide (z = "") = false := by simpa using h1
        rw [this, Bool.false_or]
      rw [← e]
      exact k H' b
abbrev sp_is_list (K : PySem.W.Frag) : Sp := spT D.isSeq
theorem len_is_list {K : PySem.W.Frag} {vs : List V} {H : Hp} {Q : VK} {E : XK} (h : sp_is_list K vs H Q E) : vs.length = 1 := len_spT h
def t_is_list (K : PySem.W.Frag) : TS :=
  (tRet (tCB (rIsiT K) (tCons (tVar 0) (tCons (tTup (tCons (tC (.ty "list")) (tCons (tC (.ty "tuple")) tNil))) tNil))))
theorem pure_is_list {K : PySem.W.Frag} (vs : List V) (H : Hp) (Q : VK) (E : XK) (h : sp_is_list K vs H Q E) : t_is_list K (fin Q) (st0 1 vs) H := by
  obtain ⟨d, x, rfl, hx, hf, k⟩ := h
  refine ⟨_, rfl, by show 2 ≤ sizeLine; decide, fun p hp => ?_⟩
  have b : But [] H (upd H p (.tup [.ty "list", .ty "tuple"])) := But.new hp
  exact ⟨x, p, _, _, _, d.isSeq, rfl, upd_same, .cons (.ty _) (.cons (.ty _) .nil), (hx.mono b).ty, kit_seq, k _ b⟩
def rIsBb : R2 := fun x y H Q => ∃ b : Bool, y = .bl b ∧ Q (.bl (decide (x = .bl b))) H
theorem op_isBb {X : Cx} : OpR X (compareOp .Is) rIsBb := by
  intro pins s σ H x y v u Q I rx ry h
  obtain ⟨b, rfl, q⟩ := h
  obtain rfl : u = Value.bool b := ry
  by_cases e : x = .bl b
  · subst e
    obtain rfl : v = Value.bool b := rx
    rw [decide_eq_true rfl] at q
    exact wpAny_is_self rfl ⟨.bl true, H, I, rfl, q⟩
  · rw [decide_eq_false e] at q
    have ne : v ≠ Value.bool b := fun z => e (by
      subst z
      cases x with
      | bl c =>
        have : Value.bool b = Value.bool c := rx
        rw [Value.bool.inj this]
      | non => cases rx
      | ref a => cases rx
      | ty n => cases rx
      | int i => obtain ⟨t, z⟩ := rx; cases z
      | str i => obtain ⟨t, z⟩ := rx; cases z
      | byt i => obtain ⟨t, z⟩ := rx; cases z
      | flt i => obtain ⟨t, z⟩ := rx; cases z)
    refine wpAny_is_other ?_ ne ⟨.bl false, H, I, rfl, q⟩
    cases x with
    | bl c => cases rx; rfl
    | non => cases rx; rfl
    | ref a => cases rx; rfl
    | ty n => cases rx; rfl
    | int i => obtain ⟨t, rfl⟩ := rx; rfl
    | str i => obtain ⟨t, rfl⟩ := rx; rfl
    | byt i => obtain ⟨t, rfl⟩ := rx; rfl
    | flt i => obtain ⟨t, rfl⟩ := rx; rfl
def isFlagD : D → Bool
  | .bl _ => true
  | _ => false
abbrev sp_is_flag (K : PySem.W.Frag) : Sp := spT isFlagD
theorem len_is_flag {K : PySem.W.Frag} {vs : List V} {H : Hp} {Q : VK} {E : XK} (h : sp_is_flag K vs H Q E) : vs.length = 1 := len_spT h
def t_is_flag (K : PySem.W.Frag) : TS :=
  (tRet (tOrV (tOp rIsBb (tVar 0) (tC (.bl true))) (tOp rIsBb (tVar 0) (tC (.bl false)))))
theorem pure_is_flag {K : PySem.W.Frag} (vs : List V) (H : Hp) (Q : VK) (E : XK) (h : sp_is_flag K vs H Q E) : t_is_flag K (fin Q) (st0 1 vs) H := by
  obtain ⟨d, x, rfl, hx, hf, k⟩ := h
  refine ⟨_, rfl, true, rfl, _, rfl, ?_⟩
  have go : ∀ b, isFlagD d = b → Q (.bl b) H := fun b e => by
    rw [← e]
    exact k H But.refl
  refine ite2 (fun h1 => go true ?_) (fun h1 => ⟨_, rfl, false, rfl, go _ ?_⟩)
  · have e : x = .bl true := by simpa using h1
    subst e
    cases d with
    | bl b => rfl
    | _ => first | (obtain ⟨_, _, z, _⟩ := hx; cases z) | cases hx
  · have e : x ≠ .bl true := by simpa using h1
    cases d with
    | bl b =>
      obtain rfl : x = V.bl b := hx
      cases b with
      | true => exact absurd rfl e
      | false => rfl
    | non => obtain rfl : x = .non := hx; rfl
    | int i => obtain rfl : x = .int i := hx; rfl
    | str i => obtain rfl : x = .str i := hx; rfl
    | tup ds => obtain ⟨_, _, rfl, _⟩ := hx; rfl
    | lst ds => obtain ⟨_, _, rfl, _⟩ := hx; rfl
    | dct ds => obtain ⟨_, _, rfl, _⟩ := hx; rfl

/-! ### is_choice_list, is_name_list -/
def strsOf : List D → List Str
  | [] => []
  | .str x :: ds => x :: strsOf ds
  | _ :: ds => strsOf ds
def isChoiceD (d : D) : Bool := d.isSeq && (decide (1 ≤ d.items.length) && (decide (d.items.length ≤ 4) && (d.items.all isNED && decide (strsOf d.items).Nodup)))
def isNamesD (d : D) : Bool := d.isSeq && (decide (d.items.length ≤ 4) && (d.items.all isNameD && decide (strsOf d.items).Nodup))
theorem strs_at {M : List Addr} {H : Hp} : ∀ {ds : List D} {xs : List V}, AtL M H ds xs → ds.all D.isStr = true → xs = (strsOf ds).map V.str ∧ (strsOf ds).length = ds.length
  | [], _, h, _ => by
    cases h
    exact ⟨rfl, rfl⟩
  | d :: ds, _, h, hs => by
    obtain ⟨x, r, e, h1, h2⟩ := h
    rw [List.all_cons] at hs
    obtain ⟨a, b⟩ := Bool.and_eq_true_iff.mp hs
    obtain ⟨e1, e2⟩ := strs_at h2 b
    cases d with
    | str z =>
      obtain rfl : x = V.str z := h1
      subst e
      refine ⟨?_, ?_⟩
      · rw [e1]
        rfl
      · show (strsOf ds).length + 1 = ds.length + 1
        rw [e2]
    | _ => cases a
theorem ne_isStr {d : D} (h : isNED d = true) : d.isStr = true := by cases d <;> first | rfl | cases h
theorem name_isStr {d : D} (h : isNameD d = true) : d.isStr = true := by cases d <;> first | rfl | cases h
theorem all_mono {α : Type} {f g : α → Bool} {l : List α} (h : l.all f = true) (i : ∀ x, f x = true → g x = true) : l.all g = true := List.all_eq_true.mpr fun x m => i x (List.all_eq_true.mp h x m)
theorem map_range {ds : List D} {f : D → Bool} : (List.range ds.length).map (fun n => V.bl (f (ds.getD n .non))) = (ds.map f).map V.bl := by
  refine List.ext_getElem? fun n => ?_
  rw [List.getElem?_map, List.getElem?_map, List.getElem?_map]
  by_cases h : n < ds.length
  · rw [List.getElem?_range h, List.getElem?_eq_getElem h]
    show some (V.bl (f (ds.getD n D.non))) = some (V.bl (f ds[n]))
    rw [List.getD_eq_getElem?_getD, List.getElem?_eq_getElem h]
    rfl
  · rw [List.getElem?_eq_none (by simpa using h), List.getElem?_eq_none (by simpa using h)]
    rfl
/-- all([f(y) for y in x]) and len(set(x)) == len(x), behind the look at its length -/
theorem all_uni {K : PySem.W.Frag} {sp : Sp} {f : D → Bool} (hsp : sp = spT f) (hfs : ∀ d, f d = true → d.isStr = true) {d : D} {x : V} {H : Hp} {Q : VK} (hx : At [] H d x) (hf : d.fine = true) (hseq : d.isSeq = true)
    (k : ∀ H', But [] H H' → Q (.bl (d.items.all f && decide (strsOf d.items).Nodup)) H') :
    (tAndV (tCB (rAll K) (tCons (tLc (iSeq K (tVar 0)) (gName 1) tYes (tCall sp [] E0 (tCons (tVar 1) tNil)) [1]) tNil)) (tOp rEq (tLenUni K (tVar 0)) (tCB (rLenA K) (tCons (tVar 0) tNil)))) [some x, none] H Q := by
  subst hsp
  obtain ⟨p, xs, rfl, hq, hl⟩ := hx.seq (K := K) hseq
  obtain ⟨f1, f2⟩ := D.fine_items hf
  have hlen := hl.length
  unfold tAndV tCB tCons
  refine lc_seq (p := p) (xs := xs) rfl hq (fun n => V.bl (f (d.items.getD n .non))) (by omega) ?_ ?_
  · intro n y H2 hy b2 Q' q
    obtain ⟨dy, hdy, hay⟩ := hl.get hy
    refine ⟨_, rfl, dy, y, rfl, hay.mono b2, fineL_get f2 hdy, fun H3 b3 => ?_⟩
    have e : d.items.getD n .non = dy := by rw [List.getD_eq_getElem?_getD, hdy]; rfl
    have := q H3 b3
    rw [e] at this
    exact this
  · intro Dl H2 hD hD2 b2
    rw [hlen, map_range] at hD2
    refine ⟨Dl, d.items.map f, rfl, SqL.of hD2, _, rfl, ?_⟩
    rw [List.all_map]
    show (if (d.items.all f) = true then _ else _)
    refine ite2 (fun ha => ?_) (fun ha => ?_)
    · obtain ⟨e1, e2⟩ := strs_at hl (all_mono ha hfs)
      rw [e1] at hq
      have hq2 := hq.but b2
      refine ⟨_, rfl, p, strsOf d.items, rfl, hq2, by omega, _, rfl, _, ((strsOf d.items).map V.str).length, rfl, hq2.lenV, rfl, ?_⟩
      have := k H2 b2
      rw [ha, Bool.true_and] at this
      rw [dec_int, List.length_map]
      have e3 : decide (((uni (strsOf d.items)).length : Int) = ((strsOf d.items).length : Int)) = decide (strsOf d.items).Nodup := decide_eq_decide.mpr (by
        rw [← uni_nd]
        omega)
      rw [e3]
      exact this
    · have := k H2 b2
      rw [show d.items.all f = false by simpa using ha, Bool.false_and] at this
      exact this
abbrev sp_is_choice_list (K : PySem.W.Frag) : Sp := spT isChoiceD
theorem len_is_choice_list {K : PySem.W.Frag} {vs : List V} {H : Hp} {Q : VK} {E : XK} (h : sp_is_choice_list K vs H Q E) : vs.length = 1 := len_spT h
def t_is_choice_list (K : PySem.W.Frag) : TS :=
  (tSeq (tIfS (tOr (tNot (tB (tCall (sp_is_list K) [] E0 (tCons (tVar 0) tNil)))) (tNot (tTest (tChain rLeI rLeI (tC (.int 1)) (tCB (rLenA K) (tCons (tVar 0) tNil)) (tC (.int 4))))))
    (tRet (tC (.bl false)))
    tNext)
  (tRet (tAndV (tCB (rAll K) (tCons (tLc (iSeq K (tVar 0)) (gName 1) tYes (tCall (sp_is_name_or_empty K) [] E0 (tCons (tVar 1) tNil)) [1]) tNil)) (tOp rEq (tLenUni K (tVar 0)) (tCB (rLenA K) (tCons (tVar 0) tNil))))))
theorem pure_is_choice_list {K : PySem.W.Frag} (vs : List V) (H : Hp) (Q : VK) (E : XK) (h : sp_is_choice_list K vs H Q E) : t_is_choice_list K (fin Q) (st0 2 vs) H := by
  obtain ⟨d, x, rfl, hx, hf, k⟩ := h
  have no : isChoiceD d = false → ∀ H', But [] H H' → Q (.bl false) H' := fun e H' b => by
    have := k H' b
    rw [e] at this
    exact this
  refine ⟨_, rfl, d, x, rfl, hx, hf, fun H1 b1 => ⟨_, rfl, ?_⟩⟩
  cases hs : d.isSeq with
  | false => exact iteT (no (by unfold isChoiceD; rw [hs]; rfl) H1 b1)
  | true =>
    refine iteF ?_
    obtain ⟨p, xs, rfl, hq, hl⟩ := (hx.mono b1).seq (K := K) hs
    have hlen := hl.length
    refine ⟨_, rfl, _, xs.length, rfl, hq.lenV, _, _, rfl, rfl, _, rfl, ?_⟩
    refine ite2 (fun h1 => ?_) (fun h1 => ?_)
    · have h1 : (1 : Int) ≤ xs.length := by simpa using h1
      refine ⟨_, _, rfl, rfl, _, rfl, ?_⟩
      refine ite2 (fun h2 => ?_) (fun h2 => ?_)
      · have h2 : ¬ ((xs.length : Int) ≤ 4) := by simpa using h2
        refine no ?_ H1 b1
        unfold isChoiceD
        rw [decide_eq_false (show ¬ d.items.length ≤ 4 by omega), Bool.false_and, Bool.and_false, Bool.and_false]
      · have h2 : (xs.length : Int) ≤ 4 := by simpa using h2
        refine all_uni rfl (fun _ => ne_isStr) (hx.mono b1) hf hs fun H2 b2 => ?_
        have := k H2 (b1.trans b2)
        unfold isChoiceD at this
        rw [hs, decide_eq_true (show 1 ≤ d.items.length by omega), decide_eq_true (show d.items.length ≤ 4 by omega), Bool.true_and, Bool.true_and, Bool.true_and] at this
        exact this
    · have h1 : ¬ ((1 : Int) ≤ xs.length) := by simpa using h1
      refine ⟨_, rfl, no ?_ H1 b1⟩
      unfold isChoiceD
      rw [decide_eq_false (show ¬ 1 ≤ d.items.length by omega), Bool.false_and, Bool.and_false]
abbrev sp_is_name_list (K : PySem.W.Frag) : Sp := spT isNamesD
theorem len_is_name_list {K : PySem.W.Frag} {vs : List V} {H : Hp} {Q : VK} {E : XK} (h : sp_is_name_list K vs H Q E) : vs.length = 1 := len_spT h
def t_is_name_list (K : PySem.W.Frag) : TS :=
  (tSeq (tIfS (tOr (tNot (tB (tCall (sp_is_list K) [] E0 (tCons (tVar 0) tNil)))) (tTest (tOp rGtI (tCB (rLenA K) (tCons (tVar 0) tNil)) (tC (.int 4)))))
    (tRet (tC (.bl false)))
    tNext)
  (tRet (tAndV (tCB (rAll K) (tCons (tLc (iSeq K (tVar 0)) (gName 1) tYes (tCall (sp_is_name K) [] E0 (tCons (tVar 1) tNil)) [1]) tNil)) (tOp rEq (tLenUni K (tVar 0)) (tCB (rLenA K) (tCons (tVar 0) tNil))))))
theorem pure_is_name_list {K : PySem.W.Frag} (vs : List V) (H : Hp) (Q : VK) (E : XK) (h : sp_is_name_list K vs H Q E) : t_is_name_list K (fin Q) (st0 2 vs) H := by
  obtain ⟨d, x, rfl, hx, hf, k⟩ := h
  have no : isNamesD d = false → ∀ H', But [] H H' → Q (.bl false) H' := fun e H' b => by
    have := k H' b
    rw [e] at this
    exact this
  refine ⟨_, rfl, d, x, rfl, hx, hf, fun H1 b1 => ⟨_, rfl, ?_⟩⟩
  cases hs : d.isSeq with
  | false => exact iteT (no (by unfold isNamesD; rw [hs]; rfl) H1 b1)
  | true =>
    refine iteF ?_
    obtain ⟨p, xs, rfl, hq, hl⟩ := (hx.mono b1).seq (K := K) hs
    have hlen := hl.length
    refine ⟨_, rfl, _, xs.length, rfl, hq.lenV, _, _, rfl, rfl, _, rfl, ?_⟩
    refine ite2 (fun h2 => ?_) (fun h2 => ?_)
    · have h2 : (4 : Int) < xs.length := by simpa using h2
      refine no ?_ H1 b1
      unfold isNamesD
      rw [decide_eq_false (show ¬ d.items.length ≤ 4 by omega), Bool.false_and, Bool.and_false]
    · have h2 : ¬ ((4 : Int) < xs.length) := by simpa using h2
      refine all_uni rfl (fun _ => name_isStr) (hx.mono b1) hf hs fun H2 b2 => ?_
      have := k H2 (b1.trans b2)
      unfold isNamesD at this
      rw [hs, decide_eq_true (show d.items.length ≤ 4 by omega), Bool.true_and, Bool.true_and] at this
      exact this
end Kb

set_option Elab.async false
set_option linter.all false
set_option maxRecDepth 100000
set_option maxHeartbeats 4000000
/-! Kb, 13: is_link .. is_rule over data. -/
namespace Kb
open PySem PySem.Spec PyProof.Rows L2

/-- a test of a datum and a dict -/
def spT2 (f : D → List (Str × D) → Bool) : Sp := fun vs H Q _ => ∃ (d : D) (kds : List (Str × D)) (x y : V), vs = [x, y] ∧ At [] H d x ∧ At [] H (.dct kds) y ∧ d.fine = true ∧ ∀ H', But [] H H' → Q (.bl (f d kds)) H'
theorem len_spT2 {f : D → List (Str × D) → Bool} {vs : List V} {H : Hp} {Q : VK} {E : XK} (h : spT2 f vs H Q E) : vs.length = 2 := by
  obtain ⟨d, k, x, y, rfl, _⟩ := h
  rfl
abbrev keysD (kds : List (Str × D)) : List Str := kds.map (·.1)
/-! ### is_link -/
def isLinkD : D → List (Str × D) → Bool
  | .str z, kds => decide (z ∈ keysD kds)
  | _, _ => false
abbrev sp_is_link (K : PySem.W.Frag) : Sp := spT2 isLinkD
theorem len_is_link {K : PySem.W.Frag} {vs : List V} {H : Hp} {Q : VK} {E : XK} (h : sp_is_link K vs H Q E) : vs.length = 2 := len_spT2 h
def t_is_link (K : PySem.W.Frag) : TS :=
  (tRet (tAndV (tCB (rIsi K) (tCons (tVar 0) (tCons (tC (.ty "str")) tNil))) (tDIn (tVar 0) (tVar 1))))
theorem valV_some {kds : List (Str × D)} {kvs : List (Key × V)} {z : Str} (h : kvs.map (·.1) = kds.map fun p => (Sum.inr p.1 : Key)) : (valV kvs (Sum.inr z : Key)).isSome = decide (z ∈ keysD kds) := by
  by_cases m : z ∈ keysD kds
  · rw [decide_eq_true m]
    cases e : valV kvs (Sum.inr z : Key) with
    | some v => rfl
    | none =>
      obtain ⟨p, hp, ez⟩ := List.mem_map.mp m
      have : (Sum.inr z : Key) ∈ kvs.map (·.1) := by
        rw [h]
        exact List.mem_map.mpr ⟨p, hp, by rw [ez]⟩
      exact absurd this (valV_not e)
  · rw [decide_eq_false m, valV_none (keys_inr h m)]
    rfl
theorem pure_is_link {K : PySem.W.Frag} (vs : List V) (H : Hp) (Q : VK) (E : XK) (h : sp_is_link K vs H Q E) : t_is_link K (fin Q) (st0 2 vs) H := by
  obtain ⟨d, kds, x, y, rfl, hx, ⟨p, kvs, rfl, _, hp, hk⟩, hf, k⟩ := h
  refine ⟨_, rfl, x, _, _, _, d.isStr, rfl, .ty _, hx.ty, kit_str, _, rfl, ?_⟩
  cases hs : d.isStr with
  | false =>
    refine iteF ?_
    have e : isLinkD d kds = false := by cases d <;> first | rfl | cases hs
    show Q (.bl false) H
    rw [← e]
    exact k H But.refl
  | true =>
    refine iteT ?_
    obtain ⟨z, rfl⟩ : ∃ z, d = .str z := by cases d <;> first | exact ⟨_, rfl⟩ | cases hs
    obtain rfl : x = V.str z := hx
    refine ⟨_, rfl, _, rfl, p, _, rfl, DGet.k (k := Sum.inr z) hp, ?_⟩
    rw [valV_some hk.keys]
    exact k H But.refl
/-! ### is_manner -/
def isMannerD : D → Bool
  | .str z => decide (z = "try") || decide (z = "last")
  | _ => false
abbrev sp_is_manner (K : PySem.W.Frag) : Sp := spT isMannerD
theorem len_is_manner {K : PySem.W.Frag} {vs : List V} {H : Hp} {Q : VK} {E : XK} (h : sp_is_manner K vs H Q E) : vs.length = 1 := len_spT h
def t_is_manner (K : PySem.W.Frag) : TS :=
  (tRet (tAndV (tCB (rIsi K) (tCons (tVar 0) (tCons (tC (.ty "str")) tNil))) (tOp (rIn K false) (tVar 0) (tTup (tCons (tC (.str ("try" : Str))) (tCons (tC (.str ("last" : Str))) tNil))))))
theorem pure_is_manner {K : PySem.W.Frag} (vs : List V) (H : Hp) (Q : VK) (E : XK) (h : sp_is_manner K vs H Q E) : t_is_manner K (fin Q) (st0 1 vs) H := by
  obtain ⟨d, x, rfl, hx, hf, k⟩ := h
  refine ⟨_, rfl, x, _, _, _, d.isStr, rfl, .ty _, hx.ty, kit_str, _, rfl, ?_⟩
  cases hs : d.isStr with
  | false =>
    refine iteF ?_
    have e : isMannerD d = false := by cases d <;> first | rfl | cases hs
    show Q (.bl false) H
    rw [← e]
    exact k H But.refl
  | true =>
    refine iteT ?_
    obtain ⟨z, rfl⟩ : ∃ z, d = .str z := by cases d <;> first | exact ⟨_, rfl⟩ | cases hs
    obtain rfl : x = V.str z := hx
    refine ⟨_, rfl, by show 2 ≤ sizeLine; decide, fun p hp => ⟨p, [("try" : Str), ("last" : Str)].map V.str, rfl, .inr (SqT.of upd_same), rfl, flat_strs, ?_⟩⟩
    have e : (if false = true then !inV (V.str z) ([("try" : Str), ("last" : Str)].map V.str) else inV (V.str z) ([("try" : Str), ("last" : Str)].map V.str)) = isMannerD (.str z) := by
      rw [if_neg Bool.false_ne_true, inV_strs]
      show decide (z ∈ [("try" : Str), ("last" : Str)]) = (decide (z = "try") || decide (z = "last"))
      rw [← Bool.decide_or]
      refine decide_eq_decide.mpr ?_
      rw [List.mem_cons, List.mem_singleton]
    rw [e]
    exact k _ (But.new hp)

/-! ### is_own_answer -/
def isOwnD (d : D) (kds : List (Str × D)) : Bool := match d.items with
  | [.str f] => d.isSeq && decide (f = "self")
  | [.str f, y] => d.isSeq && (!decide (f = "self") && (if f = "value" then isNameD y else decide (f = "link") && isLinkD y kds))
  | _ => false
abbrev sp_is_own_answer (K : PySem.W.Frag) : Sp := spT2 isOwnD
theorem len_is_own_answer {K : PySem.W.Frag} {vs : List V} {H : Hp} {Q : VK} {E : XK} (h : sp_is_own_answer K vs H Q E) : vs.length = 2 := len_spT2 h
def t_is_own_answer (K : PySem.W.Frag) : TS :=
  (tSeq (tIfS (tOr (tNot (tB (tCall (sp_is_list K) [] E0 (tCons (tVar 0) tNil)))) (tOr (tTest (tOp rEq (tCB (rLenA K) (tCons (tVar 0) tNil)) (tC (.int 0)))) (tNot (tB (tCB (rIsi K) (tCons (tOp (rIx K) (tVar 0) (tC (.int 0))) (tCons (tC (.ty "str")) tNil)))))))
    (tRet (tC (.bl false)))
    tNext)
  (tSeq (tAsg (tOp (rIx K) (tVar 0) (tC (.int 0))) (gName 2))
  (tSeq (tIfS (tTest (tOp rEq (tVar 2) (tC (.str ("self" : Str)))))
    (tRet (tOp rEq (tCB (rLenA K) (tCons (tVar 0) tNil)) (tC (.int 1))))
    tNext)
  (tSeq (tIfS (tTest (tOp rNe (tCB (rLenA K) (tCons (tVar 0) tNil)) (tC (.int 2))))
    (tRet (tC (.bl false)))
    tNext)
  (tSeq (tIfS (tTest (tOp rEq (tVar 2) (tC (.str ("value" : Str)))))
    (tRet (tCall (sp_is_name K) [] E0 (tCons (tOp (rIx K) (tVar 0) (tC (.int 1))) tNil)))
    tNext)
  (tRet (tAndV (tOp rEq (tVar 2) (tC (.str ("link" : Str)))) (tCall (sp_is_link K) [] E0 (tCons (tOp (rIx K) (tVar 0) (tC (.int 1))) (tCons (tVar 1) tNil))))))))))
/-- x[i] of a list or a tuple, as the reading has it -/
theorem SqV.ixR {K : PySem.W.Frag} {H : Hp} {p : Addr} {xs : List V} {i : Nat} {z : Int} {v : V} {Q : VK} (h : SqV K H p xs) (e : xs[i]? = some v) (ez : z = (i : Int)) (q : Q v H) :
    rIxL K (.ref p) (.int z) H Q ∨ rIxT K (.ref p) (.int z) H Q ∨ rIxS (.ref p) (.int z) H Q := h.ix e ez q
theorem AtL.cons_inv {M : List Addr} {H : Hp} {d : D} {ds : List D} {xs : List V} (h : AtL M H (d :: ds) xs) : ∃ x r, xs = x :: r ∧ At M H d x ∧ AtL M H ds r := h
theorem pure_is_own_answer {K : PySem.W.Frag} (vs : List V) (H : Hp) (Q : VK) (E : XK) (h : sp_is_own_answer K vs H Q E) : t_is_own_answer K (fin Q) (st0 3 vs) H := by
  obtain ⟨d, kds, x, y, rfl, hx, hy, hf, k⟩ := h
  have no : isOwnD d kds = false → ∀ H', But [] H H' → Q (.bl false) H' := fun e H' b => by
    have := k H' b
    rw [e] at this
    exact this
  refine ⟨_, rfl, d, x, rfl, hx, hf, fun H1 b1 => ⟨_, rfl, ?_⟩⟩
  cases hs : d.isSeq with
  | false =>
    refine iteT (no ?_ H1 b1)
    have : d.items = [] := by cases d <;> first | rfl | cases hs
    unfold isOwnD
    rw [this]
  | true =>
    refine iteF ?_
    obtain ⟨p, xs, rfl, hq, hl⟩ := (hx.mono b1).seq (K := K) hs
    obtain ⟨f1, f2⟩ := D.fine_items hf
    have hlen := hl.length
    refine ⟨_, rfl, _, xs.length, rfl, hq.lenV, rfl, _, rfl, ?_⟩
    rw [dec_int]
    cases hit : d.items with
    | nil =>
      rw [hit] at hlen
      refine ite2 (fun _ => no (by unfold isOwnD; rw [hit]) H1 b1) fun hn => absurd hlen (by
        intro z
        exact hn (by rw [z]; rfl))
    | cons d0 ds =>
      rw [hit] at hl hlen f2
      obtain ⟨x0, r0, rfl, h0, hr⟩ := hl.cons_inv
      refine ite2 (fun hz => absurd hz (by simp; omega)) fun _ => ?_
      refine ⟨_, rfl, hq.ixR (i := 0) rfl rfl ⟨x0, _, _, _, d0.isStr, rfl, .ty _, h0.ty, kit_str, _, rfl, ?_⟩⟩
      cases hs0 : d0.isStr with
      | false =>
        refine iteT (no ?_ H1 b1)
        unfold isOwnD
        rw [hit]
        cases d0 <;> first | rfl | (cases hs0)
      | true =>
        refine iteF ?_
        obtain ⟨f, rfl⟩ : ∃ f, d0 = .str f := by cases d0 <;> first | exact ⟨_, rfl⟩ | cases hs0
        obtain rfl : x0 = V.str f := h0
        refine ⟨_, rfl, hq.ixR (i := 0) rfl rfl ?_⟩
        refine ⟨_, rfl, rfl, _, rfl, ?_⟩
        rw [dec_str]
        refine ite2 (fun hself => ?_) (fun hself => ?_)
        · refine ⟨_, rfl, _, _, rfl, hq.lenV, rfl, ?_⟩
          rw [dec_int]
          have hself : f = "self" := by simpa using hself
          have e : isOwnD d kds = decide (((V.str f :: r0).length : Int) = 1) := by
            unfold isOwnD
            rw [hit]
            cases ds with
            | nil =>
              obtain rfl : r0 = [] := hr
              show (d.isSeq && decide (f = "self")) = true
              rw [hs, decide_eq_true hself]
              rfl
            | cons d1 ds1 =>
              obtain ⟨x1, r1, rfl, _, _⟩ := hr.cons_inv
              have : decide (((V.str f :: x1 :: r1).length : Int) = 1) = false := by
                simp
                omega
              rw [this]
              cases ds1 with
              | nil =>
                show (d.isSeq && (!decide (f = "self") && _)) = false
                rw [decide_eq_true hself, Bool.not_true, Bool.false_and, Bool.and_false]
              | cons _ _ => rfl
          have := k H1 b1
          rw [e] at this
          exact this
        · have hself : f ≠ "self" := by simpa using hself
          refine ⟨_, rfl, _, _, rfl, hq.lenV, rfl, _, rfl, ?_⟩
          rw [dec_int]
          cases ds with
          | nil =>
            obtain rfl : r0 = [] := hr
            refine iteT (no ?_ H1 b1)
            unfold isOwnD
            rw [hit]
            show (d.isSeq && decide (f = "self")) = false
            rw [decide_eq_false hself, Bool.and_false]
          | cons d1 ds1 =>
            obtain ⟨x1, r1, rfl, h1, hr1⟩ := hr.cons_inv
            cases ds1 with
            | cons d2 ds2 =>
              obtain ⟨x2, r2, rfl, _, _⟩ := hr1.cons_inv
              refine ite2 (fun _ => no (by unfold isOwnD; rw [hit]) H1 b1) fun hz => absurd hz (by simp; omega)
            | nil =>
              obtain rfl : r1 = [] := hr1
              refine iteF ?_
              have ev : isOwnD d kds = (if f = "value" then isNameD d1 else decide (f = "link") && isLinkD d1 kds) := by
                unfold isOwnD
                rw [hit]
                show (d.isSeq && (!decide (f = "self") && _)) = _
                rw [hs, decide_eq_false hself]
                rfl
              have fd1 : d1.fine = true := fineL_get (i := 1) f2 rfl
              refine ⟨_, rfl, rfl, _, rfl, ?_⟩
              rw [dec_str]
              refine ite2 (fun hv => ?_) (fun hv => ?_)
              · have hv : f = "value" := by simpa using hv
                refine ⟨_, rfl, hq.ixR (i := 1) rfl rfl ⟨d1, x1, rfl, h1, fd1, fun H2 b2 => ?_⟩⟩
                have := k H2 (b1.trans b2)
                rw [ev, if_pos hv] at this
                exact this
              · have hv : f ≠ "value" := by simpa using hv
                refine ⟨_, rfl, rfl, _, rfl, ?_⟩
                rw [dec_str]
                refine ite2 (fun hk => ?_) (fun hk => ?_)
                · refine ⟨_, rfl, hq.ixR (i := 1) rfl rfl ⟨_, rfl, d1, kds, x1, y, rfl, h1, hy.mono b1, fd1, fun H2 b2 => ?_⟩⟩
                  have := k H2 (b1.trans b2)
                  rw [ev, if_neg hv, hk, Bool.true_and] at this
                  exact this
                · have := k H1 b1
                  rw [ev, if_neg hv, show decide (f = "link") = false by simpa using hk, Bool.false_and] at this
                  exact this

/-! ### is_send, is_rule -/
def isSendD (ds : List D) (kds : List (Str × D)) : Bool := match ds with
  | [l, u, m, w] => isLinkD l kds && (isNED u && (isMannerD m && isFlagD w))
  | _ => false
/-- rest, a list or a tuple; links -/
def sp_is_send (K : PySem.W.Frag) : Sp := fun vs H Q _ => ∃ (ds : List D) (kds : List (Str × D)) (p : Addr) (xs : List V) (y : V), vs = [.ref p, y] ∧ SqV K H p xs ∧ AtL [] H ds xs ∧ At [] H (.dct kds) y ∧ fineL ds = true ∧
  ∀ H', But [] H H' → Q (.bl (isSendD ds kds)) H'
theorem len_is_send {K : PySem.W.Frag} {vs : List V} {H : Hp} {Q : VK} {E : XK} (h : sp_is_send K vs H Q E) : vs.length = 2 := by
  obtain ⟨_, _, _, _, _, rfl, _⟩ := h
  rfl
def t_is_send (K : PySem.W.Frag) : TS :=
  (tSeq (tIfS (tTest (tOp rNe (tCB (rLenA K) (tCons (tVar 0) tNil)) (tC (.int 4))))
    (tRet (tC (.bl false)))
    tNext)
  (tSeq (tAsg (tVar 0) (gSeq K 4 (gCons (gName 2) (gCons (gName 3) (gCons (gName 4) (gCons (gName 5) gNil))))))
  (tRet (tAndV (tCall (sp_is_link K) [] E0 (tCons (tVar 2) (tCons (tVar 1) tNil))) (tAndV (tCall (sp_is_name_or_empty K) [] E0 (tCons (tVar 3) tNil)) (tAndV (tCall (sp_is_manner K) [] E0 (tCons (tVar 4) tNil)) (tCall (sp_is_flag K) [] E0 (tCons (tVar 5) tNil))))))))
theorem pure_is_send {K : PySem.W.Frag} (vs : List V) (H : Hp) (Q : VK) (E : XK) (h : sp_is_send K vs H Q E) : t_is_send K (fin Q) (st0 6 vs) H := by
  obtain ⟨ds, kds, p, xs, y, rfl, hq, hl, hy, hf, k⟩ := h
  have hlen := hl.length
  refine ⟨_, rfl, _, _, rfl, hq.lenV, rfl, _, rfl, ?_⟩
  rw [dec_int]
  refine ite2 (fun hn => ?_) (fun hn => ?_)
  · have hn : ¬ ((xs.length : Int) = 4) := by simpa using hn
    have e : isSendD ds kds = false := by
      match ds, hlen with
      | [_, _, _, _], hlen =>
        rw [hlen] at hn
        exact absurd rfl hn
      | [], _ => rfl
      | [_], _ => rfl
      | [_, _], _ => rfl
      | [_, _, _], _ => rfl
      | _ :: _ :: _ :: _ :: _ :: _, _ => rfl
    show Q (.bl false) H
    rw [← e]
    exact k H But.refl
  · have hn : (xs.length : Int) = 4 := by simpa using hn
    match ds, hl, hlen, hf, k with
    | [d1, d2, d3, d4], hl, _, hf, k =>
      obtain ⟨x1, _, rfl, h1, x2, _, rfl, h2, x3, _, rfl, h3, x4, _, rfl, h4, rfl⟩ := hl
      refine ⟨_, rfl, p, _, rfl, hq, rfl, _, _, rfl, _, _, rfl, _, _, rfl, _, _, rfl, rfl, ?_⟩
      have f1 := fineL_get (i := 0) hf rfl
      have f2 := fineL_get (i := 1) hf rfl
      have f3 := fineL_get (i := 2) hf rfl
      have f4 := fineL_get (i := 3) hf rfl
      have fin_ : ∀ b H', But [] H H' → isSendD [d1, d2, d3, d4] kds = b → Q (.bl b) H' := fun b H' bb e => by
        rw [← e]
        exact k H' bb
      refine ⟨_, rfl, _, rfl, d1, kds, x1, y, rfl, h1, hy, f1, fun Ha ba => ⟨_, rfl, ?_⟩⟩
      refine ite2 (fun e1 => ?_) (fun e1 => fin_ false Ha ba (by show (isLinkD d1 kds && (isNED d2 && (isMannerD d3 && isFlagD d4))) = _; rw [show isLinkD d1 kds = false by simpa using e1]; rfl))
      refine ⟨_, rfl, d2, x2, rfl, h2.mono ba, f2, fun Hb bb => ⟨_, rfl, ?_⟩⟩
      have bb := ba.trans bb
      refine ite2 (fun e2 => ?_) (fun e2 => fin_ false Hb bb (by show (isLinkD d1 kds && (isNED d2 && (isMannerD d3 && isFlagD d4))) = _; rw [e1, show isNED d2 = false by simpa using e2]; rfl))
      refine ⟨_, rfl, d3, x3, rfl, h3.mono bb, f3, fun Hc bc => ⟨_, rfl, ?_⟩⟩
      have bc := bb.trans bc
      refine ite2 (fun e3 => ?_) (fun e3 => fin_ false Hc bc (by show (isLinkD d1 kds && (isNED d2 && (isMannerD d3 && isFlagD d4))) = _; rw [e1, e2, show isMannerD d3 = false by simpa using e3]; rfl))
      refine ⟨_, rfl, d4, x4, rfl, h4.mono bc, f4, fun Hd bd => fin_ _ Hd (bc.trans bd) (by show (isLinkD d1 kds && (isNED d2 && (isMannerD d3 && isFlagD d4))) = _; rw [e1, e2, e3]; rfl)⟩
    | [], _, hlen, _, _ => rw [hlen] at hn; cases hn
    | [_], _, hlen, _, _ => rw [hlen] at hn; cases hn
    | [_, _], _, hlen, _, _ => rw [hlen] at hn; cases hn
    | [_, _, _], _, hlen, _, _ => rw [hlen] at hn; cases hn
    | _ :: _ :: _ :: _ :: _ :: _, _, hlen, _, _ =>
      rw [hlen] at hn
      simp at hn
      omega
def tellD : List D → Bool
  | [v] => isNameD v
  | _ => false
def giveD : List D → List (Str × D) → Bool
  | [l, m], kds => isLinkD l kds && isMannerD m
  | _, _ => false
/-- what stands behind a rule's names -/
def isRestD (f : Str) (ds : List D) (kds : List (Str × D)) : Bool :=
  if f = "bar" ∨ f = "self" then decide (ds.length = 0)
  else if f = "tell" then tellD ds
  else if f = "give" then giveD ds kds
  else decide (f = "send") && isSendD ds kds
def isRuleD (d : D) (kds : List (Str × D)) : Bool := match d.items with
  | .str f :: ns :: ds => d.isSeq && (isNamesD ns && isRestD f ds kds)
  | _ => false
abbrev sp_is_rule (K : PySem.W.Frag) : Sp := spT2 isRuleD
theorem len_is_rule {K : PySem.W.Frag} {vs : List V} {H : Hp} {Q : VK} {E : XK} (h : sp_is_rule K vs H Q E) : vs.length = 2 := len_spT2 h
def t_is_rule (K : PySem.W.Frag) : TS :=
  (tSeq (tIfS (tOr (tNot (tB (tCall (sp_is_list K) [] E0 (tCons (tVar 0) tNil)))) (tOr (tTest (tOp rLtI (tCB (rLenA K) (tCons (tVar 0) tNil)) (tC (.int 2)))) (tOr (tNot (tB (tCB (rIsi K) (tCons (tOp (rIx K) (tVar 0) (tC (.int 0))) (tCons (tC (.ty "str")) tNil))))) (tNot (tB (tCall (sp_is_name_list K) [] E0 (tCons (tOp (rIx K) (tVar 0) (tC (.int 1))) tNil)))))))
    (tRet (tC (.bl false)))
    tNext)
  (tSeq (tAsg (tOp (rIx K) (tVar 0) (tC (.int 0))) (gName 2))
  (tSeq (tAsg (tSl (fun x lo hi H Q => rSlL K x lo hi H Q ∨ rSlA K x lo hi H Q) (tVar 0) (tPart (tC (.int 2))) tNoPart) (gName 3))
  (tSeq (tIfS (tOr (tTest (tOp rEq (tVar 2) (tC (.str ("bar" : Str))))) (tTest (tOp rEq (tVar 2) (tC (.str ("self" : Str))))))
    (tRet (tOp rEq (tCB (rLenA K) (tCons (tVar 3) tNil)) (tC (.int 0))))
    tNext)
  (tSeq (tIfS (tTest (tOp rEq (tVar 2) (tC (.str ("tell" : Str)))))
    (tRet (tAndV (tOp rEq (tCB (rLenA K) (tCons (tVar 3) tNil)) (tC (.int 1))) (tCall (sp_is_name K) [] E0 (tCons (tOp (rIx K) (tVar 3) (tC (.int 0))) tNil))))
    tNext)
  (tSeq (tIfS (tTest (tOp rEq (tVar 2) (tC (.str ("give" : Str)))))
    (tRet (tAndV (tOp rEq (tCB (rLenA K) (tCons (tVar 3) tNil)) (tC (.int 2))) (tAndV (tCall (sp_is_link K) [] E0 (tCons (tOp (rIx K) (tVar 3) (tC (.int 0))) (tCons (tVar 1) tNil))) (tCall (sp_is_manner K) [] E0 (tCons (tOp (rIx K) (tVar 3) (tC (.int 1))) tNil)))))
    tNext)
  (tRet (tAndV (tOp rEq (tVar 2) (tC (.str ("send" : Str)))) (tCall (sp_is_send K) [] E0 (tCons (tVar 3) (tCons (tVar 1) tNil)))))))))))
theorem cutF2 {x y : V} {xs : List V} : cutV (x :: y :: xs) (some 2) none = xs := by
  unfold cutV HT.sIx
  simp
/-- x[2:] of a list or a tuple -/
theorem sl2 {K : PySem.W.Frag} {H : Hp} {p : Addr} {x y : V} {xs : List V} {Q : VK} (h : SqV K H p (x :: y :: xs)) (k : ∀ q H', SqV K H' q xs → But [] H H' → Q (.ref q) H') :
    rSlL K (.ref p) (some 2) none H Q ∨ rSlA K (.ref p) (some 2) none H Q := by
  rcases h with h | h
  · refine .inl ⟨_, _, rfl, h, fun q hq => ?_⟩
    rw [cutF2]
    exact k q _ (.inl (SqL.of upd_same)) (But.new hq)
  · refine .inr ⟨_, _, rfl, h, fun z => ?_, fun _ q hq => ?_⟩
    · exact absurd z (by
        unfold HT.sIx
        simp)
    · rw [cutF2]
      exact k q _ (.inr (SqT.of upd_same)) (But.new hq)
theorem pure_is_rule {K : PySem.W.Frag} (vs : List V) (H : Hp) (Q : VK) (E : XK) (h : sp_is_rule K vs H Q E) : t_is_rule K (fin Q) (st0 4 vs) H := by
  obtain ⟨d, kds, x, y, rfl, hx, hy, hf, k⟩ := h
  have no : isRuleD d kds = false → ∀ H', But [] H H' → Q (.bl false) H' := fun e H' b => by
    have := k H' b
    rw [e] at this
    exact this
  refine ⟨_, rfl, d, x, rfl, hx, hf, fun H1 b1 => ⟨_, rfl, ?_⟩⟩
  cases hs : d.isSeq with
  | false =>
    refine iteT (no ?_ H1 b1)
    have : d.items = [] := by cases d <;> first | rfl | cases hs
    unfold isRuleD
    rw [this]
  | true =>
    refine iteF ?_
    obtain ⟨p, xs, rfl, hq, hl⟩ := (hx.mono b1).seq (K := K) hs
    obtain ⟨f1, f2⟩ := D.fine_items hf
    have hlen := hl.length
    refine ⟨_, rfl, _, xs.length, rfl, hq.lenV, _, _, rfl, rfl, _, rfl, ?_⟩
    match hit : d.items, hl, hlen, f2 with
    | [], hl, hlen, _ =>
      refine ite2 (fun _ => no (by unfold isRuleD; rw [hit]) H1 b1) fun z => absurd (show decide ((xs.length : Int) < 2) = true by rw [hlen]; rfl) z
    | [d0], hl, hlen, _ =>
      refine ite2 (fun _ => no (by unfold isRuleD; rw [hit]; cases d0 <;> rfl) H1 b1) fun z => absurd (show decide ((xs.length : Int) < 2) = true by rw [hlen]; rfl) z
    | d0 :: d1 :: ds, hl, hlen, f2 =>
      obtain ⟨x0, _, rfl, h0, x1, r, rfl, h1, hr⟩ := hl
      refine ite2 (fun hz => absurd hz (by simp; omega)) fun _ => ?_
      refine ⟨_, rfl, hq.ixR (i := 0) rfl rfl ⟨x0, _, _, _, d0.isStr, rfl, .ty _, h0.ty, kit_str, _, rfl, ?_⟩⟩
      cases hs0 : d0.isStr with
      | false =>
        refine iteT (no ?_ H1 b1)
        unfold isRuleD
        rw [hit]
        cases d0 <;> first | rfl | (cases hs0)
      | true =>
        refine iteF ?_
        obtain ⟨f, rfl⟩ : ∃ f, d0 = .str f := by cases d0 <;> first | exact ⟨_, rfl⟩ | cases hs0
        obtain rfl : x0 = V.str f := h0
        have fd1 : d1.fine = true := fineL_get (i := 1) f2 rfl
        have fds : fineL ds = true := by
          unfold fineL at f2
          have := (Bool.and_eq_true_iff.mp f2).2
          unfold fineL at this
          exact (Bool.and_eq_true_iff.mp this).2
        refine ⟨_, rfl, hq.ixR (i := 1) rfl rfl ⟨d1, x1, rfl, h1, fd1, fun H2 b2 => ⟨_, rfl, ?_⟩⟩⟩
        have b12 := b1.trans b2
        have e0 : isRuleD d kds = (isNamesD d1 && isRestD f ds kds) := by
          unfold isRuleD
          rw [hit]
          show (d.isSeq && _) = _
          rw [hs, Bool.true_and]
        cases hn : isNamesD d1 with
        | false => exact iteT (no (by rw [e0, hn]; rfl) H2 b12)
        | true =>
          rw [hn, Bool.true_and] at e0
          refine iteF ?_
          have hq2 := hq.but b2
          refine ⟨_, rfl, hq2.ixR (i := 0) rfl rfl ?_⟩
          refine ⟨_, rfl, 2, rfl, sl2 hq2 fun q H3 hq3 b3 => ?_⟩
          have b13 := b12.trans b3
          have hr3 : AtL [] H3 ds r := (hr.mono b2).mono b3
          have hy3 := hy.mono b13
          have rl := hr3.length
          have done : ∀ b H', But [] H3 H' → isRestD f ds kds = b → Q (.bl b) H' := fun b H' bb e => by
            have := k H' (b13.trans bb)
            rw [e0, e] at this
            exact this
          have bar : f = "bar" ∨ f = "self" → tRet (tOp rEq (tCB (rLenA K) (tCons (tVar 3) tNil)) (tC (.int 0))) (fin Q) [some (.ref p), some y, some (.str f), some (.ref q)] H3 := fun hb => by
            refine ⟨_, rfl, _, r.length, rfl, hq3.lenV, rfl, done _ H3 But.refl ?_⟩
            unfold isRestD
            rw [if_pos hb, dec_int]
            refine decide_eq_decide.mpr ?_
            omega
          refine ⟨_, rfl, rfl, _, rfl, ?_⟩
          rw [dec_str]
          refine ite2 (fun hb => iteT (bar (.inl (by simpa using hb)))) (fun hb => ?_)
          refine ⟨_, rfl, rfl, _, rfl, ?_⟩
          rw [dec_str]
          refine ite2 (fun hb2 => bar (.inr (by simpa using hb2))) (fun hb2 => ?_)
          have nb : ¬ (f = "bar" ∨ f = "self") := fun z => z.elim (fun z => by simp [z] at hb) (fun z => by simp [z] at hb2)
          have er : isRestD f ds kds = (if f = "tell" then tellD ds else if f = "give" then giveD ds kds else decide (f = "send") && isSendD ds kds) := by
            unfold isRestD
            rw [if_neg nb]
          clear hit hlen f2 hr e0 bar
          refine ⟨_, rfl, rfl, _, rfl, ?_⟩
          rw [dec_str]
          refine ite2 (fun ht => ?_) (fun ht => ?_)
          · have ht : f = "tell" := by simpa using ht
            rw [if_pos ht] at er
            refine ⟨_, rfl, _, r.length, rfl, hq3.lenV, rfl, _, rfl, ?_⟩
            rw [dec_int]
            match ds, hr3, rl, fds, er, done with
            | [v], hr3, rl, fds, er, done =>
              obtain ⟨xv, _, rfl, hv, rfl⟩ := hr3
              refine iteT ⟨_, rfl, hq3.ixR (i := 0) rfl rfl ⟨v, xv, rfl, hv, fineL_get (i := 0) fds rfl, fun H4 b4 => done _ H4 b4 er⟩⟩
            | [], _, rl, _, er, done => rw [rl]; exact iteF (done _ H3 But.refl er)
            | _ :: _ :: _, _, rl, _, er, done =>
              rw [rl]
              refine ite2 (fun z => absurd z (by simp; omega)) fun _ => done _ H3 But.refl er
          · have ht : f ≠ "tell" := by simpa using ht
            rw [if_neg ht] at er
            refine ⟨_, rfl, rfl, _, rfl, ?_⟩
            rw [dec_str]
            refine ite2 (fun hg => ?_) (fun hg => ?_)
            · have hg : f = "give" := by simpa using hg
              rw [if_pos hg] at er
              refine ⟨_, rfl, _, r.length, rfl, hq3.lenV, rfl, _, rfl, ?_⟩
              rw [dec_int]
              match ds, hr3, rl, fds, er, done with
              | [l, m], hr3, rl, fds, er, done =>
                obtain ⟨xl, _, rfl, hl4, xm, _, rfl, hm4, rfl⟩ := hr3
                refine iteT ⟨_, rfl, hq3.ixR (i := 0) rfl rfl ⟨_, rfl, l, kds, xl, y, rfl, hl4, hy3, fineL_get (i := 0) fds rfl, fun H4 b4 => ⟨_, rfl, ?_⟩⟩⟩
                refine ite2 (fun e1 => ?_) (fun e1 => done _ H4 b4 (by rw [er]; show (isLinkD l kds && isMannerD m) = _; rw [show isLinkD l kds = false by simpa using e1]; rfl))
                exact ⟨_, rfl, (hq3.but b4).ixR (i := 1) rfl rfl ⟨m, xm, rfl, hm4.mono b4, fineL_get (i := 1) fds rfl, fun H5 b5 => done _ H5 (b4.trans b5) (by rw [er]; show (isLinkD l kds && isMannerD m) = _; rw [e1, Bool.true_and])⟩⟩
              | [], _, rl, _, er, done => rw [rl]; exact iteF (done _ H3 But.refl er)
              | [_], _, rl, _, er, done => rw [rl]; exact iteF (done _ H3 But.refl er)
              | _ :: _ :: _ :: _, _, rl, _, er, done =>
                rw [rl]
                refine ite2 (fun z => absurd z (by simp; omega)) fun _ => done _ H3 But.refl er
            · have hg : f ≠ "give" := by simpa using hg
              rw [if_neg hg] at er
              refine ⟨_, rfl, rfl, _, rfl, ?_⟩
              rw [dec_str]
              refine ite2 (fun hs => ?_) (fun hs => done _ H3 But.refl (by rw [er, show decide (f = "send") = false by simpa using hs]; rfl))
              rw [hs, Bool.true_and] at er
              exact ⟨_, rfl, _, rfl, ds, kds, q, r, y, rfl, hq3, hr3, hy3, fds, fun H4 b4 => done _ H4 b4 er⟩
end Kb

set_option Elab.async false
set_option linter.all false
set_option maxRecDepth 100000
set_option maxHeartbeats 4000000
/-! Kb, 14: data have no circles; a dict comprehension over any walk. -/
namespace Kb
open PySem PySem.Spec PyProof.Rows L2

/-! ### one place, one datum -/
mutual
theorem At.inj {M M' : List Addr} {H : Hp} : ∀ {d d' : D} {v : V}, At M H d v → At M' H d' v → d = d'
  | .non, d', _, h, h' => by
    cases h
    cases d' <;> first | rfl | (obtain ⟨_, _, e, _⟩ := h'; cases e) | (cases h')
  | .bl b, d', _, h, h' => by
    cases h
    cases d' <;> first | (cases h'; rfl) | (obtain ⟨_, _, e, _⟩ := h'; cases e) | (cases h')
  | .int b, d', _, h, h' => by
    cases h
    cases d' <;> first | (cases h'; rfl) | (obtain ⟨_, _, e, _⟩ := h'; cases e) | (cases h')
  | .str b, d', _, h, h' => by
    cases h
    cases d' <;> first | (cases h'; rfl) | (obtain ⟨_, _, e, _⟩ := h'; cases e) | (cases h')
  | .tup ds, d', _, h, h' => by
    obtain ⟨p, xs, rfl, _, hp, hl⟩ := h
    cases d' with
    | tup ds' =>
      obtain ⟨p', xs', e, _, hp', hl'⟩ := h'
      cases e
      rw [hp] at hp'
      cases hp'
      rw [AtL.inj hl hl']
    | lst ds' =>
      obtain ⟨p', xs', e, _, hp', hl'⟩ := h'
      cases e
      rw [hp] at hp'
      cases hp'
    | dct ds' =>
      obtain ⟨p', xs', e, _, hp', hl'⟩ := h'
      cases e
      rw [hp] at hp'
      cases hp'
    | _ => cases h'
  | .lst ds, d', _, h, h' => by
    obtain ⟨p, xs, rfl, _, hp, hl⟩ := h
    cases d' with
    | lst ds' =>
      obtain ⟨p', xs', e, _, hp', hl'⟩ := h'
      cases e
      rw [hp] at hp'
      cases hp'
      rw [AtL.inj hl hl']
    | tup ds' =>
      obtain ⟨p', xs', e, _, hp', hl'⟩ := h'
      cases e
      rw [hp] at hp'
      cases hp'
    | dct ds' =>
      obtain ⟨p', xs', e, _, hp', hl'⟩ := h'
      cases e
      rw [hp] at hp'
      cases hp'
    | _ => cases h'
  | .dct ds, d', _, h, h' => by
    obtain ⟨p, xs, rfl, _, hp, hl⟩ := h
    cases d' with
    | dct ds' =>
      obtain ⟨p', xs', e, _, hp', hl'⟩ := h'
      cases e
      rw [hp] at hp'
      cases hp'
      rw [AtP.inj hl hl']
    | tup ds' =>
      obtain ⟨p', xs', e, _, hp', hl'⟩ := h'
      cases e
      rw [hp] at hp'
      cases hp'
    | lst ds' =>
      obtain ⟨p', xs', e, _, hp', hl'⟩ := h'
      cases e
      rw [hp] at hp'
      cases hp'
    | _ => cases h'
theorem AtL.inj {M M' : List Addr} {H : Hp} : ∀ {ds ds' : List D} {xs : List V}, AtL M H ds xs → AtL M' H ds' xs → ds = ds'
  | [], ds', _, h, h' => by
    cases h
    cases ds' with
    | nil => rfl
    | cons a r =>
      obtain ⟨_, _, e, _⟩ := h'
      cases e
  | d :: ds, ds', _, h, h' => by
    obtain ⟨x, r, rfl, h1, h2⟩ := h
    cases ds' with
    | nil => cases h'
    | cons a r' =>
      obtain ⟨_, _, e, h1', h2'⟩ := h'
      cases e
      rw [At.inj h1 h1', AtL.inj h2 h2']
theorem AtP.inj {M M' : List Addr} {H : Hp} : ∀ {ds ds' : List (Str × D)} {xs : List (Key × V)}, AtP M H ds xs → AtP M' H ds' xs → ds = ds'
  | [], ds', _, h, h' => by
    cases h
    cases ds' with
    | nil => rfl
    | cons a r =>
      obtain ⟨_, _, e, _⟩ := h'
      cases e
  | (k, d) :: ds, ds', _, h, h' => by
    obtain ⟨x, r, rfl, h1, h2⟩ := h
    cases ds' with
    | nil => cases h'
    | cons a r' =>
      obtain ⟨k', d'⟩ := a
      obtain ⟨_, _, e, h1', h2'⟩ := h'
      cases e
      rw [At.inj h1 h1', AtP.inj h2 h2']
end
/-! ### no circles -/
mutual
def D.sz : D → Nat
  | .tup ds => D.szL ds + 1
  | .lst ds => D.szL ds + 1
  | .dct kds => D.szP kds + 1
  | _ => 1
def D.szL : List D → Nat
  | [] => 0
  | d :: ds => D.sz d + D.szL ds
def D.szP : List (Str × D) → Nat
  | [] => 0
  | (_, d) :: ds => D.sz d + D.szP ds
end
mutual
theorem At.out {M : List Addr} {H : Hp} {p : Addr} {d0 : D} (h0 : At [] H d0 (.ref p)) : ∀ {d : D} {v : V}, At M H d v → d.sz < d0.sz → At (p :: M) H d v
  | .non, _, h, _ => h
  | .bl _, _, h, _ => h
  | .int _, _, h, _ => h
  | .str _, _, h, _ => h
  | .tup ds, v, h, hz => by
    have hh := h
    obtain ⟨q, xs, rfl, m, hq, hl⟩ := h
    refine ⟨q, xs, rfl, fun z => ?_, hq, AtL.out h0 hl (by rw [D.sz] at hz; omega)⟩
    rcases List.mem_cons.mp z with z | z
    · rw [z] at hh
      rw [At.inj hh h0] at hz
      omega
    · exact m z
  | .lst ds, v, h, hz => by
    have hh := h
    obtain ⟨q, xs, rfl, m, hq, hl⟩ := h
    refine ⟨q, xs, rfl, fun z => ?_, hq, AtL.out h0 hl (by rw [D.sz] at hz; omega)⟩
    rcases List.mem_cons.mp z with z | z
    · rw [z] at hh
      rw [At.inj hh h0] at hz
      omega
    · exact m z
  | .dct ds, v, h, hz => by
    have hh := h
    obtain ⟨q, xs, rfl, m, hq, hl⟩ := h
    refine ⟨q, xs, rfl, fun z => ?_, hq, AtP.out h0 hl (by rw [D.sz] at hz; omega)⟩
    rcases List.mem_cons.mp z with z | z
    · rw [z] at hh
      rw [At.inj hh h0] at hz
      omega
    · exact m z
theorem AtL.out {M : List Addr} {H : Hp} {p : Addr} {d0 : D} (h0 : At [] H d0 (.ref p)) : ∀ {ds : List D} {xs : List V}, AtL M H ds xs → D.szL ds < d0.sz → AtL (p :: M) H ds xs
  | [], _, h, _ => h
  | d :: ds, _, h, hz => by
    obtain ⟨x, r, rfl, h1, h2⟩ := h
    rw [D.szL] at hz
    exact ⟨x, r, rfl, At.out h0 h1 (by omega), AtL.out h0 h2 (by omega)⟩
theorem AtP.out {M : List Addr} {H : Hp} {p : Addr} {d0 : D} (h0 : At [] H d0 (.ref p)) : ∀ {ds : List (Str × D)} {xs : List (Key × V)}, AtP M H ds xs → D.szP ds < d0.sz → AtP (p :: M) H ds xs
  | [], _, h, _ => h
  | (k, d) :: ds, _, h, hz => by
    obtain ⟨x, r, rfl, h1, h2⟩ := h
    rw [D.szP] at hz
    exact ⟨x, r, rfl, At.out h0 h1 (by omega), AtP.out h0 h2 (by omega)⟩
end
/-- a dict's parts don't hold the dict -/
theorem At.dct {H : Hp} {kds : List (Str × D)} {v : V} (h : At [] H (.dct kds) v) : ∃ p kvs, v = .ref p ∧ H p = some (.dK kvs) ∧ AtP [p] H kds kvs := by
  have hh := h
  obtain ⟨p, kvs, rfl, m, hp, hl⟩ := h
  exact ⟨p, kvs, rfl, hp, AtP.out hh hl (by rw [D.sz]; omega)⟩
section
variable {M M' : List Addr} {H H' : Hp} {kds : List (Str × D)} {kvs : List (Key × V)}
theorem AtP.mono (b : But M H H') (h : AtP M H kds kvs) : AtP M H' kds kvs := AtP.mono' (fun p o m e => ⟨m, b.keep p o m e⟩) kds kvs h
theorem AtP.less (s : ∀ x ∈ M', x ∈ M) (h : AtP M H kds kvs) : AtP M' H kds kvs := AtP.mono' (fun p o m e => ⟨fun z => m (s p z), e⟩) kds kvs h
theorem AtP.get : ∀ {kds : List (Str × D)} {kvs : List (Key × V)} {i : Nat} {k : Key} {v : V}, AtP M H kds kvs → kvs[i]? = some (k, v) → ∃ n d, kds[i]? = some (n, d) ∧ k = .inr n ∧ At M H d v
  | [], _, i, k, v, h, e => by
    cases h
    simp at e
  | (n, d) :: ds, _, 0, k, v, h, e => by
    obtain ⟨y, r, rfl, h1, h2⟩ := h
    simp at e
    obtain ⟨rfl, rfl⟩ := e
    exact ⟨n, d, rfl, rfl, h1⟩
  | (n, d) :: ds, _, i + 1, k, v, h, e => by
    obtain ⟨y, r, rfl, h1, h2⟩ := h
    obtain ⟨n', d', q1, q2, q3⟩ := AtP.get (i := i) (k := k) (v := v) h2 (by simpa using e)
    exact ⟨n', d', by simpa using q1, q2, q3⟩
theorem AtP.length (h : AtP M H kds kvs) : kvs.length = kds.length := keys_len (os := kds) h.keys
/-- what is looked up in a dict of data -/
theorem AtP.val : ∀ {kds : List (Str × D)} {kvs : List (Key × V)} {n : Str}, AtP M H kds kvs → n ∈ kds.map (·.1) → ∃ d v, kds.lookup n = some d ∧ valV kvs (.inr n) = some v ∧ At M H d v
  | [], _, n, h, m => by simp at m
  | (k, d) :: ds, _, n, h, m => by
    obtain ⟨y, r, rfl, h1, h2⟩ := h
    by_cases e : n = k
    · refine ⟨d, y, by rw [e, List.lookup_cons_self], ?_, h1⟩
      rw [e, valV, List.find?_cons_of_pos (by simp)]
      rfl
    · rw [List.map_cons, List.mem_cons] at m
      obtain ⟨d', v, q1, q2, q3⟩ := AtP.val (n := n) h2 (m.resolve_left e)
      refine ⟨d', v, ?_, ?_, q3⟩
      · rw [List.lookup_cons, beq_eq_false_iff_ne.mpr e]
        exact q1
      · rw [valV, List.find?_cons_of_neg (by simpa using fun z => e z.symm)]
        exact q2
end

/-! ### {k: v for x in it if ..} over any walk -/
section
variable {J : It} {n : Nat} {G : Hp → Prop} {Y : Nat → Hp → V → Hp → Prop}
theorem dc_it (w : Walk J n G Y) {g : TG} {tt : TT} {tk tv : TE} {vs : List Nat} {σ : L2.St} {H1 : Hp} {D : Addr} {Qd : Hp → Prop} (Pv : Nat → Hp → Prop) (h0 : Pv 0 (upd H1 D (.dK []))) (hG : ∀ i H, i ≤ n → Pv i H → G H)
    (hs : ∀ i x H H', i < n → Pv i H → Y i H x H' → g x (wipe σ vs) H' fun σ2 H2 => wipe σ2 vs = wipe σ vs ∧ tt σ2 H2 fun b H3 =>
      if b = true then tk σ2 H3 fun y H4 => tv σ2 H4 fun z H5 => ∃ kvs k, y = kV k ∧ H5 D = some (.dK kvs) ∧ kvs.length < sizeLine ∧ Pv (i + 1) (upd H5 D (.dK (putK kvs k z))) else Pv (i + 1) H3) (hd : ∀ H, Pv n H → Qd H) :
    ∃ W : Nat → Nat → Hp → Prop, (∃ m, W 0 m (upd H1 D (.dK []))) ∧ ∀ i m H, W i m H →
      (J.stop i H ∧ Qd H) ∨ (J.go i H ∧ ∃ Nx : Hp → Prop, (∀ H', Nx H' → ∃ m', m' < m ∧ W (i + 1) m' H') ∧ ∀ x H', J.yld i H x H' → g x (wipe σ vs) H' fun σ2 H2 => wipe σ2 vs = wipe σ vs ∧ tt σ2 H2 fun b H3 =>
        if b = true then tk σ2 H3 fun y H4 => tv σ2 H4 fun z H5 => ∃ kvs k, y = kV k ∧ H5 D = some (.dK kvs) ∧ kvs.length < sizeLine ∧ Nx (upd H5 D (.dK (putK kvs k z))) else Nx H3) := by
  refine ⟨fun i m H => m = n - i ∧ i ≤ n ∧ Pv i H, ⟨n, by simp, Nat.zero_le _, h0⟩, ?_⟩
  rintro i m H ⟨rfl, hi, p⟩
  have q := hG i H hi p
  by_cases hlt : i < n
  · refine .inr ⟨w.goes i H hlt q, Pv (i + 1), fun H' p' => ⟨n - (i + 1), by omega, rfl, hlt, p'⟩, fun x H' y => hs i x H H' hlt p (w.yields i H x H' hlt q y)⟩
  · have e : i = n := by omega
    subst e
    exact .inl ⟨w.stops H q, hd H p⟩
end
end Kb

set_option Elab.async false
set_option linter.all false
set_option maxRecDepth 100000
set_option maxHeartbeats 4000000
/-! Kb, 15: sorted of a list or a tuple of texts; a dict's keys, sorted. -/
namespace Kb
open PySem PySem.Spec PyProof.Rows L2

def rSortedA (K : PySem.W.Frag) : List V → Hp → VK → Prop := fun vs H Q => ∃ (a : Addr) (xs : List Str), vs = [V.ref a] ∧ SqV K H a (xs.map V.str) ∧ xs.length < 64 ∧
  ∀ (ys : List Str) (p : Addr), ys.Perm xs → sortedS ys = true → H p = none → Q (.ref p) (upd H p (.lst (ys.map V.str)))
theorem cr_sortedA {X : Cx} : CallR X (.builtin "sorted") (rSortedA X.K) := by
  intro pins s σ H vs us Q I r h
  obtain ⟨a, xs, rfl, hs, h64, q⟩ := h
  rcases hs with hs | hs
  · exact cr_sortedS pins s σ H [V.ref a] us Q I r ⟨a, xs, rfl, hs, h64, q⟩
  obtain ⟨its, rv, ht, hz⟩ := I.tuple hs
  rw [Vals.ref1 r]
  have hlen0 := rv.length
  rw [List.length_map] at hlen0
  have hS : StrsAre its xs := rv.strs
  have hal : its.length = xs.length := hlen0.symm
  obtain ⟨o, ho, hc, n, hd⟩ := ht
  refine Calls.call_function_entry PyProof.Rows.kind_sorted PyProof.Rows.plain_sorted PyProof.Rows.entry_sorted (PyProof.Rows.args_sorted1 _) ?_
  unfold Builtin.«sorted»
  refine wpAny_bind (m := checkCount "sorted" 1 1 _) (wpAny_pure ?_)
  refine wpAny_bind (wpAny_collect_seq a (.inr rfl) ho hc hd (fun h' hk => ?_) (by rw [List.size_toArray, hal, sizeLine_eq]; omega))
  have I1 : Inv X pins σ H { s with heap := h' } := I.kept (t' := s.toks) hk
  rw [List.toList_toArray]
  refine wpAny_bind (wpAny_newList ?_ (by rw [hal, sizeLine_eq]; omega))
  have hoL : (h'.push (seqObj "list" its.toArray 0)).get? h'.objs.size = some (seqObj "list" its.toArray 0) := Heap.get?_push_size _ rfl
  show wpAny _ _ _ _ _ { s with heap := h'.push (seqObj "list" its.toArray 0) }
  refine wpAny_bind (wpAny_holding (wpAny_call_entry PyProof.Rows.slot_list_sort ⟨_, hoL, rfl⟩ PyProof.Rows.entry_list_sort
    (list_sort_treeK strKind_oneLt (s := { s with heap := h'.push (seqObj "list" its.toArray 0) }) hoL hS.keysOf (fun v₁ v₂ rest e => keyKind_strs (by rw [← e]; exact hS)) (by rw [hal]; exact h64) fun st' hp hs => ⟨_, rfl, ?_⟩)
    (PyProof.Rows.args_list_sort _)))
  obtain ⟨ys, g1, g2, g3⟩ := sorted_out_str hS hp hs
  obtain ⟨e', he'⟩ := PyProof.Rows.sortedHeap_at (vs := its) (out := (arrOf st').map (·.2)) hoL
  have hlen : (ys.map V.str).length ≤ sizeLine := by
    rw [List.length_map, g2.length_eq]
    exact Nat.le_trans (Nat.le_of_lt h64) (by decide)
  refine wpAny_pure ⟨_, rfl, .ref h'.objs.size, upd H h'.objs.size (.lst (ys.map V.str)), I1.laid (t' := s.toks) (fun b u e => ?_) (Nat.le_refl _)
    (show ObjOk X.prog X.w _ _ _ (.lst (ys.map V.str)) from ⟨hlen, ((arrOf st').map (·.2)).toList, e', vals_of_strs g1, by rw [Array.toArray_toList]; exact he'⟩), rfl, q ys _ g2 g3 (I1.hok.fresh (Nat.le_refl _))⟩
  have hb : b < h'.objs.size := Heap.lt_size e
  rw [PyProof.Rows.sortedHeap_old (Nat.ne_of_lt hb) (by rw [size_push']; exact Nat.lt_succ_of_lt hb)]
  exact Heap.get?_push_of_some _ e
end Kb

set_option Elab.async false
set_option linter.all false
set_option maxRecDepth 100000
set_option maxHeartbeats 4000000
/-! Kb, 16: data whose tuples may be shared; a dict comprehension over a dict's keys, sorted. -/
namespace Kb
open PySem PySem.Spec PyProof.Rows L2

/-- no tuple stands in M -/
def NoTup (M : List Addr) (H : Hp) : Prop := ∀ x ∈ M, ∀ xs, H x ≠ some (.tup xs)
theorem NoTup.nil {H : Hp} : NoTup [] H := fun _ z => by cases z
theorem NoTup.cons {M : List Addr} {H : Hp} {a : Addr} {o : HO} (h : H a = some o) (n : ∀ xs, o ≠ .tup xs) (s : NoTup M H) : NoTup (a :: M) H := fun x m xs => by
  rcases List.mem_cons.mp m with z | z
  · rw [z, h]
    exact fun q => n xs (Option.some.inj q)
  · exact s x z xs
theorem NoTup.app {M M' : List Addr} {H : Hp} (a : NoTup M H) (b : NoTup M' H) : NoTup (M ++ M') H := fun x m => (List.mem_append.mp m).elim (a x) (b x)
theorem Std.app {M M' : List Addr} {H : Hp} (a : Std M H) (b : Std M' H) : Std (M ++ M') H := fun x m => (List.mem_append.mp m).elim (a x) (b x)
/-- what stands keeps on being no tuple -/
theorem NoTup.but {M : List Addr} {H H' : Hp} (t : NoTup M H) (s : Std M H) (b : But [] H H') : NoTup M H' := fun x m xs e => by
  cases q : H x with
  | none => exact s x m q
  | some o =>
    have := b.keep x o (by simp) q
    rw [this] at e
    exact t x m xs (by rw [q, e])
theorem StAt.notup {H : Hp} {a c : Addr} (S : StAt H a c) : NoTup [a, c] H := by
  obtain ⟨ne, ⟨p, n, h1⟩, ns, h2, h3⟩ := S
  exact NoTup.cons h1 (fun _ q => nomatch q) (NoTup.cons h2 (fun _ q => nomatch q) NoTup.nil)
/-- v is the data d; of what stood in H it has at most tuples -/
def NewT (H H' : Hp) (d : D) (v : V) : Prop := ∀ M, Std M H → NoTup M H → At M H' d v
def NewTL (H H' : Hp) (ds : List D) (xs : List V) : Prop := ∀ M, Std M H → NoTup M H → AtL M H' ds xs
def NewTP (H H' : Hp) (kds : List (Str × D)) (kvs : List (Key × V)) : Prop := ∀ M, Std M H → NoTup M H → AtP M H' kds kvs
section
variable {H H0 H1 H2 H' : Hp} {M : List Addr} {d : D} {v : V} {ds : List D} {xs : List V} {kds : List (Str × D)} {kvs : List (Key × V)}
theorem New.toT (n : New H H' d v) : NewT H H' d v := fun M s _ => n M s
theorem NewT.at_ (n : NewT H H' d v) : At [] H' d v := n [] Std.nil NoTup.nil
theorem NewT.mono (n : NewT H H1 d v) (s : Std M H) (t : NoTup M H) (b : But M H1 H2) : NewT H H2 d v := fun M' s' t' =>
  At.mono' (M := M' ++ M) (fun p o m e => ⟨fun z => m (List.mem_append.mpr (.inl z)), b.keep p o (fun z => m (List.mem_append.mpr (.inr z))) e⟩) d v (n (M' ++ M) (s'.app s) (t'.app t))
theorem NewTL.mono (n : NewTL H H1 ds xs) (s : Std M H) (t : NoTup M H) (b : But M H1 H2) : NewTL H H2 ds xs := fun M' s' t' =>
  AtL.mono' (M := M' ++ M) (fun p o m e => ⟨fun z => m (List.mem_append.mpr (.inl z)), b.keep p o (fun z => m (List.mem_append.mpr (.inr z))) e⟩) ds xs (n (M' ++ M) (s'.app s) (t'.app t))
theorem NewTP.mono (n : NewTP H H1 kds kvs) (s : Std M H) (t : NoTup M H) (b : But M H1 H2) : NewTP H H2 kds kvs := fun M' s' t' =>
  AtP.mono' (M := M' ++ M) (fun p o m e => ⟨fun z => m (List.mem_append.mpr (.inl z)), b.keep p o (fun z => m (List.mem_append.mpr (.inr z))) e⟩) kds kvs (n (M' ++ M) (s'.app s) (t'.app t))
theorem NewT.pre (b : But [] H0 H) (n : NewT H H' d v) : NewT H0 H' d v := fun M s t => n M (s.but b) (t.but s b)
theorem NewTL.pre (b : But [] H0 H) (n : NewTL H H' ds xs) : NewTL H0 H' ds xs := fun M s t => n M (s.but b) (t.but s b)
theorem NewTP.pre (b : But [] H0 H) (n : NewTP H H' kds kvs) : NewTP H0 H' kds kvs := fun M s t => n M (s.but b) (t.but s b)
theorem NewTP.snoc {k : Str} (n : NewTP H H' kds kvs) (h : NewT H H' d v) : NewTP H H' (kds ++ [(k, d)]) (kvs ++ [(Sum.inr k, v)]) := fun M s t => AtP.snoc (n M s t) (h M s t)
theorem NewTL.snoc (n : NewTL H H' ds xs) (h : NewT H H' d v) : NewTL H H' (ds ++ [d]) (xs ++ [v]) := fun M s t => AtL.snoc (n M s t) (h M s t)
/-- a dict, a list laid at p -/
theorem NewT.dctm {p : Addr} (n : NewTP H0 H' kds kvs) (b : But [] H H0) (hp : H p = none) (h : H' p = some (.dK kvs)) : NewT H H' (.dct kds) (.ref p) := fun M s t =>
  ⟨p, kvs, rfl, fun m => s p m hp, h, n M (s.but b) (t.but s b)⟩
theorem NewT.lstm {p : Addr} (n : NewTL H0 H' ds xs) (b : But [] H H0) (hp : H p = none) (h : H' p = some (.lst xs)) : NewT H H' (.lst ds) (.ref p) := fun M s t =>
  ⟨p, xs, rfl, fun m => s p m hp, h, n M (s.but b) (t.but s b)⟩
theorem NewT.tupm {p : Addr} (n : NewTL H0 H' ds xs) (b : But [] H H0) (hp : H p = none) (h : H' p = some (.tup xs)) : NewT H H' (.tup ds) (.ref p) := fun M s t =>
  ⟨p, xs, rfl, fun m => s p m hp, h, n M (s.but b) (t.but s b)⟩
end
/-- texts hold everywhere -/
theorem AtL.strs {M : List Addr} {H : Hp} : ∀ {ws : List Str}, AtL M H (ws.map D.str) (ws.map V.str)
  | [] => rfl
  | w :: ws => ⟨_, _, rfl, rfl, AtL.strs⟩
theorem strs_map : ∀ {ds : List D}, ds.all D.isStr = true → (strsOf ds).map D.str = ds
  | [], _ => rfl
  | d :: ds, h => by
    rw [List.all_cons] at h
    obtain ⟨a, b⟩ := Bool.and_eq_true_iff.mp h
    cases d with
    | str z =>
      show D.str z :: (strsOf ds).map D.str = _
      rw [strs_map b]
    | _ => cases a
/-- a dict that was locked is as it was -/
theorem unlock_but {H H' : Hp} {p : Addr} {u w : HO} (h : H p = some u) (b : But [] (upd H p w) H') : But [] H (upd H' p u) := by
  refine ⟨fun a o m e => ?_, fun a n => ?_⟩
  · by_cases z : a = p
    · rw [z, upd_same, ← e, z, h]
    · rw [upd_ne z]
      exact b.keep a o m (by rw [upd_ne z]; exact e)
  · by_cases z : a = p
    · rw [z, upd_same]
      exact fun q => nomatch q
    · rw [upd_ne z]
      exact b.stand a (by rw [upd_ne z]; exact n)
/-- but for p, a locked heap is the heap -/
theorem lock_but {H : Hp} {p : Addr} {u w : HO} (h : H p = some u) : But [p] H (upd H p w) := by
  refine ⟨fun a o m e => ?_, fun a n => ?_⟩
  · rw [upd_ne (fun z => m (by rw [z]; simp))]
    exact e
  · by_cases z : a = p
    · rw [z, upd_same]
      exact fun q => nomatch q
    · rw [upd_ne z]
      exact n
theorem wipe_one {σ : L2.St} {j : Nat} {x : Option V} : wipe ((wipe σ [j]).set j x) [j] = wipe σ [j] := by
  show ((σ.set j none).set j x).set j none = σ.set j none
  rw [List.set_set, List.set_set]
theorem wipe_get {σ : L2.St} {j : Nat} {x : V} (h : j < σ.length) : ((wipe σ [j]).set j (some x))[j]? = some (some x) := by
  show ((σ.set j none).set j (some x))[j]? = _
  rw [List.getElem?_set_self (by rw [List.length_set]; exact h)]
theorem wipe_get_ne {σ : L2.St} {i j : Nat} {x : V} (h : i ≠ j) : ((wipe σ [j]).set j (some x))[i]? = σ[i]? := by
  show ((σ.set j none).set j (some x))[i]? = _
  rw [List.getElem?_set_ne (Ne.symm h), List.getElem?_set_ne (Ne.symm h)]
/-- {k: f(k) for k in sorted(d)} -/
theorem dc_sorted {K : PySem.W.Frag} {σ : L2.St} {p : Addr} {j : Nat} {kds : List (Str × D)} {kvs : List (Key × V)} {H : Hp} {Q : VK} {tv : TE} (hσ : σ[0]? = some (some (.ref p))) (hj : j < σ.length)
    (hp : H p = some (.dK kvs)) (hl : AtP [] H kds kvs) (nd : (keysD kds).Nodup) (h64 : kds.length < 64) (R : Str → D → Prop)
    (step : ∀ k ∈ keysD kds, ∀ (H2 : Hp) (Q2 : VK), But [] H H2 → (∀ e v H3, R k e → NewT H2 H3 e v → But [] H2 H3 → Q2 v H3) → tv ((wipe σ [j]).set j (some (.str k))) H2 Q2)
    (k : ∀ (out : List (Str × D)) (q : Addr) (H' : Hp), (keysD out).Perm (keysD kds) → sortedS (keysD out) = true → (∀ x ∈ out, R x.1 x.2) → NewT H H' (.dct out) (.ref q) → But [] H H' → Q (.ref q) H') :
    tDc (iList K (tCB rSortD (tCons (tVar 0) tNil))) (gName j) tYes (tVar j) tv [j] σ H Q := by
  have hk : kvs.map (·.1) = (keysD kds).map Sum.inr := by rw [hl.keys, keysD, List.map_map]; rfl
  refine ⟨_, hσ, p, kvs, keysD kds, rfl, .inl hp, hk, by rw [keysD, List.length_map]; exact h64, fun ys q hperm hsort hq => ?_⟩
  refine ⟨q, rfl, ⟨_, SqL.of upd_same⟩, fun Dd hD => ?_⟩
  have hlen : ys.length < 64 := by rw [hperm.length_eq, keysD, List.length_map]; exact h64
  have ynd : ys.Nodup := hperm.nodup_iff.mpr nd
  have hq1 : (upd H q (.lst (ys.map V.str))) q = some (.lst (ys.map V.str)) := upd_same
  have B1 : But [] H (upd H q (.lst (ys.map V.str))) := But.new hq
  generalize upd H q (.lst (ys.map V.str)) = H1 at hD hq1 B1 ⊢
  have B2 : But [] H1 (upd H1 Dd (.dK [])) := But.new hD
  have hD2 : (upd H1 Dd (.dK [])) Dd = some (.dK []) := upd_same
  have hq2 := B2.keep _ _ (by simp) hq1
  have qD : q ≠ Dd := fun z => by rw [← z, hq1] at hD; cases hD
  have std2 : Std [Dd] (upd H1 Dd (.dK [])) := Std.cons hD2 Std.nil
  have nt2 : NoTup [Dd] (upd H1 Dd (.dK [])) := NoTup.cons hD2 (fun _ z => nomatch z) NoTup.nil
  have B02 := B1.trans B2
  refine dc_it (J := Itl K q) walk_list (fun i H' => ∃ (out : List (Str × D)) (kvs' : List (Key × V)), keysD out = ys.take i ∧ (∀ x ∈ out, R x.1 x.2) ∧ H' Dd = some (.dK kvs') ∧
      kvs'.map (·.1) = out.map (fun x => (Sum.inr x.1 : Key)) ∧ NewTP (upd H1 Dd (.dK [])) H' out kvs' ∧ But [Dd] (upd H1 Dd (.dK [])) H')
    ⟨[], [], rfl, by simp, hD2, rfl, fun _ _ _ => rfl, But.refl⟩ (fun i H' _ ⟨_, _, _, _, _, _, _, B⟩ => SqL.of (B.keep _ _ (by simpa using qD) hq2)) ?_ ?_
  · rintro i x H3 H4 hi ⟨out, kvs', o1, o2, o3, o4, o5, B3⟩ ⟨rfl, hx⟩
    rw [List.getElem?_map] at hx
    obtain ⟨n, hn, rfl⟩ := Option.map_eq_some_iff.mp hx
    have nm : n ∈ keysD kds := hperm.mem_iff.mp (List.mem_of_getElem? hn)
    have B03 : But [] H H4 := by
      refine ⟨fun a o _ e => ?_, fun a e => B3.stand a (B02.stand a e)⟩
      have e1 := B1.keep a o (by simp) e
      have aD : a ≠ Dd := fun z => by rw [z, hD] at e1; cases e1
      exact B3.keep a o (by simpa using aD) (B2.keep a o (by simp) e1)
    refine ⟨wipe_one, ?_⟩
    refine ⟨_, wipe_get hj, step n nm H4 _ B03 fun e v H5 re nv B5 => ?_⟩
    have hno : (Sum.inr n : Key) ∉ kvs'.map (·.1) := keys_inr o4 fun m => by
      rw [show out.map (·.1) = ys.take i from o1] at m
      have : (ys.take (i + 1)).Nodup := ynd.sublist (List.take_sublist ..)
      rw [List.take_add_one, hn] at this
      exact (List.nodup_append.mp this).2.2 n m n (List.mem_singleton.mpr rfl) rfl
    have hl' : kvs'.length < 64 := by
      rw [keys_len o4]
      have e2 := congrArg List.length o1
      rw [keysD, List.length_map, List.length_take] at e2
      omega
    have e1 : putK kvs' (Sum.inr n : Key) v = kvs' ++ [(Sum.inr n, v)] := putK_new _ (valV_none hno)
    have B34 : But [Dd] (upd H1 Dd (.dK [])) H5 := B3.trans B5.nil
    refine ⟨kvs', Sum.inr n, rfl, B5.keep _ _ (by simp) o3, small1000 (by omega), out ++ [(n, e)], kvs' ++ [(Sum.inr n, v)], ?_, ?_, by rw [upd_same, e1], ?_, ?_, B34.upd (.inl (by simp))⟩
    · rw [keysD, List.map_append, show out.map (·.1) = ys.take i from o1, List.take_add_one, hn]
      rfl
    · intro y m
      rcases List.mem_append.mp m with m | m
      · exact o2 y m
      · rw [List.mem_singleton.mp m]
        exact re
    · rw [List.map_append, List.map_append, o4]
      rfl
    · have nv' : NewT (upd H1 Dd (.dK [])) H5 e v := fun M s t => by
        refine At.mono' (M := M ++ [Dd]) (fun p o m e => ⟨fun z => m (List.mem_append.mpr (.inl z)), e⟩) e v (nv (M ++ [Dd]) ?_ ?_)
        · exact (Std.but s B3).app (Std.cons o3 Std.nil)
        · intro y m zs z
          rcases List.mem_append.mp m with m | m
          · by_cases yd : y = Dd
            · rw [yd, o3] at z
              cases z
            · cases q5 : (upd H1 Dd (.dK [])) y with
              | none => exact s y m q5
              | some o =>
                have := B3.keep y o (by simpa using yd) q5
                rw [this] at z
                exact t y m zs (by rw [q5, z])
          · rw [List.mem_singleton.mp m, o3] at z
            cases z
      refine NewTP.mono (M := [Dd]) ((o5.mono Std.nil NoTup.nil B5).snoc nv') std2 nt2 (But.refl.upd (.inl (by simp)))
  · rintro H3 ⟨out, kvs', o1, o2, o3, o4, o5, B3⟩
    rw [List.length_map, List.take_length] at o1
    have hD0 : H Dd = none := B1.free hD
    have B03 : But [] H H3 := by
      refine ⟨fun a o _ e => ?_, fun a e => B3.stand a (B02.stand a e)⟩
      have aD : a ≠ Dd := fun z => by rw [z, hD0] at e; cases e
      exact B3.keep a o (by simpa using aD) (B02.keep a o (by simp) e)
    exact k out Dd H3 (by rw [o1]; exact hperm) (by rw [o1]; exact hsort) o2 (NewT.dctm o5 B02 hD0 o3) B03
end Kb

set_option Elab.async false
set_option linter.all false
set_option maxRecDepth 100000
set_option maxHeartbeats 4000000
/-! Kb, 17: copied_links, copied_own, of good parts. -/
namespace Kb
open PySem PySem.Spec PyProof.Rows L2

def D.isDct : D → Bool
  | .dct _ => true
  | _ => false
theorem kit_dct {K : PySem.W.Frag} {d : D} : PySem.W.kitOne K (.type d.ty) (.type "dict") = some d.isDct := by
  cases d with
  | non => exact kit_ty (show kitB "NoneType" "dict" = some false by decide +kernel)
  | bl _ => exact kit_ty (show kitB "bool" "dict" = some false by decide +kernel)
  | int _ => exact kit_ty (show kitB "int" "dict" = some false by decide +kernel)
  | str _ => exact kit_ty (show kitB "str" "dict" = some false by decide +kernel)
  | tup _ => exact kit_ty (show kitB "tuple" "dict" = some false by decide +kernel)
  | lst _ => exact kit_ty (show kitB "list" "dict" = some false by decide +kernel)
  | dct _ => exact kit_ty (show kitB "dict" "dict" = some true by decide +kernel)
theorem fine_name {k : Str} (h : nameB k = true) : (D.str k).fine = true := by
  have n := nameB_iff.mp h
  show decide _ = true
  refine decide_eq_true ?_
  rw [len_cs]
  have := n.hi
  show (cs k).length ≤ _
  omega
/-- a dict of data walked with its items: nothing but new pairs -/
theorem for_items {K : PySem.W.Frag} {σ : L2.St} {p : Addr} {a i j : Nat} {kds : List (Str × D)} {kvs : List (Key × V)} {H : Hp} {D : Ends} {tb : TS} (hσ : σ[a]? = some (some (.ref p))) (hp : H p = some (.dK kvs)) (hl : AtP [p] H kds kvs)
    (S : L2.St → Prop) (hS : S σ)
    (step : ∀ k e v σ1 H1 (D1 : Ends), (k, e) ∈ kds → S σ1 → At [] H1 e v → (∀ d x, At [p] H d x → At [] H1 d x) → (∀ σ2 H2, S σ2 → But [] H1 H2 → D1.nx σ2 H2) → tb D1 ((σ1.set i (some (.str k))).set j (some v)) H1)
    (k : ∀ σ2 H2, S σ2 → But [] H H2 → D.nx σ2 H2) :
    tLock (tFor (iItems (tVar a)) (gTup K 2 (gCons (gName i) (gCons (gName j) gNil))) tb) D σ H := by
  refine ⟨p, .dK kvs, hp, trivial, fun od => ?_⟩
  have hl' : AtP [p] (upd H p (.frz od (.dK kvs))) kds kvs := hl.mono (lock_but hp)
  have hpl : upd H p (.frz od (.dK kvs)) p = some (.frz od (.dK kvs)) := upd_same
  refine ⟨_, hσ, p, od, kvs, rfl, hpl, for_it walk_items (fun n σ' H' => S σ' ∧ But [] (upd H p (.frz od (.dK kvs))) H') ⟨hS, But.refl⟩ (fun n σ' H' _ q => q.2.keep _ _ (by simp) hpl) ?_ ?_⟩
  · rintro n x σ1 H1 H2 hn ⟨s1, B⟩ ⟨T, y, z, rfl, hT, rfl, hy, hz⟩
    dsimp only at hy hz
    cases e : kvs[n]? with
    | none =>
      rw [e] at hy
      cases hy
    | some kv =>
      obtain ⟨k0, v0⟩ := kv
      rw [e] at hy hz
      cases hy
      cases hz
      obtain ⟨nm, d, q1, q2, q3⟩ := hl'.get e
      subst q2
      have B2 : But [] H1 (upd H1 T (.tup [kV (Sum.inr nm), v0])) := But.new hT
      refine ⟨T, _, rfl, SqT.of upd_same, rfl, _, _, rfl, _, _, rfl, rfl, ?_⟩
      refine step nm d v0 σ1 _ _ (List.mem_of_getElem? q1) s1 (((q3.less (M' := []) (by simp)).mono B).mono B2) (fun d' x' h => (((h.mono (lock_but hp)).less (M' := []) (by simp)).mono B).mono B2) (fun σ2 H2 s2 b2 => ⟨s2, (B.trans B2).trans b2⟩)
  · rintro σ1 H1 ⟨s1, B⟩
    exact ⟨B.keep _ _ (by simp) hpl, k _ _ s1 (unlock_but hp B)⟩

structure LinksGood (kds : List (Str × D)) : Prop where
  len : kds.length ≤ 2
  nd : (keysD kds).Nodup
  ok : ∀ x ∈ kds, nameB x.1 = true ∧ isChoiceD x.2 = true ∧ x.2.fine = true
/-- sorted choices of a given datum -/
def ChoOf (d e : D) : Prop := ∃ ys : List Str, e = nmD ys ∧ ys.Perm (strsOf d.items) ∧ sortedS ys = true
structure DictOut (R : D → D → Prop) (kds out : List (Str × D)) : Prop where
  perm : (keysD out).Perm (keysD kds)
  so : sortedS (keysD out) = true
  ok : ∀ x ∈ out, ∃ d, kds.lookup x.1 = some d ∧ R d x.2
def sp_copied_links (K : PySem.W.Frag) : Sp := fun vs H Q _ => ∃ (kds : List (Str × D)) (x : V), vs = [x] ∧ At [] H (.dct kds) x ∧ LinksGood kds ∧
  ∀ out p H', DictOut ChoOf kds out → NewT H H' (.dct out) (.ref p) → But [] H H' → Q (.ref p) H'
theorem len_copied_links {K : PySem.W.Frag} {vs : List V} {H : Hp} {Q : VK} {E : XK} (h : sp_copied_links K vs H Q E) : vs.length = 1 := by
  obtain ⟨_, _, rfl, _⟩ := h
  rfl
def t_copied_links (K : PySem.W.Frag) : TS :=
  (tSeq (tIfS (tOr (tNot (tB (tCB (rIsi K) (tCons (tVar 0) (tCons (tC (.ty "dict")) tNil))))) (tTest (tOp rGtI (tCB rLenD (tCons (tVar 0) tNil)) (tC (.int 2)))))
    tNever
    tNext)
  (tSeq (tLock (tFor (iItems (tVar 0)) (gTup K 2 (gCons (gName 1) (gCons (gName 2) gNil)))
    (tIfS (tOr (tNot (tB (tCall (sp_is_name K) [] E0 (tCons (tVar 1) tNil)))) (tNot (tB (tCall (sp_is_choice_list K) [] E0 (tCons (tVar 2) tNil)))))
    tNever
    tNext)))
  (tRet (tDc (iList K (tCB rSortD (tCons (tVar 0) tNil))) (gName 1) tYes (tVar 1) (tCB (rTupOf K) (tCons (tCB (rSortedA K) (tCons (tDGet (tVar 0) (tVar 1)) tNil)) tNil)) [1]))))
theorem lookup_mem : ∀ {kds : List (Str × D)} {n : Str} {d : D}, kds.lookup n = some d → (n, d) ∈ kds
  | [], _, _, h => by cases h
  | (k, e) :: r, n, d, h => by
    rw [List.lookup_cons] at h
    by_cases z : n = k
    · rw [beq_iff_eq.mpr z] at h
      cases h
      rw [z]
      exact List.mem_cons_self
    · rw [beq_eq_false_iff_ne.mpr z] at h
      exact List.mem_cons_of_mem _ (lookup_mem h)
theorem choice_strs {M : List Addr} {H : Hp} {d : D} {xs : List V} (h : isChoiceD d = true) (hl : AtL M H d.items xs) : d.isSeq = true ∧ xs = (strsOf d.items).map V.str ∧ (strsOf d.items).length ≤ 4 ∧ (strsOf d.items).Nodup ∧ strsOf d.items ≠ [] := by
  unfold isChoiceD at h
  obtain ⟨h1, h⟩ := Bool.and_eq_true_iff.mp h
  obtain ⟨h2, h⟩ := Bool.and_eq_true_iff.mp h
  obtain ⟨h3, h⟩ := Bool.and_eq_true_iff.mp h
  obtain ⟨h4, h5⟩ := Bool.and_eq_true_iff.mp h
  obtain ⟨e1, e2⟩ := strs_at hl (all_mono h4 fun _ => ne_isStr)
  have a := of_decide_eq_true h2
  have b := of_decide_eq_true h3
  exact ⟨h1, e1, by omega, of_decide_eq_true h5, fun z => by rw [z] at e2; simp at e2; omega⟩
theorem pure_copied_links {K : PySem.W.Frag} (vs : List V) (H : Hp) (Q : VK) (E : XK) (h : sp_copied_links K vs H Q E) : t_copied_links K (fin Q) (st0 3 vs) H := by
  obtain ⟨kds, x, rfl, hx, g, k⟩ := h
  obtain ⟨p, kvs, rfl, hp, hl⟩ := hx.dct
  have hlen := hl.length
  have g1 := g.len
  refine ⟨_, rfl, .ref p, _, _, _, true, rfl, .ty _, hx.ty, kit_dct, _, rfl, ?_⟩
  refine iteF ⟨_, rfl, p, kvs, rfl, hp, _, _, rfl, rfl, _, rfl, ?_⟩
  refine ite2 (fun z => absurd (of_decide_eq_true z) (by omega)) fun _ => ?_
  refine for_items (K := K) (kds := kds) rfl hp hl (fun σ => ∃ v1 v2, σ = [some (.ref p), v1, v2]) ⟨_, _, rfl⟩ ?_ ?_
  · rintro n e v σ1 H1 D1 hm ⟨v1, v2, rfl⟩ he - nx
    obtain ⟨o1, o2, o3⟩ := g.ok _ hm
    refine ⟨_, rfl, .str n, .str n, rfl, rfl, fine_name o1, fun H2 b2 => ⟨_, rfl, ?_⟩⟩
    rw [show isNameD (.str n) = true from o1]
    refine iteF ⟨_, rfl, e, v, rfl, he.mono b2, o3, fun H3 b3 => ⟨_, rfl, ?_⟩⟩
    rw [o2]
    exact iteF (nx _ _ ⟨_, _, rfl⟩ (b2.trans b3))
  · rintro σ2 H2 ⟨v1, v2, rfl⟩ B
    have hp2 := B.keep _ _ (by simp) hp
    have hl2 : AtP [] H2 kds kvs := (hl.less (M' := []) (by simp)).mono B
    refine dc_sorted (K := K) (kds := kds) rfl (by show 1 < 3; omega) hp2 hl2 g.nd (by omega) (fun n e => ∃ d, kds.lookup n = some d ∧ ChoOf d e) ?_ ?_
    · intro n hn H3 Q2 B3 q
      obtain ⟨d, v, e1, e2, e3⟩ := (hl2.mono B3).val hn
      obtain ⟨o1, o2, o3⟩ := g.ok _ (lookup_mem e1)
      have hs : d.isSeq = true := (Bool.and_eq_true_iff.mp (show (d.isSeq && _) = true from o2)).1
      obtain ⟨r, xs, rfl, hq, hr⟩ := e3.seq (K := K) hs
      obtain ⟨_, rfl, c2, c3, c4⟩ := choice_strs o2 hr
      refine ⟨_, rfl, _, rfl, p, _, rfl, .inl ⟨kvs, .inr n, .inl (B3.keep _ _ (by simp) hp2), rfl, e2.symm⟩, r, _, rfl, hq, by omega, fun ys q2 hperm hsort hq2 => ?_⟩
      refine ⟨q2, _, rfl, .inl ⟨SqL.of upd_same, fun l hl => ?_⟩⟩
      refine q (nmD ys) (.ref l) _ ⟨d, e1, ys, rfl, hperm, hsort⟩ (New.strs ((But.new (M := []) hq2).free hl) upd_same).toT ((But.new hq2).upd' hl)
    · intro out q H' o1 o2 o3 o4 o5
      exact k out q H' ⟨o1, o2, o3⟩ (o4.pre B) (B.trans o5)
end Kb

set_option Elab.async false
set_option linter.all false
set_option maxRecDepth 100000
set_option maxHeartbeats 4000000
/-! Kb, 18: copied_own, copied_rules, of good parts. -/
namespace Kb
open PySem PySem.Spec PyProof.Rows L2

def D.isFlat : D → Bool
  | .tup _ => false
  | .lst _ => false
  | .dct _ => false
  | _ => true
theorem At.flat {M M' : List Addr} {H H' : Hp} : ∀ {d : D} {v : V}, d.isFlat = true → At M H d v → At M' H' d v
  | .non, _, _, h => h
  | .bl _, _, _, h => h
  | .int _, _, _, h => h
  | .str _, _, _, h => h
theorem AtL.flat {M M' : List Addr} {H H' : Hp} : ∀ {ds : List D} {xs : List V}, ds.all D.isFlat = true → AtL M H ds xs → AtL M' H' ds xs
  | [], _, _, h => h
  | d :: ds, _, f, h => by
    obtain ⟨x, r, rfl, h1, h2⟩ := h
    rw [List.all_cons] at f
    obtain ⟨f1, f2⟩ := Bool.and_eq_true_iff.mp f
    exact ⟨x, r, rfl, At.flat f1 h1, AtL.flat f2 h2⟩
theorem str_flat {d : D} (h : d.isStr = true) : d.isFlat = true := by cases d <;> first | rfl | cases h
/-- tuple(x), x a list or a tuple of flat data -/
theorem tuple_of {K : PySem.W.Frag} {H : Hp} {d : D} {v : V} {Q : VK} (h : At [] H d v) (hs : d.isSeq = true) (hf : d.items.all D.isFlat = true)
    (k : ∀ w H', NewT H H' (.tup d.items) w → But [] H H' → Q w H') : rTupOf K [v] H Q := by
  cases d with
  | tup ds =>
    obtain ⟨p, xs, rfl, _, hp, hl⟩ := h
    exact ⟨p, xs, rfl, .inr ⟨SqT.of hp, k _ H (fun M s t => ⟨p, xs, rfl, fun m => t p m xs hp, hp, AtL.flat hf hl⟩) But.refl⟩⟩
  | lst ds =>
    obtain ⟨p, xs, rfl, _, hp, hl⟩ := h
    exact ⟨p, xs, rfl, .inl ⟨SqL.of hp, fun l hn => k _ _ (NewT.tupm (H0 := H) (fun M s t => AtL.flat hf hl) But.refl hn upd_same) (But.new hn)⟩⟩
  | _ => cases hs

/-! ### copied_own -/
structure OwnGood (kds lks : List (Str × D)) : Prop where
  len : kds.length ≤ 5
  nd : (keysD kds).Nodup
  ok : ∀ x ∈ kds, nameB x.1 = true ∧ isOwnD x.2 lks = true ∧ x.2.fine = true
def TupOf (d e : D) : Prop := e = .tup d.items
def sp_copied_own (K : PySem.W.Frag) : Sp := fun vs H Q _ => ∃ (kds lks : List (Str × D)) (x y : V), vs = [x, y] ∧ At [] H (.dct kds) x ∧ At [] H (.dct lks) y ∧ (∀ p, x = .ref p → At [p] H (.dct lks) y) ∧ OwnGood kds lks ∧
  ∀ out p H', DictOut TupOf kds out → NewT H H' (.dct out) (.ref p) → But [] H H' → Q (.ref p) H'
theorem len_copied_own {K : PySem.W.Frag} {vs : List V} {H : Hp} {Q : VK} {E : XK} (h : sp_copied_own K vs H Q E) : vs.length = 2 := by
  obtain ⟨_, _, _, _, rfl, _⟩ := h
  rfl
def t_copied_own (K : PySem.W.Frag) : TS :=
  (tSeq (tIfS (tOr (tNot (tB (tCB (rIsi K) (tCons (tVar 0) (tCons (tC (.ty "dict")) tNil))))) (tTest (tOp rGtI (tCB rLenD (tCons (tVar 0) tNil)) (tC (.int 5)))))
    tNever
    tNext)
  (tSeq (tLock (tFor (iItems (tVar 0)) (gTup K 2 (gCons (gName 2) (gCons (gName 3) gNil)))
    (tIfS (tOr (tNot (tB (tCall (sp_is_name K) [] E0 (tCons (tVar 2) tNil)))) (tNot (tB (tCall (sp_is_own_answer K) [] E0 (tCons (tVar 3) (tCons (tVar 1) tNil))))))
    tNever
    tNext)))
  (tRet (tDc (iList K (tCB rSortD (tCons (tVar 0) tNil))) (gName 2) tYes (tVar 2) (tCB (rTupOf K) (tCons (tDGet (tVar 0) (tVar 2)) tNil)) [2]))))
theorem own_flat {d : D} {lks : List (Str × D)} (h : isOwnD d lks = true) : d.isSeq = true ∧ d.items.all D.isFlat = true := by
  unfold isOwnD at h
  match e : d.items with
  | [] =>
    rw [e] at h
    cases h
  | [.str f] =>
    rw [e] at h
    exact ⟨(Bool.and_eq_true_iff.mp h).1, rfl⟩
  | [.str f, y] =>
    rw [e] at h
    obtain ⟨h1, h2⟩ := Bool.and_eq_true_iff.mp h
    obtain ⟨h2, h3⟩ := Bool.and_eq_true_iff.mp h2
    refine ⟨h1, ?_⟩
    show (true && (y.isFlat && true)) = true
    rw [Bool.true_and, Bool.and_true]
    split at h3
    · exact str_flat (name_isStr h3)
    · obtain ⟨h4, h5⟩ := Bool.and_eq_true_iff.mp h3
      cases y <;> first | rfl | cases h5
  | .non :: _ => rw [e] at h; cases h
  | .bl _ :: _ => rw [e] at h; cases h
  | .int _ :: _ => rw [e] at h; cases h
  | .tup _ :: _ => rw [e] at h; cases h
  | .lst _ :: _ => rw [e] at h; cases h
  | .dct _ :: _ => rw [e] at h; cases h
  | .str _ :: _ :: _ :: _ => rw [e] at h; cases h
theorem pure_copied_own {K : PySem.W.Frag} (vs : List V) (H : Hp) (Q : VK) (E : XK) (h : sp_copied_own K vs H Q E) : t_copied_own K (fin Q) (st0 4 vs) H := by
  obtain ⟨kds, lks, x, y, rfl, hx, hy, hxy, g, k⟩ := h
  obtain ⟨p, kvs, rfl, hp, hl⟩ := hx.dct
  have hyp := hxy p rfl
  have hlen := hl.length
  have g1 := g.len
  refine ⟨_, rfl, .ref p, _, _, _, true, rfl, .ty _, hx.ty, kit_dct, _, rfl, ?_⟩
  refine iteF ⟨_, rfl, p, kvs, rfl, hp, _, _, rfl, rfl, _, rfl, ?_⟩
  refine ite2 (fun z => absurd (of_decide_eq_true z) (by omega)) fun _ => ?_
  refine for_items (K := K) (kds := kds) rfl hp hl (fun σ => ∃ v1 v2, σ = [some (.ref p), some y, v1, v2]) ⟨_, _, rfl⟩ ?_ ?_
  · rintro n e v σ1 H1 D1 hm ⟨v1, v2, rfl⟩ he up nx
    obtain ⟨o1, o2, o3⟩ := g.ok _ hm
    refine ⟨_, rfl, .str n, .str n, rfl, rfl, fine_name o1, fun H2 b2 => ⟨_, rfl, ?_⟩⟩
    rw [show isNameD (.str n) = true from o1]
    refine iteF ⟨_, rfl, _, rfl, e, lks, v, y, rfl, he.mono b2, (up _ _ hyp).mono b2, o3, fun H3 b3 => ⟨_, rfl, ?_⟩⟩
    rw [o2]
    exact iteF (nx _ _ ⟨_, _, rfl⟩ (b2.trans b3))
  · rintro σ2 H2 ⟨v1, v2, rfl⟩ B
    have hp2 := B.keep _ _ (by simp) hp
    have hl2 : AtP [] H2 kds kvs := (hl.less (M' := []) (by simp)).mono B
    refine dc_sorted (K := K) (kds := kds) rfl (by show 2 < 4; omega) hp2 hl2 g.nd (by omega) (fun n e => ∃ d, kds.lookup n = some d ∧ TupOf d e) ?_ ?_
    · intro n hn H3 Q2 B3 q
      obtain ⟨d, v, e1, e2, e3⟩ := (hl2.mono B3).val hn
      obtain ⟨o1, o2, o3⟩ := g.ok _ (lookup_mem e1)
      obtain ⟨f1, f2⟩ := own_flat o2
      exact ⟨_, rfl, _, rfl, p, _, rfl, .inl ⟨kvs, .inr n, .inl (B3.keep _ _ (by simp) hp2), rfl, e2.symm⟩, tuple_of e3 f1 f2 fun w H4 nw b4 => q _ w H4 ⟨d, e1, rfl⟩ nw b4⟩
    · intro out q H' o1 o2 o3 o4 o5
      exact k out q H' ⟨o1, o2, o3⟩ (o4.pre B) (B.trans o5)

/-! ### copied_rules -/
/-- a rule as it is kept -/
def RuleOf (d e : D) : Prop := ∃ f ns rest ys, d.items = .str f :: ns :: rest ∧ e = .tup (.str f :: nmD ys :: rest) ∧ ys.Perm (strsOf ns.items) ∧ sortedS ys = true
inductive ListOut (R : D → D → Prop) : List D → List D → Prop where
  | nil : ListOut R [] []
  | snoc {ds es d e} : ListOut R ds es → R d e → ListOut R (ds ++ [d]) (es ++ [e])
theorem ListOut.length {R : D → D → Prop} {ds es : List D} (h : ListOut R ds es) : es.length = ds.length := by
  induction h with
  | nil => rfl
  | snoc _ _ ih => rw [List.length_append, List.length_append, ih]; rfl
def sp_copied_rules (K : PySem.W.Frag) : Sp := fun vs H Q _ => ∃ (d : D) (lks : List (Str × D)) (x y : V), vs = [x, y] ∧ At [] H d x ∧ At [] H (.dct lks) y ∧ d.isSeq = true ∧ d.items.length ≤ 300 ∧ d.fine = true ∧ d.items.all (isRuleD · lks) = true ∧
  ∀ out p H', ListOut RuleOf d.items out → NewT H H' (.lst out) (.ref p) → But [] H H' → Q (.ref p) H'
theorem len_copied_rules {K : PySem.W.Frag} {vs : List V} {H : Hp} {Q : VK} {E : XK} (h : sp_copied_rules K vs H Q E) : vs.length = 2 := by
  obtain ⟨_, _, _, _, rfl, _⟩ := h
  rfl
def t_copied_rules (K : PySem.W.Frag) : TS :=
  (tSeq (tIfS (tOr (tNot (tB (tCall (sp_is_list K) [] E0 (tCons (tVar 0) tNil)))) (tTest (tOp rGtI (tCB (rLenA K) (tCons (tVar 0) tNil)) (tC (.int 300)))))
    tNever
    tNext)
  (tSeq (tIfS (tNot (tB (tCB (rAll K) (tCons (tLc (iSeq K (tVar 0)) (gName 2) tYes (tCall (sp_is_rule K) [] E0 (tCons (tVar 2) (tCons (tVar 1) tNil))) [2]) tNil))))
    tNever
    tNext)
  (tRet (tLc (iSeq K (tVar 0)) (gName 2) tYes (tOp (rCatT K) (tTup (tCons (tOp (rIx K) (tVar 2) (tC (.int 0))) (tCons (tCB (rTupOf K) (tCons (tCB (rSortedA K) (tCons (tOp (rIx K) (tVar 2) (tC (.int 1))) tNil)) tNil)) tNil))) (tCB (rTupOf K) (tCons (tSl (fun x lo hi H Q => rSlL K x lo hi H Q ∨ rSlA K x lo hi H Q) (tVar 2) (tPart (tC (.int 2))) tNoPart) tNil))) [2]))))
theorem names_strs {M : List Addr} {H : Hp} {d : D} {xs : List V} (h : isNamesD d = true) (hl : AtL M H d.items xs) : d.isSeq = true ∧ xs = (strsOf d.items).map V.str ∧ (strsOf d.items).length ≤ 4 ∧ (strsOf d.items).Nodup := by
  unfold isNamesD at h
  obtain ⟨h1, h⟩ := Bool.and_eq_true_iff.mp h
  obtain ⟨h3, h⟩ := Bool.and_eq_true_iff.mp h
  obtain ⟨h4, h5⟩ := Bool.and_eq_true_iff.mp h
  obtain ⟨e1, e2⟩ := strs_at hl (all_mono h4 fun _ => name_isStr)
  have b := of_decide_eq_true h3
  exact ⟨h1, e1, by omega, of_decide_eq_true h5⟩
theorem flag_flat {d : D} (h : isFlagD d = true) : d.isFlat = true := by cases d <;> first | rfl | cases h
theorem link_flat {d : D} {l : List (Str × D)} (h : isLinkD d l = true) : d.isFlat = true := by cases d <;> first | rfl | cases h
theorem manner_flat {d : D} (h : isMannerD d = true) : d.isFlat = true := by cases d <;> first | rfl | cases h
theorem rest_flat {f : Str} {ds : List D} {lks : List (Str × D)} (h : isRestD f ds lks = true) : ds.all D.isFlat = true ∧ ds.length ≤ 4 := by
  unfold isRestD at h
  split at h
  · have := List.eq_nil_of_length_eq_zero (of_decide_eq_true h)
    subst this
    exact ⟨rfl, by simp⟩
  · split at h
    · match ds, h with
      | [v], h => exact ⟨by show (v.isFlat && true) = true; rw [str_flat (name_isStr h)]; rfl, by simp⟩
    · split at h
      · match ds, h with
        | [l, m], h =>
          obtain ⟨a, b⟩ := Bool.and_eq_true_iff.mp (show (isLinkD l lks && isMannerD m) = true from h)
          exact ⟨by show (l.isFlat && (m.isFlat && true)) = true; rw [link_flat a, manner_flat b]; rfl, by simp⟩
      · have h := (Bool.and_eq_true_iff.mp h).2
        match ds, h with
        | [l, u, m, w], h =>
          obtain ⟨a, b⟩ := Bool.and_eq_true_iff.mp (show (isLinkD l lks && (isNED u && (isMannerD m && isFlagD w))) = true from h)
          obtain ⟨b, c⟩ := Bool.and_eq_true_iff.mp b
          obtain ⟨c, d⟩ := Bool.and_eq_true_iff.mp c
          exact ⟨by show (l.isFlat && (u.isFlat && (m.isFlat && (w.isFlat && true)))) = true; rw [link_flat a, str_flat (ne_isStr b), manner_flat c, flag_flat d]; rfl, by simp⟩
theorem rule_parts {d : D} {lks : List (Str × D)} (h : isRuleD d lks = true) : ∃ f ns rest, d.items = .str f :: ns :: rest ∧ d.isSeq = true ∧ isNamesD ns = true ∧ rest.all D.isFlat = true ∧ rest.length ≤ 4 := by
  unfold isRuleD at h
  match e : d.items with
  | .str f :: ns :: rest =>
    rw [e] at h
    obtain ⟨h1, h2⟩ := Bool.and_eq_true_iff.mp h
    obtain ⟨h2, h3⟩ := Bool.and_eq_true_iff.mp h2
    exact ⟨f, ns, rest, rfl, h1, h2, rest_flat h3⟩
  | [] => rw [e] at h; cases h
  | [d0] => rw [e] at h; cases d0 <;> cases h
  | .non :: _ :: _ => rw [e] at h; cases h
  | .bl _ :: _ :: _ => rw [e] at h; cases h
  | .int _ :: _ :: _ => rw [e] at h; cases h
  | .tup _ :: _ :: _ => rw [e] at h; cases h
  | .lst _ :: _ :: _ => rw [e] at h; cases h
  | .dct _ :: _ :: _ => rw [e] at h; cases h
end Kb

set_option Elab.async false
set_option linter.all false
set_option maxRecDepth 100000
set_option maxHeartbeats 4000000
/-! Kb, 19: copied_rules keeps its promise. -/
namespace Kb
open PySem PySem.Spec PyProof.Rows L2

/-- one rule is copied -/
theorem copy_rule {K : PySem.W.Frag} {σ : L2.St} {d : D} {lks : List (Str × D)} {v : V} {H : Hp} {Q : VK} (hσ : σ[2]? = some (some v)) (hv : At [] H d v) (ok : isRuleD d lks = true)
    (k : ∀ e w H', RuleOf d e → NewT H H' e w → But [] H H' → Q w H') :
    tOp (rCatT K) (tTup (tCons (tOp (rIx K) (tVar 2) (tC (.int 0))) (tCons (tCB (rTupOf K) (tCons (tCB (rSortedA K) (tCons (tOp (rIx K) (tVar 2) (tC (.int 1))) tNil)) tNil)) tNil))) (tCB (rTupOf K) (tCons (tSl (fun x lo hi H Q => rSlL K x lo hi H Q ∨ rSlA K x lo hi H Q) (tVar 2) (tPart (tC (.int 2))) tNoPart) tNil)) σ H Q := by
  obtain ⟨f, ns, rest, hit, hs, hn, hf, hr4⟩ := rule_parts ok
  obtain ⟨p, xs, rfl, hq, hl⟩ := hv.seq (K := K) hs
  rw [hit] at hl
  obtain ⟨x0, _, rfl, h0, x1, r, rfl, h1, hr⟩ := hl
  obtain rfl : x0 = V.str f := h0
  have hns : ns.isSeq = true := (Bool.and_eq_true_iff.mp (show (ns.isSeq && _) = true from hn)).1
  obtain ⟨q, ys, rfl, hqn, hln⟩ := h1.seq (K := K) hns
  obtain ⟨_, rfl, l4, _⟩ := names_strs hn hln
  have rlen := hr.length
  refine ⟨_, hσ, hq.ixR (i := 0) rfl rfl ?_⟩
  refine ⟨_, hσ, hq.ixR (i := 1) rfl rfl ⟨q, _, rfl, hqn, by omega, fun zs q1 hperm hsort hq1 => ?_⟩⟩
  refine ⟨q1, _, rfl, .inl ⟨SqL.of upd_same, fun q2 hq2 => ?_⟩⟩
  have B2 : But [] H (upd (upd H q1 (.lst (zs.map V.str))) q2 (.tup (zs.map V.str))) := (But.new hq1).upd' hq2
  have hz : (upd (upd H q1 (.lst (zs.map V.str))) q2 (.tup (zs.map V.str))) q2 = some (.tup (zs.map V.str)) := upd_same
  have q20 : H q2 = none := (But.new (M := []) hq1).free hq2
  generalize upd (upd H q1 (.lst (zs.map V.str))) q2 (.tup (zs.map V.str)) = H2 at B2 hz ⊢
  refine ⟨by show 2 ≤ sizeLine; decide, fun q3 hq3 => ?_⟩
  have B3 : But [] H2 (upd H2 q3 (.tup [.str f, .ref q2])) := But.new hq3
  have h3 : (upd H2 q3 (.tup [.str f, .ref q2])) q3 = some (.tup [.str f, .ref q2]) := upd_same
  have q30 : H q3 = none := B2.free hq3
  generalize upd H2 q3 (.tup [.str f, .ref q2]) = H3 at B3 h3 ⊢
  have B03 := B2.trans B3
  refine ⟨_, hσ, 2, rfl, sl2 (hq.but B03) fun q4 H4 hq4 B4 => ?_⟩
  have B04 := B03.trans B4
  have names : ∀ H5, But [] H4 H5 → NewT H H5 (nmD zs) (.ref q2) := fun H5 b => (New.strs (ys := zs) q20 (b.keep _ _ (by simp) (B4.keep _ _ (by simp) (B3.keep _ _ (by simp) hz)))).toT
  -- what stands when the rest is a tuple at q5
  have fin_ : ∀ q5 H5, SqT K H5 q5 r → But [] H4 H5 → rCatT K (.ref q3) (.ref q5) H5 Q := fun q5 H5 h5 b5 => by
    have B05 := B04.trans b5
    have h35 : H5 q3 = some (.tup [.str f, .ref q2]) := b5.keep _ _ (by simp) (B4.keep _ _ (by simp) h3)
    refine ⟨q3, q5, [.str f, .ref q2], r, rfl, rfl, SqT.of h35, h5, by simp, Nat.le_trans (by simp; omega) (show 10 ≤ sizeLine by decide), fun z => ?_, fun _ l hl => ?_⟩
    · have hd : rest = [] := by
        cases rest with
        | nil => rfl
        | cons a b =>
          rw [z] at rlen
          cases rlen
      refine k (.tup (.str f :: nmD zs :: rest)) _ H5 ⟨f, ns, rest, zs, hit, rfl, hperm, hsort⟩ ?_ B05
      rw [hd]
      exact NewT.tupm (H0 := H) (fun M s t => ⟨_, _, rfl, rfl, _, _, rfl, names H5 b5 M s t, rfl⟩) But.refl q30 h35
    · have B06 : But [] H (upd H5 l (.tup (.str f :: .ref q2 :: r))) := B05.upd' hl
      refine k (.tup (.str f :: nmD zs :: rest)) _ _ ⟨f, ns, rest, zs, hit, rfl, hperm, hsort⟩ ?_ B06
      exact NewT.tupm (H0 := H) (fun M s t => ⟨_, _, rfl, rfl, _, _, rfl, names _ (b5.upd' hl) M s t, AtL.flat hf hr⟩) But.refl (B05.free hl) upd_same
  rcases hq4 with hq4 | hq4
  · exact ⟨q4, r, rfl, .inl ⟨hq4, fun l hl => fin_ l _ (SqT.of upd_same) (But.new hl)⟩⟩
  · exact ⟨q4, r, rfl, .inr ⟨hq4, fin_ q4 H4 hq4 But.refl⟩⟩
theorem take_snoc {α : Type} {l : List α} {i : Nat} {x : α} (h : l[i]? = some x) : l.take (i + 1) = l.take i ++ [x] := by
  rw [List.take_add_one, h]
  rfl
theorem pure_copied_rules {K : PySem.W.Frag} (vs : List V) (H : Hp) (Q : VK) (E : XK) (h : sp_copied_rules K vs H Q E) : t_copied_rules K (fin Q) (st0 3 vs) H := by
  obtain ⟨d, lks, x, y, rfl, hx, hy, hs, h300, hf, ok, k⟩ := h
  refine ⟨_, rfl, d, x, rfl, hx, hf, fun H1 b1 => ⟨_, rfl, ?_⟩⟩
  rw [hs]
  obtain ⟨p, xs, rfl, hq, hl⟩ := (hx.mono b1).seq (K := K) hs
  have hlen := hl.length
  obtain ⟨f1, f2⟩ := D.fine_items hf
  refine iteF ⟨_, rfl, _, xs.length, rfl, hq.lenV, _, _, rfl, rfl, _, rfl, ?_⟩
  refine ite2 (fun z => absurd (of_decide_eq_true z) (by omega)) fun _ => ?_
  have hy1 := hy.mono b1
  unfold tNext tSeq tIfS tNot tB
  dsimp only
  unfold tCB tCons
  refine lc_seq (K := K) (i := 0) (j := 2) (te := tCall (sp_is_rule K) [] E0 (tCons (tVar 2) (tCons (tVar 1) tNil))) (σ := [some (.ref p), some y, none]) (p := p) (xs := xs) rfl hq (fun n => V.bl (isRuleD (d.items.getD n .non) lks)) (by omega) ?_ ?_
  · intro n v H2 hv b2 Q' q
    obtain ⟨dy, hdy, hay⟩ := hl.get hv
    refine ⟨_, rfl, _, rfl, dy, lks, v, y, rfl, hay.mono b2, hy1.mono b2, fineL_get f2 hdy, fun H3 b3 => ?_⟩
    have e : d.items.getD n .non = dy := by rw [List.getD_eq_getElem?_getD, hdy]; rfl
    have := q H3 b3
    rw [e] at this
    exact this
  · intro Dl H2 hD hD2 b2
    have e : (List.range xs.length).map (fun n => V.bl (isRuleD (d.items.getD n .non) lks)) = (d.items.map fun z => isRuleD z lks).map V.bl := by
      rw [hlen]
      exact map_range (f := fun z => isRuleD z lks)
    rw [e] at hD2
    refine ⟨Dl, d.items.map fun z => isRuleD z lks, rfl, SqL.of hD2, _, rfl, ?_⟩
    rw [List.all_map]
    show (if (!(d.items.all fun z => isRuleD z lks)) = true then _ else _)
    rw [ok]
    refine iteF ?_
    have b02 := b1.trans b2
    have hl2 := hl.mono b2
    unfold tRet tLc
    refine rd_seq (i := 0) (σ := [some (.ref p), some y, none]) rfl (hq.but b2) fun J G w hG => ?_
    intro Dd hDd
    have hD3 : upd H2 Dd (.lst []) Dd = some (.lst []) := upd_same
    have B23 : But [] H2 (upd H2 Dd (.lst [])) := But.new hDd
    refine lc_it w (fun i H' => ∃ (out : List D) (ys : List V), H' Dd = some (.lst ys) ∧ ListOut RuleOf (d.items.take i) out ∧ NewTL (upd H2 Dd (.lst [])) H' out ys ∧ ys.length = i ∧ But [Dd] (upd H2 Dd (.lst [])) H')
      ⟨[], [], hD3, .nil, fun _ _ _ => rfl, rfl, But.refl⟩ (fun i H' _ ⟨_, _, _, _, _, _, B⟩ => hG H' ?_) ?_ ?_
    · refine ⟨fun a o _ e => ?_, fun a e => B.stand a (B23.stand a e)⟩
      have aD : a ≠ Dd := fun z => by rw [z, hDd] at e; cases e
      exact B.keep a o (by simpa using aD) (B23.keep a o (by simp) e)
    · rintro i v H3 H4 hi ⟨out, ys, o1, o2, o3, o4, B⟩ ⟨rfl, hv⟩
      obtain ⟨dy, hdy, hay⟩ := hl2.get hv
      have B24 : But [] H2 H4 := by
        refine ⟨fun a o _ e => ?_, fun a e => B.stand a (B23.stand a e)⟩
        have aD : a ≠ Dd := fun z => by rw [z, hDd] at e; cases e
        exact B.keep a o (by simpa using aD) (B23.keep a o (by simp) e)
      refine ⟨wipe_one, ?_⟩
      refine copy_rule (K := K) (lks := lks) (wipe_get (by show 2 < 3; omega)) (hay.mono B24) (List.all_eq_true.mp ok dy (List.mem_of_getElem? hdy)) fun e w H5 re nw b5 => ?_
      refine ⟨ys, b5.keep _ _ (by simp) o1, small1000 (by omega), out ++ [e], ys ++ [w], upd_same, ?_, ?_, by simp [o4], (B.trans b5.nil).upd (.inl (by simp))⟩
      · rw [take_snoc hdy]
        exact .snoc o2 re
      · have nw' : NewT (upd H2 Dd (.lst [])) H5 e w := fun M s t => by
          refine At.mono' (M := M ++ [Dd]) (fun p o m e => ⟨fun z => m (List.mem_append.mpr (.inl z)), e⟩) e w (nw (M ++ [Dd]) ?_ ?_)
          · exact (Std.but s B).app (Std.cons o1 Std.nil)
          · intro a m zs z
            rcases List.mem_append.mp m with m | m
            · by_cases yd : a = Dd
              · rw [yd, o1] at z
                cases z
              · cases q5 : (upd H2 Dd (.lst [])) a with
                | none => exact s a m q5
                | some o =>
                  have := B.keep a o (by simpa using yd) q5
                  rw [this] at z
                  exact t a m zs (by rw [q5, z])
            · rw [List.mem_singleton.mp m, o1] at z
              cases z
        exact NewTL.mono (M := [Dd]) ((o3.mono Std.nil NoTup.nil b5).snoc nw') (Std.cons hD3 Std.nil) (NoTup.cons hD3 (fun _ z => nomatch z) NoTup.nil) (But.refl.upd (.inl (by simp)))
    · rintro H3 ⟨out, ys, o1, o2, o3, o4, B⟩
      rw [hlen, List.take_length] at o2
      have B24 : But [] H2 H3 := by
        refine ⟨fun a o _ e => ?_, fun a e => B.stand a (B23.stand a e)⟩
        have aD : a ≠ Dd := fun z => by rw [z, hDd] at e; cases e
        exact B.keep a o (by simpa using aD) (B23.keep a o (by simp) e)
      exact k out Dd H3 o2 (NewT.lstm o3 (b02.trans B23) (b02.free hDd) o1) (b02.trans B24)
end Kb

set_option Elab.async false
set_option linter.all false
set_option maxRecDepth 100000
set_option maxHeartbeats 4000000
/-! Kb, 20: a Kind as an object: made of good parts. -/
namespace Kb
open PySem PySem.Spec PyProof.Rows L2

/-- the class Kind -/
abbrev KC (K : PySem.W.Frag) : Addr := He.ga K "Kind"
structure KindC (K : PySem.W.Frag) : Prop where
  cls : Cls K (KC K)
  n1 : NoAttr K (KC K) "kind_name"
  n2 : NoAttr K (KC K) "link_table"
  n3 : NoAttr K (KC K) "own_table"
  n4 : NoAttr K (KC K) "rule_list"
  n5 : NoAttr K (KC K) "is_hidden"
/-- the fields of a Kind -/
def kf (nm : Str) (l o r : V) (h : Bool) : List (Str × V) := [("kind_name", .str nm), ("link_table", l), ("own_table", o), ("rule_list", r), ("is_hidden", .bl h)]
/-- at a: the Kind with these parts, none of its objects in M -/
def KOb (K : PySem.W.Frag) (M : List Addr) (H : Hp) (a : Addr) (nm : Str) (L O : List (Str × D)) (R : List D) (h : Bool) : Prop :=
  ∃ (dx : Addr) (l o r : V), a ∉ M ∧ H a = some (.ins (KC K) dx (kf nm l o r h)) ∧ At M H (.dct L) l ∧ At M H (.dct O) o ∧ At M H (.lst R) r
theorem KOb.mono {K : PySem.W.Frag} {M : List Addr} {H H' : Hp} {a : Addr} {nm : Str} {L O : List (Str × D)} {R : List D} {h : Bool} (b : But M H H') (k : KOb K M H a nm L O R h) : KOb K M H' a nm L O R h := by
  obtain ⟨dx, l, o, r, m, e, h1, h2, h3⟩ := k
  exact ⟨dx, l, o, r, m, b.keep _ _ m e, h1.mono b, h2.mono b, h3.mono b⟩
theorem KOb.less {K : PySem.W.Frag} {M M' : List Addr} {H : Hp} {a : Addr} {nm : Str} {L O : List (Str × D)} {R : List D} {h : Bool} (s : ∀ x ∈ M', x ∈ M) (k : KOb K M H a nm L O R h) : KOb K M' H a nm L O R h := by
  obtain ⟨dx, l, o, r, m, e, h1, h2, h3⟩ := k
  exact ⟨dx, l, o, r, fun z => m (s a z), e, h1.less s, h2.less s, h3.less s⟩

theorem link_keys {d : D} {l l' : List (Str × D)} (h : (keysD l).Perm (keysD l')) : isLinkD d l = isLinkD d l' := by
  cases d with
  | str x => exact decide_eq_decide.mpr h.mem_iff
  | _ => rfl
theorem own_keys {d : D} {l l' : List (Str × D)} (h : (keysD l).Perm (keysD l')) : isOwnD d l = isOwnD d l' := by
  unfold isOwnD
  split
  · rfl
  · rw [link_keys h]
  · rfl
theorem rule_keys {d : D} {l l' : List (Str × D)} (h : (keysD l).Perm (keysD l')) : isRuleD d l = isRuleD d l' := by
  have g : ∀ ds, giveD ds l = giveD ds l' := fun ds => by
    unfold giveD
    split
    · rw [link_keys h]
    · rfl
  have s : ∀ ds, isSendD ds l = isSendD ds l' := fun ds => by
    unfold isSendD
    split
    · rw [link_keys h]
    · rfl
  have r : ∀ f ds, isRestD f ds l = isRestD f ds l' := fun f ds => by
    unfold isRestD
    rw [g, s]
  unfold isRuleD
  split
  · rw [r]
  · rfl

/-- the parts of a good kind, as they are given -/
structure Parts (nm : Str) (L O : List (Str × D)) (d : D) : Prop where
  name : nameB nm = true
  links : LinksGood L
  own : OwnGood O L
  seq : d.isSeq = true
  len : d.items.length ≤ 300
  fine : d.fine = true
  rules : d.items.all (isRuleD · L) = true
/-- the parts as a Kind keeps them -/
structure Kept (L O : List (Str × D)) (d : D) (L' O' : List (Str × D)) (R' : List D) : Prop where
  links : DictOut ChoOf L L'
  own : DictOut TupOf O O'
  rules : ListOut RuleOf d.items R'
def sp_Kind_init (K : PySem.W.Frag) : Sp := fun vs H Q _ => ∃ (a dx : Addr) (nm : Str) (L O : List (Str × D)) (d : D) (x y z : V) (h : Bool), vs = [.ref a, .str nm, x, y, z, .bl h] ∧ KindC K ∧ H a = some (.ins (KC K) dx []) ∧
  At [a] H (.dct L) x ∧ At [a] H (.dct O) y ∧ At [a] H d z ∧ Parts nm L O d ∧
  ∀ L' O' R' H', Kept L O d L' O' R' → (∀ M, Std M H → NoTup M H → a ∉ M → KOb K M H' a nm L' O' R' h) → But [a] H H' → Q .non H'
theorem len_Kind_init {K : PySem.W.Frag} {vs : List V} {H : Hp} {Q : VK} {E : XK} (h : sp_Kind_init K vs H Q E) : vs.length = 6 := by
  obtain ⟨_, _, _, _, _, _, _, _, _, _, rfl, _⟩ := h
  rfl
def t_Kind_init (K : PySem.W.Frag) : TS :=
  (tSeq (tIfS (tNot (tB (tCall (sp_is_name K) [] E0 (tCons (tVar 1) tNil))))
    tNever
    tNext)
  (tSeq (sFld K (tVar 0) (tVar 1) "kind_name")
  (tSeq (sFld K (tVar 0) (tCall (sp_copied_links K) [] E0 (tCons (tVar 2) tNil)) "link_table")
  (tSeq (sFld K (tVar 0) (tCall (sp_copied_own K) [] E0 (tCons (tVar 3) (tCons (tFld K (tVar 0) "link_table") tNil))) "own_table")
  (tSeq (sFld K (tVar 0) (tCall (sp_copied_rules K) [] E0 (tCons (tVar 4) (tCons (tFld K (tVar 0) "link_table") tNil))) "rule_list")
  (tSeq (tIfS (tNot (tB (tCall (sp_is_flag K) [] E0 (tCons (tVar 5) tNil))))
    tNever
    tNext)
  (sFld K (tVar 0) (tVar 5) "is_hidden")))))))
theorem pure_Kind_init {K : PySem.W.Frag} (vs : List V) (H : Hp) (Q : VK) (E : XK) (h : sp_Kind_init K vs H Q E) : t_Kind_init K (fin Q) (st0 6 vs) H := by
  obtain ⟨a, dx, nm, L, O, d, x, y, z, h, rfl, C, ha, hx, hy, hz, g, k⟩ := h
  have ins : ∀ fs fs', (HO.ins (KC K) dx fs) = .ins (KC K) dx fs' ↔ fs = fs' := fun _ _ => ⟨fun e => by cases e; rfl, fun e => by rw [e]⟩
  refine ⟨_, rfl, .str nm, .str nm, rfl, rfl, fine_name g.name, fun H1 b1 => ⟨_, rfl, ?_⟩⟩
  rw [show isNameD (.str nm) = true from g.name]
  refine iteF ?_
  have ha1 := b1.keep _ _ (by simp) ha
  have B1 : But [a] H H1 := b1.nil
  -- self.kind_name
  refine ⟨_, rfl, _, rfl, a, KC K, dx, [], rfl, ha1, C.cls, C.n1, by decide, ?_⟩
  have B2 : But [a] H (upd H1 a (.ins (KC K) dx (putF "kind_name" (.str nm) []))) := B1.upd (.inl (by simp))
  have ha2 : (upd H1 a (.ins (KC K) dx (putF "kind_name" (.str nm) []))) a = some (.ins (KC K) dx [("kind_name", .str nm)]) := upd_same
  generalize upd H1 a (.ins (KC K) dx (putF "kind_name" (.str nm) [])) = H2 at B2 ha2 ⊢
  -- self.link_table
  refine ⟨_, rfl, L, x, rfl, (hx.mono B2).less (M' := []) (by simp), g.links, fun L' pl H3 dl nl b3 => ?_⟩
  have ha3 := b3.keep _ _ (by simp) ha2
  refine ⟨_, rfl, a, KC K, dx, _, rfl, ha3, C.cls, C.n2, by simp, ?_⟩
  have sa : Std [a] H2 := Std.cons ha2 Std.nil
  have ta : NoTup [a] H2 := NoTup.cons ha2 (fun _ q => nomatch q) NoTup.nil
  have B34 : But [a] H3 (upd H3 a (.ins (KC K) dx (putF "link_table" (.ref pl) [("kind_name", .str nm)]))) := But.refl.upd (.inl (by simp))
  have ha4 : (upd H3 a (.ins (KC K) dx (putF "link_table" (.ref pl) [("kind_name", .str nm)]))) a = some (.ins (KC K) dx [("kind_name", .str nm), ("link_table", .ref pl)]) := by
    rw [upd_same]
    rfl
  generalize upd H3 a (.ins (KC K) dx (putF "link_table" (.ref pl) [("kind_name", .str nm)])) = H4 at B34 ha4 ⊢
  have B24 : But [a] H2 H4 := b3.nil.trans B34
  have nl4 : NewT H2 H4 (.dct L') (.ref pl) := nl.mono sa ta B34
  -- self.own_table
  have hy4 : At [a] H4 (.dct O) y := (hy.mono B2).mono B24
  have stdO : ∀ p, y = .ref p → Std [p] H2 ∧ NoTup [p] H2 := fun p e => by
    subst e
    obtain ⟨p', kvs, e, _, hp, _⟩ := hy.mono B2
    cases e
    exact ⟨Std.cons hp Std.nil, NoTup.cons hp (fun _ q => nomatch q) NoTup.nil⟩
  refine ⟨_, rfl, _, rfl, a, KC K, dx, _, _, rfl, ha4, C.cls, C.n2, rfl, ?_⟩
  have og : OwnGood O L' := ⟨g.own.len, g.own.nd, fun x m => ⟨(g.own.ok x m).1, by rw [own_keys dl.perm]; exact (g.own.ok x m).2.1, (g.own.ok x m).2.2⟩⟩
  refine ⟨O, L', y, .ref pl, rfl, hy4.less (M' := []) (by simp), nl4.at_, fun p e => nl4 [p] (stdO p e).1 (stdO p e).2, og, fun O' po H5 dO nO b5 => ?_⟩
  have ha5 := b5.keep _ _ (by simp) ha4
  refine ⟨_, rfl, a, KC K, dx, _, rfl, ha5, C.cls, C.n3, by simp, ?_⟩
  have sa4 : Std [a] H4 := Std.cons ha4 Std.nil
  have ta4 : NoTup [a] H4 := NoTup.cons ha4 (fun _ q => nomatch q) NoTup.nil
  have B56 : But [a] H5 (upd H5 a (.ins (KC K) dx (putF "own_table" (.ref po) [("kind_name", .str nm), ("link_table", .ref pl)]))) := But.refl.upd (.inl (by simp))
  have ha6 : (upd H5 a (.ins (KC K) dx (putF "own_table" (.ref po) [("kind_name", .str nm), ("link_table", .ref pl)]))) a = some (.ins (KC K) dx [("kind_name", .str nm), ("link_table", .ref pl), ("own_table", .ref po)]) := by
    rw [upd_same]
    rfl
  generalize upd H5 a (.ins (KC K) dx (putF "own_table" (.ref po) [("kind_name", .str nm), ("link_table", .ref pl)])) = H6 at B56 ha6 ⊢
  have B46 : But [a] H4 H6 := b5.nil.trans B56
  have nO6 : NewT H4 H6 (.dct O') (.ref po) := nO.mono sa4 ta4 B56
  have nl6 : NewT H2 H6 (.dct L') (.ref pl) := nl4.mono sa ta B46
  -- self.rule_list
  have hz6 : At [a] H6 d z := ((hz.mono B2).mono B24).mono B46
  refine ⟨_, rfl, _, rfl, a, KC K, dx, _, _, rfl, ha6, C.cls, C.n2, rfl, ?_⟩
  have rg : d.items.all (isRuleD · L') = true := List.all_eq_true.mpr fun x m => by
    have := List.all_eq_true.mp g.rules x m
    rw [rule_keys dl.perm]
    exact this
  refine ⟨d, L', z, .ref pl, rfl, hz6.less (M' := []) (by simp), nl6.at_, g.seq, g.len, g.fine, rg, fun R' pr H7 dR nR b7 => ?_⟩
  have ha7 := b7.keep _ _ (by simp) ha6
  refine ⟨_, rfl, a, KC K, dx, _, rfl, ha7, C.cls, C.n4, by simp, ?_⟩
  have sa6 : Std [a] H6 := Std.cons ha6 Std.nil
  have ta6 : NoTup [a] H6 := NoTup.cons ha6 (fun _ q => nomatch q) NoTup.nil
  have B78 : But [a] H7 (upd H7 a (.ins (KC K) dx (putF "rule_list" (.ref pr) [("kind_name", .str nm), ("link_table", .ref pl), ("own_table", .ref po)]))) := But.refl.upd (.inl (by simp))
  have ha8 : (upd H7 a (.ins (KC K) dx (putF "rule_list" (.ref pr) [("kind_name", .str nm), ("link_table", .ref pl), ("own_table", .ref po)]))) a =
      some (.ins (KC K) dx [("kind_name", .str nm), ("link_table", .ref pl), ("own_table", .ref po), ("rule_list", .ref pr)]) := by
    rw [upd_same]
    rfl
  generalize upd H7 a (.ins (KC K) dx (putF "rule_list" (.ref pr) [("kind_name", .str nm), ("link_table", .ref pl), ("own_table", .ref po)])) = H8 at B78 ha8 ⊢
  have B68 : But [a] H6 H8 := b7.nil.trans B78
  have nR8 : NewT H6 H8 (.lst R') (.ref pr) := nR.mono sa6 ta6 B78
  -- is_flag(hidden), self.is_hidden
  refine ⟨_, rfl, .bl h, .bl h, rfl, rfl, rfl, fun H9 b9 => ⟨_, rfl, ?_⟩⟩
  refine iteF ?_
  have ha9 := b9.keep _ _ (by simp) ha8
  refine ⟨_, rfl, _, rfl, a, KC K, dx, _, rfl, ha9, C.cls, C.n5, by simp, ?_⟩
  have B9 : But [a] H8 (upd H9 a (.ins (KC K) dx (putF "is_hidden" (.bl h) [("kind_name", .str nm), ("link_table", .ref pl), ("own_table", .ref po), ("rule_list", .ref pr)]))) := b9.nil.upd (.inl (by simp))
  have ha10 : (upd H9 a (.ins (KC K) dx (putF "is_hidden" (.bl h) [("kind_name", .str nm), ("link_table", .ref pl), ("own_table", .ref po), ("rule_list", .ref pr)]))) a = some (.ins (KC K) dx (kf nm (.ref pl) (.ref po) (.ref pr) h)) := by
    rw [upd_same]
    rfl
  generalize upd H9 a (.ins (KC K) dx (putF "is_hidden" (.bl h) [("kind_name", .str nm), ("link_table", .ref pl), ("own_table", .ref po), ("rule_list", .ref pr)])) = HE at B9 ha10 ⊢
  have B28 : But [a] H2 H8 := (B24.trans B46).trans B68
  -- what stood in H stands in between, and is no tuple there
  have up : ∀ {H'' : Hp}, But [a] H H'' → H'' a ≠ none → (∀ xs, H'' a ≠ some (.tup xs)) → ∀ M, Std M H → NoTup M H → Std M H'' ∧ NoTup M H'' := fun {H''} b na nt M s t => by
    refine ⟨s.but b, fun v m xs e => ?_⟩
    by_cases q : v = a
    · rw [q] at e
      exact nt xs e
    · cases e2 : H v with
      | none => exact s v m e2
      | some o =>
        have := b.keep v o (by simpa using q) e2
        rw [this] at e
        exact t v m xs (by rw [e2, e])
  refine k L' O' R' HE ⟨dl, dO, dR⟩ (fun M s t m => ?_) ((B2.trans B28).trans B9)
  obtain ⟨s2, t2⟩ := up B2 (ne_none ha2) (fun xs q => by rw [ha2] at q; cases q) M s t
  obtain ⟨s4, t4⟩ := up (B2.trans B24) (ne_none ha4) (fun xs q => by rw [ha4] at q; cases q) M s t
  obtain ⟨s6, t6⟩ := up ((B2.trans B24).trans B46) (ne_none ha6) (fun xs q => by rw [ha6] at q; cases q) M s t
  exact ⟨dx, .ref pl, .ref po, .ref pr, m, ha10, (nl6.mono sa ta (B68.trans B9)) M s2 t2, (nO6.mono sa4 ta4 (B68.trans B9)) M s4 t4, (nR8.mono sa6 ta6 B9) M s6 t6⟩
end Kb

set_option Elab.async false
set_option linter.all false
set_option maxRecDepth 100000
set_option maxHeartbeats 4000000
/-! Kb, 21: what is told against what is due: like data. -/
namespace Kb
open PySem PySem.Spec PyProof.Rows L2

/-! ### data that may be locked -/
mutual
def AtZ (H : Hp) : D → V → Prop
  | .non, v => v = .non
  | .bl b, v => v = .bl b
  | .int i, v => v = .int i
  | .str x, v => v = .str x
  | .tup ds, v => ∃ p xs, v = .ref p ∧ H p = some (.tup xs) ∧ AtZL H ds xs
  | .lst ds, v => ∃ p xs, v = .ref p ∧ H p = some (.lst xs) ∧ AtZL H ds xs
  | .dct kds, v => ∃ p kvs, v = .ref p ∧ Rd H p (.dK kvs) ∧ AtZP H kds kvs
def AtZL (H : Hp) : List D → List V → Prop
  | [], xs => xs = []
  | d :: ds, xs => ∃ x r, xs = x :: r ∧ AtZ H d x ∧ AtZL H ds r
def AtZP (H : Hp) : List (Str × D) → List (Key × V) → Prop
  | [], xs => xs = []
  | (k, d) :: ds, xs => ∃ x r, xs = (Sum.inr k, x) :: r ∧ AtZ H d x ∧ AtZP H ds r
end
mutual
theorem At.z {M : List Addr} {H : Hp} : ∀ {d : D} {v : V}, At M H d v → AtZ H d v
  | .non, _, h => h
  | .bl _, _, h => h
  | .int _, _, h => h
  | .str _, _, h => h
  | .tup ds, _, h => let ⟨p, xs, e, _, hp, hl⟩ := h; ⟨p, xs, e, hp, AtL.z hl⟩
  | .lst ds, _, h => let ⟨p, xs, e, _, hp, hl⟩ := h; ⟨p, xs, e, hp, AtL.z hl⟩
  | .dct ds, _, h => let ⟨p, xs, e, _, hp, hl⟩ := h; ⟨p, xs, e, .inl hp, AtP.z hl⟩
theorem AtL.z {M : List Addr} {H : Hp} : ∀ {ds : List D} {xs : List V}, AtL M H ds xs → AtZL H ds xs
  | [], _, h => h
  | d :: ds, _, h => let ⟨x, r, e, h1, h2⟩ := h; ⟨x, r, e, At.z h1, AtL.z h2⟩
theorem AtP.z {M : List Addr} {H : Hp} : ∀ {ds : List (Str × D)} {xs : List (Key × V)}, AtP M H ds xs → AtZP H ds xs
  | [], _, h => h
  | (k, d) :: ds, _, h => let ⟨x, r, e, h1, h2⟩ := h; ⟨x, r, e, At.z h1, AtP.z h2⟩
end
/-- what is read is read on -/
structure Zm (H H' : Hp) : Prop where
  tup : ∀ p xs, H p = some (.tup xs) → H' p = some (.tup xs)
  lst : ∀ p xs, H p = some (.lst xs) → H' p = some (.lst xs)
  dct : ∀ p kvs, Rd H p (.dK kvs) → Rd H' p (.dK kvs)
theorem Zm.but {H H' : Hp} (b : But [] H H') : Zm H H' := ⟨fun p xs e => b.keep _ _ (by simp) e, fun p xs e => b.keep _ _ (by simp) e, fun p kvs e => e.elim (fun e => .inl (b.keep _ _ (by simp) e)) fun ⟨o, e⟩ => .inr ⟨o, b.keep _ _ (by simp) e⟩⟩
theorem Zm.lock {H : Hp} {p : Addr} {kvs : List (Key × V)} {od : Obj} (h : H p = some (.dK kvs)) : Zm H (upd H p (.frz od (.dK kvs))) := by
  refine ⟨fun q xs e => ?_, fun q xs e => ?_, fun q ks e => ?_⟩
  · rw [upd_ne (fun z => by rw [z, h] at e; cases e)]
    exact e
  · rw [upd_ne (fun z => by rw [z, h] at e; cases e)]
    exact e
  · by_cases z : q = p
    · subst z
      rcases e with e | ⟨o, e⟩
      · rw [h] at e
        cases e
        exact .inr ⟨od, upd_same⟩
      · rw [h] at e
        cases e
    · rcases e with e | ⟨o, e⟩
      · exact .inl (by rw [upd_ne z]; exact e)
      · exact .inr ⟨o, by rw [upd_ne z]; exact e⟩
theorem Zm.trans {H H1 H2 : Hp} (a : Zm H H1) (b : Zm H1 H2) : Zm H H2 := ⟨fun p xs e => b.tup p xs (a.tup p xs e), fun p xs e => b.lst p xs (a.lst p xs e), fun p xs e => b.dct p xs (a.dct p xs e)⟩
mutual
theorem AtZ.mono {H H' : Hp} (z : Zm H H') : ∀ {d : D} {v : V}, AtZ H d v → AtZ H' d v
  | .non, _, h => h
  | .bl _, _, h => h
  | .int _, _, h => h
  | .str _, _, h => h
  | .tup ds, _, h => let ⟨p, xs, e, hp, hl⟩ := h; ⟨p, xs, e, z.tup _ _ hp, AtZL.mono z hl⟩
  | .lst ds, _, h => let ⟨p, xs, e, hp, hl⟩ := h; ⟨p, xs, e, z.lst _ _ hp, AtZL.mono z hl⟩
  | .dct ds, _, h => let ⟨p, xs, e, hp, hl⟩ := h; ⟨p, xs, e, z.dct _ _ hp, AtZP.mono z hl⟩
theorem AtZL.mono {H H' : Hp} (z : Zm H H') : ∀ {ds : List D} {xs : List V}, AtZL H ds xs → AtZL H' ds xs
  | [], _, h => h
  | d :: ds, _, h => let ⟨x, r, e, h1, h2⟩ := h; ⟨x, r, e, AtZ.mono z h1, AtZL.mono z h2⟩
theorem AtZP.mono {H H' : Hp} (z : Zm H H') : ∀ {ds : List (Str × D)} {xs : List (Key × V)}, AtZP H ds xs → AtZP H' ds xs
  | [], _, h => h
  | (k, d) :: ds, _, h => let ⟨x, r, e, h1, h2⟩ := h; ⟨x, r, e, AtZ.mono z h1, AtZP.mono z h2⟩
end
theorem AtZP.keys {H : Hp} : ∀ {ds : List (Str × D)} {xs : List (Key × V)}, AtZP H ds xs → xs.map (·.1) = ds.map fun p => (Sum.inr p.1 : Key)
  | [], _, h => by
    cases h
    rfl
  | (k0, d0) :: ds, _, h => by
    obtain ⟨y, r, rfl, h1, h2⟩ := h
    rw [List.map_cons, List.map_cons, AtZP.keys h2]
theorem AtZP.val {H : Hp} : ∀ {kds : List (Str × D)} {kvs : List (Key × V)} {n : Str} {d : D}, AtZP H kds kvs → kds.lookup n = some d → ∃ v, valV kvs (.inr n) = some v ∧ AtZ H d v
  | [], _, n, d, h, m => by cases m
  | (k, e) :: ds, _, n, d, h, m => by
    obtain ⟨y, r, rfl, h1, h2⟩ := h
    rw [List.lookup_cons] at m
    by_cases z : n = k
    · rw [beq_iff_eq.mpr z] at m
      cases m
      refine ⟨y, ?_, h1⟩
      rw [z, valV, List.find?_cons_of_pos (by simp)]
      rfl
    · rw [beq_eq_false_iff_ne.mpr z] at m
      obtain ⟨v, q2, q3⟩ := AtZP.val h2 m
      refine ⟨v, ?_, q3⟩
      rw [valV, List.find?_cons_of_neg (by simpa using fun q => z q.symm)]
      exact q2
theorem AtZL.length {H : Hp} : ∀ {ds : List D} {xs : List V}, AtZL H ds xs → xs.length = ds.length
  | [], _, h => by
    cases h
    rfl
  | d :: ds, _, h => by
    obtain ⟨x, r, rfl, h1, h2⟩ := h
    rw [List.length_cons, List.length_cons, AtZL.length h2]
theorem AtZL.get {H : Hp} : ∀ {ds : List D} {xs : List V} {i : Nat} {x : V}, AtZL H ds xs → xs[i]? = some x → ∃ d, ds[i]? = some d ∧ AtZ H d x
  | [], _, i, x, h, e => by
    cases h
    simp at e
  | d :: ds, _, 0, x, h, e => by
    obtain ⟨y, r, rfl, h1, h2⟩ := h
    simp at e
    subst e
    exact ⟨d, rfl, h1⟩
  | d :: ds, _, i + 1, x, h, e => by
    obtain ⟨y, r, rfl, h1, h2⟩ := h
    obtain ⟨d', q1, q2⟩ := AtZL.get (i := i) (x := x) h2 (by simpa using e)
    exact ⟨d', by simpa using q1, q2⟩
theorem AtZ.ty {K : PySem.W.Frag} {H : Hp} {d : D} {x : V} (h : AtZ H d x) : TyX K H x (.type d.ty) := by
  cases d with
  | non => cases h; exact .base .non
  | bl b => cases h; exact .base (.bl b)
  | int b => cases h; exact .base (.int b)
  | str b => cases h; exact .base (.str b)
  | tup ds =>
    obtain ⟨p, xs, rfl, hp, _⟩ := h
    exact .base (.tup hp)
  | lst ds =>
    obtain ⟨p, xs, rfl, hp, _⟩ := h
    exact .base (.lst hp)
  | dct ds =>
    obtain ⟨p, xs, rfl, hp, _⟩ := h
    rcases hp with hp | ⟨o, hp⟩
    · exact .base (.dK hp)
    · exact .fDict hp
theorem AtZ.seq {K : PySem.W.Frag} {H : Hp} {d : D} {x : V} (h : AtZ H d x) (s : d.isSeq = true) : ∃ p xs, x = .ref p ∧ SqV K H p xs ∧ AtZL H d.items xs := by
  cases d with
  | tup ds =>
    obtain ⟨p, xs, e, hp, hl⟩ := h
    exact ⟨p, xs, e, .inr (SqT.of hp), hl⟩
  | lst ds =>
    obtain ⟨p, xs, e, hp, hl⟩ := h
    exact ⟨p, xs, e, .inl (SqL.of hp), hl⟩
  | _ => cases s

/-! ### like data -/
mutual
def Like : D → D → Prop
  | d, .non => d = .non
  | d, .bl b => d = .bl b
  | d, .int i => d = .int i
  | d, .str x => d = .str x
  | d, .tup es => ∃ ds, d = .tup ds ∧ es.length ≤ 1000 ∧ LikeL ds es
  | d, .lst es => ∃ ds, d = .lst ds ∧ es.length ≤ 1000 ∧ LikeL ds es
  | d, .dct kes => ∃ kds, d = .dct kds ∧ (keysD kds).Perm (keysD kes) ∧ (keysD kes).Nodup ∧ kes.length < 64 ∧ (∀ k ∈ keysD kes, PyData.strOk k = true) ∧ LikeP kds kes
def LikeL : List D → List D → Prop
  | ds, [] => ds = []
  | ds, e :: es => ∃ d r, ds = d :: r ∧ Like d e ∧ LikeL r es
def LikeP : List (Str × D) → List (Str × D) → Prop
  | _, [] => True
  | kds, (k, e) :: es => (∃ d, kds.lookup k = some d ∧ Like d e) ∧ LikeP kds es
end
theorem LikeL.length : ∀ {ds es : List D}, LikeL ds es → ds.length = es.length
  | _, [], h => by
    cases h
    rfl
  | _, e :: es, h => by
    obtain ⟨d, r, rfl, h1, h2⟩ := h
    rw [List.length_cons, List.length_cons, LikeL.length h2]
theorem LikeL.get : ∀ {ds es : List D} {i : Nat} {d e : D}, LikeL ds es → ds[i]? = some d → es[i]? = some e → Like d e
  | _, [], i, d, e, h, h1, h2 => by simp at h2
  | _, e' :: es, 0, d, e, h, h1, h2 => by
    obtain ⟨d', r, rfl, q1, q2⟩ := h
    simp at h1 h2
    subst h1 h2
    exact q1
  | _, e' :: es, i + 1, d, e, h, h1, h2 => by
    obtain ⟨d', r, rfl, q1, q2⟩ := h
    exact LikeL.get (i := i) q2 (by simpa using h1) (by simpa using h2)
theorem LikeP.get : ∀ {kds kes : List (Str × D)} {k : Str} {e : D}, LikeP kds kes → kes.lookup k = some e → ∃ d, kds.lookup k = some d ∧ Like d e
  | _, [], k, e, h, m => by cases m
  | kds, (k', e') :: es, k, e, h, m => by
    obtain ⟨h1, h2⟩ := h
    rw [List.lookup_cons] at m
    by_cases z : k = k'
    · rw [beq_iff_eq.mpr z] at m
      cases m
      rw [z]
      exact h1
    · rw [beq_eq_false_iff_ne.mpr z] at m
      exact LikeP.get h2 m
/-! how deep -/
mutual
def D.dp : D → Nat
  | .tup ds => D.dpL ds + 1
  | .lst ds => D.dpL ds + 1
  | .dct kds => D.dpP kds + 1
  | _ => 0
def D.dpL : List D → Nat
  | [] => 0
  | d :: ds => max (D.dp d) (D.dpL ds)
def D.dpP : List (Str × D) → Nat
  | [] => 0
  | (_, d) :: ds => max (D.dp d) (D.dpP ds)
end
theorem dpL_get : ∀ {ds : List D} {d : D}, d ∈ ds → d.dp ≤ D.dpL ds
  | a :: ds, d, m => by
    rw [D.dpL]
    rcases List.mem_cons.mp m with e | m
    · rw [e]; omega
    · have := dpL_get m
      omega
theorem dpP_get : ∀ {ds : List (Str × D)} {k : Str} {d : D}, (k, d) ∈ ds → d.dp ≤ D.dpP ds
  | (a, b) :: ds, k, d, m => by
    rw [D.dpP]
    rcases List.mem_cons.mp m with e | m
    · cases e; omega
    · have := dpP_get m
      omega
def D.isLst : D → Bool
  | .lst _ => true
  | _ => false
def D.isBool : D → Bool
  | .bl _ => true
  | _ => false
def D.isInt : D → Bool
  | .bl _ => true
  | .int _ => true
  | _ => false
section
variable {K : PySem.W.Frag} {d : D}
theorem kit_lst : PySem.W.kitOne K (.type d.ty) (.type "list") = some d.isLst := by
  cases d with
  | non => exact kit_ty (show kitB "NoneType" "list" = some false by decide +kernel)
  | bl _ => exact kit_ty (show kitB "bool" "list" = some false by decide +kernel)
  | int _ => exact kit_ty (show kitB "int" "list" = some false by decide +kernel)
  | str _ => exact kit_ty (show kitB "str" "list" = some false by decide +kernel)
  | tup _ => exact kit_ty (show kitB "tuple" "list" = some false by decide +kernel)
  | lst _ => exact kit_ty (show kitB "list" "list" = some true by decide +kernel)
  | dct _ => exact kit_ty (show kitB "dict" "list" = some false by decide +kernel)
theorem kit_bool : PySem.W.kitOne K (.type d.ty) (.type "bool") = some d.isBool := by
  cases d with
  | non => exact kit_ty (show kitB "NoneType" "bool" = some false by decide +kernel)
  | bl _ => exact kit_ty (show kitB "bool" "bool" = some true by decide +kernel)
  | int _ => exact kit_ty (show kitB "int" "bool" = some false by decide +kernel)
  | str _ => exact kit_ty (show kitB "str" "bool" = some false by decide +kernel)
  | tup _ => exact kit_ty (show kitB "tuple" "bool" = some false by decide +kernel)
  | lst _ => exact kit_ty (show kitB "list" "bool" = some false by decide +kernel)
  | dct _ => exact kit_ty (show kitB "dict" "bool" = some false by decide +kernel)
theorem kit_int : PySem.W.kitOne K (.type d.ty) (.type "int") = some d.isInt := by
  cases d with
  | non => exact kit_ty (show kitB "NoneType" "int" = some false by decide +kernel)
  | bl _ => exact kit_ty (show kitB "bool" "int" = some true by decide +kernel)
  | int _ => exact kit_ty (show kitB "int" "int" = some true by decide +kernel)
  | str _ => exact kit_ty (show kitB "str" "int" = some false by decide +kernel)
  | tup _ => exact kit_ty (show kitB "tuple" "int" = some false by decide +kernel)
  | lst _ => exact kit_ty (show kitB "list" "int" = some false by decide +kernel)
  | dct _ => exact kit_ty (show kitB "dict" "int" = some false by decide +kernel)
end
/-- list(d), d a dict, locked or not -/
def rListK : List V → Hp → VK → Prop := fun xs H Q => ∃ (a : Addr) (kvs : List (Key × V)), xs = [.ref a] ∧ Rd H a (.dK kvs) ∧ ∀ p, H p = none → Q (.ref p) (upd H p (.lst (kvs.map fun kv => kV kv.1)))
theorem kListK {X : Cx} (hc : X.calm = true) : CallR X (.type "list") rListK := call_listD hc
/-- xs != xs -/
theorem neSame {K : PySem.W.Frag} {H : Hp} {p q : Addr} {xs : List V} {Q : VK} (hp : H p = some (.lst xs)) (hq : H q = some (.lst xs)) (hx : xs.all okF = true) (k : Q (.bl false) H) : rNeD K (.ref p) (.ref q) H Q := by
  refine ⟨.list (xs.map pd), .list (xs.map pd), .lst (SqL.of hp) (dp_flats hx), .lst (SqL.of hq) (dp_flats hx), shaped_flat hx, shaped_flat hx, ?_⟩
  rw [PySem.SeqAt.eqv_refl _ (by rw [PyData.canLay0]; exact lay_flat hx)]
  exact k
theorem keys_strs {kds : List (Str × D)} {kvs : List (Key × V)} (h : kvs.map (·.1) = kds.map fun p => (Sum.inr p.1 : Key)) : (kvs.map fun kv => kV kv.1) = (keysD kds).map V.str := by
  have := congrArg (List.map kV) h
  rw [List.map_map, List.map_map] at this
  rw [keysD, List.map_map]
  exact this
end Kb

set_option Elab.async false
set_option linter.all false
set_option maxRecDepth 100000
set_option maxHeartbeats 4000000
/-! Kb, 22: _law_like, of like data. -/
namespace Kb
open PySem PySem.Spec PyProof.Rows L2

def sp_l_like (n : Nat) (K : PySem.W.Frag) : Sp := fun vs H Q _ => ∃ (d e : D) (x y : V), vs = [x, y] ∧ AtZ H d x ∧ At [] H e y ∧ Like d e ∧ e.dp < n ∧ ∀ H', But [] H H' → Q (.bl true) H'
theorem len_l_like {n : Nat} {K : PySem.W.Frag} {vs : List V} {H : Hp} {Q : VK} {E : XK} (h : sp_l_like n K vs H Q E) : vs.length = 2 := by
  obtain ⟨_, _, _, _, rfl, _⟩ := h
  rfl
theorem no_l_like {K : PySem.W.Frag} {vs : List V} {H : Hp} {Q : VK} {E : XK} (h : sp_l_like 0 K vs H Q E) : False := by
  obtain ⟨_, _, _, _, _, _, _, _, h, _⟩ := h
  omega
def t_l_like (n : Nat) (K : PySem.W.Frag) : TS :=
  (tSeq (tIfS (tB (tCB (rIsi K) (tCons (tVar 1) (tCons (tC (.ty "dict")) tNil))))
    (tSeq (tIfS (tOr (tNot (tB (tCB (rIsi K) (tCons (tVar 0) (tCons (tC (.ty "dict")) tNil))))) (tTest (tOp (rNeD K) (tCB (rSortedS K) (tCons (tCB rListK (tCons (tVar 0) tNil)) tNil)) (tCB (rSortedS K) (tCons (tCB rListK (tCons (tVar 1) tNil)) tNil)))))
    (tRet (tC (.bl false)))
    tNext)
  (tRet (tOp (rEqD K) (tLockE (tLc (iKeys (tVar 1)) (gName 2) (tNot (tB (tCall (sp_l_like n K) [] E0 (tCons (tDGet (tVar 0) (tVar 2)) (tCons (tDGet (tVar 1) (tVar 2)) tNil))))) (tVar 2) [2])) (tLst tNil))))
    tNext)
  (tSeq (tIfS (tB (tCB (rIsiT K) (tCons (tVar 1) (tCons (tTup (tCons (tC (.ty "list")) (tCons (tC (.ty "tuple")) tNil))) tNil))))
    (tSeq (tIfS (tOr (tNot (tB (tCB (rIsiT K) (tCons (tVar 0) (tCons (tTup (tCons (tC (.ty "list")) (tCons (tC (.ty "tuple")) tNil))) tNil))))) (tTest (tOp rNe (tCB (rIsi K) (tCons (tVar 0) (tCons (tC (.ty "list")) tNil))) (tCB (rIsi K) (tCons (tVar 1) (tCons (tC (.ty "list")) tNil))))))
    (tRet (tC (.bl false)))
    tNext)
  (tSeq (tIfS (tTest (tOp rNe (tCB (rLenA K) (tCons (tVar 0) tNil)) (tCB (rLenA K) (tCons (tVar 1) tNil))))
    (tRet (tC (.bl false)))
    tNext)
  (tRet (tOp (rEqD K) (tLc (iRng1 (tCons (tCB (rLenA K) (tCons (tVar 1) tNil)) tNil)) (gName 2) (tNot (tB (tCall (sp_l_like n K) [] E0 (tCons (tOp (rIx K) (tVar 0) (tVar 2)) (tCons (tOp (rIx K) (tVar 1) (tVar 2)) tNil))))) (tVar 2) [2]) (tLst tNil)))))
    tNext)
  (tSeq (tIfS (tTest (tOp rNe (tCB (rIsi K) (tCons (tVar 0) (tCons (tC (.ty "bool")) tNil))) (tCB (rIsi K) (tCons (tVar 1) (tCons (tC (.ty "bool")) tNil)))))
    (tRet (tC (.bl false)))
    tNext)
  (tRet (tAndV (tOp rEq (tCB (rIsi K) (tCons (tVar 0) (tCons (tC (.ty "int")) tNil))) (tCB (rIsi K) (tCons (tVar 1) (tCons (tC (.ty "int")) tNil)))) (tOp rEq (tVar 0) (tVar 1)))))))

theorem like_ty {d e : D} (h : Like d e) : d.isDct = e.isDct ∧ d.isSeq = e.isSeq ∧ d.isLst = e.isLst ∧ d.isBool = e.isBool ∧ d.isInt = e.isInt := by
  cases e with
  | tup es => obtain ⟨_, rfl, _⟩ := h; exact ⟨rfl, rfl, rfl, rfl, rfl⟩
  | lst es => obtain ⟨_, rfl, _⟩ := h; exact ⟨rfl, rfl, rfl, rfl, rfl⟩
  | dct es => obtain ⟨_, rfl, _⟩ := h; exact ⟨rfl, rfl, rfl, rfl, rfl⟩
  | _ => cases h; exact ⟨rfl, rfl, rfl, rfl, rfl⟩
theorem like_seq {d e : D} (h : Like d e) (s : e.isSeq = true) : LikeL d.items e.items ∧ e.items.length ≤ 1000 := by
  cases e with
  | tup es => obtain ⟨_, rfl, h1, h2⟩ := h; exact ⟨h2, h1⟩
  | lst es => obtain ⟨_, rfl, h1, h2⟩ := h; exact ⟨h2, h1⟩
  | _ => cases s
theorem items_dp {e d : D} (m : d ∈ e.items) : d.dp < e.dp := by
  cases e with
  | tup es => have := dpL_get (ds := es) m; show d.dp < D.dpL es + 1; omega
  | lst es => have := dpL_get (ds := es) m; show d.dp < D.dpL es + 1; omega
  | _ => cases m
theorem flat_eq {H : Hp} {d e : D} {x y : V} (h : Like d e) (f : e.isFlat = true) (hx : AtZ H d x) (hy : At [] H e y) : x = y ∧ scal x y = true := by
  cases e with
  | tup es => cases f
  | lst es => cases f
  | dct es => cases f
  | non => cases h; cases hx; cases hy; exact ⟨rfl, rfl⟩
  | bl b => cases h; cases hx; cases hy; exact ⟨rfl, rfl⟩
  | int b => cases h; cases hx; cases hy; exact ⟨rfl, rfl⟩
  | str b => cases h; cases hx; cases hy; exact ⟨rfl, rfl⟩
theorem pure_l_like {K : PySem.W.Frag} (n : Nat) (vs : List V) (H : Hp) (Q : VK) (E : XK) (h : sp_l_like (n + 1) K vs H Q E) : t_l_like n K (fin Q) (st0 3 vs) H := by
  obtain ⟨d, e, x, y, rfl, hx, hy, hl, hn, k⟩ := h
  obtain ⟨ed, es, el, eb, ei⟩ := like_ty hl
  refine ⟨_, rfl, y, _, _, _, e.isDct, rfl, .ty _, hy.ty, kit_dct, _, rfl, ?_⟩
  cases hd : e.isDct with
  | true =>
    refine iteT ?_
    obtain ⟨kes, rfl⟩ : ∃ kes, e = .dct kes := by cases e <;> first | exact ⟨_, rfl⟩ | cases hd
    obtain ⟨kds, rfl, lp, lnd, l64, lok, ll⟩ := hl
    refine ⟨_, rfl, x, _, _, _, true, rfl, .ty _, hx.ty, kit_dct, _, rfl, ?_⟩
    refine iteF ?_
    obtain ⟨p1, kv1, rfl, h1, z1⟩ := hx
    obtain ⟨p2, kv2, rfl, h2, z2⟩ := hy.dct
    have len1 : (keysD kds).length < 64 := by rw [lp.length_eq, keysD, List.length_map]; exact l64
    have len2 : (keysD kes).length < 64 := by rw [keysD, List.length_map]; exact l64
    refine ⟨_, rfl, p1, kv1, rfl, h1, fun q1 hq1 => ?_⟩
    rw [keys_strs z1.keys]
    have B1 : But [] H (upd H q1 (.lst ((keysD kds).map V.str))) := But.new hq1
    have u1 : (upd H q1 (.lst ((keysD kds).map V.str))) q1 = some (.lst ((keysD kds).map V.str)) := upd_same
    generalize upd H q1 (.lst ((keysD kds).map V.str)) = H1 at B1 u1 ⊢
    refine ⟨q1, _, rfl, SqL.of u1, len1, fun ys r1 perm1 so1 hr1 => ?_⟩
    have B2 : But [] H1 (upd H1 r1 (.lst (ys.map V.str))) := But.new hr1
    have v1 : (upd H1 r1 (.lst (ys.map V.str))) r1 = some (.lst (ys.map V.str)) := upd_same
    generalize upd H1 r1 (.lst (ys.map V.str)) = H2 at B2 v1 ⊢
    have B02 := B1.trans B2
    refine ⟨_, rfl, p2, kv2, rfl, .inl (B02.keep _ _ (by simp) h2), fun q2 hq2 => ?_⟩
    rw [keys_strs (kds := kes) z2.keys]
    have B3 : But [] H2 (upd H2 q2 (.lst ((keysD kes).map V.str))) := But.new hq2
    have u2 : (upd H2 q2 (.lst ((keysD kes).map V.str))) q2 = some (.lst ((keysD kes).map V.str)) := upd_same
    generalize upd H2 q2 (.lst ((keysD kes).map V.str)) = H3 at B3 u2 ⊢
    refine ⟨q2, _, rfl, SqL.of u2, len2, fun zs r2 perm2 so2 hr2 => ?_⟩
    have ezs : zs = ys := sorted_same (perm2.trans (lp.symm.trans perm1.symm)) so2 so1
    subst ezs
    have B4 : But [] H3 (upd H3 r2 (.lst (zs.map V.str))) := But.new hr2
    have v2 : (upd H3 r2 (.lst (zs.map V.str))) r2 = some (.lst (zs.map V.str)) := upd_same
    generalize upd H3 r2 (.lst (zs.map V.str)) = H4 at B4 v2 ⊢
    have zok : ∀ z ∈ zs, PyData.strOk z = true := fun z m => lok z (perm2.mem_iff.mp m)
    refine neSame (B4.keep _ _ (by simp) (B3.keep _ _ (by simp) v1)) v2 (okF_strs zok) ⟨_, rfl, ?_⟩
    refine iteF ?_
    have B04 := (B02.trans B3).trans B4
    have h24 := B04.keep _ _ (by simp) h2
    have z24 : AtP [p2] H4 kes kv2 := z2.mono B04.nil
    have z14 := z1.mono (Zm.but B04)
    have h14 := (Zm.but B04).dct _ _ h1
    refine ⟨p2, .dK kv2, h24, trivial, fun od => ?_⟩
    have zl : Zm H4 (upd H4 p2 (.frz od (.dK kv2))) := Zm.lock h24
    have h2l : (upd H4 p2 (.frz od (.dK kv2))) p2 = some (.frz od (.dK kv2)) := upd_same
    have z2l : AtP [p2] (upd H4 p2 (.frz od (.dK kv2))) kes kv2 := z24.mono (lock_but h24)
    have z1l := z14.mono zl
    have h1l := zl.dct _ _ h14
    have back : ∀ H', But [] (upd H4 p2 (.frz od (.dK kv2))) H' → But [] H4 (upd H' p2 (.dK kv2)) := fun H' b => unlock_but h24 b
    generalize upd H4 p2 (.frz od (.dK kv2)) = HL at h2l z2l z1l h1l back ⊢
    refine ⟨_, rfl, p2, od, rfl, .inl ⟨kv2, h2l, fun Dl hD => ?_⟩⟩
    have uD : (upd HL Dl (.lst [])) Dl = some (.lst []) := upd_same
    refine lc_it walk_keys (fun i H' => H' Dl = some (.lst []) ∧ But [] HL H') ⟨uD, But.new hD⟩ (fun i H' _ q => q.2.keep _ _ (by simp) h2l) ?_ ?_
    · rintro i v H5 H6 hi ⟨q1', b5⟩ ⟨rfl, kk, vv, hk, rfl⟩
      obtain ⟨nm, e', g1, rfl, _⟩ := z2l.get hk
      have nmk : nm ∈ keysD kes := List.mem_map.mpr ⟨_, List.mem_of_getElem? g1, rfl⟩
      obtain ⟨e2, w2, f1, f2, f3⟩ := (z2l.mono b5.nil).val nmk
      obtain ⟨d2, f4, f5⟩ := ll.get f1
      obtain ⟨w1, f6, f7⟩ := (z1l.mono (Zm.but b5)).val f4
      refine ⟨wipe_one, ?_⟩
      refine ⟨_, rfl, _, rfl, p1, w1, rfl, .inl ⟨kv1, .inr nm, (Zm.but b5).dct _ _ h1l, rfl, f6.symm⟩, _, rfl, _, rfl, p2, w2, rfl, .inl ⟨kv2, .inr nm, .inr ⟨od, b5.keep _ _ (by simp) h2l⟩, rfl, f2.symm⟩, ?_⟩
      refine ⟨d2, e2, w1, w2, rfl, f7, f3.less (M' := []) (by simp), f5, ?_, fun H7 b7 => ⟨_, rfl, ?_⟩⟩
      · have := dpP_get (lookup_mem f1)
        show e2.dp < n
        have hn' : D.dpP kes + 1 < n + 1 := hn
        omega
      · exact iteF ⟨b7.keep _ _ (by simp) q1', b5.trans b7⟩
    · rintro H5 ⟨q1', b5⟩
      have BB := back H5 b5
      have nDp : Dl ≠ p2 := fun z => by rw [z, h2l] at hD; cases hD
      refine ⟨b5.keep _ _ (by simp) h2l, sz0, fun q3 hq3 => ?_⟩
      have uq : (upd H5 p2 (.dK kv2)) Dl = some (.lst []) := by rw [upd_ne nDp]; exact q1'
      exact eqE (xs := []) (by rw [upd_ne (ne_of_none uq hq3)]; exact uq) rfl upd_same (k _ ((B04.trans BB).upd' hq3))
  | false =>
    refine iteF ?_
    refine ⟨_, rfl, by show 2 ≤ sizeLine; decide, fun q1 hq1 => ?_⟩
    have B1 : But [] H (upd H q1 (.tup [.ty "list", .ty "tuple"])) := But.new hq1
    have u1 : (upd H q1 (.tup [.ty "list", .ty "tuple"])) q1 = some (.tup [.ty "list", .ty "tuple"]) := upd_same
    generalize upd H q1 (.tup [.ty "list", .ty "tuple"]) = H1 at B1 u1 ⊢
    have hx1 := hx.mono (Zm.but B1)
    have hy1 := hy.mono B1
    refine ⟨y, q1, _, _, _, e.isSeq, rfl, u1, .cons (.ty _) (.cons (.ty _) .nil), hy1.ty, kit_seq, _, rfl, ?_⟩
    cases hs : e.isSeq with
    | true =>
      rw [hs] at es
      refine iteT ?_
      refine ⟨_, rfl, by show 2 ≤ sizeLine; decide, fun q2 hq2 => ?_⟩
      have B2 : But [] H1 (upd H1 q2 (.tup [.ty "list", .ty "tuple"])) := But.new hq2
      have u2 : (upd H1 q2 (.tup [.ty "list", .ty "tuple"])) q2 = some (.tup [.ty "list", .ty "tuple"]) := upd_same
      generalize upd H1 q2 (.tup [.ty "list", .ty "tuple"]) = H2 at B2 u2 ⊢
      have hx2 := hx1.mono (Zm.but B2)
      have hy2 := hy1.mono B2
      have B02 := B1.trans B2
      refine ⟨x, q2, _, _, _, d.isSeq, rfl, u2, .cons (.ty _) (.cons (.ty _) .nil), hx2.ty, kit_seq, _, rfl, ?_⟩
      rw [es]
      refine iteF ?_
      refine ⟨_, rfl, x, _, _, _, d.isLst, rfl, .ty _, hx2.ty, kit_lst, _, rfl, y, _, _, _, e.isLst, rfl, .ty _, hy2.ty, kit_lst, ?_⟩
      rw [el]
      refine ⟨rfl, _, rfl, ?_⟩
      rw [decide_eq_true (rfl : V.bl e.isLst = V.bl e.isLst)]
      refine iteF ?_
      obtain ⟨p1, xs1, rfl, a1, z1⟩ := hx2.seq (K := K) es
      obtain ⟨p2, xs2, rfl, a2, z2⟩ := hy2.seq (K := K) hs
      obtain ⟨ll, l1000⟩ := like_seq hl hs
      have n1 := z1.length
      have n2 := z2.length
      have n3 := ll.length
      refine ⟨_, rfl, _, xs1.length, rfl, a1.lenV, _, rfl, _, xs2.length, rfl, a2.lenV, rfl, _, rfl, ?_⟩
      rw [decide_eq_true (show V.int (xs1.length : Int) = V.int (xs2.length : Int) by rw [n1, n2, n3])]
      refine iteF ?_
      refine ⟨_, rfl, _, xs2.length, rfl, a2.lenV, (xs2.length : Int), rfl, by omega, by omega, fun Dl hD => ?_⟩
      have uD : (upd H2 Dl (.lst [])) Dl = some (.lst []) := upd_same
      refine lc_it walk_range (fun i H' => H' Dl = some (.lst []) ∧ But [] H2 H') ⟨uD, But.new hD⟩ (fun _ _ _ _ => trivial) ?_ ?_
      · rintro i v H5 H6 hi ⟨q1', b5⟩ ⟨rfl, rfl⟩
        have hi2 : i < xs2.length := by simpa using hi
        have hi1 : i < xs1.length := by omega
        obtain ⟨d2, f1, f2⟩ := (z1.mono (Zm.but b5)).get (i := i) (x := xs1[i]) (by simp [hi1])
        obtain ⟨e2, g1, g2⟩ := (z2.mono b5).get (i := i) (x := xs2[i]) (by simp [hi2])
        refine ⟨wipe_one, ?_⟩
        refine ⟨_, rfl, _, rfl, (a1.but b5).ixR (i := i) (v := xs1[i]) (by simp [hi1]) (by omega) ?_⟩
        refine ⟨_, rfl, _, rfl, (a2.but b5).ixR (i := i) (v := xs2[i]) (by simp [hi2]) (by omega) ?_⟩
        refine ⟨d2, e2, _, _, rfl, f2, g2, ll.get f1 g1, ?_, fun H7 b7 => ⟨_, rfl, ?_⟩⟩
        · have := items_dp (List.mem_of_getElem? g1)
          omega
        · exact iteF ⟨b7.keep _ _ (by simp) q1', b5.trans b7⟩
      · rintro H5 ⟨q1', b5⟩
        refine ⟨sz0, fun q3 hq3 => ?_⟩
        exact eqE (xs := []) (by rw [upd_ne (ne_of_none q1' hq3)]; exact q1') rfl upd_same (k _ ((B02.trans b5).upd' hq3))
    | false =>
      refine iteF ?_
      have hf : e.isFlat = true := by cases e <;> first | rfl | (cases hs; done) | (cases hd; done)
      refine ⟨_, rfl, x, _, _, _, d.isBool, rfl, .ty _, hx1.ty, kit_bool, _, rfl, y, _, _, _, e.isBool, rfl, .ty _, hy1.ty, kit_bool, ?_⟩
      rw [eb]
      refine ⟨rfl, _, rfl, ?_⟩
      rw [decide_eq_true (rfl : V.bl e.isBool = V.bl e.isBool)]
      refine iteF ?_
      refine ⟨_, rfl, x, _, _, _, d.isInt, rfl, .ty _, hx1.ty, kit_int, _, rfl, y, _, _, _, e.isInt, rfl, .ty _, hy1.ty, kit_int, ?_⟩
      rw [ei]
      refine ⟨rfl, _, rfl, ?_⟩
      rw [decide_eq_true (rfl : V.bl e.isInt = V.bl e.isInt)]
      refine iteT ?_
      obtain ⟨exy, sc⟩ := flat_eq hl hf hx1 hy1
      refine ⟨_, rfl, _, rfl, sc, ?_⟩
      rw [decide_eq_true exy]
      exact k H1 B1
end Kb

set_option Elab.async false
set_option linter.all false
set_option maxRecDepth 100000
set_option maxHeartbeats 4000000
/-! Kb, 23: the objects of a datum that may be written. -/
namespace Kb
open PySem PySem.Spec PyProof.Rows L2

/-- tuples stand on -/
def TupK (H H' : Hp) : Prop := ∀ p xs, H p = some (.tup xs) → H' p = some (.tup xs)
theorem TupK.refl {H : Hp} : TupK H H := fun _ _ e => e
theorem TupK.trans {H H1 H2 : Hp} (a : TupK H H1) (b : TupK H1 H2) : TupK H H2 := fun p xs e => b p xs (a p xs e)
/-- the objects in P stand as they did -/
def Keeps (P : List Addr) (H H' : Hp) : Prop := ∀ x ∈ P, ∀ o, H x = some o → H' x = some o
theorem Keeps.trans {P : List Addr} {H H1 H2 : Hp} (a : Keeps P H H1) (b : Keeps P H1 H2) : Keeps P H H2 := fun x m o e => b x m o (a x m o e)
theorem Keeps.sub {P P' : List Addr} {H H' : Hp} (a : Keeps P H H') (s : ∀ x ∈ P', x ∈ P) : Keeps P' H H' := fun x m => a x (s x m)
theorem But.tupK {M : List Addr} {H H' : Hp} (b : But M H H') (t : NoTup M H) : TupK H H' := fun p xs e => b.keep _ _ (fun m => t p m xs e) e
theorem But.keeps {M P : List Addr} {H H' : Hp} (b : But M H H') (d : ∀ x ∈ P, x ∉ M) : Keeps P H H' := fun x m o e => b.keep _ _ (d x m) e
/-- P holds every list and dict of what stands -/
structure Foot (M : List Addr) (H : Hp) (P : List Addr) (A : List Addr → Hp → Prop) : Prop where
  std : Std P H
  nt : NoTup P H
  out : ∀ x ∈ P, x ∉ M
  on : ∀ M' H', TupK H H' → Keeps P H H' → (∀ x ∈ M', x ∉ P) → NoTup M' H → A M' H'
theorem Foot.nil {M : List Addr} {H : Hp} {A : List Addr → Hp → Prop} (h : ∀ M' H', A M' H') : Foot M H [] A := ⟨Std.nil, NoTup.nil, fun _ z => by (cases z), fun M' H' _ _ _ _ => h M' H'⟩
theorem Foot.two {M : List Addr} {H : Hp} {P P' : List Addr} {A B C : List Addr → Hp → Prop} (a : Foot M H P A) (b : Foot M H P' B) (h : ∀ M' H', A M' H' → B M' H' → C M' H') : Foot M H (P ++ P') C :=
  ⟨a.std.app b.std, a.nt.app b.nt, fun x m => (List.mem_append.mp m).elim (a.out x) (b.out x), fun M' H' t k d n => h M' H'
    (a.on M' H' t (k.sub fun x m => List.mem_append.mpr (.inl m)) (fun x m z => d x m (List.mem_append.mpr (.inl z))) n)
    (b.on M' H' t (k.sub fun x m => List.mem_append.mpr (.inr m)) (fun x m z => d x m (List.mem_append.mpr (.inr z))) n)⟩
/-- a list or dict at p besides -/
theorem Foot.put {M : List Addr} {H : Hp} {P : List Addr} {p : Addr} {o : HO} {A C : List Addr → Hp → Prop} (a : Foot M H P A) (hp : H p = some o) (ho : ∀ xs, o ≠ .tup xs) (m : p ∉ M) (h : ∀ M' H', A M' H' → p ∉ M' → H' p = some o → C M' H') : Foot M H (p :: P) C := by
  refine ⟨Std.cons hp a.std, NoTup.cons hp ho a.nt, fun x z => ?_, fun M' H' t k d n => h M' H' (a.on M' H' t (k.sub fun x m => List.mem_cons_of_mem _ m) (fun x m z => d x m (List.mem_cons_of_mem _ z)) n) (fun z => d p z (by simp)) (k p (by simp) o hp)⟩
  rcases List.mem_cons.mp z with e | z
  · rw [e]
    exact m
  · exact a.out x z
/-- a tuple at p besides -/
theorem Foot.tup {M : List Addr} {H : Hp} {P : List Addr} {p : Addr} {xs : List V} {A C : List Addr → Hp → Prop} (a : Foot M H P A) (hp : H p = some (.tup xs)) (h : ∀ M' H', A M' H' → p ∉ M' → H' p = some (.tup xs) → C M' H') : Foot M H P C :=
  ⟨a.std, a.nt, a.out, fun M' H' t k d n => h M' H' (a.on M' H' t k d n) (fun z => n p z xs hp) (t p xs hp)⟩
mutual
theorem At.foot {M : List Addr} {H : Hp} : ∀ {d : D} {v : V}, At M H d v → ∃ P, Foot M H P fun M' H' => At M' H' d v
  | .non, _, h => ⟨[], .nil fun _ _ => h⟩
  | .bl _, _, h => ⟨[], .nil fun _ _ => h⟩
  | .int _, _, h => ⟨[], .nil fun _ _ => h⟩
  | .str _, _, h => ⟨[], .nil fun _ _ => h⟩
  | .tup ds, _, h => by
    obtain ⟨p, xs, e, m, hp, hl⟩ := h
    obtain ⟨P, f⟩ := AtL.foot hl
    exact ⟨P, f.tup hp fun M' H' a b c => ⟨p, xs, e, b, c, a⟩⟩
  | .lst ds, _, h => by
    obtain ⟨p, xs, e, m, hp, hl⟩ := h
    obtain ⟨P, f⟩ := AtL.foot hl
    exact ⟨p :: P, f.put hp (fun _ z => nomatch z) m fun M' H' a b c => ⟨p, xs, e, b, c, a⟩⟩
  | .dct ds, _, h => by
    obtain ⟨p, xs, e, m, hp, hl⟩ := h
    obtain ⟨P, f⟩ := AtP.foot hl
    exact ⟨p :: P, f.put hp (fun _ z => nomatch z) m fun M' H' a b c => ⟨p, xs, e, b, c, a⟩⟩
theorem AtL.foot {M : List Addr} {H : Hp} : ∀ {ds : List D} {xs : List V}, AtL M H ds xs → ∃ P, Foot M H P fun M' H' => AtL M' H' ds xs
  | [], _, h => ⟨[], .nil fun _ _ => h⟩
  | d :: ds, _, h => by
    obtain ⟨x, r, e, h1, h2⟩ := h
    obtain ⟨P, f⟩ := At.foot h1
    obtain ⟨P', f'⟩ := AtL.foot h2
    exact ⟨P ++ P', f.two f' fun M' H' a b => ⟨x, r, e, a, b⟩⟩
theorem AtP.foot {M : List Addr} {H : Hp} : ∀ {ds : List (Str × D)} {xs : List (Key × V)}, AtP M H ds xs → ∃ P, Foot M H P fun M' H' => AtP M' H' ds xs
  | [], _, h => ⟨[], .nil fun _ _ => h⟩
  | (k, d) :: ds, _, h => by
    obtain ⟨x, r, e, h1, h2⟩ := h
    obtain ⟨P, f⟩ := At.foot h1
    obtain ⟨P', f'⟩ := AtP.foot h2
    exact ⟨P ++ P', f.two f' fun M' H' a b => ⟨x, r, e, a, b⟩⟩
end
theorem KOb.foot {K : PySem.W.Frag} {M : List Addr} {H : Hp} {a : Addr} {nm : Str} {L O : List (Str × D)} {R : List D} {h : Bool} (k : KOb K M H a nm L O R h) : ∃ P, a ∈ P ∧ Foot M H P fun M' H' => KOb K M' H' a nm L O R h := by
  obtain ⟨dx, l, o, r, m, e, h1, h2, h3⟩ := k
  obtain ⟨P1, f1⟩ := h1.foot
  obtain ⟨P2, f2⟩ := h2.foot
  obtain ⟨P3, f3⟩ := h3.foot
  exact ⟨a :: (P1 ++ (P2 ++ P3)), by simp, (f1.two (f2.two f3 fun M' H' a b => And.intro a b) fun M' H' a b => And.intro a b).put e (fun _ z => nomatch z) m fun M' H' q m' e' => ⟨dx, l, o, r, m', e', q.1, q.2.1, q.2.2⟩⟩
/-- what is new avoids what stood -/
theorem NewT.sep {H H' : Hp} {d : D} {v : V} {P : List Addr} (n : NewT H H' d v) (s : Std P H) (t : NoTup P H) : ∃ P', Foot P H' P' fun M' H'' => At M' H'' d v := (n P s t).foot
end Kb

set_option Elab.async false
set_option linter.all false
set_option maxRecDepth 100000
set_option maxHeartbeats 4000000
/-! Kb, 24: the machine's start; lists or tuples as drawn; a rule told loosely. -/
namespace Kb
open PySem PySem.Spec PyProof.Rows L2

/-! ### _law_state -/
def sp_l_state (K : PySem.W.Frag) : Sp := fun vs H Q _ => ∃ (s : Addr) (ns : List Int), vs = [.ref s] ∧ SqL K H s (ns.map V.int) ∧ ∀ a c H', H a = none → H c = none → StAt H' a c → But [] H H' → Q (.ref a) H'
theorem len_l_state {K : PySem.W.Frag} {vs : List V} {H : Hp} {Q : VK} {E : XK} (h : sp_l_state K vs H Q E) : vs.length = 1 := by
  obtain ⟨_, _, rfl, _⟩ := h
  rfl
def t_l_state (K : PySem.W.Frag) : TS :=
  (tSeq (tAsg (tLc (iList K (tSl (rSlL K) (tVar 0) tNoPart (tPart (tC (.int 63))))) (gName 2) tYes (tCB rAbs (tCons (tCB rInt1 (tCons (tVar 2) tNil)) tNil)) [2]) (gName 1))
  (tSeq (tIfS (tTest (tOp (rEqD K) (tVar 1) (tLst tNil)))
    (tAsg (tLst (tCons (tC (.int 0)) tNil)) (gName 1))
    tNext)
  (tRet (tLst (tCons (tVar 1) (tCons (tC (.int 0)) (tCons (tC (.int 0)) tNil)))))))
theorem okF_ints {ns : List Int} : (ns.map V.int).all okF = true := by
  rw [List.all_map]
  exact List.all_eq_true.mpr fun _ _ => rfl
theorem pure_l_state {K : PySem.W.Frag} (vs : List V) (H : Hp) (Q : VK) (E : XK) (h : sp_l_state K vs H Q E) : t_l_state K (fin Q) (st0 3 vs) H := by
  obtain ⟨s, ns, rfl, hs, k⟩ := h
  refine ⟨_, rfl, 63, rfl, _, _, rfl, hs, fun q hq => ?_⟩
  rw [show cutV (ns.map V.int) none (some 63) = (ns.take 63).map V.int by rw [List.map_take]; exact cutN (n := 63)]
  have B1 : But [] H (upd H q (.lst ((ns.take 63).map V.int))) := But.new hq
  have u1 : (upd H q (.lst ((ns.take 63).map V.int))) q = some (.lst ((ns.take 63).map V.int)) := upd_same
  generalize upd H q (.lst ((ns.take 63).map V.int)) = H1 at B1 u1 ⊢
  have hlen : (ns.take 63).length ≤ 63 := by rw [List.length_take]; omega
  generalize ns.take 63 = ms at u1 hlen ⊢
  have ml : (ms.map V.int).length = ms.length := List.length_map ..
  refine ⟨q, rfl, ⟨_, SqL.of u1⟩, lc_map (j := 2) (σ := [some (.ref s), none, none]) (Q := fun x H2 => gName 1 x [some (.ref s), none, none] H2 (tSeq
    (tIfS (tTest (tOp (rEqD K) (tVar 1) (tLst tNil))) (tAsg (tLst (tCons (tC (.int 0)) tNil)) (gName 1)) tNext)
    (tRet (tLst (tCons (tVar 1) (tCons (tC (.int 0)) (tCons (tC (.int 0)) tNil))))) (fin Q))) (te := tCB rAbs (tCons (tCB rInt1 (tCons (tVar 2) tNil)) tNil)) (walk_list (K := K) (a := q) (xs := ms.map V.int)) (fun H' b => SqL.of (b.keep _ _ (by simp) u1)) (fun n => V.int ((ms.getD n 0).natAbs : Nat)) (by omega) But.refl ?_ ?_⟩
  · intro n y H2 hy b2 Q' q'
    rw [List.getElem?_map] at hy
    obtain ⟨m, hm, rfl⟩ := Option.map_eq_some_iff.mp hy
    refine ⟨_, rfl, .inl ⟨m, rfl, m, rfl, ?_⟩⟩
    have e : ms.getD n 0 = m := by rw [List.getD_eq_getElem?_getD, hm]; rfl
    have := q' H2 But.refl
    rw [e] at this
    rw [show (if m < 0 then -m else m) = ((m.natAbs : Nat) : Int) by split <;> omega]
    exact this
  · intro c H2 hc hc2 b2
    have ec : (List.range (ms.map V.int).length).map (fun n => V.int ((ms.getD n 0).natAbs : Nat)) = (ms.map fun m => ((m.natAbs : Nat) : Int)).map V.int := by
      rw [ml]
      refine List.ext_getElem? fun n => ?_
      rw [List.getElem?_map, List.getElem?_map, List.getElem?_map]
      by_cases h : n < ms.length
      · rw [List.getElem?_range h, List.getElem?_eq_getElem h]
        show some (V.int ((ms.getD n 0).natAbs : Nat)) = some (V.int (ms[n].natAbs : Nat))
        rw [List.getD_eq_getElem?_getD, List.getElem?_eq_getElem h]
        rfl
      · rw [List.getElem?_eq_none (by rw [List.length_range]; omega), List.getElem?_eq_none (by omega)]
        rfl
    rw [ec] at hc2
    have hcl : (ms.map fun m => ((m.natAbs : Nat) : Int)).length ≤ 63 := by rw [List.length_map]; exact hlen
    generalize (ms.map fun m => ((m.natAbs : Nat) : Int)) = ks at hc2 hcl
    have B2 := B1.trans b2
    have hc0 : H c = none := B1.free hc
    -- what is told at the end
    have done : ∀ (c' : Addr) (H3 : Hp) (ks' : List Int), H3 c' = some (.lst (ks'.map V.int)) → ks' ≠ [] → ks'.length ≤ 63 → H c' = none → But [] H H3 →
        tRet (tLst (tCons (tVar 1) (tCons (tC (.int 0)) (tCons (tC (.int 0)) tNil)))) (fin Q) [some (.ref s), some (.ref c'), none] H3 := fun c' H3 ks' h3 ne l3 hc' b3 => by
      refine ⟨_, rfl, by show 3 ≤ sizeLine; decide, fun a ha => ?_⟩
      have ca : c' ≠ a := ne_of_none h3 ha
      refine k a c' _ (b3.free ha) hc' ⟨Ne.symm ca, ⟨0, 0, upd_same⟩, ks', by rw [upd_ne ca]; exact h3, ne, l3⟩ (b3.upd' ha)
    refine ⟨_, rfl, sz0, fun e1 he1 => ?_⟩
    have c1 : c ≠ e1 := ne_of_none hc2 he1
    refine eqE (xs := ks.map V.int) (by rw [upd_ne c1]; exact hc2) okF_ints upd_same ⟨_, rfl, ?_⟩
    cases ks with
    | nil =>
      refine iteT ⟨by show 1 ≤ sizeLine; decide, fun e2 he2 => ?_⟩
      exact done e2 _ [0] upd_same (by simp) (by simp) ((B2.upd' he1).free he2) ((B2.upd' he1).upd' he2)
    | cons k0 kr =>
      exact iteF (done c _ (k0 :: kr) (by rw [upd_ne c1]; exact hc2) (by simp) hcl hc0 (B2.upd' he1))

/-! ### _law_loose -/
def sp_l_loose (K : PySem.W.Frag) : Sp := fun vs H Q _ => ∃ (a c r : Addr) (xs : List V), vs = [.ref a, .ref r] ∧ StAt H a c ∧ r ∉ [a, c] ∧ (H r = some (.lst xs) ∨ H r = some (.tup xs)) ∧
  ∀ (p : Addr) (H' : Hp), (H' p = some (.lst xs) ∧ H p = none ∨ H' p = some (.tup xs) ∧ (H p = none ∨ H p = some (.tup xs))) → StAt H' a c → But [a, c] H H' → Q (.ref p) H'
theorem len_l_loose {K : PySem.W.Frag} {vs : List V} {H : Hp} {Q : VK} {E : XK} (h : sp_l_loose K vs H Q E) : vs.length = 2 := by
  obtain ⟨_, _, _, _, rfl, _⟩ := h
  rfl
def t_l_loose (K : PySem.W.Frag) : TS :=
  (tSeq (tIfS (tTest (tOp rEq (tCall (sp_l_draw K) [] E0 (tCons (tVar 0) (tCons (tC (.int 2)) tNil))) (tC (.int 0))))
    (tRet (tCB (rListOf K) (tCons (tVar 1) tNil)))
    tNext)
  (tRet (tCB (rTupOf K) (tCons (tVar 1) tNil))))
theorem pure_l_loose {K : PySem.W.Frag} (vs : List V) (H : Hp) (Q : VK) (E : XK) (h : sp_l_loose K vs H Q E) : t_l_loose K (fin Q) (st0 2 vs) H := by
  obtain ⟨a, c, r, xs, rfl, S, hr, hx, k⟩ := h
  refine ⟨_, rfl, a, c, 2, rfl, S, by decide, by decide, fun n H1 e1 e2 S1 B1 => ⟨rfl, _, rfl, ?_⟩⟩
  have hx1 : H1 r = some (.lst xs) ∨ H1 r = some (.tup xs) := hx.imp (B1.keep _ _ hr) (B1.keep _ _ hr)
  have sq : SqL K H1 r xs ∨ SqT K H1 r xs := hx1.imp SqL.of SqT.of
  refine ite2 (fun _ => ?_) (fun _ => ?_)
  · exact ⟨_, rfl, r, xs, rfl, sq, fun l hl => k l _ (.inl ⟨upd_same, B1.free hl⟩) (S1.new hl) (B1.upd' hl)⟩
  · refine ⟨_, rfl, r, xs, rfl, ?_⟩
    rcases hx1 with hx1 | hx1
    · exact .inl ⟨SqL.of hx1, fun l hl => k l _ (.inr ⟨upd_same, .inl (B1.free hl)⟩) (S1.new hl) (B1.upd' hl)⟩
    · refine .inr ⟨SqT.of hx1, k r H1 (.inr ⟨hx1, ?_⟩) S1 B1⟩
      rcases hx with hx | hx
      · rw [B1.keep _ _ hr hx] at hx1
        cases hx1
      · exact .inr hx
/-- the datum that a drawn list or tuple of these parts is -/
def Seq2 (d : D) (ds : List D) : Prop := d = .lst ds ∨ d = .tup ds
theorem Seq2.items {d : D} {ds : List D} (h : Seq2 d ds) : d.isSeq = true ∧ d.items = ds := by
  rcases h with rfl | rfl <;> exact ⟨rfl, rfl⟩
/-- .. laid at p -/
theorem loose_new {H H0 H' : Hp} {p : Addr} {xs : List V} {ds : List D} (h : H' p = some (.lst xs) ∧ H0 p = none ∨ H' p = some (.tup xs) ∧ (H0 p = none ∨ H0 p = some (.tup xs))) (b : But [] H H0) (n : NewTL H H' ds xs) : ∃ d, Seq2 d ds ∧ NewT H H' d (.ref p) := by
  rcases h with ⟨h1, h2⟩ | ⟨h1, h2⟩
  · exact ⟨.lst ds, .inl rfl, NewT.lstm n But.refl (b.free h2) h1⟩
  · refine ⟨.tup ds, .inr rfl, fun M s t => ⟨p, xs, rfl, fun m => ?_, h1, n M s t⟩⟩
    cases q : H p with
    | none => exact s p m q
    | some o =>
      have e := b.keep p o (by simp) q
      rcases h2 with h2 | h2
      · rw [e] at h2
        cases h2
      · rw [e] at h2
        exact t p m xs (q.trans h2)
end Kb

set_option Elab.async false
set_option linter.all false
set_option maxRecDepth 100000
set_option maxHeartbeats 4000000
/-! Kb, 25: _law_loose_rule. -/
namespace Kb
open PySem PySem.Spec PyProof.Rows L2

theorem perm_strs {ys : List V} {ns : List Str} (h : ys.Perm (ns.map V.str)) : ∃ ms : List Str, ms.Perm ns ∧ ys = ms.map V.str := by
  let g : V → Str := fun v => match v with
    | .str x => x
    | _ => ""
  refine ⟨ys.map g, ?_, ?_⟩
  · have := h.map g
    rw [List.map_map] at this
    have e : ns.map (g ∘ V.str) = ns := by
      have : (g ∘ V.str) = id := rfl
      rw [this, List.map_id]
    rw [e] at this
    exact this
  · rw [List.map_map]
    refine (List.map_id ys).symm.trans (List.map_congr_left fun y m => ?_)
    obtain ⟨x, _, rfl⟩ := List.mem_map.mp (h.mem_iff.mp m)
    rfl
/-- .. where the machine has drawn in between -/
theorem loose_new2 {H H0 H' : Hp} {a c p : Addr} {xs : List V} {ds : List D} (h : H' p = some (.lst xs) ∧ H0 p = none ∨ H' p = some (.tup xs) ∧ (H0 p = none ∨ H0 p = some (.tup xs))) (b : But [a, c] H H0) (S : StAt H0 a c) (n : NewTL H H' ds xs) :
    ∃ d, Seq2 d ds ∧ NewT H H' d (.ref p) := by
  rcases h with ⟨h1, h2⟩ | ⟨h1, h2⟩
  · exact ⟨.lst ds, .inl rfl, NewT.lstm n But.refl (b.free h2) h1⟩
  · refine ⟨.tup ds, .inr rfl, fun M s t => ⟨p, xs, rfl, fun m => ?_, h1, n M s t⟩⟩
    cases q : H p with
    | none => exact s p m q
    | some o =>
      rcases h2 with h2 | h2
      · exact b.stand p (ne_none q) h2
      · have e := b.keep p o (fun z => S.notup p z xs h2) q
        rw [e] at h2
        exact t p m xs (q.trans h2)
/-- a rule as it is told: lists or tuples, the names in any order -/
def LooseRule (f : Str) (ns : List Str) (rest : List D) (e : D) : Prop := ∃ (n : D) (ms : List Str), Seq2 e (.str f :: n :: rest) ∧ Seq2 n (ms.map D.str) ∧ ms.Perm ns
def sp_l_loose_rule (K : PySem.W.Frag) : Sp := fun vs H Q _ => ∃ (a c : Addr) (f : Str) (ns : List Str) (rest : List D) (v : V), vs = [.ref a, v] ∧ StAt H a c ∧ At [a, c] H (.tup (.str f :: nmD ns :: rest)) v ∧ rest.all D.isFlat = true ∧ rest.length ≤ 10 ∧ ns.length ≤ 10 ∧
  ∀ e w H', LooseRule f ns rest e → NewT H H' e w → StAt H' a c → But [a, c] H H' → Q w H'
theorem len_l_loose_rule {K : PySem.W.Frag} {vs : List V} {H : Hp} {Q : VK} {E : XK} (h : sp_l_loose_rule K vs H Q E) : vs.length = 2 := by
  obtain ⟨_, _, _, _, _, _, rfl, _⟩ := h
  rfl
def t_l_loose_rule (K : PySem.W.Frag) : TS :=
  (tRet (tCall (sp_l_loose K) [] E0 (tCons (tVar 0) (tCons (tOp rCat (tLst (tCons (tOp (rIx K) (tVar 1) (tC (.int 0))) (tCons (tCall (sp_l_loose K) [] E0 (tCons (tVar 0) (tCons (tCall (sp_l_shuffled K) [] E0 (tCons (tVar 0) (tCons (tCB (rListOf K) (tCons (tOp (rIx K) (tVar 1) (tC (.int 1))) tNil)) tNil))) tNil))) tNil))) (tCB (rListOf K) (tCons (tSl (fun x lo hi H Q => rSlL K x lo hi H Q ∨ rSlA K x lo hi H Q) (tVar 1) (tPart (tC (.int 2))) tNoPart) tNil))) tNil))))
theorem pure_l_loose_rule {K : PySem.W.Frag} (vs : List V) (H : Hp) (Q : VK) (E : XK) (h : sp_l_loose_rule K vs H Q E) : t_l_loose_rule K (fin Q) (st0 2 vs) H := by
  obtain ⟨a, c, f, ns, rest, v, rfl, S, hv, hf, r10, n10, k⟩ := h
  obtain ⟨r, xs, rfl, nr, hr, hl⟩ := hv
  obtain ⟨x0, _, rfl, h0, x1, rs, rfl, h1, hrs⟩ := hl
  obtain rfl : x0 = V.str f := h0
  obtain ⟨q, ys, rfl, nq, hq, hys⟩ := h1
  obtain ⟨e1, _⟩ := strs_at hys (List.all_eq_true.mpr fun d m => by
    obtain ⟨z, _, rfl⟩ := List.mem_map.mp m
    rfl)
  have e2 : strsOf (ns.map D.str) = ns := by
    have : ∀ l : List Str, strsOf (l.map D.str) = l := fun l => by
      induction l with
      | nil => rfl
      | cons a b ih => show a :: strsOf (b.map D.str) = _; rw [ih]
    exact this ns
  rw [e2] at e1
  subst e1
  have sr : SqV K H r (.str f :: .ref q :: rs) := .inr (SqT.of hr)
  have rl := hrs.length
  refine ⟨_, rfl, _, rfl, sr.ixR (i := 0) rfl rfl ?_⟩
  refine ⟨_, rfl, _, rfl, _, rfl, sr.ixR (i := 1) rfl rfl ⟨q, ns.map V.str, rfl, .inr (SqT.of hq), fun l hl => ?_⟩⟩
  refine ⟨a, c, l, ns.map V.str, rfl, S.new hl, S.no hl, upd_same, by rw [List.length_map]; omega, fun zs l2 H2 perm hl2 hl3 S2 B2 => ?_⟩
  obtain ⟨ms, mp, rfl⟩ := perm_strs perm
  have B02 : But [a, c] H H2 := (But.new hl).trans B2
  refine ⟨a, c, l2, ms.map V.str, rfl, S2, (S.new hl).no hl2, .inl hl3, fun p H3 hp S3 B3 => ?_⟩
  have B03 := B02.trans B3
  obtain ⟨nd, s2, nn⟩ := loose_new2 (ds := ms.map D.str) hp B02 S2 (fun M s t => AtL.strs)
  refine ⟨by show 2 ≤ sizeLine; decide, fun p1 hp1 => ?_⟩
  have S4 := S3.new (o := .lst [.str f, .ref p]) hp1
  have B04 : But [a, c] H (upd H3 p1 (.lst [.str f, .ref p])) := B03.upd' hp1
  have B34 : But [] H3 (upd H3 p1 (.lst [.str f, .ref p])) := But.new hp1
  have u4 : (upd H3 p1 (.lst [.str f, .ref p])) p1 = some (.lst [.str f, .ref p]) := upd_same
  have n4 := S3.no hp1
  generalize upd H3 p1 (.lst [.str f, .ref p]) = H4 at S4 B04 B34 u4 ⊢
  refine ⟨_, rfl, 2, rfl, sl2 (K := K) (.inr (SqT.of (B04.keep _ _ nr hr))) fun q4 H5 hq4 b5 => ⟨q4, rs, rfl, hq4, fun l4 hl4 => ?_⟩⟩
  have S6 := (S4.nil b5).new (o := .lst rs) hl4
  have B46 : But [] H4 (upd H5 l4 (.lst rs)) := b5.upd' hl4
  have u6 : (upd H5 l4 (.lst rs)) l4 = some (.lst rs) := upd_same
  generalize upd H5 l4 (.lst rs) = H6 at S6 B46 u6 ⊢
  refine ⟨p1, l4, [.str f, .ref p], rs, rfl, rfl, B46.keep _ _ (by simp) u4, u6, Nat.le_trans (by simp; omega) (show 20 ≤ sizeLine by decide), fun p5 hp5 => ?_⟩
  have S7 := S6.new (o := .lst ([.str f, .ref p] ++ rs)) hp5
  have B67 : But [] H6 (upd H6 p5 (.lst ([.str f, .ref p] ++ rs))) := But.new hp5
  have u7 : (upd H6 p5 (.lst ([.str f, .ref p] ++ rs))) p5 = some (.lst (.str f :: .ref p :: rs)) := upd_same
  have n7 := S6.no hp5
  generalize upd H6 p5 (.lst ([.str f, .ref p] ++ rs)) = H7 at S7 B67 u7 ⊢
  have B37 : But [] H3 H7 := (B34.trans B46).trans B67
  refine ⟨a, c, p5, _, rfl, S7, n7, .inl u7, fun w H8 hw S8 B8 => ?_⟩
  have B07 : But [a, c] H H7 := (B04.trans B46.nil).trans B67.nil
  have nn8 : NewT H H8 nd (.ref p) := nn.mono S.std S.notup (B37.nil.trans B8)
  obtain ⟨e, s3, ne⟩ := loose_new2 (ds := .str f :: nd :: rest) hw B07 S7 (fun M s t => ⟨_, _, rfl, rfl, _, _, rfl, nn8 M s t, AtL.flat hf hrs⟩)
  exact k e (.ref w) H8 ⟨nd, ms, s3, s2, mp⟩ ne S8 (B07.trans B8)
end Kb

set_option Elab.async false
set_option linter.all false
set_option maxRecDepth 100000
set_option maxHeartbeats 4000000
/-! Kb, 26: a dict filled over the shuffled keys of another one. -/
namespace Kb
open PySem PySem.Spec PyProof.Rows L2

/-- what is new over a later heap is new over an earlier one, but for objects that are no tuples -/
theorem NewT.pre2 {H1 H2 H3 : Hp} {M : List Addr} {e : D} {v : V} (n : NewT H2 H3 e v) (b : But M H1 H2) (s : Std M H2) (t : NoTup M H2) : NewT H1 H3 e v := fun M' s' t' => by
  refine At.mono' (M := M' ++ M) (fun p o m e => ⟨fun z => m (List.mem_append.mpr (.inl z)), e⟩) e v (n (M' ++ M) ((Std.but s' b).app s) (NoTup.app (fun y m xs z => ?_) t))
  by_cases q : y ∈ M
  · exact t y q xs z
  · cases e : H1 y with
    | none => exact s' y m e
    | some o =>
      have := b.keep y o q e
      rw [this] at z
      exact t' y m xs (by rw [e, z])
theorem StAt.std3 {H : Hp} {a c d : Addr} {o : HO} (S : StAt H a c) (h : H d = some o) : Std [d, a, c] H := Std.cons h S.std
theorem StAt.nt3 {H : Hp} {a c d : Addr} {o : HO} (S : StAt H a c) (h : H d = some o) (n : ∀ xs, o ≠ .tup xs) : NoTup [d, a, c] H := NoTup.cons h n S.notup
theorem set_other {σ : L2.St} {g i : Nat} {o : Option V} (h : i ≠ g) : (σ.set g o)[i]? = σ[i]? := List.getElem?_set_ne (Ne.symm h)
/-- for x in shuffled(list(kind[j])): d[x] = te -/
theorem for_put {K : PySem.W.Frag} {σ : L2.St} {a c kd d p : Addr} {j g dv : Nat} {kds : List (Str × D)} {kvs : List (Key × V)} {xs : List V} {H : Hp} {D : Ends} {te : TE}
    (h0 : σ[0]? = some (some (.ref a))) (h1 : σ[1]? = some (some (.ref kd))) (hdv : σ[dv]? = some (some (.ref d))) (g0 : g ≠ 0) (g1 : g ≠ 1) (gd : g ≠ dv) (gl : g < σ.length)
    (S : StAt H a c) (nk : kd ∉ [d, a, c]) (hk : H kd = some (.lst xs)) (hj : xs[j]? = some (.ref p)) (hp : H p = some (.dK kvs)) (hl : AtP [d, a, c] H kds kvs) (np : p ∉ [d, a, c])
    (nd : (keysD kds).Nodup) (hlen : kds.length ≤ 60) (hd : H d = some (.dK [])) (nda : d ∉ [a, c]) (R : Str → Kb.D → Prop)
    (step : ∀ n e, n ∈ keysD kds → kds.lookup n = some e → ∀ H2 (Q2 : VK), StAt H2 a c → But [d, a, c] H H2 → (∀ e' v H3, R n e' → NewT H2 H3 e' v → StAt H3 a c → But [a, c] H2 H3 → Q2 v H3) → te (σ.set g (some (.str n))) H2 Q2)
    (k : ∀ out kvs' o H', (keysD out).Perm (keysD kds) → (∀ x ∈ out, R x.1 x.2) → H' d = some (.dK kvs') → NewTP H H' out kvs' → StAt H' a c → But [d, a, c] H H' → D.nx (σ.set g o) H') :
    tFor (iList K (tCall (sp_l_shuffled K) [] E0 (tCons (tVar 0) (tCons (tCB rListK (tCons (tOp (rIxL K) (tVar 1) (tC (.int (j : Int)))) tNil)) tNil)))) (gName g) (sDPut (tVar dv) (tVar g) te) D σ H := by
  refine ⟨_, h0, _, h1, kd, xs, (j : Int), .ref p, rfl, rfl, SqL.of hk, at_of rfl hj, p, kvs, rfl, .inl hp, fun l0 hl0 => ?_⟩
  rw [keys_strs hl.keys]
  have kl : (keysD kds).length ≤ 60 := by rw [keysD, List.length_map]; exact hlen
  refine ⟨a, c, l0, (keysD kds).map V.str, rfl, S.new hl0, S.no hl0, upd_same, by rw [List.length_map]; omega, fun zs l1 H1 perm hl1 u1 S1 B1 => ?_⟩
  obtain ⟨ns, np', rfl⟩ := perm_strs perm
  have nnd : ns.Nodup := np'.nodup_iff.mpr nd
  have nlen : ns.length ≤ 60 := by rw [np'.length_eq]; exact kl
  have B01 : But [a, c] H H1 := (But.new hl0).trans B1
  have n1 : l1 ∉ [a, c] := (S.new hl0).no hl1
  have hd1 : H1 d = some (.dK []) := B01.keep _ _ nda hd
  have l1d : l1 ≠ d := fun z => by rw [z, hd1] at u1; cases u1
  have n1' : l1 ∉ [d, a, c] := not3 l1d n1
  have B01' : But [d, a, c] H H1 := B01.more sub2
  refine ⟨l1, rfl, ⟨_, SqL.of u1⟩, for_list (K := K) (a := l1) (xs := ns.map V.str) (fun i σ' H' => ∃ (o : Option V) (out : List (Str × Kb.D)) (kvs' : List (Key × V)), σ' = σ.set g o ∧ keysD out = ns.take i ∧ (∀ x ∈ out, R x.1 x.2) ∧ H' d = some (.dK kvs') ∧
      kvs'.map (·.1) = out.map (fun x => (Sum.inr x.1 : Key)) ∧ NewTP H H' out kvs' ∧ StAt H' a c ∧ H' l1 = some (.lst (ns.map V.str)) ∧ But [d, a, c] H H')
    ⟨σ[g]?.join, [], [], ?_, rfl, by simp, hd1, rfl, fun _ _ _ => rfl, S1, u1, B01'⟩ (fun i σ' H' _ ⟨_, _, _, _, _, _, _, _, _, _, q, _⟩ => SqL.of q) ?_ ?_⟩
  · have : σ[g]? = some σ[g] := List.getElem?_eq_getElem gl
    rw [this]
    show σ = σ.set g (σ[g])
    rw [List.set_getElem_self]
  · rintro i x σ' H2 hx ⟨o, out, kvs', rfl, o1, o2, o3, o4, o5, S2, u2, B2⟩
    rw [List.getElem?_map] at hx
    obtain ⟨n, hn, rfl⟩ := Option.map_eq_some_iff.mp hx
    have nm : n ∈ keysD kds := np'.mem_iff.mp (List.mem_of_getElem? hn)
    obtain ⟨e, v0, f1, _, _⟩ := hl.val nm
    have es : (σ.set g o).set g (some (.str n)) = σ.set g (some (.str n)) := List.set_set ..
    show sDPut (tVar dv) (tVar g) te _ ((σ.set g o).set g (some (.str n))) H2
    rw [es]
    refine step n e nm f1 H2 _ S2 B2 fun e' v H3 re nv S3 B3 => ?_
    have hno : (Sum.inr n : Key) ∉ kvs'.map (·.1) := keys_inr o4 fun m => by
      rw [show out.map (·.1) = ns.take i from o1] at m
      have : (ns.take (i + 1)).Nodup := nnd.sublist (List.take_sublist ..)
      rw [List.take_add_one, hn] at this
      exact (List.nodup_append.mp this).2.2 n m n (List.mem_singleton.mpr rfl) rfl
    have hl' : kvs'.length ≤ 60 := by
      rw [keys_len o4]
      have e2 := congrArg List.length o1
      rw [keysD, List.length_map, List.length_take] at e2
      omega
    have e1 : putK kvs' (Sum.inr n : Key) v = kvs' ++ [(Sum.inr n, v)] := putK_new _ (valV_none hno)
    have hd3 : H3 d = some (.dK kvs') := B3.keep _ _ nda o3
    refine ⟨_, (set_other (Ne.symm gd)).trans hdv, _, ?_, d, _, rfl, DPut.k (k := Sum.inr n) hd3 (small1000 (by omega)), ?_⟩
    · exact List.getElem?_set_self gl
    have B23 : But [d, a, c] H2 (upd H3 d (.dK (putK kvs' (Sum.inr n) v))) := (B3.more sub2).upd (.inl (by simp))
    refine ⟨_, out ++ [(n, e')], kvs' ++ [(Sum.inr n, v)], rfl, ?_, ?_, by rw [upd_same, e1], ?_, ?_, S3.upd nda, ?_, B2.trans B23⟩
    · rw [keysD, List.map_append, show out.map (·.1) = ns.take i from o1, List.take_add_one, hn]
      rfl
    · intro y m
      rcases List.mem_append.mp m with m | m
      · exact o2 y m
      · rw [List.mem_singleton.mp m]
        exact re
    · rw [List.map_append, List.map_append, o4]
      rfl
    · have nv' : NewT H H3 e' v := nv.pre2 B2 (S2.std3 o3) (S2.nt3 o3 fun _ z => nomatch z)
      exact NewTP.mono (M := [d]) ((o5.mono S.std S.notup B3).snoc nv') (Std.cons hd Std.nil) (NoTup.cons hd (fun _ z => nomatch z) NoTup.nil) (But.refl.upd (.inl (by simp)))
    · rw [upd_ne l1d]
      exact B3.keep _ _ n1 u2
  · rintro σ' H2 ⟨o, out, kvs', rfl, o1, o2, o3, o4, o5, S2, u2, B2⟩
    rw [List.length_map, List.take_length] at o1
    exact k out kvs' o H2 (by rw [o1]; exact np') o2 o3 o5 S2 B2
end Kb

set_option Elab.async false
set_option linter.all false
set_option maxRecDepth 100000
set_option maxHeartbeats 4000000
/-! Kb, 27: _law_loose_parts. -/
namespace Kb
open PySem PySem.Spec PyProof.Rows L2

theorem But.dropNew {M : List Addr} {H H' : Hp} {x : Addr} {o : HO} (h : H x = none) (b : But (x :: M) (L2.upd H x o) H') : But M H H' := by
  refine ⟨fun a u m e => ?_, fun a e => ?_⟩
  · have ax : a ≠ x := ne_of_none e h
    exact b.keep a u (fun z => (List.mem_cons.mp z).elim ax m) (by rw [upd_ne ax]; exact e)
  · refine b.stand a ?_
    by_cases ax : a = x
    · rw [ax, upd_same]
      exact fun q => nomatch q
    · rw [upd_ne ax]
      exact e
theorem AtP.excl {M : List Addr} {H : Hp} {l : Addr} {kds : List (Str × D)} {kvs : List (Key × V)} (n : H l = none) (h : AtP M H kds kvs) : AtP (l :: M) H kds kvs := AtP.mono' (fun p o m e => ⟨fun z => by
  rcases List.mem_cons.mp z with z | z
  · rw [z, n] at e
    cases e
  · exact m z, e⟩) kds kvs h
def Rule.form : Rule → Str
  | .bar _ => "bar"
  | .tell _ _ => "tell"
  | .self _ => "self"
  | .give _ _ _ => "give"
  | .send _ _ _ _ _ => "send"
def Rule.rest : Rule → List D
  | .bar _ => []
  | .tell _ v => [.str v]
  | .self _ => []
  | .give _ l b => [.str l, .str (man b)]
  | .send _ l u b w => [.str l, .str u, .str (man b), .bl w]
theorem Rule.d_eq (r : Rule) : r.d = .tup (.str r.form :: nmD r.names :: r.rest) := by cases r <;> rfl
theorem Rule.rest_flat (r : Rule) : r.rest.all D.isFlat = true ∧ r.rest.length ≤ 10 := by cases r <;> exact ⟨rfl, by simp [Rule.rest]⟩
theorem Own.d_tup (o : Own) : ∃ ds, o.d = .tup ds ∧ ds.all D.isFlat = true := by cases o <;> exact ⟨_, rfl, rfl⟩
/-- the parts of a kind as they are told -/
structure LooseOk (k : KD) (L O : List (Str × D)) (R : List D) : Prop where
  lp : (keysD L).Perm k.lks
  l : ∀ x ∈ L, ∃ ys ms : List Str, (x.1, ys) ∈ k.links ∧ x.2 = .lst (ms.map D.str) ∧ ms.Perm ys
  op : (keysD O).Perm (k.own.map (·.1))
  o : ∀ x ∈ O, ∃ o, (x.1, o) ∈ k.own ∧ Seq2 x.2 o.d.items
  rl : R.length = k.rules.length
  r : ∀ (i : Nat) (r : Rule) (e : D), k.rules[i]? = some r → R[i]? = some e → LooseRule r.form r.names r.rest e
/-- what bounds a kind that is drawn -/
structure KdFit (k : KD) : Prop where
  ld : k.lks.Nodup
  ll : k.links.length ≤ 10
  lc : ∀ p ∈ k.links, p.2.length ≤ 10
  od : (k.own.map (·.1)).Nodup
  ol : k.own.length ≤ 10
  rl : k.rules.length ≤ 300
  rn : ∀ r ∈ k.rules, r.names.length ≤ 10
def sp_l_loose_parts (K : PySem.W.Frag) : Sp := fun vs H Q _ => ∃ (a c : Addr) (k : KD) (v : V), vs = [.ref a, v] ∧ StAt H a c ∧ At [a, c] H k.d v ∧ KdFit k ∧
  ∀ L O R w H', LooseOk k L O R → NewT H H' (.lst [.dct L, .dct O, .lst R]) w → StAt H' a c → But [a, c] H H' → Q w H'
theorem len_l_loose_parts {K : PySem.W.Frag} {vs : List V} {H : Hp} {Q : VK} {E : XK} (h : sp_l_loose_parts K vs H Q E) : vs.length = 2 := by
  obtain ⟨_, _, _, _, rfl, _⟩ := h
  rfl
def t_l_loose_parts (K : PySem.W.Frag) : TS :=
  (tSeq (tAsg tDNewK (gName 2))
  (tSeq (tFor (iList K (tCall (sp_l_shuffled K) [] E0 (tCons (tVar 0) (tCons (tCB rListK (tCons (tOp (rIxL K) (tVar 1) (tC (.int 1))) tNil)) tNil)))) (gName 3)
    (sDPut (tVar 2) (tVar 3) (tCall (sp_l_shuffled K) [] E0 (tCons (tVar 0) (tCons (tCB (rListOf K) (tCons (tDGet (tOp (rIxL K) (tVar 1) (tC (.int 1))) (tVar 3)) tNil)) tNil)))))
  (tSeq (tAsg tDNewK (gName 4))
  (tSeq (tFor (iList K (tCall (sp_l_shuffled K) [] E0 (tCons (tVar 0) (tCons (tCB rListK (tCons (tOp (rIxL K) (tVar 1) (tC (.int 2))) tNil)) tNil)))) (gName 5)
    (sDPut (tVar 4) (tVar 5) (tCall (sp_l_loose K) [] E0 (tCons (tVar 0) (tCons (tDGet (tOp (rIxL K) (tVar 1) (tC (.int 2))) (tVar 5)) tNil)))))
  (tRet (tLst (tCons (tVar 2) (tCons (tVar 4) (tCons (tLc (iList K (tOp (rIxL K) (tVar 1) (tC (.int 3)))) (gName 6) tYes (tCall (sp_l_loose_rule K) [] E0 (tCons (tVar 0) (tCons (tVar 6) tNil))) [6]) tNil)))))))))
theorem KD.parts {k : KD} {M : List Addr} {H : Hp} {v : V} (h : At M H k.d v) : ∃ kd p1 p2 p3 kv1 kv2 xs3, v = .ref kd ∧ kd ∉ M ∧ H kd = some (.lst [.str k.name, .ref p1, .ref p2, .ref p3, .bl k.hid]) ∧
    p1 ∉ M ∧ H p1 = some (.dK kv1) ∧ AtP M H (linkD k.links) kv1 ∧ p2 ∉ M ∧ H p2 = some (.dK kv2) ∧ AtP M H (ownD k.own) kv2 ∧ p3 ∉ M ∧ H p3 = some (.lst xs3) ∧ AtL M H (k.rules.map Rule.d) xs3 := by
  obtain ⟨kd, _, rfl, nk, hk, x0, _, rfl, h0, x1, _, rfl, h1, x2, _, rfl, h2, x3, _, rfl, h3, x4, _, rfl, h4, rfl⟩ := h
  obtain rfl : x0 = .str k.name := h0
  obtain rfl : x4 = .bl k.hid := h4
  obtain ⟨p1, kv1, rfl, n1, e1, l1⟩ := h1
  obtain ⟨p2, kv2, rfl, n2, e2, l2⟩ := h2
  obtain ⟨p3, xs3, rfl, n3, e3, l3⟩ := h3
  exact ⟨kd, p1, p2, p3, kv1, kv2, xs3, rfl, nk, hk, n1, e1, l1, n2, e2, l2, n3, e3, l3⟩
theorem keys_map {α : Type} {f : α → D} {l : List (Str × α)} : keysD (l.map fun p => (p.1, f p.2)) = l.map (·.1) := by
  rw [keysD, List.map_map]
  rfl
theorem lookup_map {α : Type} {f : α → D} : ∀ {l : List (Str × α)} {n : Str} {e : D}, (l.map fun p => (p.1, f p.2)).lookup n = some e → ∃ x, (n, x) ∈ l ∧ e = f x
  | [], _, _, h => by cases h
  | (k, x) :: l, n, e, h => by
    rw [List.map_cons, List.lookup_cons] at h
    by_cases z : n = k
    · rw [beq_iff_eq.mpr z] at h
      cases h
      rw [z]
      exact ⟨x, List.mem_cons_self, rfl⟩
    · rw [beq_eq_false_iff_ne.mpr z] at h
      obtain ⟨y, m, q⟩ := lookup_map h
      exact ⟨y, List.mem_cons_of_mem _ m, q⟩
theorem pure_l_loose_parts {K : PySem.W.Frag} (vs : List V) (H : Hp) (Q : VK) (E : XK) (h : sp_l_loose_parts K vs H Q E) : t_l_loose_parts K (fin Q) (st0 7 vs) H := by
  obtain ⟨a, c, k, v, rfl, S, hv, g, fin_⟩ := h
  intro d hd
  have S1 := S.new (o := .dK []) hd
  have hv1 : At [d, a, c] (upd H d (.dK [])) k.d v := (hv.excl hd).mono (But.new hd)
  have u1 : (upd H d (.dK [])) d = some (.dK []) := upd_same
  have nd1 := S.no hd
  have drop1 : ∀ H', But [d, a, c] (upd H d (.dK [])) H' → But [a, c] H H' := fun H' b => But.dropNew hd b
  have B01 : But [] H (upd H d (.dK [])) := But.new hd
  generalize upd H d (.dK []) = H1 at S1 hv1 u1 drop1 B01 ⊢
  obtain ⟨kd, p1, p2, p3, kv1, kv2, xs3, rfl, nk, hk, n1, e1, l1, n2, e2, l2, n3, e3, l3⟩ := KD.parts hv1
  refine for_put (K := K) (σ := [some (.ref a), some (.ref kd), some (.ref d), none, none, none, none]) (j := 1) rfl rfl rfl (by decide) (by decide) (by decide) (by simp) S1 nk hk rfl e1 l1 n1 (by rw [keys_map]; exact g.ld) (by rw [List.length_map]; exact Nat.le_trans g.ll (by decide)) u1 nd1
    (fun n e => ∃ ys ms : List Str, (n, ys) ∈ k.links ∧ e = .lst (ms.map D.str) ∧ ms.Perm ys) ?_ ?_
  · intro n e nm le H2 Q2 S2 B2 q
    obtain ⟨ys, my, rfl⟩ := lookup_map le
    obtain ⟨e', w, f1, f2, f3⟩ := (l1.mono B2).val nm
    rw [le] at f1
    cases f1
    obtain ⟨r, xs, rfl, _, hr, hx⟩ := f3
    obtain ⟨ex, _⟩ := strs_at hx (List.all_eq_true.mpr fun d m => by
      obtain ⟨z, _, rfl⟩ := List.mem_map.mp m
      rfl)
    have es : ∀ l : List Str, strsOf (l.map D.str) = l := fun l => by
      induction l with
      | nil => rfl
      | cons a b ih => show a :: strsOf (b.map D.str) = _; rw [ih]
    rw [es] at ex
    subst ex
    refine ⟨_, rfl, _, rfl, kd, _, 1, .ref p1, rfl, rfl, SqL.of (B2.keep _ _ nk hk), rfl, _, rfl, p1, .ref r, rfl, .inl ⟨kv1, .inr n, .inl (B2.keep _ _ n1 e1), rfl, f2.symm⟩, r, _, rfl, .inr (SqT.of hr), fun l hl => ?_⟩
    refine ⟨a, c, l, ys.map V.str, rfl, S2.new hl, S2.no hl, upd_same, by rw [List.length_map]; have := g.lc _ my; exact Nat.le_trans this (by decide), fun zs l2 H3 perm hl2 u3 S3 B3 => ?_⟩
    obtain ⟨ms, mp, rfl⟩ := perm_strs perm
    exact q _ _ H3 ⟨ys, ms, my, rfl, mp⟩ (NewT.lstm (H0 := H2) (fun M s t => AtL.strs) But.refl ((But.new (M := []) hl).free hl2) u3) S3 ((But.new hl).trans B3)
  · intro L kvs1 o H2 lp lok hd2 np1 S2 B2
    have B02 : But [a, c] H H2 := drop1 H2 B2
    intro d2 hd2'
    have S3 := S2.new (o := .dK []) hd2'
    have u3 : (upd H2 d2 (.dK [])) d2 = some (.dK []) := upd_same
    have nd2 := S2.no hd2'
    have drop2 : ∀ H', But [d2, a, c] (upd H2 d2 (.dK [])) H' → But [a, c] H2 H' := fun H' b => But.dropNew hd2' b
    have B23 : But [] H2 (upd H2 d2 (.dK [])) := But.new hd2'
    have sub : ∀ x ∈ [d2, a, c], x ∈ d2 :: [d, a, c] := fun x m => by
      simp only [List.mem_cons, List.not_mem_nil, or_false] at m ⊢
      rcases m with m | m | m
      · exact .inl m
      · exact .inr (.inr (.inl m))
      · exact .inr (.inr (.inr m))
    have hv3 : At [d2, a, c] (upd H2 d2 (.dK [])) k.d (.ref kd) := (((hv1.mono B2).excl hd2').mono (But.new hd2')).less sub
    generalize upd H2 d2 (.dK []) = H3 at S3 u3 drop2 B23 hv3 ⊢
    obtain ⟨kd', q1, q2, q3, kw1, kw2, ys3, ek, nk3, hk3, m1, g1, j1, m2, g2, j2, m3, g3, j3⟩ := KD.parts hv3
    cases ek
    refine for_put (K := K) (σ := [some (.ref a), some (.ref kd), some (.ref d), o, some (.ref d2), none, none]) (j := 2) rfl rfl rfl (by decide) (by decide) (by decide) (by simp) S3 nk3 hk3 rfl g2 j2 m2 (by rw [keys_map]; exact g.od) (by rw [List.length_map]; exact Nat.le_trans g.ol (by decide)) u3 nd2
      (fun n e => ∃ o, (n, o) ∈ k.own ∧ Seq2 e o.d.items) ?_ ?_
    · intro n e nm le H4 Q2 S4 B4 q
      obtain ⟨ow, my, rfl⟩ := lookup_map le
      obtain ⟨e', w, f1, f2, f3⟩ := (j2.mono B4).val nm
      rw [le] at f1
      cases f1
      obtain ⟨ds, ed, fl⟩ := ow.d_tup
      rw [ed] at f3
      obtain ⟨r, xs, rfl, nr, hr, hx⟩ := f3
      refine ⟨_, rfl, _, rfl, kd, _, 2, .ref q2, rfl, rfl, SqL.of (B4.keep _ _ nk3 hk3), rfl, _, rfl, q2, .ref r, rfl, .inl ⟨kw2, .inr n, .inl (B4.keep _ _ m2 g2), rfl, f2.symm⟩, ?_⟩
      refine ⟨a, c, r, xs, rfl, S4, fun z => nr (sub2 _ z), .inr hr, fun p H5 hw S5 B5 => ?_⟩
      obtain ⟨e, s3, ne⟩ := loose_new2 (ds := ds) hw But.refl S4 (fun M s t => AtL.flat fl hx)
      exact q e (.ref p) H5 ⟨ow, my, by rw [ed]; exact s3⟩ ne S5 B5
    · intro O kvs2 o2 H4 op ook hd4 np2 S4 B4
      have B24 : But [a, c] H2 H4 := drop2 H4 B4
      have B04 := B02.trans B24
      have hk4 := B4.keep _ _ nk3 hk3
      have g34 := B4.keep _ _ m3 g3
      have j34 := j3.mono B4
      refine ⟨_, rfl, _, rfl, _, rfl, kd, _, 3, .ref q3, rfl, rfl, SqL.of hk4, rfl, q3, rfl, ⟨_, SqL.of g34⟩, fun Dl hD => ?_⟩
      have S5 := S4.new (o := .lst []) hD
      have u5 : (upd H4 Dl (.lst [])) Dl = some (.lst []) := upd_same
      have nD := S4.no hD
      have B45 : But [] H4 (upd H4 Dl (.lst [])) := But.new hD
      have drop3 : ∀ H', But [Dl, a, c] (upd H4 Dl (.lst [])) H' → But [a, c] H4 H' := fun H' b => But.dropNew hD b
      have g35 : (upd H4 Dl (.lst [])) q3 = some (.lst ys3) := B45.keep _ _ (by simp) g34
      have sub' : ∀ x ∈ [Dl, a, c], x ∈ Dl :: [d2, a, c] := fun x m => by
        simp only [List.mem_cons, List.not_mem_nil, or_false] at m ⊢
        rcases m with m | m | m
        · exact .inl m
        · exact .inr (.inr (.inl m))
        · exact .inr (.inr (.inr m))
      have j35 : AtL [Dl, a, c] (upd H4 Dl (.lst [])) (k.rules.map Rule.d) ys3 := ((j34.excl hD).mono (But.new hD)).less sub'
      have nq3 : q3 ∉ [Dl, a, c] := not3 (fun z => by rw [z, hD] at g34; cases g34) (fun z => m3 (sub2 _ z))
      have yl := j3.length
      rw [List.length_map] at yl
      have rl := g.rl
      refine lc_it (walk_list (K := K) (a := q3) (xs := ys3)) (fun i H' => ∃ (es : List D) (ws : List V), H' Dl = some (.lst ws) ∧ es.length = i ∧ ws.length = i ∧ (∀ (n : Nat) (r : Rule) (e : D), k.rules[n]? = some r → es[n]? = some e → LooseRule r.form r.names r.rest e) ∧
          NewTL (upd H4 Dl (.lst [])) H' es ws ∧ StAt H' a c ∧ But [Dl, a, c] (upd H4 Dl (.lst [])) H') ⟨[], [], u5, rfl, rfl, fun _ _ _ _ z => (by simp at z), fun _ _ _ => rfl, S5, But.refl⟩ (fun i H' _ ⟨_, _, _, _, _, _, _, _, B⟩ => SqL.of (B.keep _ _ nq3 g35)) ?_ ?_
      · rintro i x H6 H7 hi ⟨es, ws, w1, w2, w3, w4, w5, S6, B6⟩ ⟨rfl, hx⟩
        obtain ⟨dr, hdr, har⟩ := (j35.mono B6).get hx
        rw [List.getElem?_map] at hdr
        obtain ⟨r, hr, rfl⟩ := Option.map_eq_some_iff.mp hdr
        rw [r.d_eq] at har
        refine ⟨rfl, _, rfl, _, rfl, a, c, r.form, r.names, r.rest, x, rfl, S6, har.less sub2, r.rest_flat.1, r.rest_flat.2, g.rn r (List.mem_of_getElem? hr), fun e w H8 lr nw S8 B8 => ?_⟩
        refine ⟨ws, B8.keep _ _ nD w1, small1000 (by omega), es ++ [e], ws ++ [w], upd_same, by simp [w2], by simp [w3], ?_, ?_, S8.upd nD, (B6.trans (B8.more sub2)).upd (.inl (by simp))⟩
        · intro n r' e' h1 h2
          by_cases hn : n < es.length
          · rw [List.getElem?_append_left hn] at h2
            exact w4 n r' e' h1 h2
          · have : n = i := by
              have := (List.getElem?_eq_some_iff.mp h2).1
              rw [List.length_append, List.length_singleton] at this
              omega
            subst this
            rw [List.getElem?_append_right (by omega), w2, Nat.sub_self] at h2
            rw [hr] at h1
            cases h1
            cases h2
            exact lr
        · exact NewTL.mono (M := [Dl]) ((w5.mono S5.std S5.notup B8).snoc (nw.pre2 B6 (S6.std3 w1) (S6.nt3 w1 fun _ z => nomatch z))) (Std.cons u5 Std.nil) (NoTup.cons u5 (fun _ z => nomatch z) NoTup.nil) (But.refl.upd (.inl (by simp)))
      · rintro H6 ⟨es, ws, w1, w2, w3, w4, w5, S6, B6⟩
        have B46 : But [a, c] H4 H6 := drop3 H6 B6
        refine ⟨by show 3 ≤ sizeLine; decide, fun p hp => ?_⟩
        have B67 : But [] H6 (upd H6 p (.lst [.ref d, .ref d2, .ref Dl])) := But.new hp
        have S7 := S6.new (o := .lst [.ref d, .ref d2, .ref Dl]) hp
        have u7 : (upd H6 p (.lst [.ref d, .ref d2, .ref Dl])) p = some (.lst [.ref d, .ref d2, .ref Dl]) := upd_same
        generalize upd H6 p (.lst [.ref d, .ref d2, .ref Dl]) = H7 at B67 S7 u7 ⊢
        have B27 : But [a, c] H2 H7 := (B24.trans B46).trans B67.nil
        have B47 : But [a, c] H4 H7 := B46.trans B67.nil
        have B07 := B02.trans B27
        have nL : NewT H H7 (.dct L) (.ref d) := NewT.dctm (np1.mono S1.std S1.notup B27) B01 hd (B27.keep _ _ nd1 hd2)
        have nO : NewT H H7 (.dct O) (.ref d2) := (NewT.dctm (np2.mono S3.std S3.notup B47) B23 hd2' (B47.keep _ _ nd2 hd4)).pre2 B02 S2.std S2.notup
        have nR : NewT H H7 (.lst es) (.ref Dl) := (NewT.lstm (H := H4) (w5.mono Std.nil NoTup.nil B67) B45 hD (B67.keep _ _ (by simp) w1)).pre2 B04 S4.std S4.notup
        refine fin_ L O es (.ref p) H7 ⟨?_, lok, ?_, ook, by omega, w4⟩ (NewT.lstm (fun M s t => ⟨_, _, rfl, nL M s t, _, _, rfl, nO M s t, _, _, rfl, nR M s t, rfl⟩) But.refl ((B04.trans B46).free hp) u7) S7 B07
        · rw [keys_map] at lp
          exact lp
        · rw [keys_map] at op
          exact op
end Kb

set_option Elab.async false
set_option linter.all false
set_option maxRecDepth 100000
set_option maxHeartbeats 4000000
/-! Kb, 28: _law_spoil_inside. -/
namespace Kb
open PySem PySem.Spec PyProof.Rows L2

/-- a list's parts don't hold the list -/
theorem At.lst' {A : List Addr} {H : Hp} {ds : List D} {v : V} (h : At A H (.lst ds) v) : ∃ p xs, v = .ref p ∧ p ∉ A ∧ H p = some (.lst xs) ∧ AtL (p :: A) H ds xs := by
  have hh := h.less (M' := []) (by simp)
  obtain ⟨p, xs, rfl, m, hp, hl⟩ := h
  exact ⟨p, xs, rfl, m, hp, AtL.out hh hl (by rw [D.sz]; omega)⟩
/-- lists out of A may have grown by n items at most; nothing else has changed -/
structure Grown (A : List Addr) (n : Nat) (H H' : Hp) : Prop where
  keep : ∀ x ∈ A, ∀ o, H x = some o → H' x = some o
  lst : ∀ x xs, H x = some (.lst xs) → ∃ zs, H' x = some (.lst (xs ++ zs)) ∧ zs.length ≤ n
  oth : ∀ x o, (∀ xs, o ≠ .lst xs) → H x = some o → H' x = some o
  stand : ∀ x, H x ≠ none → H' x ≠ none
theorem Grown.refl {A : List Addr} {n : Nat} {H : Hp} : Grown A n H H := ⟨fun _ _ _ e => e, fun x xs e => ⟨[], by rw [List.append_nil]; exact e, Nat.zero_le _⟩, fun _ _ _ e => e, fun _ e => e⟩
theorem Grown.mono {A : List Addr} {n m : Nat} {H H' : Hp} (g : Grown A n H H') (h : n ≤ m) : Grown A m H H' := ⟨g.keep, fun x xs e => let ⟨zs, a, b⟩ := g.lst x xs e; ⟨zs, a, Nat.le_trans b h⟩, g.oth, g.stand⟩
theorem Grown.less {A A' : List Addr} {n : Nat} {H H' : Hp} (g : Grown A n H H') (s : ∀ x ∈ A', x ∈ A) : Grown A' n H H' := ⟨fun x m => g.keep x (s x m), g.lst, g.oth, g.stand⟩
/-- one more item at l -/
theorem Grown.push {A : List Addr} {n : Nat} {H H' : Hp} {l : Addr} {xs zs : List V} {y : V} (g : Grown A n H H') (hl : H l = some (.lst xs)) (hl' : H' l = some (.lst (xs ++ zs))) (hz : zs.length ≤ n) (m : l ∉ A) : Grown A (n + 1) H (upd H' l (.lst (xs ++ zs ++ [y]))) := by
  refine ⟨fun x mx o e => ?_, fun x ys e => ?_, fun x o no e => ?_, fun x e => ?_⟩
  · rw [upd_ne (fun z : x = l => m (by rw [← z]; exact mx))]
    exact g.keep x mx o e
  · by_cases z : x = l
    · rw [z, hl] at e
      cases e
      exact ⟨zs ++ [y], by rw [z, upd_same, List.append_assoc], by simp; omega⟩
    · obtain ⟨ws, a, b⟩ := g.lst x ys e
      exact ⟨ws, by rw [upd_ne z]; exact a, by omega⟩
  · have z : x ≠ l := fun z => by
      rw [z, hl] at e
      cases e
      exact no xs rfl
    rw [upd_ne z]
    exact g.oth x o no e
  · by_cases z : x = l
    · rw [z, upd_same]
      exact fun q => nomatch q
    · rw [upd_ne z]
      exact g.stand x e
/-- x.append('more') -/
theorem do_more {K : PySem.W.Frag} {A : List Addr} {n : Nat} {H H' : Hp} {l : Addr} {xs : List V} {Q : VK} {σ : L2.St} (g : Grown A n H H') (hl : H l = some (.lst xs)) (m : l ∉ A) (hn : xs.length ≤ 1000) (hn2 : n ≤ 3000) (k : ∀ H2, Grown A (n + 1) H H2 → Q .non H2) :
    tyV K "list" (.ref l) H' ∧ tCons (tC (.str ("more" : Str))) tNil σ H' (fun vs H2 => rAppend (.ref l) vs H2 Q) := by
  obtain ⟨zs, a, b⟩ := g.lst l xs hl
  refine ⟨.inl ⟨rfl, _, SqL.of a⟩, l, _, _, rfl, rfl, a, Nat.lt_of_le_of_lt (m := 4000) (by rw [List.length_append]; omega) (by decide), k _ (g.push hl a b m)⟩
theorem Grown.rdk {A : List Addr} {n : Nat} {H H' : Hp} {p : Addr} {kvs : List (Key × V)} (g : Grown A n H H') (h : Rd H p (.dK kvs)) : Rd H' p (.dK kvs) := h.elim (fun e => .inl (g.oth _ _ (fun _ z => nomatch z) e)) fun ⟨o, e⟩ => .inr ⟨o, g.oth _ _ (fun _ z => nomatch z) e⟩
/-- an item of a list that may have grown -/
theorem Grown.at_ {K : PySem.W.Frag} {A : List Addr} {n : Nat} {H H' : Hp} {p : Addr} {xs : List V} {i : Nat} {v : V} (g : Grown A n H H') (h : H p = some (.lst xs)) (hi : xs[i]? = some v) : ∃ ys, SqL K H' p ys ∧ atI ys (i : Int) = some v := by
  obtain ⟨zs, a, _⟩ := g.lst p xs h
  refine ⟨xs ++ zs, SqL.of a, at_of rfl ?_⟩
  rw [List.getElem?_append_left (List.getElem?_eq_some_iff.mp hi).1]
  exact hi
/-- told parts, to be spoiled -/
structure SpoilOk (L O : List (Str × D)) (R : List D) : Prop where
  l : ∀ x ∈ L, ∃ ms : List Str, x.2 = .lst (ms.map D.str) ∧ ms ≠ [] ∧ ms.length ≤ 10
  o : ∀ x ∈ O, ∃ (z : Str) (r : List D), Seq2 x.2 (.str z :: r) ∧ r.length ≤ 10
  r : ∀ e ∈ R, ∃ (f : Str) (n : D) (rest : List D) (ms : List Str), Seq2 e (.str f :: n :: rest) ∧ Seq2 n (ms.map D.str) ∧ ms.length ≤ 10 ∧ rest.length ≤ 10
  ll : L.length ≤ 10
  ol : O.length ≤ 10
  rl : R.length ≤ 300
def sp_l_spoil_inside (K : PySem.W.Frag) : Sp := fun vs H Q _ => ∃ (A : List Addr) (p : Addr) (L O : List (Str × D)) (R : List D), vs = [.ref p] ∧ At A H (.lst [.dct L, .dct O, .lst R]) (.ref p) ∧ SpoilOk L O R ∧
  ∀ H', Grown (p :: A) 1000 H H' → Q .non H'
theorem len_l_spoil_inside {K : PySem.W.Frag} {vs : List V} {H : Hp} {Q : VK} {E : XK} (h : sp_l_spoil_inside K vs H Q E) : vs.length = 1 := by
  obtain ⟨_, _, _, _, _, rfl, _⟩ := h
  rfl
def t_l_spoil_inside (K : PySem.W.Frag) : TS :=
  (tSeq (tLock (tFor (iKeys (tOp (rIxL K) (tVar 0) (tC (.int 0)))) (gName 1)
    (tDrop (tBM K "list" rAppend (tDGet (tOp (rIxL K) (tVar 0) (tC (.int 0))) (tVar 1)) (tCons (tC (.str ("more" : Str))) tNil)))))
  (tSeq (tLock (tFor (iKeys (tOp (rIxL K) (tVar 0) (tC (.int 1)))) (gName 2)
    (tIfS (tB (tCB (rIsi K) (tCons (tDGet (tOp (rIxL K) (tVar 0) (tC (.int 1))) (tVar 2)) (tCons (tC (.ty "list")) tNil))))
    (tDrop (tBM K "list" rAppend (tDGet (tOp (rIxL K) (tVar 0) (tC (.int 1))) (tVar 2)) (tCons (tC (.str ("more" : Str))) tNil)))
    tNext)))
  (tFor (iList K (tOp (rIxL K) (tVar 0) (tC (.int 2)))) (gName 3)
    (tSeq (tIfS (tB (tCB (rIsi K) (tCons (tOp (rIx K) (tVar 3) (tC (.int 1))) (tCons (tC (.ty "list")) tNil))))
    (tDrop (tBM K "list" rAppend (tOp (rIx K) (tVar 3) (tC (.int 1))) (tCons (tC (.str ("more" : Str))) tNil)))
    tNext)
  (tIfS (tB (tCB (rIsi K) (tCons (tVar 3) (tCons (tC (.ty "list")) tNil))))
    (tDrop (tBM K "list" rAppend (tVar 3) (tCons (tC (.str ("more" : Str))) tNil)))
    tNext)))))
/-- a locked dict is let go again -/
theorem Grown.unlock {A : List Addr} {n : Nat} {H H' : Hp} {p : Addr} {kvs : List (Key × V)} {od : Obj} (h : H p = some (.dK kvs)) (g : Grown A n (upd H p (.frz od (.dK kvs))) H') : Grown A n H (upd H' p (.dK kvs)) := by
  refine ⟨fun x mx o e => ?_, fun x ys e => ?_, fun x o no e => ?_, fun x e => ?_⟩
  · by_cases z : x = p
    · rw [z, upd_same, ← e, z, h]
    · rw [upd_ne z]
      exact g.keep x mx o (by rw [upd_ne z]; exact e)
  · have z : x ≠ p := fun z => by rw [z, h] at e; cases e
    rw [upd_ne z]
    exact g.lst x ys (by rw [upd_ne z]; exact e)
  · by_cases z : x = p
    · rw [z, upd_same, ← e, z, h]
    · rw [upd_ne z]
      exact g.oth x o no (by rw [upd_ne z]; exact e)
  · by_cases z : x = p
    · rw [z, upd_same]
      exact fun q => nomatch q
    · rw [upd_ne z]
      exact g.stand x (by rw [upd_ne z]; exact e)
theorem Grown.trans {A : List Addr} {n m : Nat} {H H1 H2 : Hp} (a : Grown A n H H1) (b : Grown A m H1 H2) : Grown A (n + m) H H2 := by
  refine ⟨fun x mx o e => b.keep x mx o (a.keep x mx o e), fun x ys e => ?_, fun x o no e => b.oth x o no (a.oth x o no e), fun x e => b.stand x (a.stand x e)⟩
  obtain ⟨zs, a1, a2⟩ := a.lst x ys e
  obtain ⟨ws, b1, b2⟩ := b.lst x _ a1
  exact ⟨zs ++ ws, by rw [← List.append_assoc]; exact b1, by rw [List.length_append]; omega⟩
/-- like data but grown: what is read by isinstance -/
theorem Grown.ty {K : PySem.W.Frag} {A M : List Addr} {n : Nat} {H H' : Hp} {d : D} {v : V} (g : Grown A n H H') (h : At M H d v) : TyX K H' v (.type d.ty) := by
  cases d with
  | non => cases h; exact .base .non
  | bl b => cases h; exact .base (.bl b)
  | int b => cases h; exact .base (.int b)
  | str b => cases h; exact .base (.str b)
  | tup ds =>
    obtain ⟨p, xs, rfl, _, hp, _⟩ := h
    exact .base (.tup (g.oth _ _ (fun _ z => nomatch z) hp))
  | lst ds =>
    obtain ⟨p, xs, rfl, _, hp, _⟩ := h
    obtain ⟨zs, a, _⟩ := g.lst p xs hp
    exact .base (.lst a)
  | dct ds =>
    obtain ⟨p, xs, rfl, _, hp, _⟩ := h
    exact .base (.dK (g.oth _ _ (fun _ z => nomatch z) hp))
end Kb

set_option Elab.async false
set_option linter.all false
set_option maxRecDepth 100000
set_option maxHeartbeats 4000000
/-! Kb, 29: _law_spoil_inside keeps its promise. -/
namespace Kb
open PySem PySem.Spec PyProof.Rows L2

/-- the place of a list or tuple -/
theorem Seq2.place {A : List Addr} {H : Hp} {d : D} {ds : List D} {v : V} (s : Seq2 d ds) (h : At A H d v) : ∃ q xs, v = .ref q ∧ AtL A H ds xs ∧ ((d = .lst ds ∧ q ∉ A ∧ H q = some (.lst xs)) ∨ (d = .tup ds ∧ H q = some (.tup xs))) := by
  rcases s with rfl | rfl
  · obtain ⟨q, xs, e, m, hq, hl⟩ := h
    exact ⟨q, xs, e, hl, .inl ⟨rfl, m, hq⟩⟩
  · obtain ⟨q, xs, e, m, hq, hl⟩ := h
    exact ⟨q, xs, e, hl, .inr ⟨rfl, hq⟩⟩
/-- if isinstance(x, list): x.append('more') -/
theorem if_more {K : PySem.W.Frag} {A : List Addr} {n : Nat} {H H' : Hp} {q : Addr} {xs : List V} {tx : TE} {σ : L2.St} {D : Ends} {l : Bool} (g : Grown A n H H') (hx : ∀ Q' : VK, Q' (.ref q) H' → tx σ H' Q')
    (hq : if l = true then q ∉ A ∧ H q = some (.lst xs) else H q = some (.tup xs)) (hn : xs.length ≤ 1000) (hn2 : n ≤ 3000) (k : ∀ H2, Grown A (n + 1) H H2 → D.nx σ H2) :
    tIfS (tB (tCB (rIsi K) (tCons tx (tCons (tC (.ty "list")) tNil)))) (tDrop (tBM K "list" rAppend tx (tCons (tC (.str ("more" : Str))) tNil))) tNext D σ H' := by
  cases l with
  | true =>
    obtain ⟨m, hq⟩ := hq
    obtain ⟨zs, a, b⟩ := g.lst q xs hq
    refine hx _ ⟨.ref q, _, _, _, true, rfl, .ty _, .base (.lst a), kit_ty (show kitB "list" "list" = some true by decide +kernel), _, rfl, ?_⟩
    refine iteT (hx _ ?_)
    exact do_more (K := K) (Q := fun _ H' => D.nx σ H') g hq m hn hn2 k
  | false =>
    refine hx _ ⟨.ref q, _, _, _, false, rfl, .ty _, .base (.tup (g.oth _ _ (fun _ z => nomatch z) hq)), kit_ty (show kitB "tuple" "list" = some false by decide +kernel), _, rfl, ?_⟩
    exact iteF (k H' (g.mono (by omega)))
theorem lock_ne {H : Hp} {p x : Addr} {u w o : HO} (h : H p = some u) (hx : H x = some o) (ne : o ≠ u) : upd H p w x = some o := by
  rw [upd_ne (fun z => ne (by rw [z, h] at hx; exact (Option.some.inj hx).symm))]
  exact hx
theorem pure_l_spoil_inside {K : PySem.W.Frag} (vs : List V) (H : Hp) (Q : VK) (E : XK) (h : sp_l_spoil_inside K vs H Q E) : t_l_spoil_inside K (fin Q) (st0 4 vs) H := by
  obtain ⟨A, p, L, O, R, rfl, hv, ok, k⟩ := h
  obtain ⟨p', ys, e, npA, hp, hl⟩ := hv.lst'
  cases e
  obtain ⟨x1, _, rfl, h1, x2, _, rfl, h2, x3, _, rfl, h3, rfl⟩ := hl
  have h3' := h3
  obtain ⟨l3, xs3, rfl, nl3, hl3, hr3⟩ := h3.lst'
  obtain ⟨d1, kv1, rfl, nd1, hd1, a1⟩ := h1
  obtain ⟨d2, kv2, rfl, nd2, hd2, a2⟩ := h2
  have len1 := a1.length
  have len2 := a2.length
  have o1 := ok.ll
  have o2 := ok.ol
  -- what is told at l3 is no list of texts or own answer
  have no3 : ∀ (q : Addr) (z : D) (r : List D), (z.isStr = true) → At [] H (.lst (z :: r)) (.ref q) → q ≠ l3 := fun q z r hz hq e => by
    rw [e] at hq
    have := At.inj hq (h3'.less (M' := []) (by simp))
    cases this
    obtain ⟨f, n, rest, ms, s, _⟩ := ok.r z (by simp)
    rcases s with rfl | rfl <;> cases hz
  -- the links
  refine ⟨d1, .dK kv1, hd1, trivial, fun od => ?_⟩
  have pL : upd H d1 (.frz od (.dK kv1)) p = some (.lst [.ref d1, .ref d2, .ref l3]) := lock_ne hd1 hp (fun z => nomatch z)
  have fL : upd H d1 (.frz od (.dK kv1)) d1 = some (.frz od (.dK kv1)) := upd_same
  refine ⟨_, rfl, p, _, 0, .ref d1, rfl, rfl, SqL.of pL, rfl, d1, od, rfl, .inl ⟨kv1, fL, for_it walk_keys (fun i σ' H' => (∃ o, σ' = [some (.ref p), o, none, none]) ∧ Grown (l3 :: p :: A) i (upd H d1 (.frz od (.dK kv1))) H')
    ⟨⟨_, rfl⟩, .refl⟩ (fun i σ' H' _ q => q.2.oth _ _ (fun _ z => nomatch z) fL) ?_ ?_⟩⟩
  · rintro i x σ' H1 H2 hi ⟨⟨o, rfl⟩, g⟩ ⟨rfl, kk, vv, hk, rfl⟩
    obtain ⟨n, e, q1, rfl, _⟩ := a1.get hk
    have nm : n ∈ keysD L := List.mem_map.mpr ⟨_, List.mem_of_getElem? q1, rfl⟩
    obtain ⟨e', v, f1, f2, f3⟩ := a1.val nm
    obtain ⟨ms, em, mne, ml⟩ := ok.l _ (lookup_mem f1)
    have em : e' = .lst (ms.map D.str) := em
    subst em
    have f3' := f3.less (M' := []) (by simp)
    obtain ⟨l, xs, rfl, nl, hl, hx⟩ := f3
    have xl := hx.length
    rw [List.length_map] at xl
    have l3' : l ≠ l3 := by
      cases ms with
      | nil => exact absurd rfl mne
      | cons m0 mr => exact no3 l (.str m0) _ rfl f3'
    have nl' : l ∉ l3 :: p :: A := fun z => (List.mem_cons.mp z).elim l3' nl
    obtain ⟨ys, s1, s2⟩ := g.at_ (K := K) (i := 0) pL rfl
    refine ⟨_, rfl, p, ys, 0, .ref d1, rfl, rfl, s1, s2, _, rfl, d1, .ref l, rfl, .inl ⟨kv1, .inr n, .inr ⟨od, g.oth _ _ (fun _ z => nomatch z) fL⟩, rfl, f2.symm⟩, ?_⟩
    exact do_more (K := K) g (lock_ne hd1 hl (fun z => nomatch z)) nl' (by omega) (by omega) fun H3 g3 => ⟨⟨_, rfl⟩, g3⟩
  · rintro σ' H1 ⟨⟨o, rfl⟩, g⟩
    refine ⟨g.oth _ _ (fun _ z => nomatch z) fL, ?_⟩
    have g1 : Grown (l3 :: p :: A) 10 H (upd H1 d1 (.dK kv1)) := (g.unlock hd1).mono (by omega)
    generalize upd H1 d1 (.dK kv1) = Hb at g1 ⊢
    have hdb : Hb d2 = some (.dK kv2) := g1.oth _ _ (fun _ z => nomatch z) hd2
    have hpb : Hb p = some (.lst [.ref d1, .ref d2, .ref l3]) := g1.keep p (by simp) _ hp
    -- the own answers
    refine ⟨d2, .dK kv2, hdb, trivial, fun od => ?_⟩
    have pL : upd Hb d2 (.frz od (.dK kv2)) p = some (.lst [.ref d1, .ref d2, .ref l3]) := lock_ne hdb hpb (fun z => nomatch z)
    have fL : upd Hb d2 (.frz od (.dK kv2)) d2 = some (.frz od (.dK kv2)) := upd_same
    refine ⟨_, rfl, p, _, 1, .ref d2, rfl, rfl, SqL.of pL, rfl, d2, od, rfl, .inl ⟨kv2, fL, for_it walk_keys (fun i σ' H' => (∃ o2, σ' = [some (.ref p), o, o2, none]) ∧ Grown (l3 :: p :: A) i (upd Hb d2 (.frz od (.dK kv2))) H')
      ⟨⟨_, rfl⟩, .refl⟩ (fun i σ' H' _ q => q.2.oth _ _ (fun _ z => nomatch z) fL) ?_ ?_⟩⟩
    · rintro i x σ' H1 H2 hi ⟨⟨o', rfl⟩, g⟩ ⟨rfl, kk, vv, hk, rfl⟩
      obtain ⟨n, e, q1, rfl, _⟩ := a2.get hk
      have nm : n ∈ keysD O := List.mem_map.mpr ⟨_, List.mem_of_getElem? q1, rfl⟩
      obtain ⟨e', v, f1, f2, f3⟩ := a2.val nm
      obtain ⟨z, r, s, rl⟩ := ok.o _ (lookup_mem f1)
      have f3' := f3.less (M' := []) (by simp)
      obtain ⟨q, xs, rfl, hx, hq⟩ := s.place f3
      have xl := hx.length
      rw [List.length_cons] at xl
      have hget : ∀ Q' : VK, Q' (.ref q) H2 → tDGet (tOp (rIxL K) (tVar 0) (tC (.int 1))) (tVar 2) [some (.ref p), o, some (kV (Sum.inr n)), none] H2 Q' := fun Q' q' => by
        obtain ⟨ys, s1, s2⟩ := g.at_ (K := K) (i := 1) pL rfl
        exact ⟨_, rfl, p, ys, 1, .ref d2, rfl, rfl, s1, s2, _, rfl, d2, .ref q, rfl, .inl ⟨kv2, .inr n, .inr ⟨od, g.oth _ _ (fun _ z => nomatch z) fL⟩, rfl, f2.symm⟩, q'⟩
      rcases hq with ⟨rfl', m, hq⟩ | ⟨rfl', hq⟩
      · have q3 : q ≠ l3 := no3 q (.str z) r rfl (by rw [← rfl']; exact f3')
        obtain ⟨zs, b1, b2⟩ := g1.lst q xs hq
        exact if_more (K := K) (l := true) g hget ⟨fun z => (List.mem_cons.mp z).elim q3 m, lock_ne hdb b1 (fun z => nomatch z)⟩ (by rw [List.length_append]; omega) (by omega) fun H3 g3 => ⟨⟨_, rfl⟩, g3⟩
      · exact if_more (K := K) (l := false) g hget (lock_ne hdb (g1.oth _ _ (fun _ z => nomatch z) hq) (fun z => nomatch z)) (by omega) (by omega) fun H3 g3 => ⟨⟨_, rfl⟩, g3⟩
    · rintro σ' H1 ⟨⟨o', rfl⟩, g⟩
      refine ⟨g.oth _ _ (fun _ z => nomatch z) fL, ?_⟩
      have g2 : Grown (l3 :: p :: A) 20 H (upd H1 d2 (.dK kv2)) := (g1.trans ((g.unlock hdb).mono (m := 10) (by omega)))
      generalize upd H1 d2 (.dK kv2) = Hc at g2 ⊢
      -- the rules
      have hpc : Hc p = some (.lst [.ref d1, .ref d2, .ref l3]) := g2.keep p (by simp) _ hp
      have hlc : Hc l3 = some (.lst xs3) := g2.keep l3 (by simp) _ hl3
      have r3 := hr3.length
      have rl := ok.rl
      refine ⟨_, rfl, p, _, 2, .ref l3, rfl, rfl, SqL.of hpc, rfl, l3, rfl, ⟨_, SqL.of hlc⟩, for_list (K := K) (a := l3) (xs := xs3) (fun i σ' H' => (∃ o3, σ' = [some (.ref p), o, o', o3]) ∧ Grown (l3 :: p :: A) (20 + 2 * i) H H')
        ⟨⟨_, rfl⟩, g2⟩ (fun i σ' H' _ q => SqL.of (q.2.keep l3 (by simp) _ hl3)) ?_ ?_⟩
      · rintro i x σ' H2 hx ⟨⟨o3, rfl⟩, g⟩
        obtain ⟨e, he, ae⟩ := hr3.get hx
        have hi : i < xs3.length := (List.getElem?_eq_some_iff.mp hx).1
        obtain ⟨f, n, rest, ms, s, s2, ml, rl2⟩ := ok.r e (List.mem_of_getElem? he)
        obtain ⟨q, ws, rfl, hw, hq⟩ := s.place ae
        have wl := hw.length
        rw [List.length_cons, List.length_cons] at wl
        obtain ⟨w0, _, rfl, hw0, w1, wr, rfl, hw1, hwr⟩ := hw
        obtain ⟨q', us, rfl, hu, hq'⟩ := s2.place hw1
        have ul := hu.length
        rw [List.length_map] at ul
        have hget : ∀ Q' : VK, Q' (.ref q') H2 → tOp (rIx K) (tVar 3) (tC (.int 1)) [some (.ref p), o, o', some (.ref q)] H2 Q' := fun Q' q0 => by
          rcases hq with ⟨_, m, hq⟩ | ⟨_, hq⟩
          · obtain ⟨ys, s1, s2⟩ := g.at_ (K := K) (i := 1) hq rfl
            exact ⟨_, rfl, .inl ⟨q, ys, 1, .ref q', rfl, rfl, s1, s2, q0⟩⟩
          · exact ⟨_, rfl, .inr (.inl ⟨q, _, 1, .ref q', rfl, rfl, SqT.of (g.oth _ _ (fun _ z => nomatch z) hq), at_of (xs := w0 :: V.ref q' :: wr) (j := 1) rfl rfl, q0⟩)⟩
        have next : ∀ H3, Grown (l3 :: p :: A) (20 + 2 * i + 1) H H3 → tIfS (tB (tCB (rIsi K) (tCons (tVar 3) (tCons (tC (.ty "list")) tNil)))) (tDrop (tBM K "list" rAppend (tVar 3) (tCons (tC (.str ("more" : Str))) tNil))) tNext
            { fin Q with nx := fun σ' H' => (∃ o3, σ' = [some (.ref p), o, o', o3]) ∧ Grown (l3 :: p :: A) (20 + 2 * (i + 1)) H H', ct := fun σ' H' => (∃ o3, σ' = [some (.ref p), o, o', o3]) ∧ Grown (l3 :: p :: A) (20 + 2 * (i + 1)) H H', bk := (fin Q).nx } [some (.ref p), o, o', some (.ref q)] H3 := fun H3 g3 => by
          rcases hq with ⟨_, m, hq⟩ | ⟨_, hq⟩
          · exact if_more (K := K) (l := true) g3 (fun Q' q0 => ⟨_, rfl, q0⟩) ⟨m, hq⟩ (by rw [List.length_cons, List.length_cons] at *; omega) (by omega) fun H4 g4 => ⟨⟨_, rfl⟩, g4.mono (by omega)⟩
          · exact if_more (K := K) (l := false) g3 (fun Q' q0 => ⟨_, rfl, q0⟩) hq (by rw [List.length_cons, List.length_cons] at *; omega) (by omega) fun H4 g4 => ⟨⟨_, rfl⟩, g4.mono (by omega)⟩
        rcases hq' with ⟨_, m, hq'⟩ | ⟨_, hq'⟩
        · exact if_more (K := K) (l := true) g hget ⟨m, hq'⟩ (by omega) (by omega) next
        · exact if_more (K := K) (l := false) g hget hq' (by omega) (by omega) next
      · rintro σ' H2 ⟨_, g⟩
        exact k H2 ((g.less fun x m => List.mem_cons_of_mem _ m).mono (by omega))
end Kb

set_option Elab.async false
set_option linter.all false
set_option maxRecDepth 100000
set_option maxHeartbeats 4000000
/-! Kb, 30: what a Kind tells: name, hidden, links(), own(), rules(). -/
namespace Kb
open PySem PySem.Spec PyProof.Rows L2

/-- a field of the Kind at a -/
def sp_fld (f : Str) (K : PySem.W.Frag) : Sp := fun vs H Q _ => ∃ (a dx : Addr) (fs : List (Str × V)) (v : V), vs = [.ref a] ∧ Cls K (KC K) ∧ NoAttr K (KC K) f ∧ H a = some (.ins (KC K) dx fs) ∧ fs.lookup f = some v ∧ Q v H
theorem len_fld {f : Str} {K : PySem.W.Frag} {vs : List V} {H : Hp} {Q : VK} {E : XK} (h : sp_fld f K vs H Q E) : vs.length = 1 := by
  obtain ⟨_, _, _, _, rfl, _⟩ := h
  rfl
theorem pure_fld {f : Str} {K : PySem.W.Frag} {vs : List V} {H : Hp} {Q : VK} {E : XK} (h : sp_fld f K vs H Q E) : tRet (tFld K (tVar 0) f) (fin Q) (st0 1 vs) H := by
  obtain ⟨a, dx, fs, v, rfl, c, n, e, l, q⟩ := h
  exact ⟨_, rfl, a, KC K, dx, fs, v, rfl, e, c, n, l, q⟩
abbrev sp_Kind_name (K : PySem.W.Frag) : Sp := sp_fld "kind_name" K
theorem len_Kind_name {K : PySem.W.Frag} {vs : List V} {H : Hp} {Q : VK} {E : XK} (h : sp_Kind_name K vs H Q E) : vs.length = 1 := len_fld h
def t_Kind_name (K : PySem.W.Frag) : TS :=
  (tRet (tFld K (tVar 0) "kind_name"))
theorem pure_Kind_name {K : PySem.W.Frag} (vs : List V) (H : Hp) (Q : VK) (E : XK) (h : sp_Kind_name K vs H Q E) : t_Kind_name K (fin Q) (st0 1 vs) H := pure_fld h
abbrev sp_Kind_hidden (K : PySem.W.Frag) : Sp := sp_fld "is_hidden" K
theorem len_Kind_hidden {K : PySem.W.Frag} {vs : List V} {H : Hp} {Q : VK} {E : XK} (h : sp_Kind_hidden K vs H Q E) : vs.length = 1 := len_fld h
def t_Kind_hidden (K : PySem.W.Frag) : TS :=
  (tRet (tFld K (tVar 0) "is_hidden"))
theorem pure_Kind_hidden {K : PySem.W.Frag} (vs : List V) (H : Hp) (Q : VK) (E : XK) (h : sp_Kind_hidden K vs H Q E) : t_Kind_hidden K (fin Q) (st0 1 vs) H := pure_fld h
/-- a copy of a table of the Kind at a -/
def sp_tab (f : Str) (K : PySem.W.Frag) : Sp := fun vs H Q E => sp_fld f K vs H (fun v H1 => ∃ l kvs, v = .ref l ∧ H1 l = some (.dK kvs) ∧ ∀ p, H1 p = none → Q (.ref p) (upd H1 p (.dK kvs))) E
theorem pure_tab {f : Str} {K : PySem.W.Frag} {vs : List V} {H : Hp} {Q : VK} {E : XK} (h : sp_tab f K vs H Q E) : tRet (tCB rDictD (tCons (tFld K (tVar 0) f) tNil)) (fin Q) (st0 1 vs) H := by
  obtain ⟨a, dx, fs, v, rfl, c, n, e, lk, l, kvs, rfl, hl, q⟩ := h
  exact ⟨_, rfl, a, KC K, dx, fs, _, rfl, e, c, n, lk, l, kvs, rfl, .inl hl, q⟩
abbrev sp_Kind_links (K : PySem.W.Frag) : Sp := sp_tab "link_table" K
theorem len_Kind_links {K : PySem.W.Frag} {vs : List V} {H : Hp} {Q : VK} {E : XK} (h : sp_Kind_links K vs H Q E) : vs.length = 1 := len_fld h
def t_Kind_links (K : PySem.W.Frag) : TS :=
  (tRet (tCB rDictD (tCons (tFld K (tVar 0) "link_table") tNil)))
theorem pure_Kind_links {K : PySem.W.Frag} (vs : List V) (H : Hp) (Q : VK) (E : XK) (h : sp_Kind_links K vs H Q E) : t_Kind_links K (fin Q) (st0 1 vs) H := pure_tab h
abbrev sp_Kind_own (K : PySem.W.Frag) : Sp := sp_tab "own_table" K
theorem len_Kind_own {K : PySem.W.Frag} {vs : List V} {H : Hp} {Q : VK} {E : XK} (h : sp_Kind_own K vs H Q E) : vs.length = 1 := len_fld h
def t_Kind_own (K : PySem.W.Frag) : TS :=
  (tRet (tCB rDictD (tCons (tFld K (tVar 0) "own_table") tNil)))
theorem pure_Kind_own {K : PySem.W.Frag} (vs : List V) (H : Hp) (Q : VK) (E : XK) (h : sp_Kind_own K vs H Q E) : t_Kind_own K (fin Q) (st0 1 vs) H := pure_tab h
def sp_Kind_rules (K : PySem.W.Frag) : Sp := fun vs H Q E => sp_fld "rule_list" K vs H (fun v H1 => ∃ l xs, v = .ref l ∧ H1 l = some (.lst xs) ∧ ∀ p, H1 p = none → Q (.ref p) (upd H1 p (.lst xs))) E
theorem len_Kind_rules {K : PySem.W.Frag} {vs : List V} {H : Hp} {Q : VK} {E : XK} (h : sp_Kind_rules K vs H Q E) : vs.length = 1 := len_fld h
def t_Kind_rules (K : PySem.W.Frag) : TS :=
  (tRet (tCB (rListOf K) (tCons (tFld K (tVar 0) "rule_list") tNil)))
theorem pure_Kind_rules {K : PySem.W.Frag} (vs : List V) (H : Hp) (Q : VK) (E : XK) (h : sp_Kind_rules K vs H Q E) : t_Kind_rules K (fin Q) (st0 1 vs) H := by
  obtain ⟨a, dx, fs, v, rfl, c, n, e, lk, l, xs, rfl, hl, q⟩ := h
  exact ⟨_, rfl, a, KC K, dx, fs, _, rfl, e, c, n, lk, l, xs, rfl, .inl (SqL.of hl), q⟩
/-- name in kind -/
def sp_Kind_contains (K : PySem.W.Frag) : Sp := fun vs H Q _ => ∃ (a dx o : Addr) (fs : List (Str × V)) (d : D) (x : V) (O : List (Str × D)) (kvs : List (Key × V)), vs = [.ref a, x] ∧ Cls K (KC K) ∧ NoAttr K (KC K) "own_table" ∧ H a = some (.ins (KC K) dx fs) ∧
  fs.lookup ("own_table" : Str) = some (V.ref o) ∧ H o = some (.dK kvs) ∧ kvs.map (·.1) = O.map (fun p => (Sum.inr p.1 : Key)) ∧ AtZ H d x ∧ Q (.bl (isLinkD d O)) H
theorem len_Kind_contains {K : PySem.W.Frag} {vs : List V} {H : Hp} {Q : VK} {E : XK} (h : sp_Kind_contains K vs H Q E) : vs.length = 2 := by
  obtain ⟨_, _, _, _, _, _, _, _, rfl, _⟩ := h
  rfl
def t_Kind_contains (K : PySem.W.Frag) : TS :=
  (tRet (tAndV (tCB (rIsi K) (tCons (tVar 1) (tCons (tC (.ty "str")) tNil))) (tDIn (tVar 1) (tFld K (tVar 0) "own_table"))))
theorem pure_Kind_contains {K : PySem.W.Frag} (vs : List V) (H : Hp) (Q : VK) (E : XK) (h : sp_Kind_contains K vs H Q E) : t_Kind_contains K (fin Q) (st0 2 vs) H := by
  obtain ⟨a, dx, o, fs, d, x, O, kvs, rfl, c, n, e, lk, ho, hk, hx, q⟩ := h
  refine ⟨_, rfl, x, _, _, _, d.isStr, rfl, .ty _, hx.ty, kit_str, _, rfl, ?_⟩
  cases hs : d.isStr with
  | false =>
    refine iteF ?_
    have : isLinkD d O = false := by cases d <;> first | rfl | (cases hs; done)
    rw [this] at q
    exact q
  | true =>
    refine iteT ?_
    obtain ⟨z, rfl⟩ : ∃ z, d = .str z := by cases d <;> first | exact ⟨_, rfl⟩ | (cases hs; done)
    obtain rfl : x = .str z := hx
    refine ⟨_, rfl, _, rfl, a, KC K, dx, fs, _, rfl, e, c, n, lk, o, _, rfl, .inl ⟨kvs, .inr z, .inl ho, rfl, rfl⟩, ?_⟩
    rw [valV_some hk]
    exact q
end Kb

set_option Elab.async false
set_option linter.all false
set_option maxRecDepth 100000
set_option maxHeartbeats 4000000
/-! Kb, 31: a Hook that tells an own class's properties and their getters, too. -/
namespace Kb
open PySem PySem.Spec PyProof.Rows L2

section
variable (K : PySem.W.Frag)
/-- the property f of the class x; its getter -/
abbrev prA (x f : Str) : Addr := He.ma K (He.ga K x) f
def gtA (x f : Str) : Addr := match PySem.W.recIn K (prA K x f) "property" with
  | some (.ref g :: _) => g
  | _ => 0
def prB (x f : Str) : Bool := He.eqO (PySem.W.findIn K (.ref (He.ga K x)) f) (some (some (.ref (prA K x f)))) &&
  (He.eqO (PySem.W.specialIn K (.ref (prA K x f)) "__get__") (some (some (.builtin "property.__get__"))) && (decide (PySem.W.takesIn K (.ref (prA K x f)) = some true) &&
    match PySem.W.recIn K (prA K x f) "property" with
    | some (.ref _ :: _) => true
    | _ => false))
/-- what stands at a, if it is a function -/
def fnB (a : Addr) : He.FnW := (K.lookup a).bind fun o => match o.data with
  | .func fd => some (fd.name, fd.qualname, fd.params, fd.body, fd.scope, fd.globals, fd.closure, fd.builtins)
  | _ => none
/-- a function without defaults at a -/
def fnC (a : Addr) (q : Str) : Bool := PySem.W.keepIn K (.ref a) && (match K.lookup a with
  | some ⟨_, _, .func fd, _⟩ => PySem.W.codeIn K fd.code q && He.dflB K fd.defaults []
  | _ => false)
end
theorem prB_ok {K : PySem.W.Frag} {x f : Str} (h : prB K x f = true) : PropOf K (He.ga K x) f (prA K x f) (gtA K x f) := by
  obtain ⟨h1, h⟩ := He.ba h
  obtain ⟨h2, h⟩ := He.ba h
  obtain ⟨h3, h4⟩ := He.ba h
  refine ⟨He.eqO_ok h1, He.eqO_ok h2, of_decide_eq_true h3, ?_⟩
  unfold gtA
  split at h4
  · next g r e =>
    rw [e]
    exact ⟨r, rfl⟩
  · cases h4
theorem fnB_ok {K : PySem.W.Frag} {a : Addr} {d : He.DefD} (e : fnB K a = d.val) (c : fnC K a d.qual = true) : ∃ fd, FunD K d.name d.qual d.params d.body d.scope [] [] a fd := by
  obtain ⟨kp, c2⟩ := He.ba c
  unfold fnB at e
  cases q : K.lookup a with
  | none =>
    rw [q] at c2
    cases c2
  | some o =>
    obtain ⟨oc, od, dt, osl⟩ := o
    rw [q] at c2 e
    cases dt with
    | func fd =>
      obtain ⟨n1, n2, n3, n4, n5, n6, n7, n8, n9, n10, n11, n12, n13, n14, n15⟩ := fd
      have e2 : (some (n1, n2, n3, n4, n5, n6, n7, n15) : He.FnW) = some (d.name, d.qual, d.params, .stmts d.body, d.scope, mainGlobals, [], builtinsNs) := e
      simp only [Option.some.injEq, Prod.mk.injEq] at e2
      obtain ⟨h1, h2, h3, h4, h5, h6, h7, h8⟩ := e2
      subst h1 h2 h3 h4 h5 h6 h7 h8
      obtain ⟨k1, k2⟩ := He.ba (show (PySem.W.codeIn K n13 d.qual && He.dflB K n8 []) = true from c2)
      exact ⟨_, ⟨oc, od, n8, n9, n10, n11, n12, n13, n14, osl, rfl, q, k1, He.dflB_ok k2, .inl rfl⟩, kp⟩
    | _ => cases c2
/-! ### the Hook -/
abbrev Pr : Type := Str × Str × He.DefD
abbrev AlK : Type := He.AlD × (Bool × List He.FnW)
def obK (fa : List He.Fa) (fn : List He.DefD) (pr : List Pr) (K : PySem.W.Frag) : AlK := (He.obsD fa fn K, (pr.all fun p => prB K p.1 p.2.1 && fnC K (gtA K p.1 p.2.1) p.2.2.qual, pr.map fun p => fnB K (gtA K p.1 p.2.1)))
def vaK (fn : List He.DefD) (pr : List Pr) : AlK := (He.valD fn, (true, pr.map fun p => p.2.2.val))
def Says (fa : List He.Fa) (fn : List He.DefD) (pr : List Pr) (K : PySem.W.Frag) : Prop := obK fa fn pr K = vaK fn pr
def obKG (n : Nat) (fa : List He.Fa) (fn : List He.DefD) (pr : List Pr) (g : Addr → Option Obj) : AlK := obK fa fn pr (He.frG g (He.asD g n))
def hookK (n : Nat) (fa : List He.Fa) (fn : List He.DefD) (pr : List Pr) : PySem.W.Hook where
  α := AlK
  obs := fun s => obKG n fa fn pr s.heap.get?
  val := fun _ => vaK fn pr
  says := fun _ h => ∃ K : PySem.W.Frag, K.In h ∧ Says fa fn pr K
  of := fun _ _ e => ⟨_, He.frG_in, e⟩
  keeps := fun _ _ _ ⟨K, hK, c⟩ k => ⟨K, PySem.W.Frag.In.keeps hK k, c⟩
theorem obKG_eq {n : Nat} {fa : List He.Fa} {fn : List He.DefD} {pr : List Pr} {g : Addr → Option Obj} {s : Shared} (h : ∀ a, g a = s.heap.get? a) : obKG n fa fn pr g = (hookK n fa fn pr).obs s := by
  have e : g = s.heap.get? := funext h
  rw [e] <;> rfl
section
variable {fa : List He.Fa} {fn : List He.DefD} {pr : List Pr} {K : PySem.W.Frag}
theorem Says.d (c : Says fa fn pr K) : He.SaysD fa fn K := congrArg (fun z : AlK => z.1) c
theorem Says.prop (c : Says fa fn pr K) (i : Nat) {p : Pr} (h : pr[i]? = some p := by rfl) : PropOf K (He.ga K p.1) p.2.1 (prA K p.1 p.2.1) (gtA K p.1 p.2.1) ∧ ∃ fd, FunD K p.2.2.name p.2.2.qual p.2.2.params p.2.2.body p.2.2.scope [] [] (gtA K p.1 p.2.1) fd := by
  have c2 : (pr.all fun p => prB K p.1 p.2.1 && fnC K (gtA K p.1 p.2.1) p.2.2.qual) = true := congrArg (fun z : AlK => z.2.1) c
  have e : pr.map (fun p => fnB K (gtA K p.1 p.2.1)) = pr.map fun p => p.2.2.val := congrArg (fun z : AlK => z.2.2) c
  have e2 : (pr.map fun p => fnB K (gtA K p.1 p.2.1))[i]? = (pr.map fun p => p.2.2.val)[i]? := by rw [e]
  rw [List.getElem?_map, List.getElem?_map, h] at e2
  obtain ⟨h1, h2⟩ := He.ba (List.all_eq_true.mp c2 p (List.mem_of_getElem? h))
  exact ⟨prB_ok h1, fnB_ok (Option.some.inj e2) h2⟩
end
end Kb

set_option Elab.async false
set_option linter.all false
set_option maxRecDepth 100000
set_option maxHeartbeats 4000000
/-! Kb, 32: what is drawn is good. -/
namespace Kb
open PySem PySem.Spec PyProof.Rows L2

theorem strsOf_map : ∀ l : List Str, strsOf (l.map D.str) = l
  | [] => rfl
  | a :: b => by
    show a :: strsOf (b.map D.str) = _
    rw [strsOf_map b]
theorem fine_ne {x : Str} (h : IsNE x) : (D.str x).fine = true := by
  rcases h with h | h
  · exact fine_name (nameB_iff.mpr h)
  · rw [h]
    decide +kernel
theorem fine_strs : ∀ {l : List Str}, (∀ x ∈ l, IsNE x) → fineL (l.map D.str) = true
  | [], _ => rfl
  | a :: b, h => by
    show ((D.str a).fine && fineL (b.map D.str)) = true
    rw [fine_ne (h a (by simp)), fine_strs fun x m => h x (by simp [m])]
    rfl
theorem Seq2.fine {d : D} {ds : List D} (s : Seq2 d ds) (h : ds.length ≤ 1000) (f : fineL ds = true) : d.fine = true := by
  rcases s with rfl | rfl
  · show (decide (ds.length ≤ 1000) && fineL ds) = true
    rw [decide_eq_true h, f]
    rfl
  · show (decide (ds.length ≤ 1000) && fineL ds) = true
    rw [decide_eq_true h, f]
    rfl
theorem all_ne {l : List Str} (h : ∀ x ∈ l, IsNE x) : (l.map D.str).all isNED = true := by
  rw [List.all_map]
  exact List.all_eq_true.mpr fun x m => neB_iff.mpr (h x m)
theorem all_name {l : List Str} (h : ∀ x ∈ l, IsName x) : (l.map D.str).all isNameD = true := by
  rw [List.all_map]
  exact List.all_eq_true.mpr fun x m => nameB_iff.mpr (h x m)
theorem choice_ok {d : D} {ms : List Str} (s : Seq2 d (ms.map D.str)) (h1 : ms ≠ []) (h4 : ms.length ≤ 4) (nd : ms.Nodup) (h : ∀ x ∈ ms, IsNE x) : isChoiceD d = true ∧ d.fine = true := by
  obtain ⟨e1, e2⟩ := s.items
  refine ⟨?_, s.fine (by rw [List.length_map]; omega) (fine_strs h)⟩
  unfold isChoiceD
  rw [e1, e2, all_ne h, strsOf_map, List.length_map, decide_eq_true nd, decide_eq_true h4, decide_eq_true (show 1 ≤ ms.length from List.length_pos_iff.mpr h1)]
  rfl
theorem names_ok' {d : D} {ms : List Str} (s : Seq2 d (ms.map D.str)) (h4 : ms.length ≤ 4) (nd : ms.Nodup) (h : ∀ x ∈ ms, IsName x) : isNamesD d = true ∧ d.fine = true := by
  obtain ⟨e1, e2⟩ := s.items
  refine ⟨?_, s.fine (by rw [List.length_map]; omega) (fine_strs fun x m => .inl (h x m))⟩
  unfold isNamesD
  rw [e1, e2, all_name h, strsOf_map, List.length_map, decide_eq_true nd, decide_eq_true h4]
  rfl
theorem link_ok {l : Str} {L : List (Str × D)} (h : l ∈ keysD L) : isLinkD (.str l) L = true := decide_eq_true h
theorem own_ok {d : D} {o : Own} {L : List (Str × D)} {lks : List Str} (s : Seq2 d o.d.items) (ok : o.ok lks) (p : (keysD L).Perm lks) (hl : ∀ l ∈ lks, IsName l) : isOwnD d L = true ∧ d.fine = true := by
  obtain ⟨e1, e2⟩ := s.items
  cases o with
  | val v =>
    have hv : IsName v := ok
    refine ⟨?_, s.fine (by show 2 ≤ 1000; decide) ?_⟩
    · unfold isOwnD
      rw [e2]
      show (d.isSeq && (!decide (("value" : Str) = "self") && (if ("value" : Str) = "value" then isNameD (.str v) else _))) = true
      rw [e1, if_pos rfl, show isNameD (.str v) = true from nameB_iff.mpr hv]
      decide +kernel
    · show ((D.str "value").fine && ((D.str v).fine && true)) = true
      rw [fine_ne (.inl hv)]
      decide +kernel
  | self =>
    refine ⟨?_, s.fine (by decide) (by decide +kernel)⟩
    unfold isOwnD
    rw [e2]
    show (d.isSeq && decide (("self" : Str) = "self")) = true
    rw [e1]
    decide +kernel
  | link l =>
    have hm : l ∈ lks := ok
    refine ⟨?_, s.fine (by show 2 ≤ 1000; decide) ?_⟩
    · unfold isOwnD
      rw [e2]
      show (d.isSeq && (!decide (("link" : Str) = "self") && (if ("link" : Str) = "value" then _ else decide (("link" : Str) = "link") && isLinkD (.str l) L))) = true
      rw [e1, if_neg (by decide +kernel), link_ok (p.mem_iff.mpr hm)]
      decide +kernel
    · show ((D.str "link").fine && ((D.str l).fine && true)) = true
      rw [fine_ne (.inl (hl l hm))]
      decide +kernel
theorem man_ok {b : Bool} : isMannerD (.str (man b)) = true := by cases b <;> decide +kernel
theorem fine_man {b : Bool} : (D.str (man b)).fine = true := by cases b <;> decide +kernel
theorem rest_ok {r : Rule} {asked lks : List Str} {L : List (Str × D)} (ok : r.ok asked lks) (p : (keysD L).Perm lks) (hl : ∀ l ∈ lks, IsName l) (ha : ∀ n ∈ asked, IsName n) : isRestD r.form r.rest L = true ∧ fineL r.rest = true := by
  obtain ⟨_, _, ok⟩ := ok
  cases r with
  | bar ns => exact ⟨by show (if ("bar" : Str) = "bar" ∨ ("bar" : Str) = "self" then _ else _) = true; rw [if_pos (.inl rfl)]; rfl, rfl⟩
  | self ns => exact ⟨by show (if ("self" : Str) = "bar" ∨ ("self" : Str) = "self" then _ else _) = true; rw [if_pos (.inr rfl)]; rfl, rfl⟩
  | tell ns v =>
    have hv : IsName v := ok
    refine ⟨?_, ?_⟩
    · show (if ("tell" : Str) = "bar" ∨ ("tell" : Str) = "self" then _ else if ("tell" : Str) = "tell" then isNameD (.str v) else _) = true
      rw [if_neg (by decide +kernel), if_pos rfl]
      exact nameB_iff.mpr hv
    · show ((D.str v).fine && true) = true
      rw [fine_ne (.inl hv)]
      rfl
  | give ns l b =>
    have hm : l ∈ lks := ok
    refine ⟨?_, ?_⟩
    · show (if ("give" : Str) = "bar" ∨ ("give" : Str) = "self" then _ else if ("give" : Str) = "tell" then _ else if ("give" : Str) = "give" then (isLinkD (.str l) L && isMannerD (.str (man b))) else _) = true
      rw [if_neg (by decide +kernel), if_neg (by decide +kernel), if_pos rfl, link_ok (p.mem_iff.mpr hm), man_ok]
      rfl
    · show ((D.str l).fine && ((D.str (man b)).fine && true)) = true
      rw [fine_ne (.inl (hl l hm)), fine_man]
      rfl
  | send ns l u b w =>
    obtain ⟨hm, hu⟩ : l ∈ lks ∧ (u = "" ∨ u ∈ asked) := ok
    have nu : IsNE u := hu.elim .inr fun m => .inl (ha u m)
    refine ⟨?_, ?_⟩
    · show (if ("send" : Str) = "bar" ∨ ("send" : Str) = "self" then _ else if ("send" : Str) = "tell" then _ else if ("send" : Str) = "give" then _ else decide (("send" : Str) = "send") && (isLinkD (.str l) L && (isNED (.str u) && (isMannerD (.str (man b)) && isFlagD (.bl w))))) = true
      rw [if_neg (by decide +kernel), if_neg (by decide +kernel), if_neg (by decide +kernel), link_ok (p.mem_iff.mpr hm), show isNED (.str u) = true from neB_iff.mpr nu, man_ok, decide_eq_true (rfl : ("send" : Str) = "send")]
      rfl
    · show ((D.str l).fine && ((D.str u).fine && ((D.str (man b)).fine && ((D.bl w).fine && true)))) = true
      rw [fine_ne (.inl (hl l hm)), fine_ne nu, fine_man]
      rfl
theorem rule_ok {e : D} {r : Rule} {asked lks : List Str} {L : List (Str × D)} (lr : LooseRule r.form r.names r.rest e) (ok : r.ok asked lks) (p : (keysD L).Perm lks) (hl : ∀ l ∈ lks, IsName l) (ha : ∀ n ∈ asked, IsName n) : isRuleD e L = true ∧ e.fine = true := by
  obtain ⟨n, ms, s1, s2, mp⟩ := lr
  obtain ⟨e1, e2⟩ := s1.items
  obtain ⟨r1, r2⟩ := rest_ok ok p hl ha
  obtain ⟨nk, na, _⟩ := ok
  obtain ⟨n1, n2⟩ := names_ok' s2 (by rw [mp.length_eq]; exact nk.len) (mp.nodup_iff.mpr nk.nd) fun x m => ha x (na x (mp.mem_iff.mp m))
  have rf := r.rest_flat.2
  refine ⟨?_, s1.fine (by simp; omega) ?_⟩
  · unfold isRuleD
    rw [e2]
    show (e.isSeq && (isNamesD n && isRestD r.form r.rest L)) = true
    rw [e1, n1, r1]
    rfl
  · show ((D.str r.form).fine && (n.fine && fineL r.rest)) = true
    have f : (D.str r.form).fine = true := by
      cases r with
      | bar => exact (by decide +kernel : (D.str "bar").fine = true)
      | tell => exact (by decide +kernel : (D.str "tell").fine = true)
      | self => exact (by decide +kernel : (D.str "self").fine = true)
      | give => exact (by decide +kernel : (D.str "give").fine = true)
      | send => exact (by decide +kernel : (D.str "send").fine = true)
    rw [n2, r2, f]
    rfl
end Kb

set_option Elab.async false
set_option linter.all false
set_option maxRecDepth 100000
set_option maxHeartbeats 4000000
/-! Kb, 33: the parts of a drawn kind, told loosely or as they are, make a Kind. -/
namespace Kb
open PySem PySem.Spec PyProof.Rows L2

/-- parts that tell the kind k -/
structure Tells (k : KD) (L O : List (Str × D)) (R : List D) : Prop where
  lp : (keysD L).Perm k.lks
  l : ∀ x ∈ L, ∃ ys ms : List Str, (x.1, ys) ∈ k.links ∧ Seq2 x.2 (ms.map D.str) ∧ ms.Perm ys
  op : (keysD O).Perm (k.own.map (·.1))
  o : ∀ x ∈ O, ∃ o, (x.1, o) ∈ k.own ∧ Seq2 x.2 o.d.items
  rl : R.length = k.rules.length
  r : ∀ (i : Nat) (r : Rule) (e : D), k.rules[i]? = some r → R[i]? = some e → LooseRule r.form r.names r.rest e
theorem LooseOk.tells {k : KD} {L O : List (Str × D)} {R : List D} (h : LooseOk k L O R) : Tells k L O R :=
  ⟨h.lp, fun x m => let ⟨ys, ms, a, b, c⟩ := h.l x m; ⟨ys, ms, a, .inl b, c⟩, h.op, h.o, h.rl, h.r⟩
theorem KD.tells (k : KD) : Tells k (linkD k.links) (ownD k.own) (k.rules.map Rule.d) := by
  refine ⟨by rw [keys_map], fun x m => ?_, by rw [keys_map], fun x m => ?_, List.length_map .., fun i r e h1 h2 => ?_⟩
  · obtain ⟨p, hp, rfl⟩ := List.mem_map.mp m
    exact ⟨p.2, p.2, hp, .inr rfl, List.Perm.refl _⟩
  · obtain ⟨p, hp, rfl⟩ := List.mem_map.mp m
    obtain ⟨ds, ed, _⟩ := p.2.d_tup
    refine ⟨p.2, hp, .inr ?_⟩
    show p.2.d = _
    rw [ed]
    rfl
  · rw [List.getElem?_map, h1] at h2
    cases h2
    exact ⟨nmD r.names, r.names, .inr r.d_eq, .inr rfl, List.Perm.refl _⟩
/-- a kind as it is drawn -/
structure KdGood (k : KD) : Prop where
  ex : ∃ (kinds asked : List Str) (rn : Nat), KdOk kinds asked 2 rn k ∧ rn ≤ 300 ∧ (∀ n ∈ kinds, IsName n) ∧ (∀ n ∈ asked, IsName n) ∧ asked.Nodup
  name : IsName k.name
theorem cho_ne {kinds ys : List Str} (c : ChoOk kinds ys) (hk : ∀ n ∈ kinds, IsName n) : ∀ y ∈ ys, IsNE y := fun y m => (c.mem y m).elim (fun h => .inl (hk y h)) .inr
theorem Tells.parts {k : KD} {L O : List (Str × D)} {R : List D} (g : KdGood k) (t : Tells k L O R) : Parts k.name L O (.lst R) ∧ O.length ≤ 5 ∧ L.length ≤ 2 ∧ R.length ≤ 300 := by
  obtain ⟨kinds, asked, rn, ok, hrn, hkn, han, hand⟩ := g.ex
  have lk := ok.lk
  have ll : L.length ≤ 2 := by
    have := t.lp.length_eq
    rw [keysD, List.length_map] at this
    rw [this]
    exact lk.len
  have sub := ok.own.sub
  have ol : O.length ≤ 5 := by
    have e1 := t.op.length_eq
    have e2 := sub.length_le
    rw [keysD, List.length_map] at e1
    rw [List.length_take] at e2
    omega
  have rl : R.length ≤ 300 := by
    rw [t.rl]
    exact Nat.le_trans ok.rl hrn
  have ond : (k.own.map (·.1)).Nodup := (hand.sublist (List.take_sublist ..)).sublist sub
  have onm : ∀ n ∈ k.own.map (·.1), IsName n := fun n m => han n (List.mem_of_mem_take (sub.subset m))
  have each : ∀ e ∈ R, isRuleD e L = true ∧ e.fine = true := fun e m => by
    obtain ⟨i, hi, rfl⟩ := List.getElem_of_mem m
    have hi2 : i < k.rules.length := by rw [← t.rl]; exact hi
    have lr := t.r i k.rules[i] R[i] (List.getElem?_eq_getElem hi2) (List.getElem?_eq_getElem hi)
    exact rule_ok lr (ok.ro _ (List.getElem_mem ..)) t.lp lk.nm han
  have fR : ∀ l : List D, (∀ e ∈ l, e.fine = true) → fineL l = true := fun l => by
    induction l with
    | nil => exact fun _ => rfl
    | cons a b ih =>
      intro h
      show (a.fine && fineL b) = true
      rw [h a (by simp), ih fun x m => h x (by simp [m])]
      rfl
  refine ⟨⟨nameB_iff.mpr g.name, ⟨ll, t.lp.nodup_iff.mpr lk.nd, fun x m => ?_⟩, ⟨ol, t.op.nodup_iff.mpr ond, fun x m => ?_⟩, rfl, rl, ?_, ?_⟩, ol, ll, rl⟩
  · obtain ⟨ys, ms, a, b, c⟩ := t.l x m
    have cho := ok.cho _ a
    have nm : x.1 ∈ k.lks := t.lp.mem_iff.mp (List.mem_map.mpr ⟨x, m, rfl⟩)
    obtain ⟨c1, c2⟩ := choice_ok b (fun z => cho.some (by rw [z] at c; exact (List.Perm.nil_eq c).symm)) (by rw [c.length_eq]; exact cho.len) (c.nodup_iff.mpr cho.nd) fun y my => cho_ne cho hkn y (c.mem_iff.mp my)
    exact ⟨nameB_iff.mpr (lk.nm _ nm), c1, c2⟩
  · obtain ⟨o, a, b⟩ := t.o x m
    have nm : x.1 ∈ k.own.map (·.1) := List.mem_map.mpr ⟨_, a, rfl⟩
    obtain ⟨c1, c2⟩ := own_ok b (ok.own.ok _ a) t.lp lk.nm
    exact ⟨nameB_iff.mpr (onm _ nm), c1, c2⟩
  · show (decide (R.length ≤ 1000) && fineL R) = true
    rw [decide_eq_true (by omega), fR R fun e m => (each e m).2]
    rfl
  · exact List.all_eq_true.mpr fun e m => (each e m).1
theorem LooseOk.spoil {k : KD} {L O : List (Str × D)} {R : List D} (g : KdGood k) (t : LooseOk k L O R) : SpoilOk L O R := by
  obtain ⟨pa, ol, ll, rl⟩ := t.tells.parts g
  obtain ⟨kinds, asked, rn, ok, hrn, hkn, han, hand⟩ := g.ex
  refine ⟨fun x m => ?_, fun x m => ?_, fun e m => ?_, by omega, by omega, rl⟩
  · obtain ⟨ys, ms, a, b, c⟩ := t.l x m
    have cho := ok.cho _ a
    have : ys.length ≤ 4 := cho.len
    exact ⟨ms, b, fun z => cho.some (by rw [z] at c; exact (List.Perm.nil_eq c).symm), by rw [c.length_eq]; omega⟩
  · obtain ⟨o, a, b⟩ := t.o x m
    cases o with
    | val v => exact ⟨"value", [.str v], b, by simp⟩
    | self => exact ⟨"self", [], b, by simp⟩
    | link l => exact ⟨"link", [.str l], b, by simp⟩
  · obtain ⟨i, hi, rfl⟩ := List.getElem_of_mem m
    have hi2 : i < k.rules.length := by rw [← t.rl]; exact hi
    obtain ⟨n, ms, s1, s2, mp⟩ := t.r i k.rules[i] R[i] (List.getElem?_eq_getElem hi2) (List.getElem?_eq_getElem hi)
    have nk := (ok.ro _ (List.getElem_mem hi2)).1.len
    exact ⟨_, n, _, ms, s1, s2, by rw [mp.length_eq]; omega, (Rule.rest_flat _).2⟩
theorem KdGood.fit {k : KD} (g : KdGood k) : KdFit k := by
  obtain ⟨kinds, asked, rn, ok, hrn, hkn, han, hand⟩ := g.ex
  have sub := ok.own.sub
  refine ⟨ok.lk.nd, ?_, fun p m => ?_, (hand.sublist (List.take_sublist ..)).sublist sub, ?_, Nat.le_trans ok.rl hrn, fun r m => ?_⟩
  · have := ok.lk.len
    rw [List.length_map] at this
    omega
  · have := (ok.cho p m).len
    omega
  · have e2 := sub.length_le
    rw [List.length_map, List.length_take] at e2
    omega
  · have := (ok.ro r m).1.len
    omega
end Kb

set_option Elab.async false
set_option linter.all false
set_option maxRecDepth 100000
set_option maxHeartbeats 4000000
/-! Kb, 34: _law_kind. -/
namespace Kb
open PySem PySem.Spec PyProof.Rows L2

/-- a new object is written alone -/
theorem But.ofNew {H H1 H' : Hp} {x : Addr} (a : But [] H H1) (h : H x = none) (b : But [x] H1 H') : But [] H H' := by
  refine ⟨fun y o _ e => ?_, fun y e => b.stand y (a.stand y e)⟩
  have ne : y ≠ x := ne_of_none e h
  exact b.keep y o (by simpa using ne) (a.keep y o (by simp) e)
/-- Kind(..) upon good parts that stand at x, y, z -/
theorem init_ok {K : PySem.W.Frag} {H : Hp} {nm : Str} {L O : List (Str × D)} {d : D} {y1 y2 y3 : V} {h : Bool} {x dx : Addr} {Q : VK} (C : KindC K) (h1 : At [] H (.dct L) y1) (h2 : At [] H (.dct O) y2) (h3 : At [] H d y3) (p : Parts nm L O d)
    (hx : H x = none) (hdx : H dx = none) (ne : dx ≠ x)
    (k : ∀ L' O' R' H', Kept L O d L' O' R' → (∀ M, Std M H → NoTup M H → KOb K M H' x nm L' O' R' h) → But [] H H' → Q (.ref x) H') :
    sp_Kind_init K [.ref x, .str nm, y1, y2, y3, .bl h] (upd (upd H dx (.own x)) x (.ins (KC K) dx [])) (fun v H2 => v = .non ∧ Q (.ref x) H2) E0 := by
  have B : But [] H (upd (upd H dx (.own x)) x (.ins (KC K) dx [])) := (But.new hdx).upd (.inr hx)
  have u : (upd (upd H dx (.own x)) x (.ins (KC K) dx [])) x = some (.ins (KC K) dx []) := upd_same
  generalize upd (upd H dx (.own x)) x (.ins (KC K) dx []) = H1 at B u ⊢
  refine ⟨x, dx, nm, L, O, d, y1, y2, y3, h, rfl, C, u, (h1.excl hx).mono B.nil, (h2.excl hx).mono B.nil, (h3.excl hx).mono B.nil, p, fun L' O' R' H' kp kob b => ⟨rfl, ?_⟩⟩
  exact k L' O' R' H' kp (fun M s t => kob M (s.but B) (t.but s B) (s.no hx)) (B.ofNew hx b)
def sp_l_kind (K : PySem.W.Frag) : Sp := fun vs H Q _ => ∃ (k : KD) (v : V), vs = [v] ∧ KindC K ∧ At [] H k.d v ∧ KdGood k ∧
  ∀ a L' O' R' H', Kept (linkD k.links) (ownD k.own) (.lst (k.rules.map Rule.d)) L' O' R' → H a = none → (∀ M, Std M H → NoTup M H → KOb K M H' a k.name L' O' R' k.hid) → But [] H H' → Q (.ref a) H'
theorem len_l_kind {K : PySem.W.Frag} {vs : List V} {H : Hp} {Q : VK} {E : XK} (h : sp_l_kind K vs H Q E) : vs.length = 1 := by
  obtain ⟨_, _, rfl, _⟩ := h
  rfl
def t_l_kind (K : PySem.W.Frag) : TS :=
  (tRet (tMakeN (KC K) 4 1 (sp_Kind_init K) (fun vs zs => vs ++ zs) E0 (tCons (tOp (rIxL K) (tVar 0) (tC (.int 0))) (tCons (tCB rDictD (tCons (tOp (rIxL K) (tVar 0) (tC (.int 1))) tNil)) (tCons (tCB rDictD (tCons (tOp (rIxL K) (tVar 0) (tC (.int 2))) tNil)) (tCons (tCB (rListOf K) (tCons (tOp (rIxL K) (tVar 0) (tC (.int 3))) tNil)) tNil))))
    (tCons (tOp (rIxL K) (tVar 0) (tC (.int 4))) tNil)))
theorem pure_l_kind {K : PySem.W.Frag} (vs : List V) (H : Hp) (Q : VK) (E : XK) (h : sp_l_kind K vs H Q E) : t_l_kind K (fin Q) (st0 1 vs) H := by
  obtain ⟨k, v, rfl, C, hv, g, fin_⟩ := h
  obtain ⟨kd, p1, p2, p3, kv1, kv2, xs3, rfl, nk, hk, n1, e1, l1, n2, e2, l2, n3, e3, l3⟩ := KD.parts hv
  refine ⟨_, rfl, kd, _, 0, _, rfl, rfl, SqL.of hk, rfl, ?_⟩
  refine ⟨_, rfl, kd, _, 1, .ref p1, rfl, rfl, SqL.of hk, rfl, p1, kv1, rfl, .inl e1, fun q1 hq1 => ?_⟩
  have B1 : But [] H (upd H q1 (.dK kv1)) := But.new hq1
  have u1 : (upd H q1 (.dK kv1)) q1 = some (.dK kv1) := upd_same
  generalize upd H q1 (.dK kv1) = H1 at B1 u1 ⊢
  refine ⟨_, rfl, kd, _, 2, .ref p2, rfl, rfl, SqL.of (B1.keep _ _ (by simp) hk), rfl, p2, kv2, rfl, .inl (B1.keep _ _ (by simp) e2), fun q2 hq2 => ?_⟩
  have B2 : But [] H1 (upd H1 q2 (.dK kv2)) := But.new hq2
  have u2 : (upd H1 q2 (.dK kv2)) q2 = some (.dK kv2) := upd_same
  generalize upd H1 q2 (.dK kv2) = H2 at B2 u2 ⊢
  have B02 := B1.trans B2
  refine ⟨_, rfl, kd, _, 3, .ref p3, rfl, rfl, SqL.of (B02.keep _ _ (by simp) hk), rfl, p3, xs3, rfl, .inl (SqL.of (B02.keep _ _ (by simp) e3)), fun q3 hq3 => ?_⟩
  have B3 : But [] H2 (upd H2 q3 (.lst xs3)) := But.new hq3
  have u3 : (upd H2 q3 (.lst xs3)) q3 = some (.lst xs3) := upd_same
  generalize upd H2 q3 (.lst xs3) = H3 at B3 u3 ⊢
  have B03 := B02.trans B3
  refine ⟨_, rfl, kd, _, 4, .bl k.hid, rfl, rfl, SqL.of (B03.keep _ _ (by simp) hk), rfl, rfl, rfl, fun x dx hx hdx ne => ?_⟩
  refine init_ok (K := K) (L := linkD k.links) (O := ownD k.own) (d := .lst (k.rules.map Rule.d)) C ⟨q1, kv1, rfl, by simp, B3.keep _ _ (by simp) (B2.keep _ _ (by simp) u1), l1.mono B03⟩ ⟨q2, kv2, rfl, by simp, B3.keep _ _ (by simp) u2, l2.mono B03⟩ ⟨q3, xs3, rfl, by simp, u3, l3.mono B03⟩ (k.tells.parts g).1 hx hdx ne
    fun L' O' R' H' kp kob b => fin_ x L' O' R' H' kp (B03.free hx) (fun M s t => kob M (s.but B03) (t.but s B03)) (B03.trans b)
end Kb

set_option Elab.async false
set_option linter.all false
set_option maxRecDepth 100000
set_option maxHeartbeats 400000
/-! Kb, 35: x.clear() of a dict or a list. -/
namespace Kb
open PySem PySem.Spec PyProof.Rows L2

/-- x.clear(), x a variable -/
def tClr (i : Nat) : TE := fun σ H Q => ∃ a, σ[i]? = some (some (.ref a)) ∧ ((∃ kvs, H a = some (.dK kvs) ∧ Q .non (upd H a (.dK []))) ∨ ∃ xs, H a = some (.lst xs) ∧ Q .non (upd H a (.lst [])))
theorem pe_clrVar {X : Cx} {y : Str} {i : Nat} {p apos cpos : Pos} (h : PE X (.Name y p) (tVar i)) (hb : attributeBase (.Name y p) "clear" X.env (eval (.Name y p) X.env) = eval (.Name y p) X.env := by rfl) (hl : (apos.endLine == cpos.line) = true := by rfl) :
    PE X (.Call (.Attribute (.Name y p) "clear" apos) [] [] cpos) (tClr i) := by
  refine ⟨fun pins s σ H Q I q => ?_⟩
  obtain ⟨a, ha, q⟩ := q
  rcases q with ⟨kvs, e, q⟩ | ⟨xs, e, q⟩
  · exact (pe_dclear h hb hl).run pins s σ H Q I ⟨_, ha, .inr (.inr (.inl ⟨rfl, .inl ⟨_, e⟩⟩)), a, kvs, rfl, rfl, e, q⟩
  · exact (pe_bm0 PySem.F.plainAttrs_list PySem.F.slot_list_clear PySem.F.type_list_clear mt_clear h hb hl).run pins s σ H Q I ⟨_, ha, .inl ⟨rfl, _, SqL.of e⟩, a, xs, rfl, rfl, e, q⟩
end Kb

set_option Elab.async false
set_option linter.all false
set_option maxRecDepth 100000
set_option maxHeartbeats 2000000
/-! Kb, 36: _law_tells. -/
namespace Kb
open PySem PySem.Spec PyProof.Rows L2

theorem But.ofNews {M : List Addr} {H H1 H' : Hp} (a : But [] H H1) (h : ∀ x ∈ M, H x = none) (b : But M H1 H') : But [] H H' :=
  ⟨fun y o _ e => b.keep y o (fun m => by rw [h y m] at e; cases e) (a.keep y o (by simp) e), fun y e => b.stand y (a.stand y e)⟩
/-- what a Kind must tell of k -/
def dueD (k : KD) : D := .lst [.str k.name, .bl k.hid, .dct (linkD k.links), .dct (ownD k.own), .lst (k.rules.map Rule.d)]
def toldD (nm : Str) (h : Bool) (L O : List (Str × D)) (R : List D) : D := .lst [.str nm, .bl h, .dct L, .dct O, .lst R]
def sp_l_tells (K : PySem.W.Frag) : Sp := fun vs H Q _ => ∃ (a : Addr) (nm : Str) (L O : List (Str × D)) (R : List D) (h : Bool) (k : KD) (v : V), vs = [.ref a, v] ∧ KindC K ∧ KOb K [] H a nm L O R h ∧ At [] H k.d v ∧ Like (toldD nm h L O R) (dueD k) ∧ (dueD k).dp < 6 ∧
  ∀ H', But [] H H' → Q (.bl true) H'
theorem len_l_tells {K : PySem.W.Frag} {vs : List V} {H : Hp} {Q : VK} {E : XK} (h : sp_l_tells K vs H Q E) : vs.length = 2 := by
  obtain ⟨_, _, _, _, _, _, _, _, rfl, _⟩ := h
  rfl
def t_l_tells (K : PySem.W.Frag) : TS :=
  (tSeq (tAsg (tLst (tCons (tProp (He.ga K "Kind") (sp_Kind_name K) [] E0 (tVar 0)) (tCons (tProp (He.ga K "Kind") (sp_Kind_hidden K) [] E0 (tVar 0)) (tCons (tMeth (He.ga K "Kind") "links" (sp_Kind_links K) [] E0 (tVar 0) tNil) (tCons (tMeth (He.ga K "Kind") "own" (sp_Kind_own K) [] E0 (tVar 0) tNil) (tCons (tMeth (He.ga K "Kind") "rules" (sp_Kind_rules K) [] E0 (tVar 0) tNil) tNil)))))) (gName 2))
  (tSeq (tAsg (tCall (sp_l_like 6 K) [] E0 (tCons (tVar 2) (tCons (tLst (tCons (tOp (rIxL K) (tVar 1) (tC (.int 0))) (tCons (tOp (rIxL K) (tVar 1) (tC (.int 4))) (tCons (tOp (rIxL K) (tVar 1) (tC (.int 1))) (tCons (tOp (rIxL K) (tVar 1) (tC (.int 2))) (tCons (tOp (rIxL K) (tVar 1) (tC (.int 3))) tNil)))))) tNil))) (gName 3))
  (tSeq (tFor (iList K (tSl (rSlL K) (tVar 2) (tPart (tC (.int 2))) tNoPart)) (gName 4)
    (tDrop (tClr 4)))
  (tRet (tVar 3)))))
theorem pure_l_tells {K : PySem.W.Frag} (vs : List V) (H : Hp) (Q : VK) (E : XK) (h : sp_l_tells K vs H Q E) : t_l_tells K (fin Q) (st0 5 vs) H := by
  obtain ⟨a, nm, L, O, R, h, k, v, rfl, C, ko, hv, lk, dp, fin_⟩ := h
  obtain ⟨dx, l, o, r, _, e, h1, h2, h3⟩ := ko
  obtain ⟨pl, kvl, rfl, _, el, al⟩ := h1
  obtain ⟨po, kvo, rfl, _, eo, ao⟩ := h2
  obtain ⟨pr, xsr, rfl, _, er, ar⟩ := h3
  -- told
  refine ⟨_, rfl, a, dx, _, rfl, e, a, dx, _, _, rfl, C.cls, C.n1, e, rfl, ?_⟩
  refine ⟨_, rfl, a, dx, _, rfl, e, a, dx, _, _, rfl, C.cls, C.n5, e, rfl, ?_⟩
  refine ⟨_, rfl, a, dx, _, rfl, e, rfl, a, dx, _, _, rfl, C.cls, C.n2, e, rfl, pl, kvl, rfl, el, fun q1 hq1 => ?_⟩
  have B1 : But [] H (upd H q1 (.dK kvl)) := But.new hq1
  have u1 : (upd H q1 (.dK kvl)) q1 = some (.dK kvl) := upd_same
  generalize upd H q1 (.dK kvl) = H1 at B1 u1 ⊢
  have e1 := B1.keep _ _ (by simp) e
  refine ⟨_, rfl, a, dx, _, rfl, e1, rfl, a, dx, _, _, rfl, C.cls, C.n3, e1, rfl, po, kvo, rfl, B1.keep _ _ (by simp) eo, fun q2 hq2 => ?_⟩
  have B2 : But [] H1 (upd H1 q2 (.dK kvo)) := But.new hq2
  have u2 : (upd H1 q2 (.dK kvo)) q2 = some (.dK kvo) := upd_same
  generalize upd H1 q2 (.dK kvo) = H2 at B2 u2 ⊢
  have B02 := B1.trans B2
  have e2 := B02.keep _ _ (by simp) e
  refine ⟨_, rfl, a, dx, _, rfl, e2, rfl, a, dx, _, _, rfl, C.cls, C.n4, e2, rfl, pr, xsr, rfl, B02.keep _ _ (by simp) er, fun q3 hq3 => ?_⟩
  have B3 : But [] H2 (upd H2 q3 (.lst xsr)) := But.new hq3
  have u3 : (upd H2 q3 (.lst xsr)) q3 = some (.lst xsr) := upd_same
  generalize upd H2 q3 (.lst xsr) = H3 at B3 u3 ⊢
  have B03 := B02.trans B3
  refine ⟨by show 5 ≤ sizeLine; decide, fun p hp => ?_⟩
  have B4 : But [] H3 (upd H3 p (.lst [.str nm, .bl h, .ref q1, .ref q2, .ref q3])) := But.new hp
  have u4 : (upd H3 p (.lst [.str nm, .bl h, .ref q1, .ref q2, .ref q3])) p = some (.lst [.str nm, .bl h, .ref q1, .ref q2, .ref q3]) := upd_same
  generalize upd H3 p (.lst [.str nm, .bl h, .ref q1, .ref q2, .ref q3]) = H4 at B4 u4 ⊢
  have B04 := B03.trans B4
  have B14 := (B2.trans B3).trans B4
  have B24 := B3.trans B4
  have w1 := B14.keep _ _ (by simp) u1
  have w2 := B24.keep _ _ (by simp) u2
  have w3 := B4.keep _ _ (by simp) u3
  have told : At [] H4 (toldD nm h L O R) (.ref p) := ⟨p, _, rfl, by simp, u4, _, _, rfl, rfl, _, _, rfl, rfl, _, _, rfl, ⟨q1, kvl, rfl, by simp, w1, al.mono B04⟩, _, _, rfl, ⟨q2, kvo, rfl, by simp, w2, ao.mono B04⟩, _, _, rfl, ⟨q3, xsr, rfl, by simp, w3, ar.mono B04⟩, rfl⟩
  -- due
  obtain ⟨kd, p1, p2, p3, kv1, kv2, xs3, rfl, _, hk, _, c1, l1, _, c2, l2, _, c3, l3⟩ := KD.parts (hv.mono B04)
  refine ⟨_, rfl, _, rfl, kd, _, 0, _, rfl, rfl, SqL.of hk, rfl, ?_⟩
  refine ⟨_, rfl, kd, _, 4, _, rfl, rfl, SqL.of hk, rfl, ?_⟩
  refine ⟨_, rfl, kd, _, 1, _, rfl, rfl, SqL.of hk, rfl, ?_⟩
  refine ⟨_, rfl, kd, _, 2, _, rfl, rfl, SqL.of hk, rfl, ?_⟩
  refine ⟨_, rfl, kd, _, 3, _, rfl, rfl, SqL.of hk, rfl, ?_⟩
  refine ⟨by show 5 ≤ sizeLine; decide, fun pd hpd => ?_⟩
  have B5 : But [] H4 (upd H4 pd (.lst [.str k.name, .bl k.hid, .ref p1, .ref p2, .ref p3])) := But.new hpd
  have u5 : (upd H4 pd (.lst [.str k.name, .bl k.hid, .ref p1, .ref p2, .ref p3])) pd = some (.lst [.str k.name, .bl k.hid, .ref p1, .ref p2, .ref p3]) := upd_same
  generalize upd H4 pd (.lst [.str k.name, .bl k.hid, .ref p1, .ref p2, .ref p3]) = H5 at B5 u5 ⊢
  have due : At [] H5 (dueD k) (.ref pd) := ⟨pd, _, rfl, by simp, u5, _, _, rfl, rfl, _, _, rfl, rfl, _, _, rfl, ⟨p1, kv1, rfl, by simp, B5.keep _ _ (by simp) c1, l1.mono B5⟩, _, _, rfl, ⟨p2, kv2, rfl, by simp, B5.keep _ _ (by simp) c2, l2.mono B5⟩, _, _, rfl,
    ⟨p3, xs3, rfl, by simp, B5.keep _ _ (by simp) c3, l3.mono B5⟩, rfl⟩
  refine ⟨toldD nm h L O R, dueD k, .ref p, .ref pd, rfl, (told.mono B5).z, due, lk, dp, fun H6 B6 => ?_⟩
  have B06 := (B04.trans B5).trans B6
  have B46 := B5.trans B6
  -- clear
  refine ⟨_, rfl, 2, rfl, _, _, rfl, SqL.of (B46.keep _ _ (by simp) u4), fun q hq => ?_⟩
  rw [show cutV [V.str nm, .bl h, .ref q1, .ref q2, .ref q3] (some 2) none = [.ref q1, .ref q2, .ref q3] from cutF2]
  have B7 : But [] H6 (upd H6 q (.lst [.ref q1, .ref q2, .ref q3])) := But.new hq
  have u7 : (upd H6 q (.lst [.ref q1, .ref q2, .ref q3])) q = some (.lst [.ref q1, .ref q2, .ref q3]) := upd_same
  generalize upd H6 q (.lst [.ref q1, .ref q2, .ref q3]) = H7 at B7 u7 ⊢
  have B07 := B06.trans B7
  have B47 := B46.trans B7
  have x1 := B47.keep _ _ (by simp) w1
  have x2 := B47.keep _ _ (by simp) w2
  have x3 := B47.keep _ _ (by simp) w3
  have n1 : q1 ≠ q := fun z => by rw [z, u7] at x1; cases x1
  have n2 : q2 ≠ q := fun z => by rw [z, u7] at x2; cases x2
  have f1 : H q1 = none := hq1
  have f2 : H q2 = none := B1.free hq2
  have f3 : H q3 = none := B02.free hq3
  have h3q : H6 q3 ≠ none := ne_none (B46.keep _ _ (by simp) w3)
  have n3 : q3 ≠ q := fun z => h3q (by rw [z]; exact hq)
  have m12 : q1 ≠ q2 := fun z => by rw [z] at u1; rw [u1] at hq2; cases hq2
  have m13 : q1 ≠ q3 := fun z => by rw [z] at x1; rw [x1] at x3; cases x3
  have m23 : q2 ≠ q3 := fun z => by rw [z] at x2; rw [x2] at x3; cases x3
  refine ⟨q, rfl, ⟨_, SqL.of u7⟩, for_list (K := K) (a := q) (xs := [.ref q1, .ref q2, .ref q3]) (fun i σ' H' => (∃ o4, σ' = [some (.ref a), some (.ref kd), some (.ref p), some (.bl true), o4]) ∧ (∃ k1, H' q1 = some (.dK k1)) ∧ (∃ k2, H' q2 = some (.dK k2)) ∧ (∃ k3, H' q3 = some (.lst k3)) ∧
      H' q = some (.lst [.ref q1, .ref q2, .ref q3]) ∧ But [q1, q2, q3] H7 H') ⟨⟨_, rfl⟩, ⟨_, x1⟩, ⟨_, x2⟩, ⟨_, x3⟩, u7, But.refl⟩ (fun i σ' H' _ z => SqL.of z.2.2.2.2.1) ?_ ?_⟩
  · rintro i x σ' H8 hx ⟨⟨o4, rfl⟩, ⟨k1, y1⟩, ⟨k2, y2⟩, ⟨k3, y3⟩, yq, B8⟩
    match i, hx with
    | 0, hx =>
      cases hx
      exact ⟨q1, rfl, .inl ⟨k1, y1, ⟨_, rfl⟩, ⟨_, upd_same⟩, ⟨k2, by rw [upd_ne (Ne.symm m12)]; exact y2⟩, ⟨k3, by rw [upd_ne (Ne.symm m13)]; exact y3⟩, by rw [upd_ne (Ne.symm n1)]; exact yq, B8.upd (.inl (by simp))⟩⟩
    | 1, hx =>
      cases hx
      exact ⟨q2, rfl, .inl ⟨k2, y2, ⟨_, rfl⟩, ⟨k1, by rw [upd_ne m12]; exact y1⟩, ⟨_, upd_same⟩, ⟨k3, by rw [upd_ne (Ne.symm m23)]; exact y3⟩, by rw [upd_ne (Ne.symm n2)]; exact yq, B8.upd (.inl (by simp))⟩⟩
    | 2, hx =>
      cases hx
      exact ⟨q3, rfl, .inr ⟨k3, y3, ⟨_, rfl⟩, ⟨k1, by rw [upd_ne m13]; exact y1⟩, ⟨k2, by rw [upd_ne m23]; exact y2⟩, ⟨_, upd_same⟩, by rw [upd_ne (Ne.symm n3)]; exact yq, B8.upd (.inl (by simp))⟩⟩
    | i + 3, hx => simp at hx
  · rintro σ' H8 ⟨⟨o4, rfl⟩, _, _, _, _, B8⟩
    refine ⟨_, rfl, fin_ H8 (B07.ofNews (fun x m => ?_) B8)⟩
    simp only [List.mem_cons, List.not_mem_nil, or_false] at m
    rcases m with rfl | rfl | rfl
    · exact f1
    · exact f2
    · exact f3
end Kb

set_option Elab.async false
set_option linter.all false
set_option maxRecDepth 100000
set_option maxHeartbeats 2000000
/-! Kb, 37: what a Kind keeps of parts that tell k is like k. -/
namespace Kb
open PySem PySem.Spec PyProof.Rows L2

mutual
def D.plain : D → Bool
  | .tup ds => decide (ds.length ≤ 1000) && D.plainL ds
  | .lst ds => decide (ds.length ≤ 1000) && D.plainL ds
  | .dct _ => false
  | .non => true
  | .bl _ => true
  | .int _ => true
  | .str _ => true
def D.plainL : List D → Bool
  | [] => true
  | d :: ds => D.plain d && D.plainL ds
end
mutual
theorem Like.refl : ∀ {d : D}, d.plain = true → Like d d
  | .non, _ => rfl
  | .bl _, _ => rfl
  | .int _, _ => rfl
  | .str _, _ => rfl
  | .tup ds, h => by
    obtain ⟨a, b⟩ := Bool.and_eq_true_iff.mp (show (decide (ds.length ≤ 1000) && D.plainL ds) = true from h)
    exact ⟨ds, rfl, of_decide_eq_true a, LikeL.refl b⟩
  | .lst ds, h => by
    obtain ⟨a, b⟩ := Bool.and_eq_true_iff.mp (show (decide (ds.length ≤ 1000) && D.plainL ds) = true from h)
    exact ⟨ds, rfl, of_decide_eq_true a, LikeL.refl b⟩
theorem LikeL.refl : ∀ {ds : List D}, D.plainL ds = true → LikeL ds ds
  | [], _ => rfl
  | d :: ds, h => by
    obtain ⟨a, b⟩ := Bool.and_eq_true_iff.mp (show (D.plain d && D.plainL ds) = true from h)
    exact ⟨d, ds, rfl, Like.refl a, LikeL.refl b⟩
end
theorem plain_flats : ∀ {ds : List D}, ds.all D.isFlat = true → D.plainL ds = true
  | [], _ => rfl
  | d :: ds, h => by
    rw [List.all_cons] at h
    obtain ⟨a, b⟩ := Bool.and_eq_true_iff.mp h
    show (D.plain d && D.plainL ds) = true
    rw [plain_flats b]
    cases d <;> first | rfl | cases a
theorem plain_nm {ys : List Str} (h : ys.length ≤ 1000) : (nmD ys).plain = true := by
  show (decide ((ys.map D.str).length ≤ 1000) && D.plainL (ys.map D.str)) = true
  rw [List.length_map, decide_eq_true h, plain_flats (by rw [List.all_map]; exact List.all_eq_true.mpr fun _ _ => rfl)]
  rfl
theorem plain_rule {r : Rule} (h : r.names.length ≤ 1000) : r.d.plain = true := by
  rw [r.d_eq]
  have f := r.rest_flat
  show (decide (_ ≤ 1000) && ((D.str r.form).plain && ((nmD r.names).plain && D.plainL r.rest))) = true
  rw [plain_nm h, plain_flats f.1, decide_eq_true (by simp; omega)]
  rfl
theorem likeP_of {kds : List (Str × D)} : ∀ {kes : List (Str × D)}, (∀ x ∈ kes, ∃ d, kds.lookup x.1 = some d ∧ Like d x.2) → LikeP kds kes
  | [], _ => trivial
  | (k, e) :: es, h => ⟨h (k, e) (by simp), likeP_of fun x m => h x (by simp [m])⟩
theorem lookup_of {n : Str} : ∀ {l : List (Str × D)}, n ∈ keysD l → ∃ d, l.lookup n = some d
  | [], m => by simp [keysD] at m
  | (k, e) :: l, m => by
    rw [List.lookup_cons]
    by_cases z : n = k
    · exact ⟨e, by rw [beq_iff_eq.mpr z]⟩
    · have m' : n ∈ keysD l := by
        have : n ∈ k :: keysD l := m
        exact (List.mem_cons.mp this).resolve_left z
      obtain ⟨d, q⟩ := lookup_of m'
      exact ⟨d, by rw [beq_eq_false_iff_ne.mpr z]; exact q⟩
theorem nodup_key {α : Type} : ∀ {l : List (Str × α)} {n : Str} {x y : α}, (l.map (·.1)).Nodup → (n, x) ∈ l → (n, y) ∈ l → x = y
  | [], _, _, _, _, h, _ => by cases h
  | (k, z) :: l, n, x, y, nd, h1, h2 => by
    have nd' := List.nodup_cons.mp (show (k :: l.map (·.1)).Nodup from nd)
    rcases List.mem_cons.mp h1 with e1 | m1
    · rcases List.mem_cons.mp h2 with e2 | m2
      · cases e1
        cases e2
        rfl
      · cases e1
        exact absurd (List.mem_map.mpr ⟨_, m2, rfl⟩) nd'.1
    · rcases List.mem_cons.mp h2 with e2 | m2
      · cases e2
        exact absurd (List.mem_map.mpr ⟨_, m1, rfl⟩) nd'.1
      · exact nodup_key nd'.2 m1 m2
theorem listOut_get {R : D → D → Prop} {ds es : List D} (h : ListOut R ds es) : ∀ (i : Nat) (d : D), ds[i]? = some d → ∃ e, es[i]? = some e ∧ R d e := by
  induction h with
  | nil => intro i d e; simp at e
  | @snoc ds es d e ho hr ih =>
    intro i d' hd
    have ln := ho.length
    by_cases hi : i < ds.length
    · rw [List.getElem?_append_left hi] at hd
      obtain ⟨e', a, b⟩ := ih i d' hd
      exact ⟨e', by rw [List.getElem?_append_left (by omega)]; exact a, b⟩
    · have hi2 : i = ds.length := by
        have := (List.getElem?_eq_some_iff.mp hd).1
        rw [List.length_append, List.length_singleton] at this
        omega
      rw [List.getElem?_append_right (by omega), hi2, Nat.sub_self] at hd
      cases hd
      exact ⟨e, by rw [List.getElem?_append_right (by omega), hi2, ln, Nat.sub_self]; rfl, hr⟩
theorem kept_rules {k : KD} {L O : List (Str × D)} {R : List D} {L' O' : List (Str × D)} {R' : List D} (kp : Kept L O (.lst R) L' O' R') (t : Tells k L O R) (so : ∀ r ∈ k.rules, sortedS r.names = true) : R' = k.rules.map Rule.d := by
  have e1 : R'.length = R.length := kp.rules.length
  refine List.ext_getElem? fun i => ?_
  rw [List.getElem?_map]
  cases hr : k.rules[i]? with
  | none =>
    have := List.getElem?_eq_none_iff.mp hr
    rw [List.getElem?_eq_none (by rw [e1, t.rl]; exact this)]
    rfl
  | some r =>
    have hi := (List.getElem?_eq_some_iff.mp hr).1
    have hi2 : i < R.length := by rw [t.rl]; exact hi
    obtain ⟨e, he, f, ns, rest, ys, it, ed, pm, sd⟩ := listOut_get kp.rules i R[i] (List.getElem?_eq_getElem hi2)
    obtain ⟨n, ms, s1, s2, mp⟩ := t.r i r R[i] hr (List.getElem?_eq_getElem hi2)
    rw [s1.items.2] at it
    cases it
    rw [s2.items.2, strsOf_map] at pm
    have eq : ys = r.names := sorted_same (pm.trans mp) sd (so r (List.mem_of_getElem? hr))
    rw [he, ed, eq, ← r.d_eq]
    rfl
theorem kept_like {k : KD} {L O : List (Str × D)} {R : List D} {L' O' : List (Str × D)} {R' : List D} (g : KdGood k) (t : Tells k L O R) (kp : Kept L O (.lst R) L' O' R') : Like (toldD k.name k.hid L' O' R') (dueD k) := by
  obtain ⟨kinds, asked, rn, ok, hrn, hkn, han, hand⟩ := g.ex
  have lnd : k.lks.Nodup := ok.lk.nd
  have sub := ok.own.sub
  have ond : (k.own.map (·.1)).Nodup := (hand.sublist (List.take_sublist ..)).sublist sub
  have ol : k.own.length ≤ 5 := by
    have e2 := sub.length_le
    rw [List.length_map, List.length_take] at e2
    omega
  have ll : k.links.length ≤ 2 := by
    have := ok.lk.len
    rw [List.length_map] at this
    exact this
  have er := kept_rules kp t fun r m => (ok.ro r m).1.so
  subst er
  have pR : D.plainL (k.rules.map Rule.d) = true := by
    have : ∀ l : List Rule, (∀ r ∈ l, r.names.length ≤ 1000) → D.plainL (l.map Rule.d) = true := fun l => by
      induction l with
      | nil => exact fun _ => rfl
      | cons a b ih =>
        intro h
        show (D.plain a.d && D.plainL (b.map Rule.d)) = true
        rw [plain_rule (h a (by simp)), ih fun r m => h r (by simp [m])]
        rfl
    exact this _ fun r m => Nat.le_trans (ok.ro r m).1.len (by decide)
  have hL : Like (.dct L') (.dct (linkD k.links)) := by
    refine ⟨L', rfl, ?_, by rw [keys_map]; exact lnd, by rw [List.length_map]; omega, fun n m => ?_, likeP_of fun x m => ?_⟩
    · rw [keys_map]
      exact kp.links.perm.trans t.lp
    · rw [keys_map] at m
      exact ok_name (ok.lk.nm n m)
    · obtain ⟨⟨n, ys⟩, hp, rfl⟩ := List.mem_map.mp m
      have nm : n ∈ keysD L' := (kp.links.perm.trans t.lp).mem_iff.mpr (List.mem_map.mpr ⟨_, hp, rfl⟩)
      obtain ⟨e, he⟩ := lookup_of nm
      obtain ⟨d0, h0, zs, rfl, pm, sd⟩ := kp.links.ok _ (lookup_mem he)
      obtain ⟨ys', ms, h1, s1, mp⟩ := t.l _ (lookup_mem h0)
      have ey : ys' = ys := nodup_key lnd h1 hp
      subst ey
      rw [s1.items.2, strsOf_map] at pm
      have cho := ok.cho _ hp
      have ez : zs = ys' := sorted_same (pm.trans mp) sd cho.so
      subst ez
      exact ⟨_, he, Like.refl (plain_nm (Nat.le_trans cho.len (by decide)))⟩
  have hO : Like (.dct O') (.dct (ownD k.own)) := by
    refine ⟨O', rfl, ?_, by rw [keys_map]; exact ond, by rw [List.length_map]; omega, fun n m => ?_, likeP_of fun x m => ?_⟩
    · rw [keys_map]
      exact kp.own.perm.trans t.op
    · rw [keys_map] at m
      exact ok_name (han n (List.mem_of_mem_take (sub.subset m)))
    · obtain ⟨⟨n, o⟩, hp, rfl⟩ := List.mem_map.mp m
      have nm : n ∈ keysD O' := (kp.own.perm.trans t.op).mem_iff.mpr (List.mem_map.mpr ⟨_, hp, rfl⟩)
      obtain ⟨e, he⟩ := lookup_of nm
      obtain ⟨d0, h0, h0e⟩ := kp.own.ok _ (lookup_mem he)
      have h0e : e = .tup d0.items := h0e
      subst h0e
      obtain ⟨o', h1, s1⟩ := t.o _ (lookup_mem h0)
      have eo : o' = o := nodup_key ond h1 hp
      subst eo
      rw [s1.items.2] at he
      obtain ⟨ds, ed, fl⟩ := o'.d_tup
      refine ⟨_, he, ?_⟩
      show Like (.tup o'.d.items) o'.d
      rw [ed]
      refine Like.refl ?_
      show (decide (ds.length ≤ 1000) && D.plainL ds) = true
      have : ds.length ≤ 2 := by
        cases o' <;> (cases ed; simp)
      rw [decide_eq_true (by omega), plain_flats fl]
      rfl
  have hR : Like (.lst (k.rules.map Rule.d)) (.lst (k.rules.map Rule.d)) := by
    have := ok.rl
    exact Like.refl (by
      show (decide ((k.rules.map Rule.d).length ≤ 1000) && D.plainL (k.rules.map Rule.d)) = true
      rw [List.length_map, decide_eq_true (by omega), pR]
      rfl)
  exact ⟨_, rfl, by simp, _, _, rfl, rfl, _, _, rfl, rfl, _, _, rfl, hL, _, _, rfl, hO, _, _, rfl, hR, rfl⟩
theorem dpL_le {n : Nat} : ∀ {ds : List D}, (∀ d ∈ ds, d.dp ≤ n) → D.dpL ds ≤ n
  | [], _ => Nat.zero_le _
  | d :: ds, h => by
    rw [D.dpL]
    exact Nat.max_le.mpr ⟨h d (by simp), dpL_le fun x m => h x (by simp [m])⟩
theorem dpP_le {n : Nat} : ∀ {ds : List (Str × D)}, (∀ x ∈ ds, x.2.dp ≤ n) → D.dpP ds ≤ n
  | [], _ => Nat.zero_le _
  | (k, d) :: ds, h => by
    rw [D.dpP]
    exact Nat.max_le.mpr ⟨h (k, d) (by simp), dpP_le fun x m => h x (by simp [m])⟩
theorem dp_flat' {d : D} (h : d.isFlat = true) : d.dp = 0 := by cases d <;> first | rfl | cases h
theorem dp_nm {ys : List Str} : (nmD ys).dp ≤ 1 := by
  show D.dpL (ys.map D.str) + 1 ≤ 1
  have : D.dpL (ys.map D.str) ≤ 0 := dpL_le fun d m => by
    obtain ⟨z, _, rfl⟩ := List.mem_map.mp m
    exact Nat.le_refl _
  omega
theorem dp_rule {r : Rule} : r.d.dp ≤ 2 := by
  rw [r.d_eq]
  have : D.dpL (.str r.form :: nmD r.names :: r.rest) ≤ 1 := dpL_le fun d m => by
    rcases List.mem_cons.mp m with rfl | m
    · exact Nat.zero_le _
    · rcases List.mem_cons.mp m with rfl | m
      · exact dp_nm
      · rw [dp_flat' (List.all_eq_true.mp r.rest_flat.1 d m)]
        exact Nat.zero_le _
  show D.dpL _ + 1 ≤ 2
  omega
theorem due_dp {k : KD} : (dueD k).dp < 6 := by
  have a : D.dpP (linkD k.links) ≤ 1 := dpP_le fun x m => by
    obtain ⟨p, _, rfl⟩ := List.mem_map.mp m
    exact dp_nm
  have b : D.dpP (ownD k.own) ≤ 1 := dpP_le fun x m => by
    obtain ⟨p, _, rfl⟩ := List.mem_map.mp m
    obtain ⟨ds, ed, fl⟩ := p.2.d_tup
    show p.2.d.dp ≤ 1
    rw [ed]
    have : D.dpL ds ≤ 0 := dpL_le fun d m => by
      rw [dp_flat' (List.all_eq_true.mp fl d m)]
      exact Nat.le_refl _
    show D.dpL ds + 1 ≤ 1
    omega
  have c : D.dpL (k.rules.map Rule.d) ≤ 2 := dpL_le fun d m => by
    obtain ⟨r, _, rfl⟩ := List.mem_map.mp m
    exact dp_rule
  have : D.dpL [.str k.name, .bl k.hid, .dct (linkD k.links), .dct (ownD k.own), .lst (k.rules.map Rule.d)] ≤ 3 := dpL_le fun d m => by
    simp only [List.mem_cons, List.not_mem_nil, or_false] at m
    rcases m with rfl | rfl | rfl | rfl | rfl
    · exact Nat.zero_le _
    · exact Nat.zero_le _
    · show D.dpP _ + 1 ≤ 3
      omega
    · show D.dpP _ + 1 ≤ 3
      omega
    · show D.dpL _ + 1 ≤ 3
      omega
  show D.dpL _ + 1 < 6
  omega
end Kb

set_option Elab.async false
set_option linter.all false
set_option maxRecDepth 100000
set_option maxHeartbeats 1000000
/-! Kb, 38: own operators: x in o, x not in o. -/
namespace Kb
open PySem PySem.Spec PyProof.Rows L2

/-- x in o by o's own __contains__ -/
def rInK (neg : Bool) (C : Addr) (sp : Sp) (E : XK) : R2 := fun x y H Q => ∃ a dx fs, y = .ref a ∧ H a = some (.ins C dx fs) ∧ sp [.ref a, x] H (fun v H' => ∃ b : Bool, v = .bl b ∧ Q (.bl (if neg then !b else b)) H') E
section
variable {X : Cx} {CX : CXT} {k : Nat} {C f : Addr} {fd : FuncData} {ps : List Str} {sp : Sp} {E : XK}
theorem op_inK (hs : PySem.W.findIn X.K (.ref C) "__contains__" = some (some (.ref f))) (hf : PySem.W.isFn X.K (.ref f) = true) (F : FnOk X.prog X.w X.K X.mg X.base CX k f fd ps sp) (hr : Room k X.A) (hb : Binds X.K fd ps []) (hx : Passes CX X E) :
    OpR X (compareOp .In) (rInK false C sp E) := by
  intro pins s σ H x y v u Q I rx ry h
  obtain ⟨a, dx, fs, rfl, ea, h⟩ := h
  obtain rfl : u = Value.ref a := ry
  obtain ⟨mA, J, _⟩ := ins_get I.hok ea
  obtain ⟨od, J, _⟩ := J.look
  obtain ⟨m, hF⟩ := I.fr
  refine PySem.W.in_K hF I.ok.mod.kin J hs hf (thn (run_fn (dvs := []) (ds := []) (vs := [.ref a, x]) (us := [.ref a, v]) F hr hb .nil hx I (.cons rfl (.cons rx .nil)) h) fun r s1 ⟨w, H1, I1, rw', b, e, q⟩ => ?_)
  subst e
  obtain rfl : r = Value.bool b := rw'
  exact wpAny_truthy_bool ⟨.bl b, H1, I1, rfl, q⟩
theorem op_notInK (hs : PySem.W.findIn X.K (.ref C) "__contains__" = some (some (.ref f))) (hf : PySem.W.isFn X.K (.ref f) = true) (F : FnOk X.prog X.w X.K X.mg X.base CX k f fd ps sp) (hr : Room k X.A) (hb : Binds X.K fd ps []) (hx : Passes CX X E) :
    OpR X (compareOp .NotIn) (rInK true C sp E) := by
  intro pins s σ H x y v u Q I rx ry h
  obtain ⟨a, dx, fs, rfl, ea, h⟩ := h
  obtain rfl : u = Value.ref a := ry
  obtain ⟨mA, J, _⟩ := ins_get I.hok ea
  obtain ⟨od, J, _⟩ := J.look
  obtain ⟨m, hF⟩ := I.fr
  refine PySem.W.notIn_K hF I.ok.mod.kin J hs hf (thn (run_fn (dvs := []) (ds := []) (vs := [.ref a, x]) (us := [.ref a, v]) F hr hb .nil hx I (.cons rfl (.cons rx .nil)) h) fun r s1 ⟨w, H1, I1, rw', b, e, q⟩ => ?_)
  subst e
  obtain rfl : r = Value.bool b := rw'
  exact wpAny_truthy_bool ⟨.bl (!b), H1, I1, rfl, q⟩
/-- x == y by x's own __eq__, both of one class -/
def rEqK (C : Addr) (sp : Sp) (E : XK) : R2 := fun x y H Q => ∃ a b dx dy fs gs, x = .ref a ∧ y = .ref b ∧ H a = some (.ins C dx fs) ∧ H b = some (.ins C dy gs) ∧ sp [.ref a, .ref b] H (fun v H' => ∃ t : Bool, v = .bl t ∧ Q (.bl t) H') E
theorem op_eqK (hs : PySem.W.findIn X.K (.ref C) "__eq__" = some (some (.ref f))) (hf : PySem.W.isFn X.K (.ref f) = true) (F : FnOk X.prog X.w X.K X.mg X.base CX k f fd ps sp) (hr : Room k X.A) (hb : Binds X.K fd ps []) (hx : Passes CX X E) :
    OpR X (compareOp .Eq) (rEqK C sp E) := by
  intro pins s σ H x y v u Q I rx ry h
  obtain ⟨a, b, dx, dy, fs, gs, rfl, rfl, ea, eb, h⟩ := h
  obtain rfl : v = Value.ref a := rx
  obtain rfl : u = Value.ref b := ry
  obtain ⟨mA, J, _⟩ := ins_get I.hok ea
  obtain ⟨mB, J', _⟩ := ins_get I.hok eb
  obtain ⟨od, J, _⟩ := J.look
  obtain ⟨od', J', _⟩ := J'.look
  obtain ⟨m, hF⟩ := I.fr
  show wpAny (model X.prog X.w) X.A (richCompare .Eq (.ref a) (.ref b)) (EP X pins σ Q) X.xe s
  refine PySem.W.cmp_K (op := .Eq) (tb := .ref C) hr.units0 hF I.ok.mod.kin J J'.type (by simp [PySem.W.notFirst]) hs hf (thn (run_fn (dvs := []) (ds := []) (vs := [.ref a, .ref b]) (us := [.ref a, .ref b]) F hr hb .nil hx I (.cons rfl (.cons rfl .nil)) h) fun r s1 ⟨w, H1, I1, rw', t, e, q⟩ => ?_)
  subst e
  obtain rfl : r = Value.bool t := rw'
  exact ⟨.bl t, H1, I1, rfl, q⟩
/-- o[y] by o's own __getitem__ -/
def rIxK (C : Addr) (sp : Sp) (E : XK) : R2 := fun x y H Q => ∃ a dx fs, x = .ref a ∧ H a = some (.ins C dx fs) ∧ sp [.ref a, y] H Q E
theorem pe_ixK {ae be : Expr} {pos : Pos} {ta tb : TE} (hs : PySem.W.findIn X.K (.ref C) "__getitem__" = some (some (.ref f))) (hf : PySem.W.isFn X.K (.ref f) = true) (hn : PySem.W.fnIn X.K f = true) (F : FnOk X.prog X.w X.K X.mg X.base CX k f fd ps sp) (hr : Room (k + 1) X.A) (hb : Binds X.K fd ps []) (hx : Passes CX X E)
    (ha : PE X ae ta) (hbe : PE X be tb) (hsl : ∀ (a : Addr) (u : Value), subscripted be true (.ref a) u = runValue (.builtin "lifetime.subscript" ⟨[.ref a, u], []⟩) := by (intro _ _; with_unfolding_all rfl)) : PE X (.Subscript ae be pos) (tOp (rIxK C sp E) ta tb) := by
  refine ⟨fun pins s σ H Q I h => ?_⟩
  refine Subscript_ (binT ha hbe I h fun v u s x y H I rx ry h => ?_)
  obtain ⟨a, dx, fs, rfl, ea, h⟩ := h
  obtain rfl : v = Value.ref a := rx
  obtain ⟨mA, J, _⟩ := ins_get I.hok ea
  obtain ⟨od, J, _⟩ := J.look
  obtain ⟨m, hF⟩ := I.fr
  have hl : ([Value.ref a, u] ++ []).length = ps.length := by
    rw [← F.len _ _ _ _ h]
    rfl
  refine PySem.W.sub_K hF I.ok.mod.kin J hs hn hf (wpAny_call (codeAny_mono (F.run X.A.in1 X.stack s H ⟨[.ref a, u], []⟩ [.ref a, u] [.ref a, y] Q E hr.in1 I.env0.in1 (hb s [.ref a, u] I.kIn hl) (.cons rfl (.cons ry .nil)) h) fun r s' hq => ?_)) (hsl a u)
  cases r with
  | error e => exact hx pins σ H s e s' I hq
  | ok fl =>
    cases fl with
    | ret w => exact I.after hq
    | next => exact False.elim hq
    | brk => exact False.elim hq
    | cont => exact False.elim hq
end
end Kb

set_option Elab.async false
set_option linter.all false
set_option maxRecDepth 100000
set_option maxHeartbeats 1000000
/-! Kb, 39: == of dicts and lists whose values are tuples of plain data. -/
namespace Kb
open PySem PySem.Spec PyProof.Rows L2

/-- two values are equal data, at most n deep -/
inductive SameV (H : Hp) : Nat → V → V → Prop
  | flat {n : Nat} {v : V} : flatB v = true → SameV H n v v
  | tup {n : Nat} {a b : Addr} {xs ys : List V} : H a = some (.tup xs) → H b = some (.tup ys) → xs.length = ys.length → (∀ (i : Nat) (v y : V), xs[i]? = some v → ys[i]? = some y → SameV H n v y) → SameV H (n + 1) (.ref a) (.ref b)
  | lst {n : Nat} {a b : Addr} {xs ys : List V} : H a = some (.lst xs) → H b = some (.lst ys) → xs.length = ys.length → (∀ (i : Nat) (v y : V), xs[i]? = some v → ys[i]? = some y → SameV H n v y) → SameV H (n + 1) (.ref a) (.ref b)
section
variable {X : Cx} {pins : List (Addr × Obj)} {σ : L2.St} {H : Hp} {s : Shared}
theorem vals_get {xs : List V} {us : List Value} (h : Vals xs us) {i : Nat} {u : Value} (e : us[i]? = some u) : ∃ x, xs[i]? = some x ∧ RelV x u := by
  induction h generalizing i with
  | nil => cases e
  | cons r1 _ ih =>
    cases i with
    | zero =>
      cases e
      exact ⟨_, rfl, r1⟩
    | succ i => exact ih e
theorem all_true {l : List Nat} : (l.all fun _ => true) = true := by simp
theorem SameV.tree (I : Inv X pins σ H s) {n : Nat} {v y : V} (h : SameV H n v y) : ∀ {u w : Value}, RelV v u → RelV y w → PySem.W.EqTree X.prog X.w s n u w true := by
  induction h with
  | flat f => exact fun r r' => .leaf fun A _ => eqAt_same r r' f
  | @tup n a b xs ys ha hb hl _ ih =>
    intro u w r r'
    obtain rfl : u = Value.ref a := r
    obtain rfl : w = Value.ref b := r'
    by_cases e : a = b
    · rw [e]; exact .same
    obtain ⟨ia, ra, ta, _⟩ := I.tuple (SqT.of ha)
    obtain ⟨ib, rb, tb, _⟩ := I.tuple (SqT.of hb)
    have sz : ia.toArray.size = ib.toArray.size := by
      have h1 := Paired.length ra
      have h2 := Paired.length rb
      simp
      omega
    have q := PySem.W.EqTree.tuples (prog := X.prog) (w := X.w) (n := n) (e := fun _ => true) e ta tb fun j h1 h2 => by
      obtain ⟨x, ex, rx⟩ := vals_get ra (i := j) (u := ia.toArray[j]) (by simp at h1; simp [h1])
      obtain ⟨z, ez, rz⟩ := vals_get rb (i := j) (u := ib.toArray[j]) (by simp at h2; simp [h2])
      exact ih j x z ex ez rx rz
    rw [all_true, Bool.true_and, sz, beq_self_eq_true] at q
    exact q
  | @lst n a b xs ys ha hb hl _ ih =>
    intro u w r r'
    obtain rfl : u = Value.ref a := r
    obtain rfl : w = Value.ref b := r'
    by_cases e : a = b
    · rw [e]; exact .same
    obtain ⟨ia, ra, ta, _⟩ := I.list (SqL.of ha)
    obtain ⟨ib, rb, tb, _⟩ := I.list (SqL.of hb)
    have sz : ia.toArray.size = ib.toArray.size := by
      have h1 := Paired.length ra
      have h2 := Paired.length rb
      simp
      omega
    have q := PySem.W.EqTree.lists (prog := X.prog) (w := X.w) (n := n) (e := fun _ => true) e ta.isList tb.isList sz fun j h1 h2 => by
      obtain ⟨x, ex, rx⟩ := vals_get ra (i := j) (u := ia.toArray[j]) (by simp at h1; simp [h1])
      obtain ⟨z, ez, rz⟩ := vals_get rb (i := j) (u := ib.toArray[j]) (by simp at h2; simp [h2])
      exact ih j x z ex ez rx rz
    rw [all_true] at q
    exact q
end
/-- d == e for dicts of equal data wherever both have the key -/
def rEqN : R2 := fun x y H Q => ∃ a b ks ls, x = .ref a ∧ y = .ref b ∧ H a = some (.dK ks) ∧ H b = some (.dK ls) ∧ (∀ k v z, (k, v) ∈ ks → valV ls k = some z → SameV H 30 v z) ∧ Q (.bl (ks.length == ls.length && ks.all fun p => (valV ls p.1).isSome)) H
/-- xs == ys for lists of unlike lengths, or of equal data -/
def rEqS : R2 := fun x y H Q => ∃ a b xs ys, x = .ref a ∧ y = .ref b ∧ H a = some (.lst xs) ∧ H b = some (.lst ys) ∧ (xs.length = ys.length → ∀ (i : Nat) (v z : V), xs[i]? = some v → ys[i]? = some z → SameV H 30 v z) ∧ Q (.bl (xs.length == ys.length)) H
section
variable {X : Cx}
theorem relO_isSome {o : Option V} {u : Option Value} (h : RelO o u) : u.isSome = o.isSome := by
  cases o with
  | none => cases u with
    | none => rfl
    | some _ => exact (h : False).elim
  | some _ => cases u with
    | none => exact (h : False).elim
    | some _ => rfl
theorem kv_mem {kvs : List (Key × V)} {vs : List (Key × Value)} (h : KV kvs vs) {k : Key} {u : Value} (m : (k, u) ∈ vs) : ∃ v, (k, v) ∈ kvs ∧ RelV v u := by
  unfold KV at h
  induction h with
  | nil => cases m
  | @cons p q ps qs h t ih =>
    rcases List.mem_cons.mp m with e | m
    · subst e
      obtain ⟨h1, h2⟩ := h
      obtain ⟨k', v'⟩ := p
      obtain rfl : k' = k := h1
      exact ⟨v', List.mem_cons_self, h2⟩
    · obtain ⟨v, a, b⟩ := ih m
      exact ⟨v, List.mem_cons_of_mem _ a, b⟩
theorem kv_all {ks : List (Key × V)} {va : List (Key × Value)} (ra : KV ks va) {f g : Key → Bool} (h : ∀ k, f k = g k) : (va.all fun p => f p.1) = ks.all fun p => g p.1 := by
  unfold KV at ra
  induction ra with
  | nil => rfl
  | @cons p q ps qs h1 t ih =>
    obtain ⟨e, _⟩ := h1
    rw [List.all_cons, List.all_cons, ih, h, ← e]
theorem op_eqN (hu : X.A.units + 64 < cLine) : OpR X (compareOp .Eq) rEqN := by
  intro pins s σ H x y v u Q I rx ry h
  obtain ⟨a, b, ks, ls, rfl, rfl, ea, eb, hp, q⟩ := h
  obtain rfl : v = Value.ref a := rx
  obtain rfl : u = Value.ref b := ry
  obtain ⟨_, ya, va, ra, da⟩ := (show ObjOk X.prog X.w H s.heap a (.dK ks) from I.hok a _ ea)
  obtain ⟨_, yb, vb, rb, db⟩ := (show ObjOk X.prog X.w H s.heap b (.dK ls) from I.hok b _ eb)
  have e1 : (va.length == vb.length) = (ks.length == ls.length) := by rw [← ra.length, ← rb.length]
  have e2 : (va.all fun p => (valueAt vb p.1).isSome && true) = ks.all fun p => (valV ls p.1).isSome := kv_all (f := fun k => (valueAt vb k).isSome && true) (g := fun k => (valV ls k).isSome) ra fun k => by rw [Bool.and_true, relO_isSome (rb.val k)]
  refine PySem.W.eq_dictsT (n := 30) (e := fun _ => true) ya yb da db (fun k w z m hz => ?_) (by omega) ?_
  · obtain ⟨v, mv, rv⟩ := kv_mem ra m
    have r := rb.val k
    rw [hz] at r
    cases e : valV ls k with
    | none => rw [e] at r; exact (r : False).elim
    | some t =>
      rw [e] at r
      exact (hp k v t mv e).tree I rv r
  · rw [e1, e2]
    exact ⟨.bl _, H, I, rfl, q⟩
theorem op_eqS (hu : X.A.units + 64 < cLine) : OpR X (compareOp .Eq) rEqS := by
  intro pins s σ H x y v u Q I rx ry h
  obtain ⟨a, b, xs, ys, rfl, rfl, ea, eb, hp, q⟩ := h
  obtain rfl : v = Value.ref a := rx
  obtain rfl : u = Value.ref b := ry
  obtain ⟨ia, ra, ta, _⟩ := I.list (SqL.of ea)
  obtain ⟨ib, rb, tb, _⟩ := I.list (SqL.of eb)
  have l1 := Paired.length ra
  have l2 := Paired.length rb
  by_cases e : xs.length = ys.length
  · have sz : ia.toArray.size = ib.toArray.size := by
      simp
      omega
    refine PySem.W.eq_listsT (n := 30) (e := fun _ => true) ta.isList tb.isList sz (fun j h1 h2 => ?_) (by omega) ?_
    · obtain ⟨x, ex, rx⟩ := vals_get ra (i := j) (u := ia.toArray[j]) (by simp at h1; simp [h1])
      obtain ⟨z, ez, rz⟩ := vals_get rb (i := j) (u := ib.toArray[j]) (by simp at h2; simp [h2])
      exact (hp e j x z ex ez).tree I rx rz
    · rw [all_true]
      rw [e, beq_self_eq_true] at q
      exact ⟨.bl _, H, I, rfl, q⟩
  · have sz : (ia.toArray.size != ib.toArray.size) = true := by
      simp
      omega
    have q' : Q (.bl false) H := by
      rw [show (xs.length == ys.length) = false by simp [e]] at q
      exact q
    exact PySem.SeqAt.RcAt.lists_lengths ta.isList tb.isList sz (by omega) X.prog X.w _ _ ⟨.bl _, H, I, rfl, q'⟩
end
end Kb

set_option Elab.async false
set_option linter.all false
set_option maxRecDepth 100000
set_option maxHeartbeats 1000000
/-! Kb, 40: an own error whose __init__ calls that of its own base class (which has none, and takes ValueError's). -/
namespace Kb
open PySem PySem.Spec PyProof.Rows L2

/-- what the written part says of an own error class without __init__, whose __init__ is called by name -/
structure BaseC (K : PySem.W.Frag) (B : Addr) : Prop where
  rd : PySem.W.readsIn K B (.type "type") = true
  sp : PySem.W.specialIn K (.ref B) "__getattribute__" = some (some (.builtin "type.__getattribute__"))
  ini : PySem.W.findCls K (.ref B) (.type "type") "__init__" = some (.val (.builtin "ValueError.__init__"))
section
variable {X : Cx} {o e : Expr} {es : List Expr} {ta : TA} {x : Str} {B : Addr} {p p1 p2 pos : Pos}
theorem pe_baseinit {pl : Sem Bool} (hg : Gl X x) (hm : X.mg x = some (.ref B)) (T0 : BaseC X.K B) (ha : PA X (e :: es) ta) (hdb : (x == ("__debug__" : Str)) = false := by decide)
    (hc : eval (.Call (.Attribute (.Name x p1) "__init__" p2) (e :: es) [] pos) X.env = (do
      let ov ← eval (.Name x p1) X.env
      standAt p2.atName
      let (f, first) ← holding [ov] (getMethod ov "__init__" pl)
      callWith pos f first (backTo pos (starEach (e :: es) X.env)) (backToKw pos (keywordEach [] X.env))) := by rfl)
    (he : starEach (e :: es) X.env = (false, eval e X.env) :: starEach es X.env := by rfl) (hpl : (backTo pos (starEach es X.env)).any (·.1) = false := by rfl) :
    PE X (.Call (.Attribute (.Name x p1) "__init__" p2) (e :: es) [] pos) (tVeI X.K ta) := by
  refine ⟨fun pins s σ H Q I h => ?_⟩
  refine PySem.W.methodCall_KW (ld_glob I hg hm ?_ hdb) hc
  refine PySem.W.method_cls I.kIn T0.sp (PySem.W.cls_value I.kIn T0.rd T0.ini (by decide +kernel) ?_)
  have I0 := I.tok (s.toks + 1)
  show wpAny _ _ (callWith pos (Value.builtin "ValueError.__init__") [] (backTo pos (starEach (e :: es) X.env)) []) _ _ _
  refine PyProof.Rows.callWith_method1 (thn (ha.run pos pins _ σ H _ I0 h) fun us s1 ⟨vs, H1, J, r1, a, C, ws, ev, lw, T, ea, q⟩ => ?_) he hpl
  subst ev
  cases r1 with
  | @cons _ u0 _ ur ra rw' =>
    cases (show u0 = Value.ref a from ra)
    have small : ur.length ≤ sizeLine := by
      have := Paired.length rw'
      rw [sizeLine_eq]
      omega
    exact oinit_ok T J ea small fun s' J' => ⟨.non, H1, J', rfl, q⟩
end
end Kb

set_option Elab.async false
set_option linter.all false
set_option maxRecDepth 100000
set_option maxHeartbeats 1000000
/-! Kb, 41: NoName(name); kind[name]; kind == kind. -/
namespace Kb
open PySem PySem.Spec PyProof.Rows L2

/-- the class NoName -/
abbrev NC (K : PySem.W.Frag) : Addr := He.ga K "NoName"
structure NoNameC (K : PySem.W.Frag) : Prop where
  ox : OexC K (NC K)
  no : PySem.W.findIn K (.ref (NC K)) "what" = some none
def sp_NoName_init (K : PySem.W.Frag) : Sp := fun vs H Q _ => ∃ (a : Addr) (x : V), vs = [.ref a, x] ∧ NoNameC K ∧ H a = some (exo a (NC K) none) ∧
  ∀ dx, H dx = none → dx ≠ a → Q .non (upd (upd H dx (exd dx [("what", x)])) a (exo a (NC K) (some dx)))
theorem len_NoName_init {K : PySem.W.Frag} {vs : List V} {H : Hp} {Q : VK} {E : XK} (h : sp_NoName_init K vs H Q E) : vs.length = 2 := by
  obtain ⟨a, x, rfl, _⟩ := h
  rfl
def t_NoName_init (K : PySem.W.Frag) : TS :=
  (tSeq (tDrop (tVeI K (tCons (tVar 0) (tCons (tC (.str ("this is not a name that can stand here" : Str))) tNil)))) (tOst K "what" (tVar 0) (tVar 1)))
theorem pure_NoName_init {K : PySem.W.Frag} (vs : List V) (H : Hp) (Q : VK) (E : XK) (h : sp_NoName_init K vs H Q E) : t_NoName_init K (fin Q) (st0 2 vs) H := by
  obtain ⟨a, x, rfl, N, e, k⟩ := h
  refine ⟨_, rfl, a, NC K, [V.str ("this is not a name that can stand here" : Str)], rfl, by simp, N.ox, e, ?_⟩
  exact ⟨_, rfl, _, rfl, a, NC K, rfl, N.ox, N.no, .inl ⟨e, fun dx h1 h2 => k dx h1 h2⟩⟩
/-- raise NoName(x) -/
def tRaiseN (K : PySem.W.Frag) (ta : TA) (E : XK) : TS := fun _ σ H => tMkO (NC K) (sp_NoName_init K) [] ta σ H fun cls d H' => E cls d H'
theorem do_raise {K : PySem.W.Frag} {E : XK} {D : Ends} {σ : L2.St} {H : Hp} {x : V} {i : Nat} (N : NoNameC K) (hx : σ[i]? = some (some x)) (k : ∀ d, H d = none → E (.ref (NC K)) (some d) (upd H d (.xd [("what", x)]))) : tRaiseN K (tCons (tVar i) tNil) E D σ H := by
  refine ⟨_, hx, by simp, fun a ha => ⟨a, x, rfl, N, upd_same, fun dx hd ne => ⟨rfl, dx, [("what", x)], upd_same, ?_, ?_, ?_⟩⟩⟩
  · rw [upd_ne ne]
    exact upd_same
  · rw [upd_ne ne] at hd
    exact hd
  · rw [upd_ne ne] at hd
    have e : upd (del (upd (upd (upd H a (exo a (NC K) none)) dx (exd dx [("what", x)])) a (exo a (NC K) (some dx))) a) dx (.xd [("what", x)]) = upd H dx (.xd [("what", x)]) := by
      funext b
      by_cases c : b = dx
      · rw [c, upd_same, upd_same]
      · rw [upd_ne c, upd_ne c]
        by_cases c2 : b = a
        · rw [c2, del_same]
          exact ha.symm
        · rw [del_ne c2, upd_ne c2, upd_ne c, upd_ne c2]
    rw [e]
    exact k dx hd

/-- kind[name], both ways -/
def sp_Kind_getitem (K : PySem.W.Frag) : Sp := fun vs H Q E => ∃ (a dx o : Addr) (fs : List (Str × V)) (d : D) (x : V) (O : List (Str × D)) (kvs : List (Key × V)), vs = [.ref a, x] ∧ Cls K (KC K) ∧ NoAttr K (KC K) "own_table" ∧ NoNameC K ∧
  H a = some (.ins (KC K) dx fs) ∧ fs.lookup ("own_table" : Str) = some (V.ref o) ∧ H o = some (.dK kvs) ∧ kvs.map (·.1) = O.map (fun p => (Sum.inr p.1 : Key)) ∧ AtZ H d x ∧
  (isLinkD d O = true → ∀ n v, d = .str n → valV kvs (.inr n) = some v → Q v H) ∧ (isLinkD d O = false → ∀ p, H p = none → E (.ref (NC K)) (some p) (upd H p (.xd [("what", x)])))
theorem len_Kind_getitem {K : PySem.W.Frag} {vs : List V} {H : Hp} {Q : VK} {E : XK} (h : sp_Kind_getitem K vs H Q E) : vs.length = 2 := by
  obtain ⟨_, _, _, _, _, _, _, _, rfl, _⟩ := h
  rfl
def t_Kind_getitem (E : XK) (K : PySem.W.Frag) : TS :=
  (tSeq (tIfS (tOr (tNot (tB (tCB (rIsi K) (tCons (tVar 1) (tCons (tC (.ty "str")) tNil))))) (tB (tDNotIn (tVar 1) (tFld K (tVar 0) "own_table"))))
    (tRaiseN K (tCons (tVar 1) tNil) E)
    tNext)
  (tRet (tDGet (tFld K (tVar 0) "own_table") (tVar 1))))
theorem pure_Kind_getitem {K : PySem.W.Frag} (vs : List V) (H : Hp) (Q : VK) (E : XK) (h : sp_Kind_getitem K vs H Q E) : t_Kind_getitem E K (fin Q) (st0 2 vs) H := by
  obtain ⟨a, dx, o, fs, d, x, O, kvs, rfl, c, n, N, e, lk, ho, hk, hx, q1, q2⟩ := h
  refine ⟨_, rfl, x, _, _, _, d.isStr, rfl, .ty _, hx.ty, kit_str, _, rfl, ?_⟩
  cases hs : d.isStr with
  | false =>
    have : isLinkD d O = false := by cases d <;> first | rfl | (cases hs; done)
    refine iteT ?_
    refine iteT ?_
    refine do_raise N ?_ (q2 this)
    rfl
  | true =>
    obtain ⟨z, rfl⟩ : ∃ z, d = .str z := by cases d <;> first | exact ⟨_, rfl⟩ | (cases hs; done)
    obtain rfl : x = .str z := hx
    refine ⟨_, rfl, _, rfl, a, KC K, dx, fs, _, rfl, e, c, n, lk, o, _, rfl, .inl ⟨kvs, .inr z, .inl ho, rfl, rfl⟩, ?_⟩
    have hv := valV_some (z := z) hk
    by_cases m : z ∈ keysD O
    · rw [decide_eq_true m] at hv
      have g : (!(valV kvs (Sum.inr z : Key)).isSome) = false := by rw [hv]; rfl
      refine ⟨_, rfl, ?_⟩
      rw [g]
      refine iteF ?_
      obtain ⟨v, ev⟩ := Option.isSome_iff_exists.mp hv
      exact ⟨_, rfl, a, KC K, dx, fs, _, rfl, e, c, n, lk, _, rfl, o, v, rfl, .inl ⟨kvs, .inr z, .inl ho, rfl, ev.symm⟩, q1 (decide_eq_true m) z v rfl ev⟩
    · rw [decide_eq_false m] at hv
      have g : (!(valV kvs (Sum.inr z : Key)).isSome) = true := by rw [hv]; rfl
      refine ⟨_, rfl, ?_⟩
      rw [g]
      refine iteT ?_
      refine do_raise N ?_ (q2 (decide_eq_false m))
      rfl
end Kb

set_option Elab.async false
set_option linter.all false
set_option maxRecDepth 100000
set_option maxHeartbeats 1000000
/-! Kb, 42: kind == kind. -/
namespace Kb
open PySem PySem.Spec PyProof.Rows L2

mutual
theorem SameV.of {M M' : List Addr} {H : Hp} : ∀ {d : D} {n : Nat} {v z : V}, d.plain = true → d.dp ≤ n → At M H d v → At M' H d z → SameV H n v z
  | .non, _, _, _, _, _, h, h' => by cases h; cases h'; exact .flat rfl
  | .bl _, _, _, _, _, _, h, h' => by cases h; cases h'; exact .flat rfl
  | .int _, _, _, _, _, _, h, h' => by cases h; cases h'; exact .flat rfl
  | .str _, _, _, _, _, _, h, h' => by cases h; cases h'; exact .flat rfl
  | .tup ds, n, _, _, p, q, h, h' => by
    obtain ⟨a, xs, rfl, _, ha, la⟩ := h
    obtain ⟨b, ys, rfl, _, hb, lb⟩ := h'
    obtain ⟨_, pl⟩ := Bool.and_eq_true_iff.mp (show (decide (ds.length ≤ 1000) && D.plainL ds) = true from p)
    have hn : D.dpL ds + 1 ≤ n := q
    obtain ⟨m, rfl⟩ : ∃ m, n = m + 1 := ⟨n - 1, by omega⟩
    exact .tup ha hb (la.length.trans lb.length.symm) (SameV.ofL pl (by omega) la lb)
  | .lst ds, n, _, _, p, q, h, h' => by
    obtain ⟨a, xs, rfl, _, ha, la⟩ := h
    obtain ⟨b, ys, rfl, _, hb, lb⟩ := h'
    obtain ⟨_, pl⟩ := Bool.and_eq_true_iff.mp (show (decide (ds.length ≤ 1000) && D.plainL ds) = true from p)
    have hn : D.dpL ds + 1 ≤ n := q
    obtain ⟨m, rfl⟩ : ∃ m, n = m + 1 := ⟨n - 1, by omega⟩
    exact .lst ha hb (la.length.trans lb.length.symm) (SameV.ofL pl (by omega) la lb)
  | .dct _, _, _, _, p, _, _, _ => by cases p
theorem SameV.ofL {M M' : List Addr} {H : Hp} : ∀ {ds : List D} {n : Nat} {xs ys : List V}, D.plainL ds = true → D.dpL ds ≤ n → AtL M H ds xs → AtL M' H ds ys → ∀ (i : Nat) (v z : V), xs[i]? = some v → ys[i]? = some z → SameV H n v z
  | [], _, _, _, _, _, h, _, i, v, z, e, _ => by
    cases (show _ = [] from h)
    cases e
  | d :: ds, n, _, _, p, q, h, h', i, v, z, e, e' => by
    obtain ⟨x, r, rfl, h1, h2⟩ := h
    obtain ⟨x', r', rfl, h1', h2'⟩ := h'
    obtain ⟨p1, p2⟩ := Bool.and_eq_true_iff.mp (show (D.plain d && D.plainL ds) = true from p)
    have hq : max (D.dp d) (D.dpL ds) ≤ n := q
    cases i with
    | zero =>
      cases e
      cases e'
      exact SameV.of p1 (by omega) h1 h1'
    | succ i => exact SameV.ofL p2 (by omega) h2 h2' i v z e e'
end
/-- plain and not deep -/
structure Low (d : D) : Prop where
  pl : d.plain = true
  dp : d.dp ≤ 30
/-- where both have a key, they have the same there -/
def EqOk (L L' : List (Str × D)) : Prop := ∀ k d d', (k, d) ∈ L → L'.lookup k = some d' → d = d' ∧ Low d
def keysB (L L' : List (Str × D)) : Bool := L.length == L'.length && L.all fun p => decide (p.1 ∈ keysD L')
theorem do_eqN {A A' : List Addr} {H : Hp} {L L' : List (Str × D)} {x y : V} {Q : VK} (hx : At A H (.dct L) x) (hy : At A' H (.dct L') y) (k : EqOk L L') (q : Q (.bl (keysB L L')) H) : rEqN x y H Q := by
  obtain ⟨a, ks, rfl, _, ha, la⟩ := hx
  obtain ⟨b, ls, rfl, _, hb, lb⟩ := hy
  refine ⟨a, b, ks, ls, rfl, rfl, ha, hb, fun key v z m hz => ?_, ?_⟩
  · obtain ⟨i, e⟩ := List.mem_iff_getElem?.mp m
    obtain ⟨n, d, e1, rfl, hd⟩ := la.get e
    have s := valV_some (z := n) lb.keys
    rw [hz] at s
    obtain ⟨d', v', l1, l2, l3⟩ := lb.val (of_decide_eq_true s.symm)
    rw [l2] at hz
    cases hz
    obtain ⟨rfl, lo⟩ := k n d d' (List.mem_of_getElem? e1) l1
    exact SameV.of lo.pl lo.dp hd l3
  · have e1 : (ks.length == ls.length) = (L.length == L'.length) := by rw [la.length, lb.length]
    have e2 : (ks.all fun p => (valV ls p.1).isSome) = L.all fun p => decide (p.1 ∈ keysD L') := by
      have h1 : (ks.all fun p => (valV ls p.1).isSome) = (ks.map (·.1)).all fun x => (valV ls x).isSome := by rw [List.all_map]; rfl
      rw [h1, la.keys, List.all_map]
      congr 1
      funext p
      exact valV_some lb.keys
    rw [e1, e2]
    exact q
theorem do_eqS {A A' : List Addr} {H : Hp} {R R' : List D} {x y : V} {Q : VK} (hx : At A H (.lst R) x) (hy : At A' H (.lst R') y) (k : R.length = R'.length → R = R' ∧ D.plainL R = true ∧ D.dpL R ≤ 30) (q : Q (.bl (R.length == R'.length)) H) : rEqS x y H Q := by
  obtain ⟨a, xs, rfl, _, ha, la⟩ := hx
  obtain ⟨b, ys, rfl, _, hb, lb⟩ := hy
  refine ⟨a, b, xs, ys, rfl, rfl, ha, hb, fun e i v z ev ez => ?_, ?_⟩
  · obtain ⟨rfl, pl, dp⟩ := k (by rw [← la.length, ← lb.length]; exact e)
    exact SameV.ofL pl dp la lb i v z ev ez
  · rw [la.length, lb.length]
    exact q

/-- what isinstance(o, Kind) asks of the class -/
structure KindI (K : PySem.W.Frag) : Prop where
  kc : KindC K
  cl : PySem.W.findIn K (.ref (KC K)) "__class__" = some (some (.builtin "object.__class__"))
  gt : PySem.W.specialIn K (.builtin "object.__class__") "__get__" = some (some (.builtin "getset_descriptor.__get__"))
  tk : PySem.W.takesIn K (.builtin "object.__class__") = some true
  mr : PySem.W.mroIn K (KC K) (.type "object") = some true
  ki : PySem.W.kitOne K (.ref (KC K)) (.ref (KC K)) = some true
/-- the parts of two Kinds that are compared -/
structure EqK (L O : List (Str × D)) (R : List D) (L' O' : List (Str × D)) (R' : List D) : Prop where
  l : EqOk L L'
  o : EqOk O O'
  r : R.length = R'.length → R = R' ∧ D.plainL R = true ∧ D.dpL R ≤ 30
def sp_Kind_eq (K : PySem.W.Frag) : Sp := fun vs H Q _ => ∃ (a b : Addr) (nm nm' : Str) (L O L' O' : List (Str × D)) (R R' : List D) (h h' : Bool), vs = [.ref a, .ref b] ∧ KindI K ∧ KOb K [] H a nm L O R h ∧ KOb K [] H b nm' L' O' R' h' ∧ EqK L O R L' O' R' ∧
  Q (.bl (decide (nm = nm') && (keysB L L' && (keysB O O' && (R.length == R'.length && decide (h = h')))))) H
theorem len_Kind_eq {K : PySem.W.Frag} {vs : List V} {H : Hp} {Q : VK} {E : XK} (h : sp_Kind_eq K vs H Q E) : vs.length = 2 := by
  obtain ⟨_, _, _, _, _, _, _, _, _, _, _, _, rfl, _⟩ := h
  rfl
def t_Kind_eq (K : PySem.W.Frag) : TS :=
  (tRet (tAndV (tCB (rIsi K) (tCons (tVar 1) (tCons (tC (.ref (He.ga K "Kind"))) tNil))) (tAndV (tOp rEq (tFld K (tVar 0) "kind_name") (tFld K (tVar 1) "kind_name")) (tAndV (tOp rEqN (tFld K (tVar 0) "link_table") (tFld K (tVar 1) "link_table")) (tAndV (tOp rEqN (tFld K (tVar 0) "own_table") (tFld K (tVar 1) "own_table")) (tAndV (tOp rEqS (tFld K (tVar 0) "rule_list") (tFld K (tVar 1) "rule_list")) (tOp rEq (tFld K (tVar 0) "is_hidden") (tFld K (tVar 1) "is_hidden"))))))))
theorem pure_Kind_eq {K : PySem.W.Frag} (vs : List V) (H : Hp) (Q : VK) (E : XK) (h : sp_Kind_eq K vs H Q E) : t_Kind_eq K (fin Q) (st0 2 vs) H := by
  obtain ⟨a, b, nm, nm', L, O, L', O', R, R', h, h', rfl, C, ⟨dx, l, o, r, _, ea, hl, ho, hr⟩, ⟨dy, l', o', r', _, eb, hl', ho', hr'⟩, k, q⟩ := h
  have c := C.kc.cls
  refine ⟨_, rfl, .ref b, .ref (KC K), _, _, true, rfl, .own _, .base (.ins eb c C.cl C.gt C.tk C.mr), C.ki, _, rfl, ?_⟩
  refine iteT ?_
  refine ⟨_, rfl, a, KC K, dx, _, .str nm, rfl, ea, c, C.kc.n1, rfl, _, rfl, b, KC K, dy, _, .str nm', rfl, eb, c, C.kc.n1, rfl, rfl, _, rfl, ?_⟩
  have e1 : decide (V.str nm = V.str nm') = decide (nm = nm') := decide_eq_decide.mpr ⟨fun z => V.str.inj z, fun z => by rw [z]⟩
  rw [e1]
  cases g1 : decide (nm = nm') with
  | false =>
    refine iteF ?_
    rw [g1] at q
    exact q
  | true =>
  rw [g1, Bool.true_and] at q
  refine iteT ?_
  refine ⟨_, rfl, a, KC K, dx, _, l, rfl, ea, c, C.kc.n2, rfl, _, rfl, b, KC K, dy, _, l', rfl, eb, c, C.kc.n2, rfl, ?_⟩
  refine do_eqN hl hl' k.l ⟨_, rfl, ?_⟩
  cases g2 : keysB L L' with
  | false =>
    refine iteF ?_
    rw [g2] at q
    exact q
  | true =>
  rw [g2, Bool.true_and] at q
  refine iteT ?_
  refine ⟨_, rfl, a, KC K, dx, _, o, rfl, ea, c, C.kc.n3, rfl, _, rfl, b, KC K, dy, _, o', rfl, eb, c, C.kc.n3, rfl, ?_⟩
  refine do_eqN ho ho' k.o ⟨_, rfl, ?_⟩
  cases g3 : keysB O O' with
  | false =>
    refine iteF ?_
    rw [g3] at q
    exact q
  | true =>
  rw [g3, Bool.true_and] at q
  refine iteT ?_
  refine ⟨_, rfl, a, KC K, dx, _, r, rfl, ea, c, C.kc.n4, rfl, _, rfl, b, KC K, dy, _, r', rfl, eb, c, C.kc.n4, rfl, ?_⟩
  refine do_eqS hr hr' k.r ⟨_, rfl, ?_⟩
  cases g4 : (R.length == R'.length) with
  | false =>
    refine iteF ?_
    rw [g4] at q
    exact q
  | true =>
  rw [g4, Bool.true_and] at q
  refine iteT ?_
  refine ⟨_, rfl, a, KC K, dx, _, .bl h, rfl, ea, c, C.kc.n5, rfl, _, rfl, b, KC K, dy, _, .bl h', rfl, eb, c, C.kc.n5, rfl, rfl, ?_⟩
  have e5 : decide (V.bl h = V.bl h') = decide (h = h') := decide_eq_decide.mpr ⟨fun z => V.bl.inj z, fun z => by rw [z]⟩
  rw [e5]
  exact q
end Kb

set_option Elab.async false
set_option linter.all false
set_option maxRecDepth 100000
set_option maxHeartbeats 2000000
/-! Kb, 43: a list comprehension where an exception is handled; x in o there. -/
namespace Kb
open PySem PySem.Spec PyProof.Rows L2 L2H

abbrev blkH (X : Cx) (p : Addr × Obj) (s : Shared) (H : Hp) (scope : Scope) (cenv : Env) (fp : List Addr) : Cx := { X.blk s H scope cenv fp with pn := [p] }
section
variable {X : Cx} {pins : List (Addr × Obj)} {σ : L2.St} {H : Hp} {s : Shared}
theorem toHot {p : Addr × Obj} {scope : Scope} {ce : Env} {fp : List Addr} {τ : L2.St} {G : Hp} {t : Shared} (J : Inv (X.blk s H scope ce fp) [] τ G t)
    (h1 : t.heap.get? p.1 = some p.2) (h2 : G p.1 = none) (h3 : p.1 ≠ ce.locals) (h4 : p.1 ∉ frs X.stack) (h5 : ∀ v, p.2.data ≠ .cell v) : Inv (blkH X p s H scope ce fp) [] τ G t where
  ok := ⟨J.ok.mod, J.ok.kind, J.ok.glob, J.ok.blt, J.ok.above, J.ok.inj, J.ok.has, J.ok.cab, J.ok.hd, J.ok.frames, J.ok.stk, J.ok.exf, J.ok.bs, J.ok.bsz, J.ok.noex, J.ok.exfs, J.ok.funs, J.ok.frf⟩
  os := J.os
  bare := J.bare
  base := J.base
  loc := J.loc
  cell := J.cell
  free := J.free
  freeC := J.freeC
  pin := fun q hq => by
    have e : q = p := by simpa using hq
    subst e
    exact ⟨h1, h2, h3, h4, h5⟩
  hok := J.hok
  len := J.len
end
section
variable {X : Cx}
theorem pe_lcH {elt tg iter : Expr} {ifs : List Expr} {scope : Scope} {own : List (Str × Nat)} {pos : Pos} {wi : TI} {g : TG} {tt : TT} {te : TE} (hot : HotC X) (nd : X.N.Nodup) (hi : PIH X tg iter wi) (ok : BlkOk X.N X.env.scope scope own)
    (hg : ∀ (p : Addr × Obj) (s : Shared) (H : Hp) (C : Addr) (cl : List (Str × Addr)) (fp : List Addr), Hot1 X.A p → PG (blkH X p s H scope (compEnvC scope cl C X.env) fp) tg g)
    (ht : ∀ (p : Addr × Obj) (s : Shared) (H : Hp) (C : Addr) (cl : List (Str × Addr)) (fp : List Addr), Hot1 X.A p → PTs (blkH X p s H scope (compEnvC scope cl C X.env) fp) ifs tt)
    (he : ∀ (p : Addr × Obj) (s : Shared) (H : Hp) (C : Addr) (cl : List (Str × Addr)) (fp : List Addr), Hot1 X.A p → PE (blkH X p s H scope (compEnvC scope cl C X.env) fp) elt te)
    (hs : ∀ x, foldedSetIterable iter X.env x = pure x := by intro _; rfl) :
    PE X (.ListComp elt [⟨tg, iter, ifs, 0⟩] scope pos) (tLc wi g tt te (own.map (·.2))) := by
  refine ⟨fun pins s σ H Q I h => ?_⟩
  rw [eval_ListComp]
  obtain ⟨p, hp1, hp2⟩ := hot
  have P := I.pin p (List.mem_append_left _ hp2)
  have frees : ∀ y ∈ scope.names, y.2 = .free → ∃ c, X.env.cells.lookup y.1 = some c := fun y hy e => I.ok.has _ ((ok.free y hy e).elim .inl .inr)
  refine wpAny_comprehension_free rfl hs (closure_ok frees) ok.kind (fun y m z => by rw [ok.uniq y m, z]) ?_
  refine thn (hi.run pins s σ H _ I h) fun xv s1 hx => thn hx fun itv s2 got => ?_
  obtain ⟨it, fp, tn, J, H2, rfl, I2, T, z0, f2, q⟩ := got
  refine wpAny_newObj_type (newEnv_comp ?_) (by show 0 ≤ sizeLine; decide)
  obtain ⟨L, hL⟩ : ∃ L, s2.heap.objs.size = L := ⟨_, rfl⟩
  rw [hL]
  obtain ⟨W, ⟨m0, w0⟩, turn⟩ := q L (I2.hok.fresh (Nat.le_of_eq hL))
  obtain ⟨s3, e3⟩ : ∃ s3, ({ s2 with heap := s2.heap.push { cls := .type "list", data := .seq ([] : List Value).toArray } } : Shared) = s3 := ⟨_, rfl⟩
  rw [e3]
  have grow : ∀ b o, s2.heap.get? b = some o → s3.heap.get? b = some o := fun b o e => by
    rw [← e3]
    exact Heap.get?_push_of_some _ e
  have more : s2.heap.objs.size < s3.heap.objs.size := by
    rw [← e3]
    show _ < (Heap.push _ _).objs.size
    rw [Heap.size_push]
    exact Nat.lt_succ_self _
  have I3 : Inv X pins σ (upd H2 L (.lst [])) s3 := by
    rw [← e3]
    exact I2.laid (t' := s2.toks) (fun _ _ e => Heap.get?_push_of_some _ e) (Nat.le_of_eq hL) ⟨Nat.zero_le _, [], 0, .nil, by rw [← hL]; exact Heap.get?_push_size _ rfl⟩
  have P3 := I3.pin p (List.mem_append_left _ hp2)
  obtain ⟨H3, eH⟩ : ∃ H3, upd H2 L (.lst []) = H3 := ⟨_, rfl⟩
  rw [eH] at w0 I3 P3
  have old : ∀ b ∈ fp, b < s2.heap.objs.size := fun b hb => by
    obtain ⟨o, e, _⟩ := T.obj _ _ z0 b hb
    exact Heap.lt_size e
  have f3 : ∀ b ∈ fp, FpOk X pins H3 b ∧ b < s3.heap.objs.size := fun b hb => by
    have lt := old b hb
    refine ⟨⟨?_, (f2 b hb).2⟩, Nat.lt_trans lt more⟩
    rw [← eH, upd_ne (by rw [← hL]; exact Nat.ne_of_lt lt)]
    exact (f2 b hb).1
  have none3 : ∀ b ∈ fp, H3 b = none := fun b hb => (f3 b hb).1.1
  have z3 : tn 0 s3.heap := T.keep _ _ _ z0 fun b _ o e => grow b o e
  have B0 := block_start I3 ok nd f3
  have pg := hg p s3 H3 s3.heap.objs.size (cellsFrom (s3.heap.objs.size + 1) scope.names (cloFrom X.env.cells scope.names [])) fp hp1
  have pt := ht p s3 H3 s3.heap.objs.size (cellsFrom (s3.heap.objs.size + 1) scope.names (cloFrom X.env.cells scope.names [])) fp hp1
  have pe := he p s3 H3 s3.heap.objs.size (cellsFrom (s3.heap.objs.size + 1) scope.names (cloFrom X.env.cells scope.names [])) fp hp1
  have notin : p.1 ∉ frs X.stack := fun hm => (List.mem_cons.mp (I.stkSub p.1 hm)).elim P.2.2.1 P.2.2.2.1
  obtain ⟨ce, ec⟩ : ∃ ce, compEnvC scope (cellsFrom (s3.heap.objs.size + 1) scope.names (cloFrom X.env.cells scope.names [])) s3.heap.objs.size X.env = ce := ⟨_, rfl⟩
  rw [ec] at B0 pg pt pe
  have cL : ce.locals = s3.heap.objs.size := by
    rw [← ec]
    rfl
  have keep4 : ∀ b o, s3.heap.get? b = some o → (pushCells (s3.heap.push { cls := .type "dict", data := .dict #[] }) scope.names).get? b = some o := fun b o e => pushCells_keeps _ _ _ _ (Heap.get?_push_of_some _ e)
  have I4 : Inv (blkH X p s3 H3 scope ce fp) [] (wipe σ (own.map (·.2))) H3 { s3 with heap := pushCells (s3.heap.push { cls := .type "dict", data := .dict #[] }) scope.names } :=
    toHot B0 (keep4 _ _ P3.1) P3.2.1 (by rw [cL]; exact Nat.ne_of_lt (Heap.lt_size P3.1)) notin P3.2.2.2.2
  show codeAny _ _ (.compStart (.ListComp elt [⟨tg, iter, ifs, 0⟩] scope pos) 0 (.ref it) (.ref L) (compEnvC scope (cellsFrom (s3.heap.objs.size + 1) scope.names (cloFrom X.env.cells scope.names [])) s3.heap.objs.size X.env)) _ { s3 with heap := pushCells (s3.heap.push { cls := .type "dict", data := .dict #[] }) scope.names }
  rw [ec]
  obtain ⟨s4, e4⟩ : ∃ s4, ({ s3 with heap := pushCells (s3.heap.push { cls := .type "dict", data := .dict #[] }) scope.names } : Shared) = s4 := ⟨_, rfl⟩
  rw [e4] at I4 ⊢
  have z4 : tn 0 s4.heap := T.keep _ _ _ z3 fun b _ o e => by
    rw [← e4]
    exact keep4 b o e
  have hotB : HotC (blkH X p s3 H3 scope ce fp) := ⟨p, hp1, List.mem_cons_self⟩
  have still : ∀ {τ : L2.St} {G : Hp} {t : Shared}, Inv (blkH X p s3 H3 scope ce fp) [] τ G t → (∀ b ∈ fp, G b = none) → ∀ b ∈ fp, FpOk (blkH X p s3 H3 scope ce fp) [] G b := fun {τ G t} J' hn b hb =>
    ⟨hn b hb, (J'.ok.exf b hb).1, J'.ok.exfs b hb, .inl hb, fun x c e => (J'.ok.exf b hb).2 x c e, fun q hq => by
      have e : q = p := by simpa using hq
      subst e
      intro z
      obtain ⟨z1, _, _, _, z5, z6⟩ := (f3 b hb).1
      exact z6 q (List.mem_append_left _ hp2) z⟩
  have loop : codeAny (model X.prog X.w) X.A (.compLoop (.ListComp elt [⟨tg, iter, ifs, 0⟩] scope pos) 0 (.ref it) (.ref L) ce) (compPost (model X.prog X.w) X.A X.xe none (EP X pins σ Q) (.ref L) s3.heap.objs.size) s4 := by
    refine compLoop_any (fun n t => ∃ i G, Inv (blkH X p s3 H3 scope ce fp) [] (wipe σ (own.map (·.2))) G t ∧ tn i t.heap ∧ (∀ b ∈ fp, G b = none) ∧ W i n G) ?_ m0 ⟨0, H3, I4, z4, none3, w0⟩
    rintro n t5 ⟨i, G5, I5, z5, n5, w5⟩
    rcases turn i n G5 w5 with ⟨stop, fine⟩ | ⟨go, Nx, less, step⟩
    · refine thnF (T.done (blkH X p s3 H3 scope ce fp) rfl rfl rfl hotB i [] t5 _ G5 (fun _ _ => False) I5 (still I5 n5) z5 stop) fun r t6 ⟨er, I6⟩ => ?_
      subst er
      have I7 : Inv X pins σ G5 t6 := I3.call' (ch := fp) I6.os I6.base I6.hok I6.bare fun b hb => ⟨(f3 b hb).1.2.2.2.1, (f3 b hb).1.2.1, (f3 b hb).1.2.2.2.2.1, (f3 b hb).1.2.2.2.2.2⟩
      have nC : G5 s3.heap.objs.size = none := by
        have := I6.free
        rw [← cL]
        exact this
      obtain ⟨m, hm, _⟩ := I6.loc
      have hm : t6.heap.Ns ce.locals m := hm
      rw [cL] at hm
      refine ⟨m, hm, fun h'' sb => ?_⟩
      obtain ⟨f0, f1, f2, f3, f4, f5⟩ := I3.fpOk (Nat.le_refl _) nC
      exact ⟨.ref L, G5, I7.turned (t' := t6.toks) (fun b o hb e => (sb.2 b hb).trans e) f0 f1 f3 f4 f5, rfl, fine⟩
    · refine thnF (T.item (blkH X p s3 H3 scope ce fp) rfl rfl rfl hotB i [] t5 _ G5 (fun _ _ => False) I5 (still I5 n5) z5 go) fun r t6 ⟨u, er, h6⟩ => ?_
      subst er
      refine thnF h6 fun _ t7 ⟨x, G7, I7, r7, y7, z7, n7⟩ => ?_
      refine thnF (pg.run _ t7 _ G7 x u _ (I7.pinned (still I7 n7) (T.obj _ _ z7)) r7 (step x G7 y7)) fun _ t8 ⟨τ, G8, I8, same, q8⟩ => ?_
      refine thnF (pt.run _ t8 τ G8 _ I8 q8) fun b t9 ⟨G9, I9, q9⟩ => ?_
      have close : ∀ {t : Shared} {G : Hp}, Inv (blkH X p s3 H3 scope ce fp) ([] ++ pinsAt fp t7.heap) τ G t → Nx G → ∃ m, m < n ∧ ∃ i G, Inv (blkH X p s3 H3 scope ce fp) [] (wipe σ (own.map (·.2))) G t ∧ tn i t.heap ∧ (∀ b ∈ fp, G b = none) ∧ W i m G := fun {t G} J' nx => by
        obtain ⟨m', hm, w'⟩ := less G nx
        have held : ∀ b ∈ fp, ∀ o, t7.heap.get? b = some o → t.heap.get? b = some o ∧ G b = none := fun b hb o e =>
          let z := J'.pin (b, o) (List.mem_append_right _ (List.mem_append_right _ (mem_pinsAt hb e)))
          ⟨z.1, z.2.1⟩
        refine ⟨m', hm, i + 1, G, (J'.unpinned (pins := [])).weak (by rw [← same, wipe_length]) (fun j v e => ?_), T.keep _ _ _ z7 fun b hb o e => (held b hb o e).1, fun b hb => ?_, w'⟩
        · rw [← same] at e
          exact (wipe_some e).1
        · obtain ⟨o, e, _⟩ := T.obj _ _ z7 b hb
          exact (held b hb o e).2
      cases b with
      | false =>
        simp only [Bool.false_eq_true, if_false] at q9 ⊢
        exact close I9 q9
      | true =>
        simp only [if_true] at q9 ⊢
        refine thnF (pe.run _ t9 τ G9 _ I9 q9) fun z t10 ⟨yv, G10, I10, r10, acc, a1, a2, nx⟩ => ?_
        exact app_ok (X := blkH X p s3 H3 scope ce fp) I10 a1 a2 r10 fun t11 I11 => close I11 nx
  exact codeAny_compStart_list loop (T.self X.A 0 _ _ _ z4 loop)
end
section
variable {X : Cx} {CX : CXT} {k : Nat} {C f : Addr} {fd : FuncData} {ps : List Str} {sp : Sp} {E : XK}
/-- x in o by o's own __contains__, where an exception is handled -/
theorem op_inKH (hs : PySem.W.findIn X.K (.ref C) "__contains__" = some (some (.ref f))) (hf : PySem.W.isFn X.K (.ref f) = true) (F : FnH X.prog X.w X.K X.mg X.base CX k f fd ps sp) (hr : RoomH k X.A) (hc : HotC X) (hb : Binds X.K fd ps []) (hx : ∀ σ, PassesAt CX X σ E) :
    OpR X (compareOp .In) (rInK false C sp E) := by
  intro pins s σ H x y v u Q I rx ry h
  obtain ⟨a, dx, fs, rfl, ea, h⟩ := h
  cases (show u = Value.ref a from ry)
  obtain ⟨mA, O, _⟩ := ins_get I.hok ea
  obtain ⟨od, O, _⟩ := O.look
  obtain ⟨m, fr⟩ := I.fr
  refine PySem.W.in_K fr I.ok.mod.kin O hs hf (thn (run_fnH (E := fun _ => E) (vs := [.ref a, x]) (us := [.ref a, v]) F hr hc hb (hx σ) I (.cons rfl (.cons rx .nil)) h) fun r s1 ⟨w, G, J, rw', b, e, q⟩ => ?_)
  subst e
  cases (show r = Value.bool b from rw')
  exact wpAny_truthy_bool ⟨.bl b, G, J, rfl, q⟩
end
end Kb

set_option Elab.async false
set_option linter.all false
set_option maxRecDepth 100000
set_option maxHeartbeats 1000000
/-! Kb, 44: _law_like and x in kind where an exception is handled; _law_not_own. -/
namespace Kb
open PySem PySem.Spec PyProof.Rows L2 L2H

section
variable {P : Program} {w : World} {K : PySem.W.Frag} {mg : Str → Option Value} {base : Heap} {x qual : Str} {params : Arguments} {body : List Stmt} {scope : Scope} {dvs : List V} {kws : List (Str × V)} {f : Addr} {fd : FuncData}
/-- a def's promise where an exception is handled -/
theorem okHot {CX : CXT} {N ps : List Str} {k : Nat} {sp : Sp} (F : FunD K x qual params body scope dvs kws f fd) (S : FnScope N ps scope) (len : ∀ vs H Q E, sp vs H Q E → vs.length = ps.length)
    (hbody : ∀ (cdv : Value) (A : Around) (outer : List Env) (s : Shared) (H : Hp) (vs : List V) (Q : VK) (E : XK) (p : Addr × Obj), HotC (cxH CX P w K mg base N qual scope f cdv A outer s H E p) → RoomH k (A.deeper (envOfC qual scope s.heap.objs.size f cdv)) → sp vs H Q E →
      ∃ t, PSs (cxH CX P w K mg base N qual scope f cdv A outer s H E p) body t ∧ t { nx := fun _ H' => Q .non H', rt := Q } (L2.start N vs) H) : FnH P w K mg base CX (k + 1) f fd ps sp := by
  obtain ⟨_, _, _, _, _, _, _, _, _, _, rfl, lk, hcd, _, _⟩ := F.ex
  exact fn_ofH lk hcd S len fun A outer s H vs Q E p hot hr hsp => hbody _ A outer s H vs Q E p ⟨p, hot, List.mem_cons_self⟩ hr hsp
theorem noHot {CX : CXT} {ps : List Str} {sp : Sp} {k : Nat} (no : ∀ vs H Q E, ¬ sp vs H Q E) : FnH P w K mg base CX k f fd ps sp :=
  ⟨fun vs H Q E h => (no vs H Q E h).elim, fun _ _ _ _ _ _ _ _ _ _ _ _ _ _ _ _ h => (no _ _ _ _ h).elim⟩
end
/-- like data without dicts -/
def sp_lh (n : Nat) (K : PySem.W.Frag) : Sp := fun vs H Q _ => ∃ (d : D) (x y : V), vs = [x, y] ∧ AtZ H d x ∧ At [] H d y ∧ d.plain = true ∧ d.dp < n ∧ ∀ H', But [] H H' → Q (.bl true) H'
theorem len_lh {n : Nat} {K : PySem.W.Frag} {vs : List V} {H : Hp} {Q : VK} {E : XK} (h : sp_lh n K vs H Q E) : vs.length = 2 := by
  obtain ⟨_, _, _, rfl, _⟩ := h
  rfl
theorem no_lh {K : PySem.W.Frag} {vs : List V} {H : Hp} {Q : VK} {E : XK} : ¬ sp_lh 0 K vs H Q E := fun h => by
  obtain ⟨_, _, _, _, _, _, _, h, _⟩ := h
  omega
def t_lh (n : Nat) (K : PySem.W.Frag) : TS :=
  (tSeq (tIfS (tB (tCB (rIsi K) (tCons (tVar 1) (tCons (tC (.ty "dict")) tNil))))
    tNever
    tNext)
  (tSeq (tIfS (tB (tCB (rIsiT K) (tCons (tVar 1) (tCons (tTup (tCons (tC (.ty "list")) (tCons (tC (.ty "tuple")) tNil))) tNil))))
    (tSeq (tIfS (tOr (tNot (tB (tCB (rIsiT K) (tCons (tVar 0) (tCons (tTup (tCons (tC (.ty "list")) (tCons (tC (.ty "tuple")) tNil))) tNil))))) (tTest (tOp rNe (tCB (rIsi K) (tCons (tVar 0) (tCons (tC (.ty "list")) tNil))) (tCB (rIsi K) (tCons (tVar 1) (tCons (tC (.ty "list")) tNil))))))
    (tRet (tC (.bl false)))
    tNext)
  (tSeq (tIfS (tTest (tOp rNe (tCB (rLenA K) (tCons (tVar 0) tNil)) (tCB (rLenA K) (tCons (tVar 1) tNil))))
    (tRet (tC (.bl false)))
    tNext)
  (tRet (tOp (rEqD K) (tLc (iRng1 (tCons (tCB (rLenA K) (tCons (tVar 1) tNil)) tNil)) (gName 2) (tNot (tB (tCallS (sp_lh n K) (fun _ => E0) (tCons (tOp (rIx K) (tVar 0) (tVar 2)) (tCons (tOp (rIx K) (tVar 1) (tVar 2)) tNil))))) (tVar 2) [2]) (tLst tNil)))))
    tNext)
  (tSeq (tIfS (tTest (tOp rNe (tCB (rIsi K) (tCons (tVar 0) (tCons (tC (.ty "bool")) tNil))) (tCB (rIsi K) (tCons (tVar 1) (tCons (tC (.ty "bool")) tNil)))))
    (tRet (tC (.bl false)))
    tNext)
  (tRet (tAndV (tOp rEq (tCB (rIsi K) (tCons (tVar 0) (tCons (tC (.ty "int")) tNil))) (tCB (rIsi K) (tCons (tVar 1) (tCons (tC (.ty "int")) tNil)))) (tOp rEq (tVar 0) (tVar 1)))))))
theorem plain_memL : ∀ {ds : List D} {d : D}, D.plainL ds = true → d ∈ ds → d.plain = true
  | a :: ds, d, h, m => by
    obtain ⟨h1, h2⟩ := Bool.and_eq_true_iff.mp (show (D.plain a && D.plainL ds) = true from h)
    rcases List.mem_cons.mp m with e | m
    · rw [e]
      exact h1
    · exact plain_memL h2 m
theorem plain_item {d x : D} (h : d.plain = true) (m : x ∈ d.items) : x.plain = true := by
  cases d with
  | tup ds => exact plain_memL (Bool.and_eq_true_iff.mp (show (decide (ds.length ≤ 1000) && D.plainL ds) = true from h)).2 m
  | lst ds => exact plain_memL (Bool.and_eq_true_iff.mp (show (decide (ds.length ≤ 1000) && D.plainL ds) = true from h)).2 m
  | _ => cases m
theorem pure_lh {K : PySem.W.Frag} (n : Nat) (vs : List V) (H : Hp) (Q : VK) (E : XK) (h : sp_lh (n + 1) K vs H Q E) : t_lh n K (fin Q) (st0 3 vs) H := by
  obtain ⟨d, x, y, rfl, hx, hy, hp, hn, k⟩ := h
  have hl := Like.refl hp
  have hd : d.isDct = false := by cases d <;> first | rfl | cases hp
  refine ⟨_, rfl, y, _, _, _, d.isDct, rfl, .ty _, hy.ty, kit_dct, _, rfl, ?_⟩
  rw [hd]
  refine iteF ?_
  refine ⟨_, rfl, by show 2 ≤ sizeLine; decide, fun q1 hq1 => ?_⟩
  have B1 : But [] H (upd H q1 (.tup [.ty "list", .ty "tuple"])) := But.new hq1
  have u1 : (upd H q1 (.tup [.ty "list", .ty "tuple"])) q1 = some (.tup [.ty "list", .ty "tuple"]) := upd_same
  generalize upd H q1 (.tup [.ty "list", .ty "tuple"]) = H1 at B1 u1 ⊢
  have hx1 := hx.mono (Zm.but B1)
  have hy1 := hy.mono B1
  refine ⟨y, q1, _, _, _, d.isSeq, rfl, u1, .cons (.ty _) (.cons (.ty _) .nil), hy1.ty, kit_seq, _, rfl, ?_⟩
  cases hs : d.isSeq with
  | true =>
    refine iteT ?_
    refine ⟨_, rfl, by show 2 ≤ sizeLine; decide, fun q2 hq2 => ?_⟩
    have B2 : But [] H1 (upd H1 q2 (.tup [.ty "list", .ty "tuple"])) := But.new hq2
    have u2 : (upd H1 q2 (.tup [.ty "list", .ty "tuple"])) q2 = some (.tup [.ty "list", .ty "tuple"]) := upd_same
    generalize upd H1 q2 (.tup [.ty "list", .ty "tuple"]) = H2 at B2 u2 ⊢
    have hx2 := hx1.mono (Zm.but B2)
    have hy2 := hy1.mono B2
    have B02 := B1.trans B2
    refine ⟨x, q2, _, _, _, d.isSeq, rfl, u2, .cons (.ty _) (.cons (.ty _) .nil), hx2.ty, kit_seq, _, rfl, ?_⟩
    rw [hs]
    refine iteF ?_
    refine ⟨_, rfl, x, _, _, _, d.isLst, rfl, .ty _, hx2.ty, kit_lst, _, rfl, y, _, _, _, d.isLst, rfl, .ty _, hy2.ty, kit_lst, ?_⟩
    refine ⟨rfl, _, rfl, ?_⟩
    rw [decide_eq_true (rfl : V.bl d.isLst = V.bl d.isLst)]
    refine iteF ?_
    obtain ⟨p1, xs1, rfl, a1, z1⟩ := hx2.seq (K := K) hs
    obtain ⟨p2, xs2, rfl, a2, z2⟩ := hy2.seq (K := K) hs
    obtain ⟨_, l1000⟩ := like_seq hl hs
    have n1 := z1.length
    have n2 := z2.length
    refine ⟨_, rfl, _, xs1.length, rfl, a1.lenV, _, rfl, _, xs2.length, rfl, a2.lenV, rfl, _, rfl, ?_⟩
    rw [decide_eq_true (show V.int (xs1.length : Int) = V.int (xs2.length : Int) by rw [n1, n2])]
    refine iteF ?_
    refine ⟨_, rfl, _, xs2.length, rfl, a2.lenV, (xs2.length : Int), rfl, by omega, by omega, fun Dl hD => ?_⟩
    have uD : (upd H2 Dl (.lst [])) Dl = some (.lst []) := upd_same
    refine lc_it walk_range (fun i H' => H' Dl = some (.lst []) ∧ But [] H2 H') ⟨uD, But.new hD⟩ (fun _ _ _ _ => trivial) ?_ ?_
    · rintro i v H5 H6 hi ⟨q1', b5⟩ ⟨rfl, rfl⟩
      have hi2 : i < xs2.length := by simpa using hi
      have hi1 : i < xs1.length := by omega
      obtain ⟨d2, f1, f2⟩ := (z1.mono (Zm.but b5)).get (i := i) (x := xs1[i]) (by simp [hi1])
      obtain ⟨e2, g1, g2⟩ := (z2.mono b5).get (i := i) (x := xs2[i]) (by simp [hi2])
      refine ⟨wipe_one, ?_⟩
      refine ⟨_, rfl, _, rfl, (a1.but b5).ixR (i := i) (v := xs1[i]) (by simp [hi1]) (by omega) ?_⟩
      refine ⟨_, rfl, _, rfl, (a2.but b5).ixR (i := i) (v := xs2[i]) (by simp [hi2]) (by omega) ?_⟩
      obtain rfl : d2 = e2 := Option.some.inj (f1.symm.trans g1)
      refine ⟨d2, _, _, rfl, f2, g2, plain_item hp (List.mem_of_getElem? g1), ?_, fun H7 b7 => ⟨_, rfl, ?_⟩⟩
      · have := items_dp (List.mem_of_getElem? g1)
        omega
      · exact iteF ⟨b7.keep _ _ (by simp) q1', b5.trans b7⟩
    · rintro H5 ⟨q1', b5⟩
      refine ⟨sz0, fun q3 hq3 => ?_⟩
      exact eqE (xs := []) (by rw [upd_ne (ne_of_none q1' hq3)]; exact q1') rfl upd_same (k _ ((B02.trans b5).upd' hq3))
  | false =>
    refine iteF ?_
    have hf : d.isFlat = true := by cases d <;> first | rfl | (cases hs; done) | (cases hd; done)
    refine ⟨_, rfl, x, _, _, _, d.isBool, rfl, .ty _, hx1.ty, kit_bool, _, rfl, y, _, _, _, d.isBool, rfl, .ty _, hy1.ty, kit_bool, ?_⟩
    refine ⟨rfl, _, rfl, ?_⟩
    rw [decide_eq_true (rfl : V.bl d.isBool = V.bl d.isBool)]
    refine iteF ?_
    refine ⟨_, rfl, x, _, _, _, d.isInt, rfl, .ty _, hx1.ty, kit_int, _, rfl, y, _, _, _, d.isInt, rfl, .ty _, hy1.ty, kit_int, ?_⟩
    refine ⟨rfl, _, rfl, ?_⟩
    rw [decide_eq_true (rfl : V.bl d.isInt = V.bl d.isInt)]
    refine iteT ?_
    obtain ⟨exy, sc⟩ := flat_eq hl hf hx1 hy1
    refine ⟨_, rfl, _, rfl, sc, ?_⟩
    rw [decide_eq_true exy]
    exact k H1 B1
end Kb

set_option Elab.async false
set_option linter.all false
set_option maxRecDepth 100000
set_option maxHeartbeats 1000000
/-! Kb, 45: _law_not_own. -/
namespace Kb
open PySem PySem.Spec PyProof.Rows L2 L2H

/-- o[y] by o's own __getitem__, which may raise -/
def tIxS (C : Addr) (sp : Sp) (E : L2.St → XK) (ta tb : TE) : TE := fun σ H Q => ta σ H fun x H1 => tb σ H1 fun y H2 => ∃ a dx fs, x = .ref a ∧ H2 a = some (.ins C dx fs) ∧ sp [.ref a, y] H2 Q (E σ)
section
variable {X : Cx} {CX : CXT} {k : Nat} {C f : Addr} {fd : FuncData} {ps : List Str} {sp : Sp} {E : L2.St → XK}
theorem pe_ixS {ae be : Expr} {pos : Pos} {ta tb : TE} (hs : PySem.W.findIn X.K (.ref C) "__getitem__" = some (some (.ref f))) (hf : PySem.W.isFn X.K (.ref f) = true) (hn : PySem.W.fnIn X.K f = true) (F : FnOk X.prog X.w X.K X.mg X.base CX k f fd ps sp) (hr : Room (k + 1) X.A) (hb : Binds X.K fd ps []) (hx : ∀ σ, PassesAt CX X σ (E σ))
    (ha : PE X ae ta) (hbe : PE X be tb) (hsl : ∀ (a : Addr) (u : Value), subscripted be true (.ref a) u = runValue (.builtin "lifetime.subscript" ⟨[.ref a, u], []⟩) := by (intro _ _; with_unfolding_all rfl)) : PE X (.Subscript ae be pos) (tIxS C sp E ta tb) := by
  refine ⟨fun pins s σ H Q I h => ?_⟩
  have h : tOp (rIxK C sp (E σ)) ta tb σ H Q := h
  refine Subscript_ (binT ha hbe I h fun v u s x y H I rx ry h => ?_)
  obtain ⟨a, dx, fs, rfl, ea, h⟩ := h
  cases (show v = Value.ref a from rx)
  obtain ⟨mA, J, _⟩ := ins_get I.hok ea
  obtain ⟨od, J, _⟩ := J.look
  obtain ⟨m, hF⟩ := I.fr
  have hl : ([Value.ref a, u] ++ []).length = ps.length := by
    rw [← F.len _ _ _ _ h]
    rfl
  refine PySem.W.sub_K hF I.ok.mod.kin J hs hn hf (wpAny_call (codeAny_mono (F.run X.A.in1 X.stack s H ⟨[.ref a, u], []⟩ [.ref a, u] [.ref a, y] Q (E σ) hr.in1 I.env0.in1 (hb s [.ref a, u] I.kIn hl) (.cons rfl (.cons ry .nil)) h) fun r s' hq => ?_)) (hsl a u)
  cases r with
  | error e => exact hx σ pins H s e s' I hq
  | ok fl =>
    cases fl with
    | ret w => exact I.after hq
    | next => exact False.elim hq
    | brk => exact False.elim hq
    | cont => exact False.elim hq
end
/-- what the law asks of the class NoName, where it is caught -/
structure NoNameX (K : PySem.W.Frag) : Prop where
  nn : NoNameC K
  xf : XfC K (NC K)
  me : PySem.W.exmOne K (.ref (NC K)) (.ref (NC K)) = some true
def sp_l_not_own (K : PySem.W.Frag) : Sp := fun vs H Q _ => ∃ (a : Addr) (nm : Str) (L O : List (Str × D)) (R : List D) (h : Bool) (d : D) (x : V), vs = [.ref a, x] ∧ KindC K ∧ NoNameX K ∧ KOb K [] H a nm L O R h ∧ At [] H d x ∧ d.plain = true ∧ d.dp < 3 ∧ isLinkD d O = false ∧
  ∀ H', But [] H H' → Q (.bl true) H'
theorem len_l_not_own {K : PySem.W.Frag} {vs : List V} {H : Hp} {Q : VK} {E : XK} (h : sp_l_not_own K vs H Q E) : vs.length = 2 := by
  obtain ⟨_, _, _, _, _, _, _, _, rfl, _⟩ := h
  rfl
def ts_not_own (K : PySem.W.Frag) : Addr → Value → Option Addr → TS := fun a cls d =>
  tRet (tAndV (tCallS (sp_lh 3 K) (fun _ => E0) (tCons (tXf a cls d (NC K) "what" (tVar 2)) (tCons (tVar 1) tNil))) (tNotV (tOp (rInK false (KC K) (sp_Kind_contains K) E0) (tVar 1) (tVar 0))))
def tb_not_own (K : PySem.W.Frag) (W : WX) : TS := tDrop (tIxS (KC K) (sp_Kind_getitem K) (WE W) (tVar 0) (tVar 1))
def t_l_not_own (K : PySem.W.Frag) : TS :=
  (tSeq (fun D σ H => tb_not_own K (wAs K (.ref (NC K)) 2 (ts_not_own K) (fun _ _ _ _ => False) D) D σ H) (tRet (tC (.bl false))))
theorem pure_l_not_own {K : PySem.W.Frag} (vs : List V) (H : Hp) (Q : VK) (E : XK) (h : sp_l_not_own K vs H Q E) : t_l_not_own K (fin Q) (st0 3 vs) H := by
  obtain ⟨a, nm, L, O, R, hd, d, x, rfl, C, N, ⟨dx, l, o, r, _, ea, hl, ho, hr⟩, hx, pl, dp, no, k⟩ := h
  obtain ⟨po, ko, rfl, _, eo, lo⟩ := ho
  refine ⟨_, rfl, _, rfl, a, dx, _, rfl, ea, a, dx, po, _, d, x, O, ko, rfl, C.cls, C.n3, N.nn, ea, rfl, eo, lo.keys, hx.z, fun q => ?_, fun _ p hp => ?_⟩
  · rw [no] at q
    cases q
  · refine ⟨true, N.me, fun _ e he => ?_, fun q => nomatch q⟩
    have B : But [] H (upd H p (.xd [("what", x)])) := But.new hp
    have hx' := hx.mono B
    refine ⟨_, rfl, rfl, rfl, p, _, x, rfl, upd_same, rfl, _, rfl, d, x, x, rfl, hx'.z, hx', pl, dp, fun H' b => ⟨_, rfl, ?_⟩⟩
    refine iteT ?_
    have B' := B.trans b
    refine ⟨_, rfl, _, rfl, a, dx, _, rfl, B'.keep _ _ (by simp) ea, a, dx, po, _, d, x, O, ko, rfl, C.cls, C.n3, B'.keep _ _ (by simp) ea, rfl, B'.keep _ _ (by simp) eo, lo.keys, (hx.mono B').z, _, rfl, _, rfl, ?_⟩
    rw [no]
    exact k _ B'
end Kb

set_option Elab.async false
set_option linter.all false
set_option maxRecDepth 100000
set_option maxHeartbeats 2000000
/-! Kb, 46: _law_changed. -/
namespace Kb
open PySem PySem.Spec PyProof.Rows L2

/-- k' is k, one part of it changed -/
structure Chg (k k' : KD) : Prop where
  l : k'.links = k.links ∨ ∃ w, w ∉ k.lks ∧ k'.links = [(w, [("" : Str)])]
  o : k'.own = k.own ∨ k'.own = [] ∨ ∃ w, w ∉ k.own.map (·.1) ∧ k'.own = [(w, .self)]
  r : k'.rules = k.rules ∨ k'.rules = [] ∨ k'.rules = k.rules ++ [.bar []]
  ne : k'.name ≠ k.name ∨ (∃ w, w ∉ k.lks ∧ k'.links = [(w, [("" : Str)])]) ∨ (∃ w, w ∉ k.own.map (·.1) ∧ k'.own = [(w, .self)]) ∨ k'.rules = k.rules ++ [.bar []] ∨ k'.hid ≠ k.hid
theorem KdGood.rename {k : KD} (g : KdGood k) {w : Str} (h : IsName w) (b : Bool) : KdGood ⟨w, k.links, k.own, k.rules, b⟩ := by
  obtain ⟨kinds, asked, rn, ok, a⟩ := g.ex
  exact ⟨⟨kinds, asked, rn, ⟨ok.lk, ok.cho, ok.own, ok.rl, ok.ro⟩, a⟩, h⟩
theorem KdGood.link {k : KD} (g : KdGood k) {w : Str} (h : IsName w) : KdGood ⟨k.name, [(w, [("" : Str)])], [], [], k.hid⟩ := by
  have lk : Names 2 [w] := ⟨by simp, by simp, fun x m => by rw [List.mem_singleton.mp m]; exact h⟩
  have co : ChoOk [] [("" : Str)] := ⟨⟨by simp, by simp, by decide +kernel⟩, by simp, fun y m => .inr (List.mem_singleton.mp m)⟩
  have ok : KdOk [] [] 2 0 ⟨k.name, [(w, [("" : Str)])], [], [], k.hid⟩ := ⟨lk, fun p m => by rw [List.mem_singleton.mp m]; exact co, ⟨by simp, fun p m => (List.not_mem_nil m).elim⟩, Nat.le_refl _, fun r m => (List.not_mem_nil m).elim⟩
  exact ⟨⟨[], [], 0, ok, by omega, fun _ m => (List.not_mem_nil m).elim, fun _ m => (List.not_mem_nil m).elim, List.nodup_nil⟩, g.name⟩
theorem KdGood.self {k : KD} (g : KdGood k) {w : Str} (h : IsName w) : KdGood ⟨k.name, k.links, [(w, .self)], k.rules, k.hid⟩ := by
  obtain ⟨kinds, asked, rn, ok, hr, hk, ha, nd⟩ := g.ex
  have mem : ∀ n ∈ asked, n ∈ w :: asked.filter (fun x => decide (x ≠ w)) := fun n m => by
    by_cases e : n = w
    · exact List.mem_cons.mpr (.inl e)
    · exact List.mem_cons_of_mem _ (List.mem_filter.mpr ⟨m, decide_eq_true e⟩)
  refine ⟨⟨kinds, w :: asked.filter (fun x => decide (x ≠ w)), rn, ⟨ok.lk, ok.cho, ⟨by simp, fun p m => ?_⟩, ok.rl, fun r m => ?_⟩, hr, hk, fun n m => ?_, ?_⟩, g.name⟩
  · rw [List.mem_singleton.mp m]
    exact trivial
  · obtain ⟨a1, a2, a3⟩ := ok.ro r m
    refine ⟨a1, fun n mn => mem n (a2 n mn), ?_⟩
    cases r with
    | send ns l u b c => exact ⟨a3.1, a3.2.elim .inl fun z => .inr (mem _ z)⟩
    | _ => exact a3
  · rcases List.mem_cons.mp m with e | m
    · rw [e]
      exact h
    · exact ha n (List.mem_filter.mp m).1
  · rw [List.nodup_cons]
    refine ⟨fun z => ?_, nd.sublist List.filter_sublist⟩
    have := (List.mem_filter.mp z).2
    simp at this
theorem KdGood.bar {k : KD} (g : KdGood k) (hl : k.rules.length ≤ 299) : KdGood ⟨k.name, k.links, k.own, k.rules ++ [.bar []], k.hid⟩ := by
  obtain ⟨kinds, asked, rn, ok, hr, a⟩ := g.ex
  refine ⟨⟨kinds, asked, 300, ⟨ok.lk, ok.cho, ok.own, ?_, fun r m => ?_⟩, Nat.le_refl _, a⟩, g.name⟩
  · show (k.rules ++ [Rule.bar []]).length ≤ 300
    rw [List.length_append]
    simp
    omega
  · rcases List.mem_append.mp m with m | m
    · exact ok.ro r m
    · rw [List.mem_singleton.mp m]
      exact ⟨⟨by simp [Rule.names], by simp [Rule.names], by decide +kernel⟩, fun n m => (List.not_mem_nil m).elim, trivial⟩

theorem KdGood.tells_len {k : KD} (g : KdGood k) : k.links.length ≤ 2 ∧ k.own.length ≤ 5 := by
  obtain ⟨_, h1, h2, _⟩ := k.tells.parts g
  rw [ownD, List.length_map] at h1
  rw [List.length_map] at h2
  exact ⟨h2, h1⟩
theorem if_no {i j : Int} {n : Nat} {σ : L2.St} {H : Hp} {D : Ends} {t : TS} (h : i ≠ j) (hσ : σ[n]? = some (some (.int i))) (k : D.nx σ H) : tIfS (tTest (tOp rEq (tVar n) (tC (.int j)))) t tNext D σ H := by
  refine ⟨_, hσ, rfl, _, rfl, ?_⟩
  rw [decide_eq_false (fun z => h (V.int.inj z))]
  exact iteF k
theorem if_yes {i : Int} {n : Nat} {σ : L2.St} {H : Hp} {D : Ends} {t : TS} (hσ : σ[n]? = some (some (.int i))) (k : t D σ H) : tIfS (tTest (tOp rEq (tVar n) (tC (.int i)))) t tNext D σ H := by
  refine ⟨_, hσ, rfl, _, rfl, ?_⟩
  rw [decide_eq_true rfl]
  exact iteT k
theorem kd_at {A : List Addr} {H : Hp} {q : Addr} {nm : Str} {x1 x2 x3 : V} {h : Bool} {L O : List (Str × D)} {R : List D} (hq : H q = some (.lst [.str nm, x1, x2, x3, .bl h])) (z1 : At (q :: A) H (.dct L) x1) (z2 : At (q :: A) H (.dct O) x2) (z3 : At (q :: A) H (.lst R) x3) :
    At [] H (.lst [.str nm, .dct L, .dct O, .lst R, .bl h]) (.ref q) := by
  exact ⟨q, _, rfl, by simp, hq, _, _, rfl, rfl, _, _, rfl, z1.less (by simp), _, _, rfl, z2.less (by simp), _, _, rfl, z3.less (by simp), _, _, rfl, rfl, rfl⟩

def sp_l_changed (K : PySem.W.Frag) : Sp := fun vs H Q _ => ∃ (a c : Addr) (k : KD) (v : V), vs = [.ref a, v] ∧ StAt H a c ∧ At [a, c] H k.d v ∧ KdGood k ∧ k.rules.length ≤ 299 ∧
  ∀ (k' : KD) (v' : V) (H' : Hp), Chg k k' → KdGood k' → At [] H' k'.d v' → StAt H' a c → But [a, c] H H' → Q v' H'
theorem len_l_changed {K : PySem.W.Frag} {vs : List V} {H : Hp} {Q : VK} {E : XK} (h : sp_l_changed K vs H Q E) : vs.length = 2 := by
  obtain ⟨_, _, _, _, rfl, _⟩ := h
  rfl
def t_l_changed (K : PySem.W.Frag) : TS :=
  (tSeq (tAsg (tCall (sp_l_draw K) [] E0 (tCons (tVar 0) (tCons (tC (.int 5)) tNil))) (gName 2))
  (tSeq (tAsg (tLst (tCons (tOp (rIxL K) (tVar 1) (tC (.int 0))) (tCons (tCB rDictD (tCons (tOp (rIxL K) (tVar 1) (tC (.int 1))) tNil)) (tCons (tCB rDictD (tCons (tOp (rIxL K) (tVar 1) (tC (.int 2))) tNil)) (tCons (tCB (rListOf K) (tCons (tOp (rIxL K) (tVar 1) (tC (.int 3))) tNil)) (tCons (tOp (rIxL K) (tVar 1) (tC (.int 4))) tNil)))))) (gName 3))
  (tSeq (tIfS (tTest (tOp rEq (tVar 2) (tC (.int 0))))
    (tAsg (tCall (sp_l_word K) [] E0 (tCons (tVar 0) (tCons (tLst (tCons (tOp (rIxL K) (tVar 1) (tC (.int 0))) tNil)) tNil))) (gSub (tVar 3) (tC (.int 0)) rSetL))
    tNext)
  (tSeq (tIfS (tTest (tOp rEq (tVar 2) (tC (.int 1))))
    (tSeq (tAsg (tDisp [((tCall (sp_l_word K) [] E0 (tCons (tVar 0) (tCons (tCB rListK (tCons (tOp (rIxL K) (tVar 1) (tC (.int 1))) tNil)) tNil))), (tTup (tCons (tC (.str ("" : Str))) tNil)))]) (gSub (tVar 3) (tC (.int 1)) rSetL))
  (tSeq (tAsg tDNewK (gSub (tVar 3) (tC (.int 2)) rSetL))
  (tAsg (tLst tNil) (gSub (tVar 3) (tC (.int 3)) rSetL))))
    tNext)
  (tSeq (tIfS (tTest (tOp rEq (tVar 2) (tC (.int 2))))
    (tAsg (tDisp [((tCall (sp_l_word K) [] E0 (tCons (tVar 0) (tCons (tCB rListK (tCons (tOp (rIxL K) (tVar 1) (tC (.int 2))) tNil)) tNil))), (tTup (tCons (tC (.str ("self" : Str))) tNil)))]) (gSub (tVar 3) (tC (.int 2)) rSetL))
    tNext)
  (tSeq (tIfS (tTest (tOp rEq (tVar 2) (tC (.int 3))))
    (tAsg (tOp rCat (tOp (rIxL K) (tVar 3) (tC (.int 3))) (tLst (tCons (tTup (tCons (tC (.str ("bar" : Str))) (tCons (tTup tNil) tNil))) tNil))) (gSub (tVar 3) (tC (.int 3)) rSetL))
    tNext)
  (tSeq (tIfS (tTest (tOp rEq (tVar 2) (tC (.int 4))))
    (tAsg (tNotV (tOp (rIxL K) (tVar 1) (tC (.int 4)))) (gSub (tVar 3) (tC (.int 4)) rSetL))
    tNext)
  (tRet (tVar 3)))))))))
/-- {w: (z,)}, w a new word -/
theorem do_disp {K : PySem.W.Frag} {σ : L2.St} {H : Hp} {Q : VK} {a c kd p : Addr} {ws : List Str} {xs : List V} {i : Nat} {z : Str} {kvs : List (Key × V)} {kds : List (Str × D)} (hσ : σ[0]? = some (some (.ref a))) (hσ1 : σ[1]? = some (some (.ref kd))) (S : StAt H a c)
    (hk : H kd = some (.lst xs)) (nk : kd ∉ [a, c]) (hi : atI xs (i : Int) = some (.ref p)) (hp : H p = some (.dK kvs)) (nm : kvs.map (·.1) = kds.map fun p => (Sum.inr p.1 : Key)) (hl : kds.length ≤ 11)
    (k : ∀ (w : Str) (d t : Addr) (H' : Hp), IsName w → w ∉ keysD kds → StAt H' a c → But [a, c] H H' → H d = none → d ∉ [a, c] → H' d = some (.dK [(Sum.inr w, .ref t)]) → H' t = some (.tup [.str z]) → t ∉ [a, c] → Q (.ref d) H') :
    tDisp [((tCall (sp_l_word K) [] E0 (tCons (tVar 0) (tCons (tCB rListK (tCons (tOp (rIxL K) (tVar 1) (tC (.int (i : Int)))) tNil)) tNil))), (tTup (tCons (tC (.str z)) tNil)))] σ H Q := by
  intro d hd
  have B0 : But [] H (upd H d (.dK [])) := But.new hd
  have u0 : (upd H d (.dK [])) d = some (.dK []) := upd_same
  have nd : d ∉ [a, c] := S.no hd
  have S0 : StAt (upd H d (.dK [])) a c := S.new hd
  generalize upd H d (.dK []) = H0 at B0 u0 S0 ⊢
  refine ⟨_, hσ, _, hσ1, kd, _, _, .ref p, rfl, rfl, SqL.of (B0.keep _ _ (by simp) hk), hi, p, kvs, rfl, .inl (B0.keep _ _ (by simp) hp), fun r hr => ?_⟩
  rw [keys_strs (kds := kds) nm]
  have B1 : But [] H0 (upd H0 r (.lst ((keysD kds).map V.str))) := But.new hr
  have u1 : (upd H0 r (.lst ((keysD kds).map V.str))) r = some (.lst ((keysD kds).map V.str)) := upd_same
  have nr : r ∉ [a, c] := S0.no hr
  have S1 : StAt (upd H0 r (.lst ((keysD kds).map V.str))) a c := S0.new hr
  have d1 := B1.keep _ _ (by simp) u0
  generalize upd H0 r (.lst ((keysD kds).map V.str)) = H1 at B1 u1 S1 d1 ⊢
  refine ⟨a, c, r, keysD kds, rfl, S1, nr, u1, by rw [keysD, List.length_map]; exact hl, fun w H2 hw nw S2 B2 => ?_⟩
  refine ⟨by show 1 ≤ sizeLine; decide, fun t ht => ?_⟩
  have d2 := B2.keep _ _ nd d1
  have dt : d ≠ t := ne_of_none d2 ht
  refine ⟨by rw [upd_ne dt]; exact d2, [(Sum.inr w, .ref t)], rfl, by simp, ?_⟩
  have S3 : StAt (upd H2 t (.tup [.str z])) a c := S2.new ht
  refine k w d t _ hw nw (S3.upd nd) ?_ hd nd upd_same (by rw [upd_ne (Ne.symm dt)]; exact upd_same) (S2.no ht)
  have B02 : But [a, c] H H2 := (B0.trans B1).nil.trans B2
  exact (B02.upd' ht).upd (.inr hd)

theorem do_dispA {K : PySem.W.Frag} {σ : L2.St} {H : Hp} {g : TG} {EN : Ends} {a c kd p : Addr} {ws : List Str} {xs : List V} {i : Nat} {z : Str} {kvs : List (Key × V)} {kds : List (Str × D)} (hσ : σ[0]? = some (some (.ref a))) (hσ1 : σ[1]? = some (some (.ref kd))) (S : StAt H a c)
    (hk : H kd = some (.lst xs)) (nk : kd ∉ [a, c]) (hi : atI xs (i : Int) = some (.ref p)) (hp : H p = some (.dK kvs)) (nm : kvs.map (·.1) = kds.map fun p => (Sum.inr p.1 : Key)) (hl : kds.length ≤ 11)
    (k : ∀ (w : Str) (d t : Addr) (H' : Hp), IsName w → w ∉ keysD kds → StAt H' a c → But [a, c] H H' → H d = none → d ∉ [a, c] → H' d = some (.dK [(Sum.inr w, .ref t)]) → H' t = some (.tup [.str z]) → t ∉ [a, c] → g (.ref d) σ H' EN.nx) :
    tAsg (tDisp [((tCall (sp_l_word K) [] E0 (tCons (tVar 0) (tCons (tCB rListK (tCons (tOp (rIxL K) (tVar 1) (tC (.int (i : Int)))) tNil)) tNil))), (tTup (tCons (tC (.str z)) tNil)))]) g EN σ H :=
  do_disp (ws := ws) hσ hσ1 S hk nk hi hp nm hl k
theorem pure_l_changed {K : PySem.W.Frag} (vs : List V) (H : Hp) (Q : VK) (E : XK) (h : sp_l_changed K vs H Q E) : t_l_changed K (fin Q) (st0 4 vs) H := by
  obtain ⟨a, c, k, v, rfl, S, hv, g, hl, fin_⟩ := h
  obtain ⟨kd, p1, p2, p3, kv1, kv2, xs3, rfl, nk, hk, n1, e1, l1, n2, e2, l2, n3, e3, l3⟩ := KD.parts hv
  refine ⟨_, rfl, a, c, 5, rfl, S, by decide, by decide, fun r H1 r0 r5 S1 B1 => ?_⟩
  have hk1 := B1.keep _ _ nk hk
  have e11 := B1.keep _ _ n1 e1
  have e21 := B1.keep _ _ n2 e2
  have e31 := B1.keep _ _ n3 e3
  have l11 := l1.mono B1
  have l21 := l2.mono B1
  have l31 := l3.mono B1
  refine ⟨_, rfl, kd, _, 0, _, rfl, rfl, SqL.of hk1, rfl, ?_⟩
  refine ⟨_, rfl, kd, _, 1, .ref p1, rfl, rfl, SqL.of hk1, rfl, p1, kv1, rfl, .inl e11, fun q1 hq1 => ?_⟩
  have C1 : But [] H1 (upd H1 q1 (.dK kv1)) := But.new hq1
  have u1 : (upd H1 q1 (.dK kv1)) q1 = some (.dK kv1) := upd_same
  generalize upd H1 q1 (.dK kv1) = H2 at C1 u1 ⊢
  refine ⟨_, rfl, kd, _, 2, .ref p2, rfl, rfl, SqL.of (C1.keep _ _ (by simp) hk1), rfl, p2, kv2, rfl, .inl (C1.keep _ _ (by simp) e21), fun q2 hq2 => ?_⟩
  have C2 : But [] H2 (upd H2 q2 (.dK kv2)) := But.new hq2
  have u2 : (upd H2 q2 (.dK kv2)) q2 = some (.dK kv2) := upd_same
  generalize upd H2 q2 (.dK kv2) = H3 at C2 u2 ⊢
  have C02 := C1.trans C2
  refine ⟨_, rfl, kd, _, 3, .ref p3, rfl, rfl, SqL.of (C02.keep _ _ (by simp) hk1), rfl, p3, xs3, rfl, .inl (SqL.of (C02.keep _ _ (by simp) e31)), fun q3 hq3 => ?_⟩
  have C3 : But [] H3 (upd H3 q3 (.lst xs3)) := But.new hq3
  have u3 : (upd H3 q3 (.lst xs3)) q3 = some (.lst xs3) := upd_same
  generalize upd H3 q3 (.lst xs3) = H4 at C3 u3 ⊢
  have C03 := C02.trans C3
  refine ⟨_, rfl, kd, _, 4, .bl k.hid, rfl, rfl, SqL.of (C03.keep _ _ (by simp) hk1), rfl, by show 5 ≤ sizeLine; decide, fun q hq => ?_⟩
  have C4 : But [] H4 (upd H4 q (.lst [.str k.name, .ref q1, .ref q2, .ref q3, .bl k.hid])) := But.new hq
  have u4 : (upd H4 q (.lst [.str k.name, .ref q1, .ref q2, .ref q3, .bl k.hid])) q = some (.lst [.str k.name, .ref q1, .ref q2, .ref q3, .bl k.hid]) := upd_same
  generalize upd H4 q (.lst [.str k.name, .ref q1, .ref q2, .ref q3, .bl k.hid]) = H5 at C4 u4 ⊢
  have C := C03.trans C4
  have S5 : StAt H5 a c := S1.nil C
  have q0 : H1 q = none := C03.free hq
  have nq : q ∉ [a, c] := S1.no q0
  have u15 := C4.keep _ _ (by simp) (C3.keep _ _ (by simp) (C2.keep _ _ (by simp) u1))
  have u25 := C4.keep _ _ (by simp) (C3.keep _ _ (by simp) u2)
  have u35 := C4.keep _ _ (by simp) u3
  have ne : ∀ x, x ≠ q → x ∉ [a, c] → x ∉ [q, a, c] := fun x h1 h2 m => (List.mem_cons.mp m).elim h1 h2
  have ne1 := ne q1 (ne_of_none (C3.keep _ _ (by simp) (C2.keep _ _ (by simp) u1)) hq) (S1.no hq1)
  have ne2 := ne q2 (ne_of_none (C3.keep _ _ (by simp) u2) hq) (S1.no (C1.free hq2))
  have ne3 := ne q3 (ne_of_none u3 hq) (S1.no (C02.free hq3))
  have z1 : At [q, a, c] H5 (.dct (linkD k.links)) (.ref q1) := ⟨q1, kv1, rfl, ne1, u15, (l11.excl q0).mono C.nil⟩
  have z2 : At [q, a, c] H5 (.dct (ownD k.own)) (.ref q2) := ⟨q2, kv2, rfl, ne2, u25, (l21.excl q0).mono C.nil⟩
  have z3 : At [q, a, c] H5 (.lst (k.rules.map Rule.d)) (.ref q3) := by
    have e0 : At [a, c] H1 (.lst (k.rules.map Rule.d)) (.ref p3) := ⟨p3, xs3, rfl, n3, e31, l31⟩
    obtain ⟨_, _, e, _, e', l⟩ := (e0.excl q0).mono C.nil
    cases e
    rw [C.keep _ _ (by simp) e31] at e'
    cases e'
    exact ⟨q3, xs3, rfl, ne3, u35, l⟩
  have hk5 := C.keep _ _ (by simp) hk1
  have e15 := C.keep _ _ (by simp) e11
  have e25 := C.keep _ _ (by simp) e21
  have q00 : H q = none := B1.free q0
  have BC : But [a, c] H H5 := B1.trans C.nil
  have sub : ∀ x ∈ [a, c], x ∈ [q, a, c] := fun x m => List.mem_cons_of_mem _ m
  have new : ∀ {H6 : Hp} {o : HO}, But [q, a, c] H H6 → But [a, c] H (upd H6 q o) := fun {H6 o} b => by
    refine ⟨fun x u m e => ?_, fun x e => ?_⟩
    · have xq : x ≠ q := fun z => by rw [z, q00] at e; cases e
      rw [upd_ne xq]
      exact b.keep _ _ (ne x xq m) e
    · by_cases xq : x = q
      · rw [xq, upd_same]
        simp
      · rw [upd_ne xq]
        exact b.stand x e
  have fin : ∀ {H6 : Hp} {nm : Str} {L : List (Str × List Str)} {O : List (Str × Own)} {R : List Rule} {hd : Bool} {y1 y2 y3 : V}, But [q, a, c] H5 H6 → StAt H6 a c → At [q, a, c] H6 (.dct (linkD L)) y1 → At [q, a, c] H6 (.dct (ownD O)) y2 → At [q, a, c] H6 (.lst (R.map Rule.d)) y3 →
      Chg k ⟨nm, L, O, R, hd⟩ → KdGood ⟨nm, L, O, R, hd⟩ → Q (.ref q) (upd H6 q (.lst [.str nm, y1, y2, y3, .bl hd])) := fun {H6 nm L O R hd y1 y2 y3} b s w1 w2 w3 ch gd => by
    have B : But [q, a, c] H6 (upd H6 q (.lst [.str nm, y1, y2, y3, .bl hd])) := But.refl.upd (.inl (by simp))
    exact fin_ ⟨nm, L, O, R, hd⟩ (.ref q) _ ch gd (kd_at (A := [a, c]) upd_same (w1.mono B) (w2.mono B) (w3.mono B)) (s.upd nq) (new ((BC.more sub).trans b))
  have lln : k.links.length ≤ 2 := by
    have := g.tells_len
    exact this.1
  have oln : k.own.length ≤ 5 := g.tells_len.2
  have r' : r = 0 ∨ r = 1 ∨ r = 2 ∨ r = 3 ∨ r = 4 := by omega
  rcases r' with rfl | rfl | rfl | rfl | rfl
  · refine if_yes rfl ?_
    refine ⟨_, rfl, _, rfl, kd, _, 0, _, rfl, rfl, SqL.of hk5, rfl, by show 1 ≤ sizeLine; decide, fun r hr => ?_⟩
    refine ⟨a, c, r, [k.name], rfl, S5.new hr, S5.no hr, upd_same, by simp, fun w H6 hw nw S6 B6 => ?_⟩
    have b : But [a, c] H5 H6 := (But.new hr).trans B6
    refine ⟨_, rfl, q, _, 0, 0, rfl, rfl, b.keep _ _ nq u4, rfl, ?_⟩
    refine if_no (by decide) rfl (if_no (by decide) rfl (if_no (by decide) rfl (if_no (by decide) rfl ⟨_, rfl, ?_⟩)))
    refine fin (b.more sub) S6 (z1.mono (b.more sub)) (z2.mono (b.more sub)) (z3.mono (b.more sub)) ⟨.inl rfl, .inl rfl, .inl rfl, .inl fun z => nw ?_⟩ (g.rename hw _)
    rw [show w = k.name from z]
    simp
  · refine if_no (by decide) rfl (if_yes rfl ?_)
    refine do_dispA (ws := []) (kd := kd) (p := p1) (i := 1) (z := "") (kds := linkD k.links) (by rfl) (by rfl) S5 hk5 nk rfl e15 l11.keys (by rw [List.length_map]; exact Nat.le_trans lln (by omega)) fun w d t H6 hw nw S6 B6 hd nd ed et nt => ?_
    have b6 := B6.more sub
    refine ⟨_, rfl, q, _, 1, 1, rfl, rfl, B6.keep _ _ nq u4, rfl, ?_⟩
    have q6 := B6.keep _ _ nq u4
    have dq : d ≠ q := fun z => by rw [z, u4] at hd; cases hd
    have tq : t ≠ q := fun z => by rw [z, q6] at et; cases et
    have zz : At [q, a, c] H6 (.dct (linkD [(w, [("" : Str)])])) (.ref d) := ⟨d, _, rfl, ne d dq nd, ed, _, _, rfl, ⟨t, _, rfl, ne t tq nt, et, _, _, rfl, rfl, rfl⟩, rfl⟩
    have b7 : But [q, a, c] H6 (upd H6 q (.lst [.str k.name, .ref d, .ref q2, .ref q3, .bl k.hid])) := But.refl.upd (.inl (by simp))
    have q7 : (upd H6 q (.lst [.str k.name, .ref d, .ref q2, .ref q3, .bl k.hid])) q = some (.lst [.str k.name, .ref d, .ref q2, .ref q3, .bl k.hid]) := upd_same
    have S7 : StAt (upd H6 q (.lst [.str k.name, .ref d, .ref q2, .ref q3, .bl k.hid])) a c := S6.upd nq
    show tSeq _ _ _ _ (upd H6 q (.lst [.str k.name, .ref d, .ref q2, .ref q3, .bl k.hid]))
    generalize upd H6 q (.lst [.str k.name, .ref d, .ref q2, .ref q3, .bl k.hid]) = H7 at b7 q7 S7 ⊢
    intro d2 hd2
    have n2q : d2 ≠ q := fun z => by rw [z, q7] at hd2; cases hd2
    have b8 : But [q, a, c] H7 (upd H7 d2 (.dK [])) := But.new hd2
    have u8 : (upd H7 d2 (.dK [])) d2 = some (.dK []) := upd_same
    have S8 : StAt (upd H7 d2 (.dK [])) a c := S7.new hd2
    have q8 : (upd H7 d2 (.dK [])) q = some (.lst [.str k.name, .ref d, .ref q2, .ref q3, .bl k.hid]) := by rw [upd_ne (Ne.symm n2q)]; exact q7
    have n2 := ne d2 n2q (S7.no hd2)
    generalize upd H7 d2 (.dK []) = H8 at b8 u8 S8 q8 ⊢
    refine ⟨_, rfl, q, _, 2, 2, rfl, rfl, q8, rfl, ?_⟩
    have b9 : But [q, a, c] H8 (upd H8 q (.lst [.str k.name, .ref d, .ref d2, .ref q3, .bl k.hid])) := But.refl.upd (.inl (by simp))
    have q9 : (upd H8 q (.lst [.str k.name, .ref d, .ref d2, .ref q3, .bl k.hid])) q = some (.lst [.str k.name, .ref d, .ref d2, .ref q3, .bl k.hid]) := upd_same
    have S9 : StAt (upd H8 q (.lst [.str k.name, .ref d, .ref d2, .ref q3, .bl k.hid])) a c := S8.upd nq
    show tAsg (tLst tNil) (gSub (tVar 3) (tC (.int 3)) rSetL) _ _ (upd H8 q (.lst [.str k.name, .ref d, .ref d2, .ref q3, .bl k.hid]))
    generalize upd H8 q (.lst [.str k.name, .ref d, .ref d2, .ref q3, .bl k.hid]) = H9 at b9 q9 S9 ⊢
    refine ⟨sz0, fun d3 hd3 => ?_⟩
    have n3q : d3 ≠ q := fun z => by rw [z, q9] at hd3; cases hd3
    have b10 : But [q, a, c] H9 (upd H9 d3 (.lst [])) := But.new hd3
    have u10 : (upd H9 d3 (.lst [])) d3 = some (.lst []) := upd_same
    have S10 : StAt (upd H9 d3 (.lst [])) a c := S9.new hd3
    have q10 : (upd H9 d3 (.lst [])) q = some (.lst [.str k.name, .ref d, .ref d2, .ref q3, .bl k.hid]) := by rw [upd_ne (Ne.symm n3q)]; exact q9
    have n3' := ne d3 n3q (S9.no hd3)
    generalize upd H9 d3 (.lst []) = H10 at b10 u10 S10 q10 ⊢
    refine ⟨_, rfl, q, _, 3, 3, rfl, rfl, q10, rfl, ?_⟩
    refine if_no (by decide) rfl (if_no (by decide) rfl (if_no (by decide) rfl ⟨_, rfl, ?_⟩))
    have nw' : w ∉ k.lks := fun m => nw (by rw [keys_map]; exact m)
    refine fin ((((b6.trans b7).trans b8).trans b9).trans b10) S10 (zz.mono (((b7.trans b8).trans b9).trans b10)) (O := []) (R := []) ?_ ?_ ⟨.inr ⟨w, nw', rfl⟩, .inr (.inl rfl), .inr (.inl rfl), .inr (.inl ⟨w, nw', rfl⟩)⟩ (g.link hw)
    · exact ⟨d2, [], rfl, n2, (b9.trans b10).keep _ _ n2 u8, rfl⟩
    · exact ⟨d3, [], rfl, n3', u10, rfl⟩
  · refine if_no (by decide) rfl (if_no (by decide) rfl (if_yes rfl ?_))
    refine do_dispA (ws := []) (kd := kd) (p := p2) (i := 2) (z := "self") (kds := ownD k.own) (by rfl) (by rfl) S5 hk5 nk rfl e25 l21.keys (by rw [ownD, List.length_map]; exact Nat.le_trans oln (by omega)) fun w d t H6 hw nw S6 B6 hd nd ed et nt => ?_
    have b6 := B6.more sub
    refine ⟨_, rfl, q, _, 2, 2, rfl, rfl, B6.keep _ _ nq u4, rfl, ?_⟩
    have q6 := B6.keep _ _ nq u4
    have dq : d ≠ q := fun z => by rw [z, u4] at hd; cases hd
    have tq : t ≠ q := fun z => by rw [z, q6] at et; cases et
    have zz : At [q, a, c] H6 (.dct (ownD [(w, .self)])) (.ref d) := ⟨d, _, rfl, ne d dq nd, ed, _, _, rfl, ⟨t, _, rfl, ne t tq nt, et, _, _, rfl, rfl, rfl⟩, rfl⟩
    refine if_no (by decide) rfl (if_no (by decide) rfl ⟨_, rfl, ?_⟩)
    have nw' : w ∉ k.own.map (·.1) := fun m => nw (by rw [ownD, keys_map]; exact m)
    exact fin b6 S6 (z1.mono b6) zz (z3.mono b6) ⟨.inl rfl, .inr (.inr ⟨w, nw', rfl⟩), .inl rfl, .inr (.inr (.inl ⟨w, nw', rfl⟩))⟩ (g.self hw)
  · refine if_no (by decide) rfl (if_no (by decide) rfl (if_no (by decide) rfl (if_yes rfl ?_)))
    refine ⟨_, rfl, q, _, 3, .ref q3, rfl, rfl, SqL.of u4, rfl, ?_⟩
    refine ⟨sz0, fun t0 ht0 => ⟨by show 2 ≤ sizeLine; decide, fun t1 ht1 => ⟨by show 1 ≤ sizeLine; decide, fun t2 ht2 => ?_⟩⟩⟩
    have x0 : But [] H5 (upd H5 t0 (.tup [])) := But.new ht0
    have y0 : (upd H5 t0 (.tup [])) t0 = some (.tup []) := upd_same
    generalize upd H5 t0 (.tup []) = G0 at x0 y0 ht1 ht2 ⊢
    have x1 : But [] G0 (upd G0 t1 (.tup [.str "bar", .ref t0])) := But.new ht1
    have y1 : (upd G0 t1 (.tup [.str "bar", .ref t0])) t1 = some (.tup [.str "bar", .ref t0]) := upd_same
    generalize upd G0 t1 (.tup [.str "bar", .ref t0]) = G1 at x1 y1 ht2 ⊢
    have x2 : But [] G1 (upd G1 t2 (.lst [.ref t1])) := But.new ht2
    have y2 : (upd G1 t2 (.lst [.ref t1])) t2 = some (.lst [.ref t1]) := upd_same
    generalize upd G1 t2 (.lst [.ref t1]) = G2 at x2 y2 ⊢
    have x02 := (x0.trans x1).trans x2
    obtain ⟨_, _, e3', _, e3'', l3'⟩ := z3
    cases e3'
    rw [u35] at e3''
    cases e3''
    have len3 : xs3.length ≤ 299 := by rw [l3'.length, List.length_map]; exact hl
    refine ⟨q3, t2, xs3, _, rfl, rfl, x02.keep _ _ (by simp) u35, y2, Nat.le_of_lt (small1000 (by simp; omega)), fun t3 ht3 => ?_⟩
    have x3 : But [] G2 (upd G2 t3 (.lst (xs3 ++ [.ref t1]))) := But.new ht3
    have y3 : (upd G2 t3 (.lst (xs3 ++ [.ref t1]))) t3 = some (.lst (xs3 ++ [.ref t1])) := upd_same
    have q3n : t3 ≠ q := fun z => by rw [z, x02.keep _ _ (by simp) u4] at ht3; cases ht3
    generalize upd G2 t3 (.lst (xs3 ++ [.ref t1])) = G3 at x3 y3 ⊢
    have x03 := x02.trans x3
    refine ⟨_, rfl, q, _, 3, 3, rfl, rfl, x03.keep _ _ (by simp) u4, rfl, ?_⟩
    refine if_no (by decide) rfl ⟨_, rfl, ?_⟩
    have n0 := ne t0 (fun z => by rw [z, u4] at ht0; cases ht0) (S5.no ht0)
    have n1' := ne t1 (fun z => by rw [z, x0.keep _ _ (by simp) u4] at ht1; cases ht1) (S5.no (x0.free ht1))
    have n3'' := ne t3 q3n (S5.no (x02.free ht3))
    have bar : At [q, a, c] G3 (Rule.bar []).d (.ref t1) := ⟨t1, _, rfl, n1', (x2.trans x3).keep _ _ (by simp) y1, _, _, rfl, rfl, .ref t0, _, rfl, ⟨t0, _, rfl, n0, ((x1.trans x2).trans x3).keep _ _ (by simp) y0, rfl⟩, rfl⟩
    have zl : At [q, a, c] G3 (.lst ((k.rules ++ [Rule.bar []]).map Rule.d)) (.ref t3) := ⟨t3, _, rfl, n3'', y3, by rw [List.map_append]; exact AtL.snoc (l3'.mono x03.nil) bar⟩
    exact fin x03.nil (S5.nil x03) (z1.mono x03.nil) (z2.mono x03.nil) zl ⟨.inl rfl, .inl rfl, .inr (.inr rfl), .inr (.inr (.inr (.inl rfl)))⟩ (g.bar hl)
  · refine if_no (by decide) rfl (if_no (by decide) rfl (if_no (by decide) rfl (if_no (by decide) rfl (if_yes rfl ?_))))
    refine ⟨_, rfl, kd, _, 4, .bl k.hid, rfl, rfl, SqL.of hk5, rfl, _, rfl, ?_⟩
    refine ⟨_, rfl, q, _, 4, 4, rfl, rfl, u4, rfl, ?_⟩
    refine ⟨_, rfl, ?_⟩
    exact fin But.refl S5 z1 z2 z3 ⟨.inl rfl, .inl rfl, .inl rfl, .inr (.inr (.inr (.inr (by show (!k.hid) ≠ k.hid; cases k.hid <;> simp))))⟩ (g.rename g.name _)
end Kb

set_option Elab.async false
set_option linter.all false
set_option maxRecDepth 100000
set_option maxHeartbeats 2000000
/-! Kb, 47: an own error is raised, its context None. -/
namespace Kb
open PySem PySem.Spec PyProof.Rows L2 L2H
section
variable {X : Cx} {CX : CXT} {x : Str} {e : Expr} {es : List Expr} {ta : TA} {p pos : Pos} {C fI : Addr} {k : Nat} {fd : FuncData} {ps : List Str} {sp : Sp}
theorem pmk_oexN (T : OexC X.K C) (iC : PySem.W.findIn X.K (.ref C) "__init__" = some (some (.ref fI))) (tI : PySem.W.typeIn X.K (.ref fI) = some (.type "function")) (G : FnOk X.prog X.w X.K X.mg X.base CX k fI fd ps sp) (hr : Room (k + 1) X.A)
    (hb : Binds X.K fd ps []) (hx : Passes CX X E0) (hg : Gl X x) (hm : X.mg x = some (.ref C)) (ha : PA X (e :: es) ta) (hdb : (x == ("__debug__" : Str)) = false := by decide)
    (he : starEach (e :: es) X.env = (false, eval e X.env) :: starEach es X.env := by rfl) (hpl : (backTo pos (starEach es X.env)).any (·.1) = false := by rfl) :
    L2N.PMk X (.Call (.Name x p) (e :: es) [] pos) (tMkO C sp [] ta) := by
  intro pins s σ H Q I h
  obtain ⟨_, _, _, _, bm, _, _, _, _, _, _, _, _, _, _, lC, tail⟩ := T.cls
  refine wpAny_Call_Name_kw (ld_glob I hg hm ?_ hdb)
  refine PySem.W.callWith_K (h₀ := X.base) I.ok.mod.kin T.kC (thn (ha.run pos pins s σ H _ I h) fun us s1 got => ?_) he hpl
  obtain ⟨vs, H1, J, rel, small, want⟩ := got
  refine ⟨J.kIn, ?_⟩
  obtain ⟨hp, g, dr, tk, os⟩ := s1
  show wpAny _ _ (call (.ref C) us) _ _ _
  have up1 : hp.objs.size ≤ hp.objs.size + 1 := Nat.le_succ _
  have free : H1 (hp.objs.size + 1) = none := J.hok.fresh up1
  have want := want _ free
  rw [List.append_nil] at want
  have two : ∀ b o, hp.get? b = some o → ((hp.push (PySem.W.kdv_tup us)).push (PySem.HandSPX.excO C hp.objs.size)).get? b = some o := fun _ _ z =>
    Heap.get?_push_of_some _ (Heap.get?_push_of_some _ z)
  have there : ((hp.push (PySem.W.kdv_tup us)).push (PySem.HandSPX.excO C hp.objs.size)).get? (hp.objs.size + 1) = some (PySem.HandSPX.excO C hp.objs.size) := by
    heap_get
  have J2 := J.laid (t' := tk) (a := hp.objs.size + 1) (o := exo (hp.objs.size + 1) C none) (h' := (hp.push (PySem.W.kdv_tup us)).push (PySem.HandSPX.excO C hp.objs.size)) two up1 (exo_ok there)
  have rel2 : Vals (V.ref (hp.objs.size + 1) :: vs) (Value.ref (hp.objs.size + 1) :: us) := .cons rfl rel
  have len : (Value.ref (hp.objs.size + 1) :: us ++ []).length = ps.length := by
    have z := rel2.length
    rw [G.len _ _ _ _ want] at z
    rw [List.append_nil]
    exact z.symm
  have few : us.length ≤ sizeLine := by
    have z := Paired.length rel
    rw [sizeLine_eq]
    omega
  have bind := hb _ (Value.ref (hp.objs.size + 1) :: us) J2.kIn len
  rw [List.append_nil] at bind
  refine wpAny_call (PySem.HandSPX.call_own F.excBase_ValueError (fun Y => PySem.HandSPX.refsVE_contains Y bm tail) (J.kIn _ _ lC) (PySem.W.looks_findIn J.kIn iC) (fun self => PySem.W.bind_fn J.kIn self tI) few ?_)
  refine codeAny_mono (G.run _ X.stack _ _ ⟨_, []⟩ _ _ _ E0 (hr.make C us []) (J2.env0.make C us []) bind rel2 want) fun r s' got => ?_
  cases r with
  | error er => exact hx pins σ _ _ er s' J2 got
  | ok fl =>
    cases fl with
    | ret u =>
      obtain ⟨v, H2, eos, bare, un, hok, rv, rfl, d, fs, ea, ed, hd1, q⟩ := got
      obtain ⟨h2, g2, d2, t2, os'⟩ := s'
      obtain ⟨t0, B, J3, kB, nB, oe, na⟩ := mk_end0 (d2 := d2) (t2 := t2) J up1 two un hok eos bare ea ed hd1
      exact ⟨rv, _, _, _, ⟨B, g2, d2, t2, os'⟩, _, .ref C, some d, rfl, J3, kB, nB, oe, ⟨rfl, rfl, fun vs z => by cases z; rfl⟩, rfl, rfl, na, rfl, bare, raises_own T.exC T.tyC, q⟩
    | next => exact False.elim got
    | brk => exact False.elim got
    | cont => exact False.elim got
end
theorem passN {P : Program} {w : World} {X : Cx} : Passes (L2N.CX P w) X E0 := fun _ _ _ _ _ _ _ c => by
  obtain ⟨_, _, _, _, _, _, _, _, _, _, _, _, z⟩ := c
  exact z.elim
theorem passH {P : Program} {w : World} {X : Cx} : ∀ σ, PassesAt (L2.CX P w) X σ E0 := fun σ pins H s e s' I c => passL pins σ H s e s' I (by
  obtain ⟨_, _, _, _, _, _, _, _, _, _, _, _, z⟩ := c
  exact z.elim)
theorem passW {X : Cx} {W : WX} (tk : L2N.Takes X W) : ∀ σ, PassesAt (L2N.CX X.prog X.w) X σ (WE W σ) := fun σ _ _ _ e s' I c => tk e s' (L2N.XE.of_call I (fun _ _ _ h => h) c)
theorem takesN {X : Cx} : L2N.Takes X (fun _ _ _ _ => False) := fun _ _ x => by
  obtain ⟨_, _, _, _, _, _, _, _, _, _, _, _, _, _, _, _, z⟩ := x
  exact z.elim
theorem hotOf {X : Cx} {a : Addr} {oe : Obj} {cls : Value} {d : Option Addr} {pn : List (Addr × Obj)} (hz : L2N.Zn cls d oe) (hf : ∃ vs, oe.data = .fields vs) : HotC (X.suite a ((a, oe) :: pn)) := by
  obtain ⟨vs, e⟩ := hf
  exact ⟨(a, oe), ⟨rfl, vs, e, hz.2.2 vs e⟩, List.mem_cons_self⟩
theorem pss_never {X : Cx} {b : List Stmt} : PSs X b tNever := ⟨fun _ _ _ _ _ _ h => h.elim⟩
end Kb

set_option Elab.async false
set_option linter.all false
set_option maxRecDepth 100000
set_option maxHeartbeats 1000000
/-! Kb, 48: what a Kind keeps, told by the kind's data; Kinds of one kind and of a changed one compared. -/
namespace Kb
open PySem PySem.Spec PyProof.Rows L2

mutual
theorem like_eq : ∀ {e d : D}, e.plain = true → Like d e → d = e
  | .non, _, _, h => h
  | .bl _, _, _, h => h
  | .int _, _, _, h => h
  | .str _, _, _, h => h
  | .tup es, _, p, h => by
    obtain ⟨ds, rfl, _, l⟩ := h
    rw [like_eqL (Bool.and_eq_true_iff.mp (show (decide (es.length ≤ 1000) && D.plainL es) = true from p)).2 l]
  | .lst es, _, p, h => by
    obtain ⟨ds, rfl, _, l⟩ := h
    rw [like_eqL (Bool.and_eq_true_iff.mp (show (decide (es.length ≤ 1000) && D.plainL es) = true from p)).2 l]
  | .dct _, _, p, _ => by cases p
theorem like_eqL : ∀ {es ds : List D}, D.plainL es = true → LikeL ds es → ds = es
  | [], _, _, h => h
  | e :: es, _, p, h => by
    obtain ⟨d, r, rfl, h1, h2⟩ := h
    obtain ⟨p1, p2⟩ := Bool.and_eq_true_iff.mp (show (D.plain e && D.plainL es) = true from p)
    rw [like_eq p1 h1, like_eqL p2 h2]
end
/-- a table that tells what Ld does -/
structure Agree (L Ld : List (Str × D)) : Prop where
  p : (keysD L).Perm (keysD Ld)
  nd : (keysD L).Nodup
  ok : ∀ n d, (n, d) ∈ L → Ld.lookup n = some d ∧ Low d
theorem mem_keys {L : List (Str × D)} {n : Str} {d : D} (m : (n, d) ∈ L) : n ∈ keysD L := List.mem_map.mpr ⟨_, m, rfl⟩
theorem mem_lookup' {L : List (Str × D)} {n : Str} {d : D} (nd : (keysD L).Nodup) (m : (n, d) ∈ L) : L.lookup n = some d := by
  obtain ⟨e, he⟩ := lookup_of (mem_keys m)
  rw [he, nodup_key nd (lookup_mem he) m]
theorem Agree.of {L Ld : List (Str × D)} (h : Like (.dct L) (.dct Ld)) (low : ∀ x ∈ Ld, Low x.2) : Agree L Ld := by
  obtain ⟨_, e, p, nd, _, _, l⟩ := h
  cases e
  have ndL : (keysD L).Nodup := p.symm.nodup nd
  refine ⟨p, ndL, fun n d m => ?_⟩
  obtain ⟨e, he⟩ := lookup_of (p.mem_iff.mp (mem_keys m))
  obtain ⟨d', h1, h2⟩ := l.get he
  rw [mem_lookup' ndL m] at h1
  cases h1
  have lo := low _ (lookup_mem he)
  have z := like_eq lo.pl h2
  subst z
  exact ⟨he, lo⟩
theorem Agree.len {L Ld : List (Str × D)} (a : Agree L Ld) : L.length = Ld.length := by
  have := a.p.length_eq
  rw [keysD, keysD, List.length_map, List.length_map] at this
  exact this
/-- two tables, each of its own; where both have a key, they tell the same -/
theorem Agree.ok2 {L Ld L' Ld' : List (Str × D)} (a : Agree L Ld) (b : Agree L' Ld') (h : ∀ n d d', Ld.lookup n = some d → Ld'.lookup n = some d' → d = d') : EqOk L L' := fun n d d' m l => by
  obtain ⟨h1, h2⟩ := a.ok n d m
  obtain ⟨h3, _⟩ := b.ok n d' (lookup_mem l)
  exact ⟨h n d d' h1 h3, h2⟩
theorem Agree.same {L L' Ld : List (Str × D)} (a : Agree L Ld) (b : Agree L' Ld) : EqOk L L' ∧ keysB L L' = true := by
  refine ⟨a.ok2 b fun n d d' h h' => by rw [h] at h'; cases h'; rfl, ?_⟩
  unfold keysB
  rw [a.len, b.len, beq_self_eq_true, Bool.true_and]
  exact List.all_eq_true.mpr fun x m => decide_eq_true (b.p.mem_iff.mpr (a.p.mem_iff.mp (List.mem_map.mpr ⟨x, m, rfl⟩)))
/-- a key of the one that the other has not -/
theorem Agree.unlike {L Ld L' : List (Str × D)} {w : Str} {e : D} (a : Agree L Ld) (b : Agree L' [(w, e)]) (n : w ∉ keysD Ld) : (EqOk L L' ∧ EqOk L' L) ∧ keysB L L' = false ∧ keysB L' L = false := by
  have k1 : ∀ x, x ∈ keysD L' → x = w := fun x m => by simpa [keysD] using b.p.mem_iff.mp m
  have k2 : w ∉ keysD L := fun m => n (a.p.mem_iff.mp m)
  have wm : w ∈ keysD L' := b.p.mem_iff.mpr (by simp [keysD])
  refine ⟨⟨fun m d d' h h' => ?_, fun m d d' h h' => ?_⟩, ?_, ?_⟩
  · have := k1 m (mem_keys (lookup_mem h'))
    subst this
    exact absurd (mem_keys h) k2
  · have := k1 m (mem_keys h)
    subst this
    exact absurd (mem_keys (lookup_mem h')) k2
  · unfold keysB
    cases L with
    | nil =>
      rw [b.len]
      rfl
    | cons p r =>
      rw [List.all_cons, decide_eq_false (fun m => k2 (by rw [← k1 _ m]; simp [keysD])), Bool.false_and, Bool.and_false]
  · unfold keysB
    obtain ⟨x, xm, ex⟩ := List.mem_map.mp wm
    have : (L'.all fun p => decide (p.1 ∈ keysD L)) = false := by
      rw [Bool.eq_false_iff]
      intro z
      have := of_decide_eq_true (List.all_eq_true.mp z x xm)
      rw [ex] at this
      exact k2 this
    rw [this, Bool.and_false]
theorem Agree.nil {L : List (Str × D)} (a : Agree L []) : L = [] := by
  have := a.len
  exact List.length_eq_zero_iff.mp this
/-- what a Kind of the kind k keeps -/
structure Out (k : KD) (L O : List (Str × D)) (R : List D) : Prop where
  l : Agree L (linkD k.links)
  o : Agree O (ownD k.own)
  r : R = k.rules.map Rule.d
  pl : D.plainL R = true
  dp : D.dpL R ≤ 30
theorem low_nm {ys : List Str} (h : ys.length ≤ 1000) : Low (nmD ys) := ⟨plain_nm h, Nat.le_trans dp_nm (by decide)⟩
theorem low_own {o : Own} : Low o.d := by
  obtain ⟨ds, ed, fl⟩ := o.d_tup
  have len : ds.length ≤ 2 := by cases o <;> (cases ed; simp)
  have h0 : D.dpL ds ≤ 0 := dpL_le fun d m => Nat.le_of_eq (dp_flat' (List.all_eq_true.mp fl d m))
  rw [ed]
  refine ⟨?_, ?_⟩
  · show (decide (ds.length ≤ 1000) && D.plainL ds) = true
    rw [decide_eq_true (by omega), plain_flats fl]
    rfl
  · show D.dpL ds + 1 ≤ 30
    omega
theorem Kept.out {k : KD} {L O : List (Str × D)} {R : List D} {L' O' : List (Str × D)} {R' : List D} (g : KdGood k) (t : Tells k L O R) (kp : Kept L O (.lst R) L' O' R') : Out k L' O' R' := by
  have h := kept_like g t kp
  obtain ⟨kinds, asked, rn, ok, hrn, hkn, han, hand⟩ := g.ex
  obtain ⟨_, e, _, _, _, rfl, _, _, _, rfl, _, _, _, rfl, hL, _, _, rfl, hO, _, _, rfl, hR, _⟩ := h
  cases e
  have er := kept_rules kp t fun r m => (ok.ro r m).1.so
  have pR : ∀ l : List Rule, (∀ r ∈ l, r.names.length ≤ 1000) → D.plainL (l.map Rule.d) = true ∧ D.dpL (l.map Rule.d) ≤ 2 := fun l => by
    induction l with
    | nil => exact fun _ => ⟨rfl, by decide⟩
    | cons a b ih =>
      intro h
      obtain ⟨i1, i2⟩ := ih fun r m => h r (by simp [m])
      constructor
      · show (D.plain a.d && D.plainL (b.map Rule.d)) = true
        rw [plain_rule (h a (by simp)), i1]
        rfl
      · show max (D.dp a.d) (D.dpL (b.map Rule.d)) ≤ 2
        have := dp_rule (r := a)
        omega
  obtain ⟨q1, q2⟩ := pR k.rules fun r m => Nat.le_trans (ok.ro r m).1.len (by decide)
  refine ⟨Agree.of hL fun x m => ?_, Agree.of hO fun x m => ?_, er, by rw [er]; exact q1, by rw [er]; omega⟩
  · obtain ⟨p, hp, rfl⟩ := List.mem_map.mp m
    exact low_nm (Nat.le_trans (ok.cho p hp).len (by decide))
  · obtain ⟨p, hp, rfl⟩ := List.mem_map.mp m
    exact low_own
theorem Out.eq {k : KD} {L O L' O' : List (Str × D)} {R R' : List D} (a : Out k L O R) (b : Out k L' O' R') : EqK L O R L' O' R' ∧ keysB L L' = true ∧ keysB O O' = true ∧ (R.length == R'.length) = true := by
  obtain ⟨l1, l2⟩ := a.l.same b.l
  obtain ⟨o1, o2⟩ := a.o.same b.o
  refine ⟨⟨l1, o1, fun _ => ⟨a.r.trans b.r.symm, a.pl, a.dp⟩⟩, l2, o2, ?_⟩
  rw [a.r, b.r, beq_self_eq_true]
theorem Out.ne {k k' : KD} {L O L' O' : List (Str × D)} {R R' : List D} (a : Out k L O R) (b : Out k' L' O' R') (c : Chg k k') :
    EqK L O R L' O' R' ∧ EqK L' O' R' L O R ∧ (decide (k.name = k'.name) && (keysB L L' && (keysB O O' && (R.length == R'.length && decide (k.hid = k'.hid))))) = false ∧
      (decide (k'.name = k.name) && (keysB L' L && (keysB O' O && (R'.length == R.length && decide (k'.hid = k.hid))))) = false := by
  have hl : EqOk L L' ∧ EqOk L' L := by
    rcases c.l with e | ⟨w, nw, e⟩
    · have b' := b.l
      rw [e] at b'
      exact ⟨(a.l.same b').1, (b'.same a.l).1⟩
    · have b' := b.l
      rw [e] at b'
      exact (a.l.unlike b' (by rw [keys_map]; exact nw)).1
  have ho : EqOk O O' ∧ EqOk O' O := by
    rcases c.o with e | e | ⟨w, nw, e⟩
    · have b' := b.o
      rw [e] at b'
      exact ⟨(a.o.same b').1, (b'.same a.o).1⟩
    · have b' := b.o
      rw [e] at b'
      have z : O' = [] := b'.nil
      subst z
      exact ⟨fun _ _ _ _ h => (nomatch h), fun _ _ _ h => (nomatch h)⟩
    · have b' := b.o
      rw [e] at b'
      exact (a.o.unlike b' (by rw [ownD, keys_map]; exact nw)).1
  have hr : R.length = R'.length → R = R' := fun e => by
    rcases c.r with z | z | z
    · rw [a.r, b.r, z]
    · have e0 : R' = [] := by rw [b.r, z]; rfl
      rw [e0] at e ⊢
      exact List.length_eq_zero_iff.mp e
    · rw [a.r, b.r, z, List.length_map, List.length_map, List.length_append] at e
      simp at e
  refine ⟨⟨hl.1, ho.1, fun e => ⟨hr e, a.pl, a.dp⟩⟩, ⟨hl.2, ho.2, fun e => ⟨(hr e.symm).symm, b.pl, b.dp⟩⟩, ?_⟩
  rcases c.ne with e | ⟨w, nw, e⟩ | ⟨w, nw, e⟩ | e | e
  · rw [decide_eq_false (fun z => e z.symm), decide_eq_false e]
    exact ⟨rfl, rfl⟩
  · have b' := b.l
    rw [e] at b'
    obtain ⟨_, u, v⟩ := a.l.unlike b' (by rw [keys_map]; exact nw)
    rw [u, v]
    simp
  · have b' := b.o
    rw [e] at b'
    obtain ⟨_, u, v⟩ := a.o.unlike b' (by rw [ownD, keys_map]; exact nw)
    rw [u, v]
    simp
  · have h1 : (R.length == R'.length) = false := by
      rw [a.r, b.r, e, List.length_map, List.length_map, List.length_append]
      simp
    have h2 : (R'.length == R.length) = false := by
      rw [a.r, b.r, e, List.length_map, List.length_map, List.length_append]
      simp
    rw [h1, h2]
    simp
  · have h1 : decide (k.hid = k'.hid) = false := decide_eq_false (fun z => e z.symm)
    have h2 : decide (k'.hid = k.hid) = false := decide_eq_false e
    rw [h1, h2]
    simp
end Kb

set_option Elab.async false
set_option linter.all false
set_option maxRecDepth 100000
set_option maxHeartbeats 2000000
/-! Kb, 49: the law's last part: strange names, the twin and the other one. -/
namespace Kb
open PySem PySem.Spec PyProof.Rows L2

/-- the law's fixed things: the kind, the Kind told of it -/
structure Law (K : PySem.W.Frag) (k : KD) (L O : List (Str × D)) (R : List D) : Prop where
  C : KindI K
  N : NoNameX K
  g : KdGood k
  few : k.rules.length ≤ 299
  out : Out k L O R
  like : Like (toldD k.name k.hid L O R) (dueD k)
/-- what stands in the heap -/
structure Sit (K : PySem.W.Frag) (k : KD) (L O : List (Str × D)) (R : List D) (P : List Addr) (a c : Addr) (x : V) (t : Addr) (H : Hp) : Prop where
  S : StAt H a c
  kd : At [a, c] H k.d x
  ob : KOb K (P ++ [a, c]) H t k.name L O R k.hid
section
variable {K : PySem.W.Frag} {k : KD} {L O : List (Str × D)} {R : List D} {P : List Addr} {a c : Addr} {x : V} {t : Addr} {H H' : Hp}
theorem Sit.nil (s : Sit K k L O R P a c x t H) (b : But [] H H') : Sit K k L O R P a c x t H' := ⟨s.S.nil b, s.kd.mono b.nil, s.ob.mono b.nil⟩
theorem Sit.go (s : Sit K k L O R P a c x t H) (b : But [a, c] H H') (S : StAt H' a c) : Sit K k L O R P a c x t H' := ⟨S, s.kd.mono b, s.ob.mono (b.more fun x m => List.mem_append.mpr (.inr m))⟩
theorem own_names (w : Law K k L O R) : ∀ n ∈ keysD O, IsName n := fun n m => by
  obtain ⟨kinds, asked, rn, ok, _, _, ha, _⟩ := w.g.ex
  have := w.out.o.p.mem_iff.mp m
  rw [ownD, keys_map] at this
  exact ha n (List.mem_of_mem_take (ok.own.sub.subset this))
theorem no_link {n : Str} (w : Law K k L O R) (h : ¬ IsName n) : isLinkD (.str n) O = false := decide_eq_false fun m => h (own_names w n m)
end
theorem bad_A : ¬ IsName "A" := fun h => by
  have := h.az 65 (by decide +kernel)
  omega
theorem bad_e : ¬ IsName "" := fun h => name_ne h rfl
theorem bad_9 : ¬ IsName "abcdefghi" := fun h => by
  have h1 := h.hi
  have h2 : (cs ("abcdefghi" : Str)).length = 9 := by decide +kernel
  omega
/-- a strange name -/
def Strange (O : List (Str × D)) (H : Hp) (x : V) : Prop := ∃ d, At [] H d x ∧ d.plain = true ∧ d.dp < 3 ∧ isLinkD d O = false

def t_law_e (K : PySem.W.Frag) : TS :=
  (tSeq (tAsg (tLst (tCons (tC .non) (tCons (tC (.int 3)) (tCons (tC (.bl true)) (tCons (tTup (tCons (tC (.str ("a" : Str))) tNil)) (tCons (tLst (tCons (tC (.str ("a" : Str))) tNil)) (tCons (tC (.str ("A" : Str))) (tCons (tC (.str ("" : Str))) (tCons (tC (.str ("abcdefghi" : Str))) (tCons (tUn (rU fun i => .int (-i)) (tC (.int 1))) (tCons (tCall (sp_l_word K) [] E0 (tCons (tVar 1) (tCons (tCB rListK (tCons (tOp (rIxL K) (tVar 3) (tC (.int 2))) tNil)) tNil))) tNil))))))))))) (gName 8))
  (tSeq (tIfS (tTest (tOp (rNeD K) (tLc (iList K (tVar 8)) (gName 7) (tNot (tB (tCall (sp_l_not_own K) [] E0 (tCons (tVar 5) (tCons (tVar 7) tNil))))) (tVar 7) [7]) (tLst tNil)))
    (tRet (tC (.bl false)))
    tNext)
  (tSeq (tAsg (tCall (sp_l_kind K) [] E0 (tCons (tVar 3) tNil)) (gName 9))
  (tSeq (tAsg (tCall (sp_l_kind K) [] E0 (tCons (tCall (sp_l_changed K) [] E0 (tCons (tVar 1) (tCons (tVar 3) tNil))) tNil)) (gName 10))
  (tRet (tAndV (tOp (rEqK (He.ga K "Kind") (sp_Kind_eq K) E0) (tVar 5) (tVar 9)) (tAndV (tOp (rEqK (He.ga K "Kind") (sp_Kind_eq K) E0) (tVar 9) (tVar 5)) (tAndV (tNotV (tOp (rEqK (He.ga K "Kind") (sp_Kind_eq K) E0) (tVar 5) (tVar 10))) (tNotV (tOp (rEqK (He.ga K "Kind") (sp_Kind_eq K) E0) (tVar 10) (tVar 5)))))))))))

theorem KOb.ins {K : PySem.W.Frag} {M : List Addr} {H : Hp} {a : Addr} {nm : Str} {L O : List (Str × D)} {R : List D} {h : Bool} (k : KOb K M H a nm L O R h) : ∃ dx fs, H a = some (.ins (KC K) dx fs) := by
  obtain ⟨dx, l, o, r, _, e, _⟩ := k
  exact ⟨dx, _, e⟩
/-- two Kinds compared -/
theorem do_eqK {K : PySem.W.Frag} {H : Hp} {p q : Addr} {nm nm' : Str} {L O L' O' : List (Str × D)} {R R' : List D} {h h' : Bool} {Q : VK} (C : KindI K) (k1 : KOb K [] H p nm L O R h) (k2 : KOb K [] H q nm' L' O' R' h') (e : EqK L O R L' O' R')
    (b : Bool) (hb : (decide (nm = nm') && (keysB L L' && (keysB O O' && (R.length == R'.length && decide (h = h'))))) = b) (k : Q (.bl b) H) : rEqK (KC K) (sp_Kind_eq K) E0 (.ref p) (.ref q) H Q := by
  obtain ⟨dx, fs, e1⟩ := k1.ins
  obtain ⟨dy, gs, e2⟩ := k2.ins
  refine ⟨p, q, dx, dy, fs, gs, rfl, rfl, e1, e2, p, q, nm, nm', L, O, L', O', R, R', h, h', rfl, C, k1, k2, e, _, rfl, ?_⟩
  rw [hb]
  exact k
theorem law_e {K : PySem.W.Frag} {k : KD} {L O : List (Str × D)} {R : List D} {P : List Addr} {a c t : Addr} {x : V} {H : Hp} {Q : VK} {u0 u2 u4 u6 u7 u8 u9 u10 : Option V} (w : Law K k L O R) (s : Sit K k L O R P a c x t H) (q : ∀ H', Q (.bl true) H') :
    t_law_e K (fin Q) [u0, some (.ref a), u2, some x, u4, some (.ref t), u6, u7, u8, u9, u10] H := by
  obtain ⟨kd, p1, p2, p3, kv1, kv2, xs3, rfl, nk, hk, n1, e1, l1, n2, e2, l2, n3, e3, l3⟩ := KD.parts s.kd
  refine ⟨by show 1 ≤ sizeLine; decide, fun q1 hq1 => ?_⟩
  have B1 : But [] H (upd H q1 (.tup [.str "a"])) := But.new hq1
  have v1 : (upd H q1 (.tup [.str "a"])) q1 = some (.tup [.str "a"]) := upd_same
  generalize upd H q1 (.tup [.str "a"]) = H1 at B1 v1 ⊢
  refine ⟨by show 1 ≤ sizeLine; decide, fun q2 hq2 => ?_⟩
  have B2 : But [] H1 (upd H1 q2 (.lst [.str "a"])) := But.new hq2
  have v2 : (upd H1 q2 (.lst [.str "a"])) q2 = some (.lst [.str "a"]) := upd_same
  have m2 : q2 ∉ [a, c] := (s.S.nil B1).no hq2
  generalize upd H1 q2 (.lst [.str "a"]) = H2 at B2 v2 ⊢
  have B02 := B1.trans B2
  have S2 := s.S.nil B02
  refine ⟨1, rfl, _, rfl, _, rfl, kd, _, 2, .ref p2, rfl, rfl, SqL.of (B02.keep _ _ (by simp) hk), rfl, p2, kv2, rfl, .inl (B02.keep _ _ (by simp) e2), fun q3 hq3 => ?_⟩
  rw [keys_strs (kds := ownD k.own) l2.keys]
  have B3 : But [] H2 (upd H2 q3 (.lst ((keysD (ownD k.own)).map V.str))) := But.new hq3
  have v3 : (upd H2 q3 (.lst ((keysD (ownD k.own)).map V.str))) q3 = some (.lst ((keysD (ownD k.own)).map V.str)) := upd_same
  have m3 : q3 ∉ [a, c] := S2.no hq3
  generalize upd H2 q3 (.lst ((keysD (ownD k.own)).map V.str)) = H3 at B3 v3 ⊢
  have B03 := B02.trans B3
  have ol := w.g.tells_len.2
  refine ⟨a, c, q3, keysD (ownD k.own), rfl, S2.nil B3, m3, v3, by rw [keysD, ownD, List.length_map, List.length_map]; omega, fun wd H4 hw nw S4 B4 => ?_⟩
  have s4 := (s.nil B03).go B4 S4
  have v14 := B4.keep _ _ ((s.S.no hq1)) ((B2.trans B3).keep _ _ (by simp) v1)
  have v24 := B4.keep _ _ m2 (B3.keep _ _ (by simp) v2)
  refine ⟨by show 10 ≤ sizeLine; decide, fun q5 hq5 => ?_⟩
  have B5 : But [] H4 (upd H4 q5 (.lst [.non, .int 3, .bl true, .ref q1, .ref q2, .str "A", .str "", .str "abcdefghi", .int (-1), .str wd])) := But.new hq5
  have v5 : (upd H4 q5 (.lst [.non, .int 3, .bl true, .ref q1, .ref q2, .str "A", .str "", .str "abcdefghi", .int (-1), .str wd])) q5 = some (.lst [.non, .int 3, .bl true, .ref q1, .ref q2, .str "A", .str "", .str "abcdefghi", .int (-1), .str wd]) := upd_same
  have all : ∀ y ∈ [V.non, .int 3, .bl true, .ref q1, .ref q2, .str "A", .str "", .str "abcdefghi", .int (-1), .str wd], Strange O H4 y := by
    have one : ∀ n : Str, isLinkD (.str n) O = false → Strange O H4 (.str n) := fun n h => ⟨.str n, rfl, rfl, (by show (0 : Nat) < 3; decide), h⟩
    intro y m
    simp only [List.mem_cons, List.not_mem_nil, or_false] at m
    rcases m with rfl | rfl | rfl | rfl | rfl | rfl | rfl | rfl | rfl | rfl
    · exact ⟨.non, rfl, rfl, by decide, rfl⟩
    · exact ⟨.int 3, rfl, rfl, by decide, rfl⟩
    · exact ⟨.bl true, rfl, rfl, by decide, rfl⟩
    · exact ⟨.tup [.str "a"], ⟨q1, _, rfl, by simp, v14, _, _, rfl, rfl, rfl⟩, rfl, by decide, rfl⟩
    · exact ⟨.lst [.str "a"], ⟨q2, _, rfl, by simp, v24, _, _, rfl, rfl, rfl⟩, rfl, by decide, rfl⟩
    · exact one _ (no_link w bad_A)
    · exact one _ (no_link w bad_e)
    · exact one _ (no_link w bad_9)
    · exact ⟨.int (-1), rfl, rfl, by decide, rfl⟩
    · exact one _ (decide_eq_false fun m => nw (w.out.o.p.mem_iff.mp m))
  generalize hxs : [V.non, .int 3, .bl true, .ref q1, .ref q2, .str "A", .str "", .str "abcdefghi", .int (-1), .str wd] = xs at B5 v5 all ⊢
  generalize upd H4 q5 (.lst xs) = H5 at B5 v5 ⊢
  have s5 := s4.nil B5
  refine ⟨_, rfl, q5, rfl, ⟨xs, SqL.of v5⟩, fun D hD => ?_⟩
  have uD : (upd H5 D (.lst [])) D = some (.lst []) := upd_same
  refine lc_it walk_list (fun i G => G D = some (.lst []) ∧ But [] H5 G) ⟨uD, But.new hD⟩ (fun i G _ p => SqL.of (p.2.keep _ _ (by simp) v5)) ?_ ?_
  · rintro i y G G' hi ⟨d1, b⟩ ⟨rfl, ey⟩
    refine ⟨wipe_one, ?_⟩
    obtain ⟨d, h1, h2, h3, h4⟩ := all y (List.mem_of_getElem? ey)
    refine ⟨_, rfl, _, rfl, t, k.name, L, O, R, k.hid, d, y, rfl, w.C.kc, w.N, (s5.nil b).ob.less (by simp), (h1.mono B5).mono b, h2, h3, h4, fun G2 b2 => ⟨_, rfl, ?_⟩⟩
    exact iteF ⟨b2.keep _ _ (by simp) d1, b.trans b2⟩
  · rintro G ⟨d1, b⟩
    refine ⟨sz0, fun q6 hq6 => ?_⟩
    refine neE (xs := []) (by rw [upd_ne (ne_of_none d1 hq6)]; exact d1) rfl upd_same ⟨_, rfl, ?_⟩
    refine iteF ?_
    have s6 := (s5.nil b).nil (But.new (o := .lst []) hq6)
    generalize upd G q6 (.lst []) = H6 at s6 ⊢
    -- the twin
    refine ⟨_, rfl, k, .ref kd, rfl, w.C.kc, s6.kd.less (by simp), w.g, fun a2 L2 O2 R2 H7 kp2 ha2 ob2 B7 => ?_⟩
    have s7 := s6.nil B7
    have tw := ob2 [a, c] s6.S.std s6.S.notup
    have out2 := Kept.out w.g k.tells kp2
    -- the other one
    refine ⟨_, rfl, _, rfl, a, c, k, .ref kd, rfl, s7.S, s7.kd, w.g, w.few, fun k' v' H8 ch g' at' S8 B8 => ?_⟩
    have s8 := s7.go B8 S8
    have tw8 := tw.mono B8
    refine ⟨k', v', rfl, w.C.kc, at', g', fun a3 L3 O3 R3 H9 kp3 ha3 ob3 B9 => ?_⟩
    have s9 := s8.nil B9
    have tw9 := (tw8.mono B9.nil).less (M' := []) (by simp)
    have to9 := s9.ob.less (M' := []) (by simp)
    have ot9 := ob3 [] Std.nil NoTup.nil
    have out3 := Kept.out g' k'.tells kp3
    obtain ⟨f1, f2, f3, f4⟩ := w.out.eq out2
    obtain ⟨g1, g2, g3, g4⟩ := out2.eq w.out
    obtain ⟨i1, i2, i3, i4⟩ := w.out.ne out3 ch
    refine ⟨_, rfl, _, rfl, do_eqK w.C to9 tw9 f1 true (by rw [f2, f3, f4]; simp) ⟨_, rfl, ?_⟩⟩
    refine iteT ?_
    refine ⟨_, rfl, _, rfl, do_eqK w.C tw9 to9 g1 true (by rw [g2, g3, g4]; simp) ⟨_, rfl, ?_⟩⟩
    refine iteT ?_
    refine ⟨_, rfl, _, rfl, do_eqK w.C to9 ot9 i1 false i3 ⟨_, rfl, _, rfl, ?_⟩⟩
    refine iteT ?_
    exact ⟨_, rfl, _, rfl, do_eqK w.C ot9 to9 i2 false i4 ⟨_, rfl, q _⟩⟩
end Kb

set_option Elab.async false
set_option linter.all false
set_option maxRecDepth 100000
set_option maxHeartbeats 2000000
/-! Kb, 50: the law's middle part: what the Kind tells, twice; each own name. -/
namespace Kb
open PySem PySem.Spec PyProof.Rows L2

def t_law_d (K : PySem.W.Frag) : TS :=
  (tSeq (tIfS (tOr (tNot (tB (tCall (sp_l_tells K) [] E0 (tCons (tVar 5) (tCons (tVar 3) tNil))))) (tNot (tB (tCall (sp_l_tells K) [] E0 (tCons (tVar 5) (tCons (tVar 3) tNil))))))
    (tRet (tC (.bl false)))
    tNext)
  (tSeq (tLock (tFor (iKeys (tOp (rIxL K) (tVar 3) (tC (.int 2)))) (gName 7)
    (tIfS (tOr (tNot (tTest (tOp (rInK false (He.ga K "Kind") (sp_Kind_contains K) E0) (tVar 7) (tVar 5)))) (tNot (tB (tCall (sp_l_like 6 K) [] E0 (tCons (tOp (rIxK (He.ga K "Kind") (sp_Kind_getitem K) E0) (tVar 5) (tVar 7)) (tCons (tDGet (tOp (rIxL K) (tVar 3) (tC (.int 2))) (tVar 7)) tNil))))))
    (tRet (tC (.bl false)))
    tNext)))
  (t_law_e K)))
theorem own_dp {o : Own} : o.d.dp < 6 := by
  obtain ⟨ds, ed, fl⟩ := o.d_tup
  have h0 : D.dpL ds ≤ 0 := dpL_le fun d m => Nat.le_of_eq (dp_flat' (List.all_eq_true.mp fl d m))
  rw [ed]
  show D.dpL ds + 1 < 6
  omega
theorem law_d {K : PySem.W.Frag} {k : KD} {L O : List (Str × D)} {R : List D} {P : List Addr} {a c t : Addr} {x : V} {H : Hp} {Q : VK} {u0 u2 u4 u6 u7 u8 u9 u10 : Option V} (w : Law K k L O R) (s : Sit K k L O R P a c x t H)
    (hp : ∀ kd y0 y1 p y3 y4, x = .ref kd → H kd = some (.lst [y0, y1, .ref p, y3, y4]) → p ∈ P) (q : ∀ H', Q (.bl true) H') :
    t_law_d K (fin Q) [u0, some (.ref a), u2, some x, u4, some (.ref t), u6, u7, u8, u9, u10] H := by
  obtain ⟨kd, p1, p2, p3, kv1, kv2, xs3, rfl, nk, hk, n1, e1, l1, n2, e2, l2, n3, e3, l3⟩ := KD.parts s.kd
  have inP := hp kd _ _ p2 _ _ rfl hk
  refine ⟨_, rfl, _, rfl, t, k.name, L, O, R, k.hid, k, .ref kd, rfl, w.C.kc, s.ob.less (by simp), s.kd.less (by simp), w.like, due_dp, fun H1 B1 => ⟨_, rfl, ?_⟩⟩
  refine iteF ?_
  have s1 := s.nil B1
  refine ⟨_, rfl, _, rfl, t, k.name, L, O, R, k.hid, k, .ref kd, rfl, w.C.kc, s1.ob.less (by simp), s1.kd.less (by simp), w.like, due_dp, fun H2 B2 => ⟨_, rfl, ?_⟩⟩
  refine iteF ?_
  have s2 := s1.nil B2
  have B := B1.trans B2
  have hk2 := B.keep _ _ (by simp) hk
  have e22 := B.keep _ _ (by simp) e2
  have l22 := l2.mono B.nil
  refine ⟨p2, .dK kv2, e22, trivial, fun od => ?_⟩
  have uL : (upd H2 p2 (.frz od (.dK kv2))) p2 = some (.frz od (.dK kv2)) := upd_same
  have BL : But [p2] H2 (upd H2 p2 (.frz od (.dK kv2))) := lock_but e22
  have obL := (s2.ob.less (M' := [p2]) (fun y m => by rw [List.mem_singleton.mp m]; exact List.mem_append.mpr (.inl inP))).mono BL
  have hkL : (upd H2 p2 (.frz od (.dK kv2))) kd = some (.lst [.str k.name, .ref p1, .ref p2, .ref p3, .bl k.hid]) := lock_ne e22 hk2 (fun z => nomatch z)
  have lL : AtP [p2] (upd H2 p2 (.frz od (.dK kv2))) (ownD k.own) kv2 := by
    obtain ⟨p, kvs, e', e'', l'⟩ := At.dct (H := H2) (kds := ownD k.own) (v := .ref p2) ⟨p2, kv2, rfl, by simp, e22, l22.less (by simp)⟩
    cases e'
    rw [e22] at e''
    cases e''
    exact l'.mono BL
  have back : ∀ G, But [] (upd H2 p2 (.frz od (.dK kv2))) G → But [] H2 (upd G p2 (.dK kv2)) := fun G b => unlock_but e22 b
  generalize upd H2 p2 (.frz od (.dK kv2)) = HL at uL obL hkL lL back ⊢
  refine ⟨_, rfl, kd, _, 2, .ref p2, rfl, rfl, SqL.of hkL, rfl, p2, od, rfl, .inl ⟨kv2, uL, ?_⟩⟩
  refine for_it walk_keys (fun i σ G => But [] HL G ∧ ∃ v7 : Option V, σ = [u0, some (.ref a), u2, some (.ref kd), u4, some (.ref t), u6, v7, u8, u9, u10]) ⟨But.refl, u7, rfl⟩ (fun i σ G _ p => p.1.keep _ _ (by simp) uL) ?_ ?_
  · rintro i y σ G G' hi ⟨b, v7, rfl⟩ ⟨rfl, ky, vy, ek, rfl⟩
    obtain ⟨n, d, g1, rfl, hd⟩ := lL.get ek
    have nmk : n ∈ keysD (ownD k.own) := List.mem_map.mpr ⟨_, List.mem_of_getElem? g1, rfl⟩
    have obG := obL.mono b.nil
    obtain ⟨dx, lo, oo, ro, _, eo, ho1, ho2, ho3⟩ := obG
    obtain ⟨po, ko, rfl, _, eoo, loo⟩ := ho2
    have nO : n ∈ keysD O := w.out.o.p.mem_iff.mpr nmk
    obtain ⟨d1, z1, f1, f2, f3⟩ := loo.val nO
    obtain ⟨d2, z2, f4, f5, f6⟩ := (lL.mono b.nil).val nmk
    obtain ⟨f7, low⟩ := w.out.o.ok n d1 (lookup_mem f1)
    rw [f4] at f7
    cases f7
    refine ⟨_, rfl, _, rfl, t, dx, _, rfl, eo, t, dx, po, _, .str n, .str n, O, ko, rfl, w.C.kc.cls, w.C.kc.n3, eo, rfl, eoo, loo.keys, rfl, _, rfl, _, rfl, ?_⟩
    rw [show isLinkD (.str n) O = true from decide_eq_true nO]
    refine iteF ?_
    refine ⟨_, rfl, _, rfl, t, dx, _, rfl, eo, t, dx, po, _, .str n, .str n, O, ko, rfl, w.C.kc.cls, w.C.kc.n3, w.N.nn, eo, rfl, eoo, loo.keys, rfl, fun _ n' v' en ev => ?_, fun z => ?_⟩
    · cases en
      rw [f2] at ev
      cases ev
      refine ⟨_, rfl, kd, _, 2, .ref p2, rfl, rfl, SqL.of (b.keep _ _ (by simp) hkL), rfl, _, rfl, p2, z2, rfl, .inl ⟨kv2, .inr n, .inr ⟨od, b.keep _ _ (by simp) uL⟩, rfl, f5.symm⟩, ?_⟩
      refine ⟨d1, d1, z1, z2, rfl, f3.z, f6.less (by simp), Like.refl low.pl, ?_, fun G2 b2 => ⟨_, rfl, ?_⟩⟩
      · obtain ⟨p, hp', ep⟩ := List.mem_map.mp (lookup_mem f4)
        have : d1 = p.2.d := by
          have := congrArg Prod.snd ep
          exact this.symm
        rw [this]
        exact own_dp
      · exact iteF ⟨b.trans b2, some (.str n), rfl⟩
    · rw [show isLinkD (.str n) O = true from decide_eq_true nO] at z
      cases z
  · rintro σ G ⟨b, v7, rfl⟩
    refine ⟨b.keep _ _ (by simp) uL, ?_⟩
    exact law_e w (s2.nil (back G b)) q
end Kb

set_option Elab.async false
set_option linter.all false
set_option maxRecDepth 100000
set_option maxHeartbeats 2000000
/-! Kb, 51: the law's spoiling and clearing of what was passed. -/
namespace Kb
open PySem PySem.Spec PyProof.Rows L2

def t_law_c (K : PySem.W.Frag) : TS :=
  (tSeq (tDrop (tCall (sp_l_spoil_inside K) [] E0 (tCons (tVar 4) tNil)))
  (tSeq (tFor (iList K (tVar 4)) (gName 6)
    (tDrop (tClr 6)))
  (t_law_d K)))
def IsDK (H : Hp) (p : Addr) : Prop := ∃ kvs, H p = some (.dK kvs)
def IsLs (H : Hp) (p : Addr) : Prop := ∃ xs, H p = some (.lst xs)
theorem IsDK.clr {H : Hp} {p x : Addr} (h : IsDK H p) : IsDK (upd H x (.dK [])) p := by
  by_cases e : p = x
  · rw [e]
    exact ⟨_, upd_same⟩
  · obtain ⟨k, h⟩ := h
    exact ⟨k, by rw [upd_ne e]; exact h⟩
theorem IsLs.clrD {H : Hp} {p x : Addr} (h : IsLs H p) (hx : IsDK H x) : IsLs (upd H x (.dK [])) p := by
  obtain ⟨xs, h⟩ := h
  obtain ⟨kv, hx⟩ := hx
  have e : p ≠ x := fun z => by rw [z, hx] at h; cases h
  exact ⟨xs, by rw [upd_ne e]; exact h⟩
theorem IsDK.clrL {H : Hp} {p x : Addr} (h : IsDK H p) (hx : IsLs H x) : IsDK (upd H x (.lst [])) p := by
  obtain ⟨kv, h⟩ := h
  obtain ⟨xs, hx⟩ := hx
  have e : p ≠ x := fun z => by rw [z, hx] at h; cases h
  exact ⟨kv, by rw [upd_ne e]; exact h⟩
/-- a list does not hold itself as its last part -/
theorem no_self {H : Hp} {A A' : List Addr} {p : Addr} {L O : List (Str × D)} {R : List D} (h : At A H (.lst [.dct L, .dct O, .lst R]) (.ref p)) (h' : At A' H (.lst R) (.ref p)) : False := by
  have e := At.inj h' h
  have := congrArg D.sz e
  simp [D.sz, D.szL] at this
  omega
theorem law_c {K : PySem.W.Frag} {k : KD} {L O L' O' : List (Str × D)} {R R' : List D} {A M0 Pk Pt : List Addr} {a c t kd p p2 : Addr} {y0 y1 y3 y4 : V} {H : Hp} {Q : VK} {u0 u2 u6 u7 u8 u9 u10 : Option V} (w : Law K k L' O' R') (S : StAt H a c)
    (Fk : Foot [a, c] H Pk fun M' H' => At M' H' k.d (.ref kd)) (Ft : Foot M0 H Pt fun M' H' => KOb K M' H' t k.name L' O' R' k.hid) (hM : ∀ x ∈ [p2, a, c], x ∈ M0) (hk : H kd = some (.lst [y0, y1, .ref p2, y3, y4])) (nt : NoTup [p2, a, c] H)
    (parts : At A H (.lst [.dct L, .dct O, .lst R]) (.ref p)) (hA : ∀ x ∈ Pk ++ (Pt ++ [kd, a, c]), x ∈ A) (sp : SpoilOk L O R) (q : ∀ H', Q (.bl true) H') :
    t_law_c K (fin Q) [u0, some (.ref a), u2, some (.ref kd), some (.ref p), some (.ref t), u6, u7, u8, u9, u10] H := by
  refine ⟨_, rfl, A, p, L, O, R, rfl, parts, sp, fun H1 G => ?_⟩
  have whole := parts
  obtain ⟨_, _, ep, np, hp, z1, _, rfl, w1, z2, _, rfl, w2, z3, _, rfl, w3, rfl⟩ := parts
  cases ep
  have w3' := w3
  obtain ⟨r1, kv1, rfl, m1, h1, _⟩ := w1
  obtain ⟨r2, kv2, rfl, m2, h2, _⟩ := w2
  obtain ⟨r3, ls3, rfl, m3, h3, _⟩ := w3
  have g0 := G.keep p (by simp) _ hp
  have g1 : IsDK H1 r1 := ⟨_, G.oth r1 _ (fun _ z => nomatch z) h1⟩
  have g2 : IsDK H1 r2 := ⟨_, G.oth r2 _ (fun _ z => nomatch z) h2⟩
  have g3 : IsLs H1 r3 := by
    obtain ⟨zs, e, _⟩ := G.lst r3 _ h3
    exact ⟨_, e⟩
  have np3 : p ∉ [r1, r2, r3] := fun m => by
    simp only [List.mem_cons, List.not_mem_nil, or_false] at m
    rcases m with e | e | e
    · rw [e, h1] at hp; cases hp
    · rw [e, h2] at hp; cases hp
    · rw [← e] at w3'
      exact no_self whole w3'
  refine ⟨_, rfl, p, rfl, ⟨_, SqL.of g0⟩, ?_⟩
  refine for_it walk_list (fun i σ G2 => But [r1, r2, r3] H1 G2 ∧ IsDK G2 r1 ∧ IsDK G2 r2 ∧ IsLs G2 r3 ∧ ∃ v6 : Option V, σ = [u0, some (.ref a), u2, some (.ref kd), some (.ref p), some (.ref t), v6, u7, u8, u9, u10])
    ⟨But.refl, g1, g2, g3, u6, rfl⟩ (fun i σ G2 _ h => SqL.of (h.1.keep _ _ np3 g0)) ?_ ?_
  · rintro i y σ G2 G3 hi ⟨b, d1, d2, d3, v6, rfl⟩ ⟨rfl, ey⟩
    have clr : ∀ r, y = .ref r → r ∈ [r1, r2, r3] → (IsDK G3 r ∨ IsLs G3 r) → tDrop (tClr 6) { nx := fun σ' G4 => But [r1, r2, r3] H1 G4 ∧ IsDK G4 r1 ∧ IsDK G4 r2 ∧ IsLs G4 r3 ∧ ∃ v6 : Option V, σ' = [u0, some (.ref a), u2, some (.ref kd), some (.ref p), some (.ref t), v6, u7, u8, u9, u10], rt := Q, bk := fun _ _ => True, ct := fun _ _ => True }
        [u0, some (.ref a), u2, some (.ref kd), some (.ref p), some (.ref t), some y, u7, u8, u9, u10] G3 := fun r er mr hr => by
      subst er
      refine ⟨r, rfl, ?_⟩
      have lstNo : ∀ {kv}, G3 r = some (.dK kv) → IsLs (upd G3 r (.dK [])) r3 := fun {kv} e => d3.clrD ⟨kv, e⟩
      rcases hr with ⟨kv, e⟩ | ⟨xs, e⟩
      · exact .inl ⟨kv, e, b.upd (.inl mr), d1.clr, d2.clr, lstNo e, _, rfl⟩
      · refine .inr ⟨xs, e, b.upd (.inl mr), d1.clrL ⟨xs, e⟩, d2.clrL ⟨xs, e⟩, ?_, _, rfl⟩
        by_cases z : r3 = r
        · rw [z]
          exact ⟨_, upd_same⟩
        · obtain ⟨zs, e3⟩ := d3
          exact ⟨zs, by rw [upd_ne z]; exact e3⟩
    have here : ∃ r, y = .ref r ∧ r ∈ [r1, r2, r3] ∧ (IsDK G3 r ∨ IsLs G3 r) := by
      have hy := List.mem_of_getElem? ey
      simp only [List.mem_cons, List.not_mem_nil, or_false] at hy
      rcases hy with rfl | rfl | rfl
      · exact ⟨r1, rfl, by simp, .inl d1⟩
      · exact ⟨r2, rfl, by simp, .inl d2⟩
      · exact ⟨r3, rfl, by simp, .inr d3⟩
    obtain ⟨r, er, mr, hr⟩ := here
    exact clr r er mr hr
  · rintro σ G2 ⟨b, d1, d2, d3, v6, rfl⟩
    have noA : ∀ x ∈ A, x ∉ [r1, r2, r3] := fun x m z => by
      simp only [List.mem_cons, List.not_mem_nil, or_false] at z
      rcases z with rfl | rfl | rfl
      · exact m1 m
      · exact m2 m
      · exact m3 m
    have keep : ∀ x ∈ A, ∀ o, H x = some o → G2 x = some o := fun x m o e => b.keep _ _ (noA x m) (G.keep x (List.mem_cons_of_mem _ m) o e)
    have tup : TupK H G2 := fun x xs e => by
      refine b.keep _ _ (fun z => ?_) (G.oth x _ (fun _ z => nomatch z) e)
      simp only [List.mem_cons, List.not_mem_nil, or_false] at z
      rcases z with rfl | rfl | rfl
      · rw [h1] at e; cases e
      · rw [h2] at e; cases e
      · rw [h3] at e; cases e
    have inA : ∀ {x}, x ∈ Pk ++ (Pt ++ [kd, a, c]) → x ∈ A := fun {x} m => hA x m
    have ka : a ∈ A := inA (by simp)
    have kc : c ∈ A := inA (by simp)
    have kk : kd ∈ A := inA (by simp)
    have S2 : StAt G2 a c := by
      obtain ⟨ne, ⟨i, j, e1⟩, ns, e2, e3⟩ := S
      exact ⟨ne, ⟨i, j, keep a ka _ e1⟩, ns, keep c kc _ e2, e3⟩
    have kk1 : Keeps Pk H G2 := fun x m => keep x (inA (by simp [m]))
    have kk2 : Keeps Pt H G2 := fun x m => keep x (inA (by simp [m]))
    have nt2 : NoTup [a, c] H := fun x m => nt x (List.mem_cons_of_mem _ m)
    have kd2 := Fk.on [a, c] G2 tup kk1 (fun x m z => Fk.out x z m) nt2
    have ob2 := Ft.on [p2, a, c] G2 tup kk2 (fun x m z => Ft.out x z (hM x m)) nt
    refine law_d (P := [p2]) w ⟨S2, kd2, ob2⟩ (fun kd' y0' y1' p' y3' y4' e e' => ?_) q
    cases e
    rw [keep kd kk _ hk] at e'
    cases e'
    simp
end Kb

set_option Elab.async false
set_option linter.all false
set_option maxRecDepth 100000
set_option maxHeartbeats 2000000
/-! Kb, 52: law. -/
namespace Kb
open PySem PySem.Spec PyProof.Rows L2

def sp_law (K : PySem.W.Frag) : Sp := fun vs H Q _ => ∃ (s : Addr) (ns : List Int), vs = [.ref s] ∧ SqL K H s (ns.map V.int) ∧ KindI K ∧ NoNameX K ∧ ∀ H', Q (.bl true) H'
theorem len_law {K : PySem.W.Frag} {vs : List V} {H : Hp} {Q : VK} {E : XK} (h : sp_law K vs H Q E) : vs.length = 1 := by
  obtain ⟨_, _, rfl, _⟩ := h
  rfl
def t_law (K : PySem.W.Frag) : TS :=
  (tSeq (tAsg (tCall (sp_l_state K) [] E0 (tCons (tVar 0) tNil)) (gName 1))
  (tSeq (tAsg (tCall (sp_l_house K) [] E0 (tCons (tVar 1) (tCons (tC (.int 4)) (tCons (tC (.int 2)) (tCons (tC (.int 6)) (tCons (tC (.int 7)) tNil)))))) (gName 2))
  (tSeq (tAsg (tCall (sp_l_pick K) [] E0 (tCons (tVar 1) (tCons (tVar 2) tNil))) (gName 3))
  (tSeq (tAsg (tCall (sp_l_loose_parts K) [] E0 (tCons (tVar 1) (tCons (tVar 3) tNil))) (gName 4))
  (C8.tCut (tIfS (tOr (tB (tOp (rIxL K) (tVar 3) (tC (.int 4)))) (tTest (tOp rEq (tCall (sp_l_draw K) [] E0 (tCons (tVar 1) (tCons (tC (.int 2)) tNil))) (tC (.int 0)))))
    (tAsg (tMakeN (He.ga K "Kind") 4 1 (sp_Kind_init K) (fun vs zs => vs ++ zs) E0 (tCons (tOp (rIxL K) (tVar 3) (tC (.int 0))) (tCons (tOp (rIxL K) (tVar 4) (tC (.int 0))) (tCons (tOp (rIxL K) (tVar 4) (tC (.int 1))) (tCons (tOp (rIxL K) (tVar 4) (tC (.int 2))) tNil)))) (tCons (tOp (rIxL K) (tVar 3) (tC (.int 4))) tNil)) (gName 5))
    (tAsg (tMake (He.ga K "Kind") (sp_Kind_init K) [.bl false] E0 (tCons (tOp (rIxL K) (tVar 3) (tC (.int 0))) (tCons (tOp (rIxL K) (tVar 4) (tC (.int 0))) (tCons (tOp (rIxL K) (tVar 4) (tC (.int 1))) (tCons (tOp (rIxL K) (tVar 4) (tC (.int 2))) tNil))))) (gName 5)))
  (t_law_c K))))))
theorem Foot.move {M P : List Addr} {H H' : Hp} {A : List Addr → Hp → Prop} (f : Foot M H P A) (t : TupK H H') (k : Keeps P H H') : Foot M H' P A := by
  refine ⟨fun x m => ?_, fun x m xs e => ?_, f.out, fun M' H2 t2 k2 d n => f.on M' H2 (t.trans t2) (k.trans k2) d fun x m xs e => n x m xs (t x xs e)⟩
  · cases e : H x with
    | none => exact absurd e (f.std x m)
    | some o => rw [k x m o e]; simp
  · cases e' : H x with
    | none => exact absurd e' (f.std x m)
    | some o =>
      rw [k x m o e'] at e
      cases e
      exact f.nt x m xs e'
theorem pure_law {K : PySem.W.Frag} (vs : List V) (H : Hp) (Q : VK) (E : XK) (h : sp_law K vs H Q E) : t_law K (fin Q) (st0 11 vs) H := by
  obtain ⟨s, ns, rfl, hs, C, N, q⟩ := h
  refine ⟨_, rfl, s, ns, rfl, hs, fun a c H1 ha hc S1 B1 => ?_⟩
  refine ⟨_, rfl, a, c, 4, 2, 6, 7, rfl, S1, by decide, by decide, by decide, by decide, by decide, by decide, fun kinds asked hss v H2 ok nw S2 B2 => ?_⟩
  obtain ⟨r, xs, rfl, nr, hr, lr⟩ := nw [a, c] S1.std
  have len := lr.length
  rw [List.length_map] at len
  have e0 : hss.length = kinds.length := by rw [← ok.nm, List.length_map]
  have k4 := ok.ks.len
  have ne : xs ≠ [] := fun z => by
    rw [z] at len
    have : kinds.length = 0 := by rw [← e0, ← len]; rfl
    exact ok.kne (List.length_eq_zero_iff.mp this)
  refine ⟨_, rfl, _, rfl, a, c, r, xs, rfl, S2, nr, hr, ne, by omega, fun x H3 mx S3 B3 => ?_⟩
  obtain ⟨i, ex⟩ := List.mem_iff_getElem?.mp mx
  obtain ⟨d, ed, hd⟩ := lr.get ex
  rw [List.getElem?_map] at ed
  obtain ⟨k, ek, rfl⟩ := Option.map_eq_some_iff.mp ed
  have mk : k ∈ hss := List.mem_of_getElem? ek
  have kok := ok.ok k mk
  have g : KdGood k := ⟨⟨kinds, asked, 7, kok, by omega, ok.ks.nm, ok.as.nm, ok.as.nd⟩, ok.ks.nm _ (by rw [← ok.nm]; exact List.mem_map.mpr ⟨k, mk, rfl⟩)⟩
  have few : k.rules.length ≤ 299 := Nat.le_trans kok.rl (by omega)
  have hd3 := hd.mono B3
  obtain ⟨kd, p1, p2, p3, kv1, kv2, xs3, rfl, nk, hk, n1, e1, l1, n2, e2, l2, n3, e3, l3⟩ := KD.parts hd3
  refine ⟨_, rfl, _, rfl, a, c, k, .ref kd, rfl, S3, hd3, g.fit, fun L O R wv H4 lo nw4 S4 B4 => ?_⟩
  obtain ⟨Pk, Fk⟩ := hd3.foot
  have std1 : Std (Pk ++ [p2, kd, a, c]) H3 := Fk.std.app (Std.cons e2 (Std.cons hk S3.std))
  have nt1 : NoTup (Pk ++ [p2, kd, a, c]) H3 := Fk.nt.app (NoTup.cons e2 (fun _ z => nomatch z) (NoTup.cons hk (fun _ z => nomatch z) S3.notup))
  have parts4 := nw4 _ std1 nt1
  have sub : ∀ x ∈ [a, c], x ∈ Pk ++ [p2, kd, a, c] := fun x m => List.mem_append.mpr (.inr (List.mem_cons_of_mem _ (List.mem_cons_of_mem _ m)))
  obtain ⟨p, xs4, rfl, np, hp, y1, _, rfl, w1, y2, _, rfl, w2, y3, _, rfl, w3, rfl⟩ := id parts4
  have npac : p ∉ [a, c] := fun m => np (sub p m)
  have hk4 := B4.keep _ _ nk hk
  have good := lo.tells.parts g
  have spo := lo.spoil g
  refine ⟨fun σ H6 => ∃ (H5 : Hp) (t : Addr) (L' O' : List (Str × D)) (R' : List D), σ = [some (.ref s), some (.ref a), some (.ref r), some (.ref kd), some (.ref p), some (.ref t), none, none, none, none, none] ∧ StAt H5 a c ∧ But [a, c] H4 H5 ∧ Kept L O (.lst R) L' O' R' ∧
    (∀ M, Std M H5 → NoTup M H5 → KOb K M H6 t k.name L' O' R' k.hid) ∧ But [] H5 H6, ?_, ?_⟩
  · refine ⟨_, rfl, kd, _, 4, .bl k.hid, rfl, rfl, SqL.of hk4, rfl, _, rfl, ?_⟩
    have named : ∀ (J : VK) (H5 : Hp), But [a, c] H4 H5 → (∀ t L' O' R' H6, Kept L O (.lst R) L' O' R' → (∀ M, Std M H5 → NoTup M H5 → KOb K M H6 t k.name L' O' R' k.hid) → But [] H5 H6 → J (.ref t) H6) →
        tMakeN (He.ga K "Kind") 4 1 (sp_Kind_init K) (fun vs zs => vs ++ zs) E0 (tCons (tOp (rIxL K) (tVar 3) (tC (.int 0))) (tCons (tOp (rIxL K) (tVar 4) (tC (.int 0))) (tCons (tOp (rIxL K) (tVar 4) (tC (.int 1))) (tCons (tOp (rIxL K) (tVar 4) (tC (.int 2))) tNil)))) (tCons (tOp (rIxL K) (tVar 3) (tC (.int 4))) tNil)
        [some (.ref s), some (.ref a), some (.ref r), some (.ref kd), some (.ref p), none, none, none, none, none, none] H5 J := fun J H5 B5 fin => by
      have hk5 := B5.keep _ _ nk hk4
      have hp5 := B5.keep _ _ npac hp
      refine ⟨_, rfl, kd, _, 0, .str k.name, rfl, rfl, SqL.of hk5, rfl, _, rfl, p, _, 0, y1, rfl, rfl, SqL.of hp5, rfl, _, rfl, p, _, 1, y2, rfl, rfl, SqL.of hp5, rfl, _, rfl, p, _, 2, y3, rfl, rfl, SqL.of hp5, rfl, _, rfl, kd, _, 4, .bl k.hid, rfl, rfl, SqL.of hk5, rfl, rfl, rfl, fun x dx hx hdx ne => ?_⟩
      exact init_ok (K := K) (L := L) (O := O) (d := .lst R) (h := k.hid) (Q := J) C.kc ((w1.mono (B5.more sub)).less (by simp)) ((w2.mono (B5.more sub)).less (by simp)) ((w3.mono (B5.more sub)).less (by simp)) good.1 hx hdx ne fun L' O' R' H6 kp kob b => fin x L' O' R' H6 kp kob b
    have plain : ∀ (J : VK) (H5 : Hp), k.hid = false → But [a, c] H4 H5 → (∀ t L' O' R' H6, Kept L O (.lst R) L' O' R' → (∀ M, Std M H5 → NoTup M H5 → KOb K M H6 t k.name L' O' R' k.hid) → But [] H5 H6 → J (.ref t) H6) →
        tMake (He.ga K "Kind") (sp_Kind_init K) [.bl false] E0 (tCons (tOp (rIxL K) (tVar 3) (tC (.int 0))) (tCons (tOp (rIxL K) (tVar 4) (tC (.int 0))) (tCons (tOp (rIxL K) (tVar 4) (tC (.int 1))) (tCons (tOp (rIxL K) (tVar 4) (tC (.int 2))) tNil))))
        [some (.ref s), some (.ref a), some (.ref r), some (.ref kd), some (.ref p), none, none, none, none, none, none] H5 J := fun J H5 hid B5 fin => by
      have hk5 := B5.keep _ _ nk hk4
      have hp5 := B5.keep _ _ npac hp
      refine ⟨_, rfl, kd, _, 0, .str k.name, rfl, rfl, SqL.of hk5, rfl, _, rfl, p, _, 0, y1, rfl, rfl, SqL.of hp5, rfl, _, rfl, p, _, 1, y2, rfl, rfl, SqL.of hp5, rfl, _, rfl, p, _, 2, y3, rfl, rfl, SqL.of hp5, rfl, fun x dx hx hdx ne => ?_⟩
      rw [hid] at fin
      exact init_ok (K := K) (L := L) (O := O) (d := .lst R) (h := false) (Q := J) C.kc ((w1.mono (B5.more sub)).less (by simp)) ((w2.mono (B5.more sub)).less (by simp)) ((w3.mono (B5.more sub)).less (by simp)) good.1 hx hdx ne fun L' O' R' H6 kp kob b => fin x L' O' R' H6 kp kob b
    cases hh : k.hid with
    | true =>
      refine iteT ?_
      refine iteT ?_
      exact named _ H4 But.refl fun t L' O' R' H6 kp ob b => ⟨H4, t, L', O', R', rfl, S4, But.refl, kp, by rw [← hh]; exact ob, b⟩
    | false =>
      refine iteF ?_
      refine ⟨_, rfl, a, c, 2, rfl, S4, by decide, by decide, fun r2 H5 _ _ S5 B5 => ⟨rfl, ?_⟩⟩
      refine ⟨_, rfl, ?_⟩
      by_cases z : V.int r2 = V.int 0
      · rw [decide_eq_true z]
        refine iteT ?_
        exact named _ H5 B5 fun t L' O' R' H6 kp ob b => ⟨H5, t, L', O', R', rfl, S5, B5, kp, by rw [← hh]; exact ob, b⟩
      · rw [decide_eq_false z]
        refine iteF ?_
        exact plain _ H5 hh B5 fun t L' O' R' H6 kp ob b => ⟨H5, t, L', O', R', rfl, S5, B5, kp, by rw [← hh]; exact ob, b⟩
  · rintro σ H6 ⟨H5, t, L', O', R', rfl, S5, B5, kp, ob, b⟩
    have parts5 := parts4.mono (B5.more sub)
    obtain ⟨PP, FP⟩ := parts5.foot
    have B35 : But [a, c] H3 H5 := B4.trans B5
    have t35 : TupK H3 H5 := B35.tupK S3.notup
    have k35 : Keeps Pk H3 H5 := B35.keeps Fk.out
    have Fk5 := Fk.move t35 k35
    have hk5 := B5.keep _ _ nk hk4
    have e25 := B35.keep _ _ n2 e2
    have std5 : Std (Pk ++ [p2, kd, a, c]) H5 := Fk5.std.app (Std.cons e25 (Std.cons hk5 S5.std))
    have nt5 : NoTup (Pk ++ [p2, kd, a, c]) H5 := Fk5.nt.app (NoTup.cons e25 (fun _ z => nomatch z) (NoTup.cons hk5 (fun _ z => nomatch z) S5.notup))
    have ob6 := ob (PP ++ (Pk ++ [p2, kd, a, c])) (FP.std.app std5) (FP.nt.app nt5)
    obtain ⟨Pt, mt, Ft⟩ := ob6.foot
    have t56 : TupK H5 H6 := b.tupK NoTup.nil
    have k56 : ∀ Z, Keeps Z H5 H6 := fun Z => b.keeps fun _ _ => by simp
    have Fk6 := Fk5.move t56 (k56 _)
    have ntT : NoTup Pt H5 := fun x m xs e => Ft.nt x m xs (t56 x xs e)
    have ntA : NoTup (Pk ++ (Pt ++ [kd, a, c])) H5 := Fk5.nt.app (ntT.app (NoTup.cons hk5 (fun _ z => nomatch z) S5.notup))
    have out : ∀ x ∈ Pk ++ (Pt ++ [kd, a, c]), x ∉ PP := fun x m z => by
      rcases List.mem_append.mp m with m | m
      · exact FP.out x z (List.mem_append.mpr (.inl m))
      · rcases List.mem_append.mp m with m | m
        · exact Ft.out x m (List.mem_append.mpr (.inl z))
        · exact FP.out x z (List.mem_append.mpr (.inr (List.mem_cons_of_mem _ m)))
    have parts6 := FP.on (Pk ++ (Pt ++ [kd, a, c])) H6 t56 (k56 _) out ntA
    have w : Law K k L' O' R' := ⟨C, N, g, few, Kept.out g lo.tells kp, kept_like g lo.tells kp⟩
    exact law_c w (S5.nil b) Fk6 Ft (fun x m => by
      simp only [List.mem_cons, List.not_mem_nil, or_false] at m
      rcases m with rfl | rfl | rfl <;> simp) (b.keep _ _ (by simp) hk5) (NoTup.cons (b.keep _ _ (by simp) e25) (fun _ z => nomatch z) (S5.nil b).notup) parts6 (fun _ m => m) spo q
end Kb

set_option Elab.async false
set_option linter.all false
set_option maxRecDepth 100000
set_option maxHeartbeats 1000000
/-! Kb, 53: what the head tells of own errors and of isinstance, besides. -/
namespace Kb
open PySem PySem.Spec PyProof.Rows L2

section
variable (K : PySem.W.Frag)
/-- the class object of an own error over ValueError -/
def clsB (C : Addr) : Bool := match K.lookup C with
  | some ⟨.type "type", _, .cls cd, sl⟩ => (match cd.mro, sl.toList with
    | .ref C' :: bm, [_, _, _, _, some (.builtin n), _] => C' == C && (n == "ValueError.__new__" && (cd.hasDict && (!cd.hasDel && PySem.HandSPX.refsVE bm)))
    | _, _ => false)
  | _ => false
def oexB (C : Addr) : Bool := clsB K C && (decide (PySem.W.findIn K (.ref C) "__setattr__" = some (some (.builtin "object.__setattr__"))) && (decide (PySem.W.subIn K (.ref C) (.type "BaseException") = some true) && (decide (PySem.W.typeIn K (.ref C) = some (.type "type")) && PySem.W.keepIn K (.ref C))))
def baseB (B : Addr) : Bool := PySem.W.readsIn K B (.type "type") && (decide (PySem.W.specialIn K (.ref B) "__getattribute__" = some (some (.builtin "type.__getattribute__"))) && match PySem.W.findCls K (.ref B) (.type "type") "__init__" with
  | some (.val (.builtin n)) => n == "ValueError.__init__"
  | _ => false)
def kindB (C : Addr) : Bool := decide (PySem.W.findIn K (.ref C) "__class__" = some (some (.builtin "object.__class__"))) && (decide (PySem.W.specialIn K (.builtin "object.__class__") "__get__" = some (some (.builtin "getset_descriptor.__get__"))) &&
  (decide (PySem.W.takesIn K (.builtin "object.__class__") = some true) && (decide (PySem.W.mroIn K C (.type "object") = some true) && decide (PySem.W.kitOne K (.ref C) (.ref C) = some true))))
end
theorem clsB_ok {K : PySem.W.Frag} {C : Addr} (h : clsB K C = true) : ∃ nm q N bs bm sn sub ab col dd k0 k1 k2 k3 k5, K.lookup C = some (excClassObj nm q C N bs bm true sn sub ab col dd k0 k1 k2 k3 k5 "ValueError.__new__") ∧ PySem.HandSPX.refsVE bm = true := by
  unfold clsB at h
  split at h
  · rename_i dd cd sl look
    split at h
    · rename_i C' bm k0 k1 k2 k3 n k5 hm hs
      obtain ⟨h1, h⟩ := He.ba h
      obtain ⟨h2, h⟩ := He.ba h
      obtain ⟨h3, h⟩ := He.ba h
      obtain ⟨h4, h5⟩ := He.ba h
      obtain rfl : C' = C := by simpa using h1
      obtain rfl : n = "ValueError.__new__" := by simpa using h2
      obtain ⟨nm, bs, mro, ns, qn, hd, sn, sub, ab, col, del⟩ := cd
      have g4 : del = false := by simpa using h4
      have g3 : hd = true := h3
      have gm : mro = _ := hm
      subst gm g4 g3
      have es : sl = #[k0, k1, k2, k3, some (.builtin "ValueError.__new__"), k5] := by
        obtain ⟨l⟩ := sl
        have gs : l = _ := hs
        rw [gs]
      subst es
      exact ⟨nm, qn, ns, bs, bm, sn, sub, ab, col, dd, k0, k1, k2, k3, k5, look, h5⟩
    · cases h
  · cases h
theorem oexB_ok {K : PySem.W.Frag} {C : Addr} (h : oexB K C = true) : OexC K C := by
  obtain ⟨h1, h⟩ := He.ba h
  obtain ⟨h2, h⟩ := He.ba h
  obtain ⟨h3, h⟩ := He.ba h
  obtain ⟨h4, h5⟩ := He.ba h
  exact ⟨clsB_ok h1, of_decide_eq_true h2, of_decide_eq_true h3, of_decide_eq_true h4, h5⟩
theorem baseB_ok {K : PySem.W.Frag} {B : Addr} (h : baseB K B = true) : BaseC K B := by
  obtain ⟨h1, h⟩ := He.ba h
  obtain ⟨h2, h3⟩ := He.ba h
  refine ⟨h1, of_decide_eq_true h2, ?_⟩
  split at h3
  · rename_i n e
    obtain rfl : n = "ValueError.__init__" := by simpa using h3
    exact e
  · cases h3
theorem kindB_ok {K : PySem.W.Frag} (C : KindC K) (h : kindB K (KC K) = true) : KindI K := by
  obtain ⟨h1, h⟩ := He.ba h
  obtain ⟨h2, h⟩ := He.ba h
  obtain ⟨h3, h⟩ := He.ba h
  obtain ⟨h4, h5⟩ := He.ba h
  exact ⟨C, of_decide_eq_true h1, of_decide_eq_true h2, of_decide_eq_true h3, of_decide_eq_true h4, of_decide_eq_true h5⟩
/-- the Hook with a further question, over the statics besides -/
abbrev AlX : Type := AlK × Bool
def frX (n : Nat) (g : Addr → Option Obj) : PySem.W.Frag := He.frG g (cStatics :: He.asD g n)
def obX (n : Nat) (fa : List He.Fa) (fn : List He.DefD) (pr : List Pr) (ex : PySem.W.Frag → Bool) (g : Addr → Option Obj) : AlX := (obK fa fn pr (frX n g), ex (frX n g))
def hookX (n : Nat) (fa : List He.Fa) (fn : List He.DefD) (pr : List Pr) (ex : PySem.W.Frag → Bool) : PySem.W.Hook where
  α := AlX
  obs := fun s => obX n fa fn pr ex s.heap.get?
  val := fun _ => (vaK fn pr, true)
  says := fun _ h => ∃ K : PySem.W.Frag, K.In h ∧ Says fa fn pr K ∧ ex K = true
  of := fun _ _ e => ⟨_, He.frG_in, congrArg (fun z : AlX => z.1) e, congrArg (fun z : AlX => z.2) e⟩
  keeps := fun _ _ _ ⟨K, hK, c⟩ k => ⟨K, PySem.W.Frag.In.keeps hK k, c⟩
theorem obX_eq {n : Nat} {fa : List He.Fa} {fn : List He.DefD} {pr : List Pr} {ex : PySem.W.Frag → Bool} {g : Addr → Option Obj} {s : Shared} (h : ∀ a, g a = s.heap.get? a) : obX n fa fn pr ex g = (hookX n fa fn pr ex).obs s := by
  have e : g = s.heap.get? := funext h
  rw [e] <;> rfl
/-- a def that lets nothing out -/
theorem calmFn {P : Program} {w : World} {K : PySem.W.Frag} {mg : Str → Option Value} {base : Heap} {k : Nat} {f : Addr} {fd : FuncData} {ps : List Str} {sp : Sp} (F : FnOk P w K mg base (L2.CX P w) k f fd ps sp) (h : ∀ vs H Q E, sp vs H Q E → sp vs H Q E0) : FnOk P w K mg base CX0 k f fd ps sp := by
  refine ⟨F.len, fun A outer s H args us vs Q E hr e0 hb r hs => codeAny_mono (F.run A outer s H args us vs Q E0 hr e0 hb r (h _ _ _ _ hs)) fun r s' q => ?_⟩
  cases r with
  | error e =>
    obtain ⟨_, _, _, _, _, _, _, _, _, _, _, _, z⟩ := q
    exact z.elim
  | ok fl =>
    cases fl with
    | ret u => exact q
    | next => exact False.elim q
    | brk => exact False.elim q
    | cont => exact False.elim q
end Kb

set_option Elab.async false
set_option linter.all false
set_option maxRecDepth 100000
set_option maxHeartbeats 1000000
namespace Kb
open PySem PySem.Spec PyProof.Rows L2 L2H
abbrev Binds := @L2.Binds
theorem huH {k : Nat} {A : Around} (r : RoomH k A) : A.units + 64 < cLine := by have := r.un; omega
theorem huH1 {k : Nat} {A : Around} (r : RoomH k A) : A.units + 1 < cLine := by have := r.un; omega
def topS (i : Nat) : Stmt := PySem.Challenge.pw_onwardasks_k01_kind_told.main.body.getD i (.Pass ⟨0, 0, 0, 0⟩)
abbrev FnP (K : PySem.W.Frag) (x qual : Str) (st : Stmt) (f : Addr) (fd : FuncData) : Prop := FunD K x qual (defArgs st) (defBody st) (defScope st) [] [] f fd
abbrev s_Kind_eq : Stmt := inClass (topS 27) 9
abbrev N_Kind_eq : List Str := ["self", "other"]
theorem sc_Kind_eq : FnScope N_Kind_eq ["self", "other"] (defScope s_Kind_eq) := ⟨rfl, rfl, rfl, by decide +kernel, rfl, by decide +kernel, by decide +kernel⟩
abbrev s_is_flag : Stmt := topS 9
abbrev N_is_flag : List Str := ["x"]
theorem sc_is_flag : FnScope N_is_flag ["x"] (defScope s_is_flag) := ⟨rfl, rfl, rfl, by decide +kernel, rfl, by decide +kernel, by decide +kernel⟩
abbrev s_is_link : Stmt := topS 19
abbrev N_is_link : List Str := ["link", "links"]
theorem sc_is_link : FnScope N_is_link ["link", "links"] (defScope s_is_link) := ⟨rfl, rfl, rfl, by decide +kernel, rfl, by decide +kernel, by decide +kernel⟩
abbrev s_is_name : Stmt := topS 7
abbrev N_is_name : List Str := ["x", "letter"]
theorem sc_is_name : FnScope N_is_name ["x"] (defScope s_is_name) := ⟨rfl, rfl, rfl, by decide +kernel, rfl, by decide +kernel, by decide +kernel⟩
abbrev s_is_name_or_empty : Stmt := topS 8
abbrev N_is_name_or_empty : List Str := ["x"]
theorem sc_is_name_or_empty : FnScope N_is_name_or_empty ["x"] (defScope s_is_name_or_empty) := ⟨rfl, rfl, rfl, by decide +kernel, rfl, by decide +kernel, by decide +kernel⟩
abbrev s_is_manner : Stmt := topS 20
abbrev N_is_manner : List Str := ["manner"]
theorem sc_is_manner : FnScope N_is_manner ["manner"] (defScope s_is_manner) := ⟨rfl, rfl, rfl, by decide +kernel, rfl, by decide +kernel, by decide +kernel⟩
abbrev s_is_send : Stmt := topS 22
abbrev N_is_send : List Str := ["rest", "links", "link", "under", "manner", "wraps"]
theorem sc_is_send : FnScope N_is_send ["rest", "links"] (defScope s_is_send) := ⟨rfl, rfl, rfl, by decide +kernel, rfl, by decide +kernel, by decide +kernel⟩
abbrev s_is_list : Stmt := topS 10
abbrev N_is_list : List Str := ["x"]
theorem sc_is_list : FnScope N_is_list ["x"] (defScope s_is_list) := ⟨rfl, rfl, rfl, by decide +kernel, rfl, by decide +kernel, by decide +kernel⟩
abbrev s_is_name_list : Stmt := topS 18
abbrev N_is_name_list : List Str := ["names", "name"]
theorem sc_is_name_list : FnScope N_is_name_list ["names"] (defScope s_is_name_list) := ⟨rfl, rfl, rfl, by decide +kernel, rfl, by decide +kernel, by decide +kernel⟩
abbrev s_is_rule : Stmt := topS 23
abbrev N_is_rule : List Str := ["rule", "links", "form", "rest"]
theorem sc_is_rule : FnScope N_is_rule ["rule", "links"] (defScope s_is_rule) := ⟨rfl, rfl, rfl, by decide +kernel, rfl, by decide +kernel, by decide +kernel⟩
abbrev s_copied_rules : Stmt := topS 26
abbrev N_copied_rules : List Str := ["rules", "links", "rule"]
theorem sc_copied_rules : FnScope N_copied_rules ["rules", "links"] (defScope s_copied_rules) := ⟨rfl, rfl, rfl, by decide +kernel, rfl, by decide +kernel, by decide +kernel⟩
abbrev s_is_own_answer : Stmt := topS 21
abbrev N_is_own_answer : List Str := ["answer", "links", "form"]
theorem sc_is_own_answer : FnScope N_is_own_answer ["answer", "links"] (defScope s_is_own_answer) := ⟨rfl, rfl, rfl, by decide +kernel, rfl, by decide +kernel, by decide +kernel⟩
abbrev s_copied_own : Stmt := topS 25
abbrev N_copied_own : List Str := ["own", "links", "name", "answer"]
theorem sc_copied_own : FnScope N_copied_own ["own", "links"] (defScope s_copied_own) := ⟨rfl, rfl, rfl, by decide +kernel, rfl, by decide +kernel, by decide +kernel⟩
abbrev s_is_choice_list : Stmt := topS 17
abbrev N_is_choice_list : List Str := ["choices", "choice"]
theorem sc_is_choice_list : FnScope N_is_choice_list ["choices"] (defScope s_is_choice_list) := ⟨rfl, rfl, rfl, by decide +kernel, rfl, by decide +kernel, by decide +kernel⟩
abbrev s_copied_links : Stmt := topS 24
abbrev N_copied_links : List Str := ["links", "link", "choices"]
theorem sc_copied_links : FnScope N_copied_links ["links"] (defScope s_copied_links) := ⟨rfl, rfl, rfl, by decide +kernel, rfl, by decide +kernel, by decide +kernel⟩
abbrev s_Kind_init : Stmt := inClass (topS 27) 0
abbrev N_Kind_init : List Str := ["self", "name", "links", "own", "rules", "hidden"]
theorem sc_Kind_init : FnScope N_Kind_init ["self", "name", "links", "own", "rules", "hidden"] (defScope s_Kind_init) := ⟨rfl, rfl, rfl, by decide +kernel, rfl, by decide +kernel, by decide +kernel⟩
abbrev s_l_kind : Stmt := topS 42
abbrev N_l_kind : List Str := ["_law_kind_here"]
theorem sc_l_kind : FnScope N_l_kind ["_law_kind_here"] (defScope s_l_kind) := ⟨rfl, rfl, rfl, by decide +kernel, rfl, by decide +kernel, by decide +kernel⟩
abbrev s_l_draw : Stmt := topS 30
abbrev N_l_draw : List Str := ["_law_state_here", "_law_many", "_law_cells", "_law_place", "_law_number", "_law_mixed"]
theorem sc_l_draw : FnScope N_l_draw ["_law_state_here", "_law_many"] (defScope s_l_draw) := ⟨rfl, rfl, rfl, by decide +kernel, rfl, by decide +kernel, by decide +kernel⟩
abbrev s_l_word : Stmt := topS 32
abbrev N_l_word : List Str := ["_law_state_here", "_law_taken", "_law_letters", "_law_size", "_law_word_here", "_law_k", "_law_other"]
theorem sc_l_word : FnScope N_l_word ["_law_state_here", "_law_taken"] (defScope s_l_word) := ⟨rfl, rfl, rfl, by decide +kernel, rfl, by decide +kernel, by decide +kernel⟩
abbrev s_l_changed : Stmt := topS 49
abbrev N_l_changed : List Str := ["_law_state_here", "_law_kind_here", "_law_part", "_law_other"]
theorem sc_l_changed : FnScope N_l_changed ["_law_state_here", "_law_kind_here"] (defScope s_l_changed) := ⟨rfl, rfl, rfl, by decide +kernel, rfl, by decide +kernel, by decide +kernel⟩
abbrev s_l_like : Stmt := topS 43
abbrev N_l_like : List Str := ["_law_told", "_law_due", "_law_k"]
theorem sc_l_like : FnScope N_l_like ["_law_told", "_law_due"] (defScope s_l_like) := ⟨rfl, rfl, rfl, by decide +kernel, rfl, by decide +kernel, by decide +kernel⟩
abbrev s_NoName_init : Stmt := inClass (topS 3) 0
abbrev N_NoName_init : List Str := ["self", "name"]
theorem sc_NoName_init : FnScope N_NoName_init ["self", "name"] (defScope s_NoName_init) := ⟨rfl, rfl, rfl, by decide +kernel, rfl, by decide +kernel, by decide +kernel⟩
abbrev s_Kind_getitem : Stmt := inClass (topS 27) 6
abbrev N_Kind_getitem : List Str := ["self", "name"]
theorem sc_Kind_getitem : FnScope N_Kind_getitem ["self", "name"] (defScope s_Kind_getitem) := ⟨rfl, rfl, rfl, by decide +kernel, rfl, by decide +kernel, by decide +kernel⟩
abbrev s_Kind_contains : Stmt := inClass (topS 27) 7
abbrev N_Kind_contains : List Str := ["self", "name"]
theorem sc_Kind_contains : FnScope N_Kind_contains ["self", "name"] (defScope s_Kind_contains) := ⟨rfl, rfl, rfl, by decide +kernel, rfl, by decide +kernel, by decide +kernel⟩
abbrev s_l_not_own : Stmt := topS 48
abbrev N_l_not_own : List Str := ["_law_told", "_law_name", "e"]
theorem sc_l_not_own : FnScope N_l_not_own ["_law_told", "_law_name"] (defScope s_l_not_own) := ⟨rfl, rfl, rfl, by decide +kernel, rfl, by decide +kernel, by decide +kernel⟩
abbrev s_Kind_name : Stmt := inClass (topS 27) 1
abbrev N_Kind_name : List Str := ["self"]
theorem sc_Kind_name : FnScope N_Kind_name ["self"] (defScope s_Kind_name) := ⟨rfl, rfl, rfl, by decide +kernel, rfl, by decide +kernel, by decide +kernel⟩
abbrev s_Kind_hidden : Stmt := inClass (topS 27) 2
abbrev N_Kind_hidden : List Str := ["self"]
theorem sc_Kind_hidden : FnScope N_Kind_hidden ["self"] (defScope s_Kind_hidden) := ⟨rfl, rfl, rfl, by decide +kernel, rfl, by decide +kernel, by decide +kernel⟩
abbrev s_Kind_links : Stmt := inClass (topS 27) 3
abbrev N_Kind_links : List Str := ["self"]
theorem sc_Kind_links : FnScope N_Kind_links ["self"] (defScope s_Kind_links) := ⟨rfl, rfl, rfl, by decide +kernel, rfl, by decide +kernel, by decide +kernel⟩
abbrev s_Kind_own : Stmt := inClass (topS 27) 4
abbrev N_Kind_own : List Str := ["self"]
theorem sc_Kind_own : FnScope N_Kind_own ["self"] (defScope s_Kind_own) := ⟨rfl, rfl, rfl, by decide +kernel, rfl, by decide +kernel, by decide +kernel⟩
abbrev s_Kind_rules : Stmt := inClass (topS 27) 5
abbrev N_Kind_rules : List Str := ["self"]
theorem sc_Kind_rules : FnScope N_Kind_rules ["self"] (defScope s_Kind_rules) := ⟨rfl, rfl, rfl, by decide +kernel, rfl, by decide +kernel, by decide +kernel⟩
abbrev s_l_tells : Stmt := topS 47
abbrev N_l_tells : List Str := ["_law_told", "_law_kind_here", "_law_parts", "_law_good", "_law_part"]
theorem sc_l_tells : FnScope N_l_tells ["_law_told", "_law_kind_here"] (defScope s_l_tells) := ⟨rfl, rfl, rfl, by decide +kernel, rfl, by decide +kernel, by decide +kernel⟩
abbrev s_l_spoil_inside : Stmt := topS 50
abbrev N_l_spoil_inside : List Str := ["_law_parts", "_law_link", "_law_name", "_law_rule_here"]
theorem sc_l_spoil_inside : FnScope N_l_spoil_inside ["_law_parts"] (defScope s_l_spoil_inside) := ⟨rfl, rfl, rfl, by decide +kernel, rfl, by decide +kernel, by decide +kernel⟩
abbrev s_l_loose : Stmt := topS 44
abbrev N_l_loose : List Str := ["_law_state_here", "_law_row"]
theorem sc_l_loose : FnScope N_l_loose ["_law_state_here", "_law_row"] (defScope s_l_loose) := ⟨rfl, rfl, rfl, by decide +kernel, rfl, by decide +kernel, by decide +kernel⟩
abbrev s_l_shuffled : Stmt := topS 35
abbrev N_l_shuffled : List Str := ["_law_state_here", "_law_row", "_law_rest", "_law_mixed", "_law_k"]
theorem sc_l_shuffled : FnScope N_l_shuffled ["_law_state_here", "_law_row"] (defScope s_l_shuffled) := ⟨rfl, rfl, rfl, by decide +kernel, rfl, by decide +kernel, by decide +kernel⟩
abbrev s_l_loose_rule : Stmt := topS 45
abbrev N_l_loose_rule : List Str := ["_law_state_here", "_law_rule_here"]
theorem sc_l_loose_rule : FnScope N_l_loose_rule ["_law_state_here", "_law_rule_here"] (defScope s_l_loose_rule) := ⟨rfl, rfl, rfl, by decide +kernel, rfl, by decide +kernel, by decide +kernel⟩
abbrev s_l_loose_parts : Stmt := topS 46
abbrev N_l_loose_parts : List Str := ["_law_state_here", "_law_kind_here", "_law_links", "_law_link", "_law_own_here", "_law_name", "_law_rule_here"]
theorem sc_l_loose_parts : FnScope N_l_loose_parts ["_law_state_here", "_law_kind_here"] (defScope s_l_loose_parts) := ⟨rfl, rfl, rfl, by decide +kernel, rfl, by decide +kernel, by decide +kernel⟩
abbrev s_l_pick : Stmt := topS 31
abbrev N_l_pick : List Str := ["_law_state_here", "_law_row"]
theorem sc_l_pick : FnScope N_l_pick ["_law_state_here", "_law_row"] (defScope s_l_pick) := ⟨rfl, rfl, rfl, by decide +kernel, rfl, by decide +kernel, by decide +kernel⟩
abbrev s_l_value : Stmt := topS 37
abbrev N_l_value : List Str := ["_law_state_here"]
theorem sc_l_value : FnScope N_l_value ["_law_state_here"] (defScope s_l_value) := ⟨rfl, rfl, rfl, by decide +kernel, rfl, by decide +kernel, by decide +kernel⟩
abbrev s_l_own : Stmt := topS 39
abbrev N_l_own : List Str := ["_law_state_here", "_law_names", "_law_links", "_law_own_here", "_law_name", "_law_sort"]
theorem sc_l_own : FnScope N_l_own ["_law_state_here", "_law_names", "_law_links"] (defScope s_l_own) := ⟨rfl, rfl, rfl, by decide +kernel, rfl, by decide +kernel, by decide +kernel⟩
abbrev s_l_some : Stmt := topS 34
abbrev N_l_some : List Str := ["_law_state_here", "_law_row", "_law_part"]
theorem sc_l_some : FnScope N_l_some ["_law_state_here", "_law_row"] (defScope s_l_some) := ⟨rfl, rfl, rfl, by decide +kernel, rfl, by decide +kernel, by decide +kernel⟩
abbrev s_l_rule : Stmt := topS 38
abbrev N_l_rule : List Str := ["_law_state_here", "_law_names", "_law_links", "_law_chosen", "_law_sort", "_law_link", "_law_manner", "_law_under"]
theorem sc_l_rule : FnScope N_l_rule ["_law_state_here", "_law_names", "_law_links"] (defScope s_l_rule) := ⟨rfl, rfl, rfl, by decide +kernel, rfl, by decide +kernel, by decide +kernel⟩
abbrev s_l_choices : Stmt := topS 36
abbrev N_l_choices : List Str := ["_law_state_here", "_law_kinds", "_law_chosen"]
theorem sc_l_choices : FnScope N_l_choices ["_law_state_here", "_law_kinds"] (defScope s_l_choices) := ⟨rfl, rfl, rfl, by decide +kernel, rfl, by decide +kernel, by decide +kernel⟩
abbrev s_l_words : Stmt := topS 33
abbrev N_l_words : List Str := ["_law_state_here", "_law_many", "_law_words_here", "_law_k"]
theorem sc_l_words : FnScope N_l_words ["_law_state_here", "_law_many"] (defScope s_l_words) := ⟨rfl, rfl, rfl, by decide +kernel, rfl, by decide +kernel, by decide +kernel⟩
abbrev s_l_doors : Stmt := topS 40
abbrev N_l_doors : List Str := ["_law_state_here", "_law_most"]
theorem sc_l_doors : FnScope N_l_doors ["_law_state_here", "_law_most"] (defScope s_l_doors) := ⟨rfl, rfl, rfl, by decide +kernel, rfl, by decide +kernel, by decide +kernel⟩
abbrev s_l_house : Stmt := topS 41
abbrev N_l_house : List Str := ["_law_state_here", "_law_kinds", "_law_links", "_law_names", "_law_rules", "_law_words_here", "_law_asked", "_law_house_here", "_law_word_here", "_law_doors_here", "_law_leads", "_law_door", "_law_listed", "_law_k"]
theorem sc_l_house : FnScope N_l_house ["_law_state_here", "_law_kinds", "_law_links", "_law_names", "_law_rules"] (defScope s_l_house) := ⟨rfl, rfl, rfl, by decide +kernel, rfl, by decide +kernel, by decide +kernel⟩
abbrev s_l_state : Stmt := topS 29
abbrev N_l_state : List Str := ["_law_script", "_law_cells", "_law_cell"]
theorem sc_l_state : FnScope N_l_state ["_law_script"] (defScope s_l_state) := ⟨rfl, rfl, rfl, by decide +kernel, rfl, by decide +kernel, by decide +kernel⟩
abbrev s_law : Stmt := topS 51
abbrev N_law : List Str := ["_law_script", "_law_state_here", "_law_house_here", "_law_kind_here", "_law_parts", "_law_told", "_law_part", "_law_name", "_law_strange", "_law_twin", "_law_other"]
theorem sc_law : FnScope N_law ["_law_script"] (defScope s_law) := ⟨rfl, rfl, rfl, by decide +kernel, rfl, by decide +kernel, by decide +kernel⟩
abbrev FnK (K : PySem.W.Frag) (x qual : Str) (st : Stmt) (f : Addr) (fd : FuncData) : Prop := FunD K x qual (defArgs st) (defBody st) (defScope st) [] [("hidden", .bl false)] f fd
theorem bK0_Kind_init {K : PySem.W.Frag} {f : Addr} {fd : FuncData} (F : FnK K "__init__" "Kind.__init__" s_Kind_init f fd) : ∃ ds, Vals [.bl false] ds ∧ Binds K fd ["self", "name", "links", "own", "rules", "hidden"] ds := F.binds0 5 (by simp) rfl (fun D doc pm an cdv ct us ks l1 l2 => by
  match us, l1, ks, l2 with
  | [_, _, _, _, _], _, [_], _ => exact ⟨_, _, _, _, _, _, rfl, rfl, rfl⟩)
theorem bK1_Kind_init {K : PySem.W.Frag} {f : Addr} {fd : FuncData} (F : FnK K "__init__" "Kind.__init__" s_Kind_init f fd) : ∃ mv : List Value, KBn K fd ["self", "name", "links", "own", "rules", "hidden"] 5 ["hidden"] (fun us ws => us ++ ws) (fun vs zs => vs ++ zs) := by
  obtain ⟨mv, h⟩ := F.kbinds0 (ps := ["self", "name", "links", "own", "rules", "hidden"]) 5 ["hidden"] [] (fun us _ ws => us ++ ws) (by simp) (by simp) (fun r1 _ r3 => r1.append r3) (fun D doc pm an cdv ct us ks ws l1 l2 l3 => by
    match us, l1, ks, l2, ws, l3 with
    | [_, _, _, _, _], _, [], _, [_], _ => rfl)
  exact ⟨mv, h⟩
/-- what the top has left -/
structure Fs (K : PySem.W.Frag) (mg : Str → Option Value) (fd : Nat → FuncData) : Prop where
  n_abs : mg "abs" = none
  n_all : mg "all" = none
  n_bool : mg "bool" = none
  n_dict : mg "dict" = none
  n_int : mg "int" = none
  n_isinstance : mg "isinstance" = none
  n_len : mg "len" = none
  n_list : mg "list" = none
  n_min : mg "min" = none
  n_range : mg "range" = none
  n_set : mg "set" = none
  n_sorted : mg "sorted" = none
  n_str : mg "str" = none
  n_tuple : mg "tuple" = none
  c_LETTERS : ∃ t, mg "LETTERS" = some (.str ("abcdefghijklmnopqrstuvwxyz" : Str) t)
  c_LONGEST_NAME : ∃ t, mg "LONGEST_NAME" = some (.int 8 t)
  c_MOST_NAMES : ∃ t, mg "MOST_NAMES" = some (.int 4 t)
  c_MOST_RULES : ∃ t, mg "MOST_RULES" = some (.int 300 t)
  c_MOST_OWN : ∃ t, mg "MOST_OWN" = some (.int 5 t)
  c_MOST_CHOICES : ∃ t, mg "MOST_CHOICES" = some (.int 4 t)
  c_MOST_LINKS : ∃ t, mg "MOST_LINKS" = some (.int 2 t)
  g_AskError : mg "AskError" = some (.ref (He.ga K "AskError"))
  g_Kind : mg "Kind" = some (.ref (He.ga K "Kind"))
  g_NoName : mg "NoName" = some (.ref (He.ga K "NoName"))
  c_Kind : Cls K (He.ga K "Kind")
  fd_Kind_eq : FnP K "__eq__" "Kind.__eq__" s_Kind_eq (He.ma K (He.ga K "Kind") "__eq__") (fd 0)
  m_Kind_eq : Meth K (He.ga K "Kind") "__eq__" (He.ma K (He.ga K "Kind") "__eq__")
  g_is_flag : mg "is_flag" = some (.ref (He.ga K "is_flag"))
  fd_is_flag : FnP K "is_flag" "is_flag" s_is_flag (He.ga K "is_flag") (fd 1)
  g_is_link : mg "is_link" = some (.ref (He.ga K "is_link"))
  fd_is_link : FnP K "is_link" "is_link" s_is_link (He.ga K "is_link") (fd 2)
  g_is_name : mg "is_name" = some (.ref (He.ga K "is_name"))
  fd_is_name : FnP K "is_name" "is_name" s_is_name (He.ga K "is_name") (fd 3)
  g_is_name_or_empty : mg "is_name_or_empty" = some (.ref (He.ga K "is_name_or_empty"))
  fd_is_name_or_empty : FnP K "is_name_or_empty" "is_name_or_empty" s_is_name_or_empty (He.ga K "is_name_or_empty") (fd 4)
  g_is_manner : mg "is_manner" = some (.ref (He.ga K "is_manner"))
  fd_is_manner : FnP K "is_manner" "is_manner" s_is_manner (He.ga K "is_manner") (fd 5)
  g_is_send : mg "is_send" = some (.ref (He.ga K "is_send"))
  fd_is_send : FnP K "is_send" "is_send" s_is_send (He.ga K "is_send") (fd 6)
  g_is_list : mg "is_list" = some (.ref (He.ga K "is_list"))
  fd_is_list : FnP K "is_list" "is_list" s_is_list (He.ga K "is_list") (fd 7)
  g_is_name_list : mg "is_name_list" = some (.ref (He.ga K "is_name_list"))
  fd_is_name_list : FnP K "is_name_list" "is_name_list" s_is_name_list (He.ga K "is_name_list") (fd 8)
  g_is_rule : mg "is_rule" = some (.ref (He.ga K "is_rule"))
  fd_is_rule : FnP K "is_rule" "is_rule" s_is_rule (He.ga K "is_rule") (fd 9)
  g_copied_rules : mg "copied_rules" = some (.ref (He.ga K "copied_rules"))
  fd_copied_rules : FnP K "copied_rules" "copied_rules" s_copied_rules (He.ga K "copied_rules") (fd 10)
  g_is_own_answer : mg "is_own_answer" = some (.ref (He.ga K "is_own_answer"))
  fd_is_own_answer : FnP K "is_own_answer" "is_own_answer" s_is_own_answer (He.ga K "is_own_answer") (fd 11)
  g_copied_own : mg "copied_own" = some (.ref (He.ga K "copied_own"))
  fd_copied_own : FnP K "copied_own" "copied_own" s_copied_own (He.ga K "copied_own") (fd 12)
  g_is_choice_list : mg "is_choice_list" = some (.ref (He.ga K "is_choice_list"))
  fd_is_choice_list : FnP K "is_choice_list" "is_choice_list" s_is_choice_list (He.ga K "is_choice_list") (fd 13)
  g_copied_links : mg "copied_links" = some (.ref (He.ga K "copied_links"))
  fd_copied_links : FnP K "copied_links" "copied_links" s_copied_links (He.ga K "copied_links") (fd 14)
  fd_Kind_init : FnK K "__init__" "Kind.__init__" s_Kind_init (He.ma K (He.ga K "Kind") "__init__") (fd 15)
  mk_Kind : Mk K (He.ga K "Kind") (He.ma K (He.ga K "Kind") "__init__")
  g_l_kind : mg "_law_kind" = some (.ref (He.ga K "_law_kind"))
  fd_l_kind : FnP K "_law_kind" "_law_kind" s_l_kind (He.ga K "_law_kind") (fd 16)
  g_l_draw : mg "_law_draw" = some (.ref (He.ga K "_law_draw"))
  fd_l_draw : FnP K "_law_draw" "_law_draw" s_l_draw (He.ga K "_law_draw") (fd 17)
  g_l_word : mg "_law_word" = some (.ref (He.ga K "_law_word"))
  fd_l_word : FnP K "_law_word" "_law_word" s_l_word (He.ga K "_law_word") (fd 18)
  g_l_changed : mg "_law_changed" = some (.ref (He.ga K "_law_changed"))
  fd_l_changed : FnP K "_law_changed" "_law_changed" s_l_changed (He.ga K "_law_changed") (fd 19)
  g_l_like : mg "_law_like" = some (.ref (He.ga K "_law_like"))
  fd_l_like : FnP K "_law_like" "_law_like" s_l_like (He.ga K "_law_like") (fd 20)
  fd_NoName_init : FnP K "__init__" "NoName.__init__" s_NoName_init (He.ma K (He.ga K "NoName") "__init__") (fd 21)
  x_NoName : OexC K (He.ga K "NoName")
  i_NoName : PySem.W.findIn K (.ref (He.ga K "NoName")) "__init__" = some (some (.ref (He.ma K (He.ga K "NoName") "__init__")))
  t_NoName : PySem.W.typeIn K (.ref (He.ma K (He.ga K "NoName") "__init__")) = some (.type "function")
  fd_Kind_getitem : FnP K "__getitem__" "Kind.__getitem__" s_Kind_getitem (He.ma K (He.ga K "Kind") "__getitem__") (fd 22)
  m_Kind_getitem : Meth K (He.ga K "Kind") "__getitem__" (He.ma K (He.ga K "Kind") "__getitem__")
  f_Kind_getitem : PySem.W.fnIn K (He.ma K (He.ga K "Kind") "__getitem__") = true
  fd_Kind_contains : FnP K "__contains__" "Kind.__contains__" s_Kind_contains (He.ma K (He.ga K "Kind") "__contains__") (fd 23)
  m_Kind_contains : Meth K (He.ga K "Kind") "__contains__" (He.ma K (He.ga K "Kind") "__contains__")
  g_l_not_own : mg "_law_not_own" = some (.ref (He.ga K "_law_not_own"))
  fd_l_not_own : FnP K "_law_not_own" "_law_not_own" s_l_not_own (He.ga K "_law_not_own") (fd 24)
  fd_Kind_name : FnP K "name" "Kind.name" s_Kind_name (gtA K "Kind" "name") (fd 25)
  p_Kind_name : PropOf K (He.ga K "Kind") "name" (prA K "Kind" "name") (gtA K "Kind" "name")
  fd_Kind_hidden : FnP K "hidden" "Kind.hidden" s_Kind_hidden (gtA K "Kind" "hidden") (fd 26)
  p_Kind_hidden : PropOf K (He.ga K "Kind") "hidden" (prA K "Kind" "hidden") (gtA K "Kind" "hidden")
  fd_Kind_links : FnP K "links" "Kind.links" s_Kind_links (He.ma K (He.ga K "Kind") "links") (fd 27)
  m_Kind_links : Meth K (He.ga K "Kind") "links" (He.ma K (He.ga K "Kind") "links")
  fd_Kind_own : FnP K "own" "Kind.own" s_Kind_own (He.ma K (He.ga K "Kind") "own") (fd 28)
  m_Kind_own : Meth K (He.ga K "Kind") "own" (He.ma K (He.ga K "Kind") "own")
  fd_Kind_rules : FnP K "rules" "Kind.rules" s_Kind_rules (He.ma K (He.ga K "Kind") "rules") (fd 29)
  m_Kind_rules : Meth K (He.ga K "Kind") "rules" (He.ma K (He.ga K "Kind") "rules")
  g_l_tells : mg "_law_tells" = some (.ref (He.ga K "_law_tells"))
  fd_l_tells : FnP K "_law_tells" "_law_tells" s_l_tells (He.ga K "_law_tells") (fd 30)
  g_l_spoil_inside : mg "_law_spoil_inside" = some (.ref (He.ga K "_law_spoil_inside"))
  fd_l_spoil_inside : FnP K "_law_spoil_inside" "_law_spoil_inside" s_l_spoil_inside (He.ga K "_law_spoil_inside") (fd 31)
  g_l_loose : mg "_law_loose" = some (.ref (He.ga K "_law_loose"))
  fd_l_loose : FnP K "_law_loose" "_law_loose" s_l_loose (He.ga K "_law_loose") (fd 32)
  g_l_shuffled : mg "_law_shuffled" = some (.ref (He.ga K "_law_shuffled"))
  fd_l_shuffled : FnP K "_law_shuffled" "_law_shuffled" s_l_shuffled (He.ga K "_law_shuffled") (fd 33)
  g_l_loose_rule : mg "_law_loose_rule" = some (.ref (He.ga K "_law_loose_rule"))
  fd_l_loose_rule : FnP K "_law_loose_rule" "_law_loose_rule" s_l_loose_rule (He.ga K "_law_loose_rule") (fd 34)
  g_l_loose_parts : mg "_law_loose_parts" = some (.ref (He.ga K "_law_loose_parts"))
  fd_l_loose_parts : FnP K "_law_loose_parts" "_law_loose_parts" s_l_loose_parts (He.ga K "_law_loose_parts") (fd 35)
  g_l_pick : mg "_law_pick" = some (.ref (He.ga K "_law_pick"))
  fd_l_pick : FnP K "_law_pick" "_law_pick" s_l_pick (He.ga K "_law_pick") (fd 36)
  g_l_value : mg "_law_value" = some (.ref (He.ga K "_law_value"))
  fd_l_value : FnP K "_law_value" "_law_value" s_l_value (He.ga K "_law_value") (fd 37)
  g_l_own : mg "_law_own" = some (.ref (He.ga K "_law_own"))
  fd_l_own : FnP K "_law_own" "_law_own" s_l_own (He.ga K "_law_own") (fd 38)
  g_l_some : mg "_law_some" = some (.ref (He.ga K "_law_some"))
  fd_l_some : FnP K "_law_some" "_law_some" s_l_some (He.ga K "_law_some") (fd 39)
  g_l_rule : mg "_law_rule" = some (.ref (He.ga K "_law_rule"))
  fd_l_rule : FnP K "_law_rule" "_law_rule" s_l_rule (He.ga K "_law_rule") (fd 40)
  g_l_choices : mg "_law_choices" = some (.ref (He.ga K "_law_choices"))
  fd_l_choices : FnP K "_law_choices" "_law_choices" s_l_choices (He.ga K "_law_choices") (fd 41)
  g_l_words : mg "_law_words" = some (.ref (He.ga K "_law_words"))
  fd_l_words : FnP K "_law_words" "_law_words" s_l_words (He.ga K "_law_words") (fd 42)
  g_l_doors : mg "_law_doors" = some (.ref (He.ga K "_law_doors"))
  fd_l_doors : FnP K "_law_doors" "_law_doors" s_l_doors (He.ga K "_law_doors") (fd 43)
  g_l_house : mg "_law_house" = some (.ref (He.ga K "_law_house"))
  fd_l_house : FnP K "_law_house" "_law_house" s_l_house (He.ga K "_law_house") (fd 44)
  g_l_state : mg "_law_state" = some (.ref (He.ga K "_law_state"))
  fd_l_state : FnP K "_law_state" "_law_state" s_l_state (He.ga K "_law_state") (fd 45)
  g_law : mg "law" = some (.ref (He.ga K "law"))
  fd_law : FnP K "law" "law" s_law (He.ga K "law") (fd 46)
  a_AskError : BaseC K (He.ga K "AskError")
  nx_NoName : NoNameX K
section
variable {P : Program} {w : World} {K : PySem.W.Frag} {mg : Str → Option Value} {base : Heap} {fd : Nat → FuncData}
theorem ok_Kind_eq (T : Fs K mg fd) : FnOk P w K mg base (L2.CX P w) 1 (He.ma K (He.ga K "Kind") "__eq__") (fd 0) ["self", "other"] (sp_Kind_eq K) := by
  refine FunD.ok T.fd_Kind_eq sc_Kind_eq (fun vs H Q E h => len_Kind_eq h) (fun cdv A outer s H vs Q E hr h => ⟨t_Kind_eq K, ?_, pure_Kind_eq vs H Q E h⟩)
  have hu := hu_of hr
  exact (pss_one (ps_ret (pe_and (pe_callB call_isi (by rfl) T.n_isinstance (by decide +kernel) (pa_cons (pv 1) (pa_cons (pe_glob rfl T.g_Kind rfl) pa_nil))) (pe_and (pe_cmpR op_eq (pe_fld (pv 0) rfl) (pe_fld (pv 1) rfl) (nomark _)) (pe_and (pe_cmpR (op_eqN hr.units) (pe_fld (pv 0) rfl) (pe_fld (pv 1) rfl) (nomark _)) (pe_and (pe_cmpR (op_eqN hr.units) (pe_fld (pv 0) rfl) (pe_fld (pv 1) rfl) (nomark _)) (pe_and (pe_cmpR (op_eqS hr.units) (pe_fld (pv 0) rfl) (pe_fld (pv 1) rfl) (nomark _)) (pe_one (pe_cmpR op_eq (pe_fld (pv 0) rfl) (pe_fld (pv 1) rfl) (nomark _))))))))))
theorem ok_is_flag (T : Fs K mg fd) : FnOk P w K mg base (L2.CX P w) 1 (He.ga K "is_flag") (fd 1) ["x"] (sp_is_flag K) := by
  refine FunD.ok T.fd_is_flag sc_is_flag (fun vs H Q E h => len_is_flag h) (fun cdv A outer s H vs Q E hr h => ⟨t_is_flag K, ?_, pure_is_flag vs H Q E h⟩)
  have hu := hu_of hr
  exact (pss_one (ps_ret (pe_or (pe_cmpR op_isBb (pv 0) pe_bl (nomark _)) (pe_one (pe_cmpR op_isBb (pv 0) pe_bl (nomark _))))))
theorem ok_is_link (T : Fs K mg fd) : FnOk P w K mg base (L2.CX P w) 1 (He.ga K "is_link") (fd 2) ["link", "links"] (sp_is_link K) := by
  refine FunD.ok T.fd_is_link sc_is_link (fun vs H Q E h => len_is_link h) (fun cdv A outer s H vs Q E hr h => ⟨t_is_link K, ?_, pure_is_link vs H Q E h⟩)
  have hu := hu_of hr
  exact (pss_one (ps_ret (pe_and (pe_callB call_isi (by rfl) T.n_isinstance (by decide +kernel) (pa_cons (pv 0) (pa_cons (pe_bltn (by rfl) T.n_str (by decide +kernel) rfl) pa_nil))) (pe_one (pe_cmp (pc_din hu (pv 0) (pv 1)))))))
theorem ok_is_name (T : Fs K mg fd) : FnOk P w K mg base (L2.CX P w) 1 (He.ga K "is_name") (fd 3) ["x"] (sp_is_name K) := by
  obtain ⟨_, c_LETTERS⟩ := T.c_LETTERS
  obtain ⟨_, c_LONGEST_NAME⟩ := T.c_LONGEST_NAME
  refine FunD.ok T.fd_is_name sc_is_name (fun vs H Q E h => len_is_name h) (fun cdv A outer s H vs Q E hr h => ⟨t_is_name K, ?_, pure_is_name vs H Q E h⟩)
  have hu := hu_of hr
  exact (pss_cons (ps_if (PW.pt (pw_or (pt_not (pt_val (pe_callB call_isi (by rfl) T.n_isinstance (by decide +kernel) (pa_cons (pv 0) (pa_cons (pe_bltn (by rfl) T.n_str (by decide +kernel) rfl) pa_nil))))) (pw_or1 (pt_not (pt_chain kLe kLe pe_int (pe_callB kLenA (by rfl) T.n_len (by decide +kernel) (pa_cons (pv 0) pa_nil)) (pe_glob rfl c_LONGEST_NAME ⟨_, rfl⟩))))))
      (pss_one (ps_ret pe_bl))
      pss_nil)
      (pss_one (ps_ret (pe_callB (cr_all rfl) (by rfl) T.n_all (by decide +kernel) (pa_cons (pe_lc (own := [("letter", 1)]) (g := gName 1) (tt := tYes) rfl sc_is_name.nd (pi_str (pv 0)) (blkOk_by (N := N_is_name) (sc := defScope s_is_name) (by decide +kernel)) (fun _ _ _ _ _ => pg_name (i := 1) sc_is_name.nd rfl (Or.inl rfl)) (fun _ _ _ _ _ => pts_nil) (fun _ _ _ _ _ => (pe_cmpR kInT (pv 1) (pe_glob rfl c_LETTERS ⟨_, rfl⟩) (by rfl)))) pa_nil)))))
theorem ok_is_name_or_empty (T : Fs K mg fd) : FnOk P w K mg base (L2.CX P w) 2 (He.ga K "is_name_or_empty") (fd 4) ["x"] (sp_is_name_or_empty K) := by
  have G_is_name := ok_is_name (P := P) (w := w) (base := base) T
  have b_is_name : Binds K (fd 3) ["x"] [] := T.fd_is_name.bindsN fun _ _ _ _ _ _ us hl => match us, hl with | [_], _ => rfl
  refine FunD.ok T.fd_is_name_or_empty sc_is_name_or_empty (fun vs H Q E h => len_is_name_or_empty h) (fun cdv A outer s H vs Q E hr h => ⟨t_is_name_or_empty K, ?_, pure_is_name_or_empty vs H Q E h⟩)
  have hu := hu_of hr
  exact (pss_one (ps_ret (pe_and (pe_callB call_isi (by rfl) T.n_isinstance (by decide +kernel) (pa_cons (pv 0) (pa_cons (pe_bltn (by rfl) T.n_str (by decide +kernel) rfl) pa_nil))) (pe_one (pe_or (pe_cmpR op_eq (pv 0) pe_str (nomark _)) (pe_one (pe_call G_is_name (hr.mono (by decide)) rfl T.g_is_name T.fd_is_name.kp b_is_name .nil passL (pa_cons (pv 0) pa_nil))))))))
theorem ok_is_manner (T : Fs K mg fd) : FnOk P w K mg base (L2.CX P w) 1 (He.ga K "is_manner") (fd 5) ["manner"] (sp_is_manner K) := by
  refine FunD.ok T.fd_is_manner sc_is_manner (fun vs H Q E h => len_is_manner h) (fun cdv A outer s H vs Q E hr h => ⟨t_is_manner K, ?_, pure_is_manner vs H Q E h⟩)
  have hu := hu_of hr
  exact (pss_one (ps_ret (pe_and (pe_callB call_isi (by rfl) T.n_isinstance (by decide +kernel) (pa_cons (pv 0) (pa_cons (pe_bltn (by rfl) T.n_str (by decide +kernel) rfl) pa_nil))) (pe_one (pe_cmpR op_in_seq (pv 0) (pe_tup (pa_cons pe_str (pa_cons pe_str pa_nil))) (by rfl))))))
theorem ok_is_send (T : Fs K mg fd) : FnOk P w K mg base (L2.CX P w) 3 (He.ga K "is_send") (fd 6) ["rest", "links"] (sp_is_send K) := by
  have G_is_link := ok_is_link (P := P) (w := w) (base := base) T
  have b_is_link : Binds K (fd 2) ["link", "links"] [] := T.fd_is_link.bindsN fun _ _ _ _ _ _ us hl => match us, hl with | [_, _], _ => rfl
  have G_is_name_or_empty := ok_is_name_or_empty (P := P) (w := w) (base := base) T
  have b_is_name_or_empty : Binds K (fd 4) ["x"] [] := T.fd_is_name_or_empty.bindsN fun _ _ _ _ _ _ us hl => match us, hl with | [_], _ => rfl
  have G_is_manner := ok_is_manner (P := P) (w := w) (base := base) T
  have b_is_manner : Binds K (fd 5) ["manner"] [] := T.fd_is_manner.bindsN fun _ _ _ _ _ _ us hl => match us, hl with | [_], _ => rfl
  have G_is_flag := ok_is_flag (P := P) (w := w) (base := base) T
  have b_is_flag : Binds K (fd 1) ["x"] [] := T.fd_is_flag.bindsN fun _ _ _ _ _ _ us hl => match us, hl with | [_], _ => rfl
  refine FunD.ok T.fd_is_send sc_is_send (fun vs H Q E h => len_is_send h) (fun cdv A outer s H vs Q E hr h => ⟨t_is_send K, ?_, pure_is_send vs H Q E h⟩)
  have hu := hu_of hr
  exact (pss_cons (ps_if (pt_cmpR op_ne (pe_callB kLenA (by rfl) T.n_len (by decide +kernel) (pa_cons (pv 0) pa_nil)) pe_int (nomark _))
      (pss_one (ps_ret pe_bl))
      pss_nil)
      (pss_cons (ps_asg (pv 0) (pg_seq (n := 4) (pgs_cons (pg_name (i := 2) sc_is_send.nd rfl (Or.inl rfl)) (pgs_cons (pg_name (i := 3) sc_is_send.nd rfl (Or.inl rfl)) (pgs_cons (pg_name (i := 4) sc_is_send.nd rfl (Or.inl rfl)) (pgs_cons (pg_name (i := 5) sc_is_send.nd rfl (Or.inl rfl)) pgs_nil))))))
      (pss_one (ps_ret (pe_and (pe_call G_is_link (hr.mono (by decide)) rfl T.g_is_link T.fd_is_link.kp b_is_link .nil passL (pa_cons (pv 2) (pa_cons (pv 1) pa_nil))) (pe_and (pe_call G_is_name_or_empty (hr.mono (by decide)) rfl T.g_is_name_or_empty T.fd_is_name_or_empty.kp b_is_name_or_empty .nil passL (pa_cons (pv 3) pa_nil)) (pe_and (pe_call G_is_manner (hr.mono (by decide)) rfl T.g_is_manner T.fd_is_manner.kp b_is_manner .nil passL (pa_cons (pv 4) pa_nil)) (pe_one (pe_call G_is_flag (hr.mono (by decide)) rfl T.g_is_flag T.fd_is_flag.kp b_is_flag .nil passL (pa_cons (pv 5) pa_nil))))))))))
theorem ok_is_list (T : Fs K mg fd) : FnOk P w K mg base (L2.CX P w) 1 (He.ga K "is_list") (fd 7) ["x"] (sp_is_list K) := by
  refine FunD.ok T.fd_is_list sc_is_list (fun vs H Q E h => len_is_list h) (fun cdv A outer s H vs Q E hr h => ⟨t_is_list K, ?_, pure_is_list vs H Q E h⟩)
  have hu := hu_of hr
  exact (pss_one (ps_ret (pe_callB call_isiT (by rfl) T.n_isinstance (by decide +kernel) (pa_cons (pv 0) (pa_cons (pe_tup (pa_cons (pe_bltn (by rfl) T.n_list (by decide +kernel) rfl) (pa_cons (pe_bltn (by rfl) T.n_tuple (by decide +kernel) rfl) pa_nil))) pa_nil)))))
theorem ok_is_name_list (T : Fs K mg fd) : FnOk P w K mg base (L2.CX P w) 2 (He.ga K "is_name_list") (fd 8) ["names"] (sp_is_name_list K) := by
  have G_is_name := ok_is_name (P := P) (w := w) (base := base) T
  have b_is_name : Binds K (fd 3) ["x"] [] := T.fd_is_name.bindsN fun _ _ _ _ _ _ us hl => match us, hl with | [_], _ => rfl
  have G_is_list := ok_is_list (P := P) (w := w) (base := base) T
  have b_is_list : Binds K (fd 7) ["x"] [] := T.fd_is_list.bindsN fun _ _ _ _ _ _ us hl => match us, hl with | [_], _ => rfl
  obtain ⟨_, c_MOST_NAMES⟩ := T.c_MOST_NAMES
  refine FunD.ok T.fd_is_name_list sc_is_name_list (fun vs H Q E h => len_is_name_list h) (fun cdv A outer s H vs Q E hr h => ⟨t_is_name_list K, ?_, pure_is_name_list vs H Q E h⟩)
  have hu := hu_of hr
  exact (pss_cons (ps_if (PW.pt (pw_or (pt_not (pt_val (pe_call G_is_list (hr.mono (by decide)) rfl T.g_is_list T.fd_is_list.kp b_is_list .nil passL (pa_cons (pv 0) pa_nil)))) (pw_or1 (pt_cmpR kGt (pe_callB kLenA (by rfl) T.n_len (by decide +kernel) (pa_cons (pv 0) pa_nil)) (pe_glob rfl c_MOST_NAMES ⟨_, rfl⟩) (nomark _)))))
      (pss_one (ps_ret pe_bl))
      pss_nil)
      (pss_one (ps_ret (pe_and (pe_callB (cr_all rfl) (by rfl) T.n_all (by decide +kernel) (pa_cons (pe_lc (own := [("name", 1)]) (g := gName 1) (tt := tYes) rfl sc_is_name_list.nd (pi_seqVar (pv 0)) (blkOk_by (N := N_is_name_list) (sc := defScope s_is_name_list) (by decide +kernel)) (fun _ _ _ _ _ => pg_name (i := 1) sc_is_name_list.nd rfl (Or.inl rfl)) (fun _ _ _ _ _ => pts_nil) (fun _ _ _ _ _ => (pe_call G_is_name (hr.mono (by decide)) rfl T.g_is_name T.fd_is_name.kp b_is_name .nil passL (pa_cons (pv 1) pa_nil)))) pa_nil)) (pe_one (pe_cmpR op_eq (pe_lenUni rfl T.n_len rfl T.n_set (pv 0)) (pe_callB kLenA (by rfl) T.n_len (by decide +kernel) (pa_cons (pv 0) pa_nil)) (nomark _)))))))
theorem ok_is_rule (T : Fs K mg fd) : FnOk P w K mg base (L2.CX P w) 4 (He.ga K "is_rule") (fd 9) ["rule", "links"] (sp_is_rule K) := by
  have G_is_send := ok_is_send (P := P) (w := w) (base := base) T
  have b_is_send : Binds K (fd 6) ["rest", "links"] [] := T.fd_is_send.bindsN fun _ _ _ _ _ _ us hl => match us, hl with | [_, _], _ => rfl
  have G_is_link := ok_is_link (P := P) (w := w) (base := base) T
  have b_is_link : Binds K (fd 2) ["link", "links"] [] := T.fd_is_link.bindsN fun _ _ _ _ _ _ us hl => match us, hl with | [_, _], _ => rfl
  have G_is_manner := ok_is_manner (P := P) (w := w) (base := base) T
  have b_is_manner : Binds K (fd 5) ["manner"] [] := T.fd_is_manner.bindsN fun _ _ _ _ _ _ us hl => match us, hl with | [_], _ => rfl
  have G_is_name := ok_is_name (P := P) (w := w) (base := base) T
  have b_is_name : Binds K (fd 3) ["x"] [] := T.fd_is_name.bindsN fun _ _ _ _ _ _ us hl => match us, hl with | [_], _ => rfl
  have G_is_list := ok_is_list (P := P) (w := w) (base := base) T
  have b_is_list : Binds K (fd 7) ["x"] [] := T.fd_is_list.bindsN fun _ _ _ _ _ _ us hl => match us, hl with | [_], _ => rfl
  have G_is_name_list := ok_is_name_list (P := P) (w := w) (base := base) T
  have b_is_name_list : Binds K (fd 8) ["names"] [] := T.fd_is_name_list.bindsN fun _ _ _ _ _ _ us hl => match us, hl with | [_], _ => rfl
  refine FunD.ok T.fd_is_rule sc_is_rule (fun vs H Q E h => len_is_rule h) (fun cdv A outer s H vs Q E hr h => ⟨t_is_rule K, ?_, pure_is_rule vs H Q E h⟩)
  have hu := hu_of hr
  exact (pss_cons (ps_if (PW.pt (pw_or (pt_not (pt_val (pe_call G_is_list (hr.mono (by decide)) rfl T.g_is_list T.fd_is_list.kp b_is_list .nil passL (pa_cons (pv 0) pa_nil)))) (pw_or (pt_cmpR kLt (pe_callB kLenA (by rfl) T.n_len (by decide +kernel) (pa_cons (pv 0) pa_nil)) pe_int (nomark _)) (pw_or (pt_not (pt_val (pe_callB call_isi (by rfl) T.n_isinstance (by decide +kernel) (pa_cons (pe_ix ix_seq (pv 0) pe_int (fun _ _ => rfl)) (pa_cons (pe_bltn (by rfl) T.n_str (by decide +kernel) rfl) pa_nil))))) (pw_or1 (pt_not (pt_val (pe_call G_is_name_list (hr.mono (by decide)) rfl T.g_is_name_list T.fd_is_name_list.kp b_is_name_list .nil passL (pa_cons (pe_ix ix_seq (pv 0) pe_int (fun _ _ => rfl)) pa_nil)))))))))
      (pss_one (ps_ret pe_bl))
      pss_nil)
      (pss_cons (ps_set (i := 2) sc_is_rule.nd rfl (Or.inl rfl) (pe_ix ix_seq (pv 0) pe_int (fun _ _ => rfl)))
      (pss_cons (ps_set (i := 3) sc_is_rule.nd rfl (Or.inl rfl) (pe_slice (SlR.or sl_list sl_tupA) (pv 0) (po_some pe_int) po_none))
      (pss_cons (ps_if (PW.pt (pw_or (pt_cmpR op_eq (pv 2) pe_str (nomark _)) (pw_or1 (pt_cmpR op_eq (pv 2) pe_str (nomark _)))))
      (pss_one (ps_ret (pe_cmpR op_eq (pe_callB kLenA (by rfl) T.n_len (by decide +kernel) (pa_cons (pv 3) pa_nil)) pe_int (nomark _))))
      pss_nil)
      (pss_cons (ps_if (pt_cmpR op_eq (pv 2) pe_str (nomark _))
      (pss_one (ps_ret (pe_and (pe_cmpR op_eq (pe_callB kLenA (by rfl) T.n_len (by decide +kernel) (pa_cons (pv 3) pa_nil)) pe_int (nomark _)) (pe_one (pe_call G_is_name (hr.mono (by decide)) rfl T.g_is_name T.fd_is_name.kp b_is_name .nil passL (pa_cons (pe_ix ix_seq (pv 3) pe_int (fun _ _ => rfl)) pa_nil))))))
      pss_nil)
      (pss_cons (ps_if (pt_cmpR op_eq (pv 2) pe_str (nomark _))
      (pss_one (ps_ret (pe_and (pe_cmpR op_eq (pe_callB kLenA (by rfl) T.n_len (by decide +kernel) (pa_cons (pv 3) pa_nil)) pe_int (nomark _)) (pe_and (pe_call G_is_link (hr.mono (by decide)) rfl T.g_is_link T.fd_is_link.kp b_is_link .nil passL (pa_cons (pe_ix ix_seq (pv 3) pe_int (fun _ _ => rfl)) (pa_cons (pv 1) pa_nil))) (pe_one (pe_call G_is_manner (hr.mono (by decide)) rfl T.g_is_manner T.fd_is_manner.kp b_is_manner .nil passL (pa_cons (pe_ix ix_seq (pv 3) pe_int (fun _ _ => rfl)) pa_nil)))))))
      pss_nil)
      (pss_one (ps_ret (pe_and (pe_cmpR op_eq (pv 2) pe_str (nomark _)) (pe_one (pe_call G_is_send (hr.mono (by decide)) rfl T.g_is_send T.fd_is_send.kp b_is_send .nil passL (pa_cons (pv 3) (pa_cons (pv 1) pa_nil)))))))))))))
theorem ok_copied_rules (T : Fs K mg fd) : FnOk P w K mg base (L2.CX P w) 5 (He.ga K "copied_rules") (fd 10) ["rules", "links"] (sp_copied_rules K) := by
  have G_is_rule := ok_is_rule (P := P) (w := w) (base := base) T
  have b_is_rule : Binds K (fd 9) ["rule", "links"] [] := T.fd_is_rule.bindsN fun _ _ _ _ _ _ us hl => match us, hl with | [_, _], _ => rfl
  have G_is_list := ok_is_list (P := P) (w := w) (base := base) T
  have b_is_list : Binds K (fd 7) ["x"] [] := T.fd_is_list.bindsN fun _ _ _ _ _ _ us hl => match us, hl with | [_], _ => rfl
  obtain ⟨_, c_MOST_RULES⟩ := T.c_MOST_RULES
  refine FunD.ok T.fd_copied_rules sc_copied_rules (fun vs H Q E h => len_copied_rules h) (fun cdv A outer s H vs Q E hr h => ⟨t_copied_rules K, ?_, pure_copied_rules vs H Q E h⟩)
  have hu := hu_of hr
  exact (pss_cons (ps_if (PW.pt (pw_or (pt_not (pt_val (pe_call G_is_list (hr.mono (by decide)) rfl T.g_is_list T.fd_is_list.kp b_is_list .nil passL (pa_cons (pv 0) pa_nil)))) (pw_or1 (pt_cmpR kGt (pe_callB kLenA (by rfl) T.n_len (by decide +kernel) (pa_cons (pv 0) pa_nil)) (pe_glob rfl c_MOST_RULES ⟨_, rfl⟩) (nomark _)))))
      (pss_one ps_never)
      pss_nil)
      (pss_cons (ps_if (pt_not (pt_val (pe_callB (cr_all rfl) (by rfl) T.n_all (by decide +kernel) (pa_cons (pe_lc (own := [("rule", 2)]) (g := gName 2) (tt := tYes) rfl sc_copied_rules.nd (pi_seqVar (pv 0)) (blkOk_by (N := N_copied_rules) (sc := defScope s_copied_rules) (by decide +kernel)) (fun _ _ _ _ _ => pg_name (i := 2) sc_copied_rules.nd rfl (Or.inl rfl)) (fun _ _ _ _ _ => pts_nil) (fun _ _ _ _ _ => (pe_call G_is_rule (hr.mono (by decide)) rfl T.g_is_rule T.fd_is_rule.kp b_is_rule .nil passL (pa_cons (pv 2) (pa_cons (pv 1) pa_nil))))) pa_nil))))
      (pss_one ps_never)
      pss_nil)
      (pss_one (ps_ret (pe_lc (own := [("rule", 2)]) (g := gName 2) (tt := tYes) rfl sc_copied_rules.nd (pi_seqVar (pv 0)) (blkOk_by (N := N_copied_rules) (sc := defScope s_copied_rules) (by decide +kernel)) (fun _ _ _ _ _ => pg_name (i := 2) sc_copied_rules.nd rfl (Or.inl rfl)) (fun _ _ _ _ _ => pts_nil) (fun _ _ _ _ _ => (pe_op op_catT (pe_tup (pa_cons (pe_ix ix_seq (pv 2) pe_int (fun _ _ => rfl)) (pa_cons (pe_callTy kTupOf (by rfl) T.n_tuple (by decide +kernel) (pa_cons (pe_callB cr_sortedA (by rfl) T.n_sorted (by decide +kernel) (pa_cons (pe_ix ix_seq (pv 2) pe_int (fun _ _ => rfl)) pa_nil)) pa_nil)) pa_nil))) (pe_callTy kTupOf (by rfl) T.n_tuple (by decide +kernel) (pa_cons (pe_slice (SlR.or sl_list sl_tupA) (pv 2) (po_some pe_int) po_none) pa_nil)))))))))
theorem ok_is_own_answer (T : Fs K mg fd) : FnOk P w K mg base (L2.CX P w) 2 (He.ga K "is_own_answer") (fd 11) ["answer", "links"] (sp_is_own_answer K) := by
  have G_is_link := ok_is_link (P := P) (w := w) (base := base) T
  have b_is_link : Binds K (fd 2) ["link", "links"] [] := T.fd_is_link.bindsN fun _ _ _ _ _ _ us hl => match us, hl with | [_, _], _ => rfl
  have G_is_name := ok_is_name (P := P) (w := w) (base := base) T
  have b_is_name : Binds K (fd 3) ["x"] [] := T.fd_is_name.bindsN fun _ _ _ _ _ _ us hl => match us, hl with | [_], _ => rfl
  have G_is_list := ok_is_list (P := P) (w := w) (base := base) T
  have b_is_list : Binds K (fd 7) ["x"] [] := T.fd_is_list.bindsN fun _ _ _ _ _ _ us hl => match us, hl with | [_], _ => rfl
  refine FunD.ok T.fd_is_own_answer sc_is_own_answer (fun vs H Q E h => len_is_own_answer h) (fun cdv A outer s H vs Q E hr h => ⟨t_is_own_answer K, ?_, pure_is_own_answer vs H Q E h⟩)
  have hu := hu_of hr
  exact (pss_cons (ps_if (PW.pt (pw_or (pt_not (pt_val (pe_call G_is_list (hr.mono (by decide)) rfl T.g_is_list T.fd_is_list.kp b_is_list .nil passL (pa_cons (pv 0) pa_nil)))) (pw_or (pt_cmpR op_eq (pe_callB kLenA (by rfl) T.n_len (by decide +kernel) (pa_cons (pv 0) pa_nil)) pe_int (nomark _)) (pw_or1 (pt_not (pt_val (pe_callB call_isi (by rfl) T.n_isinstance (by decide +kernel) (pa_cons (pe_ix ix_seq (pv 0) pe_int (fun _ _ => rfl)) (pa_cons (pe_bltn (by rfl) T.n_str (by decide +kernel) rfl) pa_nil)))))))))
      (pss_one (ps_ret pe_bl))
      pss_nil)
      (pss_cons (ps_set (i := 2) sc_is_own_answer.nd rfl (Or.inl rfl) (pe_ix ix_seq (pv 0) pe_int (fun _ _ => rfl)))
      (pss_cons (ps_if (pt_cmpR op_eq (pv 2) pe_str (nomark _))
      (pss_one (ps_ret (pe_cmpR op_eq (pe_callB kLenA (by rfl) T.n_len (by decide +kernel) (pa_cons (pv 0) pa_nil)) pe_int (nomark _))))
      pss_nil)
      (pss_cons (ps_if (pt_cmpR op_ne (pe_callB kLenA (by rfl) T.n_len (by decide +kernel) (pa_cons (pv 0) pa_nil)) pe_int (nomark _))
      (pss_one (ps_ret pe_bl))
      pss_nil)
      (pss_cons (ps_if (pt_cmpR op_eq (pv 2) pe_str (nomark _))
      (pss_one (ps_ret (pe_call G_is_name (hr.mono (by decide)) rfl T.g_is_name T.fd_is_name.kp b_is_name .nil passL (pa_cons (pe_ix ix_seq (pv 0) pe_int (fun _ _ => rfl)) pa_nil))))
      pss_nil)
      (pss_one (ps_ret (pe_and (pe_cmpR op_eq (pv 2) pe_str (nomark _)) (pe_one (pe_call G_is_link (hr.mono (by decide)) rfl T.g_is_link T.fd_is_link.kp b_is_link .nil passL (pa_cons (pe_ix ix_seq (pv 0) pe_int (fun _ _ => rfl)) (pa_cons (pv 1) pa_nil))))))))))))
theorem ok_copied_own (T : Fs K mg fd) : FnOk P w K mg base (L2.CX P w) 3 (He.ga K "copied_own") (fd 12) ["own", "links"] (sp_copied_own K) := by
  have G_is_name := ok_is_name (P := P) (w := w) (base := base) T
  have b_is_name : Binds K (fd 3) ["x"] [] := T.fd_is_name.bindsN fun _ _ _ _ _ _ us hl => match us, hl with | [_], _ => rfl
  have G_is_own_answer := ok_is_own_answer (P := P) (w := w) (base := base) T
  have b_is_own_answer : Binds K (fd 11) ["answer", "links"] [] := T.fd_is_own_answer.bindsN fun _ _ _ _ _ _ us hl => match us, hl with | [_, _], _ => rfl
  obtain ⟨_, c_MOST_OWN⟩ := T.c_MOST_OWN
  refine FunD.ok T.fd_copied_own sc_copied_own (fun vs H Q E h => len_copied_own h) (fun cdv A outer s H vs Q E hr h => ⟨t_copied_own K, ?_, pure_copied_own vs H Q E h⟩)
  have hu := hu_of hr
  exact (pss_cons (ps_if (PW.pt (pw_or (pt_not (pt_val (pe_callB call_isi (by rfl) T.n_isinstance (by decide +kernel) (pa_cons (pv 0) (pa_cons (pe_bltn (by rfl) T.n_dict (by decide +kernel) rfl) pa_nil))))) (pw_or1 (pt_cmpR kGt (pe_callB kLenD (by rfl) T.n_len (by decide +kernel) (pa_cons (pv 0) pa_nil)) (pe_glob rfl c_MOST_OWN ⟨_, rfl⟩) (nomark _)))))
      (pss_one ps_never)
      pss_nil)
      (pss_cons (ps_lock (ps_for (passes_of rfl) rfl (pi_items (pv 0)) (pg_tup (n := 2) rfl (pgs_cons (pg_name (i := 2) sc_copied_own.nd rfl (Or.inl rfl)) (pgs_cons (pg_name (i := 3) sc_copied_own.nd rfl (Or.inl rfl)) pgs_nil)))
      (pss_one (ps_if (PW.pt (pw_or (pt_not (pt_val (pe_call G_is_name (hr.mono (by decide)) rfl T.g_is_name T.fd_is_name.kp b_is_name .nil passL (pa_cons (pv 2) pa_nil)))) (pw_or1 (pt_not (pt_val (pe_call G_is_own_answer (hr.mono (by decide)) rfl T.g_is_own_answer T.fd_is_own_answer.kp b_is_own_answer .nil passL (pa_cons (pv 3) (pa_cons (pv 1) pa_nil))))))))
      (pss_one ps_never)
      pss_nil))))
      (pss_one (ps_ret (pe_dc (own := [("name", 2)]) (g := gName 2) (tt := tYes) rfl sc_copied_own.nd (pi_list (pe_callB (kSortD rfl) (by rfl) T.n_sorted (by decide +kernel) (pa_cons (pv 0) pa_nil))) (blkOk_by (N := N_copied_own) (sc := defScope s_copied_own) (by decide +kernel)) (fun _ _ _ _ _ => pg_name (i := 2) sc_copied_own.nd rfl (Or.inl rfl)) (fun _ _ _ _ _ => pts_nil) (fun _ _ _ _ _ => (pv 2)) (fun _ _ _ _ _ => (pe_callTy kTupOf (by rfl) T.n_tuple (by decide +kernel) (pa_cons (pe_dget hu (pv 0) (pv 2) (fun _ _ => rfl)) pa_nil))))))))
theorem ok_is_choice_list (T : Fs K mg fd) : FnOk P w K mg base (L2.CX P w) 3 (He.ga K "is_choice_list") (fd 13) ["choices"] (sp_is_choice_list K) := by
  have G_is_name_or_empty := ok_is_name_or_empty (P := P) (w := w) (base := base) T
  have b_is_name_or_empty : Binds K (fd 4) ["x"] [] := T.fd_is_name_or_empty.bindsN fun _ _ _ _ _ _ us hl => match us, hl with | [_], _ => rfl
  have G_is_list := ok_is_list (P := P) (w := w) (base := base) T
  have b_is_list : Binds K (fd 7) ["x"] [] := T.fd_is_list.bindsN fun _ _ _ _ _ _ us hl => match us, hl with | [_], _ => rfl
  obtain ⟨_, c_MOST_CHOICES⟩ := T.c_MOST_CHOICES
  refine FunD.ok T.fd_is_choice_list sc_is_choice_list (fun vs H Q E h => len_is_choice_list h) (fun cdv A outer s H vs Q E hr h => ⟨t_is_choice_list K, ?_, pure_is_choice_list vs H Q E h⟩)
  have hu := hu_of hr
  exact (pss_cons (ps_if (PW.pt (pw_or (pt_not (pt_val (pe_call G_is_list (hr.mono (by decide)) rfl T.g_is_list T.fd_is_list.kp b_is_list .nil passL (pa_cons (pv 0) pa_nil)))) (pw_or1 (pt_not (pt_chain kLe kLe pe_int (pe_callB kLenA (by rfl) T.n_len (by decide +kernel) (pa_cons (pv 0) pa_nil)) (pe_glob rfl c_MOST_CHOICES ⟨_, rfl⟩))))))
      (pss_one (ps_ret pe_bl))
      pss_nil)
      (pss_one (ps_ret (pe_and (pe_callB (cr_all rfl) (by rfl) T.n_all (by decide +kernel) (pa_cons (pe_lc (own := [("choice", 1)]) (g := gName 1) (tt := tYes) rfl sc_is_choice_list.nd (pi_seqVar (pv 0)) (blkOk_by (N := N_is_choice_list) (sc := defScope s_is_choice_list) (by decide +kernel)) (fun _ _ _ _ _ => pg_name (i := 1) sc_is_choice_list.nd rfl (Or.inl rfl)) (fun _ _ _ _ _ => pts_nil) (fun _ _ _ _ _ => (pe_call G_is_name_or_empty (hr.mono (by decide)) rfl T.g_is_name_or_empty T.fd_is_name_or_empty.kp b_is_name_or_empty .nil passL (pa_cons (pv 1) pa_nil)))) pa_nil)) (pe_one (pe_cmpR op_eq (pe_lenUni rfl T.n_len rfl T.n_set (pv 0)) (pe_callB kLenA (by rfl) T.n_len (by decide +kernel) (pa_cons (pv 0) pa_nil)) (nomark _)))))))
theorem ok_copied_links (T : Fs K mg fd) : FnOk P w K mg base (L2.CX P w) 4 (He.ga K "copied_links") (fd 14) ["links"] (sp_copied_links K) := by
  have G_is_name := ok_is_name (P := P) (w := w) (base := base) T
  have b_is_name : Binds K (fd 3) ["x"] [] := T.fd_is_name.bindsN fun _ _ _ _ _ _ us hl => match us, hl with | [_], _ => rfl
  have G_is_choice_list := ok_is_choice_list (P := P) (w := w) (base := base) T
  have b_is_choice_list : Binds K (fd 13) ["choices"] [] := T.fd_is_choice_list.bindsN fun _ _ _ _ _ _ us hl => match us, hl with | [_], _ => rfl
  obtain ⟨_, c_MOST_LINKS⟩ := T.c_MOST_LINKS
  refine FunD.ok T.fd_copied_links sc_copied_links (fun vs H Q E h => len_copied_links h) (fun cdv A outer s H vs Q E hr h => ⟨t_copied_links K, ?_, pure_copied_links vs H Q E h⟩)
  have hu := hu_of hr
  exact (pss_cons (ps_if (PW.pt (pw_or (pt_not (pt_val (pe_callB call_isi (by rfl) T.n_isinstance (by decide +kernel) (pa_cons (pv 0) (pa_cons (pe_bltn (by rfl) T.n_dict (by decide +kernel) rfl) pa_nil))))) (pw_or1 (pt_cmpR kGt (pe_callB kLenD (by rfl) T.n_len (by decide +kernel) (pa_cons (pv 0) pa_nil)) (pe_glob rfl c_MOST_LINKS ⟨_, rfl⟩) (nomark _)))))
      (pss_one ps_never)
      pss_nil)
      (pss_cons (ps_lock (ps_for (passes_of rfl) rfl (pi_items (pv 0)) (pg_tup (n := 2) rfl (pgs_cons (pg_name (i := 1) sc_copied_links.nd rfl (Or.inl rfl)) (pgs_cons (pg_name (i := 2) sc_copied_links.nd rfl (Or.inl rfl)) pgs_nil)))
      (pss_one (ps_if (PW.pt (pw_or (pt_not (pt_val (pe_call G_is_name (hr.mono (by decide)) rfl T.g_is_name T.fd_is_name.kp b_is_name .nil passL (pa_cons (pv 1) pa_nil)))) (pw_or1 (pt_not (pt_val (pe_call G_is_choice_list (hr.mono (by decide)) rfl T.g_is_choice_list T.fd_is_choice_list.kp b_is_choice_list .nil passL (pa_cons (pv 2) pa_nil)))))))
      (pss_one ps_never)
      pss_nil))))
      (pss_one (ps_ret (pe_dc (own := [("link", 1)]) (g := gName 1) (tt := tYes) rfl sc_copied_links.nd (pi_list (pe_callB (kSortD rfl) (by rfl) T.n_sorted (by decide +kernel) (pa_cons (pv 0) pa_nil))) (blkOk_by (N := N_copied_links) (sc := defScope s_copied_links) (by decide +kernel)) (fun _ _ _ _ _ => pg_name (i := 1) sc_copied_links.nd rfl (Or.inl rfl)) (fun _ _ _ _ _ => pts_nil) (fun _ _ _ _ _ => (pv 1)) (fun _ _ _ _ _ => (pe_callTy kTupOf (by rfl) T.n_tuple (by decide +kernel) (pa_cons (pe_callB cr_sortedA (by rfl) T.n_sorted (by decide +kernel) (pa_cons (pe_dget hu (pv 0) (pv 1) (fun _ _ => rfl)) pa_nil)) pa_nil))))))))
theorem ok_Kind_init (T : Fs K mg fd) : FnOk P w K mg base (L2.CX P w) 6 (He.ma K (He.ga K "Kind") "__init__") (fd 15) ["self", "name", "links", "own", "rules", "hidden"] (sp_Kind_init K) := by
  have G_is_flag := ok_is_flag (P := P) (w := w) (base := base) T
  have b_is_flag : Binds K (fd 1) ["x"] [] := T.fd_is_flag.bindsN fun _ _ _ _ _ _ us hl => match us, hl with | [_], _ => rfl
  have G_copied_rules := ok_copied_rules (P := P) (w := w) (base := base) T
  have b_copied_rules : Binds K (fd 10) ["rules", "links"] [] := T.fd_copied_rules.bindsN fun _ _ _ _ _ _ us hl => match us, hl with | [_, _], _ => rfl
  have G_copied_own := ok_copied_own (P := P) (w := w) (base := base) T
  have b_copied_own : Binds K (fd 12) ["own", "links"] [] := T.fd_copied_own.bindsN fun _ _ _ _ _ _ us hl => match us, hl with | [_, _], _ => rfl
  have G_copied_links := ok_copied_links (P := P) (w := w) (base := base) T
  have b_copied_links : Binds K (fd 14) ["links"] [] := T.fd_copied_links.bindsN fun _ _ _ _ _ _ us hl => match us, hl with | [_], _ => rfl
  have G_is_name := ok_is_name (P := P) (w := w) (base := base) T
  have b_is_name : Binds K (fd 3) ["x"] [] := T.fd_is_name.bindsN fun _ _ _ _ _ _ us hl => match us, hl with | [_], _ => rfl
  refine FunD.ok T.fd_Kind_init sc_Kind_init (fun vs H Q E h => len_Kind_init h) (fun cdv A outer s H vs Q E hr h => ⟨t_Kind_init K, ?_, pure_Kind_init vs H Q E h⟩)
  have hu := hu_of hr
  exact (pss_cons (ps_if (pt_not (pt_val (pe_call G_is_name (hr.mono (by decide)) rfl T.g_is_name T.fd_is_name.kp b_is_name .nil passL (pa_cons (pv 1) pa_nil))))
      (pss_one ps_never)
      pss_nil)
      (pss_cons (ps_fld (pv 0) (pv 1) rfl)
      (pss_cons (ps_fld (pv 0) (pe_call G_copied_links (hr.mono (by decide)) rfl T.g_copied_links T.fd_copied_links.kp b_copied_links .nil passL (pa_cons (pv 2) pa_nil)) rfl)
      (pss_cons (ps_fld (pv 0) (pe_call G_copied_own (hr.mono (by decide)) rfl T.g_copied_own T.fd_copied_own.kp b_copied_own .nil passL (pa_cons (pv 3) (pa_cons (pe_fld (pv 0) rfl) pa_nil))) rfl)
      (pss_cons (ps_fld (pv 0) (pe_call G_copied_rules (hr.mono (by decide)) rfl T.g_copied_rules T.fd_copied_rules.kp b_copied_rules .nil passL (pa_cons (pv 4) (pa_cons (pe_fld (pv 0) rfl) pa_nil))) rfl)
      (pss_cons (ps_if (pt_not (pt_val (pe_call G_is_flag (hr.mono (by decide)) rfl T.g_is_flag T.fd_is_flag.kp b_is_flag .nil passL (pa_cons (pv 5) pa_nil))))
      (pss_one ps_never)
      pss_nil)
      (pss_one (ps_fld (pv 0) (pv 5) rfl))))))))
theorem ok_l_kind (T : Fs K mg fd) : FnOk P w K mg base (L2.CX P w) 8 (He.ga K "_law_kind") (fd 16) ["_law_kind_here"] (sp_l_kind K) := by
  have G_Kind_init := ok_Kind_init (P := P) (w := w) (base := base) T
  obtain ⟨_, bk_Kind_init⟩ := bK1_Kind_init T.fd_Kind_init
  obtain ⟨_, r0_Kind_init, b0_Kind_init⟩ := bK0_Kind_init T.fd_Kind_init
  refine FunD.ok T.fd_l_kind sc_l_kind (fun vs H Q E h => len_l_kind h) (fun cdv A outer s H vs Q E hr h => ⟨t_l_kind K, ?_, pure_l_kind vs H Q E h⟩)
  have hu := hu_of hr
  exact (pss_one (ps_ret (pe_makeN (x := "Kind") (n := 4) (ks := ["hidden"]) T.mk_Kind G_Kind_init (hr.mono (by decide)) rfl T.g_Kind bk_Kind_init passL (pa_cons (pe_ix ix_list (pv 0) pe_int (fun _ _ => rfl)) (pa_cons (pe_callTy kDictD (by rfl) T.n_dict (by decide +kernel) (pa_cons (pe_ix ix_list (pv 0) pe_int (fun _ _ => rfl)) pa_nil)) (pa_cons (pe_callTy kDictD (by rfl) T.n_dict (by decide +kernel) (pa_cons (pe_ix ix_list (pv 0) pe_int (fun _ _ => rfl)) pa_nil)) (pa_cons (pe_callTy kListOf (by rfl) T.n_list (by decide +kernel) (pa_cons (pe_ix ix_list (pv 0) pe_int (fun _ _ => rfl)) pa_nil)) pa_nil)))) (pk_cons (pe_ix ix_list (pv 0) pe_int (fun _ _ => rfl)) pk_nil))))
theorem ok_l_draw (T : Fs K mg fd) : FnOk P w K mg base (L2.CX P w) 1 (He.ga K "_law_draw") (fd 17) ["_law_state_here", "_law_many"] (sp_l_draw K) := by
  refine FunD.ok T.fd_l_draw sc_l_draw (fun vs H Q E h => len_l_draw h) (fun cdv A outer s H vs Q E hr h => ⟨t_l_draw K, ?_, pure_l_draw vs H Q E h⟩)
  have hu := hu_of hr
  exact (pss_cons (ps_set (i := 2) sc_l_draw.nd rfl (Or.inl rfl) (pe_ix ix_list (pv 0) pe_int (fun _ _ => rfl)))
      (pss_cons (ps_set (i := 3) sc_l_draw.nd rfl (Or.inl rfl) (pe_op kMod (pe_callTy kInt1 (by rfl) T.n_int (by decide +kernel) (pa_cons (pe_ix ix_list (pv 0) pe_int (fun _ _ => rfl)) pa_nil)) (pe_callB kLenA (by rfl) T.n_len (by decide +kernel) (pa_cons (pv 2) pa_nil))))
      (pss_cons (ps_asg (pe_op kAdd (pe_ix ix_list (pv 0) pe_int (fun _ _ => rfl)) pe_int) (pg_sub (pv 0) pe_int set_list))
      (pss_cons (ps_set (i := 4) sc_l_draw.nd rfl (Or.inl rfl) (pe_ix ix_list (pv 2) (pv 3) (fun _ _ => rfl)))
      (pss_cons (ps_if (pt_cmpR kGe (pv 4) (pe_op kPow pe_int pe_int) (nomark _))
      (pss_cons (ps_asg (pe_op kDiv (pv 4) (pv 1)) (pg_sub (pv 2) (pv 3) set_list))
      (pss_one (ps_ret (pe_op kMod (pe_callTy kInt1 (by rfl) T.n_int (by decide +kernel) (pa_cons (pv 4) pa_nil)) (pv 1)))))
      pss_nil)
      (pss_cons (ps_asg (pe_op kAdd (pe_ix ix_list (pv 0) pe_int (fun _ _ => rfl)) pe_int) (pg_sub (pv 0) pe_int set_list))
      (pss_cons (ps_set (i := 5) sc_l_draw.nd rfl (Or.inl rfl) (pe_op kMod (pe_callTy kInt1 (by rfl) T.n_int (by decide +kernel) (pa_cons (pe_op kMul (pe_op kAdd (pe_op kAdd (pv 4) (pe_op kMul pe_int (pe_ix ix_list (pv 0) pe_int (fun _ _ => rfl)))) pe_int) pe_int) pa_nil)) pe_int))
      (pss_cons (ps_set (i := 5) sc_l_draw.nd rfl (Or.inl rfl) (pe_op kMod (pe_callTy kInt1 (by rfl) T.n_int (by decide +kernel) (pa_cons (pe_op kMul (pv 5) (pe_op kAdd (pe_op kDiv (pv 5) pe_int) pe_int)) pa_nil)) pe_int))
      (pss_cons (ps_set (i := 5) sc_l_draw.nd rfl (Or.inl rfl) (pe_op kMod (pe_callTy kInt1 (by rfl) T.n_int (by decide +kernel) (pa_cons (pe_op kMul (pv 5) (pe_op kAdd (pe_op kDiv (pv 5) pe_int) pe_int)) pa_nil)) pe_int))
      (pss_one (ps_ret (pe_op kMod (pe_callTy kInt1 (by rfl) T.n_int (by decide +kernel) (pa_cons (pe_op kDiv (pv 5) pe_int) pa_nil)) (pv 1)))))))))))))
theorem ok_l_word (T : Fs K mg fd) : FnOk P w K mg base (L2.CX P w) 2 (He.ga K "_law_word") (fd 18) ["_law_state_here", "_law_taken"] (sp_l_word K) := by
  have G_l_draw := ok_l_draw (P := P) (w := w) (base := base) T
  have b_l_draw : Binds K (fd 17) ["_law_state_here", "_law_many"] [] := T.fd_l_draw.bindsN fun _ _ _ _ _ _ us hl => match us, hl with | [_, _], _ => rfl
  refine FunD.ok T.fd_l_word sc_l_word (fun vs H Q E h => len_l_word h) (fun cdv A outer s H vs Q E hr h => ⟨t_l_word K, ?_, pure_l_word vs H Q E h⟩)
  have hu := hu_of hr
  exact (pss_cons (ps_set (i := 2) sc_l_word.nd rfl (Or.inr rfl) pe_str)
      (pss_cons (ps_set (i := 3) sc_l_word.nd rfl (Or.inl rfl) (pe_ix ix_list (pe_lst (pa_cons pe_int (pa_cons pe_int (pa_cons pe_int (pa_cons pe_int (pa_cons pe_int (pa_cons pe_int (pa_cons pe_int (pa_cons pe_int (pa_cons pe_int pa_nil)))))))))) (pe_call G_l_draw (hr.mono (by decide)) rfl T.g_l_draw T.fd_l_draw.kp b_l_draw .nil passL (pa_cons (pv 0) (pa_cons pe_int pa_nil))) (fun _ _ => rfl)))
      (pss_cons (ps_set (i := 4) sc_l_word.nd rfl (Or.inl rfl) (pe_join pe_str (pe_lc (own := [("_law_k", 5)]) (g := gName 5) (tt := tYes) rfl sc_l_word.nd (pi_range1 rfl T.n_range (pa_cons (pv 3) pa_nil)) (blkOk_by (N := N_l_word) (sc := defScope s_l_word) (by decide +kernel)) (fun _ _ _ _ _ => pg_name (i := 5) sc_l_word.nd rfl (Or.inl rfl)) (fun _ _ _ _ _ => pts_nil) (fun _ _ _ _ _ => (pe_ix ix_str (pv 2) (pe_call G_l_draw (hr.mono (by decide)) rfl T.g_l_draw T.fd_l_draw.kp b_l_draw .nil passL (pa_cons (pv 0) (pa_cons pe_int pa_nil))) (fun _ _ => rfl))))))
      (pss_cons (ps_if (pt_cmpR op_in_seq (pv 4) (pv 1) (by rfl))
      (pss_one (ps_ret (pe_ix ix_list (pe_lc (own := [("_law_other", 6)]) (g := gName 6) (tt := (tTest (tOp (rIn K true) (tVar 6) (tVar 1)))) rfl sc_l_word.nd (pi_str pe_str) (blkOk_by (N := N_l_word) (sc := defScope s_l_word) (by decide +kernel)) (fun _ _ _ _ _ => pg_name (i := 6) sc_l_word.nd rfl (Or.inl rfl)) (fun _ _ _ _ _ => (pts_one (pt_cmpR op_notIn_seq (pv 6) (pv 1) (by rfl)))) (fun _ _ _ _ _ => (pv 6))) pe_int (fun _ _ => rfl))))
      pss_nil)
      (pss_one (ps_ret (pv 4)))))))
theorem ok_l_changed (T : Fs K mg fd) : FnOk P w K mg base (L2.CX P w) 3 (He.ga K "_law_changed") (fd 19) ["_law_state_here", "_law_kind_here"] (sp_l_changed K) := by
  have G_l_word := ok_l_word (P := P) (w := w) (base := base) T
  have b_l_word : Binds K (fd 18) ["_law_state_here", "_law_taken"] [] := T.fd_l_word.bindsN fun _ _ _ _ _ _ us hl => match us, hl with | [_, _], _ => rfl
  have G_l_draw := ok_l_draw (P := P) (w := w) (base := base) T
  have b_l_draw : Binds K (fd 17) ["_law_state_here", "_law_many"] [] := T.fd_l_draw.bindsN fun _ _ _ _ _ _ us hl => match us, hl with | [_, _], _ => rfl
  refine FunD.ok T.fd_l_changed sc_l_changed (fun vs H Q E h => len_l_changed h) (fun cdv A outer s H vs Q E hr h => ⟨t_l_changed K, ?_, pure_l_changed vs H Q E h⟩)
  have hu := hu_of hr
  exact (pss_cons (ps_set (i := 2) sc_l_changed.nd rfl (Or.inl rfl) (pe_call G_l_draw (hr.mono (by decide)) rfl T.g_l_draw T.fd_l_draw.kp b_l_draw .nil passL (pa_cons (pv 0) (pa_cons pe_int pa_nil))))
      (pss_cons (ps_set (i := 3) sc_l_changed.nd rfl (Or.inl rfl) (pe_lst (pa_cons (pe_ix ix_list (pv 1) pe_int (fun _ _ => rfl)) (pa_cons (pe_callTy kDictD (by rfl) T.n_dict (by decide +kernel) (pa_cons (pe_ix ix_list (pv 1) pe_int (fun _ _ => rfl)) pa_nil)) (pa_cons (pe_callTy kDictD (by rfl) T.n_dict (by decide +kernel) (pa_cons (pe_ix ix_list (pv 1) pe_int (fun _ _ => rfl)) pa_nil)) (pa_cons (pe_callTy kListOf (by rfl) T.n_list (by decide +kernel) (pa_cons (pe_ix ix_list (pv 1) pe_int (fun _ _ => rfl)) pa_nil)) (pa_cons (pe_ix ix_list (pv 1) pe_int (fun _ _ => rfl)) pa_nil)))))))
      (pss_cons (ps_if (pt_cmpR op_eq (pv 2) pe_int (nomark _))
      (pss_one (ps_asg (pe_call G_l_word (hr.mono (by decide)) rfl T.g_l_word T.fd_l_word.kp b_l_word .nil passL (pa_cons (pv 0) (pa_cons (pe_lst (pa_cons (pe_ix ix_list (pv 1) pe_int (fun _ _ => rfl)) pa_nil)) pa_nil))) (pg_sub (pv 3) pe_int set_list)))
      pss_nil)
      (pss_cons (ps_if (pt_cmpR op_eq (pv 2) pe_int (nomark _))
      (pss_cons (ps_asg (pe_disp (pps_cons (pe_call G_l_word (hr.mono (by decide)) rfl T.g_l_word T.fd_l_word.kp b_l_word .nil passL (pa_cons (pv 0) (pa_cons (pe_callTy (kListK rfl) (by rfl) T.n_list (by decide +kernel) (pa_cons (pe_ix ix_list (pv 1) pe_int (fun _ _ => rfl)) pa_nil)) pa_nil))) (pe_tup (pa_cons pe_str pa_nil)) pps_nil) rfl rfl (by simp) (by decide)) (pg_sub (pv 3) pe_int set_list))
      (pss_cons (ps_asg pe_dnewK (pg_sub (pv 3) pe_int set_list))
      (pss_one (ps_asg (pe_lst pa_nil) (pg_sub (pv 3) pe_int set_list)))))
      pss_nil)
      (pss_cons (ps_if (pt_cmpR op_eq (pv 2) pe_int (nomark _))
      (pss_one (ps_asg (pe_disp (pps_cons (pe_call G_l_word (hr.mono (by decide)) rfl T.g_l_word T.fd_l_word.kp b_l_word .nil passL (pa_cons (pv 0) (pa_cons (pe_callTy (kListK rfl) (by rfl) T.n_list (by decide +kernel) (pa_cons (pe_ix ix_list (pv 1) pe_int (fun _ _ => rfl)) pa_nil)) pa_nil))) (pe_tup (pa_cons pe_str pa_nil)) pps_nil) rfl rfl (by simp) (by decide)) (pg_sub (pv 3) pe_int set_list)))
      pss_nil)
      (pss_cons (ps_if (pt_cmpR op_eq (pv 2) pe_int (nomark _))
      (pss_one (ps_asg (pe_op op_cat (pe_ix ix_list (pv 3) pe_int (fun _ _ => rfl)) (pe_lst (pa_cons (pe_tup (pa_cons pe_str (pa_cons (pe_tup pa_nil) pa_nil))) pa_nil))) (pg_sub (pv 3) pe_int set_list)))
      pss_nil)
      (pss_cons (ps_if (pt_cmpR op_eq (pv 2) pe_int (nomark _))
      (pss_one (ps_asg (pe_not (pe_ix ix_list (pv 1) pe_int (fun _ _ => rfl))) (pg_sub (pv 3) pe_int set_list)))
      pss_nil)
      (pss_one (ps_ret (pv 3))))))))))
theorem ok_l_like (T : Fs K mg fd) : ∀ n, FnOk P w K mg base (L2.CX P w) n (He.ga K "_law_like") (fd 20) ["_law_told", "_law_due"] (sp_l_like n K)
  | 0 => ⟨fun vs H Q E h => len_l_like h, fun _ _ _ _ _ _ _ _ _ _ _ _ _ h => (no_l_like h).elim⟩
  | n + 1 => by
    have G_l_like := ok_l_like T n
    have b_l_like : Binds K (fd 20) ["_law_told", "_law_due"] [] := T.fd_l_like.bindsN fun _ _ _ _ _ _ us hl => match us, hl with | [_, _], _ => rfl
    refine FunD.ok T.fd_l_like sc_l_like (fun vs H Q E h => len_l_like h) (fun cdv A outer s H vs Q E hr h => ⟨t_l_like n K, ?_, pure_l_like n vs H Q E h⟩)
    have hu := hu_of hr
    exact (pss_cons (ps_if (pt_val (pe_callB call_isi (by rfl) T.n_isinstance (by decide +kernel) (pa_cons (pv 1) (pa_cons (pe_bltn (by rfl) T.n_dict (by decide +kernel) rfl) pa_nil))))
      (pss_cons (ps_if (PW.pt (pw_or (pt_not (pt_val (pe_callB call_isi (by rfl) T.n_isinstance (by decide +kernel) (pa_cons (pv 0) (pa_cons (pe_bltn (by rfl) T.n_dict (by decide +kernel) rfl) pa_nil))))) (pw_or1 (pt_cmpR (op_neD hr.units) (pe_callB cr_sortedS (by rfl) T.n_sorted (by decide +kernel) (pa_cons (pe_callTy (kListK rfl) (by rfl) T.n_list (by decide +kernel) (pa_cons (pv 0) pa_nil)) pa_nil)) (pe_callB cr_sortedS (by rfl) T.n_sorted (by decide +kernel) (pa_cons (pe_callTy (kListK rfl) (by rfl) T.n_list (by decide +kernel) (pa_cons (pv 1) pa_nil)) pa_nil)) (nomark _)))))
      (pss_one (ps_ret pe_bl))
      pss_nil)
      (pss_one (ps_ret (pe_cmpR (op_eqD hr.units) (pe_lock (pe_lc (own := [("_law_k", 2)]) (g := gName 2) (tt := (tNot (tB (tCall (sp_l_like n K) [] E0 (tCons (tDGet (tVar 0) (tVar 2)) (tCons (tDGet (tVar 1) (tVar 2)) tNil)))))) rfl sc_l_like.nd (pi_keys (pv 1)) (blkOk_by (N := N_l_like) (sc := defScope s_l_like) (by decide +kernel)) (fun _ _ _ _ _ => pg_name (i := 2) sc_l_like.nd rfl (Or.inl rfl)) (fun _ _ _ _ _ => (pts_one (pt_not (pt_val (pe_call G_l_like (hr.mono (by omega)) rfl T.g_l_like T.fd_l_like.kp b_l_like .nil passL (pa_cons (pe_dget hu (pv 0) (pv 2) (fun _ _ => rfl)) (pa_cons (pe_dget hu (pv 1) (pv 2) (fun _ _ => rfl)) pa_nil))))))) (fun _ _ _ _ _ => (pv 2)))) (pe_lst pa_nil) (nomark _)))))
      pss_nil)
      (pss_cons (ps_if (pt_val (pe_callB call_isiT (by rfl) T.n_isinstance (by decide +kernel) (pa_cons (pv 1) (pa_cons (pe_tup (pa_cons (pe_bltn (by rfl) T.n_list (by decide +kernel) rfl) (pa_cons (pe_bltn (by rfl) T.n_tuple (by decide +kernel) rfl) pa_nil))) pa_nil))))
      (pss_cons (ps_if (PW.pt (pw_or (pt_not (pt_val (pe_callB call_isiT (by rfl) T.n_isinstance (by decide +kernel) (pa_cons (pv 0) (pa_cons (pe_tup (pa_cons (pe_bltn (by rfl) T.n_list (by decide +kernel) rfl) (pa_cons (pe_bltn (by rfl) T.n_tuple (by decide +kernel) rfl) pa_nil))) pa_nil))))) (pw_or1 (pt_cmpR op_ne (pe_callB call_isi (by rfl) T.n_isinstance (by decide +kernel) (pa_cons (pv 0) (pa_cons (pe_bltn (by rfl) T.n_list (by decide +kernel) rfl) pa_nil))) (pe_callB call_isi (by rfl) T.n_isinstance (by decide +kernel) (pa_cons (pv 1) (pa_cons (pe_bltn (by rfl) T.n_list (by decide +kernel) rfl) pa_nil))) (nomark _)))))
      (pss_one (ps_ret pe_bl))
      pss_nil)
      (pss_cons (ps_if (pt_cmpR op_ne (pe_callB kLenA (by rfl) T.n_len (by decide +kernel) (pa_cons (pv 0) pa_nil)) (pe_callB kLenA (by rfl) T.n_len (by decide +kernel) (pa_cons (pv 1) pa_nil)) (nomark _))
      (pss_one (ps_ret pe_bl))
      pss_nil)
      (pss_one (ps_ret (pe_cmpR (op_eqD hr.units) (pe_lc (own := [("_law_k", 2)]) (g := gName 2) (tt := (tNot (tB (tCall (sp_l_like n K) [] E0 (tCons (tOp (rIx K) (tVar 0) (tVar 2)) (tCons (tOp (rIx K) (tVar 1) (tVar 2)) tNil)))))) rfl sc_l_like.nd (pi_range1 rfl T.n_range (pa_cons (pe_callB kLenA (by rfl) T.n_len (by decide +kernel) (pa_cons (pv 1) pa_nil)) pa_nil)) (blkOk_by (N := N_l_like) (sc := defScope s_l_like) (by decide +kernel)) (fun _ _ _ _ _ => pg_name (i := 2) sc_l_like.nd rfl (Or.inl rfl)) (fun _ _ _ _ _ => (pts_one (pt_not (pt_val (pe_call G_l_like (hr.mono (by omega)) rfl T.g_l_like T.fd_l_like.kp b_l_like .nil passL (pa_cons (pe_ix ix_seq (pv 0) (pv 2) (fun _ _ => rfl)) (pa_cons (pe_ix ix_seq (pv 1) (pv 2) (fun _ _ => rfl)) pa_nil))))))) (fun _ _ _ _ _ => (pv 2))) (pe_lst pa_nil) (nomark _))))))
      pss_nil)
      (pss_cons (ps_if (pt_cmpR op_ne (pe_callB call_isi (by rfl) T.n_isinstance (by decide +kernel) (pa_cons (pv 0) (pa_cons (pe_bltn (by rfl) T.n_bool (by decide +kernel) rfl) pa_nil))) (pe_callB call_isi (by rfl) T.n_isinstance (by decide +kernel) (pa_cons (pv 1) (pa_cons (pe_bltn (by rfl) T.n_bool (by decide +kernel) rfl) pa_nil))) (nomark _))
      (pss_one (ps_ret pe_bl))
      pss_nil)
      (pss_one (ps_ret (pe_and (pe_cmpR op_eq (pe_callB call_isi (by rfl) T.n_isinstance (by decide +kernel) (pa_cons (pv 0) (pa_cons (pe_bltn (by rfl) T.n_int (by decide +kernel) rfl) pa_nil))) (pe_callB call_isi (by rfl) T.n_isinstance (by decide +kernel) (pa_cons (pv 1) (pa_cons (pe_bltn (by rfl) T.n_int (by decide +kernel) rfl) pa_nil))) (nomark _)) (pe_one (pe_cmpR op_eq (pv 0) (pv 1) (nomark _)))))))))
theorem ok_NoName_init (T : Fs K mg fd) : FnOk P w K mg base (L2.CX P w) 1 (He.ma K (He.ga K "NoName") "__init__") (fd 21) ["self", "name"] (sp_NoName_init K) := by
  refine FunD.ok T.fd_NoName_init sc_NoName_init (fun vs H Q E h => len_NoName_init h) (fun cdv A outer s H vs Q E hr h => ⟨t_NoName_init K, ?_, pure_NoName_init vs H Q E h⟩)
  have hu := hu_of hr
  exact (pss_cons (ps_expr (pe_baseinit rfl T.g_AskError T.a_AskError (pa_cons (pv 0) (pa_cons pe_str pa_nil))))
      (pss_one (ps_ost (pv 0) (pv 1))))
theorem ok_Kind_getitem (T : Fs K mg fd) : FnOk P w K mg base (L2N.CX P w) 3 (He.ma K (He.ga K "Kind") "__getitem__") (fd 22) ["self", "name"] (sp_Kind_getitem K) := by
  have G_NoName_init := ok_NoName_init (P := P) (w := w) (base := base) T
  have b_NoName_init : Binds K (fd 21) ["self", "name"] [] := T.fd_NoName_init.bindsN fun _ _ _ _ _ _ us hl => match us, hl with | [_, _], _ => rfl
  refine FunD.ok T.fd_Kind_getitem sc_Kind_getitem (fun vs H Q E h => len_Kind_getitem h) (fun cdv A outer s H vs Q E hr h => ⟨t_Kind_getitem E K, ?_, pure_Kind_getitem vs H Q E h⟩)
  have hu := hu_of hr
  exact (pss_cons (ps_if (PW.pt (pw_or (pt_not (pt_val (pe_callB call_isi (by rfl) T.n_isinstance (by decide +kernel) (pa_cons (pv 1) (pa_cons (pe_bltn (by rfl) T.n_str (by decide +kernel) rfl) pa_nil))))) (pw_or1 (pt_cmp (pc_dnotin hu (pv 1) (pe_fld (pv 0) rfl))))))
      (pss_one (L2N.ps_raise rfl (L2N.takes_of rfl rfl rfl rfl) (pmk_oexN T.x_NoName T.i_NoName T.t_NoName G_NoName_init (hr.mono (by decide)) b_NoName_init passL rfl T.g_NoName (pa_cons (pv 1) pa_nil))))
      pss_nil)
      (pss_one (ps_ret (pe_dget hu (pe_fld (pv 0) rfl) (pv 1) (fun _ _ => rfl)))))
theorem ok_Kind_contains (T : Fs K mg fd) : FnOk P w K mg base (L2.CX P w) 1 (He.ma K (He.ga K "Kind") "__contains__") (fd 23) ["self", "name"] (sp_Kind_contains K) := by
  refine FunD.ok T.fd_Kind_contains sc_Kind_contains (fun vs H Q E h => len_Kind_contains h) (fun cdv A outer s H vs Q E hr h => ⟨t_Kind_contains K, ?_, pure_Kind_contains vs H Q E h⟩)
  have hu := hu_of hr
  exact (pss_one (ps_ret (pe_and (pe_callB call_isi (by rfl) T.n_isinstance (by decide +kernel) (pa_cons (pv 1) (pa_cons (pe_bltn (by rfl) T.n_str (by decide +kernel) rfl) pa_nil))) (pe_one (pe_cmp (pc_din hu (pv 1) (pe_fld (pv 0) rfl)))))))
theorem okH_l_like (T : Fs K mg fd) : ∀ n, FnH P w K mg base (L2.CX P w) n (He.ga K "_law_like") (fd 20) ["_law_told", "_law_due"] (sp_lh n K)
  | 0 => noHot fun _ _ _ _ => no_lh
  | n + 1 => by
    have G_l_like := okH_l_like T n
    have b_l_like : Binds K (fd 20) ["_law_told", "_law_due"] [] := T.fd_l_like.bindsN fun _ _ _ _ _ _ us hl => match us, hl with | [_, _], _ => rfl
    refine okHot T.fd_l_like sc_l_like (fun vs H Q E h => len_lh h) (fun cdv A outer s H vs Q E p hc hr h => ⟨t_lh n K, ?_, pure_lh n vs H Q E h⟩)
    exact (pss_cons (ps_if (pt_val (pe_callB call_isi (by rfl) T.n_isinstance (by decide +kernel) (pa_cons (pv 1) (pa_cons (pe_bltn (by rfl) T.n_dict (by decide +kernel) rfl) pa_nil))))
      pss_never
      pss_nil)
      (pss_cons (ps_if (pt_val (pe_callB call_isiT (by rfl) T.n_isinstance (by decide +kernel) (pa_cons (pv 1) (pa_cons (pe_tup (pa_cons (pe_bltn (by rfl) T.n_list (by decide +kernel) rfl) (pa_cons (pe_bltn (by rfl) T.n_tuple (by decide +kernel) rfl) pa_nil))) pa_nil))))
      (pss_cons (ps_if (PW.pt (pw_or (pt_not (pt_val (pe_callB call_isiT (by rfl) T.n_isinstance (by decide +kernel) (pa_cons (pv 0) (pa_cons (pe_tup (pa_cons (pe_bltn (by rfl) T.n_list (by decide +kernel) rfl) (pa_cons (pe_bltn (by rfl) T.n_tuple (by decide +kernel) rfl) pa_nil))) pa_nil))))) (pw_or1 (pt_cmpR op_ne (pe_callB call_isi (by rfl) T.n_isinstance (by decide +kernel) (pa_cons (pv 0) (pa_cons (pe_bltn (by rfl) T.n_list (by decide +kernel) rfl) pa_nil))) (pe_callB call_isi (by rfl) T.n_isinstance (by decide +kernel) (pa_cons (pv 1) (pa_cons (pe_bltn (by rfl) T.n_list (by decide +kernel) rfl) pa_nil))) (nomark _)))))
      (pss_one (ps_ret pe_bl))
      pss_nil)
      (pss_cons (ps_if (pt_cmpR op_ne (pe_callB kLenA (by rfl) T.n_len (by decide +kernel) (pa_cons (pv 0) pa_nil)) (pe_callB kLenA (by rfl) T.n_len (by decide +kernel) (pa_cons (pv 1) pa_nil)) (nomark _))
      (pss_one (ps_ret pe_bl))
      pss_nil)
      (pss_one (ps_ret (pe_cmpR (op_eqD (huH hr)) (pe_lcH (own := [("_law_k", 2)]) (g := gName 2) (tt := (tNot (tB (tCallS (sp_lh n K) (fun _ => E0) (tCons (tOp (rIx K) (tVar 0) (tVar 2)) (tCons (tOp (rIx K) (tVar 1) (tVar 2)) tNil)))))) hc sc_l_like.nd (pi_range1H rfl T.n_range (pa_cons (pe_callB kLenA (by rfl) T.n_len (by decide +kernel) (pa_cons (pv 1) pa_nil)) pa_nil)) (blkOk_by (N := N_l_like) (sc := defScope s_l_like) (by decide +kernel)) (fun _ _ _ _ _ _ _ => pg_name (i := 2) sc_l_like.nd rfl (Or.inl rfl)) (fun pp _ _ _ _ _ hp => (pts_one (pt_not (pt_val (pe_callH G_l_like (hr.mono (by omega)) ⟨pp, hp, List.mem_cons_self⟩ rfl T.g_l_like T.fd_l_like.kp b_l_like passH (pa_cons (pe_ix ix_seq (pv 0) (pv 2) (fun _ _ => rfl)) (pa_cons (pe_ix ix_seq (pv 1) (pv 2) (fun _ _ => rfl)) pa_nil))))))) (fun _ _ _ _ _ _ _ => (pv 2))) (pe_lst pa_nil) (nomark _))))))
      pss_nil)
      (pss_cons (ps_if (pt_cmpR op_ne (pe_callB call_isi (by rfl) T.n_isinstance (by decide +kernel) (pa_cons (pv 0) (pa_cons (pe_bltn (by rfl) T.n_bool (by decide +kernel) rfl) pa_nil))) (pe_callB call_isi (by rfl) T.n_isinstance (by decide +kernel) (pa_cons (pv 1) (pa_cons (pe_bltn (by rfl) T.n_bool (by decide +kernel) rfl) pa_nil))) (nomark _))
      (pss_one (ps_ret pe_bl))
      pss_nil)
      (pss_one (ps_ret (pe_and (pe_cmpR op_eq (pe_callB call_isi (by rfl) T.n_isinstance (by decide +kernel) (pa_cons (pv 0) (pa_cons (pe_bltn (by rfl) T.n_int (by decide +kernel) rfl) pa_nil))) (pe_callB call_isi (by rfl) T.n_isinstance (by decide +kernel) (pa_cons (pv 1) (pa_cons (pe_bltn (by rfl) T.n_int (by decide +kernel) rfl) pa_nil))) (nomark _)) (pe_one (pe_cmpR op_eq (pv 0) (pv 1) (nomark _)))))))))
theorem okH_Kind_contains (T : Fs K mg fd) : FnH P w K mg base (L2.CX P w) 1 (He.ma K (He.ga K "Kind") "__contains__") (fd 23) ["self", "name"] (sp_Kind_contains K) := by
  refine okHot T.fd_Kind_contains sc_Kind_contains (fun vs H Q E h => len_Kind_contains h) (fun cdv A outer s H vs Q E p hc hr h => ⟨t_Kind_contains K, ?_, pure_Kind_contains vs H Q E h⟩)
  have hu := huH1 hr
  exact (pss_one (ps_ret (pe_and (pe_callB call_isi (by rfl) T.n_isinstance (by decide +kernel) (pa_cons (pv 1) (pa_cons (pe_bltn (by rfl) T.n_str (by decide +kernel) rfl) pa_nil))) (pe_one (pe_cmp (pc_din hu (pv 1) (pe_fld (pv 0) rfl)))))))
theorem ok_l_not_own (T : Fs K mg fd) : FnOk P w K mg base (L2.CX P w) 7 (He.ga K "_law_not_own") (fd 24) ["_law_told", "_law_name"] (sp_l_not_own K) := by
  have G_l_like := ok_l_like (P := P) (w := w) (base := base) T 6
  have b_l_like : Binds K (fd 20) ["_law_told", "_law_due"] [] := T.fd_l_like.bindsN fun _ _ _ _ _ _ us hl => match us, hl with | [_, _], _ => rfl
  have G_Kind_getitem := ok_Kind_getitem (P := P) (w := w) (base := base) T
  have b_Kind_getitem : Binds K (fd 22) ["self", "name"] [] := T.fd_Kind_getitem.bindsN fun _ _ _ _ _ _ us hl => match us, hl with | [_, _], _ => rfl
  have G_Kind_contains := ok_Kind_contains (P := P) (w := w) (base := base) T
  have b_Kind_contains : Binds K (fd 23) ["self", "name"] [] := T.fd_Kind_contains.bindsN fun _ _ _ _ _ _ us hl => match us, hl with | [_, _], _ => rfl
  refine FunD.ok T.fd_l_not_own sc_l_not_own (fun vs H Q E h => len_l_not_own h) (fun cdv A outer s H vs Q E hr h => ⟨t_l_not_own K, ?_, pure_l_not_own vs H Q E h⟩)
  have hu := hu_of hr
  exact (pss_cons (L2N.ps_try_as (i := 2) (tb := tb_not_own K) (ts := ts_not_own K) (Wout := fun _ _ _ _ => False) rfl rfl sc_l_not_own.nd rfl rfl ⟨rfl, by decide, Or.inl T.g_NoName⟩ takesN
      (fun W pn xe tk _ => pss_one (ps_expr (by exact (pe_ixS T.m_Kind_getitem.at_ T.m_Kind_getitem.fn T.f_Kind_getitem G_Kind_getitem (hr.mono (by decide)) b_Kind_getitem (passW tk) (pv 0) (pv 1)))))
      (fun a oe cls d pn hz hf => pss_one (ps_ret (pe_and (pe_callH (okH_l_like T 3) ((roomH_mark hr _).mono (by decide)) (hotOf hz hf) rfl T.g_l_like T.fd_l_like.kp b_l_like passH (pa_cons (pe_xf T.nx_NoName.xf T.nx_NoName.nn.no hz.zc hf (pv 2)) (pa_cons (pv 1) pa_nil)))
        (pe_one (pe_not (pe_cmpR (op_inKH T.m_Kind_contains.at_ T.m_Kind_contains.fn (okH_Kind_contains T) ((roomH_mark hr _).mono (by decide)) (hotOf hz hf) b_Kind_contains passH) (pv 1) (pv 0) (by rfl))))))))
      (pss_one (ps_ret pe_bl)))
theorem ok_Kind_name (T : Fs K mg fd) : FnOk P w K mg base (L2.CX P w) 1 (gtA K "Kind" "name") (fd 25) ["self"] (sp_Kind_name K) := by
  refine FunD.ok T.fd_Kind_name sc_Kind_name (fun vs H Q E h => len_Kind_name h) (fun cdv A outer s H vs Q E hr h => ⟨t_Kind_name K, ?_, pure_Kind_name vs H Q E h⟩)
  have hu := hu_of hr
  exact (pss_one (ps_ret (pe_fld (pv 0) rfl)))
theorem ok_Kind_hidden (T : Fs K mg fd) : FnOk P w K mg base (L2.CX P w) 1 (gtA K "Kind" "hidden") (fd 26) ["self"] (sp_Kind_hidden K) := by
  refine FunD.ok T.fd_Kind_hidden sc_Kind_hidden (fun vs H Q E h => len_Kind_hidden h) (fun cdv A outer s H vs Q E hr h => ⟨t_Kind_hidden K, ?_, pure_Kind_hidden vs H Q E h⟩)
  have hu := hu_of hr
  exact (pss_one (ps_ret (pe_fld (pv 0) rfl)))
theorem ok_Kind_links (T : Fs K mg fd) : FnOk P w K mg base (L2.CX P w) 1 (He.ma K (He.ga K "Kind") "links") (fd 27) ["self"] (sp_Kind_links K) := by
  refine FunD.ok T.fd_Kind_links sc_Kind_links (fun vs H Q E h => len_Kind_links h) (fun cdv A outer s H vs Q E hr h => ⟨t_Kind_links K, ?_, pure_Kind_links vs H Q E h⟩)
  have hu := hu_of hr
  exact (pss_one (ps_ret (pe_callTy kDictD (by rfl) T.n_dict (by decide +kernel) (pa_cons (pe_fld (pv 0) rfl) pa_nil))))
theorem ok_Kind_own (T : Fs K mg fd) : FnOk P w K mg base (L2.CX P w) 1 (He.ma K (He.ga K "Kind") "own") (fd 28) ["self"] (sp_Kind_own K) := by
  refine FunD.ok T.fd_Kind_own sc_Kind_own (fun vs H Q E h => len_Kind_own h) (fun cdv A outer s H vs Q E hr h => ⟨t_Kind_own K, ?_, pure_Kind_own vs H Q E h⟩)
  have hu := hu_of hr
  exact (pss_one (ps_ret (pe_callTy kDictD (by rfl) T.n_dict (by decide +kernel) (pa_cons (pe_fld (pv 0) rfl) pa_nil))))
theorem ok_Kind_rules (T : Fs K mg fd) : FnOk P w K mg base (L2.CX P w) 1 (He.ma K (He.ga K "Kind") "rules") (fd 29) ["self"] (sp_Kind_rules K) := by
  refine FunD.ok T.fd_Kind_rules sc_Kind_rules (fun vs H Q E h => len_Kind_rules h) (fun cdv A outer s H vs Q E hr h => ⟨t_Kind_rules K, ?_, pure_Kind_rules vs H Q E h⟩)
  have hu := hu_of hr
  exact (pss_one (ps_ret (pe_callTy kListOf (by rfl) T.n_list (by decide +kernel) (pa_cons (pe_fld (pv 0) rfl) pa_nil))))
theorem ok_l_tells (T : Fs K mg fd) : FnOk P w K mg base (L2.CX P w) 7 (He.ga K "_law_tells") (fd 30) ["_law_told", "_law_kind_here"] (sp_l_tells K) := by
  have G_l_like := ok_l_like (P := P) (w := w) (base := base) T 6
  have b_l_like : Binds K (fd 20) ["_law_told", "_law_due"] [] := T.fd_l_like.bindsN fun _ _ _ _ _ _ us hl => match us, hl with | [_, _], _ => rfl
  have G_Kind_name := ok_Kind_name (P := P) (w := w) (base := base) T
  have b_Kind_name : Binds K (fd 25) ["self"] [] := T.fd_Kind_name.bindsN fun _ _ _ _ _ _ us hl => match us, hl with | [_], _ => rfl
  have G_Kind_hidden := ok_Kind_hidden (P := P) (w := w) (base := base) T
  have b_Kind_hidden : Binds K (fd 26) ["self"] [] := T.fd_Kind_hidden.bindsN fun _ _ _ _ _ _ us hl => match us, hl with | [_], _ => rfl
  have G_Kind_links := ok_Kind_links (P := P) (w := w) (base := base) T
  have b_Kind_links : Binds K (fd 27) ["self"] [] := T.fd_Kind_links.bindsN fun _ _ _ _ _ _ us hl => match us, hl with | [_], _ => rfl
  have G_Kind_own := ok_Kind_own (P := P) (w := w) (base := base) T
  have b_Kind_own : Binds K (fd 28) ["self"] [] := T.fd_Kind_own.bindsN fun _ _ _ _ _ _ us hl => match us, hl with | [_], _ => rfl
  have G_Kind_rules := ok_Kind_rules (P := P) (w := w) (base := base) T
  have b_Kind_rules : Binds K (fd 29) ["self"] [] := T.fd_Kind_rules.bindsN fun _ _ _ _ _ _ us hl => match us, hl with | [_], _ => rfl
  refine FunD.ok T.fd_l_tells sc_l_tells (fun vs H Q E h => len_l_tells h) (fun cdv A outer s H vs Q E hr h => ⟨t_l_tells K, ?_, pure_l_tells vs H Q E h⟩)
  have hu := hu_of hr
  exact (pss_cons (ps_set (i := 2) sc_l_tells.nd rfl (Or.inl rfl) (pe_lst (pa_cons (pe_prop (pv 0) T.c_Kind T.p_Kind_name G_Kind_name (hr.mono (by decide)) b_Kind_name .nil passL rfl) (pa_cons (pe_prop (pv 0) T.c_Kind T.p_Kind_hidden G_Kind_hidden (hr.mono (by decide)) b_Kind_hidden .nil passL rfl) (pa_cons (pe_meth0 (pv 0) T.c_Kind T.m_Kind_links G_Kind_links (hr.mono (by decide)) b_Kind_links .nil passL) (pa_cons (pe_meth0 (pv 0) T.c_Kind T.m_Kind_own G_Kind_own (hr.mono (by decide)) b_Kind_own .nil passL) (pa_cons (pe_meth0 (pv 0) T.c_Kind T.m_Kind_rules G_Kind_rules (hr.mono (by decide)) b_Kind_rules .nil passL) pa_nil)))))))
      (pss_cons (ps_set (i := 3) sc_l_tells.nd rfl (Or.inl rfl) (pe_call G_l_like (hr.mono (by omega)) rfl T.g_l_like T.fd_l_like.kp b_l_like .nil passL (pa_cons (pv 2) (pa_cons (pe_lst (pa_cons (pe_ix ix_list (pv 1) pe_int (fun _ _ => rfl)) (pa_cons (pe_ix ix_list (pv 1) pe_int (fun _ _ => rfl)) (pa_cons (pe_ix ix_list (pv 1) pe_int (fun _ _ => rfl)) (pa_cons (pe_ix ix_list (pv 1) pe_int (fun _ _ => rfl)) (pa_cons (pe_ix ix_list (pv 1) pe_int (fun _ _ => rfl)) pa_nil)))))) pa_nil))))
      (pss_cons (ps_for (passes_of rfl) rfl (pi_list (pe_slice sl_list (pv 2) (po_some pe_int) po_none)) (pg_name (i := 4) sc_l_tells.nd rfl (Or.inl rfl))
      (pss_one (ps_expr (pe_clrVar (pv 4)))))
      (pss_one (ps_ret (pv 3))))))
theorem ok_l_spoil_inside (T : Fs K mg fd) : FnOk P w K mg base (L2.CX P w) 1 (He.ga K "_law_spoil_inside") (fd 31) ["_law_parts"] (sp_l_spoil_inside K) := by
  refine FunD.ok T.fd_l_spoil_inside sc_l_spoil_inside (fun vs H Q E h => len_l_spoil_inside h) (fun cdv A outer s H vs Q E hr h => ⟨t_l_spoil_inside K, ?_, pure_l_spoil_inside vs H Q E h⟩)
  have hu := hu_of hr
  exact (pss_cons (ps_lock (ps_for (passes_of rfl) rfl (pi_keys (pe_ix ix_list (pv 0) pe_int (fun _ _ => rfl))) (pg_name (i := 1) sc_l_spoil_inside.nd rfl (Or.inl rfl))
      (pss_one (ps_expr (pe_bm PySem.F.plainAttrs_list PySem.F.slot_list_append PySem.F.type_list_append mt_append (pe_dget hu (pe_ix ix_list (pv 0) pe_int (fun _ _ => rfl)) (pv 1) (fun _ _ => rfl)) (pa_cons pe_str pa_nil))))))
      (pss_cons (ps_lock (ps_for (passes_of rfl) rfl (pi_keys (pe_ix ix_list (pv 0) pe_int (fun _ _ => rfl))) (pg_name (i := 2) sc_l_spoil_inside.nd rfl (Or.inl rfl))
      (pss_one (ps_if (pt_val (pe_callB call_isi (by rfl) T.n_isinstance (by decide +kernel) (pa_cons (pe_dget hu (pe_ix ix_list (pv 0) pe_int (fun _ _ => rfl)) (pv 2) (fun _ _ => rfl)) (pa_cons (pe_bltn (by rfl) T.n_list (by decide +kernel) rfl) pa_nil))))
      (pss_one (ps_expr (pe_bm PySem.F.plainAttrs_list PySem.F.slot_list_append PySem.F.type_list_append mt_append (pe_dget hu (pe_ix ix_list (pv 0) pe_int (fun _ _ => rfl)) (pv 2) (fun _ _ => rfl)) (pa_cons pe_str pa_nil))))
      pss_nil))))
      (pss_one (ps_for (passes_of rfl) rfl (pi_list (pe_ix ix_list (pv 0) pe_int (fun _ _ => rfl))) (pg_name (i := 3) sc_l_spoil_inside.nd rfl (Or.inl rfl))
      (pss_cons (ps_if (pt_val (pe_callB call_isi (by rfl) T.n_isinstance (by decide +kernel) (pa_cons (pe_ix ix_seq (pv 3) pe_int (fun _ _ => rfl)) (pa_cons (pe_bltn (by rfl) T.n_list (by decide +kernel) rfl) pa_nil))))
      (pss_one (ps_expr (pe_bm PySem.F.plainAttrs_list PySem.F.slot_list_append PySem.F.type_list_append mt_append (pe_ix ix_seq (pv 3) pe_int (fun _ _ => rfl)) (pa_cons pe_str pa_nil))))
      pss_nil)
      (pss_one (ps_if (pt_val (pe_callB call_isi (by rfl) T.n_isinstance (by decide +kernel) (pa_cons (pv 3) (pa_cons (pe_bltn (by rfl) T.n_list (by decide +kernel) rfl) pa_nil))))
      (pss_one (ps_expr (pe_bm PySem.F.plainAttrs_list PySem.F.slot_list_append PySem.F.type_list_append mt_append (pv 3) (pa_cons pe_str pa_nil))))
      pss_nil)))))))
theorem ok_l_loose (T : Fs K mg fd) : FnOk P w K mg base (L2.CX P w) 2 (He.ga K "_law_loose") (fd 32) ["_law_state_here", "_law_row"] (sp_l_loose K) := by
  have G_l_draw := ok_l_draw (P := P) (w := w) (base := base) T
  have b_l_draw : Binds K (fd 17) ["_law_state_here", "_law_many"] [] := T.fd_l_draw.bindsN fun _ _ _ _ _ _ us hl => match us, hl with | [_, _], _ => rfl
  refine FunD.ok T.fd_l_loose sc_l_loose (fun vs H Q E h => len_l_loose h) (fun cdv A outer s H vs Q E hr h => ⟨t_l_loose K, ?_, pure_l_loose vs H Q E h⟩)
  have hu := hu_of hr
  exact (pss_cons (ps_if (pt_cmpR op_eq (pe_call G_l_draw (hr.mono (by decide)) rfl T.g_l_draw T.fd_l_draw.kp b_l_draw .nil passL (pa_cons (pv 0) (pa_cons pe_int pa_nil))) pe_int (nomark _))
      (pss_one (ps_ret (pe_callTy kListOf (by rfl) T.n_list (by decide +kernel) (pa_cons (pv 1) pa_nil))))
      pss_nil)
      (pss_one (ps_ret (pe_callTy kTupOf (by rfl) T.n_tuple (by decide +kernel) (pa_cons (pv 1) pa_nil)))))
theorem ok_l_shuffled (T : Fs K mg fd) : FnOk P w K mg base (L2.CX P w) 2 (He.ga K "_law_shuffled") (fd 33) ["_law_state_here", "_law_row"] (sp_l_shuffled K) := by
  have G_l_draw := ok_l_draw (P := P) (w := w) (base := base) T
  have b_l_draw : Binds K (fd 17) ["_law_state_here", "_law_many"] [] := T.fd_l_draw.bindsN fun _ _ _ _ _ _ us hl => match us, hl with | [_, _], _ => rfl
  refine FunD.ok T.fd_l_shuffled sc_l_shuffled (fun vs H Q E h => len_l_shuffled h) (fun cdv A outer s H vs Q E hr h => ⟨t_l_shuffled K, ?_, pure_l_shuffled vs H Q E h⟩)
  have hu := hu_of hr
  exact (pss_cons (ps_set (i := 2) sc_l_shuffled.nd rfl (Or.inl rfl) (pe_callTy kListOf (by rfl) T.n_list (by decide +kernel) (pa_cons (pv 1) pa_nil)))
      (pss_cons (ps_set (i := 3) sc_l_shuffled.nd rfl (Or.inl rfl) (pe_lst pa_nil))
      (pss_cons (ps_for (passes_of rfl) rfl (pi_range1 rfl T.n_range (pa_cons (pe_callB kLenA (by rfl) T.n_len (by decide +kernel) (pa_cons (pv 1) pa_nil)) pa_nil)) (pg_name (i := 4) sc_l_shuffled.nd rfl (Or.inl rfl))
      (pss_one (ps_expr (pe_bm PySem.F.plainAttrs_list PySem.F.slot_list_append PySem.F.type_list_append mt_append (pv 3) (pa_cons (pe_bm PySem.F.plainAttrs_list PySem.F.slot_list_pop PySem.F.type_list_pop mt_popAt (pv 2) (pa_cons (pe_call G_l_draw (hr.mono (by decide)) rfl T.g_l_draw T.fd_l_draw.kp b_l_draw .nil passL (pa_cons (pv 0) (pa_cons (pe_callB kLenA (by rfl) T.n_len (by decide +kernel) (pa_cons (pv 2) pa_nil)) pa_nil))) pa_nil)) pa_nil)))))
      (pss_one (ps_ret (pv 3))))))
theorem ok_l_loose_rule (T : Fs K mg fd) : FnOk P w K mg base (L2.CX P w) 3 (He.ga K "_law_loose_rule") (fd 34) ["_law_state_here", "_law_rule_here"] (sp_l_loose_rule K) := by
  have G_l_loose := ok_l_loose (P := P) (w := w) (base := base) T
  have b_l_loose : Binds K (fd 32) ["_law_state_here", "_law_row"] [] := T.fd_l_loose.bindsN fun _ _ _ _ _ _ us hl => match us, hl with | [_, _], _ => rfl
  have G_l_shuffled := ok_l_shuffled (P := P) (w := w) (base := base) T
  have b_l_shuffled : Binds K (fd 33) ["_law_state_here", "_law_row"] [] := T.fd_l_shuffled.bindsN fun _ _ _ _ _ _ us hl => match us, hl with | [_, _], _ => rfl
  refine FunD.ok T.fd_l_loose_rule sc_l_loose_rule (fun vs H Q E h => len_l_loose_rule h) (fun cdv A outer s H vs Q E hr h => ⟨t_l_loose_rule K, ?_, pure_l_loose_rule vs H Q E h⟩)
  have hu := hu_of hr
  exact (pss_one (ps_ret (pe_call G_l_loose (hr.mono (by decide)) rfl T.g_l_loose T.fd_l_loose.kp b_l_loose .nil passL (pa_cons (pv 0) (pa_cons (pe_op op_cat (pe_lst (pa_cons (pe_ix ix_seq (pv 1) pe_int (fun _ _ => rfl)) (pa_cons (pe_call G_l_loose (hr.mono (by decide)) rfl T.g_l_loose T.fd_l_loose.kp b_l_loose .nil passL (pa_cons (pv 0) (pa_cons (pe_call G_l_shuffled (hr.mono (by decide)) rfl T.g_l_shuffled T.fd_l_shuffled.kp b_l_shuffled .nil passL (pa_cons (pv 0) (pa_cons (pe_callTy kListOf (by rfl) T.n_list (by decide +kernel) (pa_cons (pe_ix ix_seq (pv 1) pe_int (fun _ _ => rfl)) pa_nil)) pa_nil))) pa_nil))) pa_nil))) (pe_callTy kListOf (by rfl) T.n_list (by decide +kernel) (pa_cons (pe_slice (SlR.or sl_list sl_tupA) (pv 1) (po_some pe_int) po_none) pa_nil))) pa_nil)))))
theorem ok_l_loose_parts (T : Fs K mg fd) : FnOk P w K mg base (L2.CX P w) 4 (He.ga K "_law_loose_parts") (fd 35) ["_law_state_here", "_law_kind_here"] (sp_l_loose_parts K) := by
  have G_l_loose_rule := ok_l_loose_rule (P := P) (w := w) (base := base) T
  have b_l_loose_rule : Binds K (fd 34) ["_law_state_here", "_law_rule_here"] [] := T.fd_l_loose_rule.bindsN fun _ _ _ _ _ _ us hl => match us, hl with | [_, _], _ => rfl
  have G_l_shuffled := ok_l_shuffled (P := P) (w := w) (base := base) T
  have b_l_shuffled : Binds K (fd 33) ["_law_state_here", "_law_row"] [] := T.fd_l_shuffled.bindsN fun _ _ _ _ _ _ us hl => match us, hl with | [_, _], _ => rfl
  have G_l_loose := ok_l_loose (P := P) (w := w) (base := base) T
  have b_l_loose : Binds K (fd 32) ["_law_state_here", "_law_row"] [] := T.fd_l_loose.bindsN fun _ _ _ _ _ _ us hl => match us, hl with | [_, _], _ => rfl
  refine FunD.ok T.fd_l_loose_parts sc_l_loose_parts (fun vs H Q E h => len_l_loose_parts h) (fun cdv A outer s H vs Q E hr h => ⟨t_l_loose_parts K, ?_, pure_l_loose_parts vs H Q E h⟩)
  have hu := hu_of hr
  exact (pss_cons (ps_set (i := 2) sc_l_loose_parts.nd rfl (Or.inl rfl) pe_dnewK)
      (pss_cons (ps_for (passes_of rfl) rfl (pi_list (pe_call G_l_shuffled (hr.mono (by decide)) rfl T.g_l_shuffled T.fd_l_shuffled.kp b_l_shuffled .nil passL (pa_cons (pv 0) (pa_cons (pe_callTy (kListK rfl) (by rfl) T.n_list (by decide +kernel) (pa_cons (pe_ix ix_list (pv 1) pe_int (fun _ _ => rfl)) pa_nil)) pa_nil)))) (pg_name (i := 3) sc_l_loose_parts.nd rfl (Or.inl rfl))
      (pss_one (ps_dput hu (pv 2) (pv 3) (pe_call G_l_shuffled (hr.mono (by decide)) rfl T.g_l_shuffled T.fd_l_shuffled.kp b_l_shuffled .nil passL (pa_cons (pv 0) (pa_cons (pe_callTy kListOf (by rfl) T.n_list (by decide +kernel) (pa_cons (pe_dget hu (pe_ix ix_list (pv 1) pe_int (fun _ _ => rfl)) (pv 3) (fun _ _ => rfl)) pa_nil)) pa_nil))) rfl)))
      (pss_cons (ps_set (i := 4) sc_l_loose_parts.nd rfl (Or.inl rfl) pe_dnewK)
      (pss_cons (ps_for (passes_of rfl) rfl (pi_list (pe_call G_l_shuffled (hr.mono (by decide)) rfl T.g_l_shuffled T.fd_l_shuffled.kp b_l_shuffled .nil passL (pa_cons (pv 0) (pa_cons (pe_callTy (kListK rfl) (by rfl) T.n_list (by decide +kernel) (pa_cons (pe_ix ix_list (pv 1) pe_int (fun _ _ => rfl)) pa_nil)) pa_nil)))) (pg_name (i := 5) sc_l_loose_parts.nd rfl (Or.inl rfl))
      (pss_one (ps_dput hu (pv 4) (pv 5) (pe_call G_l_loose (hr.mono (by decide)) rfl T.g_l_loose T.fd_l_loose.kp b_l_loose .nil passL (pa_cons (pv 0) (pa_cons (pe_dget hu (pe_ix ix_list (pv 1) pe_int (fun _ _ => rfl)) (pv 5) (fun _ _ => rfl)) pa_nil))) rfl)))
      (pss_one (ps_ret (pe_lst (pa_cons (pv 2) (pa_cons (pv 4) (pa_cons (pe_lc (own := [("_law_rule_here", 6)]) (g := gName 6) (tt := tYes) rfl sc_l_loose_parts.nd (pi_list (pe_ix ix_list (pv 1) pe_int (fun _ _ => rfl))) (blkOk_by (N := N_l_loose_parts) (sc := defScope s_l_loose_parts) (by decide +kernel)) (fun _ _ _ _ _ => pg_name (i := 6) sc_l_loose_parts.nd rfl (Or.inl rfl)) (fun _ _ _ _ _ => pts_nil) (fun _ _ _ _ _ => (pe_call G_l_loose_rule (hr.mono (by decide)) rfl T.g_l_loose_rule T.fd_l_loose_rule.kp b_l_loose_rule .nil passL (pa_cons (pv 0) (pa_cons (pv 6) pa_nil))))) pa_nil))))))))))
theorem ok_l_pick (T : Fs K mg fd) : FnOk P w K mg base (L2.CX P w) 2 (He.ga K "_law_pick") (fd 36) ["_law_state_here", "_law_row"] (sp_l_pick K) := by
  have G_l_draw := ok_l_draw (P := P) (w := w) (base := base) T
  have b_l_draw : Binds K (fd 17) ["_law_state_here", "_law_many"] [] := T.fd_l_draw.bindsN fun _ _ _ _ _ _ us hl => match us, hl with | [_, _], _ => rfl
  refine FunD.ok T.fd_l_pick sc_l_pick (fun vs H Q E h => len_l_pick h) (fun cdv A outer s H vs Q E hr h => ⟨t_l_pick K, ?_, pure_l_pick vs H Q E h⟩)
  have hu := hu_of hr
  exact (pss_one (ps_ret (pe_ix ix_list (pv 1) (pe_call G_l_draw (hr.mono (by decide)) rfl T.g_l_draw T.fd_l_draw.kp b_l_draw .nil passL (pa_cons (pv 0) (pa_cons (pe_callB kLenA (by rfl) T.n_len (by decide +kernel) (pa_cons (pv 1) pa_nil)) pa_nil))) (fun _ _ => rfl))))
theorem ok_l_value (T : Fs K mg fd) : FnOk P w K mg base (L2.CX P w) 3 (He.ga K "_law_value") (fd 37) ["_law_state_here"] (sp_l_value K) := by
  have G_l_pick := ok_l_pick (P := P) (w := w) (base := base) T
  have b_l_pick : Binds K (fd 36) ["_law_state_here", "_law_row"] [] := T.fd_l_pick.bindsN fun _ _ _ _ _ _ us hl => match us, hl with | [_, _], _ => rfl
  have G_l_draw := ok_l_draw (P := P) (w := w) (base := base) T
  have b_l_draw : Binds K (fd 17) ["_law_state_here", "_law_many"] [] := T.fd_l_draw.bindsN fun _ _ _ _ _ _ us hl => match us, hl with | [_, _], _ => rfl
  have G_l_word := ok_l_word (P := P) (w := w) (base := base) T
  have b_l_word : Binds K (fd 18) ["_law_state_here", "_law_taken"] [] := T.fd_l_word.bindsN fun _ _ _ _ _ _ us hl => match us, hl with | [_, _], _ => rfl
  refine FunD.ok T.fd_l_value sc_l_value (fun vs H Q E h => len_l_value h) (fun cdv A outer s H vs Q E hr h => ⟨t_l_value K, ?_, pure_l_value vs H Q E h⟩)
  have hu := hu_of hr
  exact (pss_cons (ps_if (pt_cmpR op_eq (pe_call G_l_draw (hr.mono (by decide)) rfl T.g_l_draw T.fd_l_draw.kp b_l_draw .nil passL (pa_cons (pv 0) (pa_cons pe_int pa_nil))) pe_int (nomark _))
      (pss_one (ps_ret (pe_call G_l_word (hr.mono (by decide)) rfl T.g_l_word T.fd_l_word.kp b_l_word .nil passL (pa_cons (pv 0) (pa_cons (pe_lst pa_nil) pa_nil)))))
      pss_nil)
      (pss_one (ps_ret (pe_call G_l_pick (hr.mono (by decide)) rfl T.g_l_pick T.fd_l_pick.kp b_l_pick .nil passL (pa_cons (pv 0) (pa_cons (pe_lst (pa_cons pe_str (pa_cons pe_str pa_nil))) pa_nil))))))
theorem ok_l_own (T : Fs K mg fd) : FnOk P w K mg base (L2.CX P w) 4 (He.ga K "_law_own") (fd 38) ["_law_state_here", "_law_names", "_law_links"] (sp_l_own K) := by
  have G_l_pick := ok_l_pick (P := P) (w := w) (base := base) T
  have b_l_pick : Binds K (fd 36) ["_law_state_here", "_law_row"] [] := T.fd_l_pick.bindsN fun _ _ _ _ _ _ us hl => match us, hl with | [_, _], _ => rfl
  have G_l_value := ok_l_value (P := P) (w := w) (base := base) T
  have b_l_value : Binds K (fd 37) ["_law_state_here"] [] := T.fd_l_value.bindsN fun _ _ _ _ _ _ us hl => match us, hl with | [_], _ => rfl
  have G_l_draw := ok_l_draw (P := P) (w := w) (base := base) T
  have b_l_draw : Binds K (fd 17) ["_law_state_here", "_law_many"] [] := T.fd_l_draw.bindsN fun _ _ _ _ _ _ us hl => match us, hl with | [_, _], _ => rfl
  refine FunD.ok T.fd_l_own sc_l_own (fun vs H Q E h => len_l_own h) (fun cdv A outer s H vs Q E hr h => ⟨t_l_own K, ?_, pure_l_own vs H Q E h⟩)
  have hu := hu_of hr
  exact (pss_cons (ps_set (i := 3) sc_l_own.nd rfl (Or.inl rfl) pe_dnewK)
      (pss_cons (ps_for (passes_of rfl) rfl (pi_list (pe_slice sl_list (pv 1) po_none (po_some pe_int))) (pg_name (i := 4) sc_l_own.nd rfl (Or.inl rfl))
      (pss_cons (ps_set (i := 5) sc_l_own.nd rfl (Or.inl rfl) (pe_call G_l_draw (hr.mono (by decide)) rfl T.g_l_draw T.fd_l_draw.kp b_l_draw .nil passL (pa_cons (pv 0) (pa_cons pe_int pa_nil))))
      (C8.pss_cut (ps_if (pt_cmpR op_eq (pv 5) pe_int (nomark _))
      (pss_one (ps_dput hu (pv 3) (pv 4) (pe_tup (pa_cons pe_str (pa_cons (pe_call G_l_value (hr.mono (by decide)) rfl T.g_l_value T.fd_l_value.kp b_l_value .nil passL (pa_cons (pv 0) pa_nil)) pa_nil))) rfl))
      pss_nil)
      (C8.pss_cut (ps_if (pt_cmpR op_eq (pv 5) pe_int (nomark _))
      (pss_one (ps_dput hu (pv 3) (pv 4) (pe_tup (pa_cons pe_str pa_nil)) rfl))
      pss_nil)
      (pss_one (ps_if (PW.pt (pw_and (pt_cmpR op_eq (pv 5) pe_int (nomark _)) (pw_and1 (pt_cmpR (op_neD hr.units) (pv 2) (pe_lst pa_nil) (nomark _)))))
      (pss_one (ps_dput hu (pv 3) (pv 4) (pe_tup (pa_cons pe_str (pa_cons (pe_call G_l_pick (hr.mono (by decide)) rfl T.g_l_pick T.fd_l_pick.kp b_l_pick .nil passL (pa_cons (pv 0) (pa_cons (pv 2) pa_nil))) pa_nil))) rfl))
      pss_nil))))))
      (pss_one (ps_ret (pv 3)))))
theorem ok_l_some (T : Fs K mg fd) : FnOk P w K mg base (L2.CX P w) 2 (He.ga K "_law_some") (fd 39) ["_law_state_here", "_law_row"] (sp_l_some K) := by
  have G_l_draw := ok_l_draw (P := P) (w := w) (base := base) T
  have b_l_draw : Binds K (fd 17) ["_law_state_here", "_law_many"] [] := T.fd_l_draw.bindsN fun _ _ _ _ _ _ us hl => match us, hl with | [_, _], _ => rfl
  refine FunD.ok T.fd_l_some sc_l_some (fun vs H Q E h => len_l_some h) (fun cdv A outer s H vs Q E hr h => ⟨t_l_some K, ?_, pure_l_some vs H Q E h⟩)
  have hu := hu_of hr
  exact (pss_one (ps_ret (pe_lc (own := [("_law_part", 2)]) (g := gName 2) (tt := (tTest (tOp rEq (tCall (sp_l_draw K) [] E0 (tCons (tVar 0) (tCons (tC (.int 2)) tNil))) (tC (.int 1))))) rfl sc_l_some.nd (pi_list (pv 1)) (blkOk_by (N := N_l_some) (sc := defScope s_l_some) (by decide +kernel)) (fun _ _ _ _ _ => pg_name (i := 2) sc_l_some.nd rfl (Or.inl rfl)) (fun _ _ _ _ _ => (pts_one (pt_cmpR op_eq (pe_call G_l_draw (hr.mono (by decide)) rfl T.g_l_draw T.fd_l_draw.kp b_l_draw .nil passL (pa_cons (pv 0) (pa_cons pe_int pa_nil))) pe_int (nomark _)))) (fun _ _ _ _ _ => (pv 2)))))
theorem ok_l_rule (T : Fs K mg fd) : FnOk P w K mg base (L2.CX P w) 4 (He.ga K "_law_rule") (fd 40) ["_law_state_here", "_law_names", "_law_links"] (sp_l_rule K) := by
  have G_l_draw := ok_l_draw (P := P) (w := w) (base := base) T
  have b_l_draw : Binds K (fd 17) ["_law_state_here", "_law_many"] [] := T.fd_l_draw.bindsN fun _ _ _ _ _ _ us hl => match us, hl with | [_, _], _ => rfl
  have G_l_pick := ok_l_pick (P := P) (w := w) (base := base) T
  have b_l_pick : Binds K (fd 36) ["_law_state_here", "_law_row"] [] := T.fd_l_pick.bindsN fun _ _ _ _ _ _ us hl => match us, hl with | [_, _], _ => rfl
  have G_l_value := ok_l_value (P := P) (w := w) (base := base) T
  have b_l_value : Binds K (fd 37) ["_law_state_here"] [] := T.fd_l_value.bindsN fun _ _ _ _ _ _ us hl => match us, hl with | [_], _ => rfl
  have G_l_some := ok_l_some (P := P) (w := w) (base := base) T
  have b_l_some : Binds K (fd 39) ["_law_state_here", "_law_row"] [] := T.fd_l_some.bindsN fun _ _ _ _ _ _ us hl => match us, hl with | [_, _], _ => rfl
  refine FunD.ok T.fd_l_rule sc_l_rule (fun vs H Q E h => len_l_rule h) (fun cdv A outer s H vs Q E hr h => ⟨t_l_rule K, ?_, pure_l_rule vs H Q E h⟩)
  have hu := hu_of hr
  exact (pss_cons (ps_set (i := 3) sc_l_rule.nd rfl (Or.inl rfl) (pe_tup pa_nil))
      (C8.pss_cut (ps_if (pt_cmpR kGt (pe_call G_l_draw (hr.mono (by decide)) rfl T.g_l_draw T.fd_l_draw.kp b_l_draw .nil passL (pa_cons (pv 0) (pa_cons pe_int pa_nil))) pe_int (nomark _))
      (pss_one (ps_set (i := 3) sc_l_rule.nd rfl (Or.inl rfl) (pe_callTy kTupOf (by rfl) T.n_tuple (by decide +kernel) (pa_cons (pe_callB cr_sortedS (by rfl) T.n_sorted (by decide +kernel) (pa_cons (pe_slice sl_list (pe_call G_l_some (hr.mono (by decide)) rfl T.g_l_some T.fd_l_some.kp b_l_some .nil passL (pa_cons (pv 0) (pa_cons (pv 1) pa_nil))) po_none (po_some pe_int)) pa_nil)) pa_nil))))
      pss_nil)
      (pss_cons (ps_set (i := 4) sc_l_rule.nd rfl (Or.inl rfl) (pe_call G_l_draw (hr.mono (by decide)) rfl T.g_l_draw T.fd_l_draw.kp b_l_draw .nil passL (pa_cons (pv 0) (pa_cons pe_int pa_nil))))
      (pss_cons (ps_if (pt_cmpR op_eq (pv 4) pe_int (nomark _))
      (pss_one (ps_ret (pe_tup (pa_cons pe_str (pa_cons (pv 3) pa_nil)))))
      pss_nil)
      (pss_cons (ps_if (PW.pt (pw_or (pt_cmpR op_eq (pv 4) pe_int (nomark _)) (pw_or1 (PW.pt (pw_and (pt_cmpR (op_eqD hr.units) (pv 2) (pe_lst pa_nil) (nomark _)) (pw_and1 (pt_cmpR kGt (pv 4) pe_int (nomark _))))))))
      (pss_one (ps_ret (pe_tup (pa_cons pe_str (pa_cons (pv 3) (pa_cons (pe_call G_l_value (hr.mono (by decide)) rfl T.g_l_value T.fd_l_value.kp b_l_value .nil passL (pa_cons (pv 0) pa_nil)) pa_nil))))))
      pss_nil)
      (pss_cons (ps_if (pt_cmpR op_eq (pv 4) pe_int (nomark _))
      (pss_one (ps_ret (pe_tup (pa_cons pe_str (pa_cons (pv 3) pa_nil)))))
      pss_nil)
      (pss_cons (ps_set (i := 5) sc_l_rule.nd rfl (Or.inl rfl) (pe_call G_l_pick (hr.mono (by decide)) rfl T.g_l_pick T.fd_l_pick.kp b_l_pick .nil passL (pa_cons (pv 0) (pa_cons (pv 2) pa_nil))))
      (pss_cons (ps_set (i := 6) sc_l_rule.nd rfl (Or.inl rfl) (pe_call G_l_pick (hr.mono (by decide)) rfl T.g_l_pick T.fd_l_pick.kp b_l_pick .nil passL (pa_cons (pv 0) (pa_cons (pe_lst (pa_cons pe_str (pa_cons pe_str pa_nil))) pa_nil))))
      (pss_cons (ps_if (pt_cmpR op_eq (pv 4) pe_int (nomark _))
      (pss_one (ps_ret (pe_tup (pa_cons pe_str (pa_cons (pv 3) (pa_cons (pv 5) (pa_cons (pv 6) pa_nil)))))))
      pss_nil)
      (pss_cons (ps_set (i := 7) sc_l_rule.nd rfl (Or.inl rfl) (pe_call G_l_pick (hr.mono (by decide)) rfl T.g_l_pick T.fd_l_pick.kp b_l_pick .nil passL (pa_cons (pv 0) (pa_cons (pe_op op_cat (pe_lst (pa_cons pe_str pa_nil)) (pv 1)) pa_nil))))
      (pss_one (ps_ret (pe_tup (pa_cons pe_str (pa_cons (pv 3) (pa_cons (pv 5) (pa_cons (pv 7) (pa_cons (pv 6) (pa_cons (pe_cmpR op_eq (pe_call G_l_draw (hr.mono (by decide)) rfl T.g_l_draw T.fd_l_draw.kp b_l_draw .nil passL (pa_cons (pv 0) (pa_cons pe_int pa_nil))) pe_int (nomark _)) pa_nil)))))))))))))))))))
theorem ok_l_choices (T : Fs K mg fd) : FnOk P w K mg base (L2.CX P w) 3 (He.ga K "_law_choices") (fd 41) ["_law_state_here", "_law_kinds"] (sp_l_choices K) := by
  have G_l_pick := ok_l_pick (P := P) (w := w) (base := base) T
  have b_l_pick : Binds K (fd 36) ["_law_state_here", "_law_row"] [] := T.fd_l_pick.bindsN fun _ _ _ _ _ _ us hl => match us, hl with | [_, _], _ => rfl
  have G_l_some := ok_l_some (P := P) (w := w) (base := base) T
  have b_l_some : Binds K (fd 39) ["_law_state_here", "_law_row"] [] := T.fd_l_some.bindsN fun _ _ _ _ _ _ us hl => match us, hl with | [_, _], _ => rfl
  refine FunD.ok T.fd_l_choices sc_l_choices (fun vs H Q E h => len_l_choices h) (fun cdv A outer s H vs Q E hr h => ⟨t_l_choices K, ?_, pure_l_choices vs H Q E h⟩)
  have hu := hu_of hr
  exact (pss_cons (ps_set (i := 2) sc_l_choices.nd rfl (Or.inl rfl) (pe_call G_l_some (hr.mono (by decide)) rfl T.g_l_some T.fd_l_some.kp b_l_some .nil passL (pa_cons (pv 0) (pa_cons (pe_op op_cat (pv 1) (pe_lst (pa_cons pe_str pa_nil))) pa_nil))))
      (C8.pss_cut (ps_if (pt_cmpR (op_eqD hr.units) (pv 2) (pe_lst pa_nil) (nomark _))
      (pss_one (ps_set (i := 2) sc_l_choices.nd rfl (Or.inl rfl) (pe_lst (pa_cons (pe_call G_l_pick (hr.mono (by decide)) rfl T.g_l_pick T.fd_l_pick.kp b_l_pick .nil passL (pa_cons (pv 0) (pa_cons (pv 1) pa_nil))) pa_nil))))
      pss_nil)
      (pss_one (ps_ret (pe_callTy kTupOf (by rfl) T.n_tuple (by decide +kernel) (pa_cons (pe_callB cr_sortedS (by rfl) T.n_sorted (by decide +kernel) (pa_cons (pe_slice sl_list (pv 2) po_none (po_some pe_int)) pa_nil)) pa_nil))))))
theorem ok_l_words (T : Fs K mg fd) : FnOk P w K mg base (L2.CX P w) 3 (He.ga K "_law_words") (fd 42) ["_law_state_here", "_law_many"] (sp_l_words K) := by
  have G_l_word := ok_l_word (P := P) (w := w) (base := base) T
  have b_l_word : Binds K (fd 18) ["_law_state_here", "_law_taken"] [] := T.fd_l_word.bindsN fun _ _ _ _ _ _ us hl => match us, hl with | [_, _], _ => rfl
  refine FunD.ok T.fd_l_words sc_l_words (fun vs H Q E h => len_l_words h) (fun cdv A outer s H vs Q E hr h => ⟨t_l_words K, ?_, pure_l_words vs H Q E h⟩)
  have hu := hu_of hr
  exact (pss_cons (ps_set (i := 2) sc_l_words.nd rfl (Or.inl rfl) (pe_lst pa_nil))
      (pss_cons (ps_for (passes_of rfl) rfl (pi_range1 rfl T.n_range (pa_cons (pv 1) pa_nil)) (pg_name (i := 3) sc_l_words.nd rfl (Or.inl rfl))
      (pss_one (ps_expr (pe_bm PySem.F.plainAttrs_list PySem.F.slot_list_append PySem.F.type_list_append mt_append (pv 2) (pa_cons (pe_call G_l_word (hr.mono (by decide)) rfl T.g_l_word T.fd_l_word.kp b_l_word .nil passL (pa_cons (pv 0) (pa_cons (pv 2) pa_nil))) pa_nil)))))
      (pss_one (ps_ret (pv 2)))))
theorem ok_l_doors (T : Fs K mg fd) : FnOk P w K mg base (L2.CX P w) 4 (He.ga K "_law_doors") (fd 43) ["_law_state_here", "_law_most"] (sp_l_doors K) := by
  have G_l_words := ok_l_words (P := P) (w := w) (base := base) T
  have b_l_words : Binds K (fd 42) ["_law_state_here", "_law_many"] [] := T.fd_l_words.bindsN fun _ _ _ _ _ _ us hl => match us, hl with | [_, _], _ => rfl
  have G_l_draw := ok_l_draw (P := P) (w := w) (base := base) T
  have b_l_draw : Binds K (fd 17) ["_law_state_here", "_law_many"] [] := T.fd_l_draw.bindsN fun _ _ _ _ _ _ us hl => match us, hl with | [_, _], _ => rfl
  refine FunD.ok T.fd_l_doors sc_l_doors (fun vs H Q E h => len_l_doors h) (fun cdv A outer s H vs Q E hr h => ⟨t_l_doors K, ?_, pure_l_doors vs H Q E h⟩)
  have hu := hu_of hr
  exact (pss_cons (ps_if (PW.pt (pw_or (pt_cmpR op_eq (pv 1) pe_int (nomark _)) (pw_or1 (pt_cmpR op_eq (pe_call G_l_draw (hr.mono (by decide)) rfl T.g_l_draw T.fd_l_draw.kp b_l_draw .nil passL (pa_cons (pv 0) (pa_cons pe_int pa_nil))) pe_int (nomark _)))))
      (pss_one (ps_ret (pe_lst pa_nil)))
      pss_nil)
      (pss_one (ps_ret (pe_call G_l_words (hr.mono (by decide)) rfl T.g_l_words T.fd_l_words.kp b_l_words .nil passL (pa_cons (pv 0) (pa_cons (pe_callB (kMin2 rfl) (by rfl) T.n_min (by decide +kernel) (pa_cons (pv 1) (pa_cons (pe_op kAdd pe_int (pe_call G_l_draw (hr.mono (by decide)) rfl T.g_l_draw T.fd_l_draw.kp b_l_draw .nil passL (pa_cons (pv 0) (pa_cons (pe_op kAdd (pv 1) pe_int) pa_nil)))) pa_nil))) pa_nil))))))
theorem ok_l_house (T : Fs K mg fd) : FnOk P w K mg base (L2.CX P w) 5 (He.ga K "_law_house") (fd 44) ["_law_state_here", "_law_kinds", "_law_links", "_law_names", "_law_rules"] (sp_l_house K) := by
  have G_l_own := ok_l_own (P := P) (w := w) (base := base) T
  have b_l_own : Binds K (fd 38) ["_law_state_here", "_law_names", "_law_links"] [] := T.fd_l_own.bindsN fun _ _ _ _ _ _ us hl => match us, hl with | [_, _, _], _ => rfl
  have G_l_draw := ok_l_draw (P := P) (w := w) (base := base) T
  have b_l_draw : Binds K (fd 17) ["_law_state_here", "_law_many"] [] := T.fd_l_draw.bindsN fun _ _ _ _ _ _ us hl => match us, hl with | [_, _], _ => rfl
  have G_l_rule := ok_l_rule (P := P) (w := w) (base := base) T
  have b_l_rule : Binds K (fd 40) ["_law_state_here", "_law_names", "_law_links"] [] := T.fd_l_rule.bindsN fun _ _ _ _ _ _ us hl => match us, hl with | [_, _, _], _ => rfl
  have G_l_choices := ok_l_choices (P := P) (w := w) (base := base) T
  have b_l_choices : Binds K (fd 41) ["_law_state_here", "_law_kinds"] [] := T.fd_l_choices.bindsN fun _ _ _ _ _ _ us hl => match us, hl with | [_, _], _ => rfl
  have G_l_doors := ok_l_doors (P := P) (w := w) (base := base) T
  have b_l_doors : Binds K (fd 43) ["_law_state_here", "_law_most"] [] := T.fd_l_doors.bindsN fun _ _ _ _ _ _ us hl => match us, hl with | [_, _], _ => rfl
  have G_l_words := ok_l_words (P := P) (w := w) (base := base) T
  have b_l_words : Binds K (fd 42) ["_law_state_here", "_law_many"] [] := T.fd_l_words.bindsN fun _ _ _ _ _ _ us hl => match us, hl with | [_, _], _ => rfl
  refine FunD.ok T.fd_l_house sc_l_house (fun vs H Q E h => len_l_house h) (fun cdv A outer s H vs Q E hr h => ⟨t_l_house K, ?_, pure_l_house vs H Q E h⟩)
  have hu := hu_of hr
  exact (pss_cons (ps_set (i := 5) sc_l_house.nd rfl (Or.inl rfl) (pe_call G_l_words (hr.mono (by decide)) rfl T.g_l_words T.fd_l_words.kp b_l_words .nil passL (pa_cons (pv 0) (pa_cons (pe_op kAdd pe_int (pe_call G_l_draw (hr.mono (by decide)) rfl T.g_l_draw T.fd_l_draw.kp b_l_draw .nil passL (pa_cons (pv 0) (pa_cons (pv 1) pa_nil)))) pa_nil))))
      (pss_cons (ps_set (i := 6) sc_l_house.nd rfl (Or.inr rfl) (pe_call G_l_words (hr.mono (by decide)) rfl T.g_l_words T.fd_l_words.kp b_l_words .nil passL (pa_cons (pv 0) (pa_cons (pe_op kAdd pe_int (pe_call G_l_draw (hr.mono (by decide)) rfl T.g_l_draw T.fd_l_draw.kp b_l_draw .nil passL (pa_cons (pv 0) (pa_cons (pv 3) pa_nil)))) pa_nil))))
      (pss_cons (ps_set (i := 7) sc_l_house.nd rfl (Or.inl rfl) (pe_lst pa_nil))
      (pss_cons (ps_for (passes_of rfl) rfl (pi_list (pv 5)) (pg_name (i := 8) sc_l_house.nd rfl (Or.inl rfl))
      (pss_cons (ps_set (i := 9) sc_l_house.nd rfl (Or.inr rfl) (pe_call G_l_doors (hr.mono (by decide)) rfl T.g_l_doors T.fd_l_doors.kp b_l_doors .nil passL (pa_cons (pv 0) (pa_cons (pv 2) pa_nil))))
      (pss_cons (ps_set (i := 10) sc_l_house.nd rfl (Or.inl rfl) pe_dnewK)
      (pss_cons (ps_for (passes_of rfl) rfl (pi_list (pv 9)) (pg_name (i := 11) sc_l_house.nd rfl (Or.inl rfl))
      (pss_one (ps_dput hu (pv 10) (pv 11) (pe_call G_l_choices (hr.mono (by decide)) rfl T.g_l_choices T.fd_l_choices.kp b_l_choices .nil passL (pa_cons (pv 0) (pa_cons (pv 5) pa_nil))) rfl)))
      (pss_cons (ps_setLc (i := 12) (own := [("_law_k", 13)]) (g := gName 13) (tt := tYes) rfl sc_l_house.nd rfl rfl (sw_true rfl rfl rfl (by decide +kernel)) (pi_range1 rfl T.n_range (pa_cons (pe_call G_l_draw (hr.mono (by decide)) rfl T.g_l_draw T.fd_l_draw.kp b_l_draw .nil passL (pa_cons (pv 0) (pa_cons (pe_op kAdd (pv 4) pe_int) pa_nil))) pa_nil)) (blkOk_by (N := N_l_house) (sc := defScope s_l_house) (by decide +kernel)) (fun _ _ _ _ _ => pg_name (i := 13) sc_l_house.nd rfl (Or.inl rfl)) (fun _ _ _ _ _ => pts_nil) (fun _ _ _ _ _ => (pe_call G_l_rule (hr.mono (by decide)) rfl T.g_l_rule T.fd_l_rule.kp b_l_rule .nil passL (pa_cons (pv 0) (pa_cons (pv 6) (pa_cons (pv 9) pa_nil))))))
      (pss_one (ps_expr (pe_bm PySem.F.plainAttrs_list PySem.F.slot_list_append PySem.F.type_list_append mt_append (pv 7) (pa_cons (pe_lst (pa_cons (pv 8) (pa_cons (pv 10) (pa_cons (pe_call G_l_own (hr.mono (by decide)) rfl T.g_l_own T.fd_l_own.kp b_l_own .nil passL (pa_cons (pv 0) (pa_cons (pv 6) (pa_cons (pv 9) pa_nil)))) (pa_cons (pv 12) (pa_cons (pe_cmpR op_eq (pe_call G_l_draw (hr.mono (by decide)) rfl T.g_l_draw T.fd_l_draw.kp b_l_draw .nil passL (pa_cons (pv 0) (pa_cons pe_int pa_nil))) pe_int (nomark _)) pa_nil)))))) pa_nil)))))))))
      (pss_one (ps_ret (pv 7)))))))
theorem ok_l_state (T : Fs K mg fd) : FnOk P w K mg base (L2.CX P w) 1 (He.ga K "_law_state") (fd 45) ["_law_script"] (sp_l_state K) := by
  refine FunD.ok T.fd_l_state sc_l_state (fun vs H Q E h => len_l_state h) (fun cdv A outer s H vs Q E hr h => ⟨t_l_state K, ?_, pure_l_state vs H Q E h⟩)
  have hu := hu_of hr
  exact (pss_cons (ps_setLc (i := 1) (own := [("_law_cell", 2)]) (g := gName 2) (tt := tYes) rfl sc_l_state.nd rfl rfl (sw_true rfl rfl rfl (by decide +kernel)) (pi_list (pe_slice sl_list (pv 0) po_none (po_some pe_int))) (blkOk_by (N := N_l_state) (sc := defScope s_l_state) (by decide +kernel)) (fun _ _ _ _ _ => pg_name (i := 2) sc_l_state.nd rfl (Or.inl rfl)) (fun _ _ _ _ _ => pts_nil) (fun _ _ _ _ _ => (pe_callB kAbs (by rfl) T.n_abs (by decide +kernel) (pa_cons (pe_callTy kInt1 (by rfl) T.n_int (by decide +kernel) (pa_cons (pv 2) pa_nil)) pa_nil))))
      (pss_cons (ps_if (pt_cmpR (op_eqD hr.units) (pv 1) (pe_lst pa_nil) (nomark _))
      (pss_one (ps_set (i := 1) sc_l_state.nd rfl (Or.inl rfl) (pe_lst (pa_cons pe_int pa_nil))))
      pss_nil)
      (pss_one (ps_ret (pe_lst (pa_cons (pv 1) (pa_cons pe_int (pa_cons pe_int pa_nil))))))))
theorem ok_law (T : Fs K mg fd) : FnOk P w K mg base (L2.CX P w) 9 (He.ga K "law") (fd 46) ["_law_script"] (sp_law K) := by
  have G_Kind_eq := ok_Kind_eq (P := P) (w := w) (base := base) T
  have b_Kind_eq : Binds K (fd 0) ["self", "other"] [] := T.fd_Kind_eq.bindsN fun _ _ _ _ _ _ us hl => match us, hl with | [_, _], _ => rfl
  have G_l_kind := ok_l_kind (P := P) (w := w) (base := base) T
  have b_l_kind : Binds K (fd 16) ["_law_kind_here"] [] := T.fd_l_kind.bindsN fun _ _ _ _ _ _ us hl => match us, hl with | [_], _ => rfl
  have G_l_changed := ok_l_changed (P := P) (w := w) (base := base) T
  have b_l_changed : Binds K (fd 19) ["_law_state_here", "_law_kind_here"] [] := T.fd_l_changed.bindsN fun _ _ _ _ _ _ us hl => match us, hl with | [_, _], _ => rfl
  have G_l_not_own := ok_l_not_own (P := P) (w := w) (base := base) T
  have b_l_not_own : Binds K (fd 24) ["_law_told", "_law_name"] [] := T.fd_l_not_own.bindsN fun _ _ _ _ _ _ us hl => match us, hl with | [_, _], _ => rfl
  have G_l_word := ok_l_word (P := P) (w := w) (base := base) T
  have b_l_word : Binds K (fd 18) ["_law_state_here", "_law_taken"] [] := T.fd_l_word.bindsN fun _ _ _ _ _ _ us hl => match us, hl with | [_, _], _ => rfl
  have G_Kind_contains := ok_Kind_contains (P := P) (w := w) (base := base) T
  have b_Kind_contains : Binds K (fd 23) ["self", "name"] [] := T.fd_Kind_contains.bindsN fun _ _ _ _ _ _ us hl => match us, hl with | [_, _], _ => rfl
  have G_l_like := ok_l_like (P := P) (w := w) (base := base) T 6
  have b_l_like : Binds K (fd 20) ["_law_told", "_law_due"] [] := T.fd_l_like.bindsN fun _ _ _ _ _ _ us hl => match us, hl with | [_, _], _ => rfl
  have G_Kind_getitem := ok_Kind_getitem (P := P) (w := w) (base := base) T
  have b_Kind_getitem : Binds K (fd 22) ["self", "name"] [] := T.fd_Kind_getitem.bindsN fun _ _ _ _ _ _ us hl => match us, hl with | [_, _], _ => rfl
  have G_l_tells := ok_l_tells (P := P) (w := w) (base := base) T
  have b_l_tells : Binds K (fd 30) ["_law_told", "_law_kind_here"] [] := T.fd_l_tells.bindsN fun _ _ _ _ _ _ us hl => match us, hl with | [_, _], _ => rfl
  have G_l_spoil_inside := ok_l_spoil_inside (P := P) (w := w) (base := base) T
  have b_l_spoil_inside : Binds K (fd 31) ["_law_parts"] [] := T.fd_l_spoil_inside.bindsN fun _ _ _ _ _ _ us hl => match us, hl with | [_], _ => rfl
  have G_l_draw := ok_l_draw (P := P) (w := w) (base := base) T
  have b_l_draw : Binds K (fd 17) ["_law_state_here", "_law_many"] [] := T.fd_l_draw.bindsN fun _ _ _ _ _ _ us hl => match us, hl with | [_, _], _ => rfl
  have G_Kind_init := ok_Kind_init (P := P) (w := w) (base := base) T
  obtain ⟨_, bk_Kind_init⟩ := bK1_Kind_init T.fd_Kind_init
  obtain ⟨_, r0_Kind_init, b0_Kind_init⟩ := bK0_Kind_init T.fd_Kind_init
  have G_l_loose_parts := ok_l_loose_parts (P := P) (w := w) (base := base) T
  have b_l_loose_parts : Binds K (fd 35) ["_law_state_here", "_law_kind_here"] [] := T.fd_l_loose_parts.bindsN fun _ _ _ _ _ _ us hl => match us, hl with | [_, _], _ => rfl
  have G_l_pick := ok_l_pick (P := P) (w := w) (base := base) T
  have b_l_pick : Binds K (fd 36) ["_law_state_here", "_law_row"] [] := T.fd_l_pick.bindsN fun _ _ _ _ _ _ us hl => match us, hl with | [_, _], _ => rfl
  have G_l_house := ok_l_house (P := P) (w := w) (base := base) T
  have b_l_house : Binds K (fd 44) ["_law_state_here", "_law_kinds", "_law_links", "_law_names", "_law_rules"] [] := T.fd_l_house.bindsN fun _ _ _ _ _ _ us hl => match us, hl with | [_, _, _, _, _], _ => rfl
  have G_l_state := ok_l_state (P := P) (w := w) (base := base) T
  have b_l_state : Binds K (fd 45) ["_law_script"] [] := T.fd_l_state.bindsN fun _ _ _ _ _ _ us hl => match us, hl with | [_], _ => rfl
  refine FunD.ok T.fd_law sc_law (fun vs H Q E h => len_law h) (fun cdv A outer s H vs Q E hr h => ⟨t_law K, ?_, pure_law vs H Q E h⟩)
  have hu := hu_of hr
  exact (pss_cons (ps_set (i := 1) sc_law.nd rfl (Or.inl rfl) (pe_call G_l_state (hr.mono (by decide)) rfl T.g_l_state T.fd_l_state.kp b_l_state .nil passL (pa_cons (pv 0) pa_nil)))
      (pss_cons (ps_set (i := 2) sc_law.nd rfl (Or.inl rfl) (pe_call G_l_house (hr.mono (by decide)) rfl T.g_l_house T.fd_l_house.kp b_l_house .nil passL (pa_cons (pv 1) (pa_cons pe_int (pa_cons pe_int (pa_cons pe_int (pa_cons pe_int pa_nil)))))))
      (pss_cons (ps_set (i := 3) sc_law.nd rfl (Or.inl rfl) (pe_call G_l_pick (hr.mono (by decide)) rfl T.g_l_pick T.fd_l_pick.kp b_l_pick .nil passL (pa_cons (pv 1) (pa_cons (pv 2) pa_nil))))
      (pss_cons (ps_set (i := 4) sc_law.nd rfl (Or.inl rfl) (pe_call G_l_loose_parts (hr.mono (by decide)) rfl T.g_l_loose_parts T.fd_l_loose_parts.kp b_l_loose_parts .nil passL (pa_cons (pv 1) (pa_cons (pv 3) pa_nil))))
      (C8.pss_cut (ps_if (PW.pt (pw_or (pt_val (pe_ix ix_list (pv 3) pe_int (fun _ _ => rfl))) (pw_or1 (pt_cmpR op_eq (pe_call G_l_draw (hr.mono (by decide)) rfl T.g_l_draw T.fd_l_draw.kp b_l_draw .nil passL (pa_cons (pv 1) (pa_cons pe_int pa_nil))) pe_int (nomark _)))))
      (pss_one (ps_set (i := 5) sc_law.nd rfl (Or.inr rfl) (pe_makeN (x := "Kind") (n := 4) (ks := ["hidden"]) T.mk_Kind G_Kind_init (hr.mono (by decide)) rfl T.g_Kind bk_Kind_init passL (pa_cons (pe_ix ix_list (pv 3) pe_int (fun _ _ => rfl)) (pa_cons (pe_ix ix_list (pv 4) pe_int (fun _ _ => rfl)) (pa_cons (pe_ix ix_list (pv 4) pe_int (fun _ _ => rfl)) (pa_cons (pe_ix ix_list (pv 4) pe_int (fun _ _ => rfl)) pa_nil)))) (pk_cons (pe_ix ix_list (pv 3) pe_int (fun _ _ => rfl)) pk_nil))))
      (pss_one (ps_set (i := 5) sc_law.nd rfl (Or.inr rfl) (pe_make T.mk_Kind G_Kind_init (hr.mono (by decide)) rfl T.g_Kind b0_Kind_init r0_Kind_init passL (pa_cons (pe_ix ix_list (pv 3) pe_int (fun _ _ => rfl)) (pa_cons (pe_ix ix_list (pv 4) pe_int (fun _ _ => rfl)) (pa_cons (pe_ix ix_list (pv 4) pe_int (fun _ _ => rfl)) (pa_cons (pe_ix ix_list (pv 4) pe_int (fun _ _ => rfl)) pa_nil))))))))
      (pss_cons (ps_expr (pe_call G_l_spoil_inside (hr.mono (by decide)) rfl T.g_l_spoil_inside T.fd_l_spoil_inside.kp b_l_spoil_inside .nil passL (pa_cons (pv 4) pa_nil)))
      (pss_cons (ps_for (passes_of rfl) rfl (pi_list (pv 4)) (pg_name (i := 6) sc_law.nd rfl (Or.inl rfl))
      (pss_one (ps_expr (pe_clrVar (pv 6)))))
      (pss_cons (ps_if (PW.pt (pw_or (pt_not (pt_val (pe_call G_l_tells (hr.mono (by decide)) rfl T.g_l_tells T.fd_l_tells.kp b_l_tells .nil passL (pa_cons (pv 5) (pa_cons (pv 3) pa_nil))))) (pw_or1 (pt_not (pt_val (pe_call G_l_tells (hr.mono (by decide)) rfl T.g_l_tells T.fd_l_tells.kp b_l_tells .nil passL (pa_cons (pv 5) (pa_cons (pv 3) pa_nil))))))))
      (pss_one (ps_ret pe_bl))
      pss_nil)
      (pss_cons (ps_lock (ps_for (passes_of rfl) rfl (pi_keys (pe_ix ix_list (pv 3) pe_int (fun _ _ => rfl))) (pg_name (i := 7) sc_law.nd rfl (Or.inl rfl))
      (pss_one (ps_if (PW.pt (pw_or (pt_not (pt_cmpR (op_inK T.m_Kind_contains.at_ T.m_Kind_contains.fn G_Kind_contains (hr.mono (by decide)) b_Kind_contains passL) (pv 7) (pv 5) (by rfl))) (pw_or1 (pt_not (pt_val (pe_call G_l_like (hr.mono (by omega)) rfl T.g_l_like T.fd_l_like.kp b_l_like .nil passL (pa_cons (pe_ixK T.m_Kind_getitem.at_ T.m_Kind_getitem.fn T.f_Kind_getitem G_Kind_getitem (hr.mono (by decide)) b_Kind_getitem passN (pv 5) (pv 7)) (pa_cons (pe_dget hu (pe_ix ix_list (pv 3) pe_int (fun _ _ => rfl)) (pv 7) (fun _ _ => rfl)) pa_nil))))))))
      (pss_one (ps_ret pe_bl))
      pss_nil))))
      (pss_cons (ps_set (i := 8) sc_law.nd rfl (Or.inl rfl) (pe_lst (pa_cons pe_non (pa_cons pe_int (pa_cons pe_bl (pa_cons (pe_tup (pa_cons pe_str pa_nil)) (pa_cons (pe_lst (pa_cons pe_str pa_nil)) (pa_cons pe_str (pa_cons pe_str (pa_cons pe_str (pa_cons (pe_un un_neg pe_int) (pa_cons (pe_call G_l_word (hr.mono (by decide)) rfl T.g_l_word T.fd_l_word.kp b_l_word .nil passL (pa_cons (pv 1) (pa_cons (pe_callTy (kListK rfl) (by rfl) T.n_list (by decide +kernel) (pa_cons (pe_ix ix_list (pv 3) pe_int (fun _ _ => rfl)) pa_nil)) pa_nil))) pa_nil))))))))))))
      (pss_cons (ps_if (pt_cmpR (op_neD hr.units) (pe_lc (own := [("_law_name", 7)]) (g := gName 7) (tt := (tNot (tB (tCall (sp_l_not_own K) [] E0 (tCons (tVar 5) (tCons (tVar 7) tNil)))))) rfl sc_law.nd (pi_list (pv 8)) (blkOk_by (N := N_law) (sc := defScope s_law) (by decide +kernel)) (fun _ _ _ _ _ => pg_name (i := 7) sc_law.nd rfl (Or.inl rfl)) (fun _ _ _ _ _ => (pts_one (pt_not (pt_val (pe_call G_l_not_own (hr.mono (by decide)) rfl T.g_l_not_own T.fd_l_not_own.kp b_l_not_own .nil passL (pa_cons (pv 5) (pa_cons (pv 7) pa_nil))))))) (fun _ _ _ _ _ => (pv 7))) (pe_lst pa_nil) (nomark _))
      (pss_one (ps_ret pe_bl))
      pss_nil)
      (pss_cons (ps_set (i := 9) sc_law.nd rfl (Or.inl rfl) (pe_call G_l_kind (hr.mono (by decide)) rfl T.g_l_kind T.fd_l_kind.kp b_l_kind .nil passL (pa_cons (pv 3) pa_nil)))
      (pss_cons (ps_set (i := 10) sc_law.nd rfl (Or.inl rfl) (pe_call G_l_kind (hr.mono (by decide)) rfl T.g_l_kind T.fd_l_kind.kp b_l_kind .nil passL (pa_cons (pe_call G_l_changed (hr.mono (by decide)) rfl T.g_l_changed T.fd_l_changed.kp b_l_changed .nil passL (pa_cons (pv 1) (pa_cons (pv 3) pa_nil))) pa_nil)))
      (pss_one (ps_ret (pe_and (pe_cmpR (op_eqK T.m_Kind_eq.at_ T.m_Kind_eq.fn G_Kind_eq (hr.mono (by decide)) b_Kind_eq passL) (pv 5) (pv 9) (nomark _)) (pe_and (pe_cmpR (op_eqK T.m_Kind_eq.at_ T.m_Kind_eq.fn G_Kind_eq (hr.mono (by decide)) b_Kind_eq passL) (pv 9) (pv 5) (nomark _)) (pe_and (pe_not (pe_cmpR (op_eqK T.m_Kind_eq.at_ T.m_Kind_eq.fn G_Kind_eq (hr.mono (by decide)) b_Kind_eq passL) (pv 5) (pv 10) (nomark _))) (pe_one (pe_not (pe_cmpR (op_eqK T.m_Kind_eq.at_ T.m_Kind_eq.fn G_Kind_eq (hr.mono (by decide)) b_Kind_eq passL) (pv 10) (pv 5) (nomark _))))))))))))))))))))))
end
end Kb

set_option Elab.async false
set_option linter.all false
set_option maxRecDepth 100000
set_option maxHeartbeats 0
namespace Kb
open PySem PySem.Spec PyProof.Rows L2
def d_Kind_eq : He.DefD := ⟨("Kind", some "__eq__"), "__eq__", "Kind.__eq__", defArgs (s_Kind_eq), defBody (s_Kind_eq), defScope (s_Kind_eq), [], []⟩
def d_is_flag : He.DefD := ⟨("is_flag", none), "is_flag", "is_flag", defArgs (s_is_flag), defBody (s_is_flag), defScope (s_is_flag), [], []⟩
def d_is_link : He.DefD := ⟨("is_link", none), "is_link", "is_link", defArgs (s_is_link), defBody (s_is_link), defScope (s_is_link), [], []⟩
def d_is_name : He.DefD := ⟨("is_name", none), "is_name", "is_name", defArgs (s_is_name), defBody (s_is_name), defScope (s_is_name), [], []⟩
def d_is_name_or_empty : He.DefD := ⟨("is_name_or_empty", none), "is_name_or_empty", "is_name_or_empty", defArgs (s_is_name_or_empty), defBody (s_is_name_or_empty), defScope (s_is_name_or_empty), [], []⟩
def d_is_manner : He.DefD := ⟨("is_manner", none), "is_manner", "is_manner", defArgs (s_is_manner), defBody (s_is_manner), defScope (s_is_manner), [], []⟩
def d_is_send : He.DefD := ⟨("is_send", none), "is_send", "is_send", defArgs (s_is_send), defBody (s_is_send), defScope (s_is_send), [], []⟩
def d_is_list : He.DefD := ⟨("is_list", none), "is_list", "is_list", defArgs (s_is_list), defBody (s_is_list), defScope (s_is_list), [], []⟩
def d_is_name_list : He.DefD := ⟨("is_name_list", none), "is_name_list", "is_name_list", defArgs (s_is_name_list), defBody (s_is_name_list), defScope (s_is_name_list), [], []⟩
def d_is_rule : He.DefD := ⟨("is_rule", none), "is_rule", "is_rule", defArgs (s_is_rule), defBody (s_is_rule), defScope (s_is_rule), [], []⟩
def d_copied_rules : He.DefD := ⟨("copied_rules", none), "copied_rules", "copied_rules", defArgs (s_copied_rules), defBody (s_copied_rules), defScope (s_copied_rules), [], []⟩
def d_is_own_answer : He.DefD := ⟨("is_own_answer", none), "is_own_answer", "is_own_answer", defArgs (s_is_own_answer), defBody (s_is_own_answer), defScope (s_is_own_answer), [], []⟩
def d_copied_own : He.DefD := ⟨("copied_own", none), "copied_own", "copied_own", defArgs (s_copied_own), defBody (s_copied_own), defScope (s_copied_own), [], []⟩
def d_is_choice_list : He.DefD := ⟨("is_choice_list", none), "is_choice_list", "is_choice_list", defArgs (s_is_choice_list), defBody (s_is_choice_list), defScope (s_is_choice_list), [], []⟩
def d_copied_links : He.DefD := ⟨("copied_links", none), "copied_links", "copied_links", defArgs (s_copied_links), defBody (s_copied_links), defScope (s_copied_links), [], []⟩
def d_Kind_init : He.DefD := ⟨("Kind", some "__init__"), "__init__", "Kind.__init__", defArgs (s_Kind_init), defBody (s_Kind_init), defScope (s_Kind_init), [], [("hidden", .bl false)]⟩
def d_l_kind : He.DefD := ⟨("_law_kind", none), "_law_kind", "_law_kind", defArgs (s_l_kind), defBody (s_l_kind), defScope (s_l_kind), [], []⟩
def d_l_draw : He.DefD := ⟨("_law_draw", none), "_law_draw", "_law_draw", defArgs (s_l_draw), defBody (s_l_draw), defScope (s_l_draw), [], []⟩
def d_l_word : He.DefD := ⟨("_law_word", none), "_law_word", "_law_word", defArgs (s_l_word), defBody (s_l_word), defScope (s_l_word), [], []⟩
def d_l_changed : He.DefD := ⟨("_law_changed", none), "_law_changed", "_law_changed", defArgs (s_l_changed), defBody (s_l_changed), defScope (s_l_changed), [], []⟩
def d_l_like : He.DefD := ⟨("_law_like", none), "_law_like", "_law_like", defArgs (s_l_like), defBody (s_l_like), defScope (s_l_like), [], []⟩
def d_NoName_init : He.DefD := ⟨("NoName", some "__init__"), "__init__", "NoName.__init__", defArgs (s_NoName_init), defBody (s_NoName_init), defScope (s_NoName_init), [], []⟩
def d_Kind_getitem : He.DefD := ⟨("Kind", some "__getitem__"), "__getitem__", "Kind.__getitem__", defArgs (s_Kind_getitem), defBody (s_Kind_getitem), defScope (s_Kind_getitem), [], []⟩
def d_Kind_contains : He.DefD := ⟨("Kind", some "__contains__"), "__contains__", "Kind.__contains__", defArgs (s_Kind_contains), defBody (s_Kind_contains), defScope (s_Kind_contains), [], []⟩
def d_l_not_own : He.DefD := ⟨("_law_not_own", none), "_law_not_own", "_law_not_own", defArgs (s_l_not_own), defBody (s_l_not_own), defScope (s_l_not_own), [], []⟩
def d_Kind_name : He.DefD := ⟨("Kind", some "name"), "name", "Kind.name", defArgs (s_Kind_name), defBody (s_Kind_name), defScope (s_Kind_name), [], []⟩
def d_Kind_hidden : He.DefD := ⟨("Kind", some "hidden"), "hidden", "Kind.hidden", defArgs (s_Kind_hidden), defBody (s_Kind_hidden), defScope (s_Kind_hidden), [], []⟩
def d_Kind_links : He.DefD := ⟨("Kind", some "links"), "links", "Kind.links", defArgs (s_Kind_links), defBody (s_Kind_links), defScope (s_Kind_links), [], []⟩
def d_Kind_own : He.DefD := ⟨("Kind", some "own"), "own", "Kind.own", defArgs (s_Kind_own), defBody (s_Kind_own), defScope (s_Kind_own), [], []⟩
def d_Kind_rules : He.DefD := ⟨("Kind", some "rules"), "rules", "Kind.rules", defArgs (s_Kind_rules), defBody (s_Kind_rules), defScope (s_Kind_rules), [], []⟩
def d_l_tells : He.DefD := ⟨("_law_tells", none), "_law_tells", "_law_tells", defArgs (s_l_tells), defBody (s_l_tells), defScope (s_l_tells), [], []⟩
def d_l_spoil_inside : He.DefD := ⟨("_law_spoil_inside", none), "_law_spoil_inside", "_law_spoil_inside", defArgs (s_l_spoil_inside), defBody (s_l_spoil_inside), defScope (s_l_spoil_inside), [], []⟩
def d_l_loose : He.DefD := ⟨("_law_loose", none), "_law_loose", "_law_loose", defArgs (s_l_loose), defBody (s_l_loose), defScope (s_l_loose), [], []⟩
def d_l_shuffled : He.DefD := ⟨("_law_shuffled", none), "_law_shuffled", "_law_shuffled", defArgs (s_l_shuffled), defBody (s_l_shuffled), defScope (s_l_shuffled), [], []⟩
def d_l_loose_rule : He.DefD := ⟨("_law_loose_rule", none), "_law_loose_rule", "_law_loose_rule", defArgs (s_l_loose_rule), defBody (s_l_loose_rule), defScope (s_l_loose_rule), [], []⟩
def d_l_loose_parts : He.DefD := ⟨("_law_loose_parts", none), "_law_loose_parts", "_law_loose_parts", defArgs (s_l_loose_parts), defBody (s_l_loose_parts), defScope (s_l_loose_parts), [], []⟩
def d_l_pick : He.DefD := ⟨("_law_pick", none), "_law_pick", "_law_pick", defArgs (s_l_pick), defBody (s_l_pick), defScope (s_l_pick), [], []⟩
def d_l_value : He.DefD := ⟨("_law_value", none), "_law_value", "_law_value", defArgs (s_l_value), defBody (s_l_value), defScope (s_l_value), [], []⟩
def d_l_own : He.DefD := ⟨("_law_own", none), "_law_own", "_law_own", defArgs (s_l_own), defBody (s_l_own), defScope (s_l_own), [], []⟩
def d_l_some : He.DefD := ⟨("_law_some", none), "_law_some", "_law_some", defArgs (s_l_some), defBody (s_l_some), defScope (s_l_some), [], []⟩
def d_l_rule : He.DefD := ⟨("_law_rule", none), "_law_rule", "_law_rule", defArgs (s_l_rule), defBody (s_l_rule), defScope (s_l_rule), [], []⟩
def d_l_choices : He.DefD := ⟨("_law_choices", none), "_law_choices", "_law_choices", defArgs (s_l_choices), defBody (s_l_choices), defScope (s_l_choices), [], []⟩
def d_l_words : He.DefD := ⟨("_law_words", none), "_law_words", "_law_words", defArgs (s_l_words), defBody (s_l_words), defScope (s_l_words), [], []⟩
def d_l_doors : He.DefD := ⟨("_law_doors", none), "_law_doors", "_law_doors", defArgs (s_l_doors), defBody (s_l_doors), defScope (s_l_doors), [], []⟩
def d_l_house : He.DefD := ⟨("_law_house", none), "_law_house", "_law_house", defArgs (s_l_house), defBody (s_l_house), defScope (s_l_house), [], []⟩
def d_l_state : He.DefD := ⟨("_law_state", none), "_law_state", "_law_state", defArgs (s_l_state), defBody (s_l_state), defScope (s_l_state), [], []⟩
def d_law : He.DefD := ⟨("law", none), "law", "law", defArgs (s_law), defBody (s_law), defScope (s_law), [], []⟩
def fn : List He.DefD := [d_Kind_eq, d_is_flag, d_is_link, d_is_name, d_is_name_or_empty, d_is_manner, d_is_send, d_is_list, d_is_name_list, d_is_rule, d_copied_rules, d_is_own_answer, d_copied_own, d_is_choice_list, d_copied_links, d_Kind_init, d_l_kind, d_l_draw, d_l_word, d_l_changed, d_l_like, d_NoName_init, d_Kind_getitem, d_Kind_contains, d_l_not_own, d_Kind_links, d_Kind_own, d_Kind_rules, d_l_tells, d_l_spoil_inside, d_l_loose, d_l_shuffled, d_l_loose_rule, d_l_loose_parts, d_l_pick, d_l_value, d_l_own, d_l_some, d_l_rule, d_l_choices, d_l_words, d_l_doors, d_l_house, d_l_state, d_law]
def pr : List Pr := [("Kind", "name", d_Kind_name), ("Kind", "hidden", d_Kind_hidden)]
def fa0 : List He.Fa := [.free "abs", .free "all", .free "bool", .free "dict", .free "int", .free "isinstance", .free "len", .free "list", .free "min", .free "range", .free "set", .free "sorted", .free "str", .free "tuple", .str "LETTERS" "abcdefghijklmnopqrstuvwxyz", .int "LONGEST_NAME" 8, .int "MOST_NAMES" 4, .int "MOST_RULES" 300, .int "MOST_OWN" 5, .int "MOST_CHOICES" 4, .int "MOST_LINKS" 2, .glo "AskError", .glo "Kind", .glo "NoName", .glo "is_flag", .glo "is_link", .glo "is_name", .glo "is_name_or_empty", .glo "is_manner", .glo "is_send"]
def fa1 : List He.Fa := [.glo "is_list", .glo "is_name_list", .glo "is_rule", .glo "copied_rules", .glo "is_own_answer", .glo "copied_own", .glo "is_choice_list", .glo "copied_links", .glo "_law_kind", .glo "_law_draw", .glo "_law_word", .glo "_law_changed", .glo "_law_like", .glo "_law_not_own", .glo "_law_tells", .glo "_law_spoil_inside", .glo "_law_loose", .glo "_law_shuffled", .glo "_law_loose_rule", .glo "_law_loose_parts", .glo "_law_pick", .glo "_law_value", .glo "_law_own", .glo "_law_some", .glo "_law_rule", .glo "_law_choices", .glo "_law_words", .glo "_law_doors", .glo "_law_house", .glo "_law_state"]
def fa2 : List He.Fa := [.glo "law", .cls "Kind", .mkr "Kind", .noat "Kind" "kind_name", .noat "Kind" "link_table", .noat "Kind" "own_table", .noat "Kind" "rule_list", .noat "Kind" "is_hidden", .meth "Kind" "__eq__", .meth "Kind" "__getitem__", .meth "Kind" "__contains__", .meth "Kind" "links", .meth "Kind" "own", .meth "Kind" "rules", .exm "NoName" "NoName" true]
def fa : List He.Fa := fa0 ++ fa1 ++ fa2
def exq (K : PySem.W.Frag) : Bool := oexB K (NC K) && (xfB K (NC K) && (decide (PySem.W.findIn K (.ref (NC K)) "what" = some none) && (decide (PySem.W.findIn K (.ref (NC K)) "__init__" = some (some (.ref (He.ma K (NC K) "__init__")))) &&
  (decide (PySem.W.typeIn K (.ref (He.ma K (NC K) "__init__")) = some (.type "function")) && (baseB K (He.ga K "AskError") && (kindB K (KC K) && PySem.W.fnIn K (He.ma K (KC K) "__getitem__")))))))
def nm0 : List Str := ["AskError", "BadKind", "NoName", "LETTERS", "LONGEST_NAME", "is_name", "is_name_or_empty", "is_flag", "is_list", "MOST_LINKS", "MOST_CHOICES", "MOST_OWN", "MOST_RULES", "MOST_NAMES", "is_choice_list", "is_name_list", "is_link", "is_manner", "is_own_answer", "is_send", "is_rule", "copied_links", "copied_own", "copied_rules", "Kind", "_law_state", "_law_draw", "_law_pick", "_law_word", "_law_words"]
def nm1 : List Str := ["_law_some", "_law_shuffled", "_law_choices", "_law_value", "_law_rule", "_law_own", "_law_doors", "_law_house", "_law_kind", "_law_like", "_law_loose", "_law_loose_rule", "_law_loose_parts", "_law_tells", "_law_not_own", "_law_changed", "_law_spoil_inside"]
abbrev RW : PySem.W.OpenRow := PySem.W.OpenLaw.row PySem.Challenge.rw_onwardasks_k01_kind_told
abbrev hkx : PySem.W.Hook := hookX 5 fa fn pr exq
def obx (s : PySem.W.SharedT) : AlX := obX 5 fa fn pr exq (HandSHeadRun.getT s)
theorem obx_eq (s : PySem.W.SharedT) : obx s = hkx.obs s.abs := obX_eq (HandSHeadRun.getT_eq s)
theorem runX (w : World) : HandSHeadRun.RunEq RW (PySem.W.view RW.prog [51]) hkx obx 6000 (nm0 ++ nm1) w := by
  intro os
  kernel_rfl
theorem facts {P : Program} {w : World} {K : PySem.W.Frag} {h : Heap} {mg : Str → Option Value} {f : Addr} (X : K.In h) (G : h.Ns mainGlobals mg) (hfa : mg ("law" : Str) = some (.ref f)) (c : Says fa fn pr K) (e : exq K = true) :
    ∃ fd : FuncData, (∀ (s : Shared) (v : Value), BindsTo s fd ⟨[v], []⟩ [("_law_script", v)]) ∧ (KindI K ∧ NoNameX K) ∧ ∀ base : Heap, K.In base → base.Ns mainGlobals mg → FnOk P w K mg base CX0 9 f fd ["_law_script"] (sp_law K) := by
  obtain ⟨x1, e⟩ := He.ba e
  obtain ⟨x2, e⟩ := He.ba e
  obtain ⟨x3, e⟩ := He.ba e
  obtain ⟨x4, e⟩ := He.ba e
  obtain ⟨x5, e⟩ := He.ba e
  obtain ⟨x6, e⟩ := He.ba e
  obtain ⟨x7, x8⟩ := He.ba e
  obtain ⟨f0, F0⟩ := c.d.def_ 0 (d := d_Kind_eq) rfl
  obtain ⟨f1, F1⟩ := c.d.def_ 1 (d := d_is_flag) rfl
  obtain ⟨f2, F2⟩ := c.d.def_ 2 (d := d_is_link) rfl
  obtain ⟨f3, F3⟩ := c.d.def_ 3 (d := d_is_name) rfl
  obtain ⟨f4, F4⟩ := c.d.def_ 4 (d := d_is_name_or_empty) rfl
  obtain ⟨f5, F5⟩ := c.d.def_ 5 (d := d_is_manner) rfl
  obtain ⟨f6, F6⟩ := c.d.def_ 6 (d := d_is_send) rfl
  obtain ⟨f7, F7⟩ := c.d.def_ 7 (d := d_is_list) rfl
  obtain ⟨f8, F8⟩ := c.d.def_ 8 (d := d_is_name_list) rfl
  obtain ⟨f9, F9⟩ := c.d.def_ 9 (d := d_is_rule) rfl
  obtain ⟨f10, F10⟩ := c.d.def_ 10 (d := d_copied_rules) rfl
  obtain ⟨f11, F11⟩ := c.d.def_ 11 (d := d_is_own_answer) rfl
  obtain ⟨f12, F12⟩ := c.d.def_ 12 (d := d_copied_own) rfl
  obtain ⟨f13, F13⟩ := c.d.def_ 13 (d := d_is_choice_list) rfl
  obtain ⟨f14, F14⟩ := c.d.def_ 14 (d := d_copied_links) rfl
  obtain ⟨f15, F15⟩ := c.d.def_ 15 (d := d_Kind_init) rfl
  obtain ⟨f16, F16⟩ := c.d.def_ 16 (d := d_l_kind) rfl
  obtain ⟨f17, F17⟩ := c.d.def_ 17 (d := d_l_draw) rfl
  obtain ⟨f18, F18⟩ := c.d.def_ 18 (d := d_l_word) rfl
  obtain ⟨f19, F19⟩ := c.d.def_ 19 (d := d_l_changed) rfl
  obtain ⟨f20, F20⟩ := c.d.def_ 20 (d := d_l_like) rfl
  obtain ⟨f21, F21⟩ := c.d.def_ 21 (d := d_NoName_init) rfl
  obtain ⟨f22, F22⟩ := c.d.def_ 22 (d := d_Kind_getitem) rfl
  obtain ⟨f23, F23⟩ := c.d.def_ 23 (d := d_Kind_contains) rfl
  obtain ⟨f24, F24⟩ := c.d.def_ 24 (d := d_l_not_own) rfl
  obtain ⟨f25, F25⟩ := (c.prop 0 (p := ("Kind", "name", d_Kind_name)) rfl).2
  obtain ⟨f26, F26⟩ := (c.prop 1 (p := ("Kind", "hidden", d_Kind_hidden)) rfl).2
  obtain ⟨f27, F27⟩ := c.d.def_ 25 (d := d_Kind_links) rfl
  obtain ⟨f28, F28⟩ := c.d.def_ 26 (d := d_Kind_own) rfl
  obtain ⟨f29, F29⟩ := c.d.def_ 27 (d := d_Kind_rules) rfl
  obtain ⟨f30, F30⟩ := c.d.def_ 28 (d := d_l_tells) rfl
  obtain ⟨f31, F31⟩ := c.d.def_ 29 (d := d_l_spoil_inside) rfl
  obtain ⟨f32, F32⟩ := c.d.def_ 30 (d := d_l_loose) rfl
  obtain ⟨f33, F33⟩ := c.d.def_ 31 (d := d_l_shuffled) rfl
  obtain ⟨f34, F34⟩ := c.d.def_ 32 (d := d_l_loose_rule) rfl
  obtain ⟨f35, F35⟩ := c.d.def_ 33 (d := d_l_loose_parts) rfl
  obtain ⟨f36, F36⟩ := c.d.def_ 34 (d := d_l_pick) rfl
  obtain ⟨f37, F37⟩ := c.d.def_ 35 (d := d_l_value) rfl
  obtain ⟨f38, F38⟩ := c.d.def_ 36 (d := d_l_own) rfl
  obtain ⟨f39, F39⟩ := c.d.def_ 37 (d := d_l_some) rfl
  obtain ⟨f40, F40⟩ := c.d.def_ 38 (d := d_l_rule) rfl
  obtain ⟨f41, F41⟩ := c.d.def_ 39 (d := d_l_choices) rfl
  obtain ⟨f42, F42⟩ := c.d.def_ 40 (d := d_l_words) rfl
  obtain ⟨f43, F43⟩ := c.d.def_ 41 (d := d_l_doors) rfl
  obtain ⟨f44, F44⟩ := c.d.def_ 42 (d := d_l_house) rfl
  obtain ⟨f45, F45⟩ := c.d.def_ 43 (d := d_l_state) rfl
  obtain ⟨f46, F46⟩ := c.d.def_ 44 (d := d_law) rfl
  have ef := hfa.symm.trans (He.glo_ok X G (c.d.fact 60 (f := .glo "law") rfl))
  cases ef
  have b := FunD.bindsA (ps := ["_law_script"]) F46 fun _ _ _ _ _ _ us hl => match us, hl with | [_], _ => rfl
  have kcls : Cls K (He.ga K "Kind") := He.cls_ok (c.d.fact 61 (f := .cls "Kind") rfl)
  have kc : KindC K := ⟨kcls, He.noat_ok (c.d.fact 63 (f := .noat "Kind" "kind_name") rfl), He.noat_ok (c.d.fact 64 (f := .noat "Kind" "link_table") rfl), He.noat_ok (c.d.fact 65 (f := .noat "Kind" "own_table") rfl), He.noat_ok (c.d.fact 66 (f := .noat "Kind" "rule_list") rfl), He.noat_ok (c.d.fact 67 (f := .noat "Kind" "is_hidden") rfl)⟩
  have T : Fs K mg (fun i => ([f0, f1, f2, f3, f4, f5, f6, f7, f8, f9, f10, f11, f12, f13, f14, f15, f16, f17, f18, f19, f20, f21, f22, f23, f24, f25, f26, f27, f28, f29, f30, f31, f32, f33, f34, f35, f36, f37, f38, f39, f40, f41, f42, f43, f44, f45, f46] : List FuncData).getD i f0) := ⟨He.free_ok X G (c.d.fact 0 (f := .free "abs") rfl),
    He.free_ok X G (c.d.fact 1 (f := .free "all") rfl),
    He.free_ok X G (c.d.fact 2 (f := .free "bool") rfl),
    He.free_ok X G (c.d.fact 3 (f := .free "dict") rfl),
    He.free_ok X G (c.d.fact 4 (f := .free "int") rfl),
    He.free_ok X G (c.d.fact 5 (f := .free "isinstance") rfl),
    He.free_ok X G (c.d.fact 6 (f := .free "len") rfl),
    He.free_ok X G (c.d.fact 7 (f := .free "list") rfl),
    He.free_ok X G (c.d.fact 8 (f := .free "min") rfl),
    He.free_ok X G (c.d.fact 9 (f := .free "range") rfl),
    He.free_ok X G (c.d.fact 10 (f := .free "set") rfl),
    He.free_ok X G (c.d.fact 11 (f := .free "sorted") rfl),
    He.free_ok X G (c.d.fact 12 (f := .free "str") rfl),
    He.free_ok X G (c.d.fact 13 (f := .free "tuple") rfl),
    He.str_ok X G (c.d.fact 14 (f := .str "LETTERS" "abcdefghijklmnopqrstuvwxyz") rfl),
    He.int_ok X G (c.d.fact 15 (f := .int "LONGEST_NAME" 8) rfl),
    He.int_ok X G (c.d.fact 16 (f := .int "MOST_NAMES" 4) rfl),
    He.int_ok X G (c.d.fact 17 (f := .int "MOST_RULES" 300) rfl),
    He.int_ok X G (c.d.fact 18 (f := .int "MOST_OWN" 5) rfl),
    He.int_ok X G (c.d.fact 19 (f := .int "MOST_CHOICES" 4) rfl),
    He.int_ok X G (c.d.fact 20 (f := .int "MOST_LINKS" 2) rfl),
    He.glo_ok X G (c.d.fact 21 (f := .glo "AskError") rfl),
    He.glo_ok X G (c.d.fact 22 (f := .glo "Kind") rfl),
    He.glo_ok X G (c.d.fact 23 (f := .glo "NoName") rfl),
    kcls,
    F0,
    He.meth_ok (c.d.fact 68 (f := .meth "Kind" "__eq__") rfl),
    He.glo_ok X G (c.d.fact 24 (f := .glo "is_flag") rfl),
    F1,
    He.glo_ok X G (c.d.fact 25 (f := .glo "is_link") rfl),
    F2,
    He.glo_ok X G (c.d.fact 26 (f := .glo "is_name") rfl),
    F3,
    He.glo_ok X G (c.d.fact 27 (f := .glo "is_name_or_empty") rfl),
    F4,
    He.glo_ok X G (c.d.fact 28 (f := .glo "is_manner") rfl),
    F5,
    He.glo_ok X G (c.d.fact 29 (f := .glo "is_send") rfl),
    F6,
    He.glo_ok X G (c.d.fact 30 (f := .glo "is_list") rfl),
    F7,
    He.glo_ok X G (c.d.fact 31 (f := .glo "is_name_list") rfl),
    F8,
    He.glo_ok X G (c.d.fact 32 (f := .glo "is_rule") rfl),
    F9,
    He.glo_ok X G (c.d.fact 33 (f := .glo "copied_rules") rfl),
    F10,
    He.glo_ok X G (c.d.fact 34 (f := .glo "is_own_answer") rfl),
    F11,
    He.glo_ok X G (c.d.fact 35 (f := .glo "copied_own") rfl),
    F12,
    He.glo_ok X G (c.d.fact 36 (f := .glo "is_choice_list") rfl),
    F13,
    He.glo_ok X G (c.d.fact 37 (f := .glo "copied_links") rfl),
    F14,
    F15,
    He.mkr_ok (c.d.fact 62 (f := .mkr "Kind") rfl),
    He.glo_ok X G (c.d.fact 38 (f := .glo "_law_kind") rfl),
    F16,
    He.glo_ok X G (c.d.fact 39 (f := .glo "_law_draw") rfl),
    F17,
    He.glo_ok X G (c.d.fact 40 (f := .glo "_law_word") rfl),
    F18,
    He.glo_ok X G (c.d.fact 41 (f := .glo "_law_changed") rfl),
    F19,
    He.glo_ok X G (c.d.fact 42 (f := .glo "_law_like") rfl),
    F20,
    F21,
    oexB_ok x1,
    of_decide_eq_true x4,
    of_decide_eq_true x5,
    F22,
    He.meth_ok (c.d.fact 69 (f := .meth "Kind" "__getitem__") rfl),
    x8,
    F23,
    He.meth_ok (c.d.fact 70 (f := .meth "Kind" "__contains__") rfl),
    He.glo_ok X G (c.d.fact 43 (f := .glo "_law_not_own") rfl),
    F24,
    F25,
    (c.prop 0).1,
    F26,
    (c.prop 1).1,
    F27,
    He.meth_ok (c.d.fact 71 (f := .meth "Kind" "links") rfl),
    F28,
    He.meth_ok (c.d.fact 72 (f := .meth "Kind" "own") rfl),
    F29,
    He.meth_ok (c.d.fact 73 (f := .meth "Kind" "rules") rfl),
    He.glo_ok X G (c.d.fact 44 (f := .glo "_law_tells") rfl),
    F30,
    He.glo_ok X G (c.d.fact 45 (f := .glo "_law_spoil_inside") rfl),
    F31,
    He.glo_ok X G (c.d.fact 46 (f := .glo "_law_loose") rfl),
    F32,
    He.glo_ok X G (c.d.fact 47 (f := .glo "_law_shuffled") rfl),
    F33,
    He.glo_ok X G (c.d.fact 48 (f := .glo "_law_loose_rule") rfl),
    F34,
    He.glo_ok X G (c.d.fact 49 (f := .glo "_law_loose_parts") rfl),
    F35,
    He.glo_ok X G (c.d.fact 50 (f := .glo "_law_pick") rfl),
    F36,
    He.glo_ok X G (c.d.fact 51 (f := .glo "_law_value") rfl),
    F37,
    He.glo_ok X G (c.d.fact 52 (f := .glo "_law_own") rfl),
    F38,
    He.glo_ok X G (c.d.fact 53 (f := .glo "_law_some") rfl),
    F39,
    He.glo_ok X G (c.d.fact 54 (f := .glo "_law_rule") rfl),
    F40,
    He.glo_ok X G (c.d.fact 55 (f := .glo "_law_choices") rfl),
    F41,
    He.glo_ok X G (c.d.fact 56 (f := .glo "_law_words") rfl),
    F42,
    He.glo_ok X G (c.d.fact 57 (f := .glo "_law_doors") rfl),
    F43,
    He.glo_ok X G (c.d.fact 58 (f := .glo "_law_house") rfl),
    F44,
    He.glo_ok X G (c.d.fact 59 (f := .glo "_law_state") rfl),
    F45,
    He.glo_ok X G (c.d.fact 60 (f := .glo "law") rfl),
    F46,
    baseB_ok x6,
    ⟨⟨oexB_ok x1, of_decide_eq_true x3⟩, xfB_ok x2, He.exm_ok (c.d.fact 74 (f := .exm "NoName" "NoName" true) rfl)⟩⟩
  refine ⟨f46, fun s v => b s [v] rfl, ⟨kindB_ok kc x7, T.nx_NoName⟩, fun base _ _ => calmFn (ok_law T) fun vs H Q E h => h⟩
end Kb
open PySem PySem.W PySem.Calls PyProof.Rows
theorem PySem.Challenge.cw_onwardasks_k01_kind_told_holds : PySem.Challenge.rw_onwardasks_k01_kind_told.Holds := by
  w_on; o_law
  refine HandSHeadRun.head_any (r := OpenLaw.row PySem.Challenge.rw_onwardasks_k01_kind_told) (q := view (OpenLaw.row PySem.Challenge.rw_onwardasks_k01_kind_told).prog [51]) (H := Kb.hkx) (ob := Kb.obx) (M := 6000) (loose := Kb.nm0 ++ Kb.nm1) (d := HandSHeadRun.topDef (OpenLaw.row PySem.Challenge.rw_onwardasks_k01_kind_told).prog 51) (kwd := []) Kb.obx_eq
    (by kernel_rfl) (fun s => by kernel_rfl) Kb.runX (by kernel_rfl) (by kernel_rfl) (by kernel_rfl) (by rfl) (by first | assumption | decide +kernel) (by decide +kernel) ⟨rfl, rfl, rfl, rfl, rfl, by decide +kernel⟩ ?hw ?hc
  case hw => w_witness2
  case hc =>
    refine L2.walk_ofE (l := PySem.Challenge.rw_onwardasks_k01_kind_told) (n := 63) (k := 9) (x := "_law_script") (CX := L2.CX0) rfl (by decide) (by kernel_rfl) ⟨rfl, by decide, by decide⟩ ?F (fun _ _ _ _ z => z)
    intro w mg fa h Y G hmg0
    obtain ⟨K, KX, c, e⟩ := Y
    have hmg : mg ("law" : PySem.Str) = some (.ref fa) := by
      have e : (HandSHeadRun.topDef (OpenLaw.row PySem.Challenge.rw_onwardasks_k01_kind_told).prog 51).name = ("law" : PySem.Str) := by kernel_rfl
      rw [← e]
      exact hmg0
    obtain ⟨fd, hb, ⟨kI, nX⟩, hF⟩ := Kb.facts (P := (PySem.Challenge.rw_onwardasks_k01_kind_told).prog) (w := w) KX G hmg c e
    exact ⟨K, fd, Kb.sp_law K, KX, hb, fun H a ns hl _ hS => ⟨a, ns, rfl, hS, kI, nX, fun _ => rfl⟩, hF⟩

