import PyProof.Rows.All
import Wide.All
import OpenK.AllK
import Wide.FinOn
import PyProof.EqAt
import PyProof.EqKinds
import PyProof.TupleCall
import HandS.ForMost
import HandS.Exc
import HandS.ExcOwn
import HandS.WordsExc
import HandS.Defaults
import HandS.IsInst
import HandS.More
import HandS.Style
import HandS.Head0
import HandS.Head1
import HandS.Head2
import HandS.HeadEnd
import HandS.HeadHook1
import HandS.HeadHook2
import HandS.Walk
import HandS.Codes
import HandS.Strs
import HandS.Set
import HandS.SetFor
import PyProof.Rows.SortShellAny
import HandS.Iter
import PyProof.Draws
import PyProof.EnumFor
import KE.GoesMore
import HandS.TupAny
import HandS.TryOnly
import HandS.DictComp
import HandS.Property
import HandS.MakeKw
import HandS.Finally
import OpenK.KMeth
import KE.KEqNest
import HandS.ExcInit
import HandS.ExcField
import HandS.HotCalls
import HandS.ExcCtx
import HandS.ExcInitHot
import HandS.OwnEq
import PyProof.DictKinds
import HandS.Conv
import KE.KDictList
import HandS.MakeKwOnly
import PySem.Challenge.RW_onwardasks_k03_house_told
set_option Elab.async false
set_option linter.all false
set_option maxRecDepth 100000
set_option maxHeartbeats 4000000
/-! Kb, 1: readings under short names, a deep description of data, what a step leaves alone. -/
namespace Kb
open PySem PySem.Spec PyProof.Rows L2

/-! ### readings under a name -/
def rJoin (K : PySem.W.Frag) : V → List V → Hp → VK → Prop := fun x xs H Q => ∃ a p, ∃ ys : List Str, x = .str a ∧ xs = [.ref p] ∧ (SqL K H p (ys.map V.str) ∨ SqT K H p (ys.map V.str)) ∧
  (ys.map (·.length)).sum + ys.length * a.length ≤ 16777216 ∧ Q (.str (Txt.join a ys)) H
def rAbs : List V → Hp → VK → Prop := fun xs H Q => ∃ i, xs = [.int i] ∧ Q (.int (if i < 0 then -i else i)) H
def rInt1 : List V → Hp → VK → Prop := fun xs H Q => (∃ i, xs = [.int i] ∧ Q (.int i) H) ∨ ∃ k, xs = [.bl k] ∧ Q (.int (if k then 1 else 0)) H
def rMin2 : List V → Hp → VK → Prop := fun xs H Q => ∃ i j, xs = [.int i, .int j] ∧ Q (.int (if j < i then j else i)) H
def rLenA (K : PySem.W.Frag) : List V → Hp → VK → Prop := fun xs H Q => ∃ x n, xs = [x] ∧ LenV K x H n ∧ Q (.int n) H
def rLenD : List V → Hp → VK → Prop := fun xs H Q => ∃ a kvs, xs = [V.ref a] ∧ H a = some (.dK kvs) ∧ Q (.int kvs.length) H
def rListOf (K : PySem.W.Frag) : List V → Hp → VK → Prop := fun xs H Q => ∃ p ys, xs = [.ref p] ∧ (SqL K H p ys ∨ SqT K H p ys) ∧ ∀ l, H l = none → Q (.ref l) (upd H l (.lst ys))
def rTupOf (K : PySem.W.Frag) : List V → Hp → VK → Prop := fun xs H Q => ∃ p ys, xs = [.ref p] ∧ ((SqL K H p ys ∧ ∀ l, H l = none → Q (.ref l) (upd H l (.tup ys))) ∨ (SqT K H p ys ∧ Q (.ref p) H))
def rDictD : List V → Hp → VK → Prop := fun xs H Q => ∃ (a : Addr) (kvs : List (Key × V)), xs = [.ref a] ∧ Rd H a (.dK kvs) ∧ ∀ p, H p = none → Q (.ref p) (upd H p (.dK kvs))
def rSortD : List V → Hp → VK → Prop := fun xs H Q => ∃ (a : Addr) (kvs : List (Key × V)) (ks : List Str), xs = [.ref a] ∧ Rd H a (.dK kvs) ∧ kvs.map (·.1) = ks.map Sum.inr ∧ ks.length < 64 ∧ ∀ ys p, ys.Perm ks → sortedS ys = true → H p = none → Q (.ref p) (upd H p (.lst (ys.map V.str)))
abbrev rAddI : R2 := rI0 fun i j => .int (i + j)
abbrev rSubI : R2 := rI0 fun i j => .int (i - j)
abbrev rMulI : R2 := rI CMul fun i j => .int (i * j)
abbrev rDivI : R2 := rI CDivN fun i j => .int (i.fdiv j)
abbrev rModI : R2 := rI (fun _ j => j ≠ 0) fun i j => .int (i.fmod j)
abbrev rPowI : R2 := rI CPow fun i j => .int (i ^ j.toNat)
abbrev rLtI : R2 := rI0 fun i j => .bl (decide (i < j))
abbrev rLeI : R2 := rI0 fun i j => .bl (decide (i ≤ j))
abbrev rGtI : R2 := rI0 fun i j => .bl (decide (j < i))
abbrev rGeI : R2 := rI0 fun i j => .bl (decide (j ≤ i))
def rInT (neg : Bool) : R2 := fun x y H Q => ∃ (c : Nat) (z : Str), x = .str ⟨#[c]⟩ ∧ y = .str z ∧ Q (.bl (if neg then !decide (c ∈ z.cps.toList) else decide (c ∈ z.cps.toList))) H
section
variable {X : Cx}
theorem kJoin : MtR X "str.join" (rJoin X.K) := mt_join
theorem kAbs : CallR X (.builtin "abs") rAbs := call_abs
theorem kInt1 : CallR X (.type "int") rInt1 := call_int1
theorem kMin2 (hc : X.calm = true) : CallR X (.builtin "min") rMin2 := call_min2 hc
theorem kLenA : CallR X (.builtin "len") (rLenA X.K) := call_len
theorem kLenD : CallR X (.builtin "len") rLenD := call_lenD
theorem kListOf : CallR X (.type "list") (rListOf X.K) := call_list_of
theorem kTupOf : CallR X (.type "tuple") (rTupOf X.K) := call_tuple_of
theorem kDictD : CallR X (.type "dict") rDictD := call_dictD
theorem kSortD (hc : X.calm = true) : CallR X (.builtin "sorted") rSortD := call_sortedD hc
theorem kAdd : OpR X (binaryOp .Add) rAddI := op_add
theorem kSub : OpR X (binaryOp .Sub) rSubI := op_sub
theorem kMul : OpR X (binaryOp .Mult) rMulI := op_mul
theorem kDiv : OpR X (binaryOp .FloorDiv) rDivI := op_fdivN
theorem kMod : OpR X (binaryOp .Mod) rModI := op_modN
theorem kPow : OpR X (binaryOp .Pow) rPowI := op_pow
theorem kLt : OpR X (compareOp .Lt) rLtI := op_lt
theorem kLe : OpR X (compareOp .LtE) rLeI := op_le
theorem kGt : OpR X (compareOp .Gt) rGtI := op_gt
theorem kGe : OpR X (compareOp .GtE) rGeI := op_ge
theorem kInT : OpR X (compareOp .In) (rInT false) := by
  intro pins s σ H x y v u Q I rx ry h
  exact op_in_sign pins s σ H x y v u Q I rx ry h
theorem kNotInT : OpR X (compareOp .NotIn) (rInT true) := by
  intro pins s σ H x y v u Q I rx ry h
  exact op_notIn_sign pins s σ H x y v u Q I rx ry h
end

/-- a frame's slots at the entry: n of them, the arguments first -/
abbrev st0 (n : Nat) (vs : List V) : L2.St := vs.map some ++ List.replicate (n - vs.length) none
/-- the end of a def's body -/
abbrev fin (Q : VK) : Ends := { nx := fun _ H' => Q .non H', rt := Q }

/-! ### data -/
/-- nested data of the program: None, truth values, ints, texts; tuples, lists, dicts with text keys -/
inductive D where
  | non | bl (b : Bool) | int (i : Int) | str (x : Str)
  | tup (ds : List D) | lst (ds : List D) | dct (kds : List (Str × D))

mutual
/-- v is the data d in H, none of its objects in M -/
def At (M : List Addr) (H : Hp) : D → V → Prop
  | .non, v => v = .non
  | .bl b, v => v = .bl b
  | .int i, v => v = .int i
  | .str x, v => v = .str x
  | .tup ds, v => ∃ p xs, v = .ref p ∧ p ∉ M ∧ H p = some (.tup xs) ∧ AtL M H ds xs
  | .lst ds, v => ∃ p xs, v = .ref p ∧ p ∉ M ∧ H p = some (.lst xs) ∧ AtL M H ds xs
  | .dct kds, v => ∃ p kvs, v = .ref p ∧ p ∉ M ∧ H p = some (.dK kvs) ∧ AtP M H kds kvs
def AtL (M : List Addr) (H : Hp) : List D → List V → Prop
  | [], xs => xs = []
  | d :: ds, xs => ∃ x r, xs = x :: r ∧ At M H d x ∧ AtL M H ds r
def AtP (M : List Addr) (H : Hp) : List (Str × D) → List (Key × V) → Prop
  | [], xs => xs = []
  | (k, d) :: ds, xs => ∃ x r, xs = (Sum.inr k, x) :: r ∧ At M H d x ∧ AtP M H ds r
end

/-- all but the objects in M are as they were; those stand, too -/
structure But (M : List Addr) (H H' : Hp) : Prop where
  keep : ∀ a o, a ∉ M → H a = some o → H' a = some o
  stand : ∀ a, H a ≠ none → H' a ≠ none
theorem But.refl {M : List Addr} {H : Hp} : But M H H := ⟨fun _ _ _ h => h, fun _ h => h⟩
theorem But.trans {M : List Addr} {H H1 H2 : Hp} (a : But M H H1) (b : But M H1 H2) : But M H H2 := ⟨fun x o m h => b.keep x o m (a.keep x o m h), fun x h => b.stand x (a.stand x h)⟩
theorem But.more {M M' : List Addr} {H H' : Hp} (a : But M H H') (s : ∀ x ∈ M, x ∈ M') : But M' H H' := ⟨fun x o m h => a.keep x o (fun z => m (s x z)) h, a.stand⟩
theorem But.upd {M : List Addr} {H H' : Hp} {p : Addr} {o : HO} (b : But M H H') (h : p ∈ M ∨ H p = none) : But M H (upd H' p o) := by
  refine ⟨fun a u m e => ?_, fun a n => ?_⟩
  · have n : a ≠ p := fun z => by
      rcases h with h | h
      · rw [z] at m
        exact m h
      · rw [z, h] at e
        cases e
    rw [upd_ne n]
    exact b.keep a u m e
  · by_cases z : a = p
    · rw [z, upd_same]
      exact fun q => nomatch q
    · rw [upd_ne z]
      exact b.stand a n
theorem But.upd' {M : List Addr} {H H' : Hp} {p : Addr} {o : HO} (b : But M H H') (h : H' p = none) : But M H (L2.upd H' p o) := b.upd (.inr (by
  cases q : H p with
  | none => rfl
  | some u => exact absurd h (b.stand p (by rw [q]; exact fun z => nomatch z))))
theorem But.new {M : List Addr} {H : Hp} {p : Addr} {o : HO} (h : H p = none) : But M H (L2.upd H p o) := But.refl.upd (.inr h)
theorem But.nil {M : List Addr} {H H' : Hp} (b : But [] H H') : But M H H' := b.more fun _ z => by cases z
theorem But.free {M : List Addr} {H H' : Hp} {p : Addr} (b : But M H H') (h : H' p = none) : H p = none := by
  cases q : H p with
  | none => rfl
  | some u => exact absurd h (b.stand p (by rw [q]; exact fun z => nomatch z))
/-- the objects in M stand -/
def Std (M : List Addr) (H : Hp) : Prop := ∀ x ∈ M, H x ≠ none
theorem Std.but {M M' : List Addr} {H H' : Hp} (s : Std M H) (b : But M' H H') : Std M H' := fun x m => b.stand x (s x m)
theorem Std.nil {H : Hp} : Std [] H := fun _ z => by cases z
theorem Std.cons {M : List Addr} {H : Hp} {a : Addr} {o : HO} (h : H a = some o) (s : Std M H) : Std (a :: M) H := fun x m => by
  rcases List.mem_cons.mp m with z | z
  · rw [z, h]
    exact fun q => nomatch q
  · exact s x z
theorem Std.no {M : List Addr} {H : Hp} {p : Addr} (s : Std M H) (h : H p = none) : p ∉ M := fun m => s p m h
theorem ne_none {H : Hp} {a : Addr} {o : HO} (h : H a = some o) : H a ≠ none := by
  rw [h]
  exact fun q => nomatch q

mutual
theorem At.mono' {M M' : List Addr} {H H' : Hp} (e : ∀ p o, p ∉ M → H p = some o → p ∉ M' ∧ H' p = some o) : ∀ (d : D) (v : V), At M H d v → At M' H' d v
  | .non, _, h => h
  | .bl _, _, h => h
  | .int _, _, h => h
  | .str _, _, h => h
  | .tup ds, _, h => by
    obtain ⟨p, xs, e1, m, hp, hl⟩ := h
    obtain ⟨m', hp'⟩ := e p _ m hp
    exact ⟨p, xs, e1, m', hp', AtL.mono' e ds xs hl⟩
  | .lst ds, _, h => by
    obtain ⟨p, xs, e1, m, hp, hl⟩ := h
    obtain ⟨m', hp'⟩ := e p _ m hp
    exact ⟨p, xs, e1, m', hp', AtL.mono' e ds xs hl⟩
  | .dct kds, _, h => by
    obtain ⟨p, xs, e1, m, hp, hl⟩ := h
    obtain ⟨m', hp'⟩ := e p _ m hp
    exact ⟨p, xs, e1, m', hp', AtP.mono' e kds xs hl⟩
theorem AtL.mono' {M M' : List Addr} {H H' : Hp} (e : ∀ p o, p ∉ M → H p = some o → p ∉ M' ∧ H' p = some o) : ∀ (ds : List D) (xs : List V), AtL M H ds xs → AtL M' H' ds xs
  | [], _, h => h
  | d :: ds, _, h => by
    obtain ⟨x, r, e1, h1, h2⟩ := h
    exact ⟨x, r, e1, At.mono' e d x h1, AtL.mono' e ds r h2⟩
theorem AtP.mono' {M M' : List Addr} {H H' : Hp} (e : ∀ p o, p ∉ M → H p = some o → p ∉ M' ∧ H' p = some o) : ∀ (ds : List (Str × D)) (xs : List (Key × V)), AtP M H ds xs → AtP M' H' ds xs
  | [], _, h => h
  | (k, d) :: ds, _, h => by
    obtain ⟨x, r, e1, h1, h2⟩ := h
    exact ⟨x, r, e1, At.mono' e d x h1, AtP.mono' e ds r h2⟩
end
section
variable {M M' : List Addr} {H H' : Hp} {d : D} {v : V} {ds : List D} {xs : List V}
theorem At.mono (b : But M H H') (h : At M H d v) : At M H' d v := At.mono' (fun p o m e => ⟨m, b.keep p o m e⟩) d v h
theorem AtL.mono (b : But M H H') (h : AtL M H ds xs) : AtL M H' ds xs := AtL.mono' (fun p o m e => ⟨m, b.keep p o m e⟩) ds xs h
/-- fewer objects are excluded -/
theorem At.less (s : ∀ x ∈ M', x ∈ M) (h : At M H d v) : At M' H d v := At.mono' (fun p o m e => ⟨fun z => m (s p z), e⟩) d v h
theorem AtL.less (s : ∀ x ∈ M', x ∈ M) (h : AtL M H ds xs) : AtL M' H ds xs := AtL.mono' (fun p o m e => ⟨fun z => m (s p z), e⟩) ds xs h
/-- an object that does not stand may be excluded -/
theorem At.excl {l : Addr} (n : H l = none) (h : At M H d v) : At (l :: M) H d v := At.mono' (fun p o m e => ⟨fun z => by
  rcases List.mem_cons.mp z with z | z
  · rw [z, n] at e
    cases e
  · exact m z, e⟩) d v h
theorem AtL.excl {l : Addr} (n : H l = none) (h : AtL M H ds xs) : AtL (l :: M) H ds xs := AtL.mono' (fun p o m e => ⟨fun z => by
  rcases List.mem_cons.mp z with z | z
  · rw [z, n] at e
    cases e
  · exact m z, e⟩) ds xs h
/-- v is the data d, made of objects that did not stand in H -/
def New (H H' : Hp) (d : D) (v : V) : Prop := ∀ M, Std M H → At M H' d v
def NewL (H H' : Hp) (ds : List D) (xs : List V) : Prop := ∀ M, Std M H → AtL M H' ds xs
theorem New.mono {H H1 H2 : Hp} {M : List Addr} (n : New H H1 d v) (s : Std M H) (b : But M H1 H2) : New H H2 d v := fun M' s' =>
  At.mono' (M := M' ++ M) (fun p o m e => ⟨fun z => m (List.mem_append.mpr (.inl z)), b.keep p o (fun z => m (List.mem_append.mpr (.inr z))) e⟩) d v (n (M' ++ M) fun x m => (List.mem_append.mp m).elim (s' x) (s x))
theorem NewL.mono {H H1 H2 : Hp} {M : List Addr} (n : NewL H H1 ds xs) (s : Std M H) (b : But M H1 H2) : NewL H H2 ds xs := fun M' s' =>
  AtL.mono' (M := M' ++ M) (fun p o m e => ⟨fun z => m (List.mem_append.mpr (.inl z)), b.keep p o (fun z => m (List.mem_append.mpr (.inr z))) e⟩) ds xs (n (M' ++ M) fun x m => (List.mem_append.mp m).elim (s' x) (s x))
/-- what is new over a later heap is new over an earlier one -/
theorem New.pre {H0 H H' : Hp} (b : ∀ a, H0 a ≠ none → H a ≠ none) (n : New H H' d v) : New H0 H' d v := fun M' s' => n M' fun x m => b x (s' x m)
theorem NewL.pre {H0 H H' : Hp} (b : ∀ a, H0 a ≠ none → H a ≠ none) (n : NewL H H' ds xs) : NewL H0 H' ds xs := fun M' s' => n M' fun x m => b x (s' x m)
theorem NewL.nil {H H' : Hp} : NewL H H' [] [] := fun _ _ => rfl
theorem NewL.cons {H H' : Hp} (h : New H H' d v) (t : NewL H H' ds xs) : NewL H H' (d :: ds) (v :: xs) := fun M s => ⟨v, xs, rfl, h M s, t M s⟩
theorem New.str {H H' : Hp} {x : Str} : New H H' (.str x) (.str x) := fun _ _ => rfl
theorem New.bl {H H' : Hp} {x : Bool} : New H H' (.bl x) (.bl x) := fun _ _ => rfl
theorem New.int {H H' : Hp} {x : Int} : New H H' (.int x) (.int x) := fun _ _ => rfl
theorem New.non {H H' : Hp} : New H H' .non .non := fun _ _ => rfl
theorem NewL.strs {H H' : Hp} : ∀ {xs : List Str}, NewL H H' (xs.map D.str) (xs.map V.str)
  | [] => NewL.nil
  | x :: xs => NewL.cons New.str NewL.strs
/-- a tuple, a list, a dict is laid over new parts -/
theorem New.tup {H H1 : Hp} {p : Addr} (n : NewL H H1 ds xs) (b : ∀ a, H a ≠ none → H1 a ≠ none) (hp : H1 p = none) : New H (upd H1 p (.tup xs)) (.tup ds) (.ref p) := fun M s =>
  ⟨p, xs, rfl, fun m => b p (s p m) hp, upd_same, AtL.mono (But.new hp) (n M s)⟩
theorem New.lst {H H1 : Hp} {p : Addr} (n : NewL H H1 ds xs) (b : ∀ a, H a ≠ none → H1 a ≠ none) (hp : H1 p = none) : New H (upd H1 p (.lst xs)) (.lst ds) (.ref p) := fun M s =>
  ⟨p, xs, rfl, fun m => b p (s p m) hp, upd_same, AtL.mono (But.new hp) (n M s)⟩
theorem AtL.length : ∀ {ds : List D} {xs : List V}, AtL M H ds xs → xs.length = ds.length
  | [], _, h => by
    cases h
    rfl
  | d :: ds, _, h => by
    obtain ⟨x, r, e1, h1, h2⟩ := h
    subst e1
    rw [List.length_cons, List.length_cons, AtL.length h2]
theorem AtL.get : ∀ {ds : List D} {xs : List V} {i : Nat} {x : V}, AtL M H ds xs → xs[i]? = some x → ∃ d, ds[i]? = some d ∧ At M H d x
  | [], _, i, x, h, e => by
    cases h
    simp at e
  | d :: ds, _, 0, x, h, e => by
    obtain ⟨y, r, e1, h1, h2⟩ := h
    subst e1
    simp at e
    subst e
    exact ⟨d, rfl, h1⟩
  | d :: ds, _, i + 1, x, h, e => by
    obtain ⟨y, r, e1, h1, h2⟩ := h
    subst e1
    obtain ⟨d', q1, q2⟩ := AtL.get (i := i) (x := x) h2 (by simpa using e)
    exact ⟨d', by simpa using q1, q2⟩
theorem AtL.snoc : ∀ {ds : List D} {xs : List V} {d : D} {x : V}, AtL M H ds xs → At M H d x → AtL M H (ds ++ [d]) (xs ++ [x])
  | [], _, d, x, h, hx => by
    cases h
    exact ⟨x, [], rfl, hx, rfl⟩
  | d0 :: ds, _, d, x, h, hx => by
    obtain ⟨y, r, e1, h1, h2⟩ := h
    subst e1
    exact ⟨y, r ++ [x], rfl, h1, AtL.snoc h2 hx⟩
end
end Kb

set_option Elab.async false
set_option linter.all false
set_option maxRecDepth 100000
set_option maxHeartbeats 4000000
/-! Kb, 2: the law's drawing machine: what each of its defs promises, and why. -/
namespace Kb
open PySem PySem.Spec PyProof.Rows L2

/-- the machine's state at a: its cells at c, two counters -/
structure StAt (H : Hp) (a c : Addr) : Prop where
  ne : a ≠ c
  st : ∃ p n : Int, H a = some (.lst [.ref c, .int p, .int n])
  cs : ∃ ns : List Int, H c = some (.lst (ns.map V.int)) ∧ ns ≠ [] ∧ ns.length ≤ 63
theorem StAt.mono {H H' : Hp} {a c : Addr} {M : List Addr} (S : StAt H a c) (ha : a ∉ M) (hc : c ∉ M) (b : But M H H') : StAt H' a c := by
  obtain ⟨ne, ⟨p, n, h1⟩, ns, h2, h3⟩ := S
  exact ⟨ne, ⟨p, n, b.keep _ _ ha h1⟩, ns, b.keep _ _ hc h2, h3⟩

theorem StAt.std {H : Hp} {a c : Addr} (S : StAt H a c) : Std [a, c] H := by
  obtain ⟨ne, ⟨p, n, h1⟩, ns, h2, h3⟩ := S
  exact Std.cons h1 (Std.cons h2 Std.nil)
theorem StAt.no {H : Hp} {a c p : Addr} (S : StAt H a c) (h : H p = none) : p ∉ [a, c] := S.std.no h
/-- an object is laid, or one outside is changed -/
theorem StAt.upd {H : Hp} {a c p : Addr} {o : HO} (S : StAt H a c) (h : p ∉ [a, c]) : StAt (upd H p o) a c :=
  S.mono (M := [p]) (fun m => h (by rw [List.mem_singleton.mp m]; simp)) (fun m => h (by rw [List.mem_singleton.mp m]; simp)) (But.refl.upd (.inl (by simp)))
theorem StAt.new {H : Hp} {a c p : Addr} {o : HO} (S : StAt H a c) (h : H p = none) : StAt (L2.upd H p o) a c := S.upd (S.no h)
theorem StAt.nil {H H' : Hp} {a c : Addr} (S : StAt H a c) (b : But [] H H') : StAt H' a c := S.mono (M := []) (by simp) (by simp) b

/-! ### _law_draw -/
def sp_l_draw (K : PySem.W.Frag) : Sp := fun vs H Q _ => ∃ (a c : Addr) (m : Int), vs = [.ref a, .int m] ∧ StAt H a c ∧ 0 < m ∧ m ≤ 1000 ∧
  ∀ (r : Int) (H' : Hp), 0 ≤ r → r < m → StAt H' a c → But [a, c] H H' → Q (.int r) H'
def t_l_draw (K : PySem.W.Frag) : TS :=
  (tSeq (tAsg (tOp (rIxL K) (tVar 0) (tC (.int 0))) (gName 2))
  (tSeq (tAsg (tOp rModI (tCB rInt1 (tCons (tOp (rIxL K) (tVar 0) (tC (.int 1))) tNil)) (tCB (rLenA K) (tCons (tVar 2) tNil))) (gName 3))
  (tSeq (tAsg (tOp rAddI (tOp (rIxL K) (tVar 0) (tC (.int 1))) (tC (.int 1))) (gSub (tVar 0) (tC (.int 1)) rSetL))
  (tSeq (tAsg (tOp (rIxL K) (tVar 2) (tVar 3)) (gName 4))
  (tSeq (tIfS (tTest (tOp rGeI (tVar 4) (tOp rPowI (tC (.int 10)) (tC (.int 18)))))
    (tSeq (tAsg (tOp rDivI (tVar 4) (tVar 1)) (gSub (tVar 2) (tVar 3) rSetL))
  (tRet (tOp rModI (tCB rInt1 (tCons (tVar 4) tNil)) (tVar 1))))
    tNext)
  (tSeq (tAsg (tOp rAddI (tOp (rIxL K) (tVar 0) (tC (.int 2))) (tC (.int 1))) (gSub (tVar 0) (tC (.int 2)) rSetL))
  (tSeq (tAsg (tOp rModI (tCB rInt1 (tCons (tOp rMulI (tOp rAddI (tOp rAddI (tVar 4) (tOp rMulI (tC (.int 7919)) (tOp (rIxL K) (tVar 0) (tC (.int 2))))) (tC (.int 1))) (tC (.int 48271))) tNil)) (tC (.int 2147483647))) (gName 5))
  (tSeq (tAsg (tOp rModI (tCB rInt1 (tCons (tOp rMulI (tVar 5) (tOp rAddI (tOp rDivI (tVar 5) (tC (.int 1009))) (tC (.int 69621)))) tNil)) (tC (.int 2147483647))) (gName 5))
  (tSeq (tAsg (tOp rModI (tCB rInt1 (tCons (tOp rMulI (tVar 5) (tOp rAddI (tOp rDivI (tVar 5) (tC (.int 2003))) (tC (.int 40692)))) tNil)) (tC (.int 2147483399))) (gName 5))
  (tRet (tOp rModI (tCB rInt1 (tCons (tOp rDivI (tVar 5) (tC (.int 16))) tNil)) (tVar 1))))))))))))

theorem fmod_lo {x y : Int} (h : 0 < y) : 0 ≤ x.fmod y := by
  rw [Int.fmod_eq_emod_of_nonneg _ (Int.le_of_lt h)]
  exact Int.emod_nonneg _ (by omega)
theorem fmod_hi {x y : Int} (h : 0 < y) : x.fmod y < y := by
  rw [Int.fmod_eq_emod_of_nonneg _ (Int.le_of_lt h)]
  exact Int.emod_lt_of_pos _ h
theorem cmul_fmod {x y : Int} (h : 0 < y) (h2 : y ≤ 9223372036854775808) : -(2 ^ 64) < x.fmod y ∧ x.fmod y < 2 ^ 64 := by
  have a := fmod_lo (x := x) h
  have b := fmod_hi (x := x) h
  exact ⟨by omega, by omega⟩
theorem set_int {ns : List Int} {j : Nat} {z : Int} : (ns.map V.int).set j (.int z) = (ns.set j z).map V.int := by
  rw [List.map_set]

theorem pure_l_draw {K : PySem.W.Frag} (vs : List V) (H : Hp) (Q : VK) (E : XK) (h : sp_l_draw K vs H Q E) : t_l_draw K (fin Q) (st0 6 vs) H := by
  obtain ⟨a, c, m, rfl, S, hm, hm2, k⟩ := h
  obtain ⟨ne, ⟨p, n, hs⟩, ns, hc, hne, hlen⟩ := S
  have hl0 : (0 : Int) < (ns.length : Int) := by
    cases ns with
    | nil => exact absurd rfl hne
    | cons _ _ => simp only [List.length_cons]; omega
  have hlm : (ns.map V.int).length = ns.length := List.length_map ..
  -- cells = s[0]
  refine ⟨_, rfl, _, _, _, _, rfl, rfl, SqL.of hs, rfl, ?_⟩
  -- place = int(s[1]) % len(cells)
  refine ⟨_, rfl, _, _, _, _, rfl, rfl, SqL.of hs, rfl, .inl ⟨p, rfl, _, rfl, _, (ns.map V.int).length, rfl, .inl ⟨_, SqL.of hc, rfl⟩, _, _, rfl, rfl, (by rw [hlm]; omega), ?_⟩⟩
  -- s[1] = s[1] + 1
  refine ⟨_, rfl, _, _, _, _, rfl, rfl, SqL.of hs, rfl, _, _, rfl, rfl, _, rfl, _, _, _, 1, rfl, rfl, hs, rfl, ?_⟩
  -- number = cells[place]
  have j0 : 0 ≤ p.fmod ((ns.map V.int).length : Int) := by rw [hlm]; exact fmod_lo hl0
  have j1 : p.fmod ((ns.map V.int).length : Int) < (ns.length : Int) := by rw [hlm]; exact fmod_hi hl0
  obtain ⟨i, hj⟩ : ∃ i : Nat, p.fmod ((ns.map V.int).length : Int) = (i : Int) := ⟨_, (Int.toNat_of_nonneg j0).symm⟩
  have hi : i < ns.length := by omega
  have hx : (ns.map V.int)[i]? = some (.int ns[i]) := by rw [List.getElem?_map, List.getElem?_eq_getElem hi] <;> rfl
  have hc1 : ∀ o, (upd H a o) c = some (.lst (ns.map V.int)) := fun o => by rw [upd_ne (Ne.symm ne)]; exact hc
  refine ⟨_, rfl, _, rfl, _, _, _, _, rfl, rfl, SqL.of (hc1 _), at_of hj hx, ?_⟩
  -- if number >= 10 ** 18
  have hixn : ixN (ns.map V.int).length (p.fmod ((ns.map V.int).length : Int)) = some i := by
    rw [hj]
    unfold ixN
    rw [if_pos (by omega), if_pos (by rw [hlm]; omega)]
    rfl
  refine ⟨_, rfl, _, _, rfl, rfl, ⟨by decide, by decide, by decide⟩, _, _, rfl, rfl, _, rfl, ?_⟩
  refine ite2 (fun _ => ?_) (fun _ => ?_)
  · -- cells[place] = number // m; return int(number) % m
    refine ⟨_, rfl, _, rfl, _, _, rfl, rfl, ⟨by omega, by omega⟩, _, rfl, _, rfl, _, _, _, i, rfl, rfl, hc1 _, hixn, ?_⟩
    refine ⟨_, rfl, .inl ⟨_, rfl, _, rfl, _, _, rfl, rfl, (by omega), ?_⟩⟩
    refine k _ _ (fmod_lo hm) (fmod_hi hm) ⟨ne, ⟨p + 1, n, ?_⟩, ns.set i (ns[i].fdiv m), ?_, ?_, ?_⟩ ?_
    · rw [upd_ne ne, upd_same]
      rfl
    · rw [upd_same, set_int]
    · intro z
      have := congrArg List.length z
      rw [List.length_set] at this
      simp at this
      exact hne this
    · rw [List.length_set]
      exact hlen
    · exact (But.refl.upd (.inl (by simp))).upd (.inl (by simp))
  · -- s[2] = s[2] + 1
    refine ⟨_, rfl, _, _, _, _, rfl, rfl, SqL.of upd_same, rfl, _, _, rfl, rfl, _, rfl, _, _, _, 2, rfl, rfl, upd_same, rfl, ?_⟩
    -- mixed
    refine ⟨_, rfl, _, rfl, _, _, _, _, rfl, rfl, SqL.of upd_same, rfl, _, _, rfl, rfl, .inl ⟨by decide, by decide⟩, _, _, rfl, rfl, _, _, rfl, rfl, _, _, rfl, rfl, .inr ⟨by decide, by decide⟩, .inl ⟨_, rfl, _, _, rfl, rfl, (by show (_ : Int) ≠ 0; decide), ?_⟩⟩
    refine ⟨_, rfl, _, rfl, _, _, rfl, rfl, ⟨by decide, by decide⟩, _, _, rfl, rfl, _, _, rfl, rfl,   .inl (cmul_fmod (by decide) (by decide)), .inl ⟨_, rfl, _, _, rfl, rfl, (by show (_ : Int) ≠ 0; decide), ?_⟩⟩
    refine ⟨_, rfl, _, rfl, _, _, rfl, rfl, ⟨by decide, by decide⟩, _, _, rfl, rfl, _, _, rfl, rfl,   .inl (cmul_fmod (by decide) (by decide)), .inl ⟨_, rfl, _, _, rfl, rfl, (by show (_ : Int) ≠ 0; decide), ?_⟩⟩
    refine ⟨_, rfl, _, _, rfl, rfl, ⟨by decide, by decide⟩, .inl ⟨_, rfl, _, rfl, _, _, rfl, rfl, (by omega), ?_⟩⟩
    refine k _ _ (fmod_lo hm) (fmod_hi hm) ⟨ne, ⟨p + 1, n + 1, ?_⟩, ns, ?_, hne, hlen⟩ ?_
    · rw [upd_same]
      rfl
    · rw [upd_ne (Ne.symm ne)]
      exact hc1 _
    · exact (But.refl.upd (.inl (by simp))).upd (.inl (by simp))
end Kb
namespace Kb
open PySem PySem.Spec PyProof.Rows L2
theorem len_l_draw {K : PySem.W.Frag} {vs : List V} {H : Hp} {Q : VK} {E : XK} (h : sp_l_draw K vs H Q E) : vs.length = 2 := by
  obtain ⟨a, c, m, rfl, _⟩ := h
  rfl
end Kb

set_option Elab.async false
set_option linter.all false
set_option maxRecDepth 100000
set_option maxHeartbeats 4000000
/-! Kb, 3: names and lists that are drawn. -/
namespace Kb
open PySem PySem.Spec PyProof.Rows L2

abbrev cs (x : Str) : List Nat := x.cps.toList
/-- a name: 1 to 8 letters from a to z -/
structure IsName (x : Str) : Prop where
  lo : 1 ≤ (cs x).length
  hi : (cs x).length ≤ 8
  az : ∀ c ∈ cs x, 97 ≤ c ∧ c ≤ 122
def AZ : Str := "abcdefghijklmnopqrstuvwxyz"
theorem az_get {i : Nat} (h : i < 26) : (cs AZ)[i]? = some (97 + i) := by
  have a : ∀ i, i < 26 → (cs AZ)[i]? = some (97 + i) := by decide +kernel
  exact a i h
theorem az_len : AZ.length ≤ sizeLine := by decide +kernel
theorem az_cs : cs AZ = (List.range 26).map (97 + ·) := by decide +kernel
theorem az_mem {c : Nat} : c ∈ cs AZ ↔ 97 ≤ c ∧ c ≤ 122 := by
  rw [az_cs]
  simp only [List.mem_map, List.mem_range]
  constructor
  · rintro ⟨a, h, rfl⟩
    omega
  · intro h
    exact ⟨c - 97, by omega, by omega⟩
theorem joinL_one : ∀ ps : List (List Nat), TL.joinL [] ps = ps.flatten
  | [] => rfl
  | [p] => by simp [TL.joinL]
  | p :: q :: r => by
    show p ++ ([] ++ TL.joinL [] (q :: r)) = _
    rw [joinL_one (q :: r), List.nil_append]
    simp only [List.flatten_cons]
theorem cs_one (c : Nat) : cs (⟨#[c]⟩ : Str) = [c] := rfl
theorem cs_join {ns : List Nat} : cs (Txt.join ("" : Str) (ns.map fun c => (⟨#[c]⟩ : Str))) = ns := by
  have e := TL.tl_join ("" : Str) (ns.map fun c => (⟨#[c]⟩ : Str))
  have e2 : TL.tl ("" : Str) = [] := by decide +kernel
  rw [e2, joinL_one, List.map_map] at e
  rw [TL.join_eq]
  refine Eq.trans e ?_
  clear e e2
  induction ns with
  | nil => rfl
  | cons a l ih =>
    rw [List.map_cons, List.flatten_cons, ih]
    rfl
theorem str_ext {x y : Str} (h : cs x = cs y) : x = y := by
  cases x with
  | mk a =>
    cases y with
    | mk b =>
      have : a.toList = b.toList := h
      rw [Array.toList_inj.mp this]
theorem pigeon {α : Type} [DecidableEq α] : ∀ {l ws : List α}, l.Nodup → (∀ x ∈ l, x ∈ ws) → l.length ≤ ws.length
  | [], ws, _, _ => Nat.zero_le _
  | x :: l, ws, hn, hs => by
    obtain ⟨h1, h2⟩ := List.nodup_cons.mp hn
    have hx : x ∈ ws := hs x (List.mem_cons_self ..)
    have h3 : l.length ≤ (ws.erase x).length := pigeon h2 fun y hy => by
      have hne : y ≠ x := fun z => h1 (z ▸ hy)
      exact (List.mem_erase_of_ne hne).mpr (hs y (List.mem_cons_of_mem _ hy))
    have h4 := List.length_erase_of_mem hx
    have h5 : 0 < ws.length := List.length_pos_of_mem hx
    rw [List.length_cons]
    omega

/-! ### flat lists -/
theorem flat_strs {ws : List Str} : (ws.map V.str).all flatV = true := by
  rw [List.all_map]
  exact List.all_eq_true.mpr fun _ _ => rfl
theorem inV_strs {w : Str} {ws : List Str} : inV (.str w) (ws.map V.str) = decide (w ∈ ws) := by
  unfold inV
  rw [List.any_map]
  induction ws with
  | nil => rfl
  | cons a l ih =>
    rw [List.any_cons, ih]
    have e : ((fun y => eqV y (V.str w)) ∘ V.str) a = decide (a = w) := by
      show (a == w) = _
      by_cases h : a = w
      · rw [h, decide_eq_true rfl]
        exact beq_self_eq_true w
      · rw [decide_eq_false h]
        exact beq_eq_false_iff_ne.mpr h
    rw [e]
    by_cases h : a = w
    · subst h
      simp
    · have h' : ¬ w = a := fun z => h z.symm
      simp [h, h']

/-! ### _law_pick -/
def sp_l_pick (K : PySem.W.Frag) : Sp := fun vs H Q _ => ∃ (a c r : Addr) (xs : List V), vs = [.ref a, .ref r] ∧ StAt H a c ∧ r ∉ [a, c] ∧ H r = some (.lst xs) ∧ xs ≠ [] ∧ xs.length ≤ 1000 ∧
  ∀ (x : V) (H' : Hp), x ∈ xs → StAt H' a c → But [a, c] H H' → Q x H'
theorem len_l_pick {K : PySem.W.Frag} {vs : List V} {H : Hp} {Q : VK} {E : XK} (h : sp_l_pick K vs H Q E) : vs.length = 2 := by
  obtain ⟨a, c, m, xs, rfl, _⟩ := h
  rfl
def t_l_pick (K : PySem.W.Frag) : TS :=
  (tRet (tOp (rIxL K) (tVar 1) (tCall (sp_l_draw K) [] E0 (tCons (tVar 0) (tCons (tCB (rLenA K) (tCons (tVar 1) tNil)) tNil)))))
theorem idx_of {n : Int} {k : Nat} (h0 : 0 ≤ n) (h1 : n < (k : Int)) : ∃ i : Nat, n = (i : Int) ∧ i < k := ⟨n.toNat, by omega, by omega⟩
theorem pure_l_pick {K : PySem.W.Frag} (vs : List V) (H : Hp) (Q : VK) (E : XK) (h : sp_l_pick K vs H Q E) : t_l_pick K (fin Q) (st0 2 vs) H := by
  obtain ⟨a, c, r, xs, rfl, S, hr, hx, hne, hl, k⟩ := h
  have h0 : 0 < xs.length := List.length_pos_iff.mpr hne
  refine ⟨_, rfl, _, rfl, _, rfl, _, xs.length, rfl, .inl ⟨_, SqL.of hx, rfl⟩, a, c, xs.length, rfl, S, by omega, by omega, fun n H' h1 h2 S' B => ?_⟩
  obtain ⟨i, rfl, hi⟩ := idx_of h1 h2
  exact ⟨_, _, _, _, rfl, rfl, SqL.of (B.keep _ _ hr hx), atI_nat (List.getElem?_eq_getElem hi), k _ _ (List.getElem_mem hi) S' B⟩

/-! ### _law_word -/
def sp_l_word (K : PySem.W.Frag) : Sp := fun vs H Q _ => ∃ (a c r : Addr) (ws : List Str), vs = [.ref a, .ref r] ∧ StAt H a c ∧ r ∉ [a, c] ∧ H r = some (.lst (ws.map V.str)) ∧ ws.length ≤ 11 ∧
  ∀ (w : Str) (H' : Hp), IsName w → w ∉ ws → StAt H' a c → But [a, c] H H' → Q (.str w) H'
theorem len_l_word {K : PySem.W.Frag} {vs : List V} {H : Hp} {Q : VK} {E : XK} (h : sp_l_word K vs H Q E) : vs.length = 2 := by
  obtain ⟨a, c, m, xs, rfl, _⟩ := h
  rfl
def t_l_word (K : PySem.W.Frag) : TS :=
  (tSeq (tAsg (tC (.str ("abcdefghijklmnopqrstuvwxyz" : Str))) (gName 2))
  (tSeq (tAsg (tOp (rIxL K) (tLst (tCons (tC (.int 1)) (tCons (tC (.int 1)) (tCons (tC (.int 2)) (tCons (tC (.int 8)) (tCons (tC (.int 3)) (tCons (tC (.int 5)) (tCons (tC (.int 4)) (tCons (tC (.int 7)) (tCons (tC (.int 6)) tNil)))))))))) (tCall (sp_l_draw K) [] E0 (tCons (tVar 0) (tCons (tC (.int 9)) tNil)))) (gName 3))
  (tSeq (tAsg (tM1 (rJoin K) (tC (.str ("" : Str))) (tLc (iRng1 (tCons (tVar 3) tNil)) (gName 5) tYes (tOp rIxS (tVar 2) (tCall (sp_l_draw K) [] E0 (tCons (tVar 0) (tCons (tC (.int 26)) tNil)))) [5])) (gName 4))
  (tSeq (tIfS (tTest (tOp (rIn K false) (tVar 4) (tVar 1)))
    (tRet (tOp (rIxL K) (tLc (iStr (tC (.str ("qwertyuiopas" : Str)))) (gName 6) (tTest (tOp (rIn K true) (tVar 6) (tVar 1))) (tVar 6) [6]) (tC (.int 0))))
    tNext)
  (tRet (tVar 4))))))
def QW : Str := "qwertyuiopas"
theorem qw_name : ∀ c ∈ cs QW, IsName (⟨#[c]⟩ : Str) := by
  have h : ∀ c ∈ cs QW, 97 ≤ c ∧ c ≤ 122 := by decide +kernel
  intro c hc
  refine ⟨by rw [cs_one, List.length_singleton]; decide, by rw [cs_one, List.length_singleton]; decide, fun d hd => ?_⟩
  rw [cs_one] at hd
  rw [List.mem_singleton.mp hd]
  exact h c hc
theorem qw_free {ws : List Str} (h : ws.length ≤ 11) : ∃ c ∈ cs QW, (⟨#[c]⟩ : Str) ∉ ws := by
  refine Classical.byContradiction fun n => ?_
  have hn : ((cs QW).map fun c => (⟨#[c]⟩ : Str)).Nodup := by decide +kernel
  have hl : ((cs QW).map fun c => (⟨#[c]⟩ : Str)).length = 12 := by decide +kernel
  have := pigeon (ws := ws) hn fun x hx => by
    obtain ⟨c, hc, rfl⟩ := List.mem_map.mp hx
    exact Classical.byContradiction fun z => n ⟨c, hc, z⟩
  omega
theorem sum_ones : ∀ ns : List Nat, ((ns.map fun c => (⟨#[c]⟩ : Str)).map (·.length)).sum = ns.length
  | [] => rfl
  | c :: ns => by
    rw [List.map_cons, List.map_cons, List.sum_cons, List.length_cons, sum_ones ns]
    show 1 + _ = _
    omega
theorem word_tail {K : PySem.W.Frag} {r : Addr} {ws : List Str} {w : Str} {H : Hp} {Q : VK} {σ : L2.St} (hw : ws.length ≤ 11) (h1 : σ[1]? = some (some (.ref r))) (h4 : σ[4]? = some (some (.str w))) (hσ : σ.length = 7) (hr : H r = some (.lst (ws.map V.str))) (nw : IsName w)
    (k : ∀ (w : Str) (H' : Hp), IsName w → w ∉ ws → But [] H H' → Q (.str w) H') :
    (tSeq (tIfS (tTest (tOp (rIn K false) (tVar 4) (tVar 1)))
    (tRet (tOp (rIxL K) (tLc (iStr (tC (.str ("qwertyuiopas" : Str)))) (gName 6) (tTest (tOp (rIn K true) (tVar 6) (tVar 1))) (tVar 6) [6]) (tC (.int 0))))
    tNext)
  (tRet (tVar 4))) (fin Q) σ H := by
  refine ⟨_, h4, _, h1, _, _, rfl, .inl (SqL.of hr), rfl, flat_strs, _, rfl, ?_⟩
  show (if (if false = true then !inV (V.str w) (ws.map V.str) else inV (V.str w) (ws.map V.str)) = true then _ else _)
  rw [if_neg Bool.false_ne_true, inV_strs]
  refine ite2 (fun _ => ?_) (fun hnw => ?_)
  · -- [x for x in 'qwertyuiopas' if x not in taken][0]
    refine ⟨QW, rfl, fun Dl hD => ?_⟩
    refine lc_it walk_str (fun i H' => ∃ acc : List Str, H' Dl = some (.lst (acc.map V.str)) ∧ acc.length ≤ i ∧ (∀ x ∈ acc, x ∉ ws ∧ IsName x) ∧ (∀ (j : Nat) ch, j < i → (cs QW)[j]? = some ch → (⟨#[ch]⟩ : Str) ∉ ws → acc ≠ []) ∧ But [] H H')
      ⟨[], upd_same, Nat.le_refl _, (fun _ z => by cases z), (fun j ch hj _ _ => absurd hj (Nat.not_lt_zero _)), But.new hD⟩ (fun _ _ _ _ => trivial) ?_ ?_
    · rintro i x H1 H2 hi ⟨acc, g1, g2, g3, g4, B⟩ ⟨rfl, ch, hch, rfl⟩
      have hch' : (cs QW)[i]? = some ch := by rw [Array.getElem?_toList]; exact hch
      have hmem : ch ∈ cs QW := List.mem_of_getElem? hch'
      have hr1 : H2 r = some (.lst (ws.map V.str)) := B.keep _ _ (by simp) hr
      have e6 : ∀ z : Option V, (((wipe σ [6]).set 6 z))[6]? = some z := fun z => by
        rw [List.getElem?_set_self]
        rw [wipe_length, hσ]
        decide
      have e1 : ∀ z : Option V, (((wipe σ [6]).set 6 z))[1]? = some (some (.ref r)) := fun z => by
        show ((σ.set 6 none).set 6 z)[1]? = _
        rw [List.getElem?_set_ne (by decide), List.getElem?_set_ne (by decide)]
        exact h1
      refine ⟨by show ((σ.set 6 none).set 6 _).set 6 none = σ.set 6 none; rw [List.set_set, List.set_set], _, e6 _, _, e1 _, _, _, rfl, .inl (SqL.of hr1), rfl, flat_strs, _, rfl, ?_⟩
      show (if (if true = true then !inV (V.str ⟨#[ch]⟩) (ws.map V.str) else inV (V.str ⟨#[ch]⟩) (ws.map V.str)) = true then _ else _)
      rw [if_pos rfl, inV_strs]
      refine ite2 (fun hin => ?_) (fun hin => ?_)
      · have hni : (⟨#[ch]⟩ : Str) ∉ ws := by simpa using hin
        refine ⟨_, e6 _, _, g1, ?_, acc ++ [⟨#[ch]⟩], ?_, ?_, ?_, ?_, ?_⟩
        · have : QW.cps.size = 12 := by decide +kernel
          rw [List.length_map]
          exact small1000 (by omega)
        · rw [upd_same, List.map_append]
          rfl
        · rw [List.length_append]
          simp
          omega
        · intro x hx
          rcases List.mem_append.mp hx with hx | hx
          · exact g3 x hx
          · rw [List.mem_singleton.mp hx]
            exact ⟨hni, qw_name ch hmem⟩
        · intro j c' hj hc' hf z
          exact absurd (congrArg List.length z) (by simp)
        · exact B.upd (.inr hD)
      · have hyi : (⟨#[ch]⟩ : Str) ∈ ws := by simpa using hin
        refine ⟨acc, g1, by omega, g3, fun j c' hj hc' hf => ?_, B⟩
        by_cases hji : j = i
        · subst hji
          rw [hch'] at hc'
          exact absurd hyi (by rw [Option.some.inj hc']; exact hf)
        · exact g4 j c' (by omega) hc' hf
    · rintro H1 ⟨acc, g1, g2, g3, g4, B⟩
      obtain ⟨ch, hm, hf⟩ := qw_free hw
      obtain ⟨j, hj, ej⟩ := List.getElem_of_mem hm
      have hne : acc ≠ [] := g4 j ch (by simpa using hj) (by rw [List.getElem?_eq_getElem hj, ej]) hf
      cases acc with
      | nil => exact absurd rfl hne
      | cons w0 r0 =>
        obtain ⟨h5, h6⟩ := g3 w0 (List.mem_cons_self ..)
        exact ⟨_, _, _, _, rfl, rfl, SqL.of g1, at_of (j := 0) rfl rfl, k _ _ h6 h5 B⟩
  · exact ⟨_, h4, k w H nw (by simpa using hnw) But.refl⟩
theorem pure_l_word {K : PySem.W.Frag} (vs : List V) (H : Hp) (Q : VK) (E : XK) (h : sp_l_word K vs H Q E) : t_l_word K (fin Q) (st0 7 vs) H := by
  obtain ⟨a, c, r, ws, rfl, S, hr, hx, hl, k⟩ := h
  refine ⟨by show 9 ≤ sizeLine; decide, fun p hp => ?_⟩
  refine ⟨_, rfl, a, c, 9, rfl, S.mono (M := []) (by simp) (by simp) (But.new hp), by decide, by decide, fun n H1 h1 h2 S1 B1 => ?_⟩
  have npa : p ∉ [a, c] := S.no hp
  obtain ⟨i, rfl, hi⟩ := idx_of (k := 9) h1 h2
  have hp1 := B1.keep p _ npa upd_same
  have hsz : ∃ z : Nat, ([1, 1, 2, 8, 3, 5, 4, 7, 6] : List Int)[i]? = some (z : Int) ∧ 1 ≤ z ∧ z ≤ 8 := by
    have : ∀ i, i < 9 → ∃ z : Nat, z ≤ 8 ∧ ([1, 1, 2, 8, 3, 5, 4, 7, 6] : List Int)[i]? = some (z : Int) ∧ 1 ≤ z := by decide
    obtain ⟨z, z1, z2, z3⟩ := this i hi
    exact ⟨z, z2, z3, z1⟩
  obtain ⟨z, hz, z1, z8⟩ := hsz
  have hz' : ([.int 1, .int 1, .int 2, .int 8, .int 3, .int 5, .int 4, .int 7, .int 6] : List V)[i]? = some (.int (z : Int)) := by
    have e : ([.int 1, .int 1, .int 2, .int 8, .int 3, .int 5, .int 4, .int 7, .int 6] : List V) = ([1, 1, 2, 8, 3, 5, 4, 7, 6] : List Int).map V.int := rfl
    rw [e, List.getElem?_map, hz]
    rfl
  refine ⟨_, _, _, _, rfl, rfl, SqL.of hp1, atI_nat hz', ?_⟩
  have B01 : But [a, c] H H1 := (But.new hp).trans B1
  -- ''.join([letters[draw(26)] for k in range(size)])
  refine ⟨⟨_, rfl⟩, _, rfl, (z : Int), rfl, by omega, by omega, fun Dl hD => ?_⟩
  refine lc_it walk_range (fun i H' => ∃ ns : List Nat, H' Dl = some (.lst ((ns.map fun c => (⟨#[c]⟩ : Str)).map V.str)) ∧ ns.length = i ∧ (∀ c ∈ ns, 97 ≤ c ∧ c ≤ 122) ∧ StAt H' a c ∧ But [a, c] H H' ∧ Dl ∉ [a, c])
    ⟨[], upd_same, rfl, (fun _ z => by cases z), S1.mono (M := []) (by simp) (by simp) (But.new hD), B01.upd' hD, S1.no hD⟩ (fun _ _ _ _ => trivial) ?_ ?_
  · rintro i x H2 H3 hi' ⟨ns, g1, g2, g3, g4, g5, g6⟩ ⟨rfl, rfl⟩
    refine ⟨rfl, _, rfl, _, rfl, a, c, 26, rfl, g4, by decide, by decide, fun n H4 e1 e2 S4 B4 => ?_⟩
    obtain ⟨j, rfl, hj⟩ := idx_of (k := 26) e1 e2
    have g1' := B4.keep Dl _ g6 g1
    refine ⟨AZ, _, _, rfl, rfl, az_len, atI_nat (az_get hj), _, g1', ?_, ns ++ [97 + j], ?_, ?_, ?_, ?_, ?_, g6⟩
    · rw [List.length_map, List.length_map]
      exact small1000 (by omega)
    · rw [upd_same, List.map_append, List.map_append]
      rfl
    · rw [List.length_append, g2]
      rfl
    · intro c' hc'
      rcases List.mem_append.mp hc' with h | h
      · exact g3 c' h
      · rw [List.mem_singleton.mp h]
        omega
    · exact S4.mono (M := [Dl]) (fun m => g6 (by rw [List.mem_singleton.mp m]; simp)) (fun m => g6 (by rw [List.mem_singleton.mp m]; simp)) (But.refl.upd (.inl (by simp)))
    · exact (g5.trans B4).upd (.inr (B01.free hD))
  · rintro H2 ⟨ns, g1, g2, g3, g4, g5, g6⟩
    have hlen := sum_ones ns
    have hz0 : (("" : Str)).length = 0 := by decide +kernel
    refine ⟨_, _, _, rfl, rfl, .inl (SqL.of g1), by rw [hlen, hz0]; omega, ?_⟩
    have nm : IsName (Txt.join ("" : Str) (ns.map fun c => (⟨#[c]⟩ : Str))) := by
      refine ⟨?_, ?_, ?_⟩
      · rw [cs_join]; omega
      · rw [cs_join]; omega
      · rw [cs_join]; exact g3
    exact word_tail hl rfl rfl rfl (g5.keep _ _ hr hx) nm fun w H3 n1 n2 B3 => k w H3 n1 n2 (g4.mono (M := []) (by simp) (by simp) B3) (g5.trans B3.nil)
end Kb

set_option Elab.async false
set_option linter.all false
set_option maxRecDepth 100000
set_option maxHeartbeats 4000000
/-! Kb, 4: lists of names, parts of lists, shuffled lists. -/
namespace Kb
open PySem PySem.Spec PyProof.Rows L2

/-! ### _law_words -/
def sp_l_words (K : PySem.W.Frag) : Sp := fun vs H Q _ => ∃ (a c : Addr) (m : Nat), vs = [.ref a, .int (m : Int)] ∧ StAt H a c ∧ m ≤ 11 ∧
  ∀ (ws : List Str) (l : Addr) (H' : Hp), ws.length = m → (∀ w ∈ ws, IsName w) → ws.Nodup → H l = none → H' l = some (.lst (ws.map V.str)) → StAt H' a c → But [a, c] H H' → Q (.ref l) H'
theorem len_l_words {K : PySem.W.Frag} {vs : List V} {H : Hp} {Q : VK} {E : XK} (h : sp_l_words K vs H Q E) : vs.length = 2 := by
  obtain ⟨a, c, m, rfl, _⟩ := h
  rfl
def t_l_words (K : PySem.W.Frag) : TS :=
  (tSeq (tAsg (tLst tNil) (gName 2))
  (tSeq (tFor (iRng1 (tCons (tVar 1) tNil)) (gName 3)
    (tDrop (tBM K "list" rAppend (tVar 2) (tCons (tCall (sp_l_word K) [] E0 (tCons (tVar 0) (tCons (tVar 2) tNil))) tNil))))
  (tRet (tVar 2))))
theorem sz0 : 0 ≤ sizeLine := Nat.zero_le _
theorem pure_l_words {K : PySem.W.Frag} (vs : List V) (H : Hp) (Q : VK) (E : XK) (h : sp_l_words K vs H Q E) : t_l_words K (fin Q) (st0 4 vs) H := by
  obtain ⟨a, c, m, rfl, S, hm, k⟩ := h
  refine ⟨sz0, fun l hl => ?_⟩
  have nl := S.no hl
  refine ⟨_, rfl, (m : Int), rfl, by omega, by omega, for_range (fun i σ H' => ∃ (ws : List Str) (v : Option V), σ = [some (.ref a), some (.int (m : Int)), some (.ref l), v] ∧ ws.length = i ∧ (∀ w ∈ ws, IsName w) ∧ ws.Nodup ∧
    H' l = some (.lst (ws.map V.str)) ∧ StAt H' a c ∧ But [a, c] H H') ⟨[], none, rfl, rfl, (fun _ z => by cases z), List.nodup_nil, upd_same, S.new hl, But.new hl⟩ ?_ ?_⟩
  · rintro i σ H1 hi ⟨ws, v, rfl, h1, h2, h3, h4, S1, B1⟩
    have hi' : i < m := by omega
    refine ⟨_, rfl, .inl ⟨rfl, _, SqL.of h4⟩, _, rfl, _, rfl, a, c, l, ws, rfl, S1, nl, h4, by omega, fun w H2 n1 n2 S2 B2 => ?_⟩
    have h4' := B2.keep _ _ nl h4
    refine ⟨_, _, _, rfl, rfl, h4', by rw [List.length_map]; exact small1000 (by omega), ws ++ [w], _, rfl, by rw [List.length_append, h1]; rfl, ?_, nd_snoc h3 n2, ?_, S2.upd nl, (B1.trans B2).upd (.inr hl)⟩
    · intro x hx
      rcases List.mem_append.mp hx with hx | hx
      · exact h2 x hx
      · rw [List.mem_singleton.mp hx]
        exact n1
    · rw [upd_same, List.map_append]
      rfl
  · rintro σ H1 ⟨ws, v, rfl, h1, h2, h3, h4, S1, B1⟩
    exact ⟨_, rfl, k ws l H1 (by simpa using h1) h2 h3 hl h4 S1 B1⟩

/-! ### _law_some -/
def sp_l_some (K : PySem.W.Frag) : Sp := fun vs H Q _ => ∃ (a c r : Addr) (xs : List V), vs = [.ref a, .ref r] ∧ StAt H a c ∧ r ∉ [a, c] ∧ H r = some (.lst xs) ∧ xs.length ≤ 1000 ∧
  ∀ (ys : List V) (l : Addr) (H' : Hp), ys.Sublist xs → H l = none → H' l = some (.lst ys) → StAt H' a c → But [a, c] H H' → Q (.ref l) H'
theorem len_l_some {K : PySem.W.Frag} {vs : List V} {H : Hp} {Q : VK} {E : XK} (h : sp_l_some K vs H Q E) : vs.length = 2 := by
  obtain ⟨a, c, m, xs, rfl, _⟩ := h
  rfl
def t_l_some (K : PySem.W.Frag) : TS :=
  (tRet (tLc (iList K (tVar 1)) (gName 2) (tTest (tOp rEq (tCall (sp_l_draw K) [] E0 (tCons (tVar 0) (tCons (tC (.int 2)) tNil))) (tC (.int 1)))) (tVar 2) [2]))
theorem pure_l_some {K : PySem.W.Frag} (vs : List V) (H : Hp) (Q : VK) (E : XK) (h : sp_l_some K vs H Q E) : t_l_some K (fin Q) (st0 3 vs) H := by
  obtain ⟨a, c, r, xs, rfl, S, hr, hx, hl, k⟩ := h
  refine ⟨_, rfl, r, rfl, ⟨_, SqL.of hx⟩, fun Dl hD => ?_⟩
  have nl := S.no hD
  refine lc_it (walk_list (xs := xs)) (fun i H' => ∃ acc : List V, H' Dl = some (.lst acc) ∧ acc.Sublist (xs.take i) ∧ StAt H' a c ∧ But [a, c] H H')
    ⟨[], upd_same, by simp, S.new hD, But.new hD⟩ (fun i H' _ ⟨_, _, _, _, B⟩ => SqL.of (B.keep _ _ hr hx)) ?_ ?_
  · rintro i x H1 H2 hi ⟨acc, h1, h2, S1, B1⟩ ⟨rfl, hxi⟩
    have et : xs.take (i + 1) = xs.take i ++ [x] := by
      rw [List.take_add_one, hxi]
      rfl
    have hal : acc.length ≤ 1000 := by
      have := h2.length_le
      rw [List.length_take] at this
      omega
    refine ⟨rfl, _, rfl, a, c, 2, rfl, S1, by decide, by decide, fun n H3 e1 e2 S3 B3 => ⟨rfl, _, rfl, ?_⟩⟩
    refine ite2 (fun _ => ?_) (fun _ => ?_)
    · refine ⟨_, rfl, acc, B3.keep _ _ nl h1, small1000 hal, acc ++ [x], upd_same, ?_, S3.upd nl, (B1.trans B3).upd (.inr hD)⟩
      rw [et]
      exact List.Sublist.append h2 (List.Sublist.refl _)
    · refine ⟨acc, B3.keep _ _ nl h1, ?_, S3, B1.trans B3⟩
      rw [et]
      exact h2.trans (List.sublist_append_left _ _)
  · rintro H1 ⟨acc, h1, h2, S1, B1⟩
    rw [List.take_length] at h2
    exact k acc Dl H1 h2 hD h1 S1 B1

/-! ### _law_shuffled -/
def sp_l_shuffled (K : PySem.W.Frag) : Sp := fun vs H Q _ => ∃ (a c r : Addr) (xs : List V), vs = [.ref a, .ref r] ∧ StAt H a c ∧ r ∉ [a, c] ∧ H r = some (.lst xs) ∧ xs.length ≤ 1000 ∧
  ∀ (ys : List V) (l : Addr) (H' : Hp), ys.Perm xs → H l = none → H' l = some (.lst ys) → StAt H' a c → But [a, c] H H' → Q (.ref l) H'
theorem len_l_shuffled {K : PySem.W.Frag} {vs : List V} {H : Hp} {Q : VK} {E : XK} (h : sp_l_shuffled K vs H Q E) : vs.length = 2 := by
  obtain ⟨a, c, m, xs, rfl, _⟩ := h
  rfl
def t_l_shuffled (K : PySem.W.Frag) : TS :=
  (tSeq (tAsg (tCB (rListOf K) (tCons (tVar 1) tNil)) (gName 2))
  (tSeq (tAsg (tLst tNil) (gName 3))
  (tSeq (tFor (iRng1 (tCons (tCB (rLenA K) (tCons (tVar 1) tNil)) tNil)) (gName 4)
    (tDrop (tBM K "list" rAppend (tVar 3) (tCons (tBM K "list" rPopAt (tVar 2) (tCons (tCall (sp_l_draw K) [] E0 (tCons (tVar 0) (tCons (tCB (rLenA K) (tCons (tVar 2) tNil)) tNil))) tNil)) tNil))))
  (tRet (tVar 3)))))
theorem perm_pop {α : Type} : ∀ {l : List α} {i : Nat} {x : α}, l[i]? = some x → l.Perm (x :: l.eraseIdx i)
  | [], i, x, h => by simp at h
  | a :: l, 0, x, h => by
    simp at h
    subst h
    exact List.Perm.refl _
  | a :: l, i + 1, x, h => by
    have ih := perm_pop (l := l) (i := i) (x := x) (by simpa using h)
    rw [List.eraseIdx_cons_succ]
    exact (ih.cons a).trans (List.Perm.swap _ _ _)
theorem pure_l_shuffled {K : PySem.W.Frag} (vs : List V) (H : Hp) (Q : VK) (E : XK) (h : sp_l_shuffled K vs H Q E) : t_l_shuffled K (fin Q) (st0 5 vs) H := by
  obtain ⟨a, c, r, xs, rfl, S, hr, hx, hl, k⟩ := h
  refine ⟨_, rfl, r, xs, rfl, .inl (SqL.of hx), fun p hp => ?_⟩
  have np := S.no hp
  have S0 := S.new (o := HO.lst xs) hp
  refine ⟨sz0, fun l hl' => ?_⟩
  have nl := S0.no hl'
  have hl0 : H l = none := (But.new (M := []) hp).free hl'
  have hne : l ≠ p := fun z => by rw [z, upd_same] at hl'; cases hl'
  have hxr : ∀ o o', upd (upd H p o) l o' r = some (.lst xs) := fun o o' => by
    rw [upd_ne (ne_of_none hx hl0), upd_ne (ne_of_none hx hp)]
    exact hx
  refine ⟨_, rfl, _, xs.length, rfl, .inl ⟨_, SqL.of (hxr _ _), rfl⟩, (xs.length : Int), rfl, by omega, by omega, for_range (fun i σ H' => ∃ (rest mixed : List V) (v : Option V), σ = [some (.ref a), some (.ref r), some (.ref p), some (.ref l), v] ∧
    rest.length + i = xs.length ∧ (mixed ++ rest).Perm xs ∧ mixed.length = i ∧ H' p = some (.lst rest) ∧ H' l = some (.lst mixed) ∧ StAt H' a c ∧ But [a, c] H H')
    ⟨xs, [], none, rfl, rfl, List.Perm.refl _, rfl, by rw [upd_ne (Ne.symm hne), upd_same], upd_same, S0.new hl', (But.new hp).upd (.inr hl0)⟩ ?_ ?_⟩
  · rintro i σ H1 hi ⟨rest, mixed, v, rfl, h1, h2, h3, h4, h5, S1, B1⟩
    have hrl : 0 < rest.length := by
      have : i < xs.length := by omega
      omega
    refine ⟨_, rfl, .inl ⟨rfl, _, SqL.of h5⟩, _, rfl, .inl ⟨rfl, _, SqL.of h4⟩, _, rfl, _, rfl, _, rest.length, rfl, .inl ⟨_, SqL.of h4, rfl⟩, a, c, rest.length, rfl, S1, by omega, by omega, fun n H2 e1 e2 S2 B2 => ?_⟩
    obtain ⟨j, rfl, hj⟩ := idx_of e1 e2
    have h4' := B2.keep _ _ np h4
    have h5' := B2.keep _ _ nl h5
    refine ⟨p, rest, (j : Int), j, rest[j], rfl, rfl, h4', by omega, by omega, ?_, List.getElem?_eq_getElem hj, ?_⟩
    · unfold seqIndex?
      first
        | (rw [if_neg (by omega)]; simp; omega)
        | (simp; omega)
    · refine ⟨l, mixed, rest[j], rfl, rfl, by rw [upd_ne hne]; exact h5', small1000 (by omega), rest.eraseIdx j, mixed ++ [rest[j]], _, rfl, ?_, ?_, ?_, ?_, upd_same, (S2.upd np).upd nl, ((B1.trans B2).upd (.inr hp)).upd (.inr hl0)⟩
      · rw [List.length_eraseIdx_of_lt hj]
        omega
      · rw [List.append_assoc]
        exact ((perm_pop (List.getElem?_eq_getElem hj)).symm.append_left mixed).trans h2
      · rw [List.length_append, h3]
        rfl
      · rw [upd_ne (Ne.symm hne), upd_same]
  · rintro σ H1 ⟨rest, mixed, v, rfl, h1, h2, h3, h4, h5, S1, B1⟩
    have : rest = [] := by
      have : rest.length = 0 := by
        have h1' : rest.length + (xs.length : Int).toNat = xs.length := h1
        simp at h1'
        exact List.length_eq_zero_iff.mpr h1'
      exact List.length_eq_zero_iff.mp this
    subst this
    rw [List.append_nil] at h2
    exact ⟨_, rfl, k mixed l H1 h2 hl0 h5 S1 B1⟩
end Kb

set_option Elab.async false
set_option linter.all false
set_option maxRecDepth 100000
set_option maxHeartbeats 4000000
/-! Kb, 5: flat lists compared; sorted lists of texts. -/
namespace Kb
open PySem PySem.Spec PyProof.Rows L2

/-- flat data as the library has it -/
def pd : V → PyData
  | .bl b => .bool b
  | .int i => .int i
  | .str x => .str x
  | _ => .none
def okF : V → Bool
  | .non => true
  | .bl _ => true
  | .int _ => true
  | .str x => PyData.strOk x
  | _ => false
theorem dp_flat {K : PySem.W.Frag} {H : Hp} : ∀ {x : V}, okF x = true → Dp K H x (pd x)
  | .non, _ => .non
  | .bl b, _ => .bl b
  | .int i, _ => .int i
  | .str x, _ => .str x
theorem dp_flats {K : PySem.W.Frag} {H : Hp} : ∀ {xs : List V}, xs.all okF = true → DpAll K H xs (xs.map pd)
  | [], _ => .nil
  | x :: xs, h => by
    rw [List.all_cons] at h
    obtain ⟨h1, h2⟩ := Bool.and_eq_true_iff.mp h
    exact .cons (dp_flat h1) (dp_flats h2)
theorem lay_flat : ∀ {xs : List V}, xs.all okF = true → PyData.canLayAll0 (xs.map pd) = true
  | [], _ => by simp [PyData.canLayAll0]
  | x :: xs, h => by
    rw [List.all_cons] at h
    obtain ⟨h1, h2⟩ := Bool.and_eq_true_iff.mp h
    rw [List.map_cons, PyData.canLayAll0, lay_flat h2, Bool.and_true]
    cases x <;> simp_all [pd, okF, PyData.canLay0]
theorem depth_flat : ∀ {xs : List V}, PyData.depth (.list (xs.map pd)) ≤ 2
  | [] => by decide
  | x :: xs => by
    have ih := depth_flat (xs := xs)
    have hx : PyData.depth (pd x) ≤ 1 := by cases x <;> simp [pd, PyData.depth]
    simp only [List.map_cons, PyData.depth, PyData.depthAll] at ih ⊢
    omega
theorem shaped_flat {xs : List V} (h : xs.all okF = true) : SeqAt.shaped (.list (xs.map pd)) = true := by
  unfold SeqAt.shaped
  rw [Bool.and_eq_true_iff]
  refine ⟨?_, decide_eq_true (Nat.le_trans depth_flat (by decide))⟩
  rw [PyData.canLay0]
  exact lay_flat h
theorem shaped_nil : SeqAt.shaped (.list []) = true := by decide +kernel
theorem eqv_nil {ds : List PyData} : PyData.eqv (.list ds) (.list []) = ds.isEmpty := by
  cases ds <;> simp [PyData.eqv, PyData.eqvAll]
/-- xs == [] -/
theorem eqE {K : PySem.W.Frag} {H : Hp} {p q : Addr} {xs : List V} {Q : VK} (hp : H p = some (.lst xs)) (hx : xs.all okF = true) (hq : H q = some (.lst [])) (k : Q (.bl xs.isEmpty) H) : rEqD K (.ref p) (.ref q) H Q := by
  refine ⟨.list (xs.map pd), .list [], .lst (SqL.of hp) (dp_flats hx), .lst (SqL.of hq) .nil, shaped_flat hx, shaped_nil, ?_⟩
  rw [eqv_nil]
  cases xs <;> exact k
theorem neE {K : PySem.W.Frag} {H : Hp} {p q : Addr} {xs : List V} {Q : VK} (hp : H p = some (.lst xs)) (hx : xs.all okF = true) (hq : H q = some (.lst [])) (k : Q (.bl (!xs.isEmpty)) H) : rNeD K (.ref p) (.ref q) H Q := by
  refine ⟨.list (xs.map pd), .list [], .lst (SqL.of hp) (dp_flats hx), .lst (SqL.of hq) .nil, shaped_flat hx, shaped_nil, ?_⟩
  rw [eqv_nil]
  cases xs <;> exact k
theorem ok_name {x : Str} (h : IsName x) : PyData.strOk x = true := by
  unfold PyData.strOk
  rw [Array.all_eq_true_iff_forall_mem]
  intro c hc
  have := h.az c (Array.mem_toList_iff.mpr hc)
  exact decide_eq_true (by omega)
/-- a name or "" -/
def IsNE (x : Str) : Prop := IsName x ∨ x = ""
theorem ok_ne {x : Str} (h : IsNE x) : PyData.strOk x = true := by
  rcases h with h | h
  · exact ok_name h
  · rw [h]
    decide +kernel
theorem okF_strs {ws : List Str} (h : ∀ w ∈ ws, PyData.strOk w = true) : (ws.map V.str).all okF = true := by
  rw [List.all_map]
  exact List.all_eq_true.mpr h
theorem name_ne {x : Str} (h : IsName x) : x ≠ "" := fun e => by
  have h1 := h.lo
  have h2 : (cs ("" : Str)).length = 0 := by decide +kernel
  rw [e] at h1
  omega

/-! ### sorted texts -/
def Le (a b : Str) : Prop := cs a ≤ cs b
theorem le_iff {a b : Str} : Le a b ↔ ltCps (cs b) (cs a) = false := by
  rw [ltCps_eq]
  unfold Le
  rw [decide_eq_false_iff_not]
  exact Iff.symm List.not_lt
theorem rising_pw : ∀ {r : List Str} {p : Str}, risingS p r = true → (p :: r).Pairwise Le
  | [], p, _ => List.pairwise_singleton _ _
  | y :: r, p, h => by
    unfold risingS at h
    obtain ⟨h1, h2⟩ := Bool.and_eq_true_iff.mp h
    have ih := rising_pw h2
    have h3 : Le p y := le_iff.mpr (by simpa using h1)
    refine List.pairwise_cons.mpr ⟨fun z hz => ?_, ih⟩
    rcases List.mem_cons.mp hz with e | hz
    · rw [e]
      exact h3
    · exact List.le_trans h3 ((List.pairwise_cons.mp ih).1 z hz)
theorem sorted_pw : ∀ {l : List Str}, sortedS l = true → l.Pairwise Le
  | [], _ => List.Pairwise.nil
  | _ :: _, h => rising_pw h
theorem sorted_uniq {α : Type} {r : α → α → Prop} (anti : ∀ a b, r a b → r b a → a = b) : ∀ {l1 l2 : List α}, l1.Perm l2 → l1.Pairwise r → l2.Pairwise r → l1 = l2
  | [], l2, h, _, _ => (List.Perm.nil_eq h)
  | a :: l1, [], h, _, _ => absurd h.length_eq (by simp)
  | a :: l1, b :: l2, h, p1, p2 => by
    obtain ⟨q1, q2⟩ := List.pairwise_cons.mp p1
    obtain ⟨q3, q4⟩ := List.pairwise_cons.mp p2
    have e : a = b := by
      have h1 : a ∈ b :: l2 := h.subset (List.mem_cons_self ..)
      have h2 : b ∈ a :: l1 := h.symm.subset (List.mem_cons_self ..)
      rcases List.mem_cons.mp h1 with e | h1
      · exact e
      · rcases List.mem_cons.mp h2 with e | h2
        · exact e.symm
        · exact anti a b (q1 b h2) (q3 a h1)
    subst e
    rw [sorted_uniq anti h.cons_inv q2 q4]
theorem le_anti (a b : Str) (h1 : Le a b) (h2 : Le b a) : a = b := str_ext (List.le_antisymm h1 h2)
theorem sorted_same {l1 l2 : List Str} (h : l1.Perm l2) (h1 : sortedS l1 = true) (h2 : sortedS l2 = true) : l1 = l2 := sorted_uniq le_anti h (sorted_pw h1) (sorted_pw h2)
end Kb

set_option Elab.async false
set_option linter.all false
set_option maxRecDepth 100000
set_option maxHeartbeats 4000000
/-! Kb, 6: kinds as data: choices, own answers, rules that are drawn. -/
namespace Kb
open PySem PySem.Spec PyProof.Rows L2

inductive Own where
  | val (v : Str) | self | link (l : Str)
inductive Rule where
  | bar (ns : List Str) | tell (ns : List Str) (v : Str) | self (ns : List Str) | give (ns : List Str) (l : Str) (last : Bool) | send (ns : List Str) (l under : Str) (last wraps : Bool)
def nmD (ns : List Str) : D := .tup (ns.map D.str)
def man (b : Bool) : Str := if b then "last" else "try"
def Own.d : Own → D
  | .val v => .tup [.str "value", .str v]
  | .self => .tup [.str "self"]
  | .link l => .tup [.str "link", .str l]
def Rule.d : Rule → D
  | .bar ns => .tup [.str "bar", nmD ns]
  | .tell ns v => .tup [.str "tell", nmD ns, .str v]
  | .self ns => .tup [.str "self", nmD ns]
  | .give ns l b => .tup [.str "give", nmD ns, .str l, .str (man b)]
  | .send ns l u b w => .tup [.str "send", nmD ns, .str l, .str u, .str (man b), .bl w]
def Rule.names : Rule → List Str
  | .bar ns => ns
  | .tell ns _ => ns
  | .self ns => ns
  | .give ns _ _ => ns
  | .send ns _ _ _ _ => ns
/-- names in the place of a rule's names or of a link's choices -/
structure NamesOk (ns : List Str) : Prop where
  len : ns.length ≤ 4
  nd : ns.Nodup
  so : sortedS ns = true
/-- a rule of a kind with these links, over these asked names -/
def Rule.ok (asked links : List Str) (r : Rule) : Prop := NamesOk r.names ∧ (∀ n ∈ r.names, n ∈ asked) ∧ match r with
  | .bar _ => True
  | .tell _ v => IsName v
  | .self _ => True
  | .give _ l _ => l ∈ links
  | .send _ l u _ _ => l ∈ links ∧ (u = "" ∨ u ∈ asked)
def Own.ok (links : List Str) : Own → Prop
  | .val v => IsName v
  | .self => True
  | .link l => l ∈ links

/-! ### _law_choices -/
structure ChoOk (kinds : List Str) (ys : List Str) : Prop extends NamesOk ys where
  some : ys ≠ []
  mem : ∀ y ∈ ys, y ∈ kinds ∨ y = ""
def sp_l_choices (K : PySem.W.Frag) : Sp := fun vs H Q _ => ∃ (a c r : Addr) (ks : List Str), vs = [.ref a, .ref r] ∧ StAt H a c ∧ r ∉ [a, c] ∧ H r = some (.lst (ks.map V.str)) ∧ ks ≠ [] ∧ ks.length ≤ 4 ∧ (∀ k ∈ ks, IsName k) ∧ ks.Nodup ∧
  ∀ (ys : List Str) (p : Addr) (H' : Hp), ChoOk ks ys → H p = none → H' p = some (.tup (ys.map V.str)) → StAt H' a c → But [a, c] H H' → Q (.ref p) H'
theorem len_l_choices {K : PySem.W.Frag} {vs : List V} {H : Hp} {Q : VK} {E : XK} (h : sp_l_choices K vs H Q E) : vs.length = 2 := by
  obtain ⟨a, c, r, ks, rfl, _⟩ := h
  rfl
def t_l_choices (K : PySem.W.Frag) : TS :=
  (tSeq (tAsg (tCall (sp_l_some K) [] E0 (tCons (tVar 0) (tCons (tOp rCat (tVar 1) (tLst (tCons (tC (.str ("" : Str))) tNil))) tNil))) (gName 2))
  (C8.tCut (tIfS (tTest (tOp (rEqD K) (tVar 2) (tLst tNil)))
    (tAsg (tLst (tCons (tCall (sp_l_pick K) [] E0 (tCons (tVar 0) (tCons (tVar 1) tNil))) tNil)) (gName 2))
    tNext)
  (tRet (tCB (rTupOf K) (tCons (tCB (rSortedS K) (tCons (tSl (rSlL K) (tVar 2) tNoPart (tPart (tC (.int 4)))) tNil)) tNil)))))
theorem sub_strs {ys : List V} {ws : List Str} (h : ys.Sublist (ws.map V.str)) : ∃ zs : List Str, zs.Sublist ws ∧ ys = zs.map V.str := by
  obtain ⟨zs, h1, h2⟩ := List.sublist_map_iff.mp h
  exact ⟨zs, h1, h2⟩
theorem cut4 {xs : List V} : cutV xs none (some 4) = xs.take 4 := by
  unfold cutV HT.sIx
  simp
theorem pure_l_choices {K : PySem.W.Frag} (vs : List V) (H : Hp) (Q : VK) (E : XK) (h : sp_l_choices K vs H Q E) : t_l_choices K (fin Q) (st0 3 vs) H := by
  obtain ⟨a, c, r, ks, rfl, S, hr, hx, hne, hl, hn, hnd, k⟩ := h
  refine ⟨_, rfl, _, rfl, by show 1 ≤ sizeLine; decide, fun p hp => ?_⟩
  have nrp : r ≠ p := ne_of_none hx hp
  refine ⟨_, _, _, _, rfl, rfl, by rw [upd_ne nrp]; exact hx, upd_same, by rw [List.length_map]; exact Nat.le_of_lt (small1000 (by simp; omega)), fun q hq => ?_⟩
  have hp0 : H p = none := hp
  have hq0 : H q = none := (But.new (M := []) hp).free hq
  have S1 : StAt (upd (upd H p (.lst [.str ("" : Str)])) q (.lst (ks.map V.str ++ [.str ("" : Str)]))) a c := (S.new hp).new hq
  have B1 : But [a, c] H (upd (upd H p (.lst [.str ("" : Str)])) q (.lst (ks.map V.str ++ [.str ("" : Str)]))) := (But.new hp).upd (.inr hq0)
  refine ⟨a, c, q, ks.map V.str ++ [.str ("" : Str)], rfl, S1, (S.new hp).no hq, upd_same, by simp; omega, fun ys l H2 hs hl2 hl3 S2 B2 => ?_⟩
  have e : ks.map V.str ++ [V.str ("" : Str)] = (ks ++ [("" : Str)]).map V.str := by rw [List.map_append]; rfl
  rw [e] at hs
  obtain ⟨zs, hz, rfl⟩ := sub_strs hs
  have znd : zs.Nodup := hz.nodup (nd_snoc hnd fun m => name_ne (hn _ m) rfl)
  have zmem : ∀ z ∈ zs, z ∈ ks ∨ z = "" := fun z m => by
    rcases List.mem_append.mp (hz.subset m) with h | h
    · exact .inl h
    · exact .inr (List.mem_singleton.mp h)
  have zok : ∀ z ∈ zs, PyData.strOk z = true := fun z m => ok_ne ((zmem z m).elim (fun h => .inl (hn z h)) .inr)
  have hl0 : H l = none := B1.free hl2
  have hr2 : H2 r = some (.lst (ks.map V.str)) := B2.keep _ _ hr (by rw [upd_ne (ne_of_none hx hq0), upd_ne nrp]; exact hx)
  refine ⟨fun σ H' => ∃ (v : Addr) (us : List Str), σ = [some (.ref a), some (.ref r), some (.ref v)] ∧ H' v = some (.lst (us.map V.str)) ∧ us ≠ [] ∧ us.Nodup ∧ (∀ z ∈ us, z ∈ ks ∨ z = "") ∧ us.length ≤ 5 ∧ StAt H' a c ∧ But [a, c] H H', ?_, ?_⟩
  · refine ⟨_, rfl, by show 0 ≤ sizeLine; exact sz0, fun q1 hq1 => eqE (by rw [upd_ne (ne_of_none hl3 hq1)]; exact hl3) (okF_strs zok) upd_same ⟨_, rfl, ?_⟩⟩
    have S3 := S2.new (o := .lst []) hq1
    have B3 : But [a, c] H (upd H2 q1 (.lst [])) := ((B1.trans B2).upd' hq1)
    cases zs with
    | nil =>
      refine iteT ?_
      refine ⟨_, rfl, _, rfl, a, c, r, ks.map V.str, rfl, S3, hr, by rw [upd_ne (ne_of_none hr2 hq1)]; exact hr2, by simpa using hne, by rw [List.length_map]; omega, fun x H4 hx4 S4 B4 => ?_⟩
      obtain ⟨w, hw, rfl⟩ := List.mem_map.mp hx4
      refine ⟨by show 1 ≤ sizeLine; decide, fun q2 hq2 => ?_⟩
      exact ⟨q2, [w], rfl, upd_same, by simp, by simp, fun z m => by rw [List.mem_singleton.mp m]; exact .inl hw, by simp, S4.new hq2, (B3.trans B4).upd' hq2⟩
    | cons z0 zr =>
      refine iteF ?_
      refine ⟨l, z0 :: zr, rfl, by rw [upd_ne (ne_of_none hl3 hq1)]; exact hl3, by simp, znd, zmem, ?_, S3, B3⟩
      have := hz.length_le
      simp at this ⊢
      omega
  · rintro σ H3 ⟨v, us, rfl, h1, h2, h3, h4, h5, S3, B3⟩
    refine ⟨_, rfl, _, rfl, _, _, rfl, SqL.of h1, fun p1 hp1 => ?_⟩
    rw [cut4, ← List.map_take]
    refine ⟨p1, us.take 4, rfl, SqL.of upd_same, by rw [List.length_take]; omega, fun ys p2 hpm hso hp2 => ?_⟩
    refine ⟨p2, ys.map V.str, rfl, .inl ⟨SqL.of upd_same, fun p3 hp3 => ?_⟩⟩
    have hlen := hpm.length_eq
    rw [List.length_take] at hlen
    refine k ys p3 _ ⟨⟨by omega, hpm.symm.nodup (h3.sublist (List.take_sublist ..)), hso⟩, fun z => ?_, fun y m => h4 y (List.mem_of_mem_take (hpm.subset m))⟩
      ((B3.upd' hp1).upd' hp2 |>.free hp3) upd_same (((S3.new hp1).new hp2).new hp3) (((B3.upd' hp1).upd' hp2).upd' hp3)
    rw [z] at hlen
    have : us.length = 0 := by simp at hlen; omega
    exact h2 (List.length_eq_zero_iff.mp this)

/-! ### _law_value -/
def sp_l_value (K : PySem.W.Frag) : Sp := fun vs H Q _ => ∃ (a c : Addr), vs = [.ref a] ∧ StAt H a c ∧ ∀ (w : Str) (H' : Hp), IsName w → StAt H' a c → But [a, c] H H' → Q (.str w) H'
theorem len_l_value {K : PySem.W.Frag} {vs : List V} {H : Hp} {Q : VK} {E : XK} (h : sp_l_value K vs H Q E) : vs.length = 1 := by
  obtain ⟨a, c, rfl, _⟩ := h
  rfl
def t_l_value (K : PySem.W.Frag) : TS :=
  (tSeq (tIfS (tTest (tOp rEq (tCall (sp_l_draw K) [] E0 (tCons (tVar 0) (tCons (tC (.int 5)) tNil))) (tC (.int 0))))
    (tRet (tCall (sp_l_word K) [] E0 (tCons (tVar 0) (tCons (tLst tNil) tNil))))
    tNext)
  (tRet (tCall (sp_l_pick K) [] E0 (tCons (tVar 0) (tCons (tLst (tCons (tC (.str ("x" : Str))) (tCons (tC (.str ("y" : Str))) tNil))) tNil)))))
theorem isName_of {x : Str} (h : (decide (1 ≤ (cs x).length) && (decide ((cs x).length ≤ 8) && (cs x).all fun c => decide (97 ≤ c) && decide (c ≤ 122))) = true) : IsName x := by
  obtain ⟨h1, h2⟩ := Bool.and_eq_true_iff.mp h
  obtain ⟨h2, h3⟩ := Bool.and_eq_true_iff.mp h2
  refine ⟨of_decide_eq_true h1, of_decide_eq_true h2, fun c hc => ?_⟩
  obtain ⟨a, b⟩ := Bool.and_eq_true_iff.mp (List.all_eq_true.mp h3 c hc)
  exact ⟨of_decide_eq_true a, of_decide_eq_true b⟩
theorem pure_l_value {K : PySem.W.Frag} (vs : List V) (H : Hp) (Q : VK) (E : XK) (h : sp_l_value K vs H Q E) : t_l_value K (fin Q) (st0 1 vs) H := by
  obtain ⟨a, c, rfl, S, k⟩ := h
  refine ⟨_, rfl, a, c, 5, rfl, S, by decide, by decide, fun n H1 e1 e2 S1 B1 => ⟨rfl, _, rfl, ?_⟩⟩
  refine ite2 (fun _ => ?_) (fun _ => ?_)
  · refine ⟨_, rfl, sz0, fun p hp => ⟨a, c, p, [], rfl, S1.new hp, S1.no hp, upd_same, by simp, fun w H2 n1 _ S2 B2 => k w H2 n1 S2 ((B1.upd' hp).trans B2)⟩⟩
  · refine ⟨_, rfl, by show 2 ≤ sizeLine; decide, fun p hp => ⟨a, c, p, _, rfl, S1.new hp, S1.no hp, upd_same, by simp, by simp, fun x H2 hx S2 B2 => ?_⟩⟩
    have hb := (B1.upd' (o := .lst [.str ("x" : Str), .str ("y" : Str)]) hp).trans B2
    rcases List.mem_cons.mp hx with e | hx
    · rw [e]
      exact k _ _ (isName_of (by decide +kernel)) S2 hb
    · rw [List.mem_singleton.mp hx]
      exact k _ _ (isName_of (by decide +kernel)) S2 hb
end Kb

set_option Elab.async false
set_option linter.all false
set_option maxRecDepth 100000
set_option maxHeartbeats 4000000
/-! Kb, 7: rules, own answers, doors. -/
namespace Kb
open PySem PySem.Spec PyProof.Rows L2

/-! ### dicts and lists that grow -/
def NewP (H H' : Hp) (kds : List (Str × D)) (kvs : List (Key × V)) : Prop := ∀ M, Std M H → AtP M H' kds kvs
theorem NewP.mono {H H1 H2 : Hp} {M : List Addr} {kds : List (Str × D)} {kvs : List (Key × V)} (n : NewP H H1 kds kvs) (s : Std M H) (b : But M H1 H2) : NewP H H2 kds kvs := fun M' s' =>
  AtP.mono' (M := M' ++ M) (fun p o m e => ⟨fun z => m (List.mem_append.mpr (.inl z)), b.keep p o (fun z => m (List.mem_append.mpr (.inr z))) e⟩) kds kvs (n (M' ++ M) fun x m => (List.mem_append.mp m).elim (s' x) (s x))
theorem NewP.mono2 {H H1 H2 : Hp} {M : List Addr} {kds : List (Str × D)} {kvs : List (Key × V)} (n : NewP H H1 kds kvs) (hM : ∀ x ∈ M, H x ≠ none ∨ H1 x = none) (b : ∀ p o, p ∉ M → H1 p = some o → H2 p = some o) : NewP H H2 kds kvs := fun M' s' =>
  AtP.mono' (M := M' ++ M.filter fun x => (H x).isSome) (fun p o m e => ⟨fun z => m (List.mem_append.mpr (.inl z)), b p o (fun z => by
    rcases hM p z with h | h
    · exact m (List.mem_append.mpr (.inr (List.mem_filter.mpr ⟨z, by cases q : H p with
        | none => exact absurd q h
        | some u => rfl⟩)))
    · rw [h] at e
      cases e) e⟩) kds kvs (n _ fun x m => (List.mem_append.mp m).elim (s' x) fun m => by
        have := (List.mem_filter.mp m).2
        cases q : H x with
        | none => rw [q] at this; cases this
        | some u => exact fun z => nomatch z)
theorem AtP.snoc {M : List Addr} {H : Hp} : ∀ {ds : List (Str × D)} {xs : List (Key × V)} {k : Str} {d : D} {x : V}, AtP M H ds xs → At M H d x → AtP M H (ds ++ [(k, d)]) (xs ++ [(Sum.inr k, x)])
  | [], _, k, d, x, h, hx => by
    cases h
    exact ⟨x, [], rfl, hx, rfl⟩
  | (k0, d0) :: ds, _, k, d, x, h, hx => by
    obtain ⟨y, r, e1, h1, h2⟩ := h
    subst e1
    exact ⟨y, r ++ [(Sum.inr k, x)], rfl, h1, AtP.snoc h2 hx⟩
theorem AtP.keys {M : List Addr} {H : Hp} : ∀ {ds : List (Str × D)} {xs : List (Key × V)}, AtP M H ds xs → xs.map (·.1) = ds.map fun p => (Sum.inr p.1 : Key)
  | [], _, h => by
    cases h
    rfl
  | (k0, d0) :: ds, _, h => by
    obtain ⟨y, r, e1, h1, h2⟩ := h
    subst e1
    rw [List.map_cons, List.map_cons, AtP.keys h2]
theorem NewP.snoc {H H' : Hp} {kds : List (Str × D)} {kvs : List (Key × V)} {k : Str} {d : D} {v : V} (n : NewP H H' kds kvs) (h : New H H' d v) : NewP H H' (kds ++ [(k, d)]) (kvs ++ [(Sum.inr k, v)]) := fun M s => AtP.snoc (n M s) (h M s)
theorem NewL.snoc {H H' : Hp} {ds : List D} {xs : List V} {d : D} {v : V} (n : NewL H H' ds xs) (h : New H H' d v) : NewL H H' (ds ++ [d]) (xs ++ [v]) := fun M s => AtL.snoc (n M s) (h M s)
theorem New.dctm {H H0 H' : Hp} {p : Addr} {kds : List (Str × D)} {kvs : List (Key × V)} (n : NewP H0 H' kds kvs) (b : ∀ a, H a ≠ none → H0 a ≠ none) (hp : H p = none) (h : H' p = some (.dK kvs)) : New H H' (.dct kds) (.ref p) := fun M s =>
  ⟨p, kvs, rfl, fun m => s p m hp, h, n M fun x m => b x (s x m)⟩
theorem New.lstm {H H0 H' : Hp} {p : Addr} {ds : List D} {xs : List V} (n : NewL H0 H' ds xs) (b : ∀ a, H a ≠ none → H0 a ≠ none) (hp : H p = none) (h : H' p = some (.lst xs)) : New H H' (.lst ds) (.ref p) := fun M s =>
  ⟨p, xs, rfl, fun m => s p m hp, h, n M fun x m => b x (s x m)⟩
theorem New.tupm {H H0 H' : Hp} {p : Addr} {ds : List D} {xs : List V} (n : NewL H0 H' ds xs) (b : ∀ a, H a ≠ none → H0 a ≠ none) (hp : H p = none) (h : H' p = some (.tup xs)) : New H H' (.tup ds) (.ref p) := fun M s =>
  ⟨p, xs, rfl, fun m => s p m hp, h, n M fun x m => b x (s x m)⟩
theorem New.strs {H H' : Hp} {p : Addr} {ys : List Str} (hp : H p = none) (h : H' p = some (.tup (ys.map V.str))) : New H H' (nmD ys) (.ref p) := New.tupm (H0 := H) NewL.strs (fun _ h => h) hp h

/-- tuple(sorted(us[:4])) -/
theorem sort4 {K : PySem.W.Frag} {σ : L2.St} {l : Addr} {us : List Str} {H1 : Hp} {Q : VK} (h : H1 l = some (.lst (us.map V.str)))
    (k : ∀ (ys : List Str) (p : Addr) (H' : Hp), ys.Perm (us.take 4) → sortedS ys = true → H1 p = none → H' p = some (.tup (ys.map V.str)) → But [] H1 H' → Q (.ref p) H') :
    (fun (u : Option Int) (H3 : Hp) => rSlL K (.ref l) none u H3 fun x H1 => tNil σ H1 fun xs H2 => (fun vs H1 => rSortedS K vs H1 fun x H1 => tNil σ H1 fun xs H2 => (fun vs H1 => rTupOf K vs H1 Q) (x :: xs) H2) (x :: xs) H2) (some 4) H1 := by
  refine ⟨_, _, rfl, SqL.of h, fun p1 hp1 => ?_⟩
  rw [cut4, ← List.map_take]
  refine ⟨p1, us.take 4, rfl, SqL.of upd_same, by rw [List.length_take]; omega, fun ys p2 hpm hso hp2 => ?_⟩
  refine ⟨p2, ys.map V.str, rfl, .inl ⟨SqL.of upd_same, fun p3 hp3 => ?_⟩⟩
  have b2 : But [] H1 (upd (upd H1 p1 (.lst ((us.take 4).map V.str))) p2 (.lst (ys.map V.str))) := (But.new hp1).upd' hp2
  exact k ys p3 _ hpm hso (b2.free hp3) upd_same (b2.upd' hp3)

/-! ### _law_rule -/
/-- names that are asked; links -/
structure Names (n : Nat) (ws : List Str) : Prop where
  len : ws.length ≤ n
  nd : ws.Nodup
  nm : ∀ w ∈ ws, IsName w
def sp_l_rule (K : PySem.W.Frag) : Sp := fun vs H Q _ => ∃ (a c r1 r2 : Addr) (asked links : List Str), vs = [.ref a, .ref r1, .ref r2] ∧ StAt H a c ∧ r1 ∉ [a, c] ∧ r2 ∉ [a, c] ∧
  H r1 = some (.lst (asked.map V.str)) ∧ H r2 = some (.lst (links.map V.str)) ∧ Names 11 asked ∧ Names 11 links ∧
  ∀ (rl : Rule) (v : V) (H' : Hp), rl.ok asked links → New H H' rl.d v → StAt H' a c → But [a, c] H H' → Q v H'
theorem len_l_rule {K : PySem.W.Frag} {vs : List V} {H : Hp} {Q : VK} {E : XK} (h : sp_l_rule K vs H Q E) : vs.length = 3 := by
  obtain ⟨a, c, r1, r2, _, _, rfl, _⟩ := h
  rfl
def t_l_rule (K : PySem.W.Frag) : TS :=
  (tSeq (tAsg (tTup tNil) (gName 3))
  (C8.tCut (tIfS (tTest (tOp rGtI (tCall (sp_l_draw K) [] E0 (tCons (tVar 0) (tCons (tC (.int 3)) tNil))) (tC (.int 0))))
    (tAsg (tCB (rTupOf K) (tCons (tCB (rSortedS K) (tCons (tSl (rSlL K) (tCall (sp_l_some K) [] E0 (tCons (tVar 0) (tCons (tVar 1) tNil))) tNoPart (tPart (tC (.int 4)))) tNil)) tNil)) (gName 3))
    tNext)
  (tSeq (tAsg (tCall (sp_l_draw K) [] E0 (tCons (tVar 0) (tCons (tC (.int 10)) tNil))) (gName 4))
  (tSeq (tIfS (tTest (tOp rEq (tVar 4) (tC (.int 0))))
    (tRet (tTup (tCons (tC (.str ("bar" : Str))) (tCons (tVar 3) tNil))))
    tNext)
  (tSeq (tIfS (tOr (tTest (tOp rEq (tVar 4) (tC (.int 1)))) (tAnd (tTest (tOp (rEqD K) (tVar 2) (tLst tNil))) (tTest (tOp rGtI (tVar 4) (tC (.int 2))))))
    (tRet (tTup (tCons (tC (.str ("tell" : Str))) (tCons (tVar 3) (tCons (tCall (sp_l_value K) [] E0 (tCons (tVar 0) tNil)) tNil)))))
    tNext)
  (tSeq (tIfS (tTest (tOp rEq (tVar 4) (tC (.int 2))))
    (tRet (tTup (tCons (tC (.str ("self" : Str))) (tCons (tVar 3) tNil))))
    tNext)
  (tSeq (tAsg (tCall (sp_l_pick K) [] E0 (tCons (tVar 0) (tCons (tVar 2) tNil))) (gName 5))
  (tSeq (tAsg (tCall (sp_l_pick K) [] E0 (tCons (tVar 0) (tCons (tLst (tCons (tC (.str ("try" : Str))) (tCons (tC (.str ("last" : Str))) tNil))) tNil))) (gName 6))
  (tSeq (tIfS (tTest (tOp rEq (tVar 4) (tC (.int 3))))
    (tRet (tTup (tCons (tC (.str ("give" : Str))) (tCons (tVar 3) (tCons (tVar 5) (tCons (tVar 6) tNil))))))
    tNext)
  (tSeq (tAsg (tCall (sp_l_pick K) [] E0 (tCons (tVar 0) (tCons (tOp rCat (tLst (tCons (tC (.str ("" : Str))) tNil)) (tVar 1)) tNil))) (gName 7))
  (tRet (tTup (tCons (tC (.str ("send" : Str))) (tCons (tVar 3) (tCons (tVar 5) (tCons (tVar 7) (tCons (tVar 6) (tCons (tOp rEq (tCall (sp_l_draw K) [] E0 (tCons (tVar 0) (tCons (tC (.int 2)) tNil))) (tC (.int 1))) tNil))))))))))))))))))
theorem names_ok {n : Nat} {ws : List Str} (h : Names n ws) : (ws.map V.str).all okF = true := okF_strs fun w m => ok_name (h.nm w m)
theorem dec_int {i j : Int} : decide (V.int i = V.int j) = decide (i = j) := by
  by_cases h : i = j
  · rw [h, decide_eq_true rfl, decide_eq_true rfl]
  · rw [decide_eq_false h, decide_eq_false (fun z => h (V.int.inj z))]
theorem pure_l_rule {K : PySem.W.Frag} (vs : List V) (H : Hp) (Q : VK) (E : XK) (h : sp_l_rule K vs H Q E) : t_l_rule K (fin Q) (st0 8 vs) H := by
  obtain ⟨a, c, r1, r2, asked, links, rfl, S, n1, n2, h1, h2, ok1, ok2, k⟩ := h
  refine ⟨sz0, fun p hp => ?_⟩
  refine ⟨fun σ H' => ∃ (q : Addr) (ns : List Str), σ = [some (.ref a), some (.ref r1), some (.ref r2), some (.ref q), none, none, none, none] ∧ NamesOk ns ∧ (∀ n ∈ ns, n ∈ asked) ∧ New H H' (nmD ns) (.ref q) ∧ StAt H' a c ∧ But [a, c] H H', ?_, ?_⟩
  · have S0 := S.new (o := .tup []) hp
    refine ⟨_, rfl, a, c, 3, rfl, S0, by decide, by decide, fun n H1 e1 e2 S1 B1 => ⟨_, _, rfl, rfl, _, rfl, ?_⟩⟩
    have B01 : But [a, c] H H1 := (But.new hp).trans B1
    refine ite2 (fun _ => ?_) (fun _ => ?_)
    · refine ⟨_, rfl, _, rfl, a, c, r1, asked.map V.str, rfl, S1, n1, B01.keep _ _ n1 h1, by rw [List.length_map]; exact Nat.le_trans ok1.len (by decide), fun ys l H2 hs hl hl2 S2 B2 => ?_⟩
      obtain ⟨zs, hz, rfl⟩ := sub_strs hs
      refine ⟨_, rfl, ?_⟩
      refine sort4 (K := K) hl2 fun ys p2 H3 hpm hso hp2 hp3 B3 => ?_
      have hlen := hpm.length_eq
      rw [List.length_take] at hlen
      have B03 := (B01.trans B2).trans B3.nil
      exact ⟨p2, ys, rfl, ⟨by omega, hpm.symm.nodup ((hz.nodup ok1.nd).sublist (List.take_sublist ..)), hso⟩, fun n m => hz.subset (List.mem_of_mem_take (hpm.subset m)), New.strs ((B01.trans B2).free hp2) hp3, S2.nil B3, B03⟩
    · exact ⟨p, [], rfl, ⟨by simp, List.nodup_nil, rfl⟩, by simp, New.strs (ys := []) hp (B1.keep _ _ (S.no hp) upd_same), S1, B01⟩
  · rintro σ H1 ⟨q, ns, rfl, nok, nas, nw, S1, B1⟩
    refine ⟨_, rfl, a, c, 10, rfl, S1, by decide, by decide, fun n H2 e1 e2 S2 B2 => ?_⟩
    have B02 := B1.trans B2
    have nw2 : New H H2 (nmD ns) (.ref q) := nw.mono S.std B2
    refine ⟨_, rfl, rfl, _, rfl, ?_⟩
    rw [dec_int]
    refine ite2 (fun _ => ?_) (fun hn0 => ?_)
    · refine ⟨_, rfl, by show 2 ≤ sizeLine; decide, fun p2 hp2 => ?_⟩
      exact k (.bar ns) _ _ ⟨nok, nas, trivial⟩ (New.tup (NewL.cons New.str (NewL.cons nw2 NewL.nil)) B02.stand hp2) (S2.new hp2) (B02.upd' hp2)
    have hn0 : n ≠ 0 := by simpa using hn0
    have hl2 : H2 r2 = some (.lst (links.map V.str)) := B02.keep _ _ n2 h2
    have tell : ∀ H3, But [] H2 H3 → tRet (tTup (tCons (tC (.str ("tell" : Str))) (tCons (tVar 3) (tCons (tCall (sp_l_value K) [] E0 (tCons (tVar 0) tNil)) tNil)))) (fin Q) [some (.ref a), some (.ref r1), some (.ref r2), some (.ref q), some (.int n), none, none, none] H3 := by
      intro H3 B3
      have S3 := S2.nil B3
      refine ⟨_, rfl, _, rfl, a, c, rfl, S3, fun w H4 nw4 S4 B4 => ?_⟩
      have B04 := (B02.trans B3.nil).trans B4
      refine ⟨by show 3 ≤ sizeLine; decide, fun p2 hp2 => ?_⟩
      refine k (.tell ns w) _ _ ⟨nok, nas, nw4⟩ (New.tup (NewL.cons New.str (NewL.cons ((nw2.mono Std.nil B3).mono S.std B4) (NewL.cons New.str NewL.nil))) B04.stand hp2) (S4.new hp2) (B04.upd' hp2)
    refine ⟨_, rfl, rfl, _, rfl, ?_⟩
    rw [dec_int]
    refine ite2 (fun _ => iteT (tell H2 But.refl)) (fun hn1 => ?_)
    have hn1 : n ≠ 1 := by simpa using hn1
    refine ⟨_, rfl, sz0, fun p2 hp2 => eqE (by rw [upd_ne (ne_of_none hl2 hp2)]; exact hl2) (names_ok ok2) upd_same ⟨_, rfl, ?_⟩⟩
    have B3 : But [] H2 (upd H2 p2 (.lst [])) := But.new hp2
    have rest : n ≤ 2 ∨ links ≠ [] → ∀ D, D = fin Q → (tSeq (tIfS (tTest (tOp rEq (tVar 4) (tC (.int 2))))
    (tRet (tTup (tCons (tC (.str ("self" : Str))) (tCons (tVar 3) tNil))))
    tNext)
  (tSeq (tAsg (tCall (sp_l_pick K) [] E0 (tCons (tVar 0) (tCons (tVar 2) tNil))) (gName 5))
  (tSeq (tAsg (tCall (sp_l_pick K) [] E0 (tCons (tVar 0) (tCons (tLst (tCons (tC (.str ("try" : Str))) (tCons (tC (.str ("last" : Str))) tNil))) tNil))) (gName 6))
  (tSeq (tIfS (tTest (tOp rEq (tVar 4) (tC (.int 3))))
    (tRet (tTup (tCons (tC (.str ("give" : Str))) (tCons (tVar 3) (tCons (tVar 5) (tCons (tVar 6) tNil))))))
    tNext)
  (tSeq (tAsg (tCall (sp_l_pick K) [] E0 (tCons (tVar 0) (tCons (tOp rCat (tLst (tCons (tC (.str ("" : Str))) tNil)) (tVar 1)) tNil))) (gName 7))
  (tRet (tTup (tCons (tC (.str ("send" : Str))) (tCons (tVar 3) (tCons (tVar 5) (tCons (tVar 7) (tCons (tVar 6) (tCons (tOp rEq (tCall (sp_l_draw K) [] E0 (tCons (tVar 0) (tCons (tC (.int 2)) tNil))) (tC (.int 1))) tNil)))))))))))))
      D [some (.ref a), some (.ref r1), some (.ref r2), some (.ref q), some (.int n), none, none, none] (upd H2 p2 (.lst [])) := by
      rintro hor D rfl
      have S3 := S2.nil B3
      have B03 := B02.trans (B3.nil (M := [a, c]))
      have nw3 := nw2.mono Std.nil B3
      refine ⟨_, rfl, rfl, _, rfl, ?_⟩
      rw [dec_int]
      refine ite2 (fun _ => ?_) (fun hn2 => ?_)
      · refine ⟨_, rfl, by show 2 ≤ sizeLine; decide, fun p3 hp3 => ?_⟩
        exact k (.self ns) _ _ ⟨nok, nas, trivial⟩ (New.tup (NewL.cons New.str (NewL.cons nw3 NewL.nil)) B03.stand hp3) (S3.new hp3) (B03.upd' hp3)
      have hn2 : n ≠ 2 := by simpa using hn2
      have hli : links ≠ [] := hor.resolve_left (by omega)
      refine ⟨_, rfl, _, rfl, a, c, r2, links.map V.str, rfl, S3, n2, B03.keep _ _ n2 h2, by simpa using hli, by rw [List.length_map]; exact Nat.le_trans ok2.len (by decide), fun x H4 hx S4 B4 => ?_⟩
      obtain ⟨lk, hlk, rfl⟩ := List.mem_map.mp hx
      refine ⟨_, rfl, by show 2 ≤ sizeLine; decide, fun p4 hp4 => ⟨a, c, p4, _, rfl, S4.new hp4, S4.no hp4, upd_same, by simp, by simp, fun x H5 hx5 S5 B5 => ?_⟩⟩
      have B34 : But [a, c] (upd H2 p2 (.lst [])) H5 := (B4.upd' hp4).trans B5
      obtain ⟨b, rfl⟩ : ∃ b, x = V.str (man b) := by
        rcases List.mem_cons.mp hx5 with e | hx5
        · exact ⟨false, e⟩
        · exact ⟨true, List.mem_singleton.mp hx5⟩
      have B05 := B03.trans B34
      have nw5 := nw3.mono S.std B34
      refine ⟨_, rfl, rfl, _, rfl, ?_⟩
      rw [dec_int]
      refine ite2 (fun _ => ?_) (fun hn3 => ?_)
      · refine ⟨_, rfl, _, rfl, _, rfl, by show 4 ≤ sizeLine; decide, fun p6 hp6 => ?_⟩
        exact k (.give ns lk b) _ _ ⟨nok, nas, hlk⟩ (New.tup (NewL.cons New.str (NewL.cons nw5 (NewL.cons New.str (NewL.cons New.str NewL.nil)))) B05.stand hp6) (S5.new hp6) (B05.upd' hp6)
      · refine ⟨_, rfl, by show 1 ≤ sizeLine; decide, fun p6 hp6 => ?_⟩
        have h16 : (upd H5 p6 (.lst [.str ("" : Str)])) r1 = some (.lst (asked.map V.str)) := by
          rw [upd_ne (ne_of_none (B05.keep _ _ n1 h1) hp6)]
          exact B05.keep _ _ n1 h1
        refine ⟨_, rfl, _, _, _, _, rfl, rfl, upd_same, h16, by rw [List.length_map]; exact Nat.le_trans (show 1 + asked.length ≤ 12 by have := ok1.len; omega) (by decide), fun p7 hp7 => ?_⟩
        have S7 := (S5.new (o := .lst [.str ("" : Str)]) hp6).new (o := .lst ([.str ("" : Str)] ++ asked.map V.str)) hp7
        refine ⟨a, c, p7, _, rfl, S7, (S5.new hp6).no hp7, upd_same, by simp, by have := ok1.len; simp; omega, fun x H8 hx8 S8 B8 => ?_⟩
        obtain ⟨u, hu, rfl⟩ : ∃ u : Str, (u = "" ∨ u ∈ asked) ∧ x = V.str u := by
          rcases List.mem_cons.mp hx8 with e | hx8
          · exact ⟨"", .inl rfl, e⟩
          · obtain ⟨u, hu, e⟩ := List.mem_map.mp hx8
            exact ⟨u, .inr hu, e.symm⟩
        have B58 := ((But.refl (M := [a, c]) (H := H5)).upd' (o := .lst [.str ("" : Str)]) hp6 |>.upd' hp7).trans B8
        refine ⟨_, rfl, _, rfl, _, rfl, _, rfl, _, rfl, a, c, 2, rfl, S8, by decide, by decide, fun m H9 e1 e2 S9 B9 => ⟨rfl, ?_⟩⟩
        have B59 := B58.trans B9
        refine ⟨by show 6 ≤ sizeLine; decide, fun p9 hp9 => ?_⟩
        have B09 := B05.trans B59
        exact k (.send ns lk u b (decide (V.int m = V.int 1))) _ _ ⟨nok, nas, hlk, hu⟩ (New.tup (NewL.cons New.str (NewL.cons (nw5.mono S.std B59) (NewL.cons New.str (NewL.cons New.str (NewL.cons New.str (NewL.cons New.bl NewL.nil)))))) B09.stand hp9) (S9.new hp9) (B09.upd' hp9)
    cases hlk : links with
    | nil =>
      subst hlk
      refine iteT ?_
      refine ⟨_, rfl, _, _, rfl, rfl, _, rfl, ?_⟩
      refine ite2 (fun _ => tell _ B3) (fun hn => rest (.inl (by have : ¬ (2 : Int) < n := by simpa using hn
                                                                 omega)) _ rfl)
    | cons l0 lr => exact iteF (iteF (rest (.inr (by rw [hlk]; simp)) _ rfl))
end Kb

set_option Elab.async false
set_option linter.all false
set_option maxRecDepth 100000
set_option maxHeartbeats 4000000
/-! Kb, 8: own answers, doors. -/
namespace Kb
open PySem PySem.Spec PyProof.Rows L2

/-! ### _law_own -/
abbrev ownD (os : List (Str × Own)) : List (Str × D) := os.map fun p => (p.1, p.2.d)
structure OwnsOk (asked links : List Str) (os : List (Str × Own)) : Prop where
  sub : (os.map (·.1)).Sublist (asked.take 5)
  ok : ∀ p ∈ os, p.2.ok links
def sp_l_own (K : PySem.W.Frag) : Sp := fun vs H Q _ => ∃ (a c r1 r2 : Addr) (asked links : List Str), vs = [.ref a, .ref r1, .ref r2] ∧ StAt H a c ∧ r1 ∉ [a, c] ∧ r2 ∉ [a, c] ∧
  H r1 = some (.lst (asked.map V.str)) ∧ H r2 = some (.lst (links.map V.str)) ∧ Names 11 asked ∧ Names 11 links ∧
  ∀ (os : List (Str × Own)) (v : V) (H' : Hp), OwnsOk asked links os → New H H' (.dct (ownD os)) v → StAt H' a c → But [a, c] H H' → Q v H'
theorem len_l_own {K : PySem.W.Frag} {vs : List V} {H : Hp} {Q : VK} {E : XK} (h : sp_l_own K vs H Q E) : vs.length = 3 := by
  obtain ⟨a, c, r1, r2, _, _, rfl, _⟩ := h
  rfl
def t_l_own (K : PySem.W.Frag) : TS :=
  (tSeq (tAsg tDNewK (gName 3))
  (tSeq (tFor (iList K (tSl (rSlL K) (tVar 1) tNoPart (tPart (tC (.int 5))))) (gName 4)
    (tSeq (tAsg (tCall (sp_l_draw K) [] E0 (tCons (tVar 0) (tCons (tC (.int 8)) tNil))) (gName 5))
  (C8.tCut (tIfS (tTest (tOp rEq (tVar 5) (tC (.int 0))))
    (sDPut (tVar 3) (tVar 4) (tTup (tCons (tC (.str ("value" : Str))) (tCons (tCall (sp_l_value K) [] E0 (tCons (tVar 0) tNil)) tNil))))
    tNext)
  (C8.tCut (tIfS (tTest (tOp rEq (tVar 5) (tC (.int 1))))
    (sDPut (tVar 3) (tVar 4) (tTup (tCons (tC (.str ("self" : Str))) tNil)))
    tNext)
  (tIfS (tAnd (tTest (tOp rEq (tVar 5) (tC (.int 2)))) (tTest (tOp (rNeD K) (tVar 2) (tLst tNil))))
    (sDPut (tVar 3) (tVar 4) (tTup (tCons (tC (.str ("link" : Str))) (tCons (tCall (sp_l_pick K) [] E0 (tCons (tVar 0) (tCons (tVar 2) tNil))) tNil))))
    tNext)))))
  (tRet (tVar 3))))
theorem cutN {xs : List V} {n : Nat} : cutV xs none (some (n : Int)) = xs.take n := by
  unfold cutV HT.sIx
  simp
  rw [if_neg (by omega)]
  omega
theorem valV_none {kvs : List (Key × V)} {k : Key} (h : k ∉ kvs.map (·.1)) : valV kvs k = none := by
  cases e : valV kvs k with
  | none => rfl
  | some v => exact absurd (valV_in e) h
theorem keys_inr {os : List (Str × D)} {kvs : List (Key × V)} {k : Str} (h : kvs.map (·.1) = os.map fun p => (Sum.inr p.1 : Key)) (n : k ∉ os.map (·.1)) : (Sum.inr k : Key) ∉ kvs.map (·.1) := by
  rw [h]
  intro m
  obtain ⟨p, hp, e⟩ := List.mem_map.mp m
  exact n (List.mem_map.mpr ⟨p, hp, Sum.inr.inj e⟩)
theorem keys_len {os : List (Str × D)} {kvs : List (Key × V)} (h : kvs.map (·.1) = os.map fun p => (Sum.inr p.1 : Key)) : kvs.length = os.length := by
  have := congrArg List.length h
  rw [List.length_map, List.length_map] at this
  exact this
/-- what the loop over the names keeps -/
structure OwnI (H0 : Hp) (a c d : Addr) (done links : List Str) (os : List (Str × Own)) (kvs : List (Key × V)) (H H' : Hp) : Prop where
  sub : (os.map (·.1)).Sublist done
  ok : ∀ p ∈ os, p.2.ok links
  at_ : H' d = some (.dK kvs)
  ks : kvs.map (·.1) = (ownD os).map fun p => (Sum.inr p.1 : Key)
  nw : NewP H0 H' (ownD os) kvs
  st : StAt H' a c
  but : But [a, c] H H'
theorem pure_l_own {K : PySem.W.Frag} (vs : List V) (H : Hp) (Q : VK) (E : XK) (h : sp_l_own K vs H Q E) : t_l_own K (fin Q) (st0 6 vs) H := by
  obtain ⟨a, c, r1, r2, asked, links, rfl, S, n1, n2, h1, h2, ok1, ok2, k⟩ := h
  intro d hd
  have nd := S.no hd
  have h1' : (upd H d (.dK [])) r1 = some (.lst (asked.map V.str)) := by rw [upd_ne (ne_of_none h1 hd)]; exact h1
  refine ⟨_, rfl, _, rfl, _, _, rfl, SqL.of h1', fun p hp => ?_⟩
  have hp0 : H p = none := (But.new (M := []) hd).free hp
  have np := S.no hp0
  have npd : d ≠ p := fun z => by rw [← z, upd_same] at hp; cases hp
  rw [show (5 : Int) = ((5 : Nat) : Int) from rfl, cutN, ← List.map_take]
  -- the base: behind the dict and the slice
  have B0 : But [a, c] H (upd (upd H d (.dK [])) p (.lst ((asked.take 5).map V.str))) := (But.new hd).upd (.inr hp0)
  have S0 : StAt (upd (upd H d (.dK [])) p (.lst ((asked.take 5).map V.str))) a c := (S.new hd).upd np
  have std0 : Std [d, a, c] (upd (upd H d (.dK [])) p (.lst ((asked.take 5).map V.str))) := Std.cons (a := d) (o := .dK []) (by rw [upd_ne npd, upd_same]) S0.std
  generalize hH0 : upd (upd H d (.dK [])) p (.lst ((asked.take 5).map V.str)) = H0 at B0 S0 std0 ⊢
  have hd0 : H0 d = some (.dK []) := by rw [← hH0, upd_ne npd, upd_same]
  have hp1 : H0 p = some (.lst ((asked.take 5).map V.str)) := by rw [← hH0, upd_same]
  have tnd : (asked.take 5).Nodup := ok1.nd.sublist (List.take_sublist ..)
  have tl5 : (asked.take 5).length ≤ 5 := by rw [List.length_take]; omega
  refine ⟨p, rfl, ⟨_, SqL.of hp1⟩, for_list (K := K) (a := p) (xs := (asked.take 5).map V.str) (fun i σ H' => ∃ (os : List (Str × Own)) (kvs : List (Key × V)) (v4 v5 : Option V), σ = [some (.ref a), some (.ref r1), some (.ref r2), some (.ref d), v4, v5] ∧
    OwnI H0 a c d ((asked.take 5).take i) links os kvs H H' ∧ But [d, a, c] H0 H')
    ⟨[], [], none, none, rfl, ⟨by simp, by simp, hd0, rfl, fun _ _ => rfl, S0, B0⟩, But.refl⟩ (fun i σ H' _ ⟨_, _, _, _, _, I, B⟩ => SqL.of (B.keep _ _ (by
      intro m
      rcases List.mem_cons.mp m with e | m
      · exact npd e.symm
      · exact np m) hp1)) ?_ ?_⟩
  · rintro i x σ H1 hx ⟨os, kvs, v4, v5, rfl, I, BB⟩
    rw [List.getElem?_map] at hx
    obtain ⟨w, hw, rfl⟩ := Option.map_eq_some_iff.mp hx
    have et : (asked.take 5).take (i + 1) = (asked.take 5).take i ++ [w] := by
      rw [List.take_add_one, hw]
      rfl
    have wno : w ∉ (asked.take 5).take i := fun m => by
      have : ((asked.take 5).take (i + 1)).Nodup := tnd.sublist (List.take_sublist ..)
      rw [et] at this
      exact (List.nodup_append.mp this).2.2 w m w (List.mem_singleton.mpr rfl) rfl
    refine ⟨_, rfl, a, c, 8, rfl, I.st, by decide, by decide, fun n H2 e1 e2 S2 B2 => ?_⟩
    -- the words between the three ifs
    have I2 : OwnI H0 a c d ((asked.take 5).take i) links os kvs H H2 := ⟨I.sub, I.ok, B2.keep _ _ nd I.at_, I.ks, I.nw.mono S0.std B2, S2, I.but.trans B2⟩
    have BB2 : But [d, a, c] H0 H2 := BB.trans (B2.more (by intro x m; exact List.mem_cons_of_mem _ m))
    have put : ∀ (H3 : Hp) (o : Own) (v : V), o.ok links → New H0 H3 o.d v → But [a, c] H2 H3 → StAt H3 a c →
        ∃ H4, DPut H3 d (.str w) v H4 ∧ OwnI H0 a c d ((asked.take 5).take (i + 1)) links (os ++ [(w, o)]) (kvs ++ [(Sum.inr w, v)]) H H4 ∧ But [d, a, c] H0 H4 := by
      intro H3 o v hov hnw B3 S3
      have hd3 := B3.keep _ _ nd I2.at_
      have hno : (Sum.inr w : Key) ∉ kvs.map (·.1) := keys_inr I.ks fun m => wno (I.sub.subset (by
        have : (ownD os).map (·.1) = os.map (·.1) := by rw [List.map_map]; rfl
        rw [← this]
        exact m))
      have hlen : kvs.length ≤ 5 := by
        rw [keys_len I.ks, List.length_map]
        have := I.sub.length_le
        rw [List.length_map, List.length_take] at this
        omega
      refine ⟨_, DPut.k (k := Sum.inr w) hd3 (small1000 (by omega)), ?_, ?_⟩
      · have e : putK kvs (Sum.inr w : Key) v = kvs ++ [(Sum.inr w, v)] := putK_new v (valV_none hno)
        have nwP : NewP H0 (upd H3 d (.dK (putK kvs (Sum.inr w : Key) v))) (ownD (os ++ [(w, o)])) (kvs ++ [(Sum.inr w, v)]) := by
          have e2 : ownD (os ++ [(w, o)]) = ownD os ++ [(w, o.d)] := by rw [ownD, List.map_append]; rfl
          rw [e2]
          exact ((I2.nw.mono S0.std B3).snoc hnw).mono (M := [d]) (fun x m => by rw [List.mem_singleton.mp m]; exact ne_none hd0) (But.refl.upd (.inl (by simp)))
        refine ⟨?_, ?_, by rw [upd_same, e], ?_, nwP, S3.upd nd, (I2.but.trans B3).upd (.inr hd)⟩
        · rw [List.map_append, et]
          exact I.sub.append (List.Sublist.refl _)
        · intro q hq
          rcases List.mem_append.mp hq with hq | hq
          · exact I.ok q hq
          · rw [List.mem_singleton.mp hq]
            exact hov
        · rw [List.map_append, I.ks]
          simp only [ownD, List.map_append]
          rfl
      · exact (BB2.trans (B3.more (by intro x m; exact List.mem_cons_of_mem _ m))).upd (.inl (by simp))
    -- Mid: either nothing yet, or done
    refine ⟨fun σ H' => ∃ (os' : List (Str × Own)) (kvs' : List (Key × V)), σ = [some (.ref a), some (.ref r1), some (.ref r2), some (.ref d), some (.str w), some (.int n)] ∧
      ((n ≠ 0 ∧ os' = os ∧ kvs' = kvs ∧ H' = H2) ∨ (n = 0 ∧ OwnI H0 a c d ((asked.take 5).take (i + 1)) links os' kvs' H H' ∧ But [d, a, c] H0 H')), ?_, ?_⟩
    · refine ⟨_, rfl, rfl, _, rfl, ?_⟩
      rw [dec_int]
      refine ite2 (fun hn => ?_) (fun hn => ?_)
      · have hn : n = 0 := by simpa using hn
        refine ⟨_, rfl, a, c, rfl, S2, fun u H3 nu S3 B3 => ?_⟩
        refine ⟨by show 2 ≤ sizeLine; decide, fun q hq => ?_⟩
        obtain ⟨H4, hput, I4, B4⟩ := put (upd H3 q (.tup [.str ("value" : Str), .str u])) (.val u) (.ref q) nu (New.tup (NewL.cons New.str (NewL.cons New.str NewL.nil)) (BB2.trans (B3.more (by intro x m; exact List.mem_cons_of_mem _ m))).stand hq) (B3.upd' hq) (S3.new hq)
        exact ⟨_, rfl, _, rfl, d, H4, rfl, hput, _, _, rfl, .inr ⟨hn, I4, B4⟩⟩
      · have hn : n ≠ 0 := by simpa using hn
        exact ⟨os, kvs, rfl, .inl ⟨hn, rfl, rfl, rfl⟩⟩
    · rintro σ H3 ⟨os', kvs', rfl, hor⟩
      refine ⟨fun σ H' => ∃ (os' : List (Str × Own)) (kvs' : List (Key × V)), σ = [some (.ref a), some (.ref r1), some (.ref r2), some (.ref d), some (.str w), some (.int n)] ∧
        ((n ≠ 0 ∧ n ≠ 1 ∧ os' = os ∧ kvs' = kvs ∧ H' = H2) ∨ ((n = 0 ∨ n = 1) ∧ OwnI H0 a c d ((asked.take 5).take (i + 1)) links os' kvs' H H' ∧ But [d, a, c] H0 H')), ?_, ?_⟩
      · refine ⟨_, rfl, rfl, _, rfl, ?_⟩
        rw [dec_int]
        refine ite2 (fun hn => ?_) (fun hn => ?_)
        · have hn : n = 1 := by simpa using hn
          rcases hor with ⟨hn0, rfl, rfl, rfl⟩ | ⟨hn0, _⟩
          · refine ⟨by show 1 ≤ sizeLine; decide, fun q hq => ?_⟩
            obtain ⟨H4, hput, I4, B4⟩ := put (upd H3 q (.tup [.str ("self" : Str)])) .self (.ref q) trivial (New.tup (NewL.cons New.str NewL.nil) BB2.stand hq) (But.refl.upd' hq) (S2.new hq)
            exact ⟨_, rfl, _, rfl, d, H4, rfl, hput, _, _, rfl, .inr ⟨.inr hn, I4, B4⟩⟩
          · omega
        · have hn : n ≠ 1 := by simpa using hn
          rcases hor with ⟨hn0, rfl, rfl, rfl⟩ | ⟨hn0, I3, B3⟩
          · exact ⟨_, _, rfl, .inl ⟨hn0, hn, rfl, rfl, rfl⟩⟩
          · exact ⟨_, _, rfl, .inr ⟨.inl hn0, I3, B3⟩⟩
      · rintro σ H4 ⟨os', kvs', rfl, hor⟩
        have skip : n ≠ 0 → n ≠ 1 → ∀ H5, But [] H2 H5 → ∃ os kvs v4 v5, [some (V.ref a), some (V.ref r1), some (V.ref r2), some (V.ref d), some (V.str w), some (V.int n)] = [some (.ref a), some (.ref r1), some (.ref r2), some (.ref d), v4, v5] ∧
            OwnI H0 a c d ((asked.take 5).take (i + 1)) links os kvs H H5 ∧ But [d, a, c] H0 H5 := by
          intro _ _ H5 B5
          refine ⟨os, kvs, _, _, rfl, ⟨?_, I.ok, B5.keep _ _ (by simp) I2.at_, I.ks, I2.nw.mono Std.nil B5, S2.nil B5, I2.but.trans B5.nil⟩, BB2.trans B5.nil⟩
          rw [et]
          exact I.sub.trans (List.sublist_append_left _ _)
        refine ⟨_, rfl, rfl, _, rfl, ?_⟩
        rw [dec_int]
        refine ite2 (fun hn => ?_) (fun hn => ?_)
        · have hn : n = 2 := by simpa using hn
          rcases hor with ⟨hn0, hn1, rfl, rfl, rfl⟩ | ⟨hn0, _⟩
          · have hl2 := I2.but.keep _ _ n2 h2
            refine ⟨_, rfl, sz0, fun q hq => neE (by rw [upd_ne (ne_of_none hl2 hq)]; exact hl2) (names_ok ok2) upd_same ⟨_, rfl, ?_⟩⟩
            have B5 : But [] H4 (upd H4 q (.lst [])) := But.new hq
            refine ite2 (fun hne => ?_) (fun _ => skip hn0 hn1 _ B5)
            · have hlk : links ≠ [] := fun z => by rw [z] at hne; cases hne
              refine ⟨_, rfl, _, rfl, a, c, r2, links.map V.str, rfl, S2.nil B5, n2, B5.keep _ _ (by simp) hl2, by simpa using hlk, by rw [List.length_map]; exact Nat.le_trans ok2.len (by decide), fun x H6 hx6 S6 B6 => ?_⟩
              obtain ⟨lk, hlk2, rfl⟩ := List.mem_map.mp hx6
              refine ⟨by show 2 ≤ sizeLine; decide, fun q2 hq2 => ?_⟩
              have B26 : But [a, c] H4 H6 := B5.nil.trans B6
              obtain ⟨H7, hput, I7, B7⟩ := put (upd H6 q2 (.tup [.str ("link" : Str), .str lk])) (.link lk) (.ref q2) hlk2 (New.tup (NewL.cons New.str (NewL.cons New.str NewL.nil)) (BB2.trans (B26.more (by intro x m; exact List.mem_cons_of_mem _ m))).stand hq2) (B26.upd' hq2) (S6.new hq2)
              exact ⟨_, rfl, _, rfl, d, H7, rfl, hput, _, _, _, _, rfl, I7, B7⟩
          · omega
        · rcases hor with ⟨hn0, hn1, rfl, rfl, rfl⟩ | ⟨hn0, I3, B3⟩
          · exact iteF (skip hn0 hn1 _ But.refl)
          · exact iteF ⟨_, _, _, _, rfl, I3, B3⟩
  · rintro σ H1 ⟨os, kvs, v4, v5, rfl, I, BB⟩
    rw [List.length_map, List.take_length] at I
    exact ⟨_, rfl, k os _ H1 ⟨I.sub, I.ok⟩ (New.dctm I.nw B0.stand hd I.at_) I.st I.but⟩
end Kb

set_option Elab.async false
set_option linter.all false
set_option maxRecDepth 100000
set_option maxHeartbeats 4000000
/-! Kb, 9: doors; a drawn house as data. -/
namespace Kb
open PySem PySem.Spec PyProof.Rows L2

/-! ### _law_doors -/
def sp_l_doors (K : PySem.W.Frag) : Sp := fun vs H Q _ => ∃ (a c : Addr) (m : Nat), vs = [.ref a, .int (m : Int)] ∧ StAt H a c ∧ m ≤ 10 ∧
  ∀ (ws : List Str) (l : Addr) (H' : Hp), Names m ws → H l = none → H' l = some (.lst (ws.map V.str)) → StAt H' a c → But [a, c] H H' → Q (.ref l) H'
theorem len_l_doors {K : PySem.W.Frag} {vs : List V} {H : Hp} {Q : VK} {E : XK} (h : sp_l_doors K vs H Q E) : vs.length = 2 := by
  obtain ⟨a, c, m, rfl, _⟩ := h
  rfl
def t_l_doors (K : PySem.W.Frag) : TS :=
  (tSeq (tIfS (tOr (tTest (tOp rEq (tVar 1) (tC (.int 0)))) (tTest (tOp rEq (tCall (sp_l_draw K) [] E0 (tCons (tVar 0) (tCons (tC (.int 6)) tNil))) (tC (.int 0)))))
    (tRet (tLst tNil))
    tNext)
  (tRet (tCall (sp_l_words K) [] E0 (tCons (tVar 0) (tCons (tCB rMin2 (tCons (tVar 1) (tCons (tOp rAddI (tC (.int 1)) (tCall (sp_l_draw K) [] E0 (tCons (tVar 0) (tCons (tOp rAddI (tVar 1) (tC (.int 1))) tNil)))) tNil))) tNil)))))
theorem pure_l_doors {K : PySem.W.Frag} (vs : List V) (H : Hp) (Q : VK) (E : XK) (h : sp_l_doors K vs H Q E) : t_l_doors K (fin Q) (st0 2 vs) H := by
  obtain ⟨a, c, m, rfl, S, hm, k⟩ := h
  have none_ : ∀ H1, StAt H1 a c → But [a, c] H H1 → tRet (tLst tNil) (fin Q) (st0 2 [.ref a, .int (m : Int)]) H1 := fun H1 S1 B1 =>
    ⟨sz0, fun p hp => k [] p _ ⟨Nat.zero_le _, List.nodup_nil, by simp⟩ (B1.free hp) upd_same (S1.new hp) (B1.upd' hp)⟩
  refine ⟨_, rfl, rfl, _, rfl, ?_⟩
  rw [dec_int]
  refine ite2 (fun _ => iteT (none_ H S But.refl)) (fun hn => ?_)
  have hm0 : m ≠ 0 := fun z => hn (by rw [z]; rfl)
  refine ⟨_, rfl, a, c, 6, rfl, S, by decide, by decide, fun n H1 e1 e2 S1 B1 => ⟨rfl, _, rfl, ?_⟩⟩
  refine ite2 (fun _ => none_ H1 S1 B1) (fun _ => ?_)
  refine ⟨_, rfl, _, rfl, _, rfl, _, rfl, _, _, rfl, rfl, a, c, (m : Int) + 1, rfl, S1, by omega, by omega, fun n H2 e1 e2 S2 B2 => ?_⟩
  obtain ⟨i, rfl, hi⟩ := idx_of (k := m + 1) e1 e2
  refine ⟨_, _, rfl, rfl, _, _, rfl, ?_⟩
  have go : ∀ z : Int, (∃ z' : Nat, z = (z' : Int) ∧ z' ≤ m) → sp_l_words K ([V.ref a, V.int z] ++ []) H2 Q E0 := by
    rintro z ⟨z', rfl, hz⟩
    exact ⟨a, c, z', rfl, S2, by omega, fun ws l H3 h1 h2 h3 h4 h5 S3 B3 => k ws l H3 ⟨by omega, h3, h2⟩ ((B1.trans B2).free h4) h5 S3 ((B1.trans B2).trans B3)⟩
  refine go _ ?_
  show ∃ z' : Nat, (if (1 : Int) + (i : Int) < (m : Int) then (1 : Int) + (i : Int) else (m : Int)) = (z' : Int) ∧ z' ≤ m
  by_cases hlt : (1 : Int) + (i : Int) < (m : Int)
  · rw [if_pos hlt]
    exact ⟨i + 1, by omega, by omega⟩
  · rw [if_neg hlt]
    exact ⟨m, rfl, Nat.le_refl _⟩

/-! ### _law_house -/
structure KD where
  name : Str
  links : List (Str × List Str)
  own : List (Str × Own)
  rules : List Rule
  hid : Bool
abbrev KD.lks (k : KD) : List Str := k.links.map (·.1)
abbrev linkD (ls : List (Str × List Str)) : List (Str × D) := ls.map fun p => (p.1, nmD p.2)
def KD.d (k : KD) : D := .lst [.str k.name, .dct (linkD k.links), .dct (ownD k.own), .lst (k.rules.map Rule.d), .bl k.hid]
structure KdOk (kinds asked : List Str) (ln rn : Nat) (k : KD) : Prop where
  lk : Names ln k.lks
  cho : ∀ p ∈ k.links, ChoOk kinds p.2
  own : OwnsOk asked k.lks k.own
  rl : k.rules.length ≤ rn
  ro : ∀ r ∈ k.rules, r.ok asked k.lks
structure HsOk (kn ln an rn : Nat) (kinds asked : List Str) (hs : List KD) : Prop where
  nm : hs.map KD.name = kinds
  ks : Names kn kinds
  kne : kinds ≠ []
  as : Names an asked
  ok : ∀ k ∈ hs, KdOk kinds asked ln rn k
def sp_l_house (K : PySem.W.Frag) : Sp := fun vs H Q _ => ∃ (a c : Addr) (kn ln an rn : Nat), vs = [.ref a, .int (kn : Int), .int (ln : Int), .int (an : Int), .int (rn : Int)] ∧ StAt H a c ∧ 1 ≤ kn ∧ kn ≤ 4 ∧ ln ≤ 10 ∧ 1 ≤ an ∧ an ≤ 10 ∧ rn ≤ 300 ∧
  ∀ (kinds asked : List Str) (hs : List KD) (v : V) (H' : Hp), HsOk kn ln an rn kinds asked hs → New H H' (.lst (hs.map KD.d)) v → StAt H' a c → But [a, c] H H' → Q v H'
theorem len_l_house {K : PySem.W.Frag} {vs : List V} {H : Hp} {Q : VK} {E : XK} (h : sp_l_house K vs H Q E) : vs.length = 5 := by
  obtain ⟨a, c, _, _, _, _, rfl, _⟩ := h
  rfl
def t_l_house (K : PySem.W.Frag) : TS :=
  (tSeq (tAsg (tCall (sp_l_words K) [] E0 (tCons (tVar 0) (tCons (tOp rAddI (tC (.int 1)) (tCall (sp_l_draw K) [] E0 (tCons (tVar 0) (tCons (tVar 1) tNil)))) tNil))) (gName 5))
  (tSeq (tAsg (tCall (sp_l_words K) [] E0 (tCons (tVar 0) (tCons (tOp rAddI (tC (.int 1)) (tCall (sp_l_draw K) [] E0 (tCons (tVar 0) (tCons (tVar 3) tNil)))) tNil))) (gName 6))
  (tSeq (tAsg (tLst tNil) (gName 7))
  (tSeq (tFor (iList K (tVar 5)) (gName 8)
    (tSeq (tAsg (tCall (sp_l_doors K) [] E0 (tCons (tVar 0) (tCons (tVar 2) tNil))) (gName 9))
  (tSeq (tAsg tDNewK (gName 10))
  (tSeq (tFor (iList K (tVar 9)) (gName 11)
    (sDPut (tVar 10) (tVar 11) (tCall (sp_l_choices K) [] E0 (tCons (tVar 0) (tCons (tVar 5) tNil)))))
  (tSeq (tAsg (tLc (iRng1 (tCons (tCall (sp_l_draw K) [] E0 (tCons (tVar 0) (tCons (tOp rAddI (tVar 4) (tC (.int 1))) tNil))) tNil)) (gName 13) tYes (tCall (sp_l_rule K) [] E0 (tCons (tVar 0) (tCons (tVar 6) (tCons (tVar 9) tNil)))) [13]) (gName 12))
  (tDrop (tBM K "list" rAppend (tVar 7) (tCons (tLst (tCons (tVar 8) (tCons (tVar 10) (tCons (tCall (sp_l_own K) [] E0 (tCons (tVar 0) (tCons (tVar 6) (tCons (tVar 9) tNil)))) (tCons (tVar 12) (tCons (tOp rEq (tCall (sp_l_draw K) [] E0 (tCons (tVar 0) (tCons (tC (.int 4)) tNil))) (tC (.int 0))) tNil)))))) tNil))))))))
  (tRet (tVar 7))))))
theorem one_add {a : Addr} {i : Nat} : ([V.ref a, V.int (1 + (i : Int))] : List V) ++ [] = [.ref a, .int ((i + 1 : Nat) : Int)] := by
  rw [show (1 : Int) + (i : Int) = ((i + 1 : Nat) : Int) by omega]
  rfl
theorem sub2 {a c x : Addr} : ∀ y ∈ [a, c], y ∈ [x, a, c] := fun y m => List.mem_cons_of_mem _ m
theorem not3 {a c x y : Addr} (h : y ≠ x) (n : y ∉ [a, c]) : y ∉ [x, a, c] := fun m => by
  rcases List.mem_cons.mp m with e | m
  · exact h e
  · exact n m
theorem pure_l_house {K : PySem.W.Frag} (vs : List V) (H : Hp) (Q : VK) (E : XK) (h : sp_l_house K vs H Q E) : t_l_house K (fin Q) (st0 14 vs) H := by
  obtain ⟨a, c, kn, ln, an, rn, rfl, S, kn1, kn4, ln2, an1, an8, rn3, k⟩ := h
  -- the kinds' names
  refine ⟨_, rfl, _, rfl, _, rfl, a, c, (kn : Int), rfl, S, by omega, by omega, fun n H1 e1 e2 S1 B1 => ?_⟩
  obtain ⟨i, rfl, hi⟩ := idx_of (k := kn) e1 e2
  refine ⟨_, _, rfl, rfl, a, c, i + 1, one_add, S1, by omega, fun kinds w5 H2 k1 k2 k3 k4 k5 S2 B2 => ?_⟩
  have B02 := B1.trans B2
  have n5 := S1.no k4
  have kok : Names kn kinds := ⟨by omega, k3, k2⟩
  have kne : kinds ≠ [] := fun z => by rw [z] at k1; cases k1
  -- the asked names
  refine ⟨_, rfl, _, rfl, _, rfl, a, c, (an : Int), rfl, S2, by omega, by omega, fun n H3 e1 e2 S3 B3 => ?_⟩
  obtain ⟨j, rfl, hj⟩ := idx_of (k := an) e1 e2
  refine ⟨_, _, rfl, rfl, a, c, j + 1, one_add, S3, by omega, fun asked w6 H4 a1 a2 a3 a4 a5 S4 B4 => ?_⟩
  have B04 := (B02.trans B3).trans B4
  have n6 := S3.no a4
  have aok : Names an asked := ⟨by omega, a3, a2⟩
  have k5' : H4 w5 = some (.lst (kinds.map V.str)) := (B3.trans B4).keep _ _ n5 k5
  refine ⟨sz0, fun hh hhh => ?_⟩
  have nh := S4.no hhh
  have S5 := S4.new (o := .lst []) hhh
  have hh0 : H hh = none := B04.free hhh
  have B05 : But [a, c] H (upd H4 hh (.lst [])) := B04.upd' hhh
  have k55 : upd H4 hh (.lst []) w5 = some (.lst (kinds.map V.str)) := by rw [upd_ne (ne_of_none k5' hhh)]; exact k5'
  have a55 : upd H4 hh (.lst []) w6 = some (.lst (asked.map V.str)) := by rw [upd_ne (ne_of_none a5 hhh)]; exact a5
  have hh5 : upd H4 hh (.lst []) hh = some (.lst []) := upd_same
  generalize upd H4 hh (.lst []) = H5 at S5 B05 k55 a55 hh5 ⊢
  have std5 : Std [hh, a, c] H5 := Std.cons hh5 S5.std
  have n5h : w5 ∉ [hh, a, c] := not3 (fun z => by rw [z, hhh] at k5'; cases k5') n5
  have n6h : w6 ∉ [hh, a, c] := not3 (fun z => by rw [z, hhh] at a5; cases a5) n6
  refine ⟨_, rfl, w5, rfl, ⟨_, SqL.of k55⟩, for_list (K := K) (a := w5) (xs := kinds.map V.str) (fun i σ H' => ∃ (hs : List KD) (xs : List V) (v8 v9 v10 v11 v12 v13 : Option V),
    σ = [some (.ref a), some (.int (kn : Int)), some (.int (ln : Int)), some (.int (an : Int)), some (.int (rn : Int)), some (.ref w5), some (.ref w6), some (.ref hh), v8, v9, v10, v11, v12, v13] ∧
    hs.map KD.name = kinds.take i ∧ (∀ k ∈ hs, KdOk kinds asked ln rn k) ∧ H' hh = some (.lst xs) ∧ NewL H5 H' (hs.map KD.d) xs ∧ xs.length = i ∧ StAt H' a c ∧ But [a, c] H H' ∧ But [hh, a, c] H5 H')
    ⟨[], [], none, none, none, none, none, none, rfl, by simp, by simp, hh5, NewL.nil, rfl, S5, B05, But.refl⟩ (fun i σ H' _ ⟨_, _, _, _, _, _, _, _, _, _, _, _, _, _, _, _, B⟩ => SqL.of (B.keep _ _ n5h k55)) ?_ ?_⟩
  · rintro i x σ H6 hx ⟨hs, xs, v8, v9, v10, v11, v12, v13, rfl, q1, q2, q3, q4, q5, S6, B06, BB6⟩
    rw [List.getElem?_map] at hx
    obtain ⟨w, hw, rfl⟩ := Option.map_eq_some_iff.mp hx
    have hil : i < 4 := by
      have := (List.getElem?_eq_some_iff.mp hw).1
      have := kok.len
      omega
    -- doors
    refine ⟨_, rfl, _, rfl, a, c, ln, rfl, S6, ln2, fun ds l9 H7 dok hl9 hd9 S7 B7 => ?_⟩
    have n9 := S6.no hl9
    have BB7 := BB6.trans (B7.more sub2)
    have n9h : l9 ≠ hh := fun z => by rw [z, q3] at hl9; cases hl9
    -- leads = {}
    intro d hd
    have nd := S7.no hd
    have d9 : d ≠ l9 := fun z => by rw [z, hd9] at hd; cases hd
    have ndh : d ≠ hh := fun z => by
      have := B7.keep _ _ nh q3
      rw [← z, hd] at this
      cases this
    have S8 := S7.new (o := .dK []) hd
    have hl9' : upd H7 d (.dK []) l9 = some (.lst (ds.map V.str)) := by rw [upd_ne (Ne.symm d9)]; exact hd9
    have hd8 : upd H7 d (.dK []) d = some (.dK []) := upd_same
    have B78 : But [] H7 (upd H7 d (.dK [])) := But.new hd
    have BB8 : But [hh, a, c] H5 (upd H7 d (.dK [])) := BB7.trans B78.nil
    generalize upd H7 d (.dK []) = H8 at S8 hl9' hd8 B78 BB8 ⊢
    have std8 : Std [d, a, c] H8 := Std.cons hd8 S8.std
    refine ⟨_, rfl, l9, rfl, ⟨_, SqL.of hl9'⟩, for_list (K := K) (a := l9) (xs := ds.map V.str) (fun i' σ H' => ∃ (ls : List (Str × List Str)) (kvs : List (Key × V)) (v11 : Option V),
      σ = [some (.ref a), some (.int (kn : Int)), some (.int (ln : Int)), some (.int (an : Int)), some (.int (rn : Int)), some (.ref w5), some (.ref w6), some (.ref hh), some (.str w), some (.ref l9), some (.ref d), v11, v12, v13] ∧
      ls.map (·.1) = ds.take i' ∧ (∀ p ∈ ls, ChoOk kinds p.2) ∧ H' d = some (.dK kvs) ∧ kvs.map (·.1) = (linkD ls).map (fun p => (Sum.inr p.1 : Key)) ∧ NewP H8 H' (linkD ls) kvs ∧ StAt H' a c ∧ But [d, a, c] H8 H')
      ⟨[], [], v11, rfl, by simp, by simp, hd8, rfl, fun _ _ => rfl, S8, But.refl⟩ (fun i σ H' _ ⟨_, _, _, _, _, _, _, _, _, _, B⟩ => SqL.of (B.keep _ _ (not3 (Ne.symm d9) n9) hl9')) ?_ ?_⟩
    · rintro i' x σ H9 hx9 ⟨ls, kvs, v11', rfl, g1, g2, g3, g4, g5, S9, B9⟩
      rw [List.getElem?_map] at hx9
      obtain ⟨lk, hlk, rfl⟩ := Option.map_eq_some_iff.mp hx9
      have n5d : w5 ∉ [d, a, c] := not3 (fun z => by have := BB8.keep _ _ n5h k55; rw [z, hd8] at this; cases this) n5
      have hw5 : H9 w5 = some (.lst (kinds.map V.str)) := B9.keep _ _ n5d (BB8.keep _ _ n5h k55)
      refine ⟨_, rfl, _, rfl, a, c, w5, kinds, rfl, S9, n5, hw5, kne, Nat.le_trans kok.len kn4, kok.nm, kok.nd, fun ys p H10 cho hp hp10 S10 B10 => ?_⟩
      have hd10 := B10.keep _ _ nd g3
      have hno : (Sum.inr lk : Key) ∉ kvs.map (·.1) := keys_inr g4 fun m => by
        have e : (linkD ls).map (·.1) = ls.map (·.1) := by rw [List.map_map]; rfl
        rw [e, g1] at m
        have : (ds.take (i' + 1)).Nodup := dok.nd.sublist (List.take_sublist ..)
        rw [List.take_add_one, hlk] at this
        exact (List.nodup_append.mp this).2.2 lk m lk (List.mem_singleton.mpr rfl) rfl
      have hlen : kvs.length ≤ 10 := by
        have e1 := keys_len g4
        have e2 := congrArg List.length g1
        rw [List.length_map, List.length_take] at e2
        rw [List.length_map] at e1
        have := dok.len
        omega
      refine ⟨_, rfl, _, rfl, d, _, rfl, DPut.k (k := Sum.inr lk) hd10 (small1000 (by omega)), ?_⟩
      have e : putK kvs (Sum.inr lk : Key) (.ref p) = kvs ++ [(Sum.inr lk, .ref p)] := putK_new _ (valV_none hno)
      refine ⟨ls ++ [(lk, ys)], kvs ++ [(Sum.inr lk, .ref p)], _, rfl, ?_, ?_, by rw [upd_same, e], ?_, ?_, S10.upd nd, (B9.trans (B10.more sub2)).upd (.inl (by simp))⟩
      · rw [List.map_append, g1, List.take_add_one, hlk]
        rfl
      · intro q hq
        rcases List.mem_append.mp hq with hq | hq
        · exact g2 q hq
        · rw [List.mem_singleton.mp hq]
          exact cho
      · rw [List.map_append, g4]
        simp only [linkD, List.map_append]
        rfl
      · have e2 : linkD (ls ++ [(lk, ys)]) = linkD ls ++ [(lk, nmD ys)] := by rw [linkD, List.map_append]; rfl
        rw [e2]
        have nn : New H8 H10 (nmD ys) (.ref p) := (New.strs hp hp10).pre B9.stand
        exact ((g5.mono S8.std B10).snoc nn).mono (M := [d]) (fun x m => by rw [List.mem_singleton.mp m]; exact ne_none hd8) (But.refl.upd (.inl (by simp)))
    · rintro σ H9 ⟨ls, kvs, v11', rfl, g1, g2, g3, g4, g5, S9, B9⟩
      rw [List.length_map, List.take_length] at g1
      have n6d : w6 ∉ [d, a, c] := not3 (fun z => by have := BB8.keep _ _ n6h a55; rw [z, hd8] at this; cases this) n6
      have hw6 : H9 w6 = some (.lst (asked.map V.str)) := B9.keep _ _ n6d (BB8.keep _ _ n6h a55)
      have h99 : H9 l9 = some (.lst (ds.map V.str)) := B9.keep _ _ (not3 (Ne.symm d9) n9) hl9'
      -- the rules
      refine ⟨_, rfl, _, rfl, _, _, rfl, rfl, a, c, (rn : Int) + 1, rfl, S9, by omega, by omega, fun m H10 e1 e2 S10 B10 => ?_⟩
      obtain ⟨r, rfl, hr⟩ := idx_of (k := rn + 1) e1 e2
      refine ⟨(r : Int), rfl, by omega, by omega, fun Dl hD => ?_⟩
      have nD := S10.no hD
      have S11 := S10.new (o := .lst []) hD
      have hDl : upd H10 Dl (.lst []) Dl = some (.lst []) := upd_same
      have B1011 : But [] H10 (upd H10 Dl (.lst [])) := But.new hD
      have nDw6 : w6 ≠ Dl := fun z => by have := B10.keep _ _ n6 hw6; rw [z, hD] at this; cases this
      have nDl9 : l9 ≠ Dl := fun z => by have := B10.keep _ _ n9 h99; rw [z, hD] at this; cases this
      have w611 := B1011.keep _ _ (by simp) (B10.keep _ _ n6 hw6)
      have l911 := B1011.keep _ _ (by simp) (B10.keep _ _ n9 h99)
      have B911 : But [a, c] H9 (upd H10 Dl (.lst [])) := B10.trans B1011.nil
      refine lc_it walk_range (fun i' H' => ∃ (rs : List Rule) (ys : List V), H' Dl = some (.lst ys) ∧ NewL (upd H10 Dl (.lst [])) H' (rs.map Rule.d) ys ∧ ys.length = i' ∧ rs.length = i' ∧ (∀ r ∈ rs, r.ok asked ds) ∧ StAt H' a c ∧ But [Dl, a, c] (upd H10 Dl (.lst [])) H')
        ⟨[], [], upd_same, NewL.nil, rfl, rfl, by simp, S11, But.refl⟩ (fun _ _ _ _ => trivial) ?_ ?_
      · rintro i' x Ha Hb hi' ⟨rs, ys, f1, f2, f3, f4, f5, S12, B12⟩ ⟨rfl, rfl⟩
        refine ⟨rfl, _, rfl, _, rfl, _, rfl, a, c, w6, l9, asked, ds, rfl, S12, n6, n9, B12.keep _ _ (not3 nDw6 n6) w611, B12.keep _ _ (not3 nDl9 n9) l911, ⟨Nat.le_trans aok.len (by omega), aok.nd, aok.nm⟩, ⟨Nat.le_trans dok.len (by omega), dok.nd, dok.nm⟩, fun rl v Hc rok nw S13 B13 => ?_⟩
        refine ⟨ys, B13.keep _ _ nD f1, small1000 (by omega), rs ++ [rl], ys ++ [v], upd_same, ?_, by simp [f3], by simp [f4], ?_, S13.upd nD, (B12.trans (B13.more sub2)).upd (.inl (by simp))⟩
        · rw [List.map_append]
          exact ((f2.mono S11.std B13).snoc (nw.pre B12.stand)).mono (M := [Dl]) (fun x m => by rw [List.mem_singleton.mp m]; exact ne_none hDl) (But.refl.upd (.inl (by simp)))
        · intro q hq
          rcases List.mem_append.mp hq with hq | hq
          · exact f5 q hq
          · rw [List.mem_singleton.mp hq]
            exact rok
      · rintro Ha ⟨rs, ys, f1, f2, f3, f4, f5, S12, B12⟩
        -- house.append([word, leads, own(..), listed, draw(4) == 0])
        have hhA : Ha hh = some (.lst xs) := by
          refine B12.keep _ _ (not3 (fun z => ?_) nh) (B911.keep _ _ nh (B9.keep _ _ (not3 (Ne.symm ndh) nh) ?_))
          · have := B10.keep _ _ nh (B9.keep _ _ (not3 (Ne.symm ndh) nh) (B78.keep _ _ (by simp) (B7.keep _ _ nh q3)))
            rw [z, hD] at this
            cases this
          · exact B78.keep _ _ (by simp) (B7.keep _ _ nh q3)
        have w6A := B12.keep _ _ (not3 nDw6 n6) w611
        have l9A := B12.keep _ _ (not3 nDl9 n9) l911
        have dA9 : (upd H10 Dl (.lst [])) d = some (.dK kvs) := B911.keep _ _ nd g3
        have ndD : d ≠ Dl := fun z => by have := B10.keep _ _ nd g3; rw [z, hD] at this; cases this
        have dA : Ha d = some (.dK kvs) := B12.keep _ _ (not3 ndD nd) dA9
        refine ⟨_, rfl, .inl ⟨rfl, _, SqL.of hhA⟩, _, rfl, _, rfl, _, rfl, _, rfl, _, rfl, a, c, w6, l9, asked, ds, rfl, S12, n6, n9, w6A, l9A, ⟨Nat.le_trans aok.len (by omega), aok.nd, aok.nm⟩, ⟨Nat.le_trans dok.len (by omega), dok.nd, dok.nm⟩, fun os vo Hc ook nwo S13 B13 => ?_⟩
        refine ⟨_, rfl, _, rfl, a, c, 4, rfl, S13, by decide, by decide, fun m Hd e1 e2 S14 B14 => ⟨rfl, ?_⟩⟩
        refine ⟨by show 5 ≤ sizeLine; decide, fun p hp => ?_⟩
        have BAd : But [a, c] Ha Hd := B13.trans B14
        have hhd := BAd.keep _ _ nh hhA
        have d6 : H6 d = none := B7.free hd
        have D9 : H9 Dl = none := B10.free hD
        have D6 : H6 Dl = none := B7.free (B78.free (B9.free D9))
        have B6d : But [a, c] H6 Hd := by
          refine ⟨fun x o m e => ?_, fun x n => BAd.stand _ (B12.stand _ (B911.stand _ (B9.stand _ (B78.stand _ (B7.stand _ n)))))⟩
          have xd : x ≠ d := ne_of_none e d6
          have xD : x ≠ Dl := ne_of_none e D6
          exact BAd.keep _ _ m (B12.keep _ _ (not3 xD m) (B911.keep _ _ m (B9.keep _ _ (not3 xd m) (B78.keep _ _ (by simp) (B7.keep _ _ m e)))))
        have st5A : ∀ x, H5 x ≠ none → Ha x ≠ none := fun x n => B12.stand _ (B911.stand _ (B9.stand _ (BB8.stand _ n)))
        -- the parts are new
        have nL : New H5 Hd (.dct (linkD ls)) (.ref d) := by
          have n1 : NewP H8 Ha (linkD ls) kvs := (g5.mono S8.std B10).mono2 (M := [Dl, a, c]) (fun x m => by
            rcases List.mem_cons.mp m with e | m
            · rw [e]; exact .inr hD
            · exact .inl (S8.std x m)) fun p' o m e => B12.keep _ _ m (B1011.keep _ _ (by simp) e)
          exact (New.dctm (H := H7) (H0 := H8) (n1.mono S8.std BAd) B78.stand hd (BAd.keep _ _ nd dA)).pre BB7.stand
        have nO : New H5 Hd (.dct (ownD os)) vo := (nwo.mono S12.std B14).pre st5A
        have nR : New H5 Hd (.lst (rs.map Rule.d)) (.ref Dl) := (New.lstm (H := H10) (f2.mono S11.std BAd) B1011.stand hD (BAd.keep _ _ nD f1)).pre fun x n => B10.stand _ (B9.stand _ (BB8.stand _ n))
        have nK : New H5 (upd Hd p (.lst [.str w, .ref d, vo, .ref Dl, .bl (decide (V.int m = V.int 0))])) (KD.d ⟨w, ls, os, rs, decide (V.int m = V.int 0)⟩) (.ref p) :=
          New.lst (NewL.cons New.str (NewL.cons nL (NewL.cons nO (NewL.cons nR (NewL.cons New.bl NewL.nil))))) (fun x n => BAd.stand _ (st5A x n)) hp
        have hhd := B6d.keep _ _ nh q3
        have hhp : hh ≠ p := ne_of_none hhd hp
        refine ⟨hh, xs, _, rfl, rfl, by rw [upd_ne hhp]; exact hhd, small1000 (by omega), ?_⟩
        refine ⟨hs ++ [⟨w, ls, os, rs, decide (V.int m = V.int 0)⟩], xs ++ [.ref p], _, _, _, _, _, _, rfl, ?_, ?_, upd_same, ?_, by simp [q5], (S14.new hp).upd nh, ((B06.trans B6d).upd' hp).upd (.inr hh0), ((BB6.trans (B6d.more sub2)).upd' hp).upd (.inl (by simp))⟩
        · rw [List.map_append, q1, List.take_add_one, hw]
          rfl
        · intro q hq
          rcases List.mem_append.mp hq with hq | hq
          · exact q2 q hq
          · rw [List.mem_singleton.mp hq]
            refine ⟨?_, g2, ?_, ?_, ?_⟩
            · show Names ln (ls.map (·.1))
              rw [g1]
              exact dok
            · show OwnsOk asked (ls.map (·.1)) os
              rw [g1]
              exact ook
            · show rs.length ≤ rn
              omega
            · show ∀ r ∈ rs, r.ok asked (ls.map (·.1))
              rw [g1]
              exact f5
        · rw [List.map_append]
          exact (((q4.mono S5.std B6d).mono (M := []) Std.nil (But.new hp)).snoc nK).mono (M := [hh]) (fun x m => by rw [List.mem_singleton.mp m]; exact ne_none hh5) (But.refl.upd (.inl (by simp)))
  · rintro σ H6 ⟨hs, xs, v8, v9, v10, v11, v12, v13, rfl, q1, q2, q3, q4, q5, S6, B06, BB6⟩
    rw [List.length_map, List.take_length] at q1
    exact ⟨_, rfl, k kinds asked hs _ H6 ⟨q1, kok, kne, aok, q2⟩ (New.lstm q4 B05.stand hh0 q3) S6 B06⟩
end Kb

set_option Elab.async false
set_option linter.all false
set_option maxRecDepth 100000
set_option maxHeartbeats 4000000
/-! Kb, 10: len(set(xs)) of texts. -/
namespace Kb
open PySem PySem.Spec PyProof.Rows L2

/-- the texts met so far, each once -/
def uni (l : List Str) : List Str := l.foldl (fun u x => if x ∈ u then u else u ++ [x]) []
theorem uni_snoc {l : List Str} {x : Str} : uni (l ++ [x]) = if x ∈ uni l then uni l else uni l ++ [x] := by
  unfold uni
  rw [List.foldl_append]
  rfl
theorem snoc_ind {α : Type} {P : List α → Prop} (h0 : P []) (hs : ∀ l x, P l → P (l ++ [x])) (l : List α) : P l := by
  have key : ∀ r : List α, P r.reverse := by
    intro r
    induction r with
    | nil => exact h0
    | cons a r ih =>
      rw [List.reverse_cons]
      exact hs _ _ ih
  have := key l.reverse
  rwa [List.reverse_reverse] at this
theorem uni_mem {l : List Str} {y : Str} : y ∈ uni l ↔ y ∈ l := by
  refine snoc_ind (P := fun l => y ∈ uni l ↔ y ∈ l) Iff.rfl (fun l x ih => ?_) l
  rw [uni_snoc, List.mem_append, List.mem_singleton]
  by_cases h : x ∈ uni l
  · rw [if_pos h, ih]
    refine ⟨.inl, fun z => z.elim id fun e => ?_⟩
    rw [e]
    rw [e] at ih
    exact ih.mp h
  · rw [if_neg h, List.mem_append, List.mem_singleton, ih]
theorem uni_le (l : List Str) : (uni l).length ≤ l.length := by
  refine snoc_ind (P := fun l => (uni l).length ≤ l.length) (Nat.le_refl _) (fun l x ih => ?_) l
  rw [uni_snoc, List.length_append, List.length_singleton]
  split
  · omega
  · rw [List.length_append, List.length_singleton]
    omega
theorem uni_nd {l : List Str} : (uni l).length = l.length ↔ l.Nodup := by
  refine snoc_ind (P := fun l => (uni l).length = l.length ↔ l.Nodup) (by simp [uni]) (fun l x ih => ?_) l
  rw [uni_snoc, List.length_append, List.length_singleton]
  have hle := uni_le l
  by_cases h : x ∈ uni l
  · rw [if_pos h]
    refine ⟨fun z => by omega, fun z => ?_⟩
    exact absurd rfl ((List.nodup_append.mp z).2.2 x (uni_mem.mp h) x (List.mem_singleton.mpr rfl))
  · rw [if_neg h, List.length_append, List.length_singleton]
    have h' : x ∉ l := fun m => h (uni_mem.mpr m)
    refine ⟨fun z => nd_snoc (ih.mp (by omega)) h', fun z => ?_⟩
    have : (uni l).length = l.length := ih.mpr (List.nodup_append.mp z).1
    omega

abbrev freshSet (led : Bool) : Obj := { cls := .type "set", dict := none, data := .set #[] 0 (.fresh 0 0 led) }
section
variable {prog : Program} {w : World} {A : Around} {R : Result → Shared → Prop} {I : Addr} {fp wr : List Addr} {G : Array GenState → Array GenState → Prop} {n : Nat} {P : Nat → Value → Prop} {St : Nat → Shared → Prop}
/-- the set S takes in what is walked from turn i on -/
theorem upd_loop (W : WalksS prog w A.in1 I fp wr G n P St) {S : Addr} (hS0 : S ∉ fp) {xs : List Str} (hz : xs.length = n) (hr : n + 2 < scanBound) (hv : ∀ i v, P i v → ∃ t, v = .str (xs.getD i Str.empty) t)
    (k : Nat) : ∀ (i : Nat) (s : Shared), n - i = k → i ≤ n → St i s → s.heap.SetOf (PySem.strKind prog w) S (fun y => decide (y ∈ xs.take i)) (uni (xs.take i)).length →
      (∀ s', Moved (S :: wr) G s s' → s'.heap.SetOf (PySem.strKind prog w) S (fun y => decide (y ∈ xs)) (uni xs).length → R (.ok (.ret .none)) s') → codeAny (model prog w) A (.builtin "set.update.loop" ⟨[.ref S, .ref I], []⟩) R s := by
  have hw : S ∉ wr := fun m => hS0 (W.sub _ m)
  have more : ∀ b ∈ wr, b ∈ S :: wr := fun b m => List.mem_cons_of_mem _ m
  induction k with
  | zero =>
    intro i s e1 e2 st o1 fin
    have e3 : i = n := by omega
    subst e3
    refine codeAny_builtin F.entry_set_update_loop ?_
    rw [Around.under_plainId F.plain_set_update_loop _]
    show wpAny _ A.in1 (pyNext (.ref I) >>= _) _ _ s
    refine wpAny_bind (W.done s _ _ st fun s2 mv => ?_)
    show wpAny _ A.in1 (ret Value.none) _ _ s2
    refine wpAny_pure (fin s2 (mv.mono more) ?_)
    rw [← hz, List.take_length] at o1
    obtain ⟨ob, es, ep, tb, g, r⟩ := o1
    exact ⟨ob, es, ep, tb, mv.heap S _ hw g, r⟩
  | succ k ih =>
    intro i s e1 e2 st o1 fin
    have lt : i < n := by omega
    refine codeAny_builtin F.entry_set_update_loop ?_
    rw [Around.under_plainId F.plain_set_update_loop _]
    show wpAny _ A.in1 (pyNext (.ref I) >>= _) _ _ s
    refine wpAny_bind (W.item i s _ _ lt st fun v s2 pv st2 mv => ?_)
    obtain ⟨t, rfl⟩ := hv i v pv
    have o2 : s2.heap.SetOf (PySem.strKind prog w) S (fun y => decide (y ∈ xs.take i)) (uni (xs.take i)).length := by
      obtain ⟨ob, es, ep, tb, g, r⟩ := o1
      exact ⟨ob, es, ep, tb, mv.heap S _ hw g, r⟩
    show wpAny _ A.in1 (holding [Value.str (xs.getD i Str.empty) t] (setAdd S (.str (xs.getD i Str.empty) t)) >>= _) _ _ s2
    refine wpAny_bind (wpAny_holding ?_)
    unfold setAdd
    refine wpAny_holding (wpAny_bind ((PySem.strKind prog w).pyHash (k := xs.getD i Str.empty) (strKind_is _ _ _ _) ?_))
    have hx : xs[i]? = some (xs.getD i Str.empty) := by
      rw [List.getD_eq_getElem?_getD, List.getElem?_eq_getElem (by omega)]
      rfl
    have et : xs.take (i + 1) = xs.take i ++ [xs.getD i Str.empty] := by
      rw [List.take_add_one, hx]
      rfl
    have small : (uni (xs.take i)).length + 1 < scanBound := by
      have := uni_le (xs.take i)
      rw [List.length_take] at this
      omega
    refine wpAny_setAddHashed_of (knd := PySem.strKind prog w) (s := { s2 with toks := s2.toks + 1 }) (strKind_is _ _ _ _) rfl o2 small fun h3 sb o3 => ?_
    have o4 : h3.SetOf (PySem.strKind prog w) S (fun y => decide (y ∈ xs.take (i + 1))) (uni (xs.take (i + 1))).length := by
      refine SetOf_congr o3 (fun y => ?_) ?_
      · rw [et, ← Bool.decide_or]
        refine decide_eq_decide.mpr ?_
        rw [List.mem_append, List.mem_singleton]
      · rw [et, uni_snoc]
        by_cases hm : xs.getD i Str.empty ∈ xs.take i
        · rw [if_pos (uni_mem.mpr hm), if_pos (decide_eq_true hm)]
        · rw [if_neg (fun z => hm (uni_mem.mp z)), if_neg (by simpa using hm), List.length_append]
          rfl
    refine wpAny_pure ⟨plainId_quiet F.plain_set_update_loop _, ih (i + 1) _ (by omega) lt (W.frame _ s2 _ _ st2 (Nat.le_succ _) fun b hb ob e => ?_) o4 fun s5 mv5 o5 => fin s5 ?_ o5⟩
    · have ne : b ≠ S := fun z => hS0 (by rw [← z]; exact hb)
      rw [sb.2 b ne]
      exact e
    · refine Moved.trans W.gtrans ((mv.mono more).then_heap (Nat.le_succ _) fun b ob hb e => ?_) mv5
      have ne : b ≠ S := fun z => hb (by rw [z]; exact List.mem_cons_self)
      rw [sb.2 b ne]
      exact e
end
section
variable {prog : Program} {w : World} {A : Around} {E : Value → Shared → Prop} {s : Shared} {l : Addr} {its : Array Value} {xs : List Str} {Q : Value → Shared → Prop}
/-- what set(xs) hands on -/
abbrev SetGot (prog : Program) (w : World) (s : Shared) (xs : List Str) (h' : Heap) : Prop :=
  h'.SetOf (PySem.strKind prog w) s.heap.objs.size (fun y => decide (y ∈ xs)) (uni xs).length ∧ ∀ b o, b < s.heap.objs.size → s.heap.get? b = some o → h'.get? b = some o
set_option maxHeartbeats 3200000 in
theorem set_of_list (hc : A.handled = none) (hl : s.heap.IsList l its) (hi : StrsAre its.toList xs) (small : xs.length + 2 < scanBound)
    (h : ∀ (h' : Heap) (tk : Nat), SetGot prog w s xs h' → Q (.ref s.heap.objs.size) { s with heap := h', toks := tk }) : wpAny (model prog w) A (call (.type "set") [.ref l]) Q E s := by
  obtain ⟨c, tl, mro_⟩ := F.called_set.mro
  have made_ := F.called_set.made
  have sub_ := F.called_set.sub
  refine wpAny_call (codeAny_of_tree ?_)
  show wpAny _ _ (callAny (.type "set") _) _ _ _
  refine wpAny_pure ⟨Code.quiet_builtin _ (by decide +kernel), codeAny_builtin F.entry_type_call ?_⟩
  rw [Around.under_plain (weight_type_call_type "set" [.ref l] []) rfl]
  have not_ := F.called_set.notType
  have can_ := F.called_set.canCreate
  have call_ := F.typeCall_set_1 (.ref l)
  repeat (any_goals (first | assumption | wp_step))
  refine codeAny_mono (code_set_new_1 (.ref l) (E := E) (Q₁ := fun ob t => ∃ led : Bool, ob = .ref s.heap.objs.size ∧ t = { s with heap := s.heap.push (freshSet led) }) fun led => ⟨led, rfl, rfl⟩) fun r t hr => ?_
  match r, hr with
  | .error _, hr => exact hr
  | .ok .next, hr => exact hr.elim
  | .ok .brk, hr => exact hr.elim
  | .ok .cont, hr => exact hr.elim
  | .ok (.ret _), ⟨led, e1, e2⟩ =>
    subst e1 e2
    have at0 : (s.heap.push (freshSet led)).get? s.heap.objs.size = some (freshSet led) := Heap.get?_push_size _ rfl
    have ty0 : Shared.TypeIs { s with heap := s.heap.push (freshSet led) } (.ref s.heap.objs.size) "set" := ⟨_, at0, rfl⟩
    have look_ := F.called_set.init.lookup
    have bind_ := F.called_set.init.bind (.ref s.heap.objs.size)
    repeat (any_goals (first | assumption | wp_step))
    refine codeAny_mono (codeAny_call_builtin (R := wants (fun r t => r = .none ∧ ∃ h' tk, t = { s with heap := h', toks := tk } ∧ SetGot prog w s xs h') E) F.called_set.init.plain F.entry_set_init (check_set_init_1 ty0 ?_)) fun r2 t2 hr2 => ?_
    · obtain ⟨⟨ocls, odict, odata, oslots⟩, ol, ocl, on, od⟩ := hl
      simp only at ocl od
      subst ocl od
      have at1 : (s.heap.push (freshSet led)).get? l = some { cls := .type "list", dict := odict, data := .seq its on, slots := oslots } := Heap.get?_push_of_some _ ol
      have sub1 := F.sub_list_set
      have sub2 := F.sub_list_frozenset
      have notd : (Value.type "list" == Value.type "dict") = false := by decide
      have is1 : (s.heap.push (freshSet led)).IsList l its := ⟨_, at1, rfl, on, rfl⟩
      unfold Builtin.«set.__init__» noKeywords Builtin.Frozenset.updateFrom
      generalize hPI : pyIter = PI
      wp_walk
      subst hPI
      refine wpAny_pyIter_list is1 (wpAny_bind (wpAny_runValue ?_))
      have ltl : l < s.heap.objs.size := Heap.lt_size ol
      have calm3 : A.in1.in1.in1.handled = none := by simp [hc]
      have neI : l ≠ (s.heap.push (freshSet led)).objs.size := by
        rw [Heap.size_push]
        exact Nat.ne_of_lt (Nat.lt_succ_of_lt ltl)
      have noS : s.heap.objs.size ∉ [(s.heap.push (freshSet led)).objs.size, l] := by
        rw [Heap.size_push]
        simp only [List.mem_cons, List.not_mem_nil, or_false, not_or]
        exact ⟨Nat.ne_of_lt (Nat.lt_succ_self _), Nat.ne_of_gt ltl⟩
      have zl : xs.length = its.size := by rw [← StrsAre.len_eq hi, Array.length_toList]
      refine upd_loop ((Walks.list calm3 _ l neI its).toS) noS zl (by omega) (fun i v hv => SS.strs_at hi i v (by rw [Array.getElem?_toList]; exact hv)) (its.size - 0) 0 _ (by omega) (Nat.zero_le _) ⟨⟨_, Heap.get?_push_size _ rfl, rfl, rfl⟩, is1.push _⟩ ?o0 ?fin
      case o0 =>
        have at2 : ((s.heap.push (freshSet led)).push { cls := .type "list_iterator", data := .fields #[.ref l, .int 0 0] }).get? s.heap.objs.size = some (freshSet led) := Heap.get?_push_of_some _ at0
        refine SetOf_congr ((setObjOf_fresh (knd := PySem.strKind prog w) led).setOf at2 (by unfold scanBound; omega)) (fun y => ?_) rfl
        simp
      case fin =>
        intro s3 mv o3
        obtain ⟨h3, g3, d3, t3, os3⟩ := s3
        obtain rfl : g3 = s.gens := mv.gens
        obtain rfl : d3 = s.drawn := mv.drawn
        obtain rfl : os3 = s.os := mv.os
        show wpAny _ _ _ _ _ _
        refine wpAny_pure ?_
        show wpAny _ _ (ret Value.none) _ _ _
        refine wpAny_pure ⟨rfl, h3, t3, rfl, o3, fun b ob hb e => mv.heap b ob (fun m => ?_) (Heap.get?_push_of_some _ (Heap.get?_push_of_some _ e))⟩
        simp only [List.mem_cons, List.not_mem_nil, or_false, Heap.size_push] at m
        rcases m with e | e
        · exact absurd (e ▸ hb) (Nat.lt_irrefl _)
        · rw [e] at hb
          exact absurd hb (Nat.not_lt.mpr (Nat.le_succ _))
    · match r2, hr2 with
      | .error _, hr2 => exact hr2
      | .ok .next, hr2 => exact hr2.elim
      | .ok .brk, hr2 => exact hr2.elim
      | .ok .cont, hr2 => exact hr2.elim
      | .ok (.ret _), ⟨e1, h3, tk, e2, got⟩ =>
        subst e1 e2
        repeat (any_goals (first | assumption | wp_step))
        exact h _ _ got
set_option maxHeartbeats 3200000 in
theorem set_of_tuple (hc : A.handled = none) (hl : s.heap.IsTuple l its) (hi : StrsAre its.toList xs) (small : xs.length + 2 < scanBound)
    (h : ∀ (h' : Heap) (tk : Nat), SetGot prog w s xs h' → Q (.ref s.heap.objs.size) { s with heap := h', toks := tk }) : wpAny (model prog w) A (call (.type "set") [.ref l]) Q E s := by
  obtain ⟨c, tl, mro_⟩ := F.called_set.mro
  have made_ := F.called_set.made
  have sub_ := F.called_set.sub
  refine wpAny_call (codeAny_of_tree ?_)
  show wpAny _ _ (callAny (.type "set") _) _ _ _
  refine wpAny_pure ⟨Code.quiet_builtin _ (by decide +kernel), codeAny_builtin F.entry_type_call ?_⟩
  rw [Around.under_plain (weight_type_call_type "set" [.ref l] []) rfl]
  have not_ := F.called_set.notType
  have can_ := F.called_set.canCreate
  have call_ := F.typeCall_set_1 (.ref l)
  repeat (any_goals (first | assumption | wp_step))
  refine codeAny_mono (code_set_new_1 (.ref l) (E := E) (Q₁ := fun ob t => ∃ led : Bool, ob = .ref s.heap.objs.size ∧ t = { s with heap := s.heap.push (freshSet led) }) fun led => ⟨led, rfl, rfl⟩) fun r t hr => ?_
  match r, hr with
  | .error _, hr => exact hr
  | .ok .next, hr => exact hr.elim
  | .ok .brk, hr => exact hr.elim
  | .ok .cont, hr => exact hr.elim
  | .ok (.ret _), ⟨led, e1, e2⟩ =>
    subst e1 e2
    have at0 : (s.heap.push (freshSet led)).get? s.heap.objs.size = some (freshSet led) := Heap.get?_push_size _ rfl
    have ty0 : Shared.TypeIs { s with heap := s.heap.push (freshSet led) } (.ref s.heap.objs.size) "set" := ⟨_, at0, rfl⟩
    have look_ := F.called_set.init.lookup
    have bind_ := F.called_set.init.bind (.ref s.heap.objs.size)
    repeat (any_goals (first | assumption | wp_step))
    refine codeAny_mono (codeAny_call_builtin (R := wants (fun r t => r = .none ∧ ∃ h' tk, t = { s with heap := h', toks := tk } ∧ SetGot prog w s xs h') E) F.called_set.init.plain F.entry_set_init (check_set_init_1 ty0 ?_)) fun r2 t2 hr2 => ?_
    · obtain ⟨⟨ocls, odict, odata, oslots⟩, ol, ocl, on, od⟩ := hl
      simp only at ocl od
      subst ocl od
      have at1 : (s.heap.push (freshSet led)).get? l = some { cls := .type "tuple", dict := odict, data := .seq its on, slots := oslots } := Heap.get?_push_of_some _ ol
      have sub1 := F.sub_tuple_set
      have sub2 := F.sub_tuple_frozenset
      have notd : (Value.type "tuple" == Value.type "dict") = false := by decide
      have is1 : (s.heap.push (freshSet led)).IsTuple l its := ⟨_, at1, rfl, on, rfl⟩
      unfold Builtin.«set.__init__» noKeywords Builtin.Frozenset.updateFrom
      generalize hPI : pyIter = PI
      wp_walk
      subst hPI
      refine wpAny_pyIter_tuple is1 (wpAny_bind (wpAny_runValue ?_))
      have ltl : l < s.heap.objs.size := Heap.lt_size ol
      have calm3 : A.in1.in1.in1.handled = none := by simp [hc]
      have neI : l ≠ (s.heap.push (freshSet led)).objs.size := by
        rw [Heap.size_push]
        exact Nat.ne_of_lt (Nat.lt_succ_of_lt ltl)
      have noS : s.heap.objs.size ∉ [(s.heap.push (freshSet led)).objs.size, l] := by
        rw [Heap.size_push]
        simp only [List.mem_cons, List.not_mem_nil, or_false, not_or]
        exact ⟨Nat.ne_of_lt (Nat.lt_succ_self _), Nat.ne_of_gt ltl⟩
      have zl : xs.length = its.size := by rw [← StrsAre.len_eq hi, Array.length_toList]
      refine upd_loop ((Walks.tuple calm3 _ l neI its).toS) noS zl (by omega) (fun i v hv => SS.strs_at hi i v (by rw [Array.getElem?_toList]; exact hv)) (its.size - 0) 0 _ (by omega) (Nat.zero_le _) ⟨⟨_, Heap.get?_push_size _ rfl, rfl, rfl⟩, is1.push _⟩ ?o0 ?fin
      case o0 =>
        have at2 : ((s.heap.push (freshSet led)).push { cls := .type "tuple_iterator", data := .fields #[.ref l, .int 0 0] }).get? s.heap.objs.size = some (freshSet led) := Heap.get?_push_of_some _ at0
        refine SetOf_congr ((setObjOf_fresh (knd := PySem.strKind prog w) led).setOf at2 (by unfold scanBound; omega)) (fun y => ?_) rfl
        simp
      case fin =>
        intro s3 mv o3
        obtain ⟨h3, g3, d3, t3, os3⟩ := s3
        obtain rfl : g3 = s.gens := mv.gens
        obtain rfl : d3 = s.drawn := mv.drawn
        obtain rfl : os3 = s.os := mv.os
        show wpAny _ _ _ _ _ _
        refine wpAny_pure ?_
        show wpAny _ _ (ret Value.none) _ _ _
        refine wpAny_pure ⟨rfl, h3, t3, rfl, o3, fun b ob hb e => mv.heap b ob (fun m => ?_) (Heap.get?_push_of_some _ (Heap.get?_push_of_some _ e))⟩
        simp only [List.mem_cons, List.not_mem_nil, or_false, Heap.size_push] at m
        rcases m with e | e
        · exact absurd (e ▸ hb) (Nat.lt_irrefl _)
        · rw [e] at hb
          exact absurd hb (Nat.not_lt.mpr (Nat.le_succ _))
    · match r2, hr2 with
      | .error _, hr2 => exact hr2
      | .ok .next, hr2 => exact hr2.elim
      | .ok .brk, hr2 => exact hr2.elim
      | .ok .cont, hr2 => exact hr2.elim
      | .ok (.ret _), ⟨e1, h3, tk, e2, got⟩ =>
        subst e1 e2
        repeat (any_goals (first | assumption | wp_step))
        exact h _ _ got
end
/-- len(set(xs)) -/
def tLenUni (K : PySem.W.Frag) (ta : TE) : TE := fun σ H Q => ta σ H fun x H1 => ∃ (l : Addr) (xs : List Str), x = .ref l ∧ (SqL K H1 l (xs.map V.str) ∨ SqT K H1 l (xs.map V.str)) ∧ xs.length ≤ 1000 ∧ Q (.int ((uni xs).length : Nat)) H1
theorem pe_lenUni {X : Cx} {a : Expr} {ta : TE} {p p2 q pos : Pos} (hg : Gl X "len") (hm : X.mg "len" = none) (hg2 : Gl X "set") (hm2 : X.mg "set" = none) (ha : PE X a ta) (hc : X.calm = true := by rfl)
    (na : starEach [a] X.env = (false, eval a X.env) :: starEach [] X.env := by rfl) : PE X (.Call (.Name "len" p) [.Call (.Name "set" p2) [a] [] q] [] pos) (tLenUni X.K ta) := by
  refine ⟨fun pins s σ H Q I h => Call_ (ld_blt I hg hm boot_len ?_)⟩
  refine callWith_builtin1 (args_cons (Call_ (ld_blt I hg2 hm2 boot_set ?_)) rfl) rfl rfl
  refine callWith_type1 (args_cons (thn (ha.run pins s σ H _ I h) fun v s1 ⟨x, H1, I1, r1, l, xs, ex, hq, hs, q1⟩ => args_nil ?_) na) na rfl
  subst ex
  obtain rfl : v = Value.ref l := r1
  have fin : ∀ (h' : Heap) (tk : Nat), SetGot X.prog X.w s1 xs h' → wpAny (model X.prog X.w) X.A (spliced (backTo pos (starEach [] X.env)))
      (fun vs s₂ => wpAny (model X.prog X.w) X.A (call (.builtin "len") (Value.ref s1.heap.objs.size :: vs)) (EP X pins σ Q) X.xe s₂) X.xe { s1 with heap := h', toks := tk } := by
    rintro h' tk ⟨⟨o, es, ep, t, ho, hex, hd, _, _, _, hf, hn⟩, hk⟩
    refine args_nil ?_
    have I2 : Inv X pins σ H1 { s1 with heap := h', toks := tk } := I1.kept fun b o e => hk b o (Heap.lt_size e) e
    have := uni_le xs
    exact call_len_set ho hex hd hf (by rw [hn]; omega) ⟨.int (uni xs).length, H1, I2.tok _, ⟨_, by rw [hn]⟩, q1⟩
  rcases hq with hq | hq
  · obtain ⟨its, r, pl, hz⟩ := I1.list hq
    exact set_of_list (I1.ok.hd hc) pl.isList (by simpa using strsAre_of r) (by unfold scanBound; omega) fin
  · obtain ⟨its, r, pl, hz⟩ := I1.tuple hq
    exact set_of_tuple (I1.ok.hd hc) pl (by simpa using strsAre_of r) (by unfold scanBound; omega) fin
end Kb

set_option Elab.async false
set_option linter.all false
set_option maxRecDepth 100000
set_option maxHeartbeats 2000000
/-! Kb, 54: sets of texts whose tables can be walked; sorted(set(xs)). -/
namespace Kb
open PySem PySem.Spec PyProof.Rows L2

def txt (e : Int × Value) : Str := match e.2 with
  | .str x _ => x
  | _ => Str.empty
def TxtE (P : Program) (w : World) (e : Int × Value) : Prop := ∃ x tk, e.2 = Value.str x tk ∧ e.1 = (PySem.strKind P w).hash x
/-- at a: the set of the texts in S, n of them -/
def SetT (P : Program) (w : World) (h : Heap) (a : Addr) (S : Str → Bool) (n : Nat) : Prop :=
  ∃ o es ep t, h.get? a = some o ∧ o.ExactSet ∧ o.data = .set es ep t ∧ (∀ e ∈ es.toList, TxtE P w e) ∧ (es.toList.map txt).Nodup ∧ (∀ x, S x = true ↔ x ∈ es.toList.map txt) ∧
    es.size < scanBound ∧ t.fits es.size = true ∧ es.size = n ∧ Ris t.place.toList ∧ (w.params.followText "set-order" = true ∨ t.led = true)
section
variable {P : Program} {w : World} {h h' : Heap} {a : Addr} {S S' : Str → Bool} {n : Nat}
theorem SetT.congr {m : Nat} (R : SetT P w h a S n) (e : ∀ k, S' k = S k) (en : m = n) : SetT P w h a S' m := by
  rw [show S' = S from funext e, en]
  exact R
theorem SetT.move (R : SetT P w h a S n) (k : ∀ o, h.get? a = some o → h'.get? a = some o) : SetT P w h' a S n := by
  obtain ⟨o, es, ep, t, ho, r⟩ := R
  exact ⟨o, es, ep, t, k o ho, r⟩
theorem txt_elems {l : List (Int × Value)} (g : ∀ e ∈ l, TxtE P w e) : ElemsOf (PySem.strKind P w) l := fun e m => by
  obtain ⟨x, tk, h1, h2⟩ := g e m
  refine ⟨⟨x, by rw [h1]; exact strKind_is _ _ _ _, h2⟩, ?_⟩
  rw [h1]
  rfl
theorem txt_is {e : Int × Value} (g : TxtE P w e) (x : Str) : (PySem.strKind P w).is x e.2 = true ↔ txt e = x := by
  obtain ⟨y, tk, h1, _⟩ := g
  unfold txt
  rw [h1]
  show ((y == x) = true) ↔ y = x
  exact beq_iff_eq
theorem txt_mem {l : List (Int × Value)} (g : ∀ e ∈ l, TxtE P w e) (x : Str) : x ∈ l.map txt ↔ ∃ e ∈ l, (PySem.strKind P w).is x e.2 = true := by
  constructor
  · intro m
    obtain ⟨e, he, q⟩ := List.mem_map.mp m
    exact ⟨e, he, (txt_is (g e he) x).mpr q⟩
  · rintro ⟨e, he, q⟩
    exact List.mem_map.mpr ⟨e, he, (txt_is (g e he) x).mp q⟩
theorem SetT.fresh (ho : h.get? a = some { cls := .type "set", dict := none, data := .set #[] 0 (.fresh 0 0 (!w.params.followText "set-order")) }) : SetT P w h a (fun _ => false) 0 := by
  refine ⟨_, #[], 0, _, ho, ⟨rfl, rfl, rfl⟩, rfl, (fun e m => by simp at m), (by simp), (fun x => by simp), (by decide), (by rfl), rfl, List.Pairwise.nil, ?_⟩
  show _ ∨ (!w.params.followText "set-order") = true
  cases w.params.followText "set-order"
  · exact .inr rfl
  · exact .inl rfl
end
section
variable {P : Program} {w : World} {A : Around} {E : Value → Shared → Prop} {s : Shared} {a : Addr} {S S' : Str → Bool} {n : Nat}
/-- the new table is stored, and laid anew where it is too full -/
theorem keepT {g : Bool → Sem Unit} (calm : ∀ (b : Bool) (s1 : Shared) (Q1 : Unit → Shared → Prop), Q1 () s1 → wpAny (model P w) A (g b) Q1 E s1) {o : Obj} {es : Array (Int × Value)} {ep : Nat} {t : SetTable}
    (ho : s.heap.get? a = some o) (ex : o.ExactSet) (dat : o.data = .set es ep t) {fs : Array (Int × Value)} {u : SetTable} (ok : ∀ e ∈ fs.toList, TxtE P w e) (nd : (fs.toList.map txt).Nodup)
    (mem : ∀ x, S' x = true ↔ x ∈ fs.toList.map txt) (sm : fs.size < scanBound) (fit : u.fits fs.size = true) (ris : Ris u.place.toList) (led : w.params.followText "set-order" = true ∨ u.led = true) {was : Bool} {R : Option Bool → Shared → Prop}
    (fin : ∀ h', Heap.SameBut a s.heap h' → SetT P w h' a S' fs.size → R (some true) { s with heap := h' }) :
    wpAny (model P w) A (do
        storeSet a fs u
        if (!was && u.tooFull) = true then do
            g (relayAll u fs (SetTable.grown fs.size)).2.2
            storeSet a (relayAll u fs (SetTable.grown fs.size)).1 (relayAll u fs (SetTable.grown fs.size)).2.1
            pure (some true)
          else pure (some true)) R E s := by
  refine wpAny_bind (wpAny_storeSet_of ho dat ?_ (fits_of_scanBound sm))
  have st1 := store_at (es' := fs) (t' := u) ho dat
  have same1 := Heap.SameBut.update s.heap a (Obj.putSet fs u)
  by_cases full : (!was && u.tooFull) = true
  · rw [if_pos full]
    have perm := relayAll_perm u fs (SetTable.grown fs.size)
    have fit2 := relayAll_fits u fs (SetTable.grown fs.size)
    have ris2 := relayAll_ris u fs (SetTable.grown fs.size)
    have led2 := relayAll_led u fs (SetTable.grown fs.size)
    obtain ⟨⟨gs, v, gave⟩, eZ⟩ : ∃ Z, relayAll u fs (SetTable.grown fs.size) = Z := ⟨_, rfl⟩
    rw [eZ] at perm fit2 ris2 led2 ⊢
    have size2 : gs.size = fs.size := by
      have := perm.length_eq
      rw [Array.length_toList, Array.length_toList] at this
      exact this
    refine wpAny_bind (calm gave _ _ ?_)
    refine wpAny_bind (wpAny_storeSet_of st1 rfl ?_ (fits_of_scanBound (by rw [size2]; exact sm)))
    have st2 := store_at (es' := gs) (t' := v) st1 rfl
    refine wpAny_pure (fin _ (same1.trans (Heap.SameBut.update _ a _)) ?_)
    exact ⟨_, gs, _, v, st2, ex, rfl, fun e m => ok e (perm.mem_iff.mp m), (perm.map txt).nodup_iff.mpr nd, fun x => (mem x).trans (perm.map txt).mem_iff.symm, by rw [size2]; exact sm, fit2, size2, ris2,
      led.imp id fun z => led2.trans z⟩
  · rw [if_neg full]
    exact wpAny_pure (fin _ same1 ⟨_, fs, _, u, st1, ex, rfl, ok, nd, mem, sm, fit, rfl, ris, led⟩)
theorem addT {x : Str} {tk : Tok} {Q : Bool → Shared → Prop} (R : SetT P w s.heap a S n) (room : n + 1 < scanBound)
    (fin : ∀ h', Heap.SameBut a s.heap h' → SetT P w h' a (fun y => S y || decide (y = x)) (if S x = true then n else n + 1) → Q (!S x) { s with heap := h' }) :
    wpAny (model P w) A (setAddHashed a (.str x tk) ((PySem.strKind P w).hash x)) Q E s := by
  obtain ⟨o, es, ep, t, ho, ex, dat, ok, nd, mem, sm, fit, num, ris, led⟩ := R
  have isx : (PySem.strKind P w).is x (.str x tk) = true := strKind_is _ _ _ _
  have can : (Value.str x tk).scannable = true := rfl
  have elems := txt_elems ok
  unfold setAddHashed setAddHashedIn
  refine wpAny_holding (wpAny_bind (wpAny_setState_of ho dat fit ?_))
  show wpAny _ _ (if byScan (.str x tk) es = true then _ else _) _ _ _
  rw [byScan_of can sm elems, if_pos rfl]
  unfold setAddByScan
  refine wpAny_bind (wpAny_bind (wpAny_rule (wpAny_bind (wpAny_setScan_of isx ho dat fit elems ?_))))
  cases at_ : List.findIdx? (fun e => (PySem.strKind P w).is x e.2) es.toList with
  | some j =>
    obtain ⟨lt, here, _⟩ := List.findIdx?_eq_some_iff_getElem.mp at_
    have yes : S x = true := (mem x).mpr ((txt_mem ok x).mpr ⟨_, List.getElem_mem lt, here⟩)
    refine wpAny_pure (wpAny_pure ?_)
    have q := fin s.heap (Heap.SameBut.refl a s.heap) ⟨o, es, ep, t, ho, ex, dat, ok, nd, fun y => ?_, sm, fit, by rw [if_pos yes]; exact num, ris, led⟩
    · rw [yes] at q
      exact q
    · rw [← mem y, Bool.or_eq_true, decide_eq_true_eq]
      exact ⟨fun z => z.elim id fun e => by rw [e]; exact yes, .inl⟩
  | none =>
    have out : x ∉ es.toList.map txt := fun m => by
      obtain ⟨e, he, q⟩ := (txt_mem (P := P) (w := w) ok x).mp m
      have no := List.findIdx?_eq_none_iff.mp at_ e he
      rw [q] at no
      cases no
    have no : S x = false := by
      cases q : S x with
      | false => rfl
      | true => exact absurd ((mem x).mp q) out
    have perm := layNew_perm t es ((PySem.strKind P w).hash x) (.str x tk)
    have fit1 := layNew_fits t es ((PySem.strKind P w).hash x) (.str x tk)
    have ris1 := layNew_ris t es ((PySem.strKind P w).hash x) (.str x tk) ris
    have led1 := layNew_led t es ((PySem.strKind P w).hash x) (.str x tk)
    obtain ⟨⟨fs, u, was, gave⟩, eZ⟩ : ∃ Z, layNew t es ((PySem.strKind P w).hash x) (.str x tk) = Z := ⟨_, rfl⟩
    rw [eZ] at perm fit1 ris1 led1
    dsimp only
    rw [eZ]
    dsimp only at perm fit1 ris1 led1 ⊢
    rw [Array.toList_push] at perm
    have perm1 : fs.toList.Perm (((PySem.strKind P w).hash x, Value.str x tk) :: es.toList) := perm.trans (List.perm_append_singleton _ _)
    have permK : (fs.toList.map txt).Perm (x :: es.toList.map txt) := perm1.map txt
    have ok1 : ∀ e ∈ fs.toList, TxtE P w e := fun e m => by
      rcases List.mem_cons.mp (perm1.mem_iff.mp m) with z | z
      · rw [z]
        exact ⟨x, tk, rfl, rfl⟩
      · exact ok e z
    have nd1 : (fs.toList.map txt).Nodup := permK.nodup_iff.mpr (List.nodup_cons.mpr ⟨out, nd⟩)
    have mem1 : ∀ y, (S y || decide (y = x)) = true ↔ y ∈ fs.toList.map txt := fun y => by
      rw [permK.mem_iff, List.mem_cons, ← mem y, Bool.or_eq_true, decide_eq_true_eq]
      exact ⟨fun z => z.elim .inr .inl, fun z => z.elim .inr .inl⟩
    have num1 : fs.size = n + 1 := by
      have := perm1.length_eq
      rw [List.length_cons, Array.length_toList, Array.length_toList, num] at this
      exact this
    have sm1 : fs.size < scanBound := by rw [num1]; exact room
    have ledU : w.params.followText "set-order" = true ∨ u.led = true := led.imp id fun z => led1.trans z
    have done : ∀ h', Heap.SameBut a s.heap h' → SetT P w h' a (fun y => S y || decide (y = x)) fs.size → Q true { s with heap := h' } := fun h' sb r => by
      have q := fin h' sb
      rw [no] at q
      exact q (by rw [num1] at r; exact r)
    have gw : ∀ (b : Bool) (s1 : Shared) (Q1 : Unit → Shared → Prop), Q1 () s1 → wpAny (model P w) A (match b with | true => rule "set.scan.the-table-gave-way" | false => pure ()) Q1 E s1 := fun b s1 Q1 q => by
      cases b
      · exact wpAny_pure q
      · exact wpAny_rule q
    refine wpAny_bind (gw gave _ _ ?_)
    split
    · refine wpAny_bind ?_
      rw [hashByValue_scannable 8 can]
      refine wpAny_pure ?_
      refine keepT gw ho ex dat ok1 nd1 mem1 sm1 ?_ ?_ ?_ fun h' sb r => wpAny_pure (done h' sb r)
      · first | exact fit1 | (split <;> first | exact fit1 | exact SetTable.fits_plain_off fit1)
      · first | exact ris1 | (split <;> exact ris1)
      · first | exact ledU | (split <;> exact ledU)
    · refine wpAny_bind (wpAny_pure ?_)
      simp only [↓reduceIte]
      exact keepT gw ho ex dat ok1 nd1 mem1 sm1 fit1 ris1 ledU fun h' sb r => wpAny_pure (done h' sb r)
end
section
variable {prog : Program} {w : World} {A : Around} {R : Result → Shared → Prop} {I : Addr} {fp wr : List Addr} {G : Array GenState → Array GenState → Prop} {n : Nat} {P : Nat → Value → Prop} {St : Nat → Shared → Prop}
/-- the set S takes in what is walked from turn i on -/
theorem upd_loopT (W : WalksS prog w A.in1 I fp wr G n P St) {S : Addr} (hS0 : S ∉ fp) {xs : List Str} (hz : xs.length = n) (hr : n + 2 < scanBound) (hv : ∀ i v, P i v → ∃ t, v = .str (xs.getD i Str.empty) t)
    (k : Nat) : ∀ (i : Nat) (s : Shared), n - i = k → i ≤ n → St i s → SetT prog w s.heap S (fun y => decide (y ∈ xs.take i)) (uni (xs.take i)).length →
      (∀ s', Moved (S :: wr) G s s' → SetT prog w s'.heap S (fun y => decide (y ∈ xs)) (uni xs).length → R (.ok (.ret .none)) s') → codeAny (model prog w) A (.builtin "set.update.loop" ⟨[.ref S, .ref I], []⟩) R s := by
  have hw : S ∉ wr := fun m => hS0 (W.sub _ m)
  have more : ∀ b ∈ wr, b ∈ S :: wr := fun b m => List.mem_cons_of_mem _ m
  induction k with
  | zero =>
    intro i s e1 e2 st o1 fin
    have e3 : i = n := by omega
    subst e3
    refine codeAny_builtin F.entry_set_update_loop ?_
    rw [Around.under_plainId F.plain_set_update_loop _]
    show wpAny _ A.in1 (pyNext (.ref I) >>= _) _ _ s
    refine wpAny_bind (W.done s _ _ st fun s2 mv => ?_)
    show wpAny _ A.in1 (ret Value.none) _ _ s2
    refine wpAny_pure (fin s2 (mv.mono more) ?_)
    rw [← hz, List.take_length] at o1
    exact o1.move fun o g => mv.heap S o hw g
  | succ k ih =>
    intro i s e1 e2 st o1 fin
    have lt : i < n := by omega
    refine codeAny_builtin F.entry_set_update_loop ?_
    rw [Around.under_plainId F.plain_set_update_loop _]
    show wpAny _ A.in1 (pyNext (.ref I) >>= _) _ _ s
    refine wpAny_bind (W.item i s _ _ lt st fun v s2 pv st2 mv => ?_)
    obtain ⟨t, rfl⟩ := hv i v pv
    have o2 : SetT prog w s2.heap S (fun y => decide (y ∈ xs.take i)) (uni (xs.take i)).length := by
      exact o1.move fun o g => mv.heap S o hw g
    show wpAny _ A.in1 (holding [Value.str (xs.getD i Str.empty) t] (setAdd S (.str (xs.getD i Str.empty) t)) >>= _) _ _ s2
    refine wpAny_bind (wpAny_holding ?_)
    unfold setAdd
    refine wpAny_holding (wpAny_bind ((PySem.strKind prog w).pyHash (k := xs.getD i Str.empty) (strKind_is _ _ _ _) ?_))
    have hx : xs[i]? = some (xs.getD i Str.empty) := by
      rw [List.getD_eq_getElem?_getD, List.getElem?_eq_getElem (by omega)]
      rfl
    have et : xs.take (i + 1) = xs.take i ++ [xs.getD i Str.empty] := by
      rw [List.take_add_one, hx]
      rfl
    have small : (uni (xs.take i)).length + 1 < scanBound := by
      have := uni_le (xs.take i)
      rw [List.length_take] at this
      omega
    refine addT (s := { s2 with toks := s2.toks + 1 }) o2 small fun h3 sb o3 => ?_
    have o4 : SetT prog w h3 S (fun y => decide (y ∈ xs.take (i + 1))) (uni (xs.take (i + 1))).length := by
      refine o3.congr (fun y => ?_) ?_
      · rw [et, ← Bool.decide_or]
        refine decide_eq_decide.mpr ?_
        rw [List.mem_append, List.mem_singleton]
      · rw [et, uni_snoc]
        by_cases hm : xs.getD i Str.empty ∈ xs.take i
        · rw [if_pos (uni_mem.mpr hm), if_pos (decide_eq_true hm)]
        · rw [if_neg (fun z => hm (uni_mem.mp z)), if_neg (by simpa using hm), List.length_append]
          rfl
    refine wpAny_pure ⟨plainId_quiet F.plain_set_update_loop _, ih (i + 1) _ (by omega) lt (W.frame _ s2 _ _ st2 (Nat.le_succ _) fun b hb ob e => ?_) o4 fun s5 mv5 o5 => fin s5 ?_ o5⟩
    · have ne : b ≠ S := fun z => hS0 (by rw [← z]; exact hb)
      rw [sb.2 b ne]
      exact e
    · refine Moved.trans W.gtrans ((mv.mono more).then_heap (Nat.le_succ _) fun b ob hb e => ?_) mv5
      have ne : b ≠ S := fun z => hb (by rw [z]; exact List.mem_cons_self)
      rw [sb.2 b ne]
      exact e
end
section
variable {prog : Program} {w : World} {A : Around} {E : Value → Shared → Prop} {s : Shared} {l : Addr} {its : Array Value} {xs : List Str} {Q : Value → Shared → Prop}
/-- what set(xs) hands on -/
abbrev SetGotT (prog : Program) (w : World) (s : Shared) (xs : List Str) (h' : Heap) : Prop :=
  SetT prog w h' s.heap.objs.size (fun y => decide (y ∈ xs)) (uni xs).length ∧ ∀ b o, b < s.heap.objs.size → s.heap.get? b = some o → h'.get? b = some o
set_option maxHeartbeats 3200000 in
theorem set_of_listT (hc : A.handled = none) (hl : s.heap.IsList l its) (hi : StrsAre its.toList xs) (small : xs.length + 2 < scanBound)
    (h : ∀ (h' : Heap) (tk : Nat), SetGotT prog w s xs h' → Q (.ref s.heap.objs.size) { s with heap := h', toks := tk }) : wpAny (model prog w) A (call (.type "set") [.ref l]) Q E s := by
  obtain ⟨c, tl, mro_⟩ := F.called_set.mro
  have made_ := F.called_set.made
  have sub_ := F.called_set.sub
  refine wpAny_call (codeAny_of_tree ?_)
  show wpAny _ _ (callAny (.type "set") _) _ _ _
  refine wpAny_pure ⟨Code.quiet_builtin _ (by decide +kernel), codeAny_builtin F.entry_type_call ?_⟩
  rw [Around.under_plain (weight_type_call_type "set" [.ref l] []) rfl]
  have not_ := F.called_set.notType
  have can_ := F.called_set.canCreate
  have call_ := F.typeCall_set_1 (.ref l)
  repeat (any_goals (first | assumption | wp_step))
  refine codeAny_mono (code_set_led1 (.ref l) (E := E) (Q₁ := fun ob t => ∃ led : Bool, led = (!w.params.followText "set-order") ∧ ob = .ref s.heap.objs.size ∧ t = { s with heap := s.heap.push (freshSet led) }) ⟨_, rfl, rfl, rfl⟩) fun r t hr => ?_
  match r, hr with
  | .error _, hr => exact hr
  | .ok .next, hr => exact hr.elim
  | .ok .brk, hr => exact hr.elim
  | .ok .cont, hr => exact hr.elim
  | .ok (.ret _), ⟨led, e0, e1, e2⟩ =>
    subst e1 e2
    have at0 : (s.heap.push (freshSet led)).get? s.heap.objs.size = some (freshSet led) := Heap.get?_push_size _ rfl
    have ty0 : Shared.TypeIs { s with heap := s.heap.push (freshSet led) } (.ref s.heap.objs.size) "set" := ⟨_, at0, rfl⟩
    have look_ := F.called_set.init.lookup
    have bind_ := F.called_set.init.bind (.ref s.heap.objs.size)
    repeat (any_goals (first | assumption | wp_step))
    refine codeAny_mono (codeAny_call_builtin (R := wants (fun r t => r = .none ∧ ∃ h' tk, t = { s with heap := h', toks := tk } ∧ SetGotT prog w s xs h') E) F.called_set.init.plain F.entry_set_init (check_set_init_1 ty0 ?_)) fun r2 t2 hr2 => ?_
    · obtain ⟨⟨ocls, odict, odata, oslots⟩, ol, ocl, on, od⟩ := hl
      simp only at ocl od
      subst ocl od
      have at1 : (s.heap.push (freshSet led)).get? l = some { cls := .type "list", dict := odict, data := .seq its on, slots := oslots } := Heap.get?_push_of_some _ ol
      have sub1 := F.sub_list_set
      have sub2 := F.sub_list_frozenset
      have notd : (Value.type "list" == Value.type "dict") = false := by decide
      have is1 : (s.heap.push (freshSet led)).IsList l its := ⟨_, at1, rfl, on, rfl⟩
      unfold Builtin.«set.__init__» noKeywords Builtin.Frozenset.updateFrom
      generalize hPI : pyIter = PI
      wp_walk
      subst hPI
      refine wpAny_pyIter_list is1 (wpAny_bind (wpAny_runValue ?_))
      have ltl : l < s.heap.objs.size := Heap.lt_size ol
      have calm3 : A.in1.in1.in1.handled = none := by simp [hc]
      have neI : l ≠ (s.heap.push (freshSet led)).objs.size := by
        rw [Heap.size_push]
        exact Nat.ne_of_lt (Nat.lt_succ_of_lt ltl)
      have noS : s.heap.objs.size ∉ [(s.heap.push (freshSet led)).objs.size, l] := by
        rw [Heap.size_push]
        simp only [List.mem_cons, List.not_mem_nil, or_false, not_or]
        exact ⟨Nat.ne_of_lt (Nat.lt_succ_self _), Nat.ne_of_gt ltl⟩
      have zl : xs.length = its.size := by rw [← StrsAre.len_eq hi, Array.length_toList]
      refine upd_loopT ((Walks.list calm3 _ l neI its).toS) noS zl (by omega) (fun i v hv => SS.strs_at hi i v (by rw [Array.getElem?_toList]; exact hv)) (its.size - 0) 0 _ (by omega) (Nat.zero_le _) ⟨⟨_, Heap.get?_push_size _ rfl, rfl, rfl⟩, is1.push _⟩ ?o0 ?fin
      case o0 =>
        have at2 : ((s.heap.push (freshSet led)).push { cls := .type "list_iterator", data := .fields #[.ref l, .int 0 0] }).get? s.heap.objs.size = some (freshSet led) := Heap.get?_push_of_some _ at0
        refine SetT.congr (SetT.fresh (by rw [at2, e0])) (fun y => ?_) rfl
        simp
      case fin =>
        intro s3 mv o3
        obtain ⟨h3, g3, d3, t3, os3⟩ := s3
        obtain rfl : g3 = s.gens := mv.gens
        obtain rfl : d3 = s.drawn := mv.drawn
        obtain rfl : os3 = s.os := mv.os
        show wpAny _ _ _ _ _ _
        refine wpAny_pure ?_
        show wpAny _ _ (ret Value.none) _ _ _
        refine wpAny_pure ⟨rfl, h3, t3, rfl, o3, fun b ob hb e => mv.heap b ob (fun m => ?_) (Heap.get?_push_of_some _ (Heap.get?_push_of_some _ e))⟩
        simp only [List.mem_cons, List.not_mem_nil, or_false, Heap.size_push] at m
        rcases m with e | e
        · exact absurd (e ▸ hb) (Nat.lt_irrefl _)
        · rw [e] at hb
          exact absurd hb (Nat.not_lt.mpr (Nat.le_succ _))
    · match r2, hr2 with
      | .error _, hr2 => exact hr2
      | .ok .next, hr2 => exact hr2.elim
      | .ok .brk, hr2 => exact hr2.elim
      | .ok .cont, hr2 => exact hr2.elim
      | .ok (.ret _), ⟨e1, h3, tk, e2, got⟩ =>
        subst e1 e2
        repeat (any_goals (first | assumption | wp_step))
        exact h _ _ got
end
end Kb

set_option Elab.async false
set_option linter.all false
set_option maxRecDepth 100000
set_option maxHeartbeats 2000000
/-! Kb, 55: sorted(set(xs)) of texts. -/
namespace Kb
open PySem PySem.Spec PyProof.Rows L2

def txtV : Value → Str
  | .str x _ => x
  | _ => Str.empty
theorem txts_of : ∀ (l : List Value), (∀ v ∈ l, ∃ x tk, v = Value.str x tk) → StrsAre l (l.map txtV)
  | [], _ => .nil
  | v :: l, h => by
    obtain ⟨x, tk, rfl⟩ := h v List.mem_cons_self
    exact .cons x tk (txts_of l fun u m => h u (List.mem_cons_of_mem _ m))
section
variable {P : Program} {w : World} {A : Around} {E : Value → Shared → Prop} {s : Shared} {a : Addr} {S : Str → Bool} {n : Nat}
theorem sorted_setT {Q : Value → Shared → Prop} (R : SetT P w s.heap a S n) (calm : A.handled = none)
    (fin : ∀ (s' : Shared) (p : Addr) (out : Array Value) (c : Nat) (ns : List Str), (∀ b o, s.heap.get? b = some o → s'.heap.get? b = some o) → s'.gens = s.gens → s'.os = s.os → s.heap.objs.size ≤ p →
      s'.heap.get? p = some (seqObj "list" out c) → StrsAre out.toList ns → sortedS ns = true → ns.Nodup → (∀ x, x ∈ ns ↔ S x = true) → ns.length = n → Q (.ref p) s') :
    wpAny (model P w) A (call (.builtin "sorted") [.ref a]) Q E s := by
  obtain ⟨o, es, ep, t, ho, ex, dat, ok, nd, mem, sm, fit, num, ris, led⟩ := R
  refine Calls.call_function_entry kind_sorted plain_sorted entry_sorted (args_sorted1 _) ?_
  unfold Builtin.«sorted»
  refine wpAny_bind (m := checkCount "sorted" 1 1 _) (wpAny_pure ?_)
  refine wpAny_bind (collect_set (A := A.in1) calm ⟨o, ho, ex.1, dat⟩ fit sm ris led fun s1 vs kp hz g1 o1 perm => ?_)
  have len : vs.length = n := by
    rw [perm.length_eq, List.length_map, ← num]
    exact Array.length_toList
  have small : vs.length ≤ sizeLine := by
    have h1 : n < scanBound := by rw [← num]; exact sm
    have h2 : scanBound ≤ sizeLine := by decide
    omega
  have texts : StrsAre vs (vs.map txtV) := txts_of vs fun v m => by
    obtain ⟨e, he, q⟩ := List.mem_map.mp (perm.mem_iff.mp m)
    obtain ⟨x, tk, h1, _⟩ := ok e he
    exact ⟨x, tk, by rw [← q]; exact h1⟩
  have permT : (vs.map txtV).Perm (es.toList.map txt) := by
    have q := perm.map txtV
    rw [List.map_map] at q
    have e : (txtV ∘ fun x : Int × Value => x.2) = txt := by
      funext x
      rfl
    rw [e] at q
    exact q
  refine wpAny_bind (wpAny_newList ?_ small)
  have made : (s1.heap.push (seqObj "list" vs.toArray 0)).get? s1.heap.objs.size = some (seqObj "list" vs.toArray 0) := Heap.get?_push_size _ rfl
  refine wpAny_bind (wpAny_holding (wpAny_call_entry slot_list_sort ⟨_, made, rfl⟩ entry_list_sort (list_sort_treeKAny strKind_oneLt made texts.keysOf (fun v1 v2 rest e => keyKind_strs (by rw [← e]; exact texts)) small fun st hp hs => ⟨_, rfl, ?_⟩) (args_list_sort _)))
  obtain ⟨ns, a1, a2, a3⟩ := sorted_out_str texts hp hs
  obtain ⟨c, hc⟩ := sortedHeap_at (vs := vs) (out := (arrOf st).map (·.2)) made
  have permN := a2.trans permT
  refine wpAny_pure ⟨_, rfl, fin _ s1.heap.objs.size _ c ns (fun b u e => ?_) g1 o1 hz hc a1 a3 (permN.nodup_iff.mpr nd) (fun x => by rw [permN.mem_iff, ← mem x]) ?_⟩
  · have q := kp b u e
    have lt := Heap.lt_size q
    show (sortedHeap (s1.heap.push (seqObj "list" vs.toArray 0)) s1.heap.objs.size vs _).get? b = some u
    rw [sortedHeap_old (Nat.ne_of_lt lt) (by rw [size_push']; exact Nat.lt_succ_of_lt lt)]
    exact Heap.get?_push_of_some _ q
  · rw [permN.length_eq, List.length_map, ← num]
    exact Array.length_toList
end
/-- sorted(set(xs)) -/
def tSortUni (K : PySem.W.Frag) (ta : TE) : TE := fun σ H Q => ta σ H fun x H1 => ∃ (l : Addr) (xs : List Str), x = .ref l ∧ SqL K H1 l (xs.map V.str) ∧ xs.length ≤ 1000 ∧
  ∀ (ns : List Str) (p : Addr), ns.Nodup → sortedS ns = true → (∀ y, y ∈ ns ↔ y ∈ xs) → H1 p = none → Q (.ref p) (upd H1 p (.lst (ns.map V.str)))
theorem pe_sortUni {X : Cx} {a : Expr} {ta : TE} {p p2 q pos : Pos} (hg : Gl X "sorted") (hm : X.mg "sorted" = none) (hg2 : Gl X "set") (hm2 : X.mg "set" = none) (hv : bootBuiltins "sorted" = some (.builtin "sorted")) (ha : PE X a ta) (hc : X.calm = true := by rfl)
    (na : starEach [a] X.env = (false, eval a X.env) :: starEach [] X.env := by rfl) : PE X (.Call (.Name "sorted" p) [.Call (.Name "set" p2) [a] [] q] [] pos) (tSortUni X.K ta) := by
  refine ⟨fun pins s σ H Q I h => Call_ (ld_blt I hg hm hv ?_)⟩
  refine callWith_builtin1 (args_cons (Call_ (ld_blt I hg2 hm2 boot_set ?_)) rfl) rfl rfl
  refine callWith_type1 (args_cons (thn (ha.run pins s σ H _ I h) fun v s1 ⟨x, H1, I1, r1, l, xs, ex, hq, hs, q1⟩ => args_nil ?_) na) na rfl
  subst ex
  obtain rfl : v = Value.ref l := r1
  obtain ⟨its, r, pl, hz⟩ := I1.list hq
  have calm := I1.ok.hd hc
  refine set_of_listT calm pl.isList (by simpa using strsAre_of r) (by unfold scanBound; omega) fun h' tk got => ?_
  obtain ⟨R, hk⟩ := got
  refine args_nil ?_
  have I2 : Inv X pins σ H1 { s1 with heap := h', toks := tk } := I1.kept fun b o e => hk b o (Heap.lt_size e) e
  have R2 : SetT X.prog X.w ({ s1 with heap := h', toks := tk } : Shared).heap s1.heap.objs.size (fun y => decide (y ∈ xs)) (uni xs).length := R
  generalize ({ s1 with heap := h', toks := tk } : Shared) = s2 at I2 R2 ⊢
  refine sorted_setT R2 calm fun s' p out c ns kp hgn hos hp hget hstr hso hnd hmem hlen => ?_
  have hfree : H1 p = none := I2.hok.fresh hp
  have hl : (ns.map V.str).length ≤ sizeLine := by
    have := uni_le xs
    rw [List.length_map, hlen, sizeLine_eq]
    omega
  have J : Inv X pins σ (upd H1 p (.lst (ns.map V.str))) { s2 with heap := s'.heap, gens := s'.gens, drawn := s'.drawn, toks := s'.toks } :=
    I2.call (ch := []) (Un.laid kp hp hfree) (I2.hok.laid kp hp ⟨hl, out.toList, c, vals_of_strs hstr, hget⟩) (by rw [hgn]; exact I2.bare) (fun _ z => nomatch z)
  have es : s' = { s2 with heap := s'.heap, gens := s'.gens, drawn := s'.drawn, toks := s'.toks } := by
    cases s'
    cases s2
    cases hos
    rfl
  rw [es]
  exact ⟨.ref p, _, J, rfl, q1 ns p hnd hso (fun y => by rw [hmem y, decide_eq_true_eq]) hfree⟩
end Kb

set_option Elab.async false
set_option linter.all false
set_option maxRecDepth 100000
set_option maxHeartbeats 2000000
/-! Kb, 56: enumerate over a tuple, and over either; xs.extend(t). -/
namespace PySem
open AutoSeq1 (wpAny_loadPart')
/-- a tuple's iterator draws its items -/
theorem kbDrawsT {prog : Program} {w : World} {A : Around} (hh : A.handled = none) (it t : Addr) (hne : t ≠ it) (items : Array Value) :
    Draws prog w A it [it, t] items.size (fun i v => items[i]? = some v) (fun i h => h.IsTupleIter it t i ∧ h.IsTuple t items) where
  live := fun _ _ st => by
    obtain ⟨⟨o, ho, _⟩, _⟩ := st
    exact ⟨o, ho⟩
  frame := fun _ _ _ st kp => ⟨st.1.at fun o e => kp it (by simp) o e, st.2.at fun o e => kp t (by simp) o e⟩
  item := fun i s Q E lt st fin => by
    refine wpAny_nextOf_tuple_item st.1 st.2 (x := items[i]) (by simp [lt]) fun h' hit sb => ?_
    exact fin _ h' s.toks (by simp [lt]) ⟨hit, st.2.extBut sb.extBut hne⟩ sb
  done := fun s Q E st fin => wpAny_nextOf_tuple_end hh st.1 st.2 (by simp) fin
theorem kbNewEnumT (t : Addr) (items : Array Value) (n : Nat) (dct : Option Addr) (sl : Array (Option Value)) :
    Meets (Builtin.«enumerate.__new__» ⟨[.type "enumerate", .ref t], []⟩) (fun _ R s => s.heap.get? t = some { cls := .type "tuple", dict := dct, data := .seq items n, slots := sl } ∧
      R (.ok (.ret (.ref (s.heap.push { cls := .type "tuple_iterator", data := .fields #[.ref t, .int 0 0] }).objs.size)))
        { s with heap := (s.heap.push { cls := .type "tuple_iterator", data := .fields #[.ref t, .int 0 0] }).push { cls := .type "enumerate", data := .fields #[.none, .bool false, .ref s.heap.objs.size, rawInt 0, .none, .none] } }) :=
  .of_wp fun prog w A R s h => by
    obtain ⟨hp, g, d, tk, os⟩ := s
    obtain ⟨ht, h⟩ := h
    have hsub := sub_enumerate
    have hT : Heap.IsTuple (Shared.heap ⟨hp, g, d, tk, os⟩) t items := ⟨_, ht, rfl, n, rfl⟩
    wp_walk using wpAny_loadPart' ht
    refine wpAny_stack_any fun st => wpAny_pure ?_
    split
    · rename_i c _ _ _ _ _
      cases (c == Value.type "enumerate")
      · wp_walk using wpAny_loadPart' ht, wpAny_pyIter_tuple hT
        exact ⟨_, rfl, h⟩
      · wp_walk using wpAny_loadPart' ht, wpAny_pyIter_tuple hT
        exact ⟨_, rfl, h⟩
    · wp_walk using wpAny_loadPart' ht, wpAny_pyIter_tuple hT
      exact ⟨_, rfl, h⟩
theorem kbCallEnumT {prog : Program} {w : World} {A : Around} {E : Value → Shared → Prop} {s : Shared} {t : Addr} {items : Array Value} {Q : Value → Shared → Prop} (hT : s.heap.IsTuple t items)
    (fin : ∀ h', IsEnum h' (s.heap.objs.size + 1) s.heap.objs.size 0 .none → h'.IsTupleIter s.heap.objs.size t 0 → (∀ b o, s.heap.get? b = some o → h'.get? b = some o) → Q (.ref (s.heap.objs.size + 1)) { s with heap := h' }) :
    wpAny (model prog w) A (call (.type "enumerate") [.ref t]) Q E s := by
  obtain ⟨⟨c, dct, dt, sl⟩, ht, hc, n, hd⟩ := hT
  have gc : c = .type "tuple" := hc
  have gd : dt = .seq items n := hd
  subst gc gd
  refine callType_new F.called_enumerate (by decide) (F.typeCall_enumerate_1 _) (F.newCall_enumerate_1 _) (fun obj => F.args_object_init_2 obj _) F.entry_enumerate_new (kbNewEnumT t items n dct sl) ⟨ht, ?_⟩
  have size : (s.heap.push { cls := .type "tuple_iterator", data := .fields #[.ref t, .int 0 0] }).objs.size = s.heap.objs.size + 1 := Heap.size_push ..
  have en : IsEnum ((s.heap.push { cls := .type "tuple_iterator", data := .fields #[.ref t, .int 0 0] }).push { cls := .type "enumerate", data := .fields #[.none, .bool false, .ref s.heap.objs.size, rawInt 0, .none, .none] }) (s.heap.objs.size + 1) s.heap.objs.size 0 .none := by
    have q := Heap.get?_push_size (s.heap.push { cls := .type "tuple_iterator", data := .fields #[.ref t, .int 0 0] }) (o := { cls := .type "enumerate", data := .fields #[.none, .bool false, .ref s.heap.objs.size, rawInt 0, .none, .none] }) rfl
    rw [size] at q
    exact q
  show _ ∧ _
  rw [size]
  exact ⟨⟨_, en, rfl⟩, fin _ en ⟨_, Heap.get?_push_of_some _ (Heap.get?_push_size _ rfl), rfl, rfl⟩ fun b o x => Heap.get?_push_of_some _ (Heap.get?_push_of_some _ x)⟩
end PySem
namespace Kb
open PySem PySem.Spec PyProof.Rows L2

/-- the tuple at a, each item in a new pair -/
def Itet (K : PySem.W.Frag) (a : Addr) : It :=
  ⟨fun i H => ∃ (xs : List V) (x : V), SqT K H a xs ∧ xs[i]? = some x, fun i H v H' => ∃ T x, v = .ref T ∧ H T = none ∧ H' = upd H T (.tup [.int (i : Nat), x]) ∧ ∀ xs, SqT K H a xs → xs[i]? = some x, fun i H => ∃ xs : List V, SqT K H a xs ∧ xs.length = i⟩
theorem turn_enumT {P : Program} {w : World} {K : PySem.W.Frag} {elts : List Expr} {kk : Nat} {tpos : Pos} (a e it : Addr) :
    Turn P w K (.Tuple elts kk tpos) (Itet K a) [e, it] e (fun i h => (∃ old, IsEnum h e it ((i : Nat) : Int) old) ∧ h.IsTupleIter it a i ∧ e ≠ it ∧ a ≠ it ∧ a ≠ e) where
  mem := by simp
  obj := fun i h st b hb => by
    obtain ⟨⟨old, he⟩, ⟨o, ho, hc, hd⟩, _⟩ := st
    have two : b = e ∨ b = it := by simpa using hb
    rcases two with rfl | rfl
    · exact ⟨_, he, fun v q => nomatch q⟩
    · exact ⟨o, ho, fun v q => by rw [hd] at q; cases q⟩
  keep := fun i h h' st k => by
    obtain ⟨⟨old, he⟩, hi, hne⟩ := st
    exact ⟨⟨old, k e (by simp) _ he⟩, hi.at fun o q => k it (by simp) o q, hne⟩
  item := by
    intro X hP hw hK hc i pins s σ H E I hf st go
    subst hP hw hK
    obtain ⟨⟨old, he⟩, hit, ne1, ne2, ne3⟩ := st
    obtain ⟨xs, x, hq, hx⟩ := go
    obtain ⟨its, rv, tp, hz⟩ := I.tuple hq
    obtain ⟨u, hu, ru⟩ := rv.get hx
    have le := Heap.lt_size he
    have li : it < s.heap.objs.size := by
      obtain ⟨_, q, _⟩ := hit
      exact Heap.lt_size q
    have lt : i < its.toArray.size := by
      have := (List.getElem?_eq_some_iff.mp hu).1
      simpa using this
    refine wpAny_pyNext_enum_itemD (kbDrawsT (A := X.A.in1) (I.ok.hd hc) it a ne2 its.toArray) he ⟨hit, tp⟩ lt ne1 (by simp [ne1, Ne.symm ne3]) fun y h' tk hy ho st' pair size kp => ?_
    obtain rfl : u = y := by
      have hy' : its.toArray[i]? = some y := hy
      rw [List.getElem?_toArray, hu] at hy'
      exact Option.some.inj hy'
    refine ⟨_, rfl, wpAny_letOwnedTupleGo_enum (s := { s with heap := h', toks := tk + 1 }) ho fun h2 he2 sb => ?_⟩
    have pair2 : h2.get? s.heap.objs.size = some { cls := .type "tuple", data := .seq #[.int i tk, u] } := (sb.2 _ (Nat.ne_of_gt le)).trans pair
    have new : ObjOk X.prog X.w (upd H s.heap.objs.size (.tup [.int (i : Nat), x])) h2 s.heap.objs.size (.tup [.int (i : Nat), x]) :=
      ⟨by show 2 ≤ sizeLine; decide, [.int i tk, u], .cons ⟨_, rfl⟩ (.cons ru .nil), ⟨_, pair2, rfl, _, rfl⟩⟩
    have I1 : Inv X pins σ (upd H s.heap.objs.size (.tup [.int (i : Nat), x])) { s with heap := h2, toks := tk + 1 } :=
      I.turnedNew (ch := [e, it]) (fun b ob hb q => (sb.2 b (fun z => hb (by simp [z]))).trans (kp b ob (fun z => hb (by simp [z])) (fun z => hb (by simp [z])) q)) hf (Nat.le_refl _) new
    refine ⟨.ref s.heap.objs.size, _, I1, rfl, ⟨_, x, rfl, I.hok.fresh (Nat.le_refl _), rfl, fun ys hy2 => ?_⟩, ⟨⟨u, ?_⟩, st'.1.at fun o q => (sb.2 it (Ne.symm ne1)).trans q, ne1, ne2, ne3⟩, fun b hb => ?_⟩
    · rw [I.tuple_inj hy2 hq]
      exact hx
    · have e1 : ((i + 1 : Nat) : Int) = (i : Int) + 1 := by omega
      rw [e1]
      exact he2
    · have two : b = e ∨ b = it := by simpa using hb
      have lb : b < s.heap.objs.size := by
        rcases two with rfl | rfl
        · exact le
        · exact li
      rw [upd_ne (Nat.ne_of_lt lb)]
      exact (hf b hb).1
  done := by
    intro X hP hw hK hc i pins s σ H E I hf st stop
    subst hP hw hK
    obtain ⟨⟨old, he⟩, hit, ne1, ne2, ne3⟩ := st
    obtain ⟨xs, hq, hx⟩ := stop
    obtain ⟨its, rv, tp, hz⟩ := I.tuple hq
    obtain ⟨f0, f1, f2, f3, f4, f5⟩ := hf it (by simp)
    have hl := rv.length
    have en : i = its.toArray.size := by
      rw [List.size_toArray]
      omega
    subst en
    exact wpAny_pyNext_enum_endD (kbDrawsT (A := X.A.in1) (I.ok.hd hc) it a ne2 its.toArray) he ⟨hit, tp⟩ fun h' eb => ⟨rfl, I.turned (t' := s.toks) (fun b o hb q => eb b o hb q) f0 f1 f3 f4 f5⟩
  self := fun A i s Q E st h => by
    obtain ⟨⟨_, he⟩, _⟩ := st
    exact wpAny_pyIter_enum he h
/-- enumerate over a list or a tuple -/
def iEnumA (K : PySem.W.Frag) (ta : TA) : TI := fun σ H R => ta σ H fun vs H1 => ∃ a, vs = [.ref a] ∧ (((∃ xs, SqL K H1 a xs) ∧ R (Ite K a) H1) ∨ ((∃ xs, SqT K H1 a xs) ∧ R (Itet K a) H1))
theorem pi_enumA {X : Cx} {e : Expr} {ta : TA} {p pos tpos : Pos} {elts : List Expr} {kk : Nat} (hg : Gl X "enumerate") (hm : X.mg "enumerate" = none) (ha : PA X [e] ta) (hs : starEach [e] X.env = [(false, eval e X.env)] := by rfl) :
    PI X (.Tuple elts kk tpos) (.Call (.Name "enumerate" p) [e] [] pos) (iEnumA X.K ta) := by
  refine ⟨fun pins s σ H R I h => ?_⟩
  refine Call_ (ld_blt I hg hm boot_enumerate (PyProof.Rows.callWith_type1 (thn (ha.run pos pins s σ H _ I h) fun us s1 ⟨vs, H1, I1, r1, q1⟩ => ?_) hs rfl))
  obtain ⟨a, ex, q⟩ := q1
  subst ex
  cases r1 with
  | cons r rr =>
  cases rr
  cases r
  have fresh : ∀ b, b = s1.heap.objs.size + 1 ∨ b = s1.heap.objs.size → s1.heap.objs.size ≤ b := fun b z => by omega
  rcases q with ⟨⟨xs, hq⟩, q⟩ | ⟨⟨xs, hq⟩, q⟩
  · obtain ⟨its, rv, pl, hz⟩ := I1.list hq
    refine call_enumerate_list pl.isList fun h' he hit hsz hk => wpAny_pyIter_enum he ?_
    refine ⟨s1.heap.objs.size + 1, [s1.heap.objs.size + 1, s1.heap.objs.size], _, _, H1, rfl, I1.kept (t' := s1.toks) hk, turn_enum a (s1.heap.objs.size + 1) s1.heap.objs.size, ⟨⟨.none, he⟩, hit, Nat.succ_ne_self _⟩, fun b hb => ?_, q⟩
    have le := fresh b (by simpa using hb)
    exact I1.fpOk le (I1.hok.fresh le)
  · obtain ⟨its, rv, tp, hz⟩ := I1.tuple hq
    have la : a < s1.heap.objs.size := by
      obtain ⟨o, e, _⟩ := tp
      exact Heap.lt_size e
    refine kbCallEnumT tp fun h' he hit hk => wpAny_pyIter_enum he ?_
    refine ⟨s1.heap.objs.size + 1, [s1.heap.objs.size + 1, s1.heap.objs.size], _, _, H1, rfl, I1.kept (t' := s1.toks) hk, turn_enumT a (s1.heap.objs.size + 1) s1.heap.objs.size, ⟨⟨.none, he⟩, hit, Nat.succ_ne_self _, Nat.ne_of_lt la, Nat.ne_of_lt (Nat.lt_succ_of_lt la)⟩, fun b hb => ?_, q⟩
    have le := fresh b (by simpa using hb)
    exact I1.fpOk le (I1.hok.fresh le)
/-- xs.extend(t), t a tuple -/
def rExtendT : V → List V → Hp → VK → Prop := fun x vs H Q => ∃ l b xs zs, x = .ref l ∧ vs = [.ref b] ∧ H l = some (.lst xs) ∧ H b = some (.tup zs) ∧ xs.length + zs.length ≤ sizeLine ∧ Q .non (upd H l (.lst (xs ++ zs)))
end Kb

set_option Elab.async false
set_option linter.all false
set_option maxRecDepth 100000
set_option maxHeartbeats 4000000
/-! Kb, 11: the tests of onwardasks.terms and onwardasks.kinds over data. -/
namespace Kb
open PySem PySem.Spec PyProof.Rows L2

/-! ### data seen by isinstance, len, an index -/
def D.ty : D → String
  | .non => "NoneType" | .bl _ => "bool" | .int _ => "int" | .str _ => "str" | .tup _ => "tuple" | .lst _ => "list" | .dct _ => "dict"
def D.isStr : D → Bool
  | .str _ => true
  | _ => false
def D.isSeq : D → Bool
  | .tup _ => true
  | .lst _ => true
  | _ => false
theorem At.ty {K : PySem.W.Frag} {M : List Addr} {H : Hp} {d : D} {x : V} (h : At M H d x) : TyX K H x (.type d.ty) := by
  cases d with
  | non => cases h; exact .base .non
  | bl b => cases h; exact .base (.bl b)
  | int i => cases h; exact .base (.int i)
  | str s => cases h; exact .base (.str s)
  | tup ds =>
    obtain ⟨p, xs, e, _, hp, _⟩ := h
    subst e
    exact .base (.tup hp)
  | lst ds =>
    obtain ⟨p, xs, e, _, hp, _⟩ := h
    subst e
    exact .base (.lst hp)
  | dct ds =>
    obtain ⟨p, xs, e, _, hp, _⟩ := h
    subst e
    exact .base (.dK hp)
section
variable {K : PySem.W.Frag} {M : List Addr} {H : Hp} {d : D} {x : V} {Q : VK} {σ : L2.St}
theorem kit_str : PySem.W.kitOne K (.type d.ty) (.type "str") = some d.isStr := by
  cases d with
  | non => exact kit_ty (show kitB "NoneType" "str" = some false by decide +kernel)
  | bl _ => exact kit_ty (show kitB "bool" "str" = some false by decide +kernel)
  | int _ => exact kit_ty (show kitB "int" "str" = some false by decide +kernel)
  | str _ => exact kit_ty (show kitB "str" "str" = some true by decide +kernel)
  | tup _ => exact kit_ty (show kitB "tuple" "str" = some false by decide +kernel)
  | lst _ => exact kit_ty (show kitB "list" "str" = some false by decide +kernel)
  | dct _ => exact kit_ty (show kitB "dict" "str" = some false by decide +kernel)
theorem rd_isStr (h : At M H d x) (q : Q (.bl d.isStr) H) : rIsi K [x, .ty "str"] H Q := ⟨x, _, _, _, d.isStr, rfl, .ty _, h.ty, kit_str, q⟩
theorem kit_seq : PySem.W.kitAny K (.type d.ty) [.type "list", .type "tuple"] = some d.isSeq := by
  cases d with
  | non => exact kitAny_cons (kit_ty (show kitB "NoneType" "list" = some false by decide +kernel)) (fun _ => kitAny_cons (kit_ty (show kitB "NoneType" "tuple" = some false by decide +kernel)) (fun _ => kitAny_nil) fun z => nomatch z) fun z => nomatch z
  | bl _ => exact kitAny_cons (kit_ty (show kitB "bool" "list" = some false by decide +kernel)) (fun _ => kitAny_cons (kit_ty (show kitB "bool" "tuple" = some false by decide +kernel)) (fun _ => kitAny_nil) fun z => nomatch z) fun z => nomatch z
  | int _ => exact kitAny_cons (kit_ty (show kitB "int" "list" = some false by decide +kernel)) (fun _ => kitAny_cons (kit_ty (show kitB "int" "tuple" = some false by decide +kernel)) (fun _ => kitAny_nil) fun z => nomatch z) fun z => nomatch z
  | str _ => exact kitAny_cons (kit_ty (show kitB "str" "list" = some false by decide +kernel)) (fun _ => kitAny_cons (kit_ty (show kitB "str" "tuple" = some false by decide +kernel)) (fun _ => kitAny_nil) fun z => nomatch z) fun z => nomatch z
  | tup _ => exact kitAny_cons (kit_ty (show kitB "tuple" "list" = some false by decide +kernel)) (fun _ => kitAny_cons (kit_ty (show kitB "tuple" "tuple" = some true by decide +kernel)) (fun z => nomatch z) fun _ => rfl) fun z => nomatch z
  | lst _ => exact kitAny_cons (kit_ty (show kitB "list" "list" = some true by decide +kernel)) (fun z => nomatch z) fun _ => rfl
  | dct _ => exact kitAny_cons (kit_ty (show kitB "dict" "list" = some false by decide +kernel)) (fun _ => kitAny_cons (kit_ty (show kitB "dict" "tuple" = some false by decide +kernel)) (fun _ => kitAny_nil) fun z => nomatch z) fun z => nomatch z
end
/-- a list or a tuple of xs -/
def SqV (K : PySem.W.Frag) (H : Hp) (p : Addr) (xs : List V) : Prop := SqL K H p xs ∨ SqT K H p xs
theorem SqV.but {K : PySem.W.Frag} {H H' : Hp} {p : Addr} {xs : List V} (h : SqV K H p xs) (b : But [] H H') : SqV K H' p xs := by
  have e : Same H H' := fun a o g => b.keep a o (by simp) g
  rcases h with h | h
  · exact .inl (e.seq h)
  · refine .inr ?_
    rcases h with (h | ⟨o, h⟩) | h
    · exact .inl (.inl (e _ _ h))
    · exact .inl (.inr ⟨o, e _ _ h⟩)
    · exact .inr h
def D.items : D → List D
  | .tup ds => ds
  | .lst ds => ds
  | _ => []
theorem At.seq {K : PySem.W.Frag} {M : List Addr} {H : Hp} {d : D} {x : V} (h : At M H d x) (s : d.isSeq = true) : ∃ p xs, x = .ref p ∧ SqV K H p xs ∧ AtL M H d.items xs := by
  cases d with
  | tup ds =>
    obtain ⟨p, xs, e, _, hp, hl⟩ := h
    exact ⟨p, xs, e, .inr (SqT.of hp), hl⟩
  | lst ds =>
    obtain ⟨p, xs, e, _, hp, hl⟩ := h
    exact ⟨p, xs, e, .inl (SqL.of hp), hl⟩
  | _ => cases s
theorem SqV.len {K : PySem.W.Frag} {H : Hp} {p : Addr} {xs : List V} {Q : VK} (h : SqV K H p xs) (q : Q (.int (xs.length : Int)) H) : rLenA K [.ref p] H Q := by
  refine ⟨_, xs.length, rfl, ?_, q⟩
  rcases h with h | h
  · exact .inl ⟨_, h, rfl⟩
  · exact .inr ⟨_, h, rfl⟩
theorem SqV.lenV {K : PySem.W.Frag} {H : Hp} {p : Addr} {xs : List V} (h : SqV K H p xs) : LenV K (.ref p) H xs.length := by
  rcases h with h | h
  · exact .inl ⟨_, h, rfl⟩
  · exact .inr ⟨_, h, rfl⟩
theorem SqV.ix {K : PySem.W.Frag} {H : Hp} {p : Addr} {xs : List V} {Q : VK} {i : Nat} {z : Int} {v : V} (h : SqV K H p xs) (e : xs[i]? = some v) (ez : z = (i : Int)) (q : Q v H) : rIx K (.ref p) (.int z) H Q := by
  rcases h with h | h
  · exact .inl ⟨_, _, _, _, rfl, rfl, h, at_of ez e, q⟩
  · exact .inr (.inl ⟨_, _, _, _, rfl, rfl, h, at_of ez e, q⟩)
/-! ### for over a list or a tuple -/
def iSeq (K : PySem.W.Frag) (t : TE) : TI := fun σ H R => t σ H fun x H1 => ∃ a, x = .ref a ∧ (((∃ xs, SqL K H1 a xs) ∧ R (Itl K a) H1) ∨ ((∃ xs, SqT K H1 a xs) ∧ R (Itt K a) H1))
theorem pi_seqVar {X : Cx} {tg : Expr} {i : Nat} {y : Str} {pos : Pos} (h : PE X (.Name y pos) (tVar i)) : PI X tg (.Name y pos) (iSeq X.K (tVar i)) := by
  refine ⟨fun pins s σ H R I q => ?_⟩
  obtain ⟨v, hv, a, e, q⟩ := q
  rcases q with ⟨h1, q⟩ | ⟨h1, q⟩
  · exact (pi_list (tg := tg) h).run pins s σ H R I ⟨v, hv, a, e, h1, q⟩
  · exact (pi_tup (tg := tg) h).run pins s σ H R I ⟨v, hv, a, e, h1, q⟩
theorem rd_seq {K : PySem.W.Frag} {i : Nat} {σ : L2.St} {H : Hp} {p : Addr} {xs : List V} {R : It → Hp → Prop} (hσ : σ[i]? = some (some (.ref p))) (h : SqV K H p xs)
    (k : ∀ (J : It) (G : Hp → Prop), Walk J xs.length G (YAt xs) → (∀ H', But [] H H' → G H') → R J H) : iSeq K (tVar i) σ H R := by
  refine ⟨_, hσ, p, rfl, ?_⟩
  rcases id h with h1 | h1
  · refine .inl ⟨⟨_, h1⟩, k _ _ walk_list fun H' b => ?_⟩
    have e : Same H H' := fun a o g => b.keep a o (by simp) g
    exact e.seq h1
  · refine .inr ⟨⟨_, h1⟩, k _ _ walk_tup fun H' b => ?_⟩
    rcases (show SqV K H p xs from .inr h1).but b with h2 | h2
    · exact (by
        have e : Same H H' := fun a o g => b.keep a o (by simp) g
        rcases h1 with (h | ⟨o, h⟩) | h
        · exact .inl (.inl (e _ _ h))
        · exact .inl (.inr ⟨o, e _ _ h⟩)
        · exact .inr h)
    · exact h2
/-- [f(y) for y in ..], each value known, nothing but new objects -/
theorem lc_map {J : It} {G : Hp → Prop} {xs : List V} {σ : L2.St} {H H1 : Hp} {j : Nat} {te : TE} {Q : VK} (w : Walk J xs.length G (YAt xs)) (hG : ∀ H', But [] H H' → G H') (f : Nat → V) (hl : xs.length ≤ 1000) (b1 : But [] H H1)
    (step : ∀ n y H2, xs[n]? = some y → But [] H H2 → ∀ Q' : VK, (∀ H3, But [] H2 H3 → Q' (f n) H3) → te ((wipe σ [j]).set j (some y)) H2 Q')
    (k : ∀ D H', H1 D = none → H' D = some (.lst ((List.range xs.length).map f)) → But [] H H' → Q (.ref D) H') :
    ∀ D, H1 D = none → ∃ W : Nat → Nat → Hp → Prop, (∃ m, W 0 m (upd H1 D (.lst []))) ∧ ∀ i m H, W i m H →
  (J.stop i H ∧ Q (.ref D) H) ∨ (J.go i H ∧ ∃ Nx : Hp → Prop, (∀ H', Nx H' → ∃ m', m' < m ∧ W (i + 1) m' H') ∧ ∀ x H', J.yld i H x H' → gName j x (wipe σ [j]) H' fun σ2 H2 => wipe σ2 [j] = wipe σ [j] ∧ tYes σ2 H2 fun b H3 =>
    if b = true then te σ2 H3 fun y H4 => ∃ acc, H4 D = some (.lst acc) ∧ acc.length < sizeLine ∧ Nx (upd H4 D (.lst (acc ++ [y]))) else Nx H3) := by
  intro Dl hD
  have hD0 := b1.free hD
  refine lc_it w (fun i H' => H' Dl = some (.lst ((List.range i).map f)) ∧ But [] H H') ⟨upd_same, b1.upd' hD⟩ (fun i H' _ p => hG H' p.2) ?_ (fun H' p => k Dl H' hD p.1 p.2)
  rintro i x H2 H3 hi ⟨p1, p2⟩ ⟨rfl, hx⟩
  refine ⟨?_, ?_⟩
  · show ((wipe σ [j]).set j (some x)).set j none = wipe σ [j]
    show ((σ.set j none).set j (some x)).set j none = σ.set j none
    rw [List.set_set, List.set_set]
  refine step i x _ hx p2 _ fun H4 b4 => ⟨_, b4.keep _ _ (by simp) p1, ?_, ?_, (p2.trans b4).upd (.inr hD0)⟩
  · rw [List.length_map, List.length_range]
    exact small1000 (by omega)
  · rw [upd_same, List.range_succ, List.map_append]
    rfl
theorem lc_seq {K : PySem.W.Frag} {i j : Nat} {te : TE} {σ : L2.St} {H : Hp} {p : Addr} {xs : List V} {Q : VK} (hσ : σ[i]? = some (some (.ref p))) (hq : SqV K H p xs) (f : Nat → V) (hl : xs.length ≤ 1000)
    (step : ∀ n y H2, xs[n]? = some y → But [] H H2 → ∀ Q' : VK, (∀ H3, But [] H2 H3 → Q' (f n) H3) → te ((wipe σ [j]).set j (some y)) H2 Q')
    (k : ∀ D H', H D = none → H' D = some (.lst ((List.range xs.length).map f)) → But [] H H' → Q (.ref D) H') : tLc (iSeq K (tVar i)) (gName j) tYes te [j] σ H Q :=
  rd_seq hσ hq fun _ _ w hG => lc_map w hG f hl But.refl step k
/-- target, .. = list or tuple -/
def gSeq (K : PySem.W.Frag) (n : Nat) (t : List V → L2.St → Hp → (L2.St → Hp → Prop) → Prop) : TG := fun v σ H Q => ∃ a xs, v = .ref a ∧ SqV K H a xs ∧ xs.length = n ∧ t xs σ H Q
theorem pg_seq {X : Cx} {es : List Expr} {k : Nat} {t : List V → L2.St → Hp → (L2.St → Hp → Prop) → Prop} {n : Nat} {pos : Pos} (h : PGs X es t) (hc : X.calm = true := by rfl)
    (hn : (assignEach es X.env).length = n := by rfl) (hst : (assignEach es X.env).findIdx? (·.1) = none := by rfl) : PG X (.Tuple es k pos) (gSeq X.K n t) := by
  refine ⟨fun pins s σ H v u Q I r hw => ?_⟩
  obtain ⟨a, xs, e1, hq, hl, hw⟩ := hw
  rcases hq with hq | hq
  · exact (pg_lst hc h hn hst).run pins s σ H v u Q I r ⟨a, xs, e1, hq, hl, hw⟩
  · exact (pg_tup hc h hn hst).run pins s σ H v u Q I r ⟨a, xs, e1, hq, hl, hw⟩
end Kb

set_option Elab.async false
set_option linter.all false
set_option maxRecDepth 100000
set_option maxHeartbeats 4000000
/-! Kb, 12: is_name .. is_rule over data. -/
namespace Kb
open PySem PySem.Spec PyProof.Rows L2

/-- a text that isn't too long -/
def fineS (x : Str) : Bool := decide (x.length ≤ 100000)
mutual
def D.fine : D → Bool
  | .str x => fineS x
  | .tup ds => decide (ds.length ≤ 1000) && fineL ds
  | .lst ds => decide (ds.length ≤ 1000) && fineL ds
  | .dct kds => decide (kds.length ≤ 1000) && fineP kds
  | .non => true
  | .bl _ => true
  | .int _ => true
def fineL : List D → Bool
  | [] => true
  | d :: ds => d.fine && fineL ds
def fineP : List (Str × D) → Bool
  | [] => true
  | (k, d) :: ds => fineS k && (d.fine && fineP ds)
end
theorem fineL_get : ∀ {ds : List D} {i : Nat} {d : D}, fineL ds = true → ds[i]? = some d → d.fine = true
  | [], i, d, _, e => by simp at e
  | a :: ds, 0, d, h, e => by
    simp at e
    subst e
    unfold fineL at h
    exact (Bool.and_eq_true_iff.mp h).1
  | a :: ds, i + 1, d, h, e => by
    unfold fineL at h
    exact fineL_get (i := i) (Bool.and_eq_true_iff.mp h).2 (by simpa using e)
theorem D.fine_items {d : D} (h : d.fine = true) : d.items.length ≤ 1000 ∧ fineL d.items = true := by
  cases d with
  | tup ds =>
    unfold D.fine at h
    obtain ⟨a, b⟩ := Bool.and_eq_true_iff.mp h
    exact ⟨of_decide_eq_true a, b⟩
  | lst ds =>
    unfold D.fine at h
    obtain ⟨a, b⟩ := Bool.and_eq_true_iff.mp h
    exact ⟨of_decide_eq_true a, b⟩
  | _ => exact ⟨Nat.zero_le _, rfl⟩
theorem fine_len {x : Str} (h : fineS x = true) : x.length ≤ sizeLine := Nat.le_trans (of_decide_eq_true h) (by decide)

/-! ### is_name -/
def azB (c : Nat) : Bool := decide (97 ≤ c) && decide (c ≤ 122)
def nameB (x : Str) : Bool := decide (1 ≤ (cs x).length) && (decide ((cs x).length ≤ 8) && (cs x).all azB)
theorem nameB_iff {x : Str} : nameB x = true ↔ IsName x := by
  refine ⟨fun h => isName_of h, fun h => ?_⟩
  unfold nameB
  rw [decide_eq_true h.lo, decide_eq_true h.hi, Bool.true_and, Bool.true_and]
  refine List.all_eq_true.mpr fun c hc => ?_
  unfold azB
  rw [decide_eq_true (h.az c hc).1, decide_eq_true (h.az c hc).2]
  rfl
def isNameD : D → Bool
  | .str x => nameB x
  | _ => false
/-- a test of one datum -/
def spT (f : D → Bool) : Sp := fun vs H Q _ => ∃ (d : D) (x : V), vs = [x] ∧ At [] H d x ∧ d.fine = true ∧ ∀ H', But [] H H' → Q (.bl (f d)) H'
theorem len_spT {f : D → Bool} {vs : List V} {H : Hp} {Q : VK} {E : XK} (h : spT f vs H Q E) : vs.length = 1 := by
  obtain ⟨d, x, rfl, _⟩ := h
  rfl
abbrev sp_is_name (K : PySem.W.Frag) : Sp := spT isNameD
theorem len_is_name {K : PySem.W.Frag} {vs : List V} {H : Hp} {Q : VK} {E : XK} (h : sp_is_name K vs H Q E) : vs.length = 1 := len_spT h
def t_is_name (K : PySem.W.Frag) : TS :=
  (tSeq (tIfS (tOr (tNot (tB (tCB (rIsi K) (tCons (tVar 0) (tCons (tC (.ty "str")) tNil))))) (tNot (tTest (tChain rLeI rLeI (tC (.int 1)) (tCB (rLenA K) (tCons (tVar 0) tNil)) (tC (.int 8))))))
    (tRet (tC (.bl false)))
    tNext)
  (tRet (tCB (rAll K) (tCons (tLc (iStr (tVar 0)) (gName 1) tYes (tOp (rInT false) (tVar 1) (tC (.str ("abcdefghijklmnopqrstuvwxyz" : Str)))) [1]) tNil))))
theorem len_cs {x : Str} : x.length = (cs x).length := by
  show x.cps.size = _
  rw [Array.length_toList]
theorem pure_is_name {K : PySem.W.Frag} (vs : List V) (H : Hp) (Q : VK) (E : XK) (h : sp_is_name K vs H Q E) : t_is_name K (fin Q) (st0 2 vs) H := by
  obtain ⟨d, x, rfl, hx, hf, k⟩ := h
  refine ⟨_, rfl, x, _, _, _, d.isStr, rfl, .ty _, hx.ty, kit_str, _, rfl, ?_⟩
  cases hs : d.isStr with
  | false =>
    refine iteT ?_
    have e : isNameD d = false := by cases d <;> first | rfl | cases hs
    show Q (.bl false) H
    rw [← e]
    exact k H But.refl
  | true =>
    refine iteF ?_
    obtain ⟨z, rfl⟩ : ∃ z, d = .str z := by cases d <;> first | exact ⟨_, rfl⟩ | cases hs
    obtain rfl : x = V.str z := hx
    have hz : fineS z = true := hf
    have hl := fine_len hz
    have no : nameB z = false → Q (.bl false) H := fun e => by
      have := k H But.refl
      rw [show isNameD (.str z) = false from e] at this
      exact this
    refine ⟨_, rfl, _, z.length, rfl, ⟨hl, rfl⟩, _, _, rfl, rfl, _, rfl, ?_⟩
    refine ite2 (fun h1 => ?_) (fun h1 => ?_)
    · refine ⟨_, _, rfl, rfl, _, rfl, ?_⟩
      refine ite2 (fun h2 => ?_) (fun h2 => ?_)
      · refine no ?_
        have h2 : ¬ ((z.length : Int) ≤ 8) := by simpa using h2
        unfold nameB
        rw [← len_cs, decide_eq_false (show ¬ z.length ≤ 8 by omega), Bool.false_and, Bool.and_false]
      · have h1 : (1 : Int) ≤ z.length := by simpa using h1
        have h2 : (z.length : Int) ≤ 8 := by simpa using h2
        refine ⟨_, rfl, z, rfl, fun Dl hD => ?_⟩
        refine lc_it walk_str (fun i H' => H' Dl = some (.lst (((cs z).take i).map fun c => V.bl (azB c))) ∧ But [] H H') ⟨upd_same, But.new hD⟩ (fun _ _ _ _ => trivial) ?_ ?_
        · rintro i v H1 H2 hi ⟨p1, p2⟩ ⟨rfl, c, hc, rfl⟩
          have hc' : (cs z)[i]? = some c := by rw [Array.getElem?_toList]; exact hc
          refine ⟨rfl, _, rfl, c, AZ, rfl, rfl, _, p1, ?_, ?_, p2.upd (.inr hD)⟩
          · rw [List.length_map, List.length_take]
            exact small1000 (by rw [← len_cs]; omega)
          · rw [upd_same, List.take_add_one, hc', List.map_append]
            have e : (if false = true then !decide (c ∈ AZ.cps.toList) else decide (c ∈ AZ.cps.toList)) = azB c := by
              rw [if_neg Bool.false_ne_true]
              unfold azB
              rw [← Bool.decide_and]
              exact decide_eq_decide.mpr az_mem
            rw [e]
            rfl
        · rintro H1 ⟨p1, p2⟩
          have hsz : z.cps.size = (cs z).length := (Array.length_toList ..).symm
          rw [hsz, List.take_length] at p1
          refine ⟨Dl, (cs z).map azB, rfl, SqL.of (by rw [List.map_map]; exact p1), ?_⟩
          have e : isNameD (.str z) = ((cs z).map azB).all id := by
            show nameB z = _
            unfold nameB
            rw [← len_cs, decide_eq_true (show 1 ≤ z.length by omega), decide_eq_true (show z.length ≤ 8 by omega), List.all_map]
            rfl
          rw [← e]
          exact k H1 p2
    · refine ⟨_, rfl, ?_⟩
      refine no ?_
      have h1 : ¬ ((1 : Int) ≤ z.length) := by simpa using h1
      unfold nameB
      rw [← len_cs, decide_eq_false (show ¬ 1 ≤ z.length by omega), Bool.false_and]

/-! ### is_name_or_empty, is_list -/
def neB (x : Str) : Bool := decide (x = "") || nameB x
def isNED : D → Bool
  | .str x => neB x
  | _ => false
theorem neB_iff {x : Str} : neB x = true ↔ IsNE x := by
  unfold neB IsNE
  rw [Bool.or_eq_true, decide_eq_true_iff, nameB_iff, or_comm]
abbrev sp_is_name_or_empty (K : PySem.W.Frag) : Sp := spT isNED
theorem len_is_name_or_empty {K : PySem.W.Frag} {vs : List V} {H : Hp} {Q : VK} {E : XK} (h : sp_is_name_or_empty K vs H Q E) : vs.length = 1 := len_spT h
def t_is_name_or_empty (K : PySem.W.Frag) : TS :=
  (tRet (tAndV (tCB (rIsi K) (tCons (tVar 0) (tCons (tC (.ty "str")) tNil))) (tOrV (tOp rEq (tVar 0) (tC (.str ("" : Str)))) (tCall (sp_is_name K) [] E0 (tCons (tVar 0) tNil)))))
theorem dec_str {x y : Str} : decide (V.str x = V.str y) = decide (x = y) := by
  by_cases h : x = y
  · rw [h, decide_eq_true rfl, decide_eq_true rfl]
  · rw [decide_eq_false h, decide_eq_false (fun z => h (V.str.inj z))]
theorem pure_is_name_or_empty {K : PySem.W.Frag} (vs : List V) (H : Hp) (Q : VK) (E : XK) (h : sp_is_name_or_empty K vs H Q E) : t_is_name_or_empty K (fin Q) (st0 1 vs) H := by
  obtain ⟨d, x, rfl, hx, hf, k⟩ := h
  refine ⟨_, rfl, x, _, _, _, d.isStr, rfl, .ty _, hx.ty, kit_str, _, rfl, ?_⟩
  cases hs : d.isStr with
  | false =>
    refine iteF ?_
    have e : isNED d = false := by cases d <;> first | rfl | cases hs
    show Q (.bl false) H
    rw [← e]
    exact k H But.refl
  | true =>
    refine iteT ?_
    obtain ⟨z, rfl⟩ : ∃ z, d = .str z := by cases d <;> first | exact ⟨_, rfl⟩ | cases hs
    obtain rfl : x = V.str z := hx
    refine ⟨_, rfl, rfl, _, rfl, ?_⟩
    rw [dec_str]
    refine ite2 (fun h1 => ?_) (fun h1 => ?_)
    · have e : isNED (.str z) = true := by
        show (decide (z = "") || nameB z) = true
        rw [h1]
        rfl
      show Q (.bl true) H
      rw [← e]
      exact k H But.refl
    · refine ⟨_, rfl, .str z, _, rfl, rfl, hf, fun H' b => ?_⟩
      have e : isNED (.str z) = isNameD (.str z) := by
        show (decide (z = "") || nameB z) = nameB z
        have : decide (z = "") = false := by simpa using h1
        rw [this, Bool.false_or]
      rw [← e]
      exact k H' b
abbrev sp_is_list (K : PySem.W.Frag) : Sp := spT D.isSeq
theorem len_is_list {K : PySem.W.Frag} {vs : List V} {H : Hp} {Q : VK} {E : XK} (h : sp_is_list K vs H Q E) : vs.length = 1 := len_spT h
def t_is_list (K : PySem.W.Frag) : TS :=
  (tRet (tCB (rIsiT K) (tCons (tVar 0) (tCons (tTup (tCons (tC (.ty "list")) (tCons (tC (.ty "tuple")) tNil))) tNil))))
theorem pure_is_list {K : PySem.W.Frag} (vs : List V) (H : Hp) (Q : VK) (E : XK) (h : sp_is_list K vs H Q E) : t_is_list K (fin Q) (st0 1 vs) H := by
  obtain ⟨d, x, rfl, hx, hf, k⟩ := h
  refine ⟨_, rfl, by show 2 ≤ sizeLine; decide, fun p hp => ?_⟩
  have b : But [] H (upd H p (.tup [.ty "list", .ty "tuple"])) := But.new hp
  exact ⟨x, p, _, _, _, d.isSeq, rfl, upd_same, .cons (.ty _) (.cons (.ty _) .nil), (hx.mono b).ty, kit_seq, k _ b⟩
def rIsBb : R2 := fun x y H Q => ∃ b : Bool, y = .bl b ∧ Q (.bl (decide (x = .bl b))) H
theorem op_isBb {X : Cx} : OpR X (compareOp .Is) rIsBb := by
  intro pins s σ H x y v u Q I rx ry h
  obtain ⟨b, rfl, q⟩ := h
  obtain rfl : u = Value.bool b := ry
  by_cases e : x = .bl b
  · subst e
    obtain rfl : v = Value.bool b := rx
    rw [decide_eq_true rfl] at q
    exact wpAny_is_self rfl ⟨.bl true, H, I, rfl, q⟩
  · rw [decide_eq_false e] at q
    have ne : v ≠ Value.bool b := fun z => e (by
      subst z
      cases x with
      | bl c =>
        have : Value.bool b = Value.bool c := rx
        rw [Value.bool.inj this]
      | non => cases rx
      | ref a => cases rx
      | ty n => cases rx
      | int i => obtain ⟨t, z⟩ := rx; cases z
      | str i => obtain ⟨t, z⟩ := rx; cases z
      | byt i => obtain ⟨t, z⟩ := rx; cases z
      | flt i => obtain ⟨t, z⟩ := rx; cases z)
    refine wpAny_is_other ?_ ne ⟨.bl false, H, I, rfl, q⟩
    cases x with
    | bl c => cases rx; rfl
    | non => cases rx; rfl
    | ref a => cases rx; rfl
    | ty n => cases rx; rfl
    | int i => obtain ⟨t, rfl⟩ := rx; rfl
    | str i => obtain ⟨t, rfl⟩ := rx; rfl
    | byt i => obtain ⟨t, rfl⟩ := rx; rfl
    | flt i => obtain ⟨t, rfl⟩ := rx; rfl
def isFlagD : D → Bool
  | .bl _ => true
  | _ => false
abbrev sp_is_flag (K : PySem.W.Frag) : Sp := spT isFlagD
theorem len_is_flag {K : PySem.W.Frag} {vs : List V} {H : Hp} {Q : VK} {E : XK} (h : sp_is_flag K vs H Q E) : vs.length = 1 := len_spT h
def t_is_flag (K : PySem.W.Frag) : TS :=
  (tRet (tOrV (tOp rIsBb (tVar 0) (tC (.bl true))) (tOp rIsBb (tVar 0) (tC (.bl false)))))
theorem pure_is_flag {K : PySem.W.Frag} (vs : List V) (H : Hp) (Q : VK) (E : XK) (h : sp_is_flag K vs H Q E) : t_is_flag K (fin Q) (st0 1 vs) H := by
  obtain ⟨d, x, rfl, hx, hf, k⟩ := h
  refine ⟨_, rfl, true, rfl, _, rfl, ?_⟩
  have go : ∀ b, isFlagD d = b → Q (.bl b) H := fun b e => by
    rw [← e]
    exact k H But.refl
  refine ite2 (fun h1 => go true ?_) (fun h1 => ⟨_, rfl, false, rfl, go _ ?_⟩)
  · have e : x = .bl true := by simpa using h1
    subst e
    cases d with
    | bl b => rfl
    | _ => first | (obtain ⟨_, _, z, _⟩ := hx; cases z) | cases hx
  · have e : x ≠ .bl true := by simpa using h1
    cases d with
    | bl b =>
      obtain rfl : x = V.bl b := hx
      cases b with
      | true => exact absurd rfl e
      | false => rfl
    | non => obtain rfl : x = .non := hx; rfl
    | int i => obtain rfl : x = .int i := hx; rfl
    | str i => obtain rfl : x = .str i := hx; rfl
    | tup ds => obtain ⟨_, _, rfl, _⟩ := hx; rfl
    | lst ds => obtain ⟨_, _, rfl, _⟩ := hx; rfl
    | dct ds => obtain ⟨_, _, rfl, _⟩ := hx; rfl

/-! ### is_choice_list, is_name_list -/
def strsOf : List D → List Str
  | [] => []
  | .str x :: ds => x :: strsOf ds
  | _ :: ds => strsOf ds
def isChoiceD (d : D) : Bool := d.isSeq && (decide (1 ≤ d.items.length) && (decide (d.items.length ≤ 4) && (d.items.all isNED && decide (strsOf d.items).Nodup)))
def isNamesD (d : D) : Bool := d.isSeq && (decide (d.items.length ≤ 4) && (d.items.all isNameD && decide (strsOf d.items).Nodup))
theorem strs_at {M : List Addr} {H : Hp} : ∀ {ds : List D} {xs : List V}, AtL M H ds xs → ds.all D.isStr = true → xs = (strsOf ds).map V.str ∧ (strsOf ds).length = ds.length
  | [], _, h, _ => by
    cases h
    exact ⟨rfl, rfl⟩
  | d :: ds, _, h, hs => by
    obtain ⟨x, r, e, h1, h2⟩ := h
    rw [List.all_cons] at hs
    obtain ⟨a, b⟩ := Bool.and_eq_true_iff.mp hs
    obtain ⟨e1, e2⟩ := strs_at h2 b
    cases d with
    | str z =>
      obtain rfl : x = V.str z := h1
      subst e
      refine ⟨?_, ?_⟩
      · rw [e1]
        rfl
      · show (strsOf ds).length + 1 = ds.length + 1
        rw [e2]
    | _ => cases a
theorem ne_isStr {d : D} (h : isNED d = true) : d.isStr = true := by cases d <;> first | rfl | cases h
theorem name_isStr {d : D} (h : isNameD d = true) : d.isStr = true := by cases d <;> first | rfl | cases h
theorem all_mono {α : Type} {f g : α → Bool} {l : List α} (h : l.all f = true) (i : ∀ x, f x = true → g x = true) : l.all g = true := List.all_eq_true.mpr fun x m => i x (List.all_eq_true.mp h x m)
theorem map_range {ds : List D} {f : D → Bool} : (List.range ds.length).map (fun n => V.bl (f (ds.getD n .non))) = (ds.map f).map V.bl := by
  refine List.ext_getElem? fun n => ?_
  rw [List.getElem?_map, List.getElem?_map, List.getElem?_map]
  by_cases h : n < ds.length
  · rw [List.getElem?_range h, List.getElem?_eq_getElem h]
    show some (V.bl (f (ds.getD n D.non))) = some (V.bl (f ds[n]))
    rw [List.getD_eq_getElem?_getD, List.getElem?_eq_getElem h]
    rfl
  · rw [List.getElem?_eq_none (by simpa using h), List.getElem?_eq_none (by simpa using h)]
    rfl
/-- all([f(y) for y in x]) and len(set(x)) == len(x), behind the look at its length -/
theorem all_uni {K : PySem.W.Frag} {sp : Sp} {f : D → Bool} (hsp : sp = spT f) (hfs : ∀ d, f d = true → d.isStr = true) {d : D} {x : V} {H : Hp} {Q : VK} (hx : At [] H d x) (hf : d.fine = true) (hseq : d.isSeq = true)
    (k : ∀ H', But [] H H' → Q (.bl (d.items.all f && decide (strsOf d.items).Nodup)) H') :
    (tAndV (tCB (rAll K) (tCons (tLc (iSeq K (tVar 0)) (gName 1) tYes (tCall sp [] E0 (tCons (tVar 1) tNil)) [1]) tNil)) (tOp rEq (tLenUni K (tVar 0)) (tCB (rLenA K) (tCons (tVar 0) tNil)))) [some x, none] H Q := by
  subst hsp
  obtain ⟨p, xs, rfl, hq, hl⟩ := hx.seq (K := K) hseq
  obtain ⟨f1, f2⟩ := D.fine_items hf
  have hlen := hl.length
  unfold tAndV tCB tCons
  refine lc_seq (p := p) (xs := xs) rfl hq (fun n => V.bl (f (d.items.getD n .non))) (by omega) ?_ ?_
  · intro n y H2 hy b2 Q' q
    obtain ⟨dy, hdy, hay⟩ := hl.get hy
    refine ⟨_, rfl, dy, y, rfl, hay.mono b2, fineL_get f2 hdy, fun H3 b3 => ?_⟩
    have e : d.items.getD n .non = dy := by rw [List.getD_eq_getElem?_getD, hdy]; rfl
    have := q H3 b3
    rw [e] at this
    exact this
  · intro Dl H2 hD hD2 b2
    rw [hlen, map_range] at hD2
    refine ⟨Dl, d.items.map f, rfl, SqL.of hD2, _, rfl, ?_⟩
    rw [List.all_map]
    show (if (d.items.all f) = true then _ else _)
    refine ite2 (fun ha => ?_) (fun ha => ?_)
    · obtain ⟨e1, e2⟩ := strs_at hl (all_mono ha hfs)
      rw [e1] at hq
      have hq2 := hq.but b2
      refine ⟨_, rfl, p, strsOf d.items, rfl, hq2, by omega, _, rfl, _, ((strsOf d.items).map V.str).length, rfl, hq2.lenV, rfl, ?_⟩
      have := k H2 b2
      rw [ha, Bool.true_and] at this
      rw [dec_int, List.length_map]
      have e3 : decide (((uni (strsOf d.items)).length : Int) = ((strsOf d.items).length : Int)) = decide (strsOf d.items).Nodup := decide_eq_decide.mpr (by
        rw [← uni_nd]
        omega)
      rw [e3]
      exact this
    · have := k H2 b2
      rw [show d.items.all f = false by simpa using ha, Bool.false_and] at this
      exact this
abbrev sp_is_choice_list (K : PySem.W.Frag) : Sp := spT isChoiceD
theorem len_is_choice_list {K : PySem.W.Frag} {vs : List V} {H : Hp} {Q : VK} {E : XK} (h : sp_is_choice_list K vs H Q E) : vs.length = 1 := len_spT h
def t_is_choice_list (K : PySem.W.Frag) : TS :=
  (tSeq (tIfS (tOr (tNot (tB (tCall (sp_is_list K) [] E0 (tCons (tVar 0) tNil)))) (tNot (tTest (tChain rLeI rLeI (tC (.int 1)) (tCB (rLenA K) (tCons (tVar 0) tNil)) (tC (.int 4))))))
    (tRet (tC (.bl false)))
    tNext)
  (tRet (tAndV (tCB (rAll K) (tCons (tLc (iSeq K (tVar 0)) (gName 1) tYes (tCall (sp_is_name_or_empty K) [] E0 (tCons (tVar 1) tNil)) [1]) tNil)) (tOp rEq (tLenUni K (tVar 0)) (tCB (rLenA K) (tCons (tVar 0) tNil))))))
theorem pure_is_choice_list {K : PySem.W.Frag} (vs : List V) (H : Hp) (Q : VK) (E : XK) (h : sp_is_choice_list K vs H Q E) : t_is_choice_list K (fin Q) (st0 2 vs) H := by
  obtain ⟨d, x, rfl, hx, hf, k⟩ := h
  have no : isChoiceD d = false → ∀ H', But [] H H' → Q (.bl false) H' := fun e H' b => by
    have := k H' b
    rw [e] at this
    exact this
  refine ⟨_, rfl, d, x, rfl, hx, hf, fun H1 b1 => ⟨_, rfl, ?_⟩⟩
  cases hs : d.isSeq with
  | false => exact iteT (no (by unfold isChoiceD; rw [hs]; rfl) H1 b1)
  | true =>
    refine iteF ?_
    obtain ⟨p, xs, rfl, hq, hl⟩ := (hx.mono b1).seq (K := K) hs
    have hlen := hl.length
    refine ⟨_, rfl, _, xs.length, rfl, hq.lenV, _, _, rfl, rfl, _, rfl, ?_⟩
    refine ite2 (fun h1 => ?_) (fun h1 => ?_)
    · have h1 : (1 : Int) ≤ xs.length := by simpa using h1
      refine ⟨_, _, rfl, rfl, _, rfl, ?_⟩
      refine ite2 (fun h2 => ?_) (fun h2 => ?_)
      · have h2 : ¬ ((xs.length : Int) ≤ 4) := by simpa using h2
        refine no ?_ H1 b1
        unfold isChoiceD
        rw [decide_eq_false (show ¬ d.items.length ≤ 4 by omega), Bool.false_and, Bool.and_false, Bool.and_false]
      · have h2 : (xs.length : Int) ≤ 4 := by simpa using h2
        refine all_uni rfl (fun _ => ne_isStr) (hx.mono b1) hf hs fun H2 b2 => ?_
        have := k H2 (b1.trans b2)
        unfold isChoiceD at this
        rw [hs, decide_eq_true (show 1 ≤ d.items.length by omega), decide_eq_true (show d.items.length ≤ 4 by omega), Bool.true_and, Bool.true_and, Bool.true_and] at this
        exact this
    · have h1 : ¬ ((1 : Int) ≤ xs.length) := by simpa using h1
      refine ⟨_, rfl, no ?_ H1 b1⟩
      unfold isChoiceD
      rw [decide_eq_false (show ¬ 1 ≤ d.items.length by omega), Bool.false_and, Bool.and_false]
abbrev sp_is_name_list (K : PySem.W.Frag) : Sp := spT isNamesD
theorem len_is_name_list {K : PySem.W.Frag} {vs : List V} {H : Hp} {Q : VK} {E : XK} (h : sp_is_name_list K vs H Q E) : vs.length = 1 := len_spT h
def t_is_name_list (K : PySem.W.Frag) : TS :=
  (tSeq (tIfS (tOr (tNot (tB (tCall (sp_is_list K) [] E0 (tCons (tVar 0) tNil)))) (tTest (tOp rGtI (tCB (rLenA K) (tCons (tVar 0) tNil)) (tC (.int 4)))))
    (tRet (tC (.bl false)))
    tNext)
  (tRet (tAndV (tCB (rAll K) (tCons (tLc (iSeq K (tVar 0)) (gName 1) tYes (tCall (sp_is_name K) [] E0 (tCons (tVar 1) tNil)) [1]) tNil)) (tOp rEq (tLenUni K (tVar 0)) (tCB (rLenA K) (tCons (tVar 0) tNil))))))
theorem pure_is_name_list {K : PySem.W.Frag} (vs : List V) (H : Hp) (Q : VK) (E : XK) (h : sp_is_name_list K vs H Q E) : t_is_name_list K (fin Q) (st0 2 vs) H := by
  obtain ⟨d, x, rfl, hx, hf, k⟩ := h
  have no : isNamesD d = false → ∀ H', But [] H H' → Q (.bl false) H' := fun e H' b => by
    have := k H' b
    rw [e] at this
    exact this
  refine ⟨_, rfl, d, x, rfl, hx, hf, fun H1 b1 => ⟨_, rfl, ?_⟩⟩
  cases hs : d.isSeq with
  | false => exact iteT (no (by unfold isNamesD; rw [hs]; rfl) H1 b1)
  | true =>
    refine iteF ?_
    obtain ⟨p, xs, rfl, hq, hl⟩ := (hx.mono b1).seq (K := K) hs
    have hlen := hl.length
    refine ⟨_, rfl, _, xs.length, rfl, hq.lenV, _, _, rfl, rfl, _, rfl, ?_⟩
    refine ite2 (fun h2 => ?_) (fun h2 => ?_)
    · have h2 : (4 : Int) < xs.length := by simpa using h2
      refine no ?_ H1 b1
      unfold isNamesD
      rw [decide_eq_false (show ¬ d.items.length ≤ 4 by omega), Bool.false_and, Bool.and_false]
    · have h2 : ¬ ((4 : Int) < xs.length) := by simpa using h2
      refine all_uni rfl (fun _ => name_isStr) (hx.mono b1) hf hs fun H2 b2 => ?_
      have := k H2 (b1.trans b2)
      unfold isNamesD at this
      rw [hs, decide_eq_true (show d.items.length ≤ 4 by omega), Bool.true_and, Bool.true_and] at this
      exact this
end Kb

set_option Elab.async false
set_option linter.all false
set_option maxRecDepth 100000
set_option maxHeartbeats 4000000
/-! Kb, 13: is_link .. is_rule over data. -/
namespace Kb
open PySem PySem.Spec PyProof.Rows L2

/-- a test of a datum and a dict -/
def spT2 (f : D → List (Str × D) → Bool) : Sp := fun vs H Q _ => ∃ (d : D) (kds : List (Str × D)) (x y : V), vs = [x, y] ∧ At [] H d x ∧ At [] H (.dct kds) y ∧ d.fine = true ∧ ∀ H', But [] H H' → Q (.bl (f d kds)) H'
theorem len_spT2 {f : D → List (Str × D) → Bool} {vs : List V} {H : Hp} {Q : VK} {E : XK} (h : spT2 f vs H Q E) : vs.length = 2 := by
  obtain ⟨d, k, x, y, rfl, _⟩ := h
  rfl
abbrev keysD (kds : List (Str × D)) : List Str := kds.map (·.1)
/-! ### is_link -/
def isLinkD : D → List (Str × D) → Bool
  | .str z, kds => decide (z ∈ keysD kds)
  | _, _ => false
abbrev sp_is_link (K : PySem.W.Frag) : Sp := spT2 isLinkD
theorem len_is_link {K : PySem.W.Frag} {vs : List V} {H : Hp} {Q : VK} {E : XK} (h : sp_is_link K vs H Q E) : vs.length = 2 := len_spT2 h
def t_is_link (K : PySem.W.Frag) : TS :=
  (tRet (tAndV (tCB (rIsi K) (tCons (tVar 0) (tCons (tC (.ty "str")) tNil))) (tDIn (tVar 0) (tVar 1))))
theorem valV_some {kds : List (Str × D)} {kvs : List (Key × V)} {z : Str} (h : kvs.map (·.1) = kds.map fun p => (Sum.inr p.1 : Key)) : (valV kvs (Sum.inr z : Key)).isSome = decide (z ∈ keysD kds) := by
  by_cases m : z ∈ keysD kds
  · rw [decide_eq_true m]
    cases e : valV kvs (Sum.inr z : Key) with
    | some v => rfl
    | none =>
      obtain ⟨p, hp, ez⟩ := List.mem_map.mp m
      have : (Sum.inr z : Key) ∈ kvs.map (·.1) := by
        rw [h]
        exact List.mem_map.mpr ⟨p, hp, by rw [ez]⟩
      exact absurd this (valV_not e)
  · rw [decide_eq_false m, valV_none (keys_inr h m)]
    rfl
theorem pure_is_link {K : PySem.W.Frag} (vs : List V) (H : Hp) (Q : VK) (E : XK) (h : sp_is_link K vs H Q E) : t_is_link K (fin Q) (st0 2 vs) H := by
  obtain ⟨d, kds, x, y, rfl, hx, ⟨p, kvs, rfl, _, hp, hk⟩, hf, k⟩ := h
  refine ⟨_, rfl, x, _, _, _, d.isStr, rfl, .ty _, hx.ty, kit_str, _, rfl, ?_⟩
  cases hs : d.isStr with
  | false =>
    refine iteF ?_
    have e : isLinkD d kds = false := by cases d <;> first | rfl | cases hs
    show Q (.bl false) H
    rw [← e]
    exact k H But.refl
  | true =>
    refine iteT ?_
    obtain ⟨z, rfl⟩ : ∃ z, d = .str z := by cases d <;> first | exact ⟨_, rfl⟩ | cases hs
    obtain rfl : x = V.str z := hx
    refine ⟨_, rfl, _, rfl, p, _, rfl, DGet.k (k := Sum.inr z) hp, ?_⟩
    rw [valV_some hk.keys]
    exact k H But.refl
/-! ### is_manner -/
def isMannerD : D → Bool
  | .str z => decide (z = "try") || decide (z = "last")
  | _ => false
abbrev sp_is_manner (K : PySem.W.Frag) : Sp := spT isMannerD
theorem len_is_manner {K : PySem.W.Frag} {vs : List V} {H : Hp} {Q : VK} {E : XK} (h : sp_is_manner K vs H Q E) : vs.length = 1 := len_spT h
def t_is_manner (K : PySem.W.Frag) : TS :=
  (tRet (tAndV (tCB (rIsi K) (tCons (tVar 0) (tCons (tC (.ty "str")) tNil))) (tOp (rIn K false) (tVar 0) (tTup (tCons (tC (.str ("try" : Str))) (tCons (tC (.str ("last" : Str))) tNil))))))
theorem pure_is_manner {K : PySem.W.Frag} (vs : List V) (H : Hp) (Q : VK) (E : XK) (h : sp_is_manner K vs H Q E) : t_is_manner K (fin Q) (st0 1 vs) H := by
  obtain ⟨d, x, rfl, hx, hf, k⟩ := h
  refine ⟨_, rfl, x, _, _, _, d.isStr, rfl, .ty _, hx.ty, kit_str, _, rfl, ?_⟩
  cases hs : d.isStr with
  | false =>
    refine iteF ?_
    have e : isMannerD d = false := by cases d <;> first | rfl | cases hs
    show Q (.bl false) H
    rw [← e]
    exact k H But.refl
  | true =>
    refine iteT ?_
    obtain ⟨z, rfl⟩ : ∃ z, d = .str z := by cases d <;> first | exact ⟨_, rfl⟩ | cases hs
    obtain rfl : x = V.str z := hx
    refine ⟨_, rfl, by show 2 ≤ sizeLine; decide, fun p hp => ⟨p, [("try" : Str), ("last" : Str)].map V.str, rfl, .inr (SqT.of upd_same), rfl, flat_strs, ?_⟩⟩
    have e : (if false = true then !inV (V.str z) ([("try" : Str), ("last" : Str)].map V.str) else inV (V.str z) ([("try" : Str), ("last" : Str)].map V.str)) = isMannerD (.str z) := by
      rw [if_neg Bool.false_ne_true, inV_strs]
      show decide (z ∈ [("try" : Str), ("last" : Str)]) = (decide (z = "try") || decide (z = "last"))
      rw [← Bool.decide_or]
      refine decide_eq_decide.mpr ?_
      rw [List.mem_cons, List.mem_singleton]
    rw [e]
    exact k _ (But.new hp)

/-! ### is_own_answer -/
def isOwnD (d : D) (kds : List (Str × D)) : Bool := match d.items with
  | [.str f] => d.isSeq && decide (f = "self")
  | [.str f, y] => d.isSeq && (!decide (f = "self") && (if f = "value" then isNameD y else decide (f = "link") && isLinkD y kds))
  | _ => false
abbrev sp_is_own_answer (K : PySem.W.Frag) : Sp := spT2 isOwnD
theorem len_is_own_answer {K : PySem.W.Frag} {vs : List V} {H : Hp} {Q : VK} {E : XK} (h : sp_is_own_answer K vs H Q E) : vs.length = 2 := len_spT2 h
def t_is_own_answer (K : PySem.W.Frag) : TS :=
  (tSeq (tIfS (tOr (tNot (tB (tCall (sp_is_list K) [] E0 (tCons (tVar 0) tNil)))) (tOr (tTest (tOp rEq (tCB (rLenA K) (tCons (tVar 0) tNil)) (tC (.int 0)))) (tNot (tB (tCB (rIsi K) (tCons (tOp (rIx K) (tVar 0) (tC (.int 0))) (tCons (tC (.ty "str")) tNil)))))))
    (tRet (tC (.bl false)))
    tNext)
  (tSeq (tAsg (tOp (rIx K) (tVar 0) (tC (.int 0))) (gName 2))
  (tSeq (tIfS (tTest (tOp rEq (tVar 2) (tC (.str ("self" : Str)))))
    (tRet (tOp rEq (tCB (rLenA K) (tCons (tVar 0) tNil)) (tC (.int 1))))
    tNext)
  (tSeq (tIfS (tTest (tOp rNe (tCB (rLenA K) (tCons (tVar 0) tNil)) (tC (.int 2))))
    (tRet (tC (.bl false)))
    tNext)
  (tSeq (tIfS (tTest (tOp rEq (tVar 2) (tC (.str ("value" : Str)))))
    (tRet (tCall (sp_is_name K) [] E0 (tCons (tOp (rIx K) (tVar 0) (tC (.int 1))) tNil)))
    tNext)
  (tRet (tAndV (tOp rEq (tVar 2) (tC (.str ("link" : Str)))) (tCall (sp_is_link K) [] E0 (tCons (tOp (rIx K) (tVar 0) (tC (.int 1))) (tCons (tVar 1) tNil))))))))))
/-- x[i] of a list or a tuple, as the reading has it -/
theorem SqV.ixR {K : PySem.W.Frag} {H : Hp} {p : Addr} {xs : List V} {i : Nat} {z : Int} {v : V} {Q : VK} (h : SqV K H p xs) (e : xs[i]? = some v) (ez : z = (i : Int)) (q : Q v H) :
    rIxL K (.ref p) (.int z) H Q ∨ rIxT K (.ref p) (.int z) H Q ∨ rIxS (.ref p) (.int z) H Q := h.ix e ez q
theorem AtL.cons_inv {M : List Addr} {H : Hp} {d : D} {ds : List D} {xs : List V} (h : AtL M H (d :: ds) xs) : ∃ x r, xs = x :: r ∧ At M H d x ∧ AtL M H ds r := h
theorem pure_is_own_answer {K : PySem.W.Frag} (vs : List V) (H : Hp) (Q : VK) (E : XK) (h : sp_is_own_answer K vs H Q E) : t_is_own_answer K (fin Q) (st0 3 vs) H := by
  obtain ⟨d, kds, x, y, rfl, hx, hy, hf, k⟩ := h
  have no : isOwnD d kds = false → ∀ H', But [] H H' → Q (.bl false) H' := fun e H' b => by
    have := k H' b
    rw [e] at this
    exact this
  refine ⟨_, rfl, d, x, rfl, hx, hf, fun H1 b1 => ⟨_, rfl, ?_⟩⟩
  cases hs : d.isSeq with
  | false =>
    refine iteT (no ?_ H1 b1)
    have : d.items = [] := by cases d <;> first | rfl | cases hs
    unfold isOwnD
    rw [this]
  | true =>
    refine iteF ?_
    obtain ⟨p, xs, rfl, hq, hl⟩ := (hx.mono b1).seq (K := K) hs
    obtain ⟨f1, f2⟩ := D.fine_items hf
    have hlen := hl.length
    refine ⟨_, rfl, _, xs.length, rfl, hq.lenV, rfl, _, rfl, ?_⟩
    rw [dec_int]
    cases hit : d.items with
    | nil =>
      rw [hit] at hlen
      refine ite2 (fun _ => no (by unfold isOwnD; rw [hit]) H1 b1) fun hn => absurd hlen (by
        intro z
        exact hn (by rw [z]; rfl))
    | cons d0 ds =>
      rw [hit] at hl hlen f2
      obtain ⟨x0, r0, rfl, h0, hr⟩ := hl.cons_inv
      refine ite2 (fun hz => absurd hz (by simp; omega)) fun _ => ?_
      refine ⟨_, rfl, hq.ixR (i := 0) rfl rfl ⟨x0, _, _, _, d0.isStr, rfl, .ty _, h0.ty, kit_str, _, rfl, ?_⟩⟩
      cases hs0 : d0.isStr with
      | false =>
        refine iteT (no ?_ H1 b1)
        unfold isOwnD
        rw [hit]
        cases d0 <;> first | rfl | (cases hs0)
      | true =>
        refine iteF ?_
        obtain ⟨f, rfl⟩ : ∃ f, d0 = .str f := by cases d0 <;> first | exact ⟨_, rfl⟩ | cases hs0
        obtain rfl : x0 = V.str f := h0
        refine ⟨_, rfl, hq.ixR (i := 0) rfl rfl ?_⟩
        refine ⟨_, rfl, rfl, _, rfl, ?_⟩
        rw [dec_str]
        refine ite2 (fun hself => ?_) (fun hself => ?_)
        · refine ⟨_, rfl, _, _, rfl, hq.lenV, rfl, ?_⟩
          rw [dec_int]
          have hself : f = "self" := by simpa using hself
          have e : isOwnD d kds = decide (((V.str f :: r0).length : Int) = 1) := by
            unfold isOwnD
            rw [hit]
            cases ds with
            | nil =>
              obtain rfl : r0 = [] := hr
              show (d.isSeq && decide (f = "self")) = true
              rw [hs, decide_eq_true hself]
              rfl
            | cons d1 ds1 =>
              obtain ⟨x1, r1, rfl, _, _⟩ := hr.cons_inv
              have : decide (((V.str f :: x1 :: r1).length : Int) = 1) = false := by
                simp
                omega
              rw [this]
              cases ds1 with
              | nil =>
                show (d.isSeq && (!decide (f = "self") && _)) = false
                rw [decide_eq_true hself, Bool.not_true, Bool.false_and, Bool.and_false]
              | cons _ _ => rfl
          have := k H1 b1
          rw [e] at this
          exact this
        · have hself : f ≠ "self" := by simpa using hself
          refine ⟨_, rfl, _, _, rfl, hq.lenV, rfl, _, rfl, ?_⟩
          rw [dec_int]
          cases ds with
          | nil =>
            obtain rfl : r0 = [] := hr
            refine iteT (no ?_ H1 b1)
            unfold isOwnD
            rw [hit]
            show (d.isSeq && decide (f = "self")) = false
            rw [decide_eq_false hself, Bool.and_false]
          | cons d1 ds1 =>
            obtain ⟨x1, r1, rfl, h1, hr1⟩ := hr.cons_inv
            cases ds1 with
            | cons d2 ds2 =>
              obtain ⟨x2, r2, rfl, _, _⟩ := hr1.cons_inv
              refine ite2 (fun _ => no (by unfold isOwnD; rw [hit]) H1 b1) fun hz => absurd hz (by simp; omega)
            | nil =>
              obtain rfl : r1 = [] := hr1
              refine iteF ?_
              have ev : isOwnD d kds = (if f = "value" then isNameD d1 else decide (f = "link") && isLinkD d1 kds) := by
                unfold isOwnD
                rw [hit]
                show (d.isSeq && (!decide (f = "self") && _)) = _
                rw [hs, decide_eq_false hself]
                rfl
              have fd1 : d1.fine = true := fineL_get (i := 1) f2 rfl
              refine ⟨_, rfl, rfl, _, rfl, ?_⟩
              rw [dec_str]
              refine ite2 (fun hv => ?_) (fun hv => ?_)
              · have hv : f = "value" := by simpa using hv
                refine ⟨_, rfl, hq.ixR (i := 1) rfl rfl ⟨d1, x1, rfl, h1, fd1, fun H2 b2 => ?_⟩⟩
                have := k H2 (b1.trans b2)
                rw [ev, if_pos hv] at this
                exact this
              · have hv : f ≠ "value" := by simpa using hv
                refine ⟨_, rfl, rfl, _, rfl, ?_⟩
                rw [dec_str]
                refine ite2 (fun hk => ?_) (fun hk => ?_)
                · refine ⟨_, rfl, hq.ixR (i := 1) rfl rfl ⟨_, rfl, d1, kds, x1, y, rfl, h1, hy.mono b1, fd1, fun H2 b2 => ?_⟩⟩
                  have := k H2 (b1.trans b2)
                  rw [ev, if_neg hv, hk, Bool.true_and] at this
                  exact this
                · have := k H1 b1
                  rw [ev, if_neg hv, show decide (f = "link") = false by simpa using hk, Bool.false_and] at this
                  exact this

/-! ### is_send, is_rule -/
def isSendD (ds : List D) (kds : List (Str × D)) : Bool := match ds with
  | [l, u, m, w] => isLinkD l kds && (isNED u && (isMannerD m && isFlagD w))
  | _ => false
/-- rest, a list or a tuple; links -/
def sp_is_send (K : PySem.W.Frag) : Sp := fun vs H Q _ => ∃ (ds : List D) (kds : List (Str × D)) (p : Addr) (xs : List V) (y : V), vs = [.ref p, y] ∧ SqV K H p xs ∧ AtL [] H ds xs ∧ At [] H (.dct kds) y ∧ fineL ds = true ∧
  ∀ H', But [] H H' → Q (.bl (isSendD ds kds)) H'
theorem len_is_send {K : PySem.W.Frag} {vs : List V} {H : Hp} {Q : VK} {E : XK} (h : sp_is_send K vs H Q E) : vs.length = 2 := by
  obtain ⟨_, _, _, _, _, rfl, _⟩ := h
  rfl
def t_is_send (K : PySem.W.Frag) : TS :=
  (tSeq (tIfS (tTest (tOp rNe (tCB (rLenA K) (tCons (tVar 0) tNil)) (tC (.int 4))))
    (tRet (tC (.bl false)))
    tNext)
  (tSeq (tAsg (tVar 0) (gSeq K 4 (gCons (gName 2) (gCons (gName 3) (gCons (gName 4) (gCons (gName 5) gNil))))))
  (tRet (tAndV (tCall (sp_is_link K) [] E0 (tCons (tVar 2) (tCons (tVar 1) tNil))) (tAndV (tCall (sp_is_name_or_empty K) [] E0 (tCons (tVar 3) tNil)) (tAndV (tCall (sp_is_manner K) [] E0 (tCons (tVar 4) tNil)) (tCall (sp_is_flag K) [] E0 (tCons (tVar 5) tNil))))))))
theorem pure_is_send {K : PySem.W.Frag} (vs : List V) (H : Hp) (Q : VK) (E : XK) (h : sp_is_send K vs H Q E) : t_is_send K (fin Q) (st0 6 vs) H := by
  obtain ⟨ds, kds, p, xs, y, rfl, hq, hl, hy, hf, k⟩ := h
  have hlen := hl.length
  refine ⟨_, rfl, _, _, rfl, hq.lenV, rfl, _, rfl, ?_⟩
  rw [dec_int]
  refine ite2 (fun hn => ?_) (fun hn => ?_)
  · have hn : ¬ ((xs.length : Int) = 4) := by simpa using hn
    have e : isSendD ds kds = false := by
      match ds, hlen with
      | [_, _, _, _], hlen =>
        rw [hlen] at hn
        exact absurd rfl hn
      | [], _ => rfl
      | [_], _ => rfl
      | [_, _], _ => rfl
      | [_, _, _], _ => rfl
      | _ :: _ :: _ :: _ :: _ :: _, _ => rfl
    show Q (.bl false) H
    rw [← e]
    exact k H But.refl
  · have hn : (xs.length : Int) = 4 := by simpa using hn
    match ds, hl, hlen, hf, k with
    | [d1, d2, d3, d4], hl, _, hf, k =>
      obtain ⟨x1, _, rfl, h1, x2, _, rfl, h2, x3, _, rfl, h3, x4, _, rfl, h4, rfl⟩ := hl
      refine ⟨_, rfl, p, _, rfl, hq, rfl, _, _, rfl, _, _, rfl, _, _, rfl, _, _, rfl, rfl, ?_⟩
      have f1 := fineL_get (i := 0) hf rfl
      have f2 := fineL_get (i := 1) hf rfl
      have f3 := fineL_get (i := 2) hf rfl
      have f4 := fineL_get (i := 3) hf rfl
      have fin_ : ∀ b H', But [] H H' → isSendD [d1, d2, d3, d4] kds = b → Q (.bl b) H' := fun b H' bb e => by
        rw [← e]
        exact k H' bb
      refine ⟨_, rfl, _, rfl, d1, kds, x1, y, rfl, h1, hy, f1, fun Ha ba => ⟨_, rfl, ?_⟩⟩
      refine ite2 (fun e1 => ?_) (fun e1 => fin_ false Ha ba (by show (isLinkD d1 kds && (isNED d2 && (isMannerD d3 && isFlagD d4))) = _; rw [show isLinkD d1 kds = false by simpa using e1]; rfl))
      refine ⟨_, rfl, d2, x2, rfl, h2.mono ba, f2, fun Hb bb => ⟨_, rfl, ?_⟩⟩
      have bb := ba.trans bb
      refine ite2 (fun e2 => ?_) (fun e2 => fin_ false Hb bb (by show (isLinkD d1 kds && (isNED d2 && (isMannerD d3 && isFlagD d4))) = _; rw [e1, show isNED d2 = false by simpa using e2]; rfl))
      refine ⟨_, rfl, d3, x3, rfl, h3.mono bb, f3, fun Hc bc => ⟨_, rfl, ?_⟩⟩
      have bc := bb.trans bc
      refine ite2 (fun e3 => ?_) (fun e3 => fin_ false Hc bc (by show (isLinkD d1 kds && (isNED d2 && (isMannerD d3 && isFlagD d4))) = _; rw [e1, e2, show isMannerD d3 = false by simpa using e3]; rfl))
      refine ⟨_, rfl, d4, x4, rfl, h4.mono bc, f4, fun Hd bd => fin_ _ Hd (bc.trans bd) (by show (isLinkD d1 kds && (isNED d2 && (isMannerD d3 && isFlagD d4))) = _; rw [e1, e2, e3]; rfl)⟩
    | [], _, hlen, _, _ => rw [hlen] at hn; cases hn
    | [_], _, hlen, _, _ => rw [hlen] at hn; cases hn
    | [_, _], _, hlen, _, _ => rw [hlen] at hn; cases hn
    | [_, _, _], _, hlen, _, _ => rw [hlen] at hn; cases hn
    | _ :: _ :: _ :: _ :: _ :: _, _, hlen, _, _ =>
      rw [hlen] at hn
      simp at hn
      omega
def tellD : List D → Bool
  | [v] => isNameD v
  | _ => false
def giveD : List D → List (Str × D) → Bool
  | [l, m], kds => isLinkD l kds && isMannerD m
  | _, _ => false
/-- what stands behind a rule's names -/
def isRestD (f : Str) (ds : List D) (kds : List (Str × D)) : Bool :=
  if f = "bar" ∨ f = "self" then decide (ds.length = 0)
  else if f = "tell" then tellD ds
  else if f = "give" then giveD ds kds
  else decide (f = "send") && isSendD ds kds
def isRuleD (d : D) (kds : List (Str × D)) : Bool := match d.items with
  | .str f :: ns :: ds => d.isSeq && (isNamesD ns && isRestD f ds kds)
  | _ => false
abbrev sp_is_rule (K : PySem.W.Frag) : Sp := spT2 isRuleD
theorem len_is_rule {K : PySem.W.Frag} {vs : List V} {H : Hp} {Q : VK} {E : XK} (h : sp_is_rule K vs H Q E) : vs.length = 2 := len_spT2 h
def t_is_rule (K : PySem.W.Frag) : TS :=
  (tSeq (tIfS (tOr (tNot (tB (tCall (sp_is_list K) [] E0 (tCons (tVar 0) tNil)))) (tOr (tTest (tOp rLtI (tCB (rLenA K) (tCons (tVar 0) tNil)) (tC (.int 2)))) (tOr (tNot (tB (tCB (rIsi K) (tCons (tOp (rIx K) (tVar 0) (tC (.int 0))) (tCons (tC (.ty "str")) tNil))))) (tNot (tB (tCall (sp_is_name_list K) [] E0 (tCons (tOp (rIx K) (tVar 0) (tC (.int 1))) tNil)))))))
    (tRet (tC (.bl false)))
    tNext)
  (tSeq (tAsg (tOp (rIx K) (tVar 0) (tC (.int 0))) (gName 2))
  (tSeq (tAsg (tSl (fun x lo hi H Q => rSlL K x lo hi H Q ∨ rSlA K x lo hi H Q) (tVar 0) (tPart (tC (.int 2))) tNoPart) (gName 3))
  (tSeq (tIfS (tOr (tTest (tOp rEq (tVar 2) (tC (.str ("bar" : Str))))) (tTest (tOp rEq (tVar 2) (tC (.str ("self" : Str))))))
    (tRet (tOp rEq (tCB (rLenA K) (tCons (tVar 3) tNil)) (tC (.int 0))))
    tNext)
  (tSeq (tIfS (tTest (tOp rEq (tVar 2) (tC (.str ("tell" : Str)))))
    (tRet (tAndV (tOp rEq (tCB (rLenA K) (tCons (tVar 3) tNil)) (tC (.int 1))) (tCall (sp_is_name K) [] E0 (tCons (tOp (rIx K) (tVar 3) (tC (.int 0))) tNil))))
    tNext)
  (tSeq (tIfS (tTest (tOp rEq (tVar 2) (tC (.str ("give" : Str)))))
    (tRet (tAndV (tOp rEq (tCB (rLenA K) (tCons (tVar 3) tNil)) (tC (.int 2))) (tAndV (tCall (sp_is_link K) [] E0 (tCons (tOp (rIx K) (tVar 3) (tC (.int 0))) (tCons (tVar 1) tNil))) (tCall (sp_is_manner K) [] E0 (tCons (tOp (rIx K) (tVar 3) (tC (.int 1))) tNil)))))
    tNext)
  (tRet (tAndV (tOp rEq (tVar 2) (tC (.str ("send" : Str)))) (tCall (sp_is_send K) [] E0 (tCons (tVar 3) (tCons (tVar 1) tNil)))))))))))
theorem cutF2 {x y : V} {xs : List V} : cutV (x :: y :: xs) (some 2) none = xs := by
  unfold cutV HT.sIx
  simp
/-- x[2:] of a list or a tuple -/
theorem sl2 {K : PySem.W.Frag} {H : Hp} {p : Addr} {x y : V} {xs : List V} {Q : VK} (h : SqV K H p (x :: y :: xs)) (k : ∀ q H', SqV K H' q xs → But [] H H' → Q (.ref q) H') :
    rSlL K (.ref p) (some 2) none H Q ∨ rSlA K (.ref p) (some 2) none H Q := by
  rcases h with h | h
  · refine .inl ⟨_, _, rfl, h, fun q hq => ?_⟩
    rw [cutF2]
    exact k q _ (.inl (SqL.of upd_same)) (But.new hq)
  · refine .inr ⟨_, _, rfl, h, fun z => ?_, fun _ q hq => ?_⟩
    · exact absurd z (by
        unfold HT.sIx
        simp)
    · rw [cutF2]
      exact k q _ (.inr (SqT.of upd_same)) (But.new hq)
theorem pure_is_rule {K : PySem.W.Frag} (vs : List V) (H : Hp) (Q : VK) (E : XK) (h : sp_is_rule K vs H Q E) : t_is_rule K (fin Q) (st0 4 vs) H := by
  obtain ⟨d, kds, x, y, rfl, hx, hy, hf, k⟩ := h
  have no : isRuleD d kds = false → ∀ H', But [] H H' → Q (.bl false) H' := fun e H' b => by
    have := k H' b
    rw [e] at this
    exact this
  refine ⟨_, rfl, d, x, rfl, hx, hf, fun H1 b1 => ⟨_, rfl, ?_⟩⟩
  cases hs : d.isSeq with
  | false =>
    refine iteT (no ?_ H1 b1)
    have : d.items = [] := by cases d <;> first | rfl | cases hs
    unfold isRuleD
    rw [this]
  | true =>
    refine iteF ?_
    obtain ⟨p, xs, rfl, hq, hl⟩ := (hx.mono b1).seq (K := K) hs
    obtain ⟨f1, f2⟩ := D.fine_items hf
    have hlen := hl.length
    refine ⟨_, rfl, _, xs.length, rfl, hq.lenV, _, _, rfl, rfl, _, rfl, ?_⟩
    match hit : d.items, hl, hlen, f2 with
    | [], hl, hlen, _ =>
      refine ite2 (fun _ => no (by unfold isRuleD; rw [hit]) H1 b1) fun z => absurd (show decide ((xs.length : Int) < 2) = true by rw [hlen]; rfl) z
    | [d0], hl, hlen, _ =>
      refine ite2 (fun _ => no (by unfold isRuleD; rw [hit]; cases d0 <;> rfl) H1 b1) fun z => absurd (show decide ((xs.length : Int) < 2) = true by rw [hlen]; rfl) z
    | d0 :: d1 :: ds, hl, hlen, f2 =>
      obtain ⟨x0, _, rfl, h0, x1, r, rfl, h1, hr⟩ := hl
      refine ite2 (fun hz => absurd hz (by simp; omega)) fun _ => ?_
      refine ⟨_, rfl, hq.ixR (i := 0) rfl rfl ⟨x0, _, _, _, d0.isStr, rfl, .ty _, h0.ty, kit_str, _, rfl, ?_⟩⟩
      cases hs0 : d0.isStr with
      | false =>
        refine iteT (no ?_ H1 b1)
        unfold isRuleD
        rw [hit]
        cases d0 <;> first | rfl | (cases hs0)
      | true =>
        refine iteF ?_
        obtain ⟨f, rfl⟩ : ∃ f, d0 = .str f := by cases d0 <;> first | exact ⟨_, rfl⟩ | cases hs0
        obtain rfl : x0 = V.str f := h0
        have fd1 : d1.fine = true := fineL_get (i := 1) f2 rfl
        have fds : fineL ds = true := by
          unfold fineL at f2
          have := (Bool.and_eq_true_iff.mp f2).2
          unfold fineL at this
          exact (Bool.and_eq_true_iff.mp this).2
        refine ⟨_, rfl, hq.ixR (i := 1) rfl rfl ⟨d1, x1, rfl, h1, fd1, fun H2 b2 => ⟨_, rfl, ?_⟩⟩⟩
        have b12 := b1.trans b2
        have e0 : isRuleD d kds = (isNamesD d1 && isRestD f ds kds) := by
          unfold isRuleD
          rw [hit]
          show (d.isSeq && _) = _
          rw [hs, Bool.true_and]
        cases hn : isNamesD d1 with
        | false => exact iteT (no (by rw [e0, hn]; rfl) H2 b12)
        | true =>
          rw [hn, Bool.true_and] at e0
          refine iteF ?_
          have hq2 := hq.but b2
          refine ⟨_, rfl, hq2.ixR (i := 0) rfl rfl ?_⟩
          refine ⟨_, rfl, 2, rfl, sl2 hq2 fun q H3 hq3 b3 => ?_⟩
          have b13 := b12.trans b3
          have hr3 : AtL [] H3 ds r := (hr.mono b2).mono b3
          have hy3 := hy.mono b13
          have rl := hr3.length
          have done : ∀ b H', But [] H3 H' → isRestD f ds kds = b → Q (.bl b) H' := fun b H' bb e => by
            have := k H' (b13.trans bb)
            rw [e0, e] at this
            exact this
          have bar : f = "bar" ∨ f = "self" → tRet (tOp rEq (tCB (rLenA K) (tCons (tVar 3) tNil)) (tC (.int 0))) (fin Q) [some (.ref p), some y, some (.str f), some (.ref q)] H3 := fun hb => by
            refine ⟨_, rfl, _, r.length, rfl, hq3.lenV, rfl, done _ H3 But.refl ?_⟩
            unfold isRestD
            rw [if_pos hb, dec_int]
            refine decide_eq_decide.mpr ?_
            omega
          refine ⟨_, rfl, rfl, _, rfl, ?_⟩
          rw [dec_str]
          refine ite2 (fun hb => iteT (bar (.inl (by simpa using hb)))) (fun hb => ?_)
          refine ⟨_, rfl, rfl, _, rfl, ?_⟩
          rw [dec_str]
          refine ite2 (fun hb2 => bar (.inr (by simpa using hb2))) (fun hb2 => ?_)
          have nb : ¬ (f = "bar" ∨ f = "self") := fun z => z.elim (fun z => by simp [z] at hb) (fun z => by simp [z] at hb2)
          have er : isRestD f ds kds = (if f = "tell" then tellD ds else if f = "give" then giveD ds kds else decide (f = "send") && isSendD ds kds) := by
            unfold isRestD
            rw [if_neg nb]
          clear hit hlen f2 hr e0 bar
          refine ⟨_, rfl, rfl, _, rfl, ?_⟩
          rw [dec_str]
          refine ite2 (fun ht => ?_) (fun ht => ?_)
          · have ht : f = "tell" := by simpa using ht
            rw [if_pos ht] at er
            refine ⟨_, rfl, _, r.length, rfl, hq3.lenV, rfl, _, rfl, ?_⟩
            rw [dec_int]
            match ds, hr3, rl, fds, er, done with
            | [v], hr3, rl, fds, er, done =>
              obtain ⟨xv, _, rfl, hv, rfl⟩ := hr3
              refine iteT ⟨_, rfl, hq3.ixR (i := 0) rfl rfl ⟨v, xv, rfl, hv, fineL_get (i := 0) fds rfl, fun H4 b4 => done _ H4 b4 er⟩⟩
            | [], _, rl, _, er, done => rw [rl]; exact iteF (done _ H3 But.refl er)
            | _ :: _ :: _, _, rl, _, er, done =>
              rw [rl]
              refine ite2 (fun z => absurd z (by simp; omega)) fun _ => done _ H3 But.refl er
          · have ht : f ≠ "tell" := by simpa using ht
            rw [if_neg ht] at er
            refine ⟨_, rfl, rfl, _, rfl, ?_⟩
            rw [dec_str]
            refine ite2 (fun hg => ?_) (fun hg => ?_)
            · have hg : f = "give" := by simpa using hg
              rw [if_pos hg] at er
              refine ⟨_, rfl, _, r.length, rfl, hq3.lenV, rfl, _, rfl, ?_⟩
              rw [dec_int]
              match ds, hr3, rl, fds, er, done with
              | [l, m], hr3, rl, fds, er, done =>
                obtain ⟨xl, _, rfl, hl4, xm, _, rfl, hm4, rfl⟩ := hr3
                refine iteT ⟨_, rfl, hq3.ixR (i := 0) rfl rfl ⟨_, rfl, l, kds, xl, y, rfl, hl4, hy3, fineL_get (i := 0) fds rfl, fun H4 b4 => ⟨_, rfl, ?_⟩⟩⟩
                refine ite2 (fun e1 => ?_) (fun e1 => done _ H4 b4 (by rw [er]; show (isLinkD l kds && isMannerD m) = _; rw [show isLinkD l kds = false by simpa using e1]; rfl))
                exact ⟨_, rfl, (hq3.but b4).ixR (i := 1) rfl rfl ⟨m, xm, rfl, hm4.mono b4, fineL_get (i := 1) fds rfl, fun H5 b5 => done _ H5 (b4.trans b5) (by rw [er]; show (isLinkD l kds && isMannerD m) = _; rw [e1, Bool.true_and])⟩⟩
              | [], _, rl, _, er, done => rw [rl]; exact iteF (done _ H3 But.refl er)
              | [_], _, rl, _, er, done => rw [rl]; exact iteF (done _ H3 But.refl er)
              | _ :: _ :: _ :: _, _, rl, _, er, done =>
                rw [rl]
                refine ite2 (fun z => absurd z (by simp; omega)) fun _ => done _ H3 But.refl er
            · have hg : f ≠ "give" := by simpa using hg
              rw [if_neg hg] at er
              refine ⟨_, rfl, rfl, _, rfl, ?_⟩
              rw [dec_str]
              refine ite2 (fun hs => ?_) (fun hs => done _ H3 But.refl (by rw [er, show decide (f = "send") = false by simpa using hs]; rfl))
              rw [hs, Bool.true_and] at er
              exact ⟨_, rfl, _, rfl, ds, kds, q, r, y, rfl, hq3, hr3, hy3, fds, fun H4 b4 => done _ H4 b4 er⟩
end Kb

set_option Elab.async false
set_option linter.all false
set_option maxRecDepth 100000
set_option maxHeartbeats 4000000
/-! Kb, 14: data have no circles; a dict comprehension over any walk. -/
namespace Kb
open PySem PySem.Spec PyProof.Rows L2

/-! ### one place, one datum -/
mutual
theorem At.inj {M M' : List Addr} {H : Hp} : ∀ {d d' : D} {v : V}, At M H d v → At M' H d' v → d = d'
  | .non, d', _, h, h' => by
    cases h
    cases d' <;> first | rfl | (obtain ⟨_, _, e, _⟩ := h'; cases e) | (cases h')
  | .bl b, d', _, h, h' => by
    cases h
    cases d' <;> first | (cases h'; rfl) | (obtain ⟨_, _, e, _⟩ := h'; cases e) | (cases h')
  | .int b, d', _, h, h' => by
    cases h
    cases d' <;> first | (cases h'; rfl) | (obtain ⟨_, _, e, _⟩ := h'; cases e) | (cases h')
  | .str b, d', _, h, h' => by
    cases h
    cases d' <;> first | (cases h'; rfl) | (obtain ⟨_, _, e, _⟩ := h'; cases e) | (cases h')
  | .tup ds, d', _, h, h' => by
    obtain ⟨p, xs, rfl, _, hp, hl⟩ := h
    cases d' with
    | tup ds' =>
      obtain ⟨p', xs', e, _, hp', hl'⟩ := h'
      cases e
      rw [hp] at hp'
      cases hp'
      rw [AtL.inj hl hl']
    | lst ds' =>
      obtain ⟨p', xs', e, _, hp', hl'⟩ := h'
      cases e
      rw [hp] at hp'
      cases hp'
    | dct ds' =>
      obtain ⟨p', xs', e, _, hp', hl'⟩ := h'
      cases e
      rw [hp] at hp'
      cases hp'
    | _ => cases h'
  | .lst ds, d', _, h, h' => by
    obtain ⟨p, xs, rfl, _, hp, hl⟩ := h
    cases d' with
    | lst ds' =>
      obtain ⟨p', xs', e, _, hp', hl'⟩ := h'
      cases e
      rw [hp] at hp'
      cases hp'
      rw [AtL.inj hl hl']
    | tup ds' =>
      obtain ⟨p', xs', e, _, hp', hl'⟩ := h'
      cases e
      rw [hp] at hp'
      cases hp'
    | dct ds' =>
      obtain ⟨p', xs', e, _, hp', hl'⟩ := h'
      cases e
      rw [hp] at hp'
      cases hp'
    | _ => cases h'
  | .dct ds, d', _, h, h' => by
    obtain ⟨p, xs, rfl, _, hp, hl⟩ := h
    cases d' with
    | dct ds' =>
      obtain ⟨p', xs', e, _, hp', hl'⟩ := h'
      cases e
      rw [hp] at hp'
      cases hp'
      rw [AtP.inj hl hl']
    | tup ds' =>
      obtain ⟨p', xs', e, _, hp', hl'⟩ := h'
      cases e
      rw [hp] at hp'
      cases hp'
    | lst ds' =>
      obtain ⟨p', xs', e, _, hp', hl'⟩ := h'
      cases e
      rw [hp] at hp'
      cases hp'
    | _ => cases h'
theorem AtL.inj {M M' : List Addr} {H : Hp} : ∀ {ds ds' : List D} {xs : List V}, AtL M H ds xs → AtL M' H ds' xs → ds = ds'
  | [], ds', _, h, h' => by
    cases h
    cases ds' with
    | nil => rfl
    | cons a r =>
      obtain ⟨_, _, e, _⟩ := h'
      cases e
  | d :: ds, ds', _, h, h' => by
    obtain ⟨x, r, rfl, h1, h2⟩ := h
    cases ds' with
    | nil => cases h'
    | cons a r' =>
      obtain ⟨_, _, e, h1', h2'⟩ := h'
      cases e
      rw [At.inj h1 h1', AtL.inj h2 h2']
theorem AtP.inj {M M' : List Addr} {H : Hp} : ∀ {ds ds' : List (Str × D)} {xs : List (Key × V)}, AtP M H ds xs → AtP M' H ds' xs → ds = ds'
  | [], ds', _, h, h' => by
    cases h
    cases ds' with
    | nil => rfl
    | cons a r =>
      obtain ⟨_, _, e, _⟩ := h'
      cases e
  | (k, d) :: ds, ds', _, h, h' => by
    obtain ⟨x, r, rfl, h1, h2⟩ := h
    cases ds' with
    | nil => cases h'
    | cons a r' =>
      obtain ⟨k', d'⟩ := a
      obtain ⟨_, _, e, h1', h2'⟩ := h'
      cases e
      rw [At.inj h1 h1', AtP.inj h2 h2']
end
/-! ### no circles -/
mutual
def D.sz : D → Nat
  | .tup ds => D.szL ds + 1
  | .lst ds => D.szL ds + 1
  | .dct kds => D.szP kds + 1
  | _ => 1
def D.szL : List D → Nat
  | [] => 0
  | d :: ds => D.sz d + D.szL ds
def D.szP : List (Str × D) → Nat
  | [] => 0
  | (_, d) :: ds => D.sz d + D.szP ds
end
mutual
theorem At.out {M : List Addr} {H : Hp} {p : Addr} {d0 : D} (h0 : At [] H d0 (.ref p)) : ∀ {d : D} {v : V}, At M H d v → d.sz < d0.sz → At (p :: M) H d v
  | .non, _, h, _ => h
  | .bl _, _, h, _ => h
  | .int _, _, h, _ => h
  | .str _, _, h, _ => h
  | .tup ds, v, h, hz => by
    have hh := h
    obtain ⟨q, xs, rfl, m, hq, hl⟩ := h
    refine ⟨q, xs, rfl, fun z => ?_, hq, AtL.out h0 hl (by rw [D.sz] at hz; omega)⟩
    rcases List.mem_cons.mp z with z | z
    · rw [z] at hh
      rw [At.inj hh h0] at hz
      omega
    · exact m z
  | .lst ds, v, h, hz => by
    have hh := h
    obtain ⟨q, xs, rfl, m, hq, hl⟩ := h
    refine ⟨q, xs, rfl, fun z => ?_, hq, AtL.out h0 hl (by rw [D.sz] at hz; omega)⟩
    rcases List.mem_cons.mp z with z | z
    · rw [z] at hh
      rw [At.inj hh h0] at hz
      omega
    · exact m z
  | .dct ds, v, h, hz => by
    have hh := h
    obtain ⟨q, xs, rfl, m, hq, hl⟩ := h
    refine ⟨q, xs, rfl, fun z => ?_, hq, AtP.out h0 hl (by rw [D.sz] at hz; omega)⟩
    rcases List.mem_cons.mp z with z | z
    · rw [z] at hh
      rw [At.inj hh h0] at hz
      omega
    · exact m z
theorem AtL.out {M : List Addr} {H : Hp} {p : Addr} {d0 : D} (h0 : At [] H d0 (.ref p)) : ∀ {ds : List D} {xs : List V}, AtL M H ds xs → D.szL ds < d0.sz → AtL (p :: M) H ds xs
  | [], _, h, _ => h
  | d :: ds, _, h, hz => by
    obtain ⟨x, r, rfl, h1, h2⟩ := h
    rw [D.szL] at hz
    exact ⟨x, r, rfl, At.out h0 h1 (by omega), AtL.out h0 h2 (by omega)⟩
theorem AtP.out {M : List Addr} {H : Hp} {p : Addr} {d0 : D} (h0 : At [] H d0 (.ref p)) : ∀ {ds : List (Str × D)} {xs : List (Key × V)}, AtP M H ds xs → D.szP ds < d0.sz → AtP (p :: M) H ds xs
  | [], _, h, _ => h
  | (k, d) :: ds, _, h, hz => by
    obtain ⟨x, r, rfl, h1, h2⟩ := h
    rw [D.szP] at hz
    exact ⟨x, r, rfl, At.out h0 h1 (by omega), AtP.out h0 h2 (by omega)⟩
end
/-- a dict's parts don't hold the dict -/
theorem At.dct {H : Hp} {kds : List (Str × D)} {v : V} (h : At [] H (.dct kds) v) : ∃ p kvs, v = .ref p ∧ H p = some (.dK kvs) ∧ AtP [p] H kds kvs := by
  have hh := h
  obtain ⟨p, kvs, rfl, m, hp, hl⟩ := h
  exact ⟨p, kvs, rfl, hp, AtP.out hh hl (by rw [D.sz]; omega)⟩
section
variable {M M' : List Addr} {H H' : Hp} {kds : List (Str × D)} {kvs : List (Key × V)}
theorem AtP.mono (b : But M H H') (h : AtP M H kds kvs) : AtP M H' kds kvs := AtP.mono' (fun p o m e => ⟨m, b.keep p o m e⟩) kds kvs h
theorem AtP.less (s : ∀ x ∈ M', x ∈ M) (h : AtP M H kds kvs) : AtP M' H kds kvs := AtP.mono' (fun p o m e => ⟨fun z => m (s p z), e⟩) kds kvs h
theorem AtP.get : ∀ {kds : List (Str × D)} {kvs : List (Key × V)} {i : Nat} {k : Key} {v : V}, AtP M H kds kvs → kvs[i]? = some (k, v) → ∃ n d, kds[i]? = some (n, d) ∧ k = .inr n ∧ At M H d v
  | [], _, i, k, v, h, e => by
    cases h
    simp at e
  | (n, d) :: ds, _, 0, k, v, h, e => by
    obtain ⟨y, r, rfl, h1, h2⟩ := h
    simp at e
    obtain ⟨rfl, rfl⟩ := e
    exact ⟨n, d, rfl, rfl, h1⟩
  | (n, d) :: ds, _, i + 1, k, v, h, e => by
    obtain ⟨y, r, rfl, h1, h2⟩ := h
    obtain ⟨n', d', q1, q2, q3⟩ := AtP.get (i := i) (k := k) (v := v) h2 (by simpa using e)
    exact ⟨n', d', by simpa using q1, q2, q3⟩
theorem AtP.length (h : AtP M H kds kvs) : kvs.length = kds.length := keys_len (os := kds) h.keys
/-- what is looked up in a dict of data -/
theorem AtP.val : ∀ {kds : List (Str × D)} {kvs : List (Key × V)} {n : Str}, AtP M H kds kvs → n ∈ kds.map (·.1) → ∃ d v, kds.lookup n = some d ∧ valV kvs (.inr n) = some v ∧ At M H d v
  | [], _, n, h, m => by simp at m
  | (k, d) :: ds, _, n, h, m => by
    obtain ⟨y, r, rfl, h1, h2⟩ := h
    by_cases e : n = k
    · refine ⟨d, y, by rw [e, List.lookup_cons_self], ?_, h1⟩
      rw [e, valV, List.find?_cons_of_pos (by simp)]
      rfl
    · rw [List.map_cons, List.mem_cons] at m
      obtain ⟨d', v, q1, q2, q3⟩ := AtP.val (n := n) h2 (m.resolve_left e)
      refine ⟨d', v, ?_, ?_, q3⟩
      · rw [List.lookup_cons, beq_eq_false_iff_ne.mpr e]
        exact q1
      · rw [valV, List.find?_cons_of_neg (by simpa using fun z => e z.symm)]
        exact q2
end

/-! ### {k: v for x in it if ..} over any walk -/
section
variable {J : It} {n : Nat} {G : Hp → Prop} {Y : Nat → Hp → V → Hp → Prop}
theorem dc_it (w : Walk J n G Y) {g : TG} {tt : TT} {tk tv : TE} {vs : List Nat} {σ : L2.St} {H1 : Hp} {D : Addr} {Qd : Hp → Prop} (Pv : Nat → Hp → Prop) (h0 : Pv 0 (upd H1 D (.dK []))) (hG : ∀ i H, i ≤ n → Pv i H → G H)
    (hs : ∀ i x H H', i < n → Pv i H → Y i H x H' → g x (wipe σ vs) H' fun σ2 H2 => wipe σ2 vs = wipe σ vs ∧ tt σ2 H2 fun b H3 =>
      if b = true then tk σ2 H3 fun y H4 => tv σ2 H4 fun z H5 => ∃ kvs k, y = kV k ∧ H5 D = some (.dK kvs) ∧ kvs.length < sizeLine ∧ Pv (i + 1) (upd H5 D (.dK (putK kvs k z))) else Pv (i + 1) H3) (hd : ∀ H, Pv n H → Qd H) :
    ∃ W : Nat → Nat → Hp → Prop, (∃ m, W 0 m (upd H1 D (.dK []))) ∧ ∀ i m H, W i m H →
      (J.stop i H ∧ Qd H) ∨ (J.go i H ∧ ∃ Nx : Hp → Prop, (∀ H', Nx H' → ∃ m', m' < m ∧ W (i + 1) m' H') ∧ ∀ x H', J.yld i H x H' → g x (wipe σ vs) H' fun σ2 H2 => wipe σ2 vs = wipe σ vs ∧ tt σ2 H2 fun b H3 =>
        if b = true then tk σ2 H3 fun y H4 => tv σ2 H4 fun z H5 => ∃ kvs k, y = kV k ∧ H5 D = some (.dK kvs) ∧ kvs.length < sizeLine ∧ Nx (upd H5 D (.dK (putK kvs k z))) else Nx H3) := by
  refine ⟨fun i m H => m = n - i ∧ i ≤ n ∧ Pv i H, ⟨n, by simp, Nat.zero_le _, h0⟩, ?_⟩
  rintro i m H ⟨rfl, hi, p⟩
  have q := hG i H hi p
  by_cases hlt : i < n
  · refine .inr ⟨w.goes i H hlt q, Pv (i + 1), fun H' p' => ⟨n - (i + 1), by omega, rfl, hlt, p'⟩, fun x H' y => hs i x H H' hlt p (w.yields i H x H' hlt q y)⟩
  · have e : i = n := by omega
    subst e
    exact .inl ⟨w.stops H q, hd H p⟩
end
end Kb

set_option Elab.async false
set_option linter.all false
set_option maxRecDepth 100000
set_option maxHeartbeats 4000000
/-! Kb, 15: sorted of a list or a tuple of texts; a dict's keys, sorted. -/
namespace Kb
open PySem PySem.Spec PyProof.Rows L2

def rSortedA (K : PySem.W.Frag) : List V → Hp → VK → Prop := fun vs H Q => ∃ (a : Addr) (xs : List Str), vs = [V.ref a] ∧ SqV K H a (xs.map V.str) ∧ xs.length < 64 ∧
  ∀ (ys : List Str) (p : Addr), ys.Perm xs → sortedS ys = true → H p = none → Q (.ref p) (upd H p (.lst (ys.map V.str)))
theorem cr_sortedA {X : Cx} : CallR X (.builtin "sorted") (rSortedA X.K) := by
  intro pins s σ H vs us Q I r h
  obtain ⟨a, xs, rfl, hs, h64, q⟩ := h
  rcases hs with hs | hs
  · exact cr_sortedS pins s σ H [V.ref a] us Q I r ⟨a, xs, rfl, hs, h64, q⟩
  obtain ⟨its, rv, ht, hz⟩ := I.tuple hs
  rw [Vals.ref1 r]
  have hlen0 := rv.length
  rw [List.length_map] at hlen0
  have hS : StrsAre its xs := rv.strs
  have hal : its.length = xs.length := hlen0.symm
  obtain ⟨o, ho, hc, n, hd⟩ := ht
  refine Calls.call_function_entry PyProof.Rows.kind_sorted PyProof.Rows.plain_sorted PyProof.Rows.entry_sorted (PyProof.Rows.args_sorted1 _) ?_
  unfold Builtin.«sorted»
  refine wpAny_bind (m := checkCount "sorted" 1 1 _) (wpAny_pure ?_)
  refine wpAny_bind (wpAny_collect_seq a (.inr rfl) ho hc hd (fun h' hk => ?_) (by rw [List.size_toArray, hal, sizeLine_eq]; omega))
  have I1 : Inv X pins σ H { s with heap := h' } := I.kept (t' := s.toks) hk
  rw [List.toList_toArray]
  refine wpAny_bind (wpAny_newList ?_ (by rw [hal, sizeLine_eq]; omega))
  have hoL : (h'.push (seqObj "list" its.toArray 0)).get? h'.objs.size = some (seqObj "list" its.toArray 0) := Heap.get?_push_size _ rfl
  show wpAny _ _ _ _ _ { s with heap := h'.push (seqObj "list" its.toArray 0) }
  refine wpAny_bind (wpAny_holding (wpAny_call_entry PyProof.Rows.slot_list_sort ⟨_, hoL, rfl⟩ PyProof.Rows.entry_list_sort
    (list_sort_treeK strKind_oneLt (s := { s with heap := h'.push (seqObj "list" its.toArray 0) }) hoL hS.keysOf (fun v₁ v₂ rest e => keyKind_strs (by rw [← e]; exact hS)) (by rw [hal]; exact h64) fun st' hp hs => ⟨_, rfl, ?_⟩)
    (PyProof.Rows.args_list_sort _)))
  obtain ⟨ys, g1, g2, g3⟩ := sorted_out_str hS hp hs
  obtain ⟨e', he'⟩ := PyProof.Rows.sortedHeap_at (vs := its) (out := (arrOf st').map (·.2)) hoL
  have hlen : (ys.map V.str).length ≤ sizeLine := by
    rw [List.length_map, g2.length_eq]
    exact Nat.le_trans (Nat.le_of_lt h64) (by decide)
  refine wpAny_pure ⟨_, rfl, .ref h'.objs.size, upd H h'.objs.size (.lst (ys.map V.str)), I1.laid (t' := s.toks) (fun b u e => ?_) (Nat.le_refl _)
    (show ObjOk X.prog X.w _ _ _ (.lst (ys.map V.str)) from ⟨hlen, ((arrOf st').map (·.2)).toList, e', vals_of_strs g1, by rw [Array.toArray_toList]; exact he'⟩), rfl, q ys _ g2 g3 (I1.hok.fresh (Nat.le_refl _))⟩
  have hb : b < h'.objs.size := Heap.lt_size e
  rw [PyProof.Rows.sortedHeap_old (Nat.ne_of_lt hb) (by rw [size_push']; exact Nat.lt_succ_of_lt hb)]
  exact Heap.get?_push_of_some _ e
end Kb

set_option Elab.async false
set_option linter.all false
set_option maxRecDepth 100000
set_option maxHeartbeats 4000000
/-! Kb, 16: data whose tuples may be shared; a dict comprehension over a dict's keys, sorted. -/
namespace Kb
open PySem PySem.Spec PyProof.Rows L2

/-- no tuple stands in M -/
def NoTup (M : List Addr) (H : Hp) : Prop := ∀ x ∈ M, ∀ xs, H x ≠ some (.tup xs)
theorem NoTup.nil {H : Hp} : NoTup [] H := fun _ z => by cases z
theorem NoTup.cons {M : List Addr} {H : Hp} {a : Addr} {o : HO} (h : H a = some o) (n : ∀ xs, o ≠ .tup xs) (s : NoTup M H) : NoTup (a :: M) H := fun x m xs => by
  rcases List.mem_cons.mp m with z | z
  · rw [z, h]
    exact fun q => n xs (Option.some.inj q)
  · exact s x z xs
theorem NoTup.app {M M' : List Addr} {H : Hp} (a : NoTup M H) (b : NoTup M' H) : NoTup (M ++ M') H := fun x m => (List.mem_append.mp m).elim (a x) (b x)
theorem Std.app {M M' : List Addr} {H : Hp} (a : Std M H) (b : Std M' H) : Std (M ++ M') H := fun x m => (List.mem_append.mp m).elim (a x) (b x)
/-- what stands keeps on being no tuple -/
theorem NoTup.but {M : List Addr} {H H' : Hp} (t : NoTup M H) (s : Std M H) (b : But [] H H') : NoTup M H' := fun x m xs e => by
  cases q : H x with
  | none => exact s x m q
  | some o =>
    have := b.keep x o (by simp) q
    rw [this] at e
    exact t x m xs (by rw [q, e])
theorem StAt.notup {H : Hp} {a c : Addr} (S : StAt H a c) : NoTup [a, c] H := by
  obtain ⟨ne, ⟨p, n, h1⟩, ns, h2, h3⟩ := S
  exact NoTup.cons h1 (fun _ q => nomatch q) (NoTup.cons h2 (fun _ q => nomatch q) NoTup.nil)
/-- v is the data d; of what stood in H it has at most tuples -/
def NewT (H H' : Hp) (d : D) (v : V) : Prop := ∀ M, Std M H → NoTup M H → At M H' d v
def NewTL (H H' : Hp) (ds : List D) (xs : List V) : Prop := ∀ M, Std M H → NoTup M H → AtL M H' ds xs
def NewTP (H H' : Hp) (kds : List (Str × D)) (kvs : List (Key × V)) : Prop := ∀ M, Std M H → NoTup M H → AtP M H' kds kvs
section
variable {H H0 H1 H2 H' : Hp} {M : List Addr} {d : D} {v : V} {ds : List D} {xs : List V} {kds : List (Str × D)} {kvs : List (Key × V)}
theorem New.toT (n : New H H' d v) : NewT H H' d v := fun M s _ => n M s
theorem NewT.at_ (n : NewT H H' d v) : At [] H' d v := n [] Std.nil NoTup.nil
theorem NewT.mono (n : NewT H H1 d v) (s : Std M H) (t : NoTup M H) (b : But M H1 H2) : NewT H H2 d v := fun M' s' t' =>
  At.mono' (M := M' ++ M) (fun p o m e => ⟨fun z => m (List.mem_append.mpr (.inl z)), b.keep p o (fun z => m (List.mem_append.mpr (.inr z))) e⟩) d v (n (M' ++ M) (s'.app s) (t'.app t))
theorem NewTL.mono (n : NewTL H H1 ds xs) (s : Std M H) (t : NoTup M H) (b : But M H1 H2) : NewTL H H2 ds xs := fun M' s' t' =>
  AtL.mono' (M := M' ++ M) (fun p o m e => ⟨fun z => m (List.mem_append.mpr (.inl z)), b.keep p o (fun z => m (List.mem_append.mpr (.inr z))) e⟩) ds xs (n (M' ++ M) (s'.app s) (t'.app t))
theorem NewTP.mono (n : NewTP H H1 kds kvs) (s : Std M H) (t : NoTup M H) (b : But M H1 H2) : NewTP H H2 kds kvs := fun M' s' t' =>
  AtP.mono' (M := M' ++ M) (fun p o m e => ⟨fun z => m (List.mem_append.mpr (.inl z)), b.keep p o (fun z => m (List.mem_append.mpr (.inr z))) e⟩) kds kvs (n (M' ++ M) (s'.app s) (t'.app t))
theorem NewT.pre (b : But [] H0 H) (n : NewT H H' d v) : NewT H0 H' d v := fun M s t => n M (s.but b) (t.but s b)
theorem NewTL.pre (b : But [] H0 H) (n : NewTL H H' ds xs) : NewTL H0 H' ds xs := fun M s t => n M (s.but b) (t.but s b)
theorem NewTP.pre (b : But [] H0 H) (n : NewTP H H' kds kvs) : NewTP H0 H' kds kvs := fun M s t => n M (s.but b) (t.but s b)
theorem NewTP.snoc {k : Str} (n : NewTP H H' kds kvs) (h : NewT H H' d v) : NewTP H H' (kds ++ [(k, d)]) (kvs ++ [(Sum.inr k, v)]) := fun M s t => AtP.snoc (n M s t) (h M s t)
theorem NewTL.snoc (n : NewTL H H' ds xs) (h : NewT H H' d v) : NewTL H H' (ds ++ [d]) (xs ++ [v]) := fun M s t => AtL.snoc (n M s t) (h M s t)
/-- a dict, a list laid at p -/
theorem NewT.dctm {p : Addr} (n : NewTP H0 H' kds kvs) (b : But [] H H0) (hp : H p = none) (h : H' p = some (.dK kvs)) : NewT H H' (.dct kds) (.ref p) := fun M s t =>
  ⟨p, kvs, rfl, fun m => s p m hp, h, n M (s.but b) (t.but s b)⟩
theorem NewT.lstm {p : Addr} (n : NewTL H0 H' ds xs) (b : But [] H H0) (hp : H p = none) (h : H' p = some (.lst xs)) : NewT H H' (.lst ds) (.ref p) := fun M s t =>
  ⟨p, xs, rfl, fun m => s p m hp, h, n M (s.but b) (t.but s b)⟩
theorem NewT.tupm {p : Addr} (n : NewTL H0 H' ds xs) (b : But [] H H0) (hp : H p = none) (h : H' p = some (.tup xs)) : NewT H H' (.tup ds) (.ref p) := fun M s t =>
  ⟨p, xs, rfl, fun m => s p m hp, h, n M (s.but b) (t.but s b)⟩
end
/-- texts hold everywhere -/
theorem AtL.strs {M : List Addr} {H : Hp} : ∀ {ws : List Str}, AtL M H (ws.map D.str) (ws.map V.str)
  | [] => rfl
  | w :: ws => ⟨_, _, rfl, rfl, AtL.strs⟩
theorem strs_map : ∀ {ds : List D}, ds.all D.isStr = true → (strsOf ds).map D.str = ds
  | [], _ => rfl
  | d :: ds, h => by
    rw [List.all_cons] at h
    obtain ⟨a, b⟩ := Bool.and_eq_true_iff.mp h
    cases d with
    | str z =>
      show D.str z :: (strsOf ds).map D.str = _
      rw [strs_map b]
    | _ => cases a
/-- a dict that was locked is as it was -/
theorem unlock_but {H H' : Hp} {p : Addr} {u w : HO} (h : H p = some u) (b : But [] (upd H p w) H') : But [] H (upd H' p u) := by
  refine ⟨fun a o m e => ?_, fun a n => ?_⟩
  · by_cases z : a = p
    · rw [z, upd_same, ← e, z, h]
    · rw [upd_ne z]
      exact b.keep a o m (by rw [upd_ne z]; exact e)
  · by_cases z : a = p
    · rw [z, upd_same]
      exact fun q => nomatch q
    · rw [upd_ne z]
      exact b.stand a (by rw [upd_ne z]; exact n)
/-- but for p, a locked heap is the heap -/
theorem lock_but {H : Hp} {p : Addr} {u w : HO} (h : H p = some u) : But [p] H (upd H p w) := by
  refine ⟨fun a o m e => ?_, fun a n => ?_⟩
  · rw [upd_ne (fun z => m (by rw [z]; simp))]
    exact e
  · by_cases z : a = p
    · rw [z, upd_same]
      exact fun q => nomatch q
    · rw [upd_ne z]
      exact n
theorem wipe_one {σ : L2.St} {j : Nat} {x : Option V} : wipe ((wipe σ [j]).set j x) [j] = wipe σ [j] := by
  show ((σ.set j none).set j x).set j none = σ.set j none
  rw [List.set_set, List.set_set]
theorem wipe_get {σ : L2.St} {j : Nat} {x : V} (h : j < σ.length) : ((wipe σ [j]).set j (some x))[j]? = some (some x) := by
  show ((σ.set j none).set j (some x))[j]? = _
  rw [List.getElem?_set_self (by rw [List.length_set]; exact h)]
theorem wipe_get_ne {σ : L2.St} {i j : Nat} {x : V} (h : i ≠ j) : ((wipe σ [j]).set j (some x))[i]? = σ[i]? := by
  show ((σ.set j none).set j (some x))[i]? = _
  rw [List.getElem?_set_ne (Ne.symm h), List.getElem?_set_ne (Ne.symm h)]
/-- {k: f(k) for k in sorted(d)} -/
theorem dc_sorted {K : PySem.W.Frag} {σ : L2.St} {p : Addr} {j : Nat} {kds : List (Str × D)} {kvs : List (Key × V)} {H : Hp} {Q : VK} {tv : TE} (hσ : σ[0]? = some (some (.ref p))) (hj : j < σ.length)
    (hp : H p = some (.dK kvs)) (hl : AtP [] H kds kvs) (nd : (keysD kds).Nodup) (h64 : kds.length < 64) (R : Str → D → Prop)
    (step : ∀ k ∈ keysD kds, ∀ (H2 : Hp) (Q2 : VK), But [] H H2 → (∀ e v H3, R k e → NewT H2 H3 e v → But [] H2 H3 → Q2 v H3) → tv ((wipe σ [j]).set j (some (.str k))) H2 Q2)
    (k : ∀ (out : List (Str × D)) (q : Addr) (H' : Hp), (keysD out).Perm (keysD kds) → sortedS (keysD out) = true → (∀ x ∈ out, R x.1 x.2) → NewT H H' (.dct out) (.ref q) → But [] H H' → Q (.ref q) H') :
    tDc (iList K (tCB rSortD (tCons (tVar 0) tNil))) (gName j) tYes (tVar j) tv [j] σ H Q := by
  have hk : kvs.map (·.1) = (keysD kds).map Sum.inr := by rw [hl.keys, keysD, List.map_map]; rfl
  refine ⟨_, hσ, p, kvs, keysD kds, rfl, .inl hp, hk, by rw [keysD, List.length_map]; exact h64, fun ys q hperm hsort hq => ?_⟩
  refine ⟨q, rfl, ⟨_, SqL.of upd_same⟩, fun Dd hD => ?_⟩
  have hlen : ys.length < 64 := by rw [hperm.length_eq, keysD, List.length_map]; exact h64
  have ynd : ys.Nodup := hperm.nodup_iff.mpr nd
  have hq1 : (upd H q (.lst (ys.map V.str))) q = some (.lst (ys.map V.str)) := upd_same
  have B1 : But [] H (upd H q (.lst (ys.map V.str))) := But.new hq
  generalize upd H q (.lst (ys.map V.str)) = H1 at hD hq1 B1 ⊢
  have B2 : But [] H1 (upd H1 Dd (.dK [])) := But.new hD
  have hD2 : (upd H1 Dd (.dK [])) Dd = some (.dK []) := upd_same
  have hq2 := B2.keep _ _ (by simp) hq1
  have qD : q ≠ Dd := fun z => by rw [← z, hq1] at hD; cases hD
  have std2 : Std [Dd] (upd H1 Dd (.dK [])) := Std.cons hD2 Std.nil
  have nt2 : NoTup [Dd] (upd H1 Dd (.dK [])) := NoTup.cons hD2 (fun _ z => nomatch z) NoTup.nil
  have B02 := B1.trans B2
  refine dc_it (J := Itl K q) walk_list (fun i H' => ∃ (out : List (Str × D)) (kvs' : List (Key × V)), keysD out = ys.take i ∧ (∀ x ∈ out, R x.1 x.2) ∧ H' Dd = some (.dK kvs') ∧
      kvs'.map (·.1) = out.map (fun x => (Sum.inr x.1 : Key)) ∧ NewTP (upd H1 Dd (.dK [])) H' out kvs' ∧ But [Dd] (upd H1 Dd (.dK [])) H')
    ⟨[], [], rfl, by simp, hD2, rfl, fun _ _ _ => rfl, But.refl⟩ (fun i H' _ ⟨_, _, _, _, _, _, _, B⟩ => SqL.of (B.keep _ _ (by simpa using qD) hq2)) ?_ ?_
  · rintro i x H3 H4 hi ⟨out, kvs', o1, o2, o3, o4, o5, B3⟩ ⟨rfl, hx⟩
    rw [List.getElem?_map] at hx
    obtain ⟨n, hn, rfl⟩ := Option.map_eq_some_iff.mp hx
    have nm : n ∈ keysD kds := hperm.mem_iff.mp (List.mem_of_getElem? hn)
    have B03 : But [] H H4 := by
      refine ⟨fun a o _ e => ?_, fun a e => B3.stand a (B02.stand a e)⟩
      have e1 := B1.keep a o (by simp) e
      have aD : a ≠ Dd := fun z => by rw [z, hD] at e1; cases e1
      exact B3.keep a o (by simpa using aD) (B2.keep a o (by simp) e1)
    refine ⟨wipe_one, ?_⟩
    refine ⟨_, wipe_get hj, step n nm H4 _ B03 fun e v H5 re nv B5 => ?_⟩
    have hno : (Sum.inr n : Key) ∉ kvs'.map (·.1) := keys_inr o4 fun m => by
      rw [show out.map (·.1) = ys.take i from o1] at m
      have : (ys.take (i + 1)).Nodup := ynd.sublist (List.take_sublist ..)
      rw [List.take_add_one, hn] at this
      exact (List.nodup_append.mp this).2.2 n m n (List.mem_singleton.mpr rfl) rfl
    have hl' : kvs'.length < 64 := by
      rw [keys_len o4]
      have e2 := congrArg List.length o1
      rw [keysD, List.length_map, List.length_take] at e2
      omega
    have e1 : putK kvs' (Sum.inr n : Key) v = kvs' ++ [(Sum.inr n, v)] := putK_new _ (valV_none hno)
    have B34 : But [Dd] (upd H1 Dd (.dK [])) H5 := B3.trans B5.nil
    refine ⟨kvs', Sum.inr n, rfl, B5.keep _ _ (by simp) o3, small1000 (by omega), out ++ [(n, e)], kvs' ++ [(Sum.inr n, v)], ?_, ?_, by rw [upd_same, e1], ?_, ?_, B34.upd (.inl (by simp))⟩
    · rw [keysD, List.map_append, show out.map (·.1) = ys.take i from o1, List.take_add_one, hn]
      rfl
    · intro y m
      rcases List.mem_append.mp m with m | m
      · exact o2 y m
      · rw [List.mem_singleton.mp m]
        exact re
    · rw [List.map_append, List.map_append, o4]
      rfl
    · have nv' : NewT (upd H1 Dd (.dK [])) H5 e v := fun M s t => by
        refine At.mono' (M := M ++ [Dd]) (fun p o m e => ⟨fun z => m (List.mem_append.mpr (.inl z)), e⟩) e v (nv (M ++ [Dd]) ?_ ?_)
        · exact (Std.but s B3).app (Std.cons o3 Std.nil)
        · intro y m zs z
          rcases List.mem_append.mp m with m | m
          · by_cases yd : y = Dd
            · rw [yd, o3] at z
              cases z
            · cases q5 : (upd H1 Dd (.dK [])) y with
              | none => exact s y m q5
              | some o =>
                have := B3.keep y o (by simpa using yd) q5
                rw [this] at z
                exact t y m zs (by rw [q5, z])
          · rw [List.mem_singleton.mp m, o3] at z
            cases z
      refine NewTP.mono (M := [Dd]) ((o5.mono Std.nil NoTup.nil B5).snoc nv') std2 nt2 (But.refl.upd (.inl (by simp)))
  · rintro H3 ⟨out, kvs', o1, o2, o3, o4, o5, B3⟩
    rw [List.length_map, List.take_length] at o1
    have hD0 : H Dd = none := B1.free hD
    have B03 : But [] H H3 := by
      refine ⟨fun a o _ e => ?_, fun a e => B3.stand a (B02.stand a e)⟩
      have aD : a ≠ Dd := fun z => by rw [z, hD0] at e; cases e
      exact B3.keep a o (by simpa using aD) (B02.keep a o (by simp) e)
    exact k out Dd H3 (by rw [o1]; exact hperm) (by rw [o1]; exact hsort) o2 (NewT.dctm o5 B02 hD0 o3) B03
end Kb

set_option Elab.async false
set_option linter.all false
set_option maxRecDepth 100000
set_option maxHeartbeats 4000000
/-! Kb, 17: copied_links, copied_own, of good parts. -/
namespace Kb
open PySem PySem.Spec PyProof.Rows L2

def D.isDct : D → Bool
  | .dct _ => true
  | _ => false
theorem kit_dct {K : PySem.W.Frag} {d : D} : PySem.W.kitOne K (.type d.ty) (.type "dict") = some d.isDct := by
  cases d with
  | non => exact kit_ty (show kitB "NoneType" "dict" = some false by decide +kernel)
  | bl _ => exact kit_ty (show kitB "bool" "dict" = some false by decide +kernel)
  | int _ => exact kit_ty (show kitB "int" "dict" = some false by decide +kernel)
  | str _ => exact kit_ty (show kitB "str" "dict" = some false by decide +kernel)
  | tup _ => exact kit_ty (show kitB "tuple" "dict" = some false by decide +kernel)
  | lst _ => exact kit_ty (show kitB "list" "dict" = some false by decide +kernel)
  | dct _ => exact kit_ty (show kitB "dict" "dict" = some true by decide +kernel)
theorem fine_name {k : Str} (h : nameB k = true) : (D.str k).fine = true := by
  have n := nameB_iff.mp h
  show decide _ = true
  refine decide_eq_true ?_
  rw [len_cs]
  have := n.hi
  show (cs k).length ≤ _
  omega
/-- a dict of data walked with its items: nothing but new pairs -/
theorem for_items {K : PySem.W.Frag} {σ : L2.St} {p : Addr} {a i j : Nat} {kds : List (Str × D)} {kvs : List (Key × V)} {H : Hp} {D : Ends} {tb : TS} (hσ : σ[a]? = some (some (.ref p))) (hp : H p = some (.dK kvs)) (hl : AtP [p] H kds kvs)
    (S : L2.St → Prop) (hS : S σ)
    (step : ∀ k e v σ1 H1 (D1 : Ends), (k, e) ∈ kds → S σ1 → At [] H1 e v → (∀ d x, At [p] H d x → At [] H1 d x) → (∀ σ2 H2, S σ2 → But [] H1 H2 → D1.nx σ2 H2) → tb D1 ((σ1.set i (some (.str k))).set j (some v)) H1)
    (k : ∀ σ2 H2, S σ2 → But [] H H2 → D.nx σ2 H2) :
    tLock (tFor (iItems (tVar a)) (gTup K 2 (gCons (gName i) (gCons (gName j) gNil))) tb) D σ H := by
  refine ⟨p, .dK kvs, hp, trivial, fun od => ?_⟩
  have hl' : AtP [p] (upd H p (.frz od (.dK kvs))) kds kvs := hl.mono (lock_but hp)
  have hpl : upd H p (.frz od (.dK kvs)) p = some (.frz od (.dK kvs)) := upd_same
  refine ⟨_, hσ, p, od, kvs, rfl, hpl, for_it walk_items (fun n σ' H' => S σ' ∧ But [] (upd H p (.frz od (.dK kvs))) H') ⟨hS, But.refl⟩ (fun n σ' H' _ q => q.2.keep _ _ (by simp) hpl) ?_ ?_⟩
  · rintro n x σ1 H1 H2 hn ⟨s1, B⟩ ⟨T, y, z, rfl, hT, rfl, hy, hz⟩
    dsimp only at hy hz
    cases e : kvs[n]? with
    | none =>
      rw [e] at hy
      cases hy
    | some kv =>
      obtain ⟨k0, v0⟩ := kv
      rw [e] at hy hz
      cases hy
      cases hz
      obtain ⟨nm, d, q1, q2, q3⟩ := hl'.get e
      subst q2
      have B2 : But [] H1 (upd H1 T (.tup [kV (Sum.inr nm), v0])) := But.new hT
      refine ⟨T, _, rfl, SqT.of upd_same, rfl, _, _, rfl, _, _, rfl, rfl, ?_⟩
      refine step nm d v0 σ1 _ _ (List.mem_of_getElem? q1) s1 (((q3.less (M' := []) (by simp)).mono B).mono B2) (fun d' x' h => (((h.mono (lock_but hp)).less (M' := []) (by simp)).mono B).mono B2) (fun σ2 H2 s2 b2 => ⟨s2, (B.trans B2).trans b2⟩)
  · rintro σ1 H1 ⟨s1, B⟩
    exact ⟨B.keep _ _ (by simp) hpl, k _ _ s1 (unlock_but hp B)⟩

structure LinksGood (kds : List (Str × D)) : Prop where
  len : kds.length ≤ 2
  nd : (keysD kds).Nodup
  ok : ∀ x ∈ kds, nameB x.1 = true ∧ isChoiceD x.2 = true ∧ x.2.fine = true
/-- sorted choices of a given datum -/
def ChoOf (d e : D) : Prop := ∃ ys : List Str, e = nmD ys ∧ ys.Perm (strsOf d.items) ∧ sortedS ys = true
structure DictOut (R : D → D → Prop) (kds out : List (Str × D)) : Prop where
  perm : (keysD out).Perm (keysD kds)
  so : sortedS (keysD out) = true
  ok : ∀ x ∈ out, ∃ d, kds.lookup x.1 = some d ∧ R d x.2
def sp_copied_links (K : PySem.W.Frag) : Sp := fun vs H Q _ => ∃ (kds : List (Str × D)) (x : V), vs = [x] ∧ At [] H (.dct kds) x ∧ LinksGood kds ∧
  ∀ out p H', DictOut ChoOf kds out → NewT H H' (.dct out) (.ref p) → But [] H H' → Q (.ref p) H'
theorem len_copied_links {K : PySem.W.Frag} {vs : List V} {H : Hp} {Q : VK} {E : XK} (h : sp_copied_links K vs H Q E) : vs.length = 1 := by
  obtain ⟨_, _, rfl, _⟩ := h
  rfl
def t_copied_links (K : PySem.W.Frag) : TS :=
  (tSeq (tIfS (tOr (tNot (tB (tCB (rIsi K) (tCons (tVar 0) (tCons (tC (.ty "dict")) tNil))))) (tTest (tOp rGtI (tCB rLenD (tCons (tVar 0) tNil)) (tC (.int 2)))))
    tNever
    tNext)
  (tSeq (tLock (tFor (iItems (tVar 0)) (gTup K 2 (gCons (gName 1) (gCons (gName 2) gNil)))
    (tIfS (tOr (tNot (tB (tCall (sp_is_name K) [] E0 (tCons (tVar 1) tNil)))) (tNot (tB (tCall (sp_is_choice_list K) [] E0 (tCons (tVar 2) tNil)))))
    tNever
    tNext)))
  (tRet (tDc (iList K (tCB rSortD (tCons (tVar 0) tNil))) (gName 1) tYes (tVar 1) (tCB (rTupOf K) (tCons (tCB (rSortedA K) (tCons (tDGet (tVar 0) (tVar 1)) tNil)) tNil)) [1]))))
theorem lookup_mem : ∀ {kds : List (Str × D)} {n : Str} {d : D}, kds.lookup n = some d → (n, d) ∈ kds
  | [], _, _, h => by cases h
  | (k, e) :: r, n, d, h => by
    rw [List.lookup_cons] at h
    by_cases z : n = k
    · rw [beq_iff_eq.mpr z] at h
      cases h
      rw [z]
      exact List.mem_cons_self
    · rw [beq_eq_false_iff_ne.mpr z] at h
      exact List.mem_cons_of_mem _ (lookup_mem h)
theorem choice_strs {M : List Addr} {H : Hp} {d : D} {xs : List V} (h : isChoiceD d = true) (hl : AtL M H d.items xs) : d.isSeq = true ∧ xs = (strsOf d.items).map V.str ∧ (strsOf d.items).length ≤ 4 ∧ (strsOf d.items).Nodup ∧ strsOf d.items ≠ [] := by
  unfold isChoiceD at h
  obtain ⟨h1, h⟩ := Bool.and_eq_true_iff.mp h
  obtain ⟨h2, h⟩ := Bool.and_eq_true_iff.mp h
  obtain ⟨h3, h⟩ := Bool.and_eq_true_iff.mp h
  obtain ⟨h4, h5⟩ := Bool.and_eq_true_iff.mp h
  obtain ⟨e1, e2⟩ := strs_at hl (all_mono h4 fun _ => ne_isStr)
  have a := of_decide_eq_true h2
  have b := of_decide_eq_true h3
  exact ⟨h1, e1, by omega, of_decide_eq_true h5, fun z => by rw [z] at e2; simp at e2; omega⟩
theorem pure_copied_links {K : PySem.W.Frag} (vs : List V) (H : Hp) (Q : VK) (E : XK) (h : sp_copied_links K vs H Q E) : t_copied_links K (fin Q) (st0 3 vs) H := by
  obtain ⟨kds, x, rfl, hx, g, k⟩ := h
  obtain ⟨p, kvs, rfl, hp, hl⟩ := hx.dct
  have hlen := hl.length
  have g1 := g.len
  refine ⟨_, rfl, .ref p, _, _, _, true, rfl, .ty _, hx.ty, kit_dct, _, rfl, ?_⟩
  refine iteF ⟨_, rfl, p, kvs, rfl, hp, _, _, rfl, rfl, _, rfl, ?_⟩
  refine ite2 (fun z => absurd (of_decide_eq_true z) (by omega)) fun _ => ?_
  refine for_items (K := K) (kds := kds) rfl hp hl (fun σ => ∃ v1 v2, σ = [some (.ref p), v1, v2]) ⟨_, _, rfl⟩ ?_ ?_
  · rintro n e v σ1 H1 D1 hm ⟨v1, v2, rfl⟩ he - nx
    obtain ⟨o1, o2, o3⟩ := g.ok _ hm
    refine ⟨_, rfl, .str n, .str n, rfl, rfl, fine_name o1, fun H2 b2 => ⟨_, rfl, ?_⟩⟩
    rw [show isNameD (.str n) = true from o1]
    refine iteF ⟨_, rfl, e, v, rfl, he.mono b2, o3, fun H3 b3 => ⟨_, rfl, ?_⟩⟩
    rw [o2]
    exact iteF (nx _ _ ⟨_, _, rfl⟩ (b2.trans b3))
  · rintro σ2 H2 ⟨v1, v2, rfl⟩ B
    have hp2 := B.keep _ _ (by simp) hp
    have hl2 : AtP [] H2 kds kvs := (hl.less (M' := []) (by simp)).mono B
    refine dc_sorted (K := K) (kds := kds) rfl (by show 1 < 3; omega) hp2 hl2 g.nd (by omega) (fun n e => ∃ d, kds.lookup n = some d ∧ ChoOf d e) ?_ ?_
    · intro n hn H3 Q2 B3 q
      obtain ⟨d, v, e1, e2, e3⟩ := (hl2.mono B3).val hn
      obtain ⟨o1, o2, o3⟩ := g.ok _ (lookup_mem e1)
      have hs : d.isSeq = true := (Bool.and_eq_true_iff.mp (show (d.isSeq && _) = true from o2)).1
      obtain ⟨r, xs, rfl, hq, hr⟩ := e3.seq (K := K) hs
      obtain ⟨_, rfl, c2, c3, c4⟩ := choice_strs o2 hr
      refine ⟨_, rfl, _, rfl, p, _, rfl, .inl ⟨kvs, .inr n, .inl (B3.keep _ _ (by simp) hp2), rfl, e2.symm⟩, r, _, rfl, hq, by omega, fun ys q2 hperm hsort hq2 => ?_⟩
      refine ⟨q2, _, rfl, .inl ⟨SqL.of upd_same, fun l hl => ?_⟩⟩
      refine q (nmD ys) (.ref l) _ ⟨d, e1, ys, rfl, hperm, hsort⟩ (New.strs ((But.new (M := []) hq2).free hl) upd_same).toT ((But.new hq2).upd' hl)
    · intro out q H' o1 o2 o3 o4 o5
      exact k out q H' ⟨o1, o2, o3⟩ (o4.pre B) (B.trans o5)
end Kb

set_option Elab.async false
set_option linter.all false
set_option maxRecDepth 100000
set_option maxHeartbeats 4000000
/-! Kb, 18: copied_own, copied_rules, of good parts. -/
namespace Kb
open PySem PySem.Spec PyProof.Rows L2

def D.isFlat : D → Bool
  | .tup _ => false
  | .lst _ => false
  | .dct _ => false
  | _ => true
theorem At.flat {M M' : List Addr} {H H' : Hp} : ∀ {d : D} {v : V}, d.isFlat = true → At M H d v → At M' H' d v
  | .non, _, _, h => h
  | .bl _, _, _, h => h
  | .int _, _, _, h => h
  | .str _, _, _, h => h
theorem AtL.flat {M M' : List Addr} {H H' : Hp} : ∀ {ds : List D} {xs : List V}, ds.all D.isFlat = true → AtL M H ds xs → AtL M' H' ds xs
  | [], _, _, h => h
  | d :: ds, _, f, h => by
    obtain ⟨x, r, rfl, h1, h2⟩ := h
    rw [List.all_cons] at f
    obtain ⟨f1, f2⟩ := Bool.and_eq_true_iff.mp f
    exact ⟨x, r, rfl, At.flat f1 h1, AtL.flat f2 h2⟩
theorem str_flat {d : D} (h : d.isStr = true) : d.isFlat = true := by cases d <;> first | rfl | cases h
/-- tuple(x), x a list or a tuple of flat data -/
theorem tuple_of {K : PySem.W.Frag} {H : Hp} {d : D} {v : V} {Q : VK} (h : At [] H d v) (hs : d.isSeq = true) (hf : d.items.all D.isFlat = true)
    (k : ∀ w H', NewT H H' (.tup d.items) w → But [] H H' → Q w H') : rTupOf K [v] H Q := by
  cases d with
  | tup ds =>
    obtain ⟨p, xs, rfl, _, hp, hl⟩ := h
    exact ⟨p, xs, rfl, .inr ⟨SqT.of hp, k _ H (fun M s t => ⟨p, xs, rfl, fun m => t p m xs hp, hp, AtL.flat hf hl⟩) But.refl⟩⟩
  | lst ds =>
    obtain ⟨p, xs, rfl, _, hp, hl⟩ := h
    exact ⟨p, xs, rfl, .inl ⟨SqL.of hp, fun l hn => k _ _ (NewT.tupm (H0 := H) (fun M s t => AtL.flat hf hl) But.refl hn upd_same) (But.new hn)⟩⟩
  | _ => cases hs

/-! ### copied_own -/
structure OwnGood (kds lks : List (Str × D)) : Prop where
  len : kds.length ≤ 5
  nd : (keysD kds).Nodup
  ok : ∀ x ∈ kds, nameB x.1 = true ∧ isOwnD x.2 lks = true ∧ x.2.fine = true
def TupOf (d e : D) : Prop := e = .tup d.items
def sp_copied_own (K : PySem.W.Frag) : Sp := fun vs H Q _ => ∃ (kds lks : List (Str × D)) (x y : V), vs = [x, y] ∧ At [] H (.dct kds) x ∧ At [] H (.dct lks) y ∧ (∀ p, x = .ref p → At [p] H (.dct lks) y) ∧ OwnGood kds lks ∧
  ∀ out p H', DictOut TupOf kds out → NewT H H' (.dct out) (.ref p) → But [] H H' → Q (.ref p) H'
theorem len_copied_own {K : PySem.W.Frag} {vs : List V} {H : Hp} {Q : VK} {E : XK} (h : sp_copied_own K vs H Q E) : vs.length = 2 := by
  obtain ⟨_, _, _, _, rfl, _⟩ := h
  rfl
def t_copied_own (K : PySem.W.Frag) : TS :=
  (tSeq (tIfS (tOr (tNot (tB (tCB (rIsi K) (tCons (tVar 0) (tCons (tC (.ty "dict")) tNil))))) (tTest (tOp rGtI (tCB rLenD (tCons (tVar 0) tNil)) (tC (.int 5)))))
    tNever
    tNext)
  (tSeq (tLock (tFor (iItems (tVar 0)) (gTup K 2 (gCons (gName 2) (gCons (gName 3) gNil)))
    (tIfS (tOr (tNot (tB (tCall (sp_is_name K) [] E0 (tCons (tVar 2) tNil)))) (tNot (tB (tCall (sp_is_own_answer K) [] E0 (tCons (tVar 3) (tCons (tVar 1) tNil))))))
    tNever
    tNext)))
  (tRet (tDc (iList K (tCB rSortD (tCons (tVar 0) tNil))) (gName 2) tYes (tVar 2) (tCB (rTupOf K) (tCons (tDGet (tVar 0) (tVar 2)) tNil)) [2]))))
theorem own_flat {d : D} {lks : List (Str × D)} (h : isOwnD d lks = true) : d.isSeq = true ∧ d.items.all D.isFlat = true := by
  unfold isOwnD at h
  match e : d.items with
  | [] =>
    rw [e] at h
    cases h
  | [.str f] =>
    rw [e] at h
    exact ⟨(Bool.and_eq_true_iff.mp h).1, rfl⟩
  | [.str f, y] =>
    rw [e] at h
    obtain ⟨h1, h2⟩ := Bool.and_eq_true_iff.mp h
    obtain ⟨h2, h3⟩ := Bool.and_eq_true_iff.mp h2
    refine ⟨h1, ?_⟩
    show (true && (y.isFlat && true)) = true
    rw [Bool.true_and, Bool.and_true]
    split at h3
    · exact str_flat (name_isStr h3)
    · obtain ⟨h4, h5⟩ := Bool.and_eq_true_iff.mp h3
      cases y <;> first | rfl | cases h5
  | .non :: _ => rw [e] at h; cases h
  | .bl _ :: _ => rw [e] at h; cases h
  | .int _ :: _ => rw [e] at h; cases h
  | .tup _ :: _ => rw [e] at h; cases h
  | .lst _ :: _ => rw [e] at h; cases h
  | .dct _ :: _ => rw [e] at h; cases h
  | .str _ :: _ :: _ :: _ => rw [e] at h; cases h
theorem pure_copied_own {K : PySem.W.Frag} (vs : List V) (H : Hp) (Q : VK) (E : XK) (h : sp_copied_own K vs H Q E) : t_copied_own K (fin Q) (st0 4 vs) H := by
  obtain ⟨kds, lks, x, y, rfl, hx, hy, hxy, g, k⟩ := h
  obtain ⟨p, kvs, rfl, hp, hl⟩ := hx.dct
  have hyp := hxy p rfl
  have hlen := hl.length
  have g1 := g.len
  refine ⟨_, rfl, .ref p, _, _, _, true, rfl, .ty _, hx.ty, kit_dct, _, rfl, ?_⟩
  refine iteF ⟨_, rfl, p, kvs, rfl, hp, _, _, rfl, rfl, _, rfl, ?_⟩
  refine ite2 (fun z => absurd (of_decide_eq_true z) (by omega)) fun _ => ?_
  refine for_items (K := K) (kds := kds) rfl hp hl (fun σ => ∃ v1 v2, σ = [some (.ref p), some y, v1, v2]) ⟨_, _, rfl⟩ ?_ ?_
  · rintro n e v σ1 H1 D1 hm ⟨v1, v2, rfl⟩ he up nx
    obtain ⟨o1, o2, o3⟩ := g.ok _ hm
    refine ⟨_, rfl, .str n, .str n, rfl, rfl, fine_name o1, fun H2 b2 => ⟨_, rfl, ?_⟩⟩
    rw [show isNameD (.str n) = true from o1]
    refine iteF ⟨_, rfl, _, rfl, e, lks, v, y, rfl, he.mono b2, (up _ _ hyp).mono b2, o3, fun H3 b3 => ⟨_, rfl, ?_⟩⟩
    rw [o2]
    exact iteF (nx _ _ ⟨_, _, rfl⟩ (b2.trans b3))
  · rintro σ2 H2 ⟨v1, v2, rfl⟩ B
    have hp2 := B.keep _ _ (by simp) hp
    have hl2 : AtP [] H2 kds kvs := (hl.less (M' := []) (by simp)).mono B
    refine dc_sorted (K := K) (kds := kds) rfl (by show 2 < 4; omega) hp2 hl2 g.nd (by omega) (fun n e => ∃ d, kds.lookup n = some d ∧ TupOf d e) ?_ ?_
    · intro n hn H3 Q2 B3 q
      obtain ⟨d, v, e1, e2, e3⟩ := (hl2.mono B3).val hn
      obtain ⟨o1, o2, o3⟩ := g.ok _ (lookup_mem e1)
      obtain ⟨f1, f2⟩ := own_flat o2
      exact ⟨_, rfl, _, rfl, p, _, rfl, .inl ⟨kvs, .inr n, .inl (B3.keep _ _ (by simp) hp2), rfl, e2.symm⟩, tuple_of e3 f1 f2 fun w H4 nw b4 => q _ w H4 ⟨d, e1, rfl⟩ nw b4⟩
    · intro out q H' o1 o2 o3 o4 o5
      exact k out q H' ⟨o1, o2, o3⟩ (o4.pre B) (B.trans o5)

/-! ### copied_rules -/
/-- a rule as it is kept -/
def RuleOf (d e : D) : Prop := ∃ f ns rest ys, d.items = .str f :: ns :: rest ∧ e = .tup (.str f :: nmD ys :: rest) ∧ ys.Perm (strsOf ns.items) ∧ sortedS ys = true
inductive ListOut (R : D → D → Prop) : List D → List D → Prop where
  | nil : ListOut R [] []
  | snoc {ds es d e} : ListOut R ds es → R d e → ListOut R (ds ++ [d]) (es ++ [e])
theorem ListOut.length {R : D → D → Prop} {ds es : List D} (h : ListOut R ds es) : es.length = ds.length := by
  induction h with
  | nil => rfl
  | snoc _ _ ih => rw [List.length_append, List.length_append, ih]; rfl
def sp_copied_rules (K : PySem.W.Frag) : Sp := fun vs H Q _ => ∃ (d : D) (lks : List (Str × D)) (x y : V), vs = [x, y] ∧ At [] H d x ∧ At [] H (.dct lks) y ∧ d.isSeq = true ∧ d.items.length ≤ 300 ∧ d.fine = true ∧ d.items.all (isRuleD · lks) = true ∧
  ∀ out p H', ListOut RuleOf d.items out → NewT H H' (.lst out) (.ref p) → But [] H H' → Q (.ref p) H'
theorem len_copied_rules {K : PySem.W.Frag} {vs : List V} {H : Hp} {Q : VK} {E : XK} (h : sp_copied_rules K vs H Q E) : vs.length = 2 := by
  obtain ⟨_, _, _, _, rfl, _⟩ := h
  rfl
def t_copied_rules (K : PySem.W.Frag) : TS :=
  (tSeq (tIfS (tOr (tNot (tB (tCall (sp_is_list K) [] E0 (tCons (tVar 0) tNil)))) (tTest (tOp rGtI (tCB (rLenA K) (tCons (tVar 0) tNil)) (tC (.int 300)))))
    tNever
    tNext)
  (tSeq (tIfS (tNot (tB (tCB (rAll K) (tCons (tLc (iSeq K (tVar 0)) (gName 2) tYes (tCall (sp_is_rule K) [] E0 (tCons (tVar 2) (tCons (tVar 1) tNil))) [2]) tNil))))
    tNever
    tNext)
  (tRet (tLc (iSeq K (tVar 0)) (gName 2) tYes (tOp (rCatT K) (tTup (tCons (tOp (rIx K) (tVar 2) (tC (.int 0))) (tCons (tCB (rTupOf K) (tCons (tCB (rSortedA K) (tCons (tOp (rIx K) (tVar 2) (tC (.int 1))) tNil)) tNil)) tNil))) (tCB (rTupOf K) (tCons (tSl (fun x lo hi H Q => rSlL K x lo hi H Q ∨ rSlA K x lo hi H Q) (tVar 2) (tPart (tC (.int 2))) tNoPart) tNil))) [2]))))
theorem names_strs {M : List Addr} {H : Hp} {d : D} {xs : List V} (h : isNamesD d = true) (hl : AtL M H d.items xs) : d.isSeq = true ∧ xs = (strsOf d.items).map V.str ∧ (strsOf d.items).length ≤ 4 ∧ (strsOf d.items).Nodup := by
  unfold isNamesD at h
  obtain ⟨h1, h⟩ := Bool.and_eq_true_iff.mp h
  obtain ⟨h3, h⟩ := Bool.and_eq_true_iff.mp h
  obtain ⟨h4, h5⟩ := Bool.and_eq_true_iff.mp h
  obtain ⟨e1, e2⟩ := strs_at hl (all_mono h4 fun _ => name_isStr)
  have b := of_decide_eq_true h3
  exact ⟨h1, e1, by omega, of_decide_eq_true h5⟩
theorem flag_flat {d : D} (h : isFlagD d = true) : d.isFlat = true := by cases d <;> first | rfl | cases h
theorem link_flat {d : D} {l : List (Str × D)} (h : isLinkD d l = true) : d.isFlat = true := by cases d <;> first | rfl | cases h
theorem manner_flat {d : D} (h : isMannerD d = true) : d.isFlat = true := by cases d <;> first | rfl | cases h
theorem rest_flat {f : Str} {ds : List D} {lks : List (Str × D)} (h : isRestD f ds lks = true) : ds.all D.isFlat = true ∧ ds.length ≤ 4 := by
  unfold isRestD at h
  split at h
  · have := List.eq_nil_of_length_eq_zero (of_decide_eq_true h)
    subst this
    exact ⟨rfl, by simp⟩
  · split at h
    · match ds, h with
      | [v], h => exact ⟨by show (v.isFlat && true) = true; rw [str_flat (name_isStr h)]; rfl, by simp⟩
    · split at h
      · match ds, h with
        | [l, m], h =>
          obtain ⟨a, b⟩ := Bool.and_eq_true_iff.mp (show (isLinkD l lks && isMannerD m) = true from h)
          exact ⟨by show (l.isFlat && (m.isFlat && true)) = true; rw [link_flat a, manner_flat b]; rfl, by simp⟩
      · have h := (Bool.and_eq_true_iff.mp h).2
        match ds, h with
        | [l, u, m, w], h =>
          obtain ⟨a, b⟩ := Bool.and_eq_true_iff.mp (show (isLinkD l lks && (isNED u && (isMannerD m && isFlagD w))) = true from h)
          obtain ⟨b, c⟩ := Bool.and_eq_true_iff.mp b
          obtain ⟨c, d⟩ := Bool.and_eq_true_iff.mp c
          exact ⟨by show (l.isFlat && (u.isFlat && (m.isFlat && (w.isFlat && true)))) = true; rw [link_flat a, str_flat (ne_isStr b), manner_flat c, flag_flat d]; rfl, by simp⟩
theorem rule_parts {d : D} {lks : List (Str × D)} (h : isRuleD d lks = true) : ∃ f ns rest, d.items = .str f :: ns :: rest ∧ d.isSeq = true ∧ isNamesD ns = true ∧ rest.all D.isFlat = true ∧ rest.length ≤ 4 := by
  unfold isRuleD at h
  match e : d.items with
  | .str f :: ns :: rest =>
    rw [e] at h
    obtain ⟨h1, h2⟩ := Bool.and_eq_true_iff.mp h
    obtain ⟨h2, h3⟩ := Bool.and_eq_true_iff.mp h2
    exact ⟨f, ns, rest, rfl, h1, h2, rest_flat h3⟩
  | [] => rw [e] at h; cases h
  | [d0] => rw [e] at h; cases d0 <;> cases h
  | .non :: _ :: _ => rw [e] at h; cases h
  | .bl _ :: _ :: _ => rw [e] at h; cases h
  | .int _ :: _ :: _ => rw [e] at h; cases h
  | .tup _ :: _ :: _ => rw [e] at h; cases h
  | .lst _ :: _ :: _ => rw [e] at h; cases h
  | .dct _ :: _ :: _ => rw [e] at h; cases h
end Kb

set_option Elab.async false
set_option linter.all false
set_option maxRecDepth 100000
set_option maxHeartbeats 4000000
/-! Kb, 19: copied_rules keeps its promise. -/
namespace Kb
open PySem PySem.Spec PyProof.Rows L2

/-- one rule is copied -/
theorem copy_rule {K : PySem.W.Frag} {σ : L2.St} {d : D} {lks : List (Str × D)} {v : V} {H : Hp} {Q : VK} (hσ : σ[2]? = some (some v)) (hv : At [] H d v) (ok : isRuleD d lks = true)
    (k : ∀ e w H', RuleOf d e → NewT H H' e w → But [] H H' → Q w H') :
    tOp (rCatT K) (tTup (tCons (tOp (rIx K) (tVar 2) (tC (.int 0))) (tCons (tCB (rTupOf K) (tCons (tCB (rSortedA K) (tCons (tOp (rIx K) (tVar 2) (tC (.int 1))) tNil)) tNil)) tNil))) (tCB (rTupOf K) (tCons (tSl (fun x lo hi H Q => rSlL K x lo hi H Q ∨ rSlA K x lo hi H Q) (tVar 2) (tPart (tC (.int 2))) tNoPart) tNil)) σ H Q := by
  obtain ⟨f, ns, rest, hit, hs, hn, hf, hr4⟩ := rule_parts ok
  obtain ⟨p, xs, rfl, hq, hl⟩ := hv.seq (K := K) hs
  rw [hit] at hl
  obtain ⟨x0, _, rfl, h0, x1, r, rfl, h1, hr⟩ := hl
  obtain rfl : x0 = V.str f := h0
  have hns : ns.isSeq = true := (Bool.and_eq_true_iff.mp (show (ns.isSeq && _) = true from hn)).1
  obtain ⟨q, ys, rfl, hqn, hln⟩ := h1.seq (K := K) hns
  obtain ⟨_, rfl, l4, _⟩ := names_strs hn hln
  have rlen := hr.length
  refine ⟨_, hσ, hq.ixR (i := 0) rfl rfl ?_⟩
  refine ⟨_, hσ, hq.ixR (i := 1) rfl rfl ⟨q, _, rfl, hqn, by omega, fun zs q1 hperm hsort hq1 => ?_⟩⟩
  refine ⟨q1, _, rfl, .inl ⟨SqL.of upd_same, fun q2 hq2 => ?_⟩⟩
  have B2 : But [] H (upd (upd H q1 (.lst (zs.map V.str))) q2 (.tup (zs.map V.str))) := (But.new hq1).upd' hq2
  have hz : (upd (upd H q1 (.lst (zs.map V.str))) q2 (.tup (zs.map V.str))) q2 = some (.tup (zs.map V.str)) := upd_same
  have q20 : H q2 = none := (But.new (M := []) hq1).free hq2
  generalize upd (upd H q1 (.lst (zs.map V.str))) q2 (.tup (zs.map V.str)) = H2 at B2 hz ⊢
  refine ⟨by show 2 ≤ sizeLine; decide, fun q3 hq3 => ?_⟩
  have B3 : But [] H2 (upd H2 q3 (.tup [.str f, .ref q2])) := But.new hq3
  have h3 : (upd H2 q3 (.tup [.str f, .ref q2])) q3 = some (.tup [.str f, .ref q2]) := upd_same
  have q30 : H q3 = none := B2.free hq3
  generalize upd H2 q3 (.tup [.str f, .ref q2]) = H3 at B3 h3 ⊢
  have B03 := B2.trans B3
  refine ⟨_, hσ, 2, rfl, sl2 (hq.but B03) fun q4 H4 hq4 B4 => ?_⟩
  have B04 := B03.trans B4
  have names : ∀ H5, But [] H4 H5 → NewT H H5 (nmD zs) (.ref q2) := fun H5 b => (New.strs (ys := zs) q20 (b.keep _ _ (by simp) (B4.keep _ _ (by simp) (B3.keep _ _ (by simp) hz)))).toT
  -- what stands when the rest is a tuple at q5
  have fin_ : ∀ q5 H5, SqT K H5 q5 r → But [] H4 H5 → rCatT K (.ref q3) (.ref q5) H5 Q := fun q5 H5 h5 b5 => by
    have B05 := B04.trans b5
    have h35 : H5 q3 = some (.tup [.str f, .ref q2]) := b5.keep _ _ (by simp) (B4.keep _ _ (by simp) h3)
    refine ⟨q3, q5, [.str f, .ref q2], r, rfl, rfl, SqT.of h35, h5, by simp, Nat.le_trans (by simp; omega) (show 10 ≤ sizeLine by decide), fun z => ?_, fun _ l hl => ?_⟩
    · have hd : rest = [] := by
        cases rest with
        | nil => rfl
        | cons a b =>
          rw [z] at rlen
          cases rlen
      refine k (.tup (.str f :: nmD zs :: rest)) _ H5 ⟨f, ns, rest, zs, hit, rfl, hperm, hsort⟩ ?_ B05
      rw [hd]
      exact NewT.tupm (H0 := H) (fun M s t => ⟨_, _, rfl, rfl, _, _, rfl, names H5 b5 M s t, rfl⟩) But.refl q30 h35
    · have B06 : But [] H (upd H5 l (.tup (.str f :: .ref q2 :: r))) := B05.upd' hl
      refine k (.tup (.str f :: nmD zs :: rest)) _ _ ⟨f, ns, rest, zs, hit, rfl, hperm, hsort⟩ ?_ B06
      exact NewT.tupm (H0 := H) (fun M s t => ⟨_, _, rfl, rfl, _, _, rfl, names _ (b5.upd' hl) M s t, AtL.flat hf hr⟩) But.refl (B05.free hl) upd_same
  rcases hq4 with hq4 | hq4
  · exact ⟨q4, r, rfl, .inl ⟨hq4, fun l hl => fin_ l _ (SqT.of upd_same) (But.new hl)⟩⟩
  · exact ⟨q4, r, rfl, .inr ⟨hq4, fin_ q4 H4 hq4 But.refl⟩⟩
theorem take_snoc {α : Type} {l : List α} {i : Nat} {x : α} (h : l[i]? = some x) : l.take (i + 1) = l.take i ++ [x] := by
  rw [List.take_add_one, h]
  rfl
theorem pure_copied_rules {K : PySem.W.Frag} (vs : List V) (H : Hp) (Q : VK) (E : XK) (h : sp_copied_rules K vs H Q E) : t_copied_rules K (fin Q) (st0 3 vs) H := by
  obtain ⟨d, lks, x, y, rfl, hx, hy, hs, h300, hf, ok, k⟩ := h
  refine ⟨_, rfl, d, x, rfl, hx, hf, fun H1 b1 => ⟨_, rfl, ?_⟩⟩
  rw [hs]
  obtain ⟨p, xs, rfl, hq, hl⟩ := (hx.mono b1).seq (K := K) hs
  have hlen := hl.length
  obtain ⟨f1, f2⟩ := D.fine_items hf
  refine iteF ⟨_, rfl, _, xs.length, rfl, hq.lenV, _, _, rfl, rfl, _, rfl, ?_⟩
  refine ite2 (fun z => absurd (of_decide_eq_true z) (by omega)) fun _ => ?_
  have hy1 := hy.mono b1
  unfold tNext tSeq tIfS tNot tB
  dsimp only
  unfold tCB tCons
  refine lc_seq (K := K) (i := 0) (j := 2) (te := tCall (sp_is_rule K) [] E0 (tCons (tVar 2) (tCons (tVar 1) tNil))) (σ := [some (.ref p), some y, none]) (p := p) (xs := xs) rfl hq (fun n => V.bl (isRuleD (d.items.getD n .non) lks)) (by omega) ?_ ?_
  · intro n v H2 hv b2 Q' q
    obtain ⟨dy, hdy, hay⟩ := hl.get hv
    refine ⟨_, rfl, _, rfl, dy, lks, v, y, rfl, hay.mono b2, hy1.mono b2, fineL_get f2 hdy, fun H3 b3 => ?_⟩
    have e : d.items.getD n .non = dy := by rw [List.getD_eq_getElem?_getD, hdy]; rfl
    have := q H3 b3
    rw [e] at this
    exact this
  · intro Dl H2 hD hD2 b2
    have e : (List.range xs.length).map (fun n => V.bl (isRuleD (d.items.getD n .non) lks)) = (d.items.map fun z => isRuleD z lks).map V.bl := by
      rw [hlen]
      exact map_range (f := fun z => isRuleD z lks)
    rw [e] at hD2
    refine ⟨Dl, d.items.map fun z => isRuleD z lks, rfl, SqL.of hD2, _, rfl, ?_⟩
    rw [List.all_map]
    show (if (!(d.items.all fun z => isRuleD z lks)) = true then _ else _)
    rw [ok]
    refine iteF ?_
    have b02 := b1.trans b2
    have hl2 := hl.mono b2
    unfold tRet tLc
    refine rd_seq (i := 0) (σ := [some (.ref p), some y, none]) rfl (hq.but b2) fun J G w hG => ?_
    intro Dd hDd
    have hD3 : upd H2 Dd (.lst []) Dd = some (.lst []) := upd_same
    have B23 : But [] H2 (upd H2 Dd (.lst [])) := But.new hDd
    refine lc_it w (fun i H' => ∃ (out : List D) (ys : List V), H' Dd = some (.lst ys) ∧ ListOut RuleOf (d.items.take i) out ∧ NewTL (upd H2 Dd (.lst [])) H' out ys ∧ ys.length = i ∧ But [Dd] (upd H2 Dd (.lst [])) H')
      ⟨[], [], hD3, .nil, fun _ _ _ => rfl, rfl, But.refl⟩ (fun i H' _ ⟨_, _, _, _, _, _, B⟩ => hG H' ?_) ?_ ?_
    · refine ⟨fun a o _ e => ?_, fun a e => B.stand a (B23.stand a e)⟩
      have aD : a ≠ Dd := fun z => by rw [z, hDd] at e; cases e
      exact B.keep a o (by simpa using aD) (B23.keep a o (by simp) e)
    · rintro i v H3 H4 hi ⟨out, ys, o1, o2, o3, o4, B⟩ ⟨rfl, hv⟩
      obtain ⟨dy, hdy, hay⟩ := hl2.get hv
      have B24 : But [] H2 H4 := by
        refine ⟨fun a o _ e => ?_, fun a e => B.stand a (B23.stand a e)⟩
        have aD : a ≠ Dd := fun z => by rw [z, hDd] at e; cases e
        exact B.keep a o (by simpa using aD) (B23.keep a o (by simp) e)
      refine ⟨wipe_one, ?_⟩
      refine copy_rule (K := K) (lks := lks) (wipe_get (by show 2 < 3; omega)) (hay.mono B24) (List.all_eq_true.mp ok dy (List.mem_of_getElem? hdy)) fun e w H5 re nw b5 => ?_
      refine ⟨ys, b5.keep _ _ (by simp) o1, small1000 (by omega), out ++ [e], ys ++ [w], upd_same, ?_, ?_, by simp [o4], (B.trans b5.nil).upd (.inl (by simp))⟩
      · rw [take_snoc hdy]
        exact .snoc o2 re
      · have nw' : NewT (upd H2 Dd (.lst [])) H5 e w := fun M s t => by
          refine At.mono' (M := M ++ [Dd]) (fun p o m e => ⟨fun z => m (List.mem_append.mpr (.inl z)), e⟩) e w (nw (M ++ [Dd]) ?_ ?_)
          · exact (Std.but s B).app (Std.cons o1 Std.nil)
          · intro a m zs z
            rcases List.mem_append.mp m with m | m
            · by_cases yd : a = Dd
              · rw [yd, o1] at z
                cases z
              · cases q5 : (upd H2 Dd (.lst [])) a with
                | none => exact s a m q5
                | some o =>
                  have := B.keep a o (by simpa using yd) q5
                  rw [this] at z
                  exact t a m zs (by rw [q5, z])
            · rw [List.mem_singleton.mp m, o1] at z
              cases z
        exact NewTL.mono (M := [Dd]) ((o3.mono Std.nil NoTup.nil b5).snoc nw') (Std.cons hD3 Std.nil) (NoTup.cons hD3 (fun _ z => nomatch z) NoTup.nil) (But.refl.upd (.inl (by simp)))
    · rintro H3 ⟨out, ys, o1, o2, o3, o4, B⟩
      rw [hlen, List.take_length] at o2
      have B24 : But [] H2 H3 := by
        refine ⟨fun a o _ e => ?_, fun a e => B.stand a (B23.stand a e)⟩
        have aD : a ≠ Dd := fun z => by rw [z, hDd] at e; cases e
        exact B.keep a o (by simpa using aD) (B23.keep a o (by simp) e)
      exact k out Dd H3 o2 (NewT.lstm o3 (b02.trans B23) (b02.free hDd) o1) (b02.trans B24)
end Kb

set_option Elab.async false
set_option linter.all false
set_option maxRecDepth 100000
set_option maxHeartbeats 4000000
/-! Kb, 20: a Kind as an object: made of good parts. -/
namespace Kb
open PySem PySem.Spec PyProof.Rows L2

/-- the class Kind -/
abbrev KC (K : PySem.W.Frag) : Addr := He.ga K "Kind"
structure KindC (K : PySem.W.Frag) : Prop where
  cls : Cls K (KC K)
  n1 : NoAttr K (KC K) "kind_name"
  n2 : NoAttr K (KC K) "link_table"
  n3 : NoAttr K (KC K) "own_table"
  n4 : NoAttr K (KC K) "rule_list"
  n5 : NoAttr K (KC K) "is_hidden"
/-- the fields of a Kind -/
def kf (nm : Str) (l o r : V) (h : Bool) : List (Str × V) := [("kind_name", .str nm), ("link_table", l), ("own_table", o), ("rule_list", r), ("is_hidden", .bl h)]
/-- at a: the Kind with these parts, none of its objects in M -/
def KOb (K : PySem.W.Frag) (M : List Addr) (H : Hp) (a : Addr) (nm : Str) (L O : List (Str × D)) (R : List D) (h : Bool) : Prop :=
  ∃ (dx : Addr) (l o r : V), a ∉ M ∧ H a = some (.ins (KC K) dx (kf nm l o r h)) ∧ At M H (.dct L) l ∧ At M H (.dct O) o ∧ At M H (.lst R) r
theorem KOb.mono {K : PySem.W.Frag} {M : List Addr} {H H' : Hp} {a : Addr} {nm : Str} {L O : List (Str × D)} {R : List D} {h : Bool} (b : But M H H') (k : KOb K M H a nm L O R h) : KOb K M H' a nm L O R h := by
  obtain ⟨dx, l, o, r, m, e, h1, h2, h3⟩ := k
  exact ⟨dx, l, o, r, m, b.keep _ _ m e, h1.mono b, h2.mono b, h3.mono b⟩
theorem KOb.less {K : PySem.W.Frag} {M M' : List Addr} {H : Hp} {a : Addr} {nm : Str} {L O : List (Str × D)} {R : List D} {h : Bool} (s : ∀ x ∈ M', x ∈ M) (k : KOb K M H a nm L O R h) : KOb K M' H a nm L O R h := by
  obtain ⟨dx, l, o, r, m, e, h1, h2, h3⟩ := k
  exact ⟨dx, l, o, r, fun z => m (s a z), e, h1.less s, h2.less s, h3.less s⟩

theorem link_keys {d : D} {l l' : List (Str × D)} (h : (keysD l).Perm (keysD l')) : isLinkD d l = isLinkD d l' := by
  cases d with
  | str x => exact decide_eq_decide.mpr h.mem_iff
  | _ => rfl
theorem own_keys {d : D} {l l' : List (Str × D)} (h : (keysD l).Perm (keysD l')) : isOwnD d l = isOwnD d l' := by
  unfold isOwnD
  split
  · rfl
  · rw [link_keys h]
  · rfl
theorem rule_keys {d : D} {l l' : List (Str × D)} (h : (keysD l).Perm (keysD l')) : isRuleD d l = isRuleD d l' := by
  have g : ∀ ds, giveD ds l = giveD ds l' := fun ds => by
    unfold giveD
    split
    · rw [link_keys h]
    · rfl
  have s : ∀ ds, isSendD ds l = isSendD ds l' := fun ds => by
    unfold isSendD
    split
    · rw [link_keys h]
    · rfl
  have r : ∀ f ds, isRestD f ds l = isRestD f ds l' := fun f ds => by
    unfold isRestD
    rw [g, s]
  unfold isRuleD
  split
  · rw [r]
  · rfl

/-- the parts of a good kind, as they are given -/
structure Parts (nm : Str) (L O : List (Str × D)) (d : D) : Prop where
  name : nameB nm = true
  links : LinksGood L
  own : OwnGood O L
  seq : d.isSeq = true
  len : d.items.length ≤ 300
  fine : d.fine = true
  rules : d.items.all (isRuleD · L) = true
/-- the parts as a Kind keeps them -/
structure Kept (L O : List (Str × D)) (d : D) (L' O' : List (Str × D)) (R' : List D) : Prop where
  links : DictOut ChoOf L L'
  own : DictOut TupOf O O'
  rules : ListOut RuleOf d.items R'
def sp_Kind_init (K : PySem.W.Frag) : Sp := fun vs H Q _ => ∃ (a dx : Addr) (nm : Str) (L O : List (Str × D)) (d : D) (x y z : V) (h : Bool), vs = [.ref a, .str nm, x, y, z, .bl h] ∧ KindC K ∧ H a = some (.ins (KC K) dx []) ∧
  At [a] H (.dct L) x ∧ At [a] H (.dct O) y ∧ At [a] H d z ∧ Parts nm L O d ∧
  ∀ L' O' R' H', Kept L O d L' O' R' → (∀ M, Std M H → NoTup M H → a ∉ M → KOb K M H' a nm L' O' R' h) → But [a] H H' → Q .non H'
theorem len_Kind_init {K : PySem.W.Frag} {vs : List V} {H : Hp} {Q : VK} {E : XK} (h : sp_Kind_init K vs H Q E) : vs.length = 6 := by
  obtain ⟨_, _, _, _, _, _, _, _, _, _, rfl, _⟩ := h
  rfl
def t_Kind_init (K : PySem.W.Frag) : TS :=
  (tSeq (tIfS (tNot (tB (tCall (sp_is_name K) [] E0 (tCons (tVar 1) tNil))))
    tNever
    tNext)
  (tSeq (sFld K (tVar 0) (tVar 1) "kind_name")
  (tSeq (sFld K (tVar 0) (tCall (sp_copied_links K) [] E0 (tCons (tVar 2) tNil)) "link_table")
  (tSeq (sFld K (tVar 0) (tCall (sp_copied_own K) [] E0 (tCons (tVar 3) (tCons (tFld K (tVar 0) "link_table") tNil))) "own_table")
  (tSeq (sFld K (tVar 0) (tCall (sp_copied_rules K) [] E0 (tCons (tVar 4) (tCons (tFld K (tVar 0) "link_table") tNil))) "rule_list")
  (tSeq (tIfS (tNot (tB (tCall (sp_is_flag K) [] E0 (tCons (tVar 5) tNil))))
    tNever
    tNext)
  (sFld K (tVar 0) (tVar 5) "is_hidden")))))))
theorem pure_Kind_init {K : PySem.W.Frag} (vs : List V) (H : Hp) (Q : VK) (E : XK) (h : sp_Kind_init K vs H Q E) : t_Kind_init K (fin Q) (st0 6 vs) H := by
  obtain ⟨a, dx, nm, L, O, d, x, y, z, h, rfl, C, ha, hx, hy, hz, g, k⟩ := h
  have ins : ∀ fs fs', (HO.ins (KC K) dx fs) = .ins (KC K) dx fs' ↔ fs = fs' := fun _ _ => ⟨fun e => by cases e; rfl, fun e => by rw [e]⟩
  refine ⟨_, rfl, .str nm, .str nm, rfl, rfl, fine_name g.name, fun H1 b1 => ⟨_, rfl, ?_⟩⟩
  rw [show isNameD (.str nm) = true from g.name]
  refine iteF ?_
  have ha1 := b1.keep _ _ (by simp) ha
  have B1 : But [a] H H1 := b1.nil
  -- self.kind_name
  refine ⟨_, rfl, _, rfl, a, KC K, dx, [], rfl, ha1, C.cls, C.n1, by decide, ?_⟩
  have B2 : But [a] H (upd H1 a (.ins (KC K) dx (putF "kind_name" (.str nm) []))) := B1.upd (.inl (by simp))
  have ha2 : (upd H1 a (.ins (KC K) dx (putF "kind_name" (.str nm) []))) a = some (.ins (KC K) dx [("kind_name", .str nm)]) := upd_same
  generalize upd H1 a (.ins (KC K) dx (putF "kind_name" (.str nm) [])) = H2 at B2 ha2 ⊢
  -- self.link_table
  refine ⟨_, rfl, L, x, rfl, (hx.mono B2).less (M' := []) (by simp), g.links, fun L' pl H3 dl nl b3 => ?_⟩
  have ha3 := b3.keep _ _ (by simp) ha2
  refine ⟨_, rfl, a, KC K, dx, _, rfl, ha3, C.cls, C.n2, by simp, ?_⟩
  have sa : Std [a] H2 := Std.cons ha2 Std.nil
  have ta : NoTup [a] H2 := NoTup.cons ha2 (fun _ q => nomatch q) NoTup.nil
  have B34 : But [a] H3 (upd H3 a (.ins (KC K) dx (putF "link_table" (.ref pl) [("kind_name", .str nm)]))) := But.refl.upd (.inl (by simp))
  have ha4 : (upd H3 a (.ins (KC K) dx (putF "link_table" (.ref pl) [("kind_name", .str nm)]))) a = some (.ins (KC K) dx [("kind_name", .str nm), ("link_table", .ref pl)]) := by
    rw [upd_same]
    rfl
  generalize upd H3 a (.ins (KC K) dx (putF "link_table" (.ref pl) [("kind_name", .str nm)])) = H4 at B34 ha4 ⊢
  have B24 : But [a] H2 H4 := b3.nil.trans B34
  have nl4 : NewT H2 H4 (.dct L') (.ref pl) := nl.mono sa ta B34
  -- self.own_table
  have hy4 : At [a] H4 (.dct O) y := (hy.mono B2).mono B24
  have stdO : ∀ p, y = .ref p → Std [p] H2 ∧ NoTup [p] H2 := fun p e => by
    subst e
    obtain ⟨p', kvs, e, _, hp, _⟩ := hy.mono B2
    cases e
    exact ⟨Std.cons hp Std.nil, NoTup.cons hp (fun _ q => nomatch q) NoTup.nil⟩
  refine ⟨_, rfl, _, rfl, a, KC K, dx, _, _, rfl, ha4, C.cls, C.n2, rfl, ?_⟩
  have og : OwnGood O L' := ⟨g.own.len, g.own.nd, fun x m => ⟨(g.own.ok x m).1, by rw [own_keys dl.perm]; exact (g.own.ok x m).2.1, (g.own.ok x m).2.2⟩⟩
  refine ⟨O, L', y, .ref pl, rfl, hy4.less (M' := []) (by simp), nl4.at_, fun p e => nl4 [p] (stdO p e).1 (stdO p e).2, og, fun O' po H5 dO nO b5 => ?_⟩
  have ha5 := b5.keep _ _ (by simp) ha4
  refine ⟨_, rfl, a, KC K, dx, _, rfl, ha5, C.cls, C.n3, by simp, ?_⟩
  have sa4 : Std [a] H4 := Std.cons ha4 Std.nil
  have ta4 : NoTup [a] H4 := NoTup.cons ha4 (fun _ q => nomatch q) NoTup.nil
  have B56 : But [a] H5 (upd H5 a (.ins (KC K) dx (putF "own_table" (.ref po) [("kind_name", .str nm), ("link_table", .ref pl)]))) := But.refl.upd (.inl (by simp))
  have ha6 : (upd H5 a (.ins (KC K) dx (putF "own_table" (.ref po) [("kind_name", .str nm), ("link_table", .ref pl)]))) a = some (.ins (KC K) dx [("kind_name", .str nm), ("link_table", .ref pl), ("own_table", .ref po)]) := by
    rw [upd_same]
    rfl
  generalize upd H5 a (.ins (KC K) dx (putF "own_table" (.ref po) [("kind_name", .str nm), ("link_table", .ref pl)])) = H6 at B56 ha6 ⊢
  have B46 : But [a] H4 H6 := b5.nil.trans B56
  have nO6 : NewT H4 H6 (.dct O') (.ref po) := nO.mono sa4 ta4 B56
  have nl6 : NewT H2 H6 (.dct L') (.ref pl) := nl4.mono sa ta B46
  -- self.rule_list
  have hz6 : At [a] H6 d z := ((hz.mono B2).mono B24).mono B46
  refine ⟨_, rfl, _, rfl, a, KC K, dx, _, _, rfl, ha6, C.cls, C.n2, rfl, ?_⟩
  have rg : d.items.all (isRuleD · L') = true := List.all_eq_true.mpr fun x m => by
    have := List.all_eq_true.mp g.rules x m
    rw [rule_keys dl.perm]
    exact this
  refine ⟨d, L', z, .ref pl, rfl, hz6.less (M' := []) (by simp), nl6.at_, g.seq, g.len, g.fine, rg, fun R' pr H7 dR nR b7 => ?_⟩
  have ha7 := b7.keep _ _ (by simp) ha6
  refine ⟨_, rfl, a, KC K, dx, _, rfl, ha7, C.cls, C.n4, by simp, ?_⟩
  have sa6 : Std [a] H6 := Std.cons ha6 Std.nil
  have ta6 : NoTup [a] H6 := NoTup.cons ha6 (fun _ q => nomatch q) NoTup.nil
  have B78 : But [a] H7 (upd H7 a (.ins (KC K) dx (putF "rule_list" (.ref pr) [("kind_name", .str nm), ("link_table", .ref pl), ("own_table", .ref po)]))) := But.refl.upd (.inl (by simp))
  have ha8 : (upd H7 a (.ins (KC K) dx (putF "rule_list" (.ref pr) [("kind_name", .str nm), ("link_table", .ref pl), ("own_table", .ref po)]))) a =
      some (.ins (KC K) dx [("kind_name", .str nm), ("link_table", .ref pl), ("own_table", .ref po), ("rule_list", .ref pr)]) := by
    rw [upd_same]
    rfl
  generalize upd H7 a (.ins (KC K) dx (putF "rule_list" (.ref pr) [("kind_name", .str nm), ("link_table", .ref pl), ("own_table", .ref po)])) = H8 at B78 ha8 ⊢
  have B68 : But [a] H6 H8 := b7.nil.trans B78
  have nR8 : NewT H6 H8 (.lst R') (.ref pr) := nR.mono sa6 ta6 B78
  -- is_flag(hidden), self.is_hidden
  refine ⟨_, rfl, .bl h, .bl h, rfl, rfl, rfl, fun H9 b9 => ⟨_, rfl, ?_⟩⟩
  refine iteF ?_
  have ha9 := b9.keep _ _ (by simp) ha8
  refine ⟨_, rfl, _, rfl, a, KC K, dx, _, rfl, ha9, C.cls, C.n5, by simp, ?_⟩
  have B9 : But [a] H8 (upd H9 a (.ins (KC K) dx (putF "is_hidden" (.bl h) [("kind_name", .str nm), ("link_table", .ref pl), ("own_table", .ref po), ("rule_list", .ref pr)]))) := b9.nil.upd (.inl (by simp))
  have ha10 : (upd H9 a (.ins (KC K) dx (putF "is_hidden" (.bl h) [("kind_name", .str nm), ("link_table", .ref pl), ("own_table", .ref po), ("rule_list", .ref pr)]))) a = some (.ins (KC K) dx (kf nm (.ref pl) (.ref po) (.ref pr) h)) := by
    rw [upd_same]
    rfl
  generalize upd H9 a (.ins (KC K) dx (putF "is_hidden" (.bl h) [("kind_name", .str nm), ("link_table", .ref pl), ("own_table", .ref po), ("rule_list", .ref pr)])) = HE at B9 ha10 ⊢
  have B28 : But [a] H2 H8 := (B24.trans B46).trans B68
  -- what stood in H stands in between, and is no tuple there
  have up : ∀ {H'' : Hp}, But [a] H H'' → H'' a ≠ none → (∀ xs, H'' a ≠ some (.tup xs)) → ∀ M, Std M H → NoTup M H → Std M H'' ∧ NoTup M H'' := fun {H''} b na nt M s t => by
    refine ⟨s.but b, fun v m xs e => ?_⟩
    by_cases q : v = a
    · rw [q] at e
      exact nt xs e
    · cases e2 : H v with
      | none => exact s v m e2
      | some o =>
        have := b.keep v o (by simpa using q) e2
        rw [this] at e
        exact t v m xs (by rw [e2, e])
  refine k L' O' R' HE ⟨dl, dO, dR⟩ (fun M s t m => ?_) ((B2.trans B28).trans B9)
  obtain ⟨s2, t2⟩ := up B2 (ne_none ha2) (fun xs q => by rw [ha2] at q; cases q) M s t
  obtain ⟨s4, t4⟩ := up (B2.trans B24) (ne_none ha4) (fun xs q => by rw [ha4] at q; cases q) M s t
  obtain ⟨s6, t6⟩ := up ((B2.trans B24).trans B46) (ne_none ha6) (fun xs q => by rw [ha6] at q; cases q) M s t
  exact ⟨dx, .ref pl, .ref po, .ref pr, m, ha10, (nl6.mono sa ta (B68.trans B9)) M s2 t2, (nO6.mono sa4 ta4 (B68.trans B9)) M s4 t4, (nR8.mono sa6 ta6 B9) M s6 t6⟩
end Kb

set_option Elab.async false
set_option linter.all false
set_option maxRecDepth 100000
set_option maxHeartbeats 4000000
/-! Kb, 21: what is told against what is due: like data. -/
namespace Kb
open PySem PySem.Spec PyProof.Rows L2

/-! ### data that may be locked -/
mutual
def AtZ (H : Hp) : D → V → Prop
  | .non, v => v = .non
  | .bl b, v => v = .bl b
  | .int i, v => v = .int i
  | .str x, v => v = .str x
  | .tup ds, v => ∃ p xs, v = .ref p ∧ H p = some (.tup xs) ∧ AtZL H ds xs
  | .lst ds, v => ∃ p xs, v = .ref p ∧ H p = some (.lst xs) ∧ AtZL H ds xs
  | .dct kds, v => ∃ p kvs, v = .ref p ∧ Rd H p (.dK kvs) ∧ AtZP H kds kvs
def AtZL (H : Hp) : List D → List V → Prop
  | [], xs => xs = []
  | d :: ds, xs => ∃ x r, xs = x :: r ∧ AtZ H d x ∧ AtZL H ds r
def AtZP (H : Hp) : List (Str × D) → List (Key × V) → Prop
  | [], xs => xs = []
  | (k, d) :: ds, xs => ∃ x r, xs = (Sum.inr k, x) :: r ∧ AtZ H d x ∧ AtZP H ds r
end
mutual
theorem At.z {M : List Addr} {H : Hp} : ∀ {d : D} {v : V}, At M H d v → AtZ H d v
  | .non, _, h => h
  | .bl _, _, h => h
  | .int _, _, h => h
  | .str _, _, h => h
  | .tup ds, _, h => let ⟨p, xs, e, _, hp, hl⟩ := h; ⟨p, xs, e, hp, AtL.z hl⟩
  | .lst ds, _, h => let ⟨p, xs, e, _, hp, hl⟩ := h; ⟨p, xs, e, hp, AtL.z hl⟩
  | .dct ds, _, h => let ⟨p, xs, e, _, hp, hl⟩ := h; ⟨p, xs, e, .inl hp, AtP.z hl⟩
theorem AtL.z {M : List Addr} {H : Hp} : ∀ {ds : List D} {xs : List V}, AtL M H ds xs → AtZL H ds xs
  | [], _, h => h
  | d :: ds, _, h => let ⟨x, r, e, h1, h2⟩ := h; ⟨x, r, e, At.z h1, AtL.z h2⟩
theorem AtP.z {M : List Addr} {H : Hp} : ∀ {ds : List (Str × D)} {xs : List (Key × V)}, AtP M H ds xs → AtZP H ds xs
  | [], _, h => h
  | (k, d) :: ds, _, h => let ⟨x, r, e, h1, h2⟩ := h; ⟨x, r, e, At.z h1, AtP.z h2⟩
end
/-- what is read is read on -/
structure Zm (H H' : Hp) : Prop where
  tup : ∀ p xs, H p = some (.tup xs) → H' p = some (.tup xs)
  lst : ∀ p xs, H p = some (.lst xs) → H' p = some (.lst xs)
  dct : ∀ p kvs, Rd H p (.dK kvs) → Rd H' p (.dK kvs)
theorem Zm.but {H H' : Hp} (b : But [] H H') : Zm H H' := ⟨fun p xs e => b.keep _ _ (by simp) e, fun p xs e => b.keep _ _ (by simp) e, fun p kvs e => e.elim (fun e => .inl (b.keep _ _ (by simp) e)) fun ⟨o, e⟩ => .inr ⟨o, b.keep _ _ (by simp) e⟩⟩
theorem Zm.lock {H : Hp} {p : Addr} {kvs : List (Key × V)} {od : Obj} (h : H p = some (.dK kvs)) : Zm H (upd H p (.frz od (.dK kvs))) := by
  refine ⟨fun q xs e => ?_, fun q xs e => ?_, fun q ks e => ?_⟩
  · rw [upd_ne (fun z => by rw [z, h] at e; cases e)]
    exact e
  · rw [upd_ne (fun z => by rw [z, h] at e; cases e)]
    exact e
  · by_cases z : q = p
    · subst z
      rcases e with e | ⟨o, e⟩
      · rw [h] at e
        cases e
        exact .inr ⟨od, upd_same⟩
      · rw [h] at e
        cases e
    · rcases e with e | ⟨o, e⟩
      · exact .inl (by rw [upd_ne z]; exact e)
      · exact .inr ⟨o, by rw [upd_ne z]; exact e⟩
theorem Zm.trans {H H1 H2 : Hp} (a : Zm H H1) (b : Zm H1 H2) : Zm H H2 := ⟨fun p xs e => b.tup p xs (a.tup p xs e), fun p xs e => b.lst p xs (a.lst p xs e), fun p xs e => b.dct p xs (a.dct p xs e)⟩
mutual
theorem AtZ.mono {H H' : Hp} (z : Zm H H') : ∀ {d : D} {v : V}, AtZ H d v → AtZ H' d v
  | .non, _, h => h
  | .bl _, _, h => h
  | .int _, _, h => h
  | .str _, _, h => h
  | .tup ds, _, h => let ⟨p, xs, e, hp, hl⟩ := h; ⟨p, xs, e, z.tup _ _ hp, AtZL.mono z hl⟩
  | .lst ds, _, h => let ⟨p, xs, e, hp, hl⟩ := h; ⟨p, xs, e, z.lst _ _ hp, AtZL.mono z hl⟩
  | .dct ds, _, h => let ⟨p, xs, e, hp, hl⟩ := h; ⟨p, xs, e, z.dct _ _ hp, AtZP.mono z hl⟩
theorem AtZL.mono {H H' : Hp} (z : Zm H H') : ∀ {ds : List D} {xs : List V}, AtZL H ds xs → AtZL H' ds xs
  | [], _, h => h
  | d :: ds, _, h => let ⟨x, r, e, h1, h2⟩ := h; ⟨x, r, e, AtZ.mono z h1, AtZL.mono z h2⟩
theorem AtZP.mono {H H' : Hp} (z : Zm H H') : ∀ {ds : List (Str × D)} {xs : List (Key × V)}, AtZP H ds xs → AtZP H' ds xs
  | [], _, h => h
  | (k, d) :: ds, _, h => let ⟨x, r, e, h1, h2⟩ := h; ⟨x, r, e, AtZ.mono z h1, AtZP.mono z h2⟩
end
theorem AtZP.keys {H : Hp} : ∀ {ds : List (Str × D)} {xs : List (Key × V)}, AtZP H ds xs → xs.map (·.1) = ds.map fun p => (Sum.inr p.1 : Key)
  | [], _, h => by
    cases h
    rfl
  | (k0, d0) :: ds, _, h => by
    obtain ⟨y, r, rfl, h1, h2⟩ := h
    rw [List.map_cons, List.map_cons, AtZP.keys h2]
theorem AtZP.val {H : Hp} : ∀ {kds : List (Str × D)} {kvs : List (Key × V)} {n : Str} {d : D}, AtZP H kds kvs → kds.lookup n = some d → ∃ v, valV kvs (.inr n) = some v ∧ AtZ H d v
  | [], _, n, d, h, m => by cases m
  | (k, e) :: ds, _, n, d, h, m => by
    obtain ⟨y, r, rfl, h1, h2⟩ := h
    rw [List.lookup_cons] at m
    by_cases z : n = k
    · rw [beq_iff_eq.mpr z] at m
      cases m
      refine ⟨y, ?_, h1⟩
      rw [z, valV, List.find?_cons_of_pos (by simp)]
      rfl
    · rw [beq_eq_false_iff_ne.mpr z] at m
      obtain ⟨v, q2, q3⟩ := AtZP.val h2 m
      refine ⟨v, ?_, q3⟩
      rw [valV, List.find?_cons_of_neg (by simpa using fun q => z q.symm)]
      exact q2
theorem AtZL.length {H : Hp} : ∀ {ds : List D} {xs : List V}, AtZL H ds xs → xs.length = ds.length
  | [], _, h => by
    cases h
    rfl
  | d :: ds, _, h => by
    obtain ⟨x, r, rfl, h1, h2⟩ := h
    rw [List.length_cons, List.length_cons, AtZL.length h2]
theorem AtZL.get {H : Hp} : ∀ {ds : List D} {xs : List V} {i : Nat} {x : V}, AtZL H ds xs → xs[i]? = some x → ∃ d, ds[i]? = some d ∧ AtZ H d x
  | [], _, i, x, h, e => by
    cases h
    simp at e
  | d :: ds, _, 0, x, h, e => by
    obtain ⟨y, r, rfl, h1, h2⟩ := h
    simp at e
    subst e
    exact ⟨d, rfl, h1⟩
  | d :: ds, _, i + 1, x, h, e => by
    obtain ⟨y, r, rfl, h1, h2⟩ := h
    obtain ⟨d', q1, q2⟩ := AtZL.get (i := i) (x := x) h2 (by simpa using e)
    exact ⟨d', by simpa using q1, q2⟩
theorem AtZ.ty {K : PySem.W.Frag} {H : Hp} {d : D} {x : V} (h : AtZ H d x) : TyX K H x (.type d.ty) := by
  cases d with
  | non => cases h; exact .base .non
  | bl b => cases h; exact .base (.bl b)
  | int b => cases h; exact .base (.int b)
  | str b => cases h; exact .base (.str b)
  | tup ds =>
    obtain ⟨p, xs, rfl, hp, _⟩ := h
    exact .base (.tup hp)
  | lst ds =>
    obtain ⟨p, xs, rfl, hp, _⟩ := h
    exact .base (.lst hp)
  | dct ds =>
    obtain ⟨p, xs, rfl, hp, _⟩ := h
    rcases hp with hp | ⟨o, hp⟩
    · exact .base (.dK hp)
    · exact .fDict hp
theorem AtZ.seq {K : PySem.W.Frag} {H : Hp} {d : D} {x : V} (h : AtZ H d x) (s : d.isSeq = true) : ∃ p xs, x = .ref p ∧ SqV K H p xs ∧ AtZL H d.items xs := by
  cases d with
  | tup ds =>
    obtain ⟨p, xs, e, hp, hl⟩ := h
    exact ⟨p, xs, e, .inr (SqT.of hp), hl⟩
  | lst ds =>
    obtain ⟨p, xs, e, hp, hl⟩ := h
    exact ⟨p, xs, e, .inl (SqL.of hp), hl⟩
  | _ => cases s

/-! ### like data -/
mutual
def Like : D → D → Prop
  | d, .non => d = .non
  | d, .bl b => d = .bl b
  | d, .int i => d = .int i
  | d, .str x => d = .str x
  | d, .tup es => ∃ ds, d = .tup ds ∧ es.length ≤ 1000 ∧ LikeL ds es
  | d, .lst es => ∃ ds, d = .lst ds ∧ es.length ≤ 1000 ∧ LikeL ds es
  | d, .dct kes => ∃ kds, d = .dct kds ∧ (keysD kds).Perm (keysD kes) ∧ (keysD kes).Nodup ∧ kes.length < 64 ∧ (∀ k ∈ keysD kes, PyData.strOk k = true) ∧ LikeP kds kes
def LikeL : List D → List D → Prop
  | ds, [] => ds = []
  | ds, e :: es => ∃ d r, ds = d :: r ∧ Like d e ∧ LikeL r es
def LikeP : List (Str × D) → List (Str × D) → Prop
  | _, [] => True
  | kds, (k, e) :: es => (∃ d, kds.lookup k = some d ∧ Like d e) ∧ LikeP kds es
end
theorem LikeL.length : ∀ {ds es : List D}, LikeL ds es → ds.length = es.length
  | _, [], h => by
    cases h
    rfl
  | _, e :: es, h => by
    obtain ⟨d, r, rfl, h1, h2⟩ := h
    rw [List.length_cons, List.length_cons, LikeL.length h2]
theorem LikeL.get : ∀ {ds es : List D} {i : Nat} {d e : D}, LikeL ds es → ds[i]? = some d → es[i]? = some e → Like d e
  | _, [], i, d, e, h, h1, h2 => by simp at h2
  | _, e' :: es, 0, d, e, h, h1, h2 => by
    obtain ⟨d', r, rfl, q1, q2⟩ := h
    simp at h1 h2
    subst h1 h2
    exact q1
  | _, e' :: es, i + 1, d, e, h, h1, h2 => by
    obtain ⟨d', r, rfl, q1, q2⟩ := h
    exact LikeL.get (i := i) q2 (by simpa using h1) (by simpa using h2)
theorem LikeP.get : ∀ {kds kes : List (Str × D)} {k : Str} {e : D}, LikeP kds kes → kes.lookup k = some e → ∃ d, kds.lookup k = some d ∧ Like d e
  | _, [], k, e, h, m => by cases m
  | kds, (k', e') :: es, k, e, h, m => by
    obtain ⟨h1, h2⟩ := h
    rw [List.lookup_cons] at m
    by_cases z : k = k'
    · rw [beq_iff_eq.mpr z] at m
      cases m
      rw [z]
      exact h1
    · rw [beq_eq_false_iff_ne.mpr z] at m
      exact LikeP.get h2 m
/-! how deep -/
mutual
def D.dp : D → Nat
  | .tup ds => D.dpL ds + 1
  | .lst ds => D.dpL ds + 1
  | .dct kds => D.dpP kds + 1
  | _ => 0
def D.dpL : List D → Nat
  | [] => 0
  | d :: ds => max (D.dp d) (D.dpL ds)
def D.dpP : List (Str × D) → Nat
  | [] => 0
  | (_, d) :: ds => max (D.dp d) (D.dpP ds)
end
theorem dpL_get : ∀ {ds : List D} {d : D}, d ∈ ds → d.dp ≤ D.dpL ds
  | a :: ds, d, m => by
    rw [D.dpL]
    rcases List.mem_cons.mp m with e | m
    · rw [e]; omega
    · have := dpL_get m
      omega
theorem dpP_get : ∀ {ds : List (Str × D)} {k : Str} {d : D}, (k, d) ∈ ds → d.dp ≤ D.dpP ds
  | (a, b) :: ds, k, d, m => by
    rw [D.dpP]
    rcases List.mem_cons.mp m with e | m
    · cases e; omega
    · have := dpP_get m
      omega
def D.isLst : D → Bool
  | .lst _ => true
  | _ => false
def D.isBool : D → Bool
  | .bl _ => true
  | _ => false
def D.isInt : D → Bool
  | .bl _ => true
  | .int _ => true
  | _ => false
section
variable {K : PySem.W.Frag} {d : D}
theorem kit_lst : PySem.W.kitOne K (.type d.ty) (.type "list") = some d.isLst := by
  cases d with
  | non => exact kit_ty (show kitB "NoneType" "list" = some false by decide +kernel)
  | bl _ => exact kit_ty (show kitB "bool" "list" = some false by decide +kernel)
  | int _ => exact kit_ty (show kitB "int" "list" = some false by decide +kernel)
  | str _ => exact kit_ty (show kitB "str" "list" = some false by decide +kernel)
  | tup _ => exact kit_ty (show kitB "tuple" "list" = some false by decide +kernel)
  | lst _ => exact kit_ty (show kitB "list" "list" = some true by decide +kernel)
  | dct _ => exact kit_ty (show kitB "dict" "list" = some false by decide +kernel)
theorem kit_bool : PySem.W.kitOne K (.type d.ty) (.type "bool") = some d.isBool := by
  cases d with
  | non => exact kit_ty (show kitB "NoneType" "bool" = some false by decide +kernel)
  | bl _ => exact kit_ty (show kitB "bool" "bool" = some true by decide +kernel)
  | int _ => exact kit_ty (show kitB "int" "bool" = some false by decide +kernel)
  | str _ => exact kit_ty (show kitB "str" "bool" = some false by decide +kernel)
  | tup _ => exact kit_ty (show kitB "tuple" "bool" = some false by decide +kernel)
  | lst _ => exact kit_ty (show kitB "list" "bool" = some false by decide +kernel)
  | dct _ => exact kit_ty (show kitB "dict" "bool" = some false by decide +kernel)
theorem kit_int : PySem.W.kitOne K (.type d.ty) (.type "int") = some d.isInt := by
  cases d with
  | non => exact kit_ty (show kitB "NoneType" "int" = some false by decide +kernel)
  | bl _ => exact kit_ty (show kitB "bool" "int" = some true by decide +kernel)
  | int _ => exact kit_ty (show kitB "int" "int" = some true by decide +kernel)
  | str _ => exact kit_ty (show kitB "str" "int" = some false by decide +kernel)
  | tup _ => exact kit_ty (show kitB "tuple" "int" = some false by decide +kernel)
  | lst _ => exact kit_ty (show kitB "list" "int" = some false by decide +kernel)
  | dct _ => exact kit_ty (show kitB "dict" "int" = some false by decide +kernel)
end
/-- list(d), d a dict, locked or not -/
def rListK : List V → Hp → VK → Prop := fun xs H Q => ∃ (a : Addr) (kvs : List (Key × V)), xs = [.ref a] ∧ Rd H a (.dK kvs) ∧ ∀ p, H p = none → Q (.ref p) (upd H p (.lst (kvs.map fun kv => kV kv.1)))
theorem kListK {X : Cx} (hc : X.calm = true) : CallR X (.type "list") rListK := call_listD hc
/-- xs != xs -/
theorem neSame {K : PySem.W.Frag} {H : Hp} {p q : Addr} {xs : List V} {Q : VK} (hp : H p = some (.lst xs)) (hq : H q = some (.lst xs)) (hx : xs.all okF = true) (k : Q (.bl false) H) : rNeD K (.ref p) (.ref q) H Q := by
  refine ⟨.list (xs.map pd), .list (xs.map pd), .lst (SqL.of hp) (dp_flats hx), .lst (SqL.of hq) (dp_flats hx), shaped_flat hx, shaped_flat hx, ?_⟩
  rw [PySem.SeqAt.eqv_refl _ (by rw [PyData.canLay0]; exact lay_flat hx)]
  exact k
theorem keys_strs {kds : List (Str × D)} {kvs : List (Key × V)} (h : kvs.map (·.1) = kds.map fun p => (Sum.inr p.1 : Key)) : (kvs.map fun kv => kV kv.1) = (keysD kds).map V.str := by
  have := congrArg (List.map kV) h
  rw [List.map_map, List.map_map] at this
  rw [keysD, List.map_map]
  exact this
end Kb

set_option Elab.async false
set_option linter.all false
set_option maxRecDepth 100000
set_option maxHeartbeats 4000000
/-! Kb, 22: _law_like, of like data. -/
namespace Kb
open PySem PySem.Spec PyProof.Rows L2

def sp_l_like (n : Nat) (K : PySem.W.Frag) : Sp := fun vs H Q _ => ∃ (d e : D) (x y : V), vs = [x, y] ∧ AtZ H d x ∧ At [] H e y ∧ Like d e ∧ e.dp < n ∧ ∀ H', But [] H H' → Q (.bl true) H'
theorem len_l_like {n : Nat} {K : PySem.W.Frag} {vs : List V} {H : Hp} {Q : VK} {E : XK} (h : sp_l_like n K vs H Q E) : vs.length = 2 := by
  obtain ⟨_, _, _, _, rfl, _⟩ := h
  rfl
theorem no_l_like {K : PySem.W.Frag} {vs : List V} {H : Hp} {Q : VK} {E : XK} (h : sp_l_like 0 K vs H Q E) : False := by
  obtain ⟨_, _, _, _, _, _, _, _, h, _⟩ := h
  omega
def t_l_like (n : Nat) (K : PySem.W.Frag) : TS :=
  (tSeq (tIfS (tB (tCB (rIsi K) (tCons (tVar 1) (tCons (tC (.ty "dict")) tNil))))
    (tSeq (tIfS (tOr (tNot (tB (tCB (rIsi K) (tCons (tVar 0) (tCons (tC (.ty "dict")) tNil))))) (tTest (tOp (rNeD K) (tCB (rSortedS K) (tCons (tCB rListK (tCons (tVar 0) tNil)) tNil)) (tCB (rSortedS K) (tCons (tCB rListK (tCons (tVar 1) tNil)) tNil)))))
    (tRet (tC (.bl false)))
    tNext)
  (tRet (tOp (rEqD K) (tLockE (tLc (iKeys (tVar 1)) (gName 2) (tNot (tB (tCall (sp_l_like n K) [] E0 (tCons (tDGet (tVar 0) (tVar 2)) (tCons (tDGet (tVar 1) (tVar 2)) tNil))))) (tVar 2) [2])) (tLst tNil))))
    tNext)
  (tSeq (tIfS (tB (tCB (rIsiT K) (tCons (tVar 1) (tCons (tTup (tCons (tC (.ty "list")) (tCons (tC (.ty "tuple")) tNil))) tNil))))
    (tSeq (tIfS (tOr (tNot (tB (tCB (rIsiT K) (tCons (tVar 0) (tCons (tTup (tCons (tC (.ty "list")) (tCons (tC (.ty "tuple")) tNil))) tNil))))) (tTest (tOp rNe (tCB (rIsi K) (tCons (tVar 0) (tCons (tC (.ty "list")) tNil))) (tCB (rIsi K) (tCons (tVar 1) (tCons (tC (.ty "list")) tNil))))))
    (tRet (tC (.bl false)))
    tNext)
  (tSeq (tIfS (tTest (tOp rNe (tCB (rLenA K) (tCons (tVar 0) tNil)) (tCB (rLenA K) (tCons (tVar 1) tNil))))
    (tRet (tC (.bl false)))
    tNext)
  (tRet (tOp (rEqD K) (tLc (iRng1 (tCons (tCB (rLenA K) (tCons (tVar 1) tNil)) tNil)) (gName 2) (tNot (tB (tCall (sp_l_like n K) [] E0 (tCons (tOp (rIx K) (tVar 0) (tVar 2)) (tCons (tOp (rIx K) (tVar 1) (tVar 2)) tNil))))) (tVar 2) [2]) (tLst tNil)))))
    tNext)
  (tSeq (tIfS (tTest (tOp rNe (tCB (rIsi K) (tCons (tVar 0) (tCons (tC (.ty "bool")) tNil))) (tCB (rIsi K) (tCons (tVar 1) (tCons (tC (.ty "bool")) tNil)))))
    (tRet (tC (.bl false)))
    tNext)
  (tRet (tAndV (tOp rEq (tCB (rIsi K) (tCons (tVar 0) (tCons (tC (.ty "int")) tNil))) (tCB (rIsi K) (tCons (tVar 1) (tCons (tC (.ty "int")) tNil)))) (tOp rEq (tVar 0) (tVar 1)))))))

theorem like_ty {d e : D} (h : Like d e) : d.isDct = e.isDct ∧ d.isSeq = e.isSeq ∧ d.isLst = e.isLst ∧ d.isBool = e.isBool ∧ d.isInt = e.isInt := by
  cases e with
  | tup es => obtain ⟨_, rfl, _⟩ := h; exact ⟨rfl, rfl, rfl, rfl, rfl⟩
  | lst es => obtain ⟨_, rfl, _⟩ := h; exact ⟨rfl, rfl, rfl, rfl, rfl⟩
  | dct es => obtain ⟨_, rfl, _⟩ := h; exact ⟨rfl, rfl, rfl, rfl, rfl⟩
  | _ => cases h; exact ⟨rfl, rfl, rfl, rfl, rfl⟩
theorem like_seq {d e : D} (h : Like d e) (s : e.isSeq = true) : LikeL d.items e.items ∧ e.items.length ≤ 1000 := by
  cases e with
  | tup es => obtain ⟨_, rfl, h1, h2⟩ := h; exact ⟨h2, h1⟩
  | lst es => obtain ⟨_, rfl, h1, h2⟩ := h; exact ⟨h2, h1⟩
  | _ => cases s
theorem items_dp {e d : D} (m : d ∈ e.items) : d.dp < e.dp := by
  cases e with
  | tup es => have := dpL_get (ds := es) m; show d.dp < D.dpL es + 1; omega
  | lst es => have := dpL_get (ds := es) m; show d.dp < D.dpL es + 1; omega
  | _ => cases m
theorem flat_eq {H : Hp} {d e : D} {x y : V} (h : Like d e) (f : e.isFlat = true) (hx : AtZ H d x) (hy : At [] H e y) : x = y ∧ scal x y = true := by
  cases e with
  | tup es => cases f
  | lst es => cases f
  | dct es => cases f
  | non => cases h; cases hx; cases hy; exact ⟨rfl, rfl⟩
  | bl b => cases h; cases hx; cases hy; exact ⟨rfl, rfl⟩
  | int b => cases h; cases hx; cases hy; exact ⟨rfl, rfl⟩
  | str b => cases h; cases hx; cases hy; exact ⟨rfl, rfl⟩
theorem pure_l_like {K : PySem.W.Frag} (n : Nat) (vs : List V) (H : Hp) (Q : VK) (E : XK) (h : sp_l_like (n + 1) K vs H Q E) : t_l_like n K (fin Q) (st0 3 vs) H := by
  obtain ⟨d, e, x, y, rfl, hx, hy, hl, hn, k⟩ := h
  obtain ⟨ed, es, el, eb, ei⟩ := like_ty hl
  refine ⟨_, rfl, y, _, _, _, e.isDct, rfl, .ty _, hy.ty, kit_dct, _, rfl, ?_⟩
  cases hd : e.isDct with
  | true =>
    refine iteT ?_
    obtain ⟨kes, rfl⟩ : ∃ kes, e = .dct kes := by cases e <;> first | exact ⟨_, rfl⟩ | cases hd
    obtain ⟨kds, rfl, lp, lnd, l64, lok, ll⟩ := hl
    refine ⟨_, rfl, x, _, _, _, true, rfl, .ty _, hx.ty, kit_dct, _, rfl, ?_⟩
    refine iteF ?_
    obtain ⟨p1, kv1, rfl, h1, z1⟩ := hx
    obtain ⟨p2, kv2, rfl, h2, z2⟩ := hy.dct
    have len1 : (keysD kds).length < 64 := by rw [lp.length_eq, keysD, List.length_map]; exact l64
    have len2 : (keysD kes).length < 64 := by rw [keysD, List.length_map]; exact l64
    refine ⟨_, rfl, p1, kv1, rfl, h1, fun q1 hq1 => ?_⟩
    rw [keys_strs z1.keys]
    have B1 : But [] H (upd H q1 (.lst ((keysD kds).map V.str))) := But.new hq1
    have u1 : (upd H q1 (.lst ((keysD kds).map V.str))) q1 = some (.lst ((keysD kds).map V.str)) := upd_same
    generalize upd H q1 (.lst ((keysD kds).map V.str)) = H1 at B1 u1 ⊢
    refine ⟨q1, _, rfl, SqL.of u1, len1, fun ys r1 perm1 so1 hr1 => ?_⟩
    have B2 : But [] H1 (upd H1 r1 (.lst (ys.map V.str))) := But.new hr1
    have v1 : (upd H1 r1 (.lst (ys.map V.str))) r1 = some (.lst (ys.map V.str)) := upd_same
    generalize upd H1 r1 (.lst (ys.map V.str)) = H2 at B2 v1 ⊢
    have B02 := B1.trans B2
    refine ⟨_, rfl, p2, kv2, rfl, .inl (B02.keep _ _ (by simp) h2), fun q2 hq2 => ?_⟩
    rw [keys_strs (kds := kes) z2.keys]
    have B3 : But [] H2 (upd H2 q2 (.lst ((keysD kes).map V.str))) := But.new hq2
    have u2 : (upd H2 q2 (.lst ((keysD kes).map V.str))) q2 = some (.lst ((keysD kes).map V.str)) := upd_same
    generalize upd H2 q2 (.lst ((keysD kes).map V.str)) = H3 at B3 u2 ⊢
    refine ⟨q2, _, rfl, SqL.of u2, len2, fun zs r2 perm2 so2 hr2 => ?_⟩
    have ezs : zs = ys := sorted_same (perm2.trans (lp.symm.trans perm1.symm)) so2 so1
    subst ezs
    have B4 : But [] H3 (upd H3 r2 (.lst (zs.map V.str))) := But.new hr2
    have v2 : (upd H3 r2 (.lst (zs.map V.str))) r2 = some (.lst (zs.map V.str)) := upd_same
    generalize upd H3 r2 (.lst (zs.map V.str)) = H4 at B4 v2 ⊢
    have zok : ∀ z ∈ zs, PyData.strOk z = true := fun z m => lok z (perm2.mem_iff.mp m)
    refine neSame (B4.keep _ _ (by simp) (B3.keep _ _ (by simp) v1)) v2 (okF_strs zok) ⟨_, rfl, ?_⟩
    refine iteF ?_
    have B04 := (B02.trans B3).trans B4
    have h24 := B04.keep _ _ (by simp) h2
    have z24 : AtP [p2] H4 kes kv2 := z2.mono B04.nil
    have z14 := z1.mono (Zm.but B04)
    have h14 := (Zm.but B04).dct _ _ h1
    refine ⟨p2, .dK kv2, h24, trivial, fun od => ?_⟩
    have zl : Zm H4 (upd H4 p2 (.frz od (.dK kv2))) := Zm.lock h24
    have h2l : (upd H4 p2 (.frz od (.dK kv2))) p2 = some (.frz od (.dK kv2)) := upd_same
    have z2l : AtP [p2] (upd H4 p2 (.frz od (.dK kv2))) kes kv2 := z24.mono (lock_but h24)
    have z1l := z14.mono zl
    have h1l := zl.dct _ _ h14
    have back : ∀ H', But [] (upd H4 p2 (.frz od (.dK kv2))) H' → But [] H4 (upd H' p2 (.dK kv2)) := fun H' b => unlock_but h24 b
    generalize upd H4 p2 (.frz od (.dK kv2)) = HL at h2l z2l z1l h1l back ⊢
    refine ⟨_, rfl, p2, od, rfl, .inl ⟨kv2, h2l, fun Dl hD => ?_⟩⟩
    have uD : (upd HL Dl (.lst [])) Dl = some (.lst []) := upd_same
    refine lc_it walk_keys (fun i H' => H' Dl = some (.lst []) ∧ But [] HL H') ⟨uD, But.new hD⟩ (fun i H' _ q => q.2.keep _ _ (by simp) h2l) ?_ ?_
    · rintro i v H5 H6 hi ⟨q1', b5⟩ ⟨rfl, kk, vv, hk, rfl⟩
      obtain ⟨nm, e', g1, rfl, _⟩ := z2l.get hk
      have nmk : nm ∈ keysD kes := List.mem_map.mpr ⟨_, List.mem_of_getElem? g1, rfl⟩
      obtain ⟨e2, w2, f1, f2, f3⟩ := (z2l.mono b5.nil).val nmk
      obtain ⟨d2, f4, f5⟩ := ll.get f1
      obtain ⟨w1, f6, f7⟩ := (z1l.mono (Zm.but b5)).val f4
      refine ⟨wipe_one, ?_⟩
      refine ⟨_, rfl, _, rfl, p1, w1, rfl, .inl ⟨kv1, .inr nm, (Zm.but b5).dct _ _ h1l, rfl, f6.symm⟩, _, rfl, _, rfl, p2, w2, rfl, .inl ⟨kv2, .inr nm, .inr ⟨od, b5.keep _ _ (by simp) h2l⟩, rfl, f2.symm⟩, ?_⟩
      refine ⟨d2, e2, w1, w2, rfl, f7, f3.less (M' := []) (by simp), f5, ?_, fun H7 b7 => ⟨_, rfl, ?_⟩⟩
      · have := dpP_get (lookup_mem f1)
        show e2.dp < n
        have hn' : D.dpP kes + 1 < n + 1 := hn
        omega
      · exact iteF ⟨b7.keep _ _ (by simp) q1', b5.trans b7⟩
    · rintro H5 ⟨q1', b5⟩
      have BB := back H5 b5
      have nDp : Dl ≠ p2 := fun z => by rw [z, h2l] at hD; cases hD
      refine ⟨b5.keep _ _ (by simp) h2l, sz0, fun q3 hq3 => ?_⟩
      have uq : (upd H5 p2 (.dK kv2)) Dl = some (.lst []) := by rw [upd_ne nDp]; exact q1'
      exact eqE (xs := []) (by rw [upd_ne (ne_of_none uq hq3)]; exact uq) rfl upd_same (k _ ((B04.trans BB).upd' hq3))
  | false =>
    refine iteF ?_
    refine ⟨_, rfl, by show 2 ≤ sizeLine; decide, fun q1 hq1 => ?_⟩
    have B1 : But [] H (upd H q1 (.tup [.ty "list", .ty "tuple"])) := But.new hq1
    have u1 : (upd H q1 (.tup [.ty "list", .ty "tuple"])) q1 = some (.tup [.ty "list", .ty "tuple"]) := upd_same
    generalize upd H q1 (.tup [.ty "list", .ty "tuple"]) = H1 at B1 u1 ⊢
    have hx1 := hx.mono (Zm.but B1)
    have hy1 := hy.mono B1
    refine ⟨y, q1, _, _, _, e.isSeq, rfl, u1, .cons (.ty _) (.cons (.ty _) .nil), hy1.ty, kit_seq, _, rfl, ?_⟩
    cases hs : e.isSeq with
    | true =>
      rw [hs] at es
      refine iteT ?_
      refine ⟨_, rfl, by show 2 ≤ sizeLine; decide, fun q2 hq2 => ?_⟩
      have B2 : But [] H1 (upd H1 q2 (.tup [.ty "list", .ty "tuple"])) := But.new hq2
      have u2 : (upd H1 q2 (.tup [.ty "list", .ty "tuple"])) q2 = some (.tup [.ty "list", .ty "tuple"]) := upd_same
      generalize upd H1 q2 (.tup [.ty "list", .ty "tuple"]) = H2 at B2 u2 ⊢
      have hx2 := hx1.mono (Zm.but B2)
      have hy2 := hy1.mono B2
      have B02 := B1.trans B2
      refine ⟨x, q2, _, _, _, d.isSeq, rfl, u2, .cons (.ty _) (.cons (.ty _) .nil), hx2.ty, kit_seq, _, rfl, ?_⟩
      rw [es]
      refine iteF ?_
      refine ⟨_, rfl, x, _, _, _, d.isLst, rfl, .ty _, hx2.ty, kit_lst, _, rfl, y, _, _, _, e.isLst, rfl, .ty _, hy2.ty, kit_lst, ?_⟩
      rw [el]
      refine ⟨rfl, _, rfl, ?_⟩
      rw [decide_eq_true (rfl : V.bl e.isLst = V.bl e.isLst)]
      refine iteF ?_
      obtain ⟨p1, xs1, rfl, a1, z1⟩ := hx2.seq (K := K) es
      obtain ⟨p2, xs2, rfl, a2, z2⟩ := hy2.seq (K := K) hs
      obtain ⟨ll, l1000⟩ := like_seq hl hs
      have n1 := z1.length
      have n2 := z2.length
      have n3 := ll.length
      refine ⟨_, rfl, _, xs1.length, rfl, a1.lenV, _, rfl, _, xs2.length, rfl, a2.lenV, rfl, _, rfl, ?_⟩
      rw [decide_eq_true (show V.int (xs1.length : Int) = V.int (xs2.length : Int) by rw [n1, n2, n3])]
      refine iteF ?_
      refine ⟨_, rfl, _, xs2.length, rfl, a2.lenV, (xs2.length : Int), rfl, by omega, by omega, fun Dl hD => ?_⟩
      have uD : (upd H2 Dl (.lst [])) Dl = some (.lst []) := upd_same
      refine lc_it walk_range (fun i H' => H' Dl = some (.lst []) ∧ But [] H2 H') ⟨uD, But.new hD⟩ (fun _ _ _ _ => trivial) ?_ ?_
      · rintro i v H5 H6 hi ⟨q1', b5⟩ ⟨rfl, rfl⟩
        have hi2 : i < xs2.length := by simpa using hi
        have hi1 : i < xs1.length := by omega
        obtain ⟨d2, f1, f2⟩ := (z1.mono (Zm.but b5)).get (i := i) (x := xs1[i]) (by simp [hi1])
        obtain ⟨e2, g1, g2⟩ := (z2.mono b5).get (i := i) (x := xs2[i]) (by simp [hi2])
        refine ⟨wipe_one, ?_⟩
        refine ⟨_, rfl, _, rfl, (a1.but b5).ixR (i := i) (v := xs1[i]) (by simp [hi1]) (by omega) ?_⟩
        refine ⟨_, rfl, _, rfl, (a2.but b5).ixR (i := i) (v := xs2[i]) (by simp [hi2]) (by omega) ?_⟩
        refine ⟨d2, e2, _, _, rfl, f2, g2, ll.get f1 g1, ?_, fun H7 b7 => ⟨_, rfl, ?_⟩⟩
        · have := items_dp (List.mem_of_getElem? g1)
          omega
        · exact iteF ⟨b7.keep _ _ (by simp) q1', b5.trans b7⟩
      · rintro H5 ⟨q1', b5⟩
        refine ⟨sz0, fun q3 hq3 => ?_⟩
        exact eqE (xs := []) (by rw [upd_ne (ne_of_none q1' hq3)]; exact q1') rfl upd_same (k _ ((B02.trans b5).upd' hq3))
    | false =>
      refine iteF ?_
      have hf : e.isFlat = true := by cases e <;> first | rfl | (cases hs; done) | (cases hd; done)
      refine ⟨_, rfl, x, _, _, _, d.isBool, rfl, .ty _, hx1.ty, kit_bool, _, rfl, y, _, _, _, e.isBool, rfl, .ty _, hy1.ty, kit_bool, ?_⟩
      rw [eb]
      refine ⟨rfl, _, rfl, ?_⟩
      rw [decide_eq_true (rfl : V.bl e.isBool = V.bl e.isBool)]
      refine iteF ?_
      refine ⟨_, rfl, x, _, _, _, d.isInt, rfl, .ty _, hx1.ty, kit_int, _, rfl, y, _, _, _, e.isInt, rfl, .ty _, hy1.ty, kit_int, ?_⟩
      rw [ei]
      refine ⟨rfl, _, rfl, ?_⟩
      rw [decide_eq_true (rfl : V.bl e.isInt = V.bl e.isInt)]
      refine iteT ?_
      obtain ⟨exy, sc⟩ := flat_eq hl hf hx1 hy1
      refine ⟨_, rfl, _, rfl, sc, ?_⟩
      rw [decide_eq_true exy]
      exact k H1 B1
end Kb

set_option Elab.async false
set_option linter.all false
set_option maxRecDepth 100000
set_option maxHeartbeats 4000000
/-! Kb, 23: the objects of a datum that may be written. -/
namespace Kb
open PySem PySem.Spec PyProof.Rows L2

/-- tuples stand on -/
def TupK (H H' : Hp) : Prop := ∀ p xs, H p = some (.tup xs) → H' p = some (.tup xs)
theorem TupK.refl {H : Hp} : TupK H H := fun _ _ e => e
theorem TupK.trans {H H1 H2 : Hp} (a : TupK H H1) (b : TupK H1 H2) : TupK H H2 := fun p xs e => b p xs (a p xs e)
/-- the objects in P stand as they did -/
def Keeps (P : List Addr) (H H' : Hp) : Prop := ∀ x ∈ P, ∀ o, H x = some o → H' x = some o
theorem Keeps.trans {P : List Addr} {H H1 H2 : Hp} (a : Keeps P H H1) (b : Keeps P H1 H2) : Keeps P H H2 := fun x m o e => b x m o (a x m o e)
theorem Keeps.sub {P P' : List Addr} {H H' : Hp} (a : Keeps P H H') (s : ∀ x ∈ P', x ∈ P) : Keeps P' H H' := fun x m => a x (s x m)
theorem But.tupK {M : List Addr} {H H' : Hp} (b : But M H H') (t : NoTup M H) : TupK H H' := fun p xs e => b.keep _ _ (fun m => t p m xs e) e
theorem But.keeps {M P : List Addr} {H H' : Hp} (b : But M H H') (d : ∀ x ∈ P, x ∉ M) : Keeps P H H' := fun x m o e => b.keep _ _ (d x m) e
/-- P holds every list and dict of what stands -/
structure Foot (M : List Addr) (H : Hp) (P : List Addr) (A : List Addr → Hp → Prop) : Prop where
  std : Std P H
  nt : NoTup P H
  out : ∀ x ∈ P, x ∉ M
  on : ∀ M' H', TupK H H' → Keeps P H H' → (∀ x ∈ M', x ∉ P) → NoTup M' H → A M' H'
theorem Foot.nil {M : List Addr} {H : Hp} {A : List Addr → Hp → Prop} (h : ∀ M' H', A M' H') : Foot M H [] A := ⟨Std.nil, NoTup.nil, fun _ z => by (cases z), fun M' H' _ _ _ _ => h M' H'⟩
theorem Foot.two {M : List Addr} {H : Hp} {P P' : List Addr} {A B C : List Addr → Hp → Prop} (a : Foot M H P A) (b : Foot M H P' B) (h : ∀ M' H', A M' H' → B M' H' → C M' H') : Foot M H (P ++ P') C :=
  ⟨a.std.app b.std, a.nt.app b.nt, fun x m => (List.mem_append.mp m).elim (a.out x) (b.out x), fun M' H' t k d n => h M' H'
    (a.on M' H' t (k.sub fun x m => List.mem_append.mpr (.inl m)) (fun x m z => d x m (List.mem_append.mpr (.inl z))) n)
    (b.on M' H' t (k.sub fun x m => List.mem_append.mpr (.inr m)) (fun x m z => d x m (List.mem_append.mpr (.inr z))) n)⟩
/-- a list or dict at p besides -/
theorem Foot.put {M : List Addr} {H : Hp} {P : List Addr} {p : Addr} {o : HO} {A C : List Addr → Hp → Prop} (a : Foot M H P A) (hp : H p = some o) (ho : ∀ xs, o ≠ .tup xs) (m : p ∉ M) (h : ∀ M' H', A M' H' → p ∉ M' → H' p = some o → C M' H') : Foot M H (p :: P) C := by
  refine ⟨Std.cons hp a.std, NoTup.cons hp ho a.nt, fun x z => ?_, fun M' H' t k d n => h M' H' (a.on M' H' t (k.sub fun x m => List.mem_cons_of_mem _ m) (fun x m z => d x m (List.mem_cons_of_mem _ z)) n) (fun z => d p z (by simp)) (k p (by simp) o hp)⟩
  rcases List.mem_cons.mp z with e | z
  · rw [e]
    exact m
  · exact a.out x z
/-- a tuple at p besides -/
theorem Foot.tup {M : List Addr} {H : Hp} {P : List Addr} {p : Addr} {xs : List V} {A C : List Addr → Hp → Prop} (a : Foot M H P A) (hp : H p = some (.tup xs)) (h : ∀ M' H', A M' H' → p ∉ M' → H' p = some (.tup xs) → C M' H') : Foot M H P C :=
  ⟨a.std, a.nt, a.out, fun M' H' t k d n => h M' H' (a.on M' H' t k d n) (fun z => n p z xs hp) (t p xs hp)⟩
mutual
theorem At.foot {M : List Addr} {H : Hp} : ∀ {d : D} {v : V}, At M H d v → ∃ P, Foot M H P fun M' H' => At M' H' d v
  | .non, _, h => ⟨[], .nil fun _ _ => h⟩
  | .bl _, _, h => ⟨[], .nil fun _ _ => h⟩
  | .int _, _, h => ⟨[], .nil fun _ _ => h⟩
  | .str _, _, h => ⟨[], .nil fun _ _ => h⟩
  | .tup ds, _, h => by
    obtain ⟨p, xs, e, m, hp, hl⟩ := h
    obtain ⟨P, f⟩ := AtL.foot hl
    exact ⟨P, f.tup hp fun M' H' a b c => ⟨p, xs, e, b, c, a⟩⟩
  | .lst ds, _, h => by
    obtain ⟨p, xs, e, m, hp, hl⟩ := h
    obtain ⟨P, f⟩ := AtL.foot hl
    exact ⟨p :: P, f.put hp (fun _ z => nomatch z) m fun M' H' a b c => ⟨p, xs, e, b, c, a⟩⟩
  | .dct ds, _, h => by
    obtain ⟨p, xs, e, m, hp, hl⟩ := h
    obtain ⟨P, f⟩ := AtP.foot hl
    exact ⟨p :: P, f.put hp (fun _ z => nomatch z) m fun M' H' a b c => ⟨p, xs, e, b, c, a⟩⟩
theorem AtL.foot {M : List Addr} {H : Hp} : ∀ {ds : List D} {xs : List V}, AtL M H ds xs → ∃ P, Foot M H P fun M' H' => AtL M' H' ds xs
  | [], _, h => ⟨[], .nil fun _ _ => h⟩
  | d :: ds, _, h => by
    obtain ⟨x, r, e, h1, h2⟩ := h
    obtain ⟨P, f⟩ := At.foot h1
    obtain ⟨P', f'⟩ := AtL.foot h2
    exact ⟨P ++ P', f.two f' fun M' H' a b => ⟨x, r, e, a, b⟩⟩
theorem AtP.foot {M : List Addr} {H : Hp} : ∀ {ds : List (Str × D)} {xs : List (Key × V)}, AtP M H ds xs → ∃ P, Foot M H P fun M' H' => AtP M' H' ds xs
  | [], _, h => ⟨[], .nil fun _ _ => h⟩
  | (k, d) :: ds, _, h => by
    obtain ⟨x, r, e, h1, h2⟩ := h
    obtain ⟨P, f⟩ := At.foot h1
    obtain ⟨P', f'⟩ := AtP.foot h2
    exact ⟨P ++ P', f.two f' fun M' H' a b => ⟨x, r, e, a, b⟩⟩
end
theorem KOb.foot {K : PySem.W.Frag} {M : List Addr} {H : Hp} {a : Addr} {nm : Str} {L O : List (Str × D)} {R : List D} {h : Bool} (k : KOb K M H a nm L O R h) : ∃ P, a ∈ P ∧ Foot M H P fun M' H' => KOb K M' H' a nm L O R h := by
  obtain ⟨dx, l, o, r, m, e, h1, h2, h3⟩ := k
  obtain ⟨P1, f1⟩ := h1.foot
  obtain ⟨P2, f2⟩ := h2.foot
  obtain ⟨P3, f3⟩ := h3.foot
  exact ⟨a :: (P1 ++ (P2 ++ P3)), by simp, (f1.two (f2.two f3 fun M' H' a b => And.intro a b) fun M' H' a b => And.intro a b).put e (fun _ z => nomatch z) m fun M' H' q m' e' => ⟨dx, l, o, r, m', e', q.1, q.2.1, q.2.2⟩⟩
/-- what is new avoids what stood -/
theorem NewT.sep {H H' : Hp} {d : D} {v : V} {P : List Addr} (n : NewT H H' d v) (s : Std P H) (t : NoTup P H) : ∃ P', Foot P H' P' fun M' H'' => At M' H'' d v := (n P s t).foot
end Kb

set_option Elab.async false
set_option linter.all false
set_option maxRecDepth 100000
set_option maxHeartbeats 4000000
/-! Kb, 24: the machine's start; lists or tuples as drawn; a rule told loosely. -/
namespace Kb
open PySem PySem.Spec PyProof.Rows L2

/-! ### _law_state -/
def sp_l_state (K : PySem.W.Frag) : Sp := fun vs H Q _ => ∃ (s : Addr) (ns : List Int), vs = [.ref s] ∧ SqL K H s (ns.map V.int) ∧ ∀ a c H', H a = none → H c = none → StAt H' a c → But [] H H' → Q (.ref a) H'
theorem len_l_state {K : PySem.W.Frag} {vs : List V} {H : Hp} {Q : VK} {E : XK} (h : sp_l_state K vs H Q E) : vs.length = 1 := by
  obtain ⟨_, _, rfl, _⟩ := h
  rfl
def t_l_state (K : PySem.W.Frag) : TS :=
  (tSeq (tAsg (tLc (iList K (tSl (rSlL K) (tVar 0) tNoPart (tPart (tC (.int 63))))) (gName 2) tYes (tCB rAbs (tCons (tCB rInt1 (tCons (tVar 2) tNil)) tNil)) [2]) (gName 1))
  (tSeq (tIfS (tTest (tOp (rEqD K) (tVar 1) (tLst tNil)))
    (tAsg (tLst (tCons (tC (.int 0)) tNil)) (gName 1))
    tNext)
  (tRet (tLst (tCons (tVar 1) (tCons (tC (.int 0)) (tCons (tC (.int 0)) tNil)))))))
theorem okF_ints {ns : List Int} : (ns.map V.int).all okF = true := by
  rw [List.all_map]
  exact List.all_eq_true.mpr fun _ _ => rfl
theorem pure_l_state {K : PySem.W.Frag} (vs : List V) (H : Hp) (Q : VK) (E : XK) (h : sp_l_state K vs H Q E) : t_l_state K (fin Q) (st0 3 vs) H := by
  obtain ⟨s, ns, rfl, hs, k⟩ := h
  refine ⟨_, rfl, 63, rfl, _, _, rfl, hs, fun q hq => ?_⟩
  rw [show cutV (ns.map V.int) none (some 63) = (ns.take 63).map V.int by rw [List.map_take]; exact cutN (n := 63)]
  have B1 : But [] H (upd H q (.lst ((ns.take 63).map V.int))) := But.new hq
  have u1 : (upd H q (.lst ((ns.take 63).map V.int))) q = some (.lst ((ns.take 63).map V.int)) := upd_same
  generalize upd H q (.lst ((ns.take 63).map V.int)) = H1 at B1 u1 ⊢
  have hlen : (ns.take 63).length ≤ 63 := by rw [List.length_take]; omega
  generalize ns.take 63 = ms at u1 hlen ⊢
  have ml : (ms.map V.int).length = ms.length := List.length_map ..
  refine ⟨q, rfl, ⟨_, SqL.of u1⟩, lc_map (j := 2) (σ := [some (.ref s), none, none]) (Q := fun x H2 => gName 1 x [some (.ref s), none, none] H2 (tSeq
    (tIfS (tTest (tOp (rEqD K) (tVar 1) (tLst tNil))) (tAsg (tLst (tCons (tC (.int 0)) tNil)) (gName 1)) tNext)
    (tRet (tLst (tCons (tVar 1) (tCons (tC (.int 0)) (tCons (tC (.int 0)) tNil))))) (fin Q))) (te := tCB rAbs (tCons (tCB rInt1 (tCons (tVar 2) tNil)) tNil)) (walk_list (K := K) (a := q) (xs := ms.map V.int)) (fun H' b => SqL.of (b.keep _ _ (by simp) u1)) (fun n => V.int ((ms.getD n 0).natAbs : Nat)) (by omega) But.refl ?_ ?_⟩
  · intro n y H2 hy b2 Q' q'
    rw [List.getElem?_map] at hy
    obtain ⟨m, hm, rfl⟩ := Option.map_eq_some_iff.mp hy
    refine ⟨_, rfl, .inl ⟨m, rfl, m, rfl, ?_⟩⟩
    have e : ms.getD n 0 = m := by rw [List.getD_eq_getElem?_getD, hm]; rfl
    have := q' H2 But.refl
    rw [e] at this
    rw [show (if m < 0 then -m else m) = ((m.natAbs : Nat) : Int) by split <;> omega]
    exact this
  · intro c H2 hc hc2 b2
    have ec : (List.range (ms.map V.int).length).map (fun n => V.int ((ms.getD n 0).natAbs : Nat)) = (ms.map fun m => ((m.natAbs : Nat) : Int)).map V.int := by
      rw [ml]
      refine List.ext_getElem? fun n => ?_
      rw [List.getElem?_map, List.getElem?_map, List.getElem?_map]
      by_cases h : n < ms.length
      · rw [List.getElem?_range h, List.getElem?_eq_getElem h]
        show some (V.int ((ms.getD n 0).natAbs : Nat)) = some (V.int (ms[n].natAbs : Nat))
        rw [List.getD_eq_getElem?_getD, List.getElem?_eq_getElem h]
        rfl
      · rw [List.getElem?_eq_none (by rw [List.length_range]; omega), List.getElem?_eq_none (by omega)]
        rfl
    rw [ec] at hc2
    have hcl : (ms.map fun m => ((m.natAbs : Nat) : Int)).length ≤ 63 := by rw [List.length_map]; exact hlen
    generalize (ms.map fun m => ((m.natAbs : Nat) : Int)) = ks at hc2 hcl
    have B2 := B1.trans b2
    have hc0 : H c = none := B1.free hc
    -- what is told at the end
    have done : ∀ (c' : Addr) (H3 : Hp) (ks' : List Int), H3 c' = some (.lst (ks'.map V.int)) → ks' ≠ [] → ks'.length ≤ 63 → H c' = none → But [] H H3 →
        tRet (tLst (tCons (tVar 1) (tCons (tC (.int 0)) (tCons (tC (.int 0)) tNil)))) (fin Q) [some (.ref s), some (.ref c'), none] H3 := fun c' H3 ks' h3 ne l3 hc' b3 => by
      refine ⟨_, rfl, by show 3 ≤ sizeLine; decide, fun a ha => ?_⟩
      have ca : c' ≠ a := ne_of_none h3 ha
      refine k a c' _ (b3.free ha) hc' ⟨Ne.symm ca, ⟨0, 0, upd_same⟩, ks', by rw [upd_ne ca]; exact h3, ne, l3⟩ (b3.upd' ha)
    refine ⟨_, rfl, sz0, fun e1 he1 => ?_⟩
    have c1 : c ≠ e1 := ne_of_none hc2 he1
    refine eqE (xs := ks.map V.int) (by rw [upd_ne c1]; exact hc2) okF_ints upd_same ⟨_, rfl, ?_⟩
    cases ks with
    | nil =>
      refine iteT ⟨by show 1 ≤ sizeLine; decide, fun e2 he2 => ?_⟩
      exact done e2 _ [0] upd_same (by simp) (by simp) ((B2.upd' he1).free he2) ((B2.upd' he1).upd' he2)
    | cons k0 kr =>
      exact iteF (done c _ (k0 :: kr) (by rw [upd_ne c1]; exact hc2) (by simp) hcl hc0 (B2.upd' he1))

/-! ### _law_loose -/
def sp_l_loose (K : PySem.W.Frag) : Sp := fun vs H Q _ => ∃ (a c r : Addr) (xs : List V), vs = [.ref a, .ref r] ∧ StAt H a c ∧ r ∉ [a, c] ∧ (H r = some (.lst xs) ∨ H r = some (.tup xs)) ∧
  ∀ (p : Addr) (H' : Hp), (H' p = some (.lst xs) ∧ H p = none ∨ H' p = some (.tup xs) ∧ (H p = none ∨ H p = some (.tup xs))) → StAt H' a c → But [a, c] H H' → Q (.ref p) H'
theorem len_l_loose {K : PySem.W.Frag} {vs : List V} {H : Hp} {Q : VK} {E : XK} (h : sp_l_loose K vs H Q E) : vs.length = 2 := by
  obtain ⟨_, _, _, _, rfl, _⟩ := h
  rfl
def t_l_loose (K : PySem.W.Frag) : TS :=
  (tSeq (tIfS (tTest (tOp rEq (tCall (sp_l_draw K) [] E0 (tCons (tVar 0) (tCons (tC (.int 2)) tNil))) (tC (.int 0))))
    (tRet (tCB (rListOf K) (tCons (tVar 1) tNil)))
    tNext)
  (tRet (tCB (rTupOf K) (tCons (tVar 1) tNil))))
theorem pure_l_loose {K : PySem.W.Frag} (vs : List V) (H : Hp) (Q : VK) (E : XK) (h : sp_l_loose K vs H Q E) : t_l_loose K (fin Q) (st0 2 vs) H := by
  obtain ⟨a, c, r, xs, rfl, S, hr, hx, k⟩ := h
  refine ⟨_, rfl, a, c, 2, rfl, S, by decide, by decide, fun n H1 e1 e2 S1 B1 => ⟨rfl, _, rfl, ?_⟩⟩
  have hx1 : H1 r = some (.lst xs) ∨ H1 r = some (.tup xs) := hx.imp (B1.keep _ _ hr) (B1.keep _ _ hr)
  have sq : SqL K H1 r xs ∨ SqT K H1 r xs := hx1.imp SqL.of SqT.of
  refine ite2 (fun _ => ?_) (fun _ => ?_)
  · exact ⟨_, rfl, r, xs, rfl, sq, fun l hl => k l _ (.inl ⟨upd_same, B1.free hl⟩) (S1.new hl) (B1.upd' hl)⟩
  · refine ⟨_, rfl, r, xs, rfl, ?_⟩
    rcases hx1 with hx1 | hx1
    · exact .inl ⟨SqL.of hx1, fun l hl => k l _ (.inr ⟨upd_same, .inl (B1.free hl)⟩) (S1.new hl) (B1.upd' hl)⟩
    · refine .inr ⟨SqT.of hx1, k r H1 (.inr ⟨hx1, ?_⟩) S1 B1⟩
      rcases hx with hx | hx
      · rw [B1.keep _ _ hr hx] at hx1
        cases hx1
      · exact .inr hx
/-- the datum that a drawn list or tuple of these parts is -/
def Seq2 (d : D) (ds : List D) : Prop := d = .lst ds ∨ d = .tup ds
theorem Seq2.items {d : D} {ds : List D} (h : Seq2 d ds) : d.isSeq = true ∧ d.items = ds := by
  rcases h with rfl | rfl <;> exact ⟨rfl, rfl⟩
/-- .. laid at p -/
theorem loose_new {H H0 H' : Hp} {p : Addr} {xs : List V} {ds : List D} (h : H' p = some (.lst xs) ∧ H0 p = none ∨ H' p = some (.tup xs) ∧ (H0 p = none ∨ H0 p = some (.tup xs))) (b : But [] H H0) (n : NewTL H H' ds xs) : ∃ d, Seq2 d ds ∧ NewT H H' d (.ref p) := by
  rcases h with ⟨h1, h2⟩ | ⟨h1, h2⟩
  · exact ⟨.lst ds, .inl rfl, NewT.lstm n But.refl (b.free h2) h1⟩
  · refine ⟨.tup ds, .inr rfl, fun M s t => ⟨p, xs, rfl, fun m => ?_, h1, n M s t⟩⟩
    cases q : H p with
    | none => exact s p m q
    | some o =>
      have e := b.keep p o (by simp) q
      rcases h2 with h2 | h2
      · rw [e] at h2
        cases h2
      · rw [e] at h2
        exact t p m xs (q.trans h2)
end Kb

set_option Elab.async false
set_option linter.all false
set_option maxRecDepth 100000
set_option maxHeartbeats 4000000
/-! Kb, 25: _law_loose_rule. -/
namespace Kb
open PySem PySem.Spec PyProof.Rows L2

theorem perm_strs {ys : List V} {ns : List Str} (h : ys.Perm (ns.map V.str)) : ∃ ms : List Str, ms.Perm ns ∧ ys = ms.map V.str := by
  let g : V → Str := fun v => match v with
    | .str x => x
    | _ => ""
  refine ⟨ys.map g, ?_, ?_⟩
  · have := h.map g
    rw [List.map_map] at this
    have e : ns.map (g ∘ V.str) = ns := by
      have : (g ∘ V.str) = id := rfl
      rw [this, List.map_id]
    rw [e] at this
    exact this
  · rw [List.map_map]
    refine (List.map_id ys).symm.trans (List.map_congr_left fun y m => ?_)
    obtain ⟨x, _, rfl⟩ := List.mem_map.mp (h.mem_iff.mp m)
    rfl
/-- .. where the machine has drawn in between -/
theorem loose_new2 {H H0 H' : Hp} {a c p : Addr} {xs : List V} {ds : List D} (h : H' p = some (.lst xs) ∧ H0 p = none ∨ H' p = some (.tup xs) ∧ (H0 p = none ∨ H0 p = some (.tup xs))) (b : But [a, c] H H0) (S : StAt H0 a c) (n : NewTL H H' ds xs) :
    ∃ d, Seq2 d ds ∧ NewT H H' d (.ref p) := by
  rcases h with ⟨h1, h2⟩ | ⟨h1, h2⟩
  · exact ⟨.lst ds, .inl rfl, NewT.lstm n But.refl (b.free h2) h1⟩
  · refine ⟨.tup ds, .inr rfl, fun M s t => ⟨p, xs, rfl, fun m => ?_, h1, n M s t⟩⟩
    cases q : H p with
    | none => exact s p m q
    | some o =>
      rcases h2 with h2 | h2
      · exact b.stand p (ne_none q) h2
      · have e := b.keep p o (fun z => S.notup p z xs h2) q
        rw [e] at h2
        exact t p m xs (q.trans h2)
/-- a rule as it is told: lists or tuples, the names in any order -/
def LooseRule (f : Str) (ns : List Str) (rest : List D) (e : D) : Prop := ∃ (n : D) (ms : List Str), Seq2 e (.str f :: n :: rest) ∧ Seq2 n (ms.map D.str) ∧ ms.Perm ns
def sp_l_loose_rule (K : PySem.W.Frag) : Sp := fun vs H Q _ => ∃ (a c : Addr) (f : Str) (ns : List Str) (rest : List D) (v : V), vs = [.ref a, v] ∧ StAt H a c ∧ At [a, c] H (.tup (.str f :: nmD ns :: rest)) v ∧ rest.all D.isFlat = true ∧ rest.length ≤ 10 ∧ ns.length ≤ 10 ∧
  ∀ e w H', LooseRule f ns rest e → NewT H H' e w → StAt H' a c → But [a, c] H H' → Q w H'
theorem len_l_loose_rule {K : PySem.W.Frag} {vs : List V} {H : Hp} {Q : VK} {E : XK} (h : sp_l_loose_rule K vs H Q E) : vs.length = 2 := by
  obtain ⟨_, _, _, _, _, _, rfl, _⟩ := h
  rfl
def t_l_loose_rule (K : PySem.W.Frag) : TS :=
  (tRet (tCall (sp_l_loose K) [] E0 (tCons (tVar 0) (tCons (tOp rCat (tLst (tCons (tOp (rIx K) (tVar 1) (tC (.int 0))) (tCons (tCall (sp_l_loose K) [] E0 (tCons (tVar 0) (tCons (tCall (sp_l_shuffled K) [] E0 (tCons (tVar 0) (tCons (tCB (rListOf K) (tCons (tOp (rIx K) (tVar 1) (tC (.int 1))) tNil)) tNil))) tNil))) tNil))) (tCB (rListOf K) (tCons (tSl (fun x lo hi H Q => rSlL K x lo hi H Q ∨ rSlA K x lo hi H Q) (tVar 1) (tPart (tC (.int 2))) tNoPart) tNil))) tNil))))
theorem pure_l_loose_rule {K : PySem.W.Frag} (vs : List V) (H : Hp) (Q : VK) (E : XK) (h : sp_l_loose_rule K vs H Q E) : t_l_loose_rule K (fin Q) (st0 2 vs) H := by
  obtain ⟨a, c, f, ns, rest, v, rfl, S, hv, hf, r10, n10, k⟩ := h
  obtain ⟨r, xs, rfl, nr, hr, hl⟩ := hv
  obtain ⟨x0, _, rfl, h0, x1, rs, rfl, h1, hrs⟩ := hl
  obtain rfl : x0 = V.str f := h0
  obtain ⟨q, ys, rfl, nq, hq, hys⟩ := h1
  obtain ⟨e1, _⟩ := strs_at hys (List.all_eq_true.mpr fun d m => by
    obtain ⟨z, _, rfl⟩ := List.mem_map.mp m
    rfl)
  have e2 : strsOf (ns.map D.str) = ns := by
    have : ∀ l : List Str, strsOf (l.map D.str) = l := fun l => by
      induction l with
      | nil => rfl
      | cons a b ih => show a :: strsOf (b.map D.str) = _; rw [ih]
    exact this ns
  rw [e2] at e1
  subst e1
  have sr : SqV K H r (.str f :: .ref q :: rs) := .inr (SqT.of hr)
  have rl := hrs.length
  refine ⟨_, rfl, _, rfl, sr.ixR (i := 0) rfl rfl ?_⟩
  refine ⟨_, rfl, _, rfl, _, rfl, sr.ixR (i := 1) rfl rfl ⟨q, ns.map V.str, rfl, .inr (SqT.of hq), fun l hl => ?_⟩⟩
  refine ⟨a, c, l, ns.map V.str, rfl, S.new hl, S.no hl, upd_same, by rw [List.length_map]; omega, fun zs l2 H2 perm hl2 hl3 S2 B2 => ?_⟩
  obtain ⟨ms, mp, rfl⟩ := perm_strs perm
  have B02 : But [a, c] H H2 := (But.new hl).trans B2
  refine ⟨a, c, l2, ms.map V.str, rfl, S2, (S.new hl).no hl2, .inl hl3, fun p H3 hp S3 B3 => ?_⟩
  have B03 := B02.trans B3
  obtain ⟨nd, s2, nn⟩ := loose_new2 (ds := ms.map D.str) hp B02 S2 (fun M s t => AtL.strs)
  refine ⟨by show 2 ≤ sizeLine; decide, fun p1 hp1 => ?_⟩
  have S4 := S3.new (o := .lst [.str f, .ref p]) hp1
  have B04 : But [a, c] H (upd H3 p1 (.lst [.str f, .ref p])) := B03.upd' hp1
  have B34 : But [] H3 (upd H3 p1 (.lst [.str f, .ref p])) := But.new hp1
  have u4 : (upd H3 p1 (.lst [.str f, .ref p])) p1 = some (.lst [.str f, .ref p]) := upd_same
  have n4 := S3.no hp1
  generalize upd H3 p1 (.lst [.str f, .ref p]) = H4 at S4 B04 B34 u4 ⊢
  refine ⟨_, rfl, 2, rfl, sl2 (K := K) (.inr (SqT.of (B04.keep _ _ nr hr))) fun q4 H5 hq4 b5 => ⟨q4, rs, rfl, hq4, fun l4 hl4 => ?_⟩⟩
  have S6 := (S4.nil b5).new (o := .lst rs) hl4
  have B46 : But [] H4 (upd H5 l4 (.lst rs)) := b5.upd' hl4
  have u6 : (upd H5 l4 (.lst rs)) l4 = some (.lst rs) := upd_same
  generalize upd H5 l4 (.lst rs) = H6 at S6 B46 u6 ⊢
  refine ⟨p1, l4, [.str f, .ref p], rs, rfl, rfl, B46.keep _ _ (by simp) u4, u6, Nat.le_trans (by simp; omega) (show 20 ≤ sizeLine by decide), fun p5 hp5 => ?_⟩
  have S7 := S6.new (o := .lst ([.str f, .ref p] ++ rs)) hp5
  have B67 : But [] H6 (upd H6 p5 (.lst ([.str f, .ref p] ++ rs))) := But.new hp5
  have u7 : (upd H6 p5 (.lst ([.str f, .ref p] ++ rs))) p5 = some (.lst (.str f :: .ref p :: rs)) := upd_same
  have n7 := S6.no hp5
  generalize upd H6 p5 (.lst ([.str f, .ref p] ++ rs)) = H7 at S7 B67 u7 ⊢
  have B37 : But [] H3 H7 := (B34.trans B46).trans B67
  refine ⟨a, c, p5, _, rfl, S7, n7, .inl u7, fun w H8 hw S8 B8 => ?_⟩
  have B07 : But [a, c] H H7 := (B04.trans B46.nil).trans B67.nil
  have nn8 : NewT H H8 nd (.ref p) := nn.mono S.std S.notup (B37.nil.trans B8)
  obtain ⟨e, s3, ne⟩ := loose_new2 (ds := .str f :: nd :: rest) hw B07 S7 (fun M s t => ⟨_, _, rfl, rfl, _, _, rfl, nn8 M s t, AtL.flat hf hrs⟩)
  exact k e (.ref w) H8 ⟨nd, ms, s3, s2, mp⟩ ne S8 (B07.trans B8)
end Kb

set_option Elab.async false
set_option linter.all false
set_option maxRecDepth 100000
set_option maxHeartbeats 4000000
/-! Kb, 26: a dict filled over the shuffled keys of another one. -/
namespace Kb
open PySem PySem.Spec PyProof.Rows L2

/-- what is new over a later heap is new over an earlier one, but for objects that are no tuples -/
theorem NewT.pre2 {H1 H2 H3 : Hp} {M : List Addr} {e : D} {v : V} (n : NewT H2 H3 e v) (b : But M H1 H2) (s : Std M H2) (t : NoTup M H2) : NewT H1 H3 e v := fun M' s' t' => by
  refine At.mono' (M := M' ++ M) (fun p o m e => ⟨fun z => m (List.mem_append.mpr (.inl z)), e⟩) e v (n (M' ++ M) ((Std.but s' b).app s) (NoTup.app (fun y m xs z => ?_) t))
  by_cases q : y ∈ M
  · exact t y q xs z
  · cases e : H1 y with
    | none => exact s' y m e
    | some o =>
      have := b.keep y o q e
      rw [this] at z
      exact t' y m xs (by rw [e, z])
theorem StAt.std3 {H : Hp} {a c d : Addr} {o : HO} (S : StAt H a c) (h : H d = some o) : Std [d, a, c] H := Std.cons h S.std
theorem StAt.nt3 {H : Hp} {a c d : Addr} {o : HO} (S : StAt H a c) (h : H d = some o) (n : ∀ xs, o ≠ .tup xs) : NoTup [d, a, c] H := NoTup.cons h n S.notup
theorem set_other {σ : L2.St} {g i : Nat} {o : Option V} (h : i ≠ g) : (σ.set g o)[i]? = σ[i]? := List.getElem?_set_ne (Ne.symm h)
/-- for x in shuffled(list(kind[j])): d[x] = te -/
theorem for_put {K : PySem.W.Frag} {σ : L2.St} {a c kd d p : Addr} {j g dv : Nat} {kds : List (Str × D)} {kvs : List (Key × V)} {xs : List V} {H : Hp} {D : Ends} {te : TE}
    (h0 : σ[0]? = some (some (.ref a))) (h1 : σ[1]? = some (some (.ref kd))) (hdv : σ[dv]? = some (some (.ref d))) (g0 : g ≠ 0) (g1 : g ≠ 1) (gd : g ≠ dv) (gl : g < σ.length)
    (S : StAt H a c) (nk : kd ∉ [d, a, c]) (hk : H kd = some (.lst xs)) (hj : xs[j]? = some (.ref p)) (hp : H p = some (.dK kvs)) (hl : AtP [d, a, c] H kds kvs) (np : p ∉ [d, a, c])
    (nd : (keysD kds).Nodup) (hlen : kds.length ≤ 60) (hd : H d = some (.dK [])) (nda : d ∉ [a, c]) (R : Str → Kb.D → Prop)
    (step : ∀ n e, n ∈ keysD kds → kds.lookup n = some e → ∀ H2 (Q2 : VK), StAt H2 a c → But [d, a, c] H H2 → (∀ e' v H3, R n e' → NewT H2 H3 e' v → StAt H3 a c → But [a, c] H2 H3 → Q2 v H3) → te (σ.set g (some (.str n))) H2 Q2)
    (k : ∀ out kvs' o H', (keysD out).Perm (keysD kds) → (∀ x ∈ out, R x.1 x.2) → H' d = some (.dK kvs') → NewTP H H' out kvs' → StAt H' a c → But [d, a, c] H H' → D.nx (σ.set g o) H') :
    tFor (iList K (tCall (sp_l_shuffled K) [] E0 (tCons (tVar 0) (tCons (tCB rListK (tCons (tOp (rIxL K) (tVar 1) (tC (.int (j : Int)))) tNil)) tNil)))) (gName g) (sDPut (tVar dv) (tVar g) te) D σ H := by
  refine ⟨_, h0, _, h1, kd, xs, (j : Int), .ref p, rfl, rfl, SqL.of hk, at_of rfl hj, p, kvs, rfl, .inl hp, fun l0 hl0 => ?_⟩
  rw [keys_strs hl.keys]
  have kl : (keysD kds).length ≤ 60 := by rw [keysD, List.length_map]; exact hlen
  refine ⟨a, c, l0, (keysD kds).map V.str, rfl, S.new hl0, S.no hl0, upd_same, by rw [List.length_map]; omega, fun zs l1 H1 perm hl1 u1 S1 B1 => ?_⟩
  obtain ⟨ns, np', rfl⟩ := perm_strs perm
  have nnd : ns.Nodup := np'.nodup_iff.mpr nd
  have nlen : ns.length ≤ 60 := by rw [np'.length_eq]; exact kl
  have B01 : But [a, c] H H1 := (But.new hl0).trans B1
  have n1 : l1 ∉ [a, c] := (S.new hl0).no hl1
  have hd1 : H1 d = some (.dK []) := B01.keep _ _ nda hd
  have l1d : l1 ≠ d := fun z => by rw [z, hd1] at u1; cases u1
  have n1' : l1 ∉ [d, a, c] := not3 l1d n1
  have B01' : But [d, a, c] H H1 := B01.more sub2
  refine ⟨l1, rfl, ⟨_, SqL.of u1⟩, for_list (K := K) (a := l1) (xs := ns.map V.str) (fun i σ' H' => ∃ (o : Option V) (out : List (Str × Kb.D)) (kvs' : List (Key × V)), σ' = σ.set g o ∧ keysD out = ns.take i ∧ (∀ x ∈ out, R x.1 x.2) ∧ H' d = some (.dK kvs') ∧
      kvs'.map (·.1) = out.map (fun x => (Sum.inr x.1 : Key)) ∧ NewTP H H' out kvs' ∧ StAt H' a c ∧ H' l1 = some (.lst (ns.map V.str)) ∧ But [d, a, c] H H')
    ⟨σ[g]?.join, [], [], ?_, rfl, by simp, hd1, rfl, fun _ _ _ => rfl, S1, u1, B01'⟩ (fun i σ' H' _ ⟨_, _, _, _, _, _, _, _, _, _, q, _⟩ => SqL.of q) ?_ ?_⟩
  · have : σ[g]? = some σ[g] := List.getElem?_eq_getElem gl
    rw [this]
    show σ = σ.set g (σ[g])
    rw [List.set_getElem_self]
  · rintro i x σ' H2 hx ⟨o, out, kvs', rfl, o1, o2, o3, o4, o5, S2, u2, B2⟩
    rw [List.getElem?_map] at hx
    obtain ⟨n, hn, rfl⟩ := Option.map_eq_some_iff.mp hx
    have nm : n ∈ keysD kds := np'.mem_iff.mp (List.mem_of_getElem? hn)
    obtain ⟨e, v0, f1, _, _⟩ := hl.val nm
    have es : (σ.set g o).set g (some (.str n)) = σ.set g (some (.str n)) := List.set_set ..
    show sDPut (tVar dv) (tVar g) te _ ((σ.set g o).set g (some (.str n))) H2
    rw [es]
    refine step n e nm f1 H2 _ S2 B2 fun e' v H3 re nv S3 B3 => ?_
    have hno : (Sum.inr n : Key) ∉ kvs'.map (·.1) := keys_inr o4 fun m => by
      rw [show out.map (·.1) = ns.take i from o1] at m
      have : (ns.take (i + 1)).Nodup := nnd.sublist (List.take_sublist ..)
      rw [List.take_add_one, hn] at this
      exact (List.nodup_append.mp this).2.2 n m n (List.mem_singleton.mpr rfl) rfl
    have hl' : kvs'.length ≤ 60 := by
      rw [keys_len o4]
      have e2 := congrArg List.length o1
      rw [keysD, List.length_map, List.length_take] at e2
      omega
    have e1 : putK kvs' (Sum.inr n : Key) v = kvs' ++ [(Sum.inr n, v)] := putK_new _ (valV_none hno)
    have hd3 : H3 d = some (.dK kvs') := B3.keep _ _ nda o3
    refine ⟨_, (set_other (Ne.symm gd)).trans hdv, _, ?_, d, _, rfl, DPut.k (k := Sum.inr n) hd3 (small1000 (by omega)), ?_⟩
    · exact List.getElem?_set_self gl
    have B23 : But [d, a, c] H2 (upd H3 d (.dK (putK kvs' (Sum.inr n) v))) := (B3.more sub2).upd (.inl (by simp))
    refine ⟨_, out ++ [(n, e')], kvs' ++ [(Sum.inr n, v)], rfl, ?_, ?_, by rw [upd_same, e1], ?_, ?_, S3.upd nda, ?_, B2.trans B23⟩
    · rw [keysD, List.map_append, show out.map (·.1) = ns.take i from o1, List.take_add_one, hn]
      rfl
    · intro y m
      rcases List.mem_append.mp m with m | m
      · exact o2 y m
      · rw [List.mem_singleton.mp m]
        exact re
    · rw [List.map_append, List.map_append, o4]
      rfl
    · have nv' : NewT H H3 e' v := nv.pre2 B2 (S2.std3 o3) (S2.nt3 o3 fun _ z => nomatch z)
      exact NewTP.mono (M := [d]) ((o5.mono S.std S.notup B3).snoc nv') (Std.cons hd Std.nil) (NoTup.cons hd (fun _ z => nomatch z) NoTup.nil) (But.refl.upd (.inl (by simp)))
    · rw [upd_ne l1d]
      exact B3.keep _ _ n1 u2
  · rintro σ' H2 ⟨o, out, kvs', rfl, o1, o2, o3, o4, o5, S2, u2, B2⟩
    rw [List.length_map, List.take_length] at o1
    exact k out kvs' o H2 (by rw [o1]; exact np') o2 o3 o5 S2 B2
end Kb

set_option Elab.async false
set_option linter.all false
set_option maxRecDepth 100000
set_option maxHeartbeats 4000000
/-! Kb, 27: _law_loose_parts. -/
namespace Kb
open PySem PySem.Spec PyProof.Rows L2

theorem But.dropNew {M : List Addr} {H H' : Hp} {x : Addr} {o : HO} (h : H x = none) (b : But (x :: M) (L2.upd H x o) H') : But M H H' := by
  refine ⟨fun a u m e => ?_, fun a e => ?_⟩
  · have ax : a ≠ x := ne_of_none e h
    exact b.keep a u (fun z => (List.mem_cons.mp z).elim ax m) (by rw [upd_ne ax]; exact e)
  · refine b.stand a ?_
    by_cases ax : a = x
    · rw [ax, upd_same]
      exact fun q => nomatch q
    · rw [upd_ne ax]
      exact e
theorem AtP.excl {M : List Addr} {H : Hp} {l : Addr} {kds : List (Str × D)} {kvs : List (Key × V)} (n : H l = none) (h : AtP M H kds kvs) : AtP (l :: M) H kds kvs := AtP.mono' (fun p o m e => ⟨fun z => by
  rcases List.mem_cons.mp z with z | z
  · rw [z, n] at e
    cases e
  · exact m z, e⟩) kds kvs h
def Rule.form : Rule → Str
  | .bar _ => "bar"
  | .tell _ _ => "tell"
  | .self _ => "self"
  | .give _ _ _ => "give"
  | .send _ _ _ _ _ => "send"
def Rule.rest : Rule → List D
  | .bar _ => []
  | .tell _ v => [.str v]
  | .self _ => []
  | .give _ l b => [.str l, .str (man b)]
  | .send _ l u b w => [.str l, .str u, .str (man b), .bl w]
theorem Rule.d_eq (r : Rule) : r.d = .tup (.str r.form :: nmD r.names :: r.rest) := by cases r <;> rfl
theorem Rule.rest_flat (r : Rule) : r.rest.all D.isFlat = true ∧ r.rest.length ≤ 10 := by cases r <;> exact ⟨rfl, by simp [Rule.rest]⟩
theorem Own.d_tup (o : Own) : ∃ ds, o.d = .tup ds ∧ ds.all D.isFlat = true := by cases o <;> exact ⟨_, rfl, rfl⟩
/-- the parts of a kind as they are told -/
structure LooseOk (k : KD) (L O : List (Str × D)) (R : List D) : Prop where
  lp : (keysD L).Perm k.lks
  l : ∀ x ∈ L, ∃ ys ms : List Str, (x.1, ys) ∈ k.links ∧ x.2 = .lst (ms.map D.str) ∧ ms.Perm ys
  op : (keysD O).Perm (k.own.map (·.1))
  o : ∀ x ∈ O, ∃ o, (x.1, o) ∈ k.own ∧ Seq2 x.2 o.d.items
  rl : R.length = k.rules.length
  r : ∀ (i : Nat) (r : Rule) (e : D), k.rules[i]? = some r → R[i]? = some e → LooseRule r.form r.names r.rest e
/-- what bounds a kind that is drawn -/
structure KdFit (k : KD) : Prop where
  ld : k.lks.Nodup
  ll : k.links.length ≤ 10
  lc : ∀ p ∈ k.links, p.2.length ≤ 10
  od : (k.own.map (·.1)).Nodup
  ol : k.own.length ≤ 10
  rl : k.rules.length ≤ 300
  rn : ∀ r ∈ k.rules, r.names.length ≤ 10
def sp_l_loose_parts (K : PySem.W.Frag) : Sp := fun vs H Q _ => ∃ (a c : Addr) (k : KD) (v : V), vs = [.ref a, v] ∧ StAt H a c ∧ At [a, c] H k.d v ∧ KdFit k ∧
  ∀ L O R w H', LooseOk k L O R → NewT H H' (.lst [.dct L, .dct O, .lst R]) w → StAt H' a c → But [a, c] H H' → Q w H'
theorem len_l_loose_parts {K : PySem.W.Frag} {vs : List V} {H : Hp} {Q : VK} {E : XK} (h : sp_l_loose_parts K vs H Q E) : vs.length = 2 := by
  obtain ⟨_, _, _, _, rfl, _⟩ := h
  rfl
def t_l_loose_parts (K : PySem.W.Frag) : TS :=
  (tSeq (tAsg tDNewK (gName 2))
  (tSeq (tFor (iList K (tCall (sp_l_shuffled K) [] E0 (tCons (tVar 0) (tCons (tCB rListK (tCons (tOp (rIxL K) (tVar 1) (tC (.int 1))) tNil)) tNil)))) (gName 3)
    (sDPut (tVar 2) (tVar 3) (tCall (sp_l_shuffled K) [] E0 (tCons (tVar 0) (tCons (tCB (rListOf K) (tCons (tDGet (tOp (rIxL K) (tVar 1) (tC (.int 1))) (tVar 3)) tNil)) tNil)))))
  (tSeq (tAsg tDNewK (gName 4))
  (tSeq (tFor (iList K (tCall (sp_l_shuffled K) [] E0 (tCons (tVar 0) (tCons (tCB rListK (tCons (tOp (rIxL K) (tVar 1) (tC (.int 2))) tNil)) tNil)))) (gName 5)
    (sDPut (tVar 4) (tVar 5) (tCall (sp_l_loose K) [] E0 (tCons (tVar 0) (tCons (tDGet (tOp (rIxL K) (tVar 1) (tC (.int 2))) (tVar 5)) tNil)))))
  (tRet (tLst (tCons (tVar 2) (tCons (tVar 4) (tCons (tLc (iList K (tOp (rIxL K) (tVar 1) (tC (.int 3)))) (gName 6) tYes (tCall (sp_l_loose_rule K) [] E0 (tCons (tVar 0) (tCons (tVar 6) tNil))) [6]) tNil)))))))))
theorem KD.parts {k : KD} {M : List Addr} {H : Hp} {v : V} (h : At M H k.d v) : ∃ kd p1 p2 p3 kv1 kv2 xs3, v = .ref kd ∧ kd ∉ M ∧ H kd = some (.lst [.str k.name, .ref p1, .ref p2, .ref p3, .bl k.hid]) ∧
    p1 ∉ M ∧ H p1 = some (.dK kv1) ∧ AtP M H (linkD k.links) kv1 ∧ p2 ∉ M ∧ H p2 = some (.dK kv2) ∧ AtP M H (ownD k.own) kv2 ∧ p3 ∉ M ∧ H p3 = some (.lst xs3) ∧ AtL M H (k.rules.map Rule.d) xs3 := by
  obtain ⟨kd, _, rfl, nk, hk, x0, _, rfl, h0, x1, _, rfl, h1, x2, _, rfl, h2, x3, _, rfl, h3, x4, _, rfl, h4, rfl⟩ := h
  obtain rfl : x0 = .str k.name := h0
  obtain rfl : x4 = .bl k.hid := h4
  obtain ⟨p1, kv1, rfl, n1, e1, l1⟩ := h1
  obtain ⟨p2, kv2, rfl, n2, e2, l2⟩ := h2
  obtain ⟨p3, xs3, rfl, n3, e3, l3⟩ := h3
  exact ⟨kd, p1, p2, p3, kv1, kv2, xs3, rfl, nk, hk, n1, e1, l1, n2, e2, l2, n3, e3, l3⟩
theorem keys_map {α : Type} {f : α → D} {l : List (Str × α)} : keysD (l.map fun p => (p.1, f p.2)) = l.map (·.1) := by
  rw [keysD, List.map_map]
  rfl
theorem lookup_map {α : Type} {f : α → D} : ∀ {l : List (Str × α)} {n : Str} {e : D}, (l.map fun p => (p.1, f p.2)).lookup n = some e → ∃ x, (n, x) ∈ l ∧ e = f x
  | [], _, _, h => by cases h
  | (k, x) :: l, n, e, h => by
    rw [List.map_cons, List.lookup_cons] at h
    by_cases z : n = k
    · rw [beq_iff_eq.mpr z] at h
      cases h
      rw [z]
      exact ⟨x, List.mem_cons_self, rfl⟩
    · rw [beq_eq_false_iff_ne.mpr z] at h
      obtain ⟨y, m, q⟩ := lookup_map h
      exact ⟨y, List.mem_cons_of_mem _ m, q⟩
theorem pure_l_loose_parts {K : PySem.W.Frag} (vs : List V) (H : Hp) (Q : VK) (E : XK) (h : sp_l_loose_parts K vs H Q E) : t_l_loose_parts K (fin Q) (st0 7 vs) H := by
  obtain ⟨a, c, k, v, rfl, S, hv, g, fin_⟩ := h
  intro d hd
  have S1 := S.new (o := .dK []) hd
  have hv1 : At [d, a, c] (upd H d (.dK [])) k.d v := (hv.excl hd).mono (But.new hd)
  have u1 : (upd H d (.dK [])) d = some (.dK []) := upd_same
  have nd1 := S.no hd
  have drop1 : ∀ H', But [d, a, c] (upd H d (.dK [])) H' → But [a, c] H H' := fun H' b => But.dropNew hd b
  have B01 : But [] H (upd H d (.dK [])) := But.new hd
  generalize upd H d (.dK []) = H1 at S1 hv1 u1 drop1 B01 ⊢
  obtain ⟨kd, p1, p2, p3, kv1, kv2, xs3, rfl, nk, hk, n1, e1, l1, n2, e2, l2, n3, e3, l3⟩ := KD.parts hv1
  refine for_put (K := K) (σ := [some (.ref a), some (.ref kd), some (.ref d), none, none, none, none]) (j := 1) rfl rfl rfl (by decide) (by decide) (by decide) (by simp) S1 nk hk rfl e1 l1 n1 (by rw [keys_map]; exact g.ld) (by rw [List.length_map]; exact Nat.le_trans g.ll (by decide)) u1 nd1
    (fun n e => ∃ ys ms : List Str, (n, ys) ∈ k.links ∧ e = .lst (ms.map D.str) ∧ ms.Perm ys) ?_ ?_
  · intro n e nm le H2 Q2 S2 B2 q
    obtain ⟨ys, my, rfl⟩ := lookup_map le
    obtain ⟨e', w, f1, f2, f3⟩ := (l1.mono B2).val nm
    rw [le] at f1
    cases f1
    obtain ⟨r, xs, rfl, _, hr, hx⟩ := f3
    obtain ⟨ex, _⟩ := strs_at hx (List.all_eq_true.mpr fun d m => by
      obtain ⟨z, _, rfl⟩ := List.mem_map.mp m
      rfl)
    have es : ∀ l : List Str, strsOf (l.map D.str) = l := fun l => by
      induction l with
      | nil => rfl
      | cons a b ih => show a :: strsOf (b.map D.str) = _; rw [ih]
    rw [es] at ex
    subst ex
    refine ⟨_, rfl, _, rfl, kd, _, 1, .ref p1, rfl, rfl, SqL.of (B2.keep _ _ nk hk), rfl, _, rfl, p1, .ref r, rfl, .inl ⟨kv1, .inr n, .inl (B2.keep _ _ n1 e1), rfl, f2.symm⟩, r, _, rfl, .inr (SqT.of hr), fun l hl => ?_⟩
    refine ⟨a, c, l, ys.map V.str, rfl, S2.new hl, S2.no hl, upd_same, by rw [List.length_map]; have := g.lc _ my; exact Nat.le_trans this (by decide), fun zs l2 H3 perm hl2 u3 S3 B3 => ?_⟩
    obtain ⟨ms, mp, rfl⟩ := perm_strs perm
    exact q _ _ H3 ⟨ys, ms, my, rfl, mp⟩ (NewT.lstm (H0 := H2) (fun M s t => AtL.strs) But.refl ((But.new (M := []) hl).free hl2) u3) S3 ((But.new hl).trans B3)
  · intro L kvs1 o H2 lp lok hd2 np1 S2 B2
    have B02 : But [a, c] H H2 := drop1 H2 B2
    intro d2 hd2'
    have S3 := S2.new (o := .dK []) hd2'
    have u3 : (upd H2 d2 (.dK [])) d2 = some (.dK []) := upd_same
    have nd2 := S2.no hd2'
    have drop2 : ∀ H', But [d2, a, c] (upd H2 d2 (.dK [])) H' → But [a, c] H2 H' := fun H' b => But.dropNew hd2' b
    have B23 : But [] H2 (upd H2 d2 (.dK [])) := But.new hd2'
    have sub : ∀ x ∈ [d2, a, c], x ∈ d2 :: [d, a, c] := fun x m => by
      simp only [List.mem_cons, List.not_mem_nil, or_false] at m ⊢
      rcases m with m | m | m
      · exact .inl m
      · exact .inr (.inr (.inl m))
      · exact .inr (.inr (.inr m))
    have hv3 : At [d2, a, c] (upd H2 d2 (.dK [])) k.d (.ref kd) := (((hv1.mono B2).excl hd2').mono (But.new hd2')).less sub
    generalize upd H2 d2 (.dK []) = H3 at S3 u3 drop2 B23 hv3 ⊢
    obtain ⟨kd', q1, q2, q3, kw1, kw2, ys3, ek, nk3, hk3, m1, g1, j1, m2, g2, j2, m3, g3, j3⟩ := KD.parts hv3
    cases ek
    refine for_put (K := K) (σ := [some (.ref a), some (.ref kd), some (.ref d), o, some (.ref d2), none, none]) (j := 2) rfl rfl rfl (by decide) (by decide) (by decide) (by simp) S3 nk3 hk3 rfl g2 j2 m2 (by rw [keys_map]; exact g.od) (by rw [List.length_map]; exact Nat.le_trans g.ol (by decide)) u3 nd2
      (fun n e => ∃ o, (n, o) ∈ k.own ∧ Seq2 e o.d.items) ?_ ?_
    · intro n e nm le H4 Q2 S4 B4 q
      obtain ⟨ow, my, rfl⟩ := lookup_map le
      obtain ⟨e', w, f1, f2, f3⟩ := (j2.mono B4).val nm
      rw [le] at f1
      cases f1
      obtain ⟨ds, ed, fl⟩ := ow.d_tup
      rw [ed] at f3
      obtain ⟨r, xs, rfl, nr, hr, hx⟩ := f3
      refine ⟨_, rfl, _, rfl, kd, _, 2, .ref q2, rfl, rfl, SqL.of (B4.keep _ _ nk3 hk3), rfl, _, rfl, q2, .ref r, rfl, .inl ⟨kw2, .inr n, .inl (B4.keep _ _ m2 g2), rfl, f2.symm⟩, ?_⟩
      refine ⟨a, c, r, xs, rfl, S4, fun z => nr (sub2 _ z), .inr hr, fun p H5 hw S5 B5 => ?_⟩
      obtain ⟨e, s3, ne⟩ := loose_new2 (ds := ds) hw But.refl S4 (fun M s t => AtL.flat fl hx)
      exact q e (.ref p) H5 ⟨ow, my, by rw [ed]; exact s3⟩ ne S5 B5
    · intro O kvs2 o2 H4 op ook hd4 np2 S4 B4
      have B24 : But [a, c] H2 H4 := drop2 H4 B4
      have B04 := B02.trans B24
      have hk4 := B4.keep _ _ nk3 hk3
      have g34 := B4.keep _ _ m3 g3
      have j34 := j3.mono B4
      refine ⟨_, rfl, _, rfl, _, rfl, kd, _, 3, .ref q3, rfl, rfl, SqL.of hk4, rfl, q3, rfl, ⟨_, SqL.of g34⟩, fun Dl hD => ?_⟩
      have S5 := S4.new (o := .lst []) hD
      have u5 : (upd H4 Dl (.lst [])) Dl = some (.lst []) := upd_same
      have nD := S4.no hD
      have B45 : But [] H4 (upd H4 Dl (.lst [])) := But.new hD
      have drop3 : ∀ H', But [Dl, a, c] (upd H4 Dl (.lst [])) H' → But [a, c] H4 H' := fun H' b => But.dropNew hD b
      have g35 : (upd H4 Dl (.lst [])) q3 = some (.lst ys3) := B45.keep _ _ (by simp) g34
      have sub' : ∀ x ∈ [Dl, a, c], x ∈ Dl :: [d2, a, c] := fun x m => by
        simp only [List.mem_cons, List.not_mem_nil, or_false] at m ⊢
        rcases m with m | m | m
        · exact .inl m
        · exact .inr (.inr (.inl m))
        · exact .inr (.inr (.inr m))
      have j35 : AtL [Dl, a, c] (upd H4 Dl (.lst [])) (k.rules.map Rule.d) ys3 := ((j34.excl hD).mono (But.new hD)).less sub'
      have nq3 : q3 ∉ [Dl, a, c] := not3 (fun z => by rw [z, hD] at g34; cases g34) (fun z => m3 (sub2 _ z))
      have yl := j3.length
      rw [List.length_map] at yl
      have rl := g.rl
      refine lc_it (walk_list (K := K) (a := q3) (xs := ys3)) (fun i H' => ∃ (es : List D) (ws : List V), H' Dl = some (.lst ws) ∧ es.length = i ∧ ws.length = i ∧ (∀ (n : Nat) (r : Rule) (e : D), k.rules[n]? = some r → es[n]? = some e → LooseRule r.form r.names r.rest e) ∧
          NewTL (upd H4 Dl (.lst [])) H' es ws ∧ StAt H' a c ∧ But [Dl, a, c] (upd H4 Dl (.lst [])) H') ⟨[], [], u5, rfl, rfl, fun _ _ _ _ z => (by simp at z), fun _ _ _ => rfl, S5, But.refl⟩ (fun i H' _ ⟨_, _, _, _, _, _, _, _, B⟩ => SqL.of (B.keep _ _ nq3 g35)) ?_ ?_
      · rintro i x H6 H7 hi ⟨es, ws, w1, w2, w3, w4, w5, S6, B6⟩ ⟨rfl, hx⟩
        obtain ⟨dr, hdr, har⟩ := (j35.mono B6).get hx
        rw [List.getElem?_map] at hdr
        obtain ⟨r, hr, rfl⟩ := Option.map_eq_some_iff.mp hdr
        rw [r.d_eq] at har
        refine ⟨rfl, _, rfl, _, rfl, a, c, r.form, r.names, r.rest, x, rfl, S6, har.less sub2, r.rest_flat.1, r.rest_flat.2, g.rn r (List.mem_of_getElem? hr), fun e w H8 lr nw S8 B8 => ?_⟩
        refine ⟨ws, B8.keep _ _ nD w1, small1000 (by omega), es ++ [e], ws ++ [w], upd_same, by simp [w2], by simp [w3], ?_, ?_, S8.upd nD, (B6.trans (B8.more sub2)).upd (.inl (by simp))⟩
        · intro n r' e' h1 h2
          by_cases hn : n < es.length
          · rw [List.getElem?_append_left hn] at h2
            exact w4 n r' e' h1 h2
          · have : n = i := by
              have := (List.getElem?_eq_some_iff.mp h2).1
              rw [List.length_append, List.length_singleton] at this
              omega
            subst this
            rw [List.getElem?_append_right (by omega), w2, Nat.sub_self] at h2
            rw [hr] at h1
            cases h1
            cases h2
            exact lr
        · exact NewTL.mono (M := [Dl]) ((w5.mono S5.std S5.notup B8).snoc (nw.pre2 B6 (S6.std3 w1) (S6.nt3 w1 fun _ z => nomatch z))) (Std.cons u5 Std.nil) (NoTup.cons u5 (fun _ z => nomatch z) NoTup.nil) (But.refl.upd (.inl (by simp)))
      · rintro H6 ⟨es, ws, w1, w2, w3, w4, w5, S6, B6⟩
        have B46 : But [a, c] H4 H6 := drop3 H6 B6
        refine ⟨by show 3 ≤ sizeLine; decide, fun p hp => ?_⟩
        have B67 : But [] H6 (upd H6 p (.lst [.ref d, .ref d2, .ref Dl])) := But.new hp
        have S7 := S6.new (o := .lst [.ref d, .ref d2, .ref Dl]) hp
        have u7 : (upd H6 p (.lst [.ref d, .ref d2, .ref Dl])) p = some (.lst [.ref d, .ref d2, .ref Dl]) := upd_same
        generalize upd H6 p (.lst [.ref d, .ref d2, .ref Dl]) = H7 at B67 S7 u7 ⊢
        have B27 : But [a, c] H2 H7 := (B24.trans B46).trans B67.nil
        have B47 : But [a, c] H4 H7 := B46.trans B67.nil
        have B07 := B02.trans B27
        have nL : NewT H H7 (.dct L) (.ref d) := NewT.dctm (np1.mono S1.std S1.notup B27) B01 hd (B27.keep _ _ nd1 hd2)
        have nO : NewT H H7 (.dct O) (.ref d2) := (NewT.dctm (np2.mono S3.std S3.notup B47) B23 hd2' (B47.keep _ _ nd2 hd4)).pre2 B02 S2.std S2.notup
        have nR : NewT H H7 (.lst es) (.ref Dl) := (NewT.lstm (H := H4) (w5.mono Std.nil NoTup.nil B67) B45 hD (B67.keep _ _ (by simp) w1)).pre2 B04 S4.std S4.notup
        refine fin_ L O es (.ref p) H7 ⟨?_, lok, ?_, ook, by omega, w4⟩ (NewT.lstm (fun M s t => ⟨_, _, rfl, nL M s t, _, _, rfl, nO M s t, _, _, rfl, nR M s t, rfl⟩) But.refl ((B04.trans B46).free hp) u7) S7 B07
        · rw [keys_map] at lp
          exact lp
        · rw [keys_map] at op
          exact op
end Kb

set_option Elab.async false
set_option linter.all false
set_option maxRecDepth 100000
set_option maxHeartbeats 4000000
/-! Kb, 28: _law_spoil_inside. -/
namespace Kb
open PySem PySem.Spec PyProof.Rows L2

/-- a list's parts don't hold the list -/
theorem At.lst' {A : List Addr} {H : Hp} {ds : List D} {v : V} (h : At A H (.lst ds) v) : ∃ p xs, v = .ref p ∧ p ∉ A ∧ H p = some (.lst xs) ∧ AtL (p :: A) H ds xs := by
  have hh := h.less (M' := []) (by simp)
  obtain ⟨p, xs, rfl, m, hp, hl⟩ := h
  exact ⟨p, xs, rfl, m, hp, AtL.out hh hl (by rw [D.sz]; omega)⟩
/-- lists out of A may have grown by n items at most; nothing else has changed -/
structure Grown (A : List Addr) (n : Nat) (H H' : Hp) : Prop where
  keep : ∀ x ∈ A, ∀ o, H x = some o → H' x = some o
  lst : ∀ x xs, H x = some (.lst xs) → ∃ zs, H' x = some (.lst (xs ++ zs)) ∧ zs.length ≤ n
  oth : ∀ x o, (∀ xs, o ≠ .lst xs) → H x = some o → H' x = some o
  stand : ∀ x, H x ≠ none → H' x ≠ none
theorem Grown.refl {A : List Addr} {n : Nat} {H : Hp} : Grown A n H H := ⟨fun _ _ _ e => e, fun x xs e => ⟨[], by rw [List.append_nil]; exact e, Nat.zero_le _⟩, fun _ _ _ e => e, fun _ e => e⟩
theorem Grown.mono {A : List Addr} {n m : Nat} {H H' : Hp} (g : Grown A n H H') (h : n ≤ m) : Grown A m H H' := ⟨g.keep, fun x xs e => let ⟨zs, a, b⟩ := g.lst x xs e; ⟨zs, a, Nat.le_trans b h⟩, g.oth, g.stand⟩
theorem Grown.less {A A' : List Addr} {n : Nat} {H H' : Hp} (g : Grown A n H H') (s : ∀ x ∈ A', x ∈ A) : Grown A' n H H' := ⟨fun x m => g.keep x (s x m), g.lst, g.oth, g.stand⟩
/-- one more item at l -/
theorem Grown.push {A : List Addr} {n : Nat} {H H' : Hp} {l : Addr} {xs zs : List V} {y : V} (g : Grown A n H H') (hl : H l = some (.lst xs)) (hl' : H' l = some (.lst (xs ++ zs))) (hz : zs.length ≤ n) (m : l ∉ A) : Grown A (n + 1) H (upd H' l (.lst (xs ++ zs ++ [y]))) := by
  refine ⟨fun x mx o e => ?_, fun x ys e => ?_, fun x o no e => ?_, fun x e => ?_⟩
  · rw [upd_ne (fun z : x = l => m (by rw [← z]; exact mx))]
    exact g.keep x mx o e
  · by_cases z : x = l
    · rw [z, hl] at e
      cases e
      exact ⟨zs ++ [y], by rw [z, upd_same, List.append_assoc], by simp; omega⟩
    · obtain ⟨ws, a, b⟩ := g.lst x ys e
      exact ⟨ws, by rw [upd_ne z]; exact a, by omega⟩
  · have z : x ≠ l := fun z => by
      rw [z, hl] at e
      cases e
      exact no xs rfl
    rw [upd_ne z]
    exact g.oth x o no e
  · by_cases z : x = l
    · rw [z, upd_same]
      exact fun q => nomatch q
    · rw [upd_ne z]
      exact g.stand x e
/-- x.append('more') -/
theorem do_more {K : PySem.W.Frag} {A : List Addr} {n : Nat} {H H' : Hp} {l : Addr} {xs : List V} {Q : VK} {σ : L2.St} (g : Grown A n H H') (hl : H l = some (.lst xs)) (m : l ∉ A) (hn : xs.length ≤ 1000) (hn2 : n ≤ 3000) (k : ∀ H2, Grown A (n + 1) H H2 → Q .non H2) :
    tyV K "list" (.ref l) H' ∧ tCons (tC (.str ("more" : Str))) tNil σ H' (fun vs H2 => rAppend (.ref l) vs H2 Q) := by
  obtain ⟨zs, a, b⟩ := g.lst l xs hl
  refine ⟨.inl ⟨rfl, _, SqL.of a⟩, l, _, _, rfl, rfl, a, Nat.lt_of_le_of_lt (m := 4000) (by rw [List.length_append]; omega) (by decide), k _ (g.push hl a b m)⟩
theorem Grown.rdk {A : List Addr} {n : Nat} {H H' : Hp} {p : Addr} {kvs : List (Key × V)} (g : Grown A n H H') (h : Rd H p (.dK kvs)) : Rd H' p (.dK kvs) := h.elim (fun e => .inl (g.oth _ _ (fun _ z => nomatch z) e)) fun ⟨o, e⟩ => .inr ⟨o, g.oth _ _ (fun _ z => nomatch z) e⟩
/-- an item of a list that may have grown -/
theorem Grown.at_ {K : PySem.W.Frag} {A : List Addr} {n : Nat} {H H' : Hp} {p : Addr} {xs : List V} {i : Nat} {v : V} (g : Grown A n H H') (h : H p = some (.lst xs)) (hi : xs[i]? = some v) : ∃ ys, SqL K H' p ys ∧ atI ys (i : Int) = some v := by
  obtain ⟨zs, a, _⟩ := g.lst p xs h
  refine ⟨xs ++ zs, SqL.of a, at_of rfl ?_⟩
  rw [List.getElem?_append_left (List.getElem?_eq_some_iff.mp hi).1]
  exact hi
/-- told parts, to be spoiled -/
structure SpoilOk (L O : List (Str × D)) (R : List D) : Prop where
  l : ∀ x ∈ L, ∃ ms : List Str, x.2 = .lst (ms.map D.str) ∧ ms ≠ [] ∧ ms.length ≤ 10
  o : ∀ x ∈ O, ∃ (z : Str) (r : List D), Seq2 x.2 (.str z :: r) ∧ r.length ≤ 10
  r : ∀ e ∈ R, ∃ (f : Str) (n : D) (rest : List D) (ms : List Str), Seq2 e (.str f :: n :: rest) ∧ Seq2 n (ms.map D.str) ∧ ms.length ≤ 10 ∧ rest.length ≤ 10
  ll : L.length ≤ 10
  ol : O.length ≤ 10
  rl : R.length ≤ 300
def sp_l_spoil_inside (K : PySem.W.Frag) : Sp := fun vs H Q _ => ∃ (A : List Addr) (p : Addr) (L O : List (Str × D)) (R : List D), vs = [.ref p] ∧ At A H (.lst [.dct L, .dct O, .lst R]) (.ref p) ∧ SpoilOk L O R ∧
  ∀ H', Grown (p :: A) 1000 H H' → Q .non H'
theorem len_l_spoil_inside {K : PySem.W.Frag} {vs : List V} {H : Hp} {Q : VK} {E : XK} (h : sp_l_spoil_inside K vs H Q E) : vs.length = 1 := by
  obtain ⟨_, _, _, _, _, rfl, _⟩ := h
  rfl
def t_l_spoil_inside (K : PySem.W.Frag) : TS :=
  (tSeq (tLock (tFor (iKeys (tOp (rIxL K) (tVar 0) (tC (.int 0)))) (gName 1)
    (tDrop (tBM K "list" rAppend (tDGet (tOp (rIxL K) (tVar 0) (tC (.int 0))) (tVar 1)) (tCons (tC (.str ("more" : Str))) tNil)))))
  (tSeq (tLock (tFor (iKeys (tOp (rIxL K) (tVar 0) (tC (.int 1)))) (gName 2)
    (tIfS (tB (tCB (rIsi K) (tCons (tDGet (tOp (rIxL K) (tVar 0) (tC (.int 1))) (tVar 2)) (tCons (tC (.ty "list")) tNil))))
    (tDrop (tBM K "list" rAppend (tDGet (tOp (rIxL K) (tVar 0) (tC (.int 1))) (tVar 2)) (tCons (tC (.str ("more" : Str))) tNil)))
    tNext)))
  (tFor (iList K (tOp (rIxL K) (tVar 0) (tC (.int 2)))) (gName 3)
    (tSeq (tIfS (tB (tCB (rIsi K) (tCons (tOp (rIx K) (tVar 3) (tC (.int 1))) (tCons (tC (.ty "list")) tNil))))
    (tDrop (tBM K "list" rAppend (tOp (rIx K) (tVar 3) (tC (.int 1))) (tCons (tC (.str ("more" : Str))) tNil)))
    tNext)
  (tIfS (tB (tCB (rIsi K) (tCons (tVar 3) (tCons (tC (.ty "list")) tNil))))
    (tDrop (tBM K "list" rAppend (tVar 3) (tCons (tC (.str ("more" : Str))) tNil)))
    tNext)))))
/-- a locked dict is let go again -/
theorem Grown.unlock {A : List Addr} {n : Nat} {H H' : Hp} {p : Addr} {kvs : List (Key × V)} {od : Obj} (h : H p = some (.dK kvs)) (g : Grown A n (upd H p (.frz od (.dK kvs))) H') : Grown A n H (upd H' p (.dK kvs)) := by
  refine ⟨fun x mx o e => ?_, fun x ys e => ?_, fun x o no e => ?_, fun x e => ?_⟩
  · by_cases z : x = p
    · rw [z, upd_same, ← e, z, h]
    · rw [upd_ne z]
      exact g.keep x mx o (by rw [upd_ne z]; exact e)
  · have z : x ≠ p := fun z => by rw [z, h] at e; cases e
    rw [upd_ne z]
    exact g.lst x ys (by rw [upd_ne z]; exact e)
  · by_cases z : x = p
    · rw [z, upd_same, ← e, z, h]
    · rw [upd_ne z]
      exact g.oth x o no (by rw [upd_ne z]; exact e)
  · by_cases z : x = p
    · rw [z, upd_same]
      exact fun q => nomatch q
    · rw [upd_ne z]
      exact g.stand x (by rw [upd_ne z]; exact e)
theorem Grown.trans {A : List Addr} {n m : Nat} {H H1 H2 : Hp} (a : Grown A n H H1) (b : Grown A m H1 H2) : Grown A (n + m) H H2 := by
  refine ⟨fun x mx o e => b.keep x mx o (a.keep x mx o e), fun x ys e => ?_, fun x o no e => b.oth x o no (a.oth x o no e), fun x e => b.stand x (a.stand x e)⟩
  obtain ⟨zs, a1, a2⟩ := a.lst x ys e
  obtain ⟨ws, b1, b2⟩ := b.lst x _ a1
  exact ⟨zs ++ ws, by rw [← List.append_assoc]; exact b1, by rw [List.length_append]; omega⟩
/-- like data but grown: what is read by isinstance -/
theorem Grown.ty {K : PySem.W.Frag} {A M : List Addr} {n : Nat} {H H' : Hp} {d : D} {v : V} (g : Grown A n H H') (h : At M H d v) : TyX K H' v (.type d.ty) := by
  cases d with
  | non => cases h; exact .base .non
  | bl b => cases h; exact .base (.bl b)
  | int b => cases h; exact .base (.int b)
  | str b => cases h; exact .base (.str b)
  | tup ds =>
    obtain ⟨p, xs, rfl, _, hp, _⟩ := h
    exact .base (.tup (g.oth _ _ (fun _ z => nomatch z) hp))
  | lst ds =>
    obtain ⟨p, xs, rfl, _, hp, _⟩ := h
    obtain ⟨zs, a, _⟩ := g.lst p xs hp
    exact .base (.lst a)
  | dct ds =>
    obtain ⟨p, xs, rfl, _, hp, _⟩ := h
    exact .base (.dK (g.oth _ _ (fun _ z => nomatch z) hp))
end Kb

set_option Elab.async false
set_option linter.all false
set_option maxRecDepth 100000
set_option maxHeartbeats 4000000
/-! Kb, 29: _law_spoil_inside keeps its promise. -/
namespace Kb
open PySem PySem.Spec PyProof.Rows L2

/-- the place of a list or tuple -/
theorem Seq2.place {A : List Addr} {H : Hp} {d : D} {ds : List D} {v : V} (s : Seq2 d ds) (h : At A H d v) : ∃ q xs, v = .ref q ∧ AtL A H ds xs ∧ ((d = .lst ds ∧ q ∉ A ∧ H q = some (.lst xs)) ∨ (d = .tup ds ∧ H q = some (.tup xs))) := by
  rcases s with rfl | rfl
  · obtain ⟨q, xs, e, m, hq, hl⟩ := h
    exact ⟨q, xs, e, hl, .inl ⟨rfl, m, hq⟩⟩
  · obtain ⟨q, xs, e, m, hq, hl⟩ := h
    exact ⟨q, xs, e, hl, .inr ⟨rfl, hq⟩⟩
/-- if isinstance(x, list): x.append('more') -/
theorem if_more {K : PySem.W.Frag} {A : List Addr} {n : Nat} {H H' : Hp} {q : Addr} {xs : List V} {tx : TE} {σ : L2.St} {D : Ends} {l : Bool} (g : Grown A n H H') (hx : ∀ Q' : VK, Q' (.ref q) H' → tx σ H' Q')
    (hq : if l = true then q ∉ A ∧ H q = some (.lst xs) else H q = some (.tup xs)) (hn : xs.length ≤ 1000) (hn2 : n ≤ 3000) (k : ∀ H2, Grown A (n + 1) H H2 → D.nx σ H2) :
    tIfS (tB (tCB (rIsi K) (tCons tx (tCons (tC (.ty "list")) tNil)))) (tDrop (tBM K "list" rAppend tx (tCons (tC (.str ("more" : Str))) tNil))) tNext D σ H' := by
  cases l with
  | true =>
    obtain ⟨m, hq⟩ := hq
    obtain ⟨zs, a, b⟩ := g.lst q xs hq
    refine hx _ ⟨.ref q, _, _, _, true, rfl, .ty _, .base (.lst a), kit_ty (show kitB "list" "list" = some true by decide +kernel), _, rfl, ?_⟩
    refine iteT (hx _ ?_)
    exact do_more (K := K) (Q := fun _ H' => D.nx σ H') g hq m hn hn2 k
  | false =>
    refine hx _ ⟨.ref q, _, _, _, false, rfl, .ty _, .base (.tup (g.oth _ _ (fun _ z => nomatch z) hq)), kit_ty (show kitB "tuple" "list" = some false by decide +kernel), _, rfl, ?_⟩
    exact iteF (k H' (g.mono (by omega)))
theorem lock_ne {H : Hp} {p x : Addr} {u w o : HO} (h : H p = some u) (hx : H x = some o) (ne : o ≠ u) : upd H p w x = some o := by
  rw [upd_ne (fun z => ne (by rw [z, h] at hx; exact (Option.some.inj hx).symm))]
  exact hx
theorem pure_l_spoil_inside {K : PySem.W.Frag} (vs : List V) (H : Hp) (Q : VK) (E : XK) (h : sp_l_spoil_inside K vs H Q E) : t_l_spoil_inside K (fin Q) (st0 4 vs) H := by
  obtain ⟨A, p, L, O, R, rfl, hv, ok, k⟩ := h
  obtain ⟨p', ys, e, npA, hp, hl⟩ := hv.lst'
  cases e
  obtain ⟨x1, _, rfl, h1, x2, _, rfl, h2, x3, _, rfl, h3, rfl⟩ := hl
  have h3' := h3
  obtain ⟨l3, xs3, rfl, nl3, hl3, hr3⟩ := h3.lst'
  obtain ⟨d1, kv1, rfl, nd1, hd1, a1⟩ := h1
  obtain ⟨d2, kv2, rfl, nd2, hd2, a2⟩ := h2
  have len1 := a1.length
  have len2 := a2.length
  have o1 := ok.ll
  have o2 := ok.ol
  -- what is told at l3 is no list of texts or own answer
  have no3 : ∀ (q : Addr) (z : D) (r : List D), (z.isStr = true) → At [] H (.lst (z :: r)) (.ref q) → q ≠ l3 := fun q z r hz hq e => by
    rw [e] at hq
    have := At.inj hq (h3'.less (M' := []) (by simp))
    cases this
    obtain ⟨f, n, rest, ms, s, _⟩ := ok.r z (by simp)
    rcases s with rfl | rfl <;> cases hz
  -- the links
  refine ⟨d1, .dK kv1, hd1, trivial, fun od => ?_⟩
  have pL : upd H d1 (.frz od (.dK kv1)) p = some (.lst [.ref d1, .ref d2, .ref l3]) := lock_ne hd1 hp (fun z => nomatch z)
  have fL : upd H d1 (.frz od (.dK kv1)) d1 = some (.frz od (.dK kv1)) := upd_same
  refine ⟨_, rfl, p, _, 0, .ref d1, rfl, rfl, SqL.of pL, rfl, d1, od, rfl, .inl ⟨kv1, fL, for_it walk_keys (fun i σ' H' => (∃ o, σ' = [some (.ref p), o, none, none]) ∧ Grown (l3 :: p :: A) i (upd H d1 (.frz od (.dK kv1))) H')
    ⟨⟨_, rfl⟩, .refl⟩ (fun i σ' H' _ q => q.2.oth _ _ (fun _ z => nomatch z) fL) ?_ ?_⟩⟩
  · rintro i x σ' H1 H2 hi ⟨⟨o, rfl⟩, g⟩ ⟨rfl, kk, vv, hk, rfl⟩
    obtain ⟨n, e, q1, rfl, _⟩ := a1.get hk
    have nm : n ∈ keysD L := List.mem_map.mpr ⟨_, List.mem_of_getElem? q1, rfl⟩
    obtain ⟨e', v, f1, f2, f3⟩ := a1.val nm
    obtain ⟨ms, em, mne, ml⟩ := ok.l _ (lookup_mem f1)
    have em : e' = .lst (ms.map D.str) := em
    subst em
    have f3' := f3.less (M' := []) (by simp)
    obtain ⟨l, xs, rfl, nl, hl, hx⟩ := f3
    have xl := hx.length
    rw [List.length_map] at xl
    have l3' : l ≠ l3 := by
      cases ms with
      | nil => exact absurd rfl mne
      | cons m0 mr => exact no3 l (.str m0) _ rfl f3'
    have nl' : l ∉ l3 :: p :: A := fun z => (List.mem_cons.mp z).elim l3' nl
    obtain ⟨ys, s1, s2⟩ := g.at_ (K := K) (i := 0) pL rfl
    refine ⟨_, rfl, p, ys, 0, .ref d1, rfl, rfl, s1, s2, _, rfl, d1, .ref l, rfl, .inl ⟨kv1, .inr n, .inr ⟨od, g.oth _ _ (fun _ z => nomatch z) fL⟩, rfl, f2.symm⟩, ?_⟩
    exact do_more (K := K) g (lock_ne hd1 hl (fun z => nomatch z)) nl' (by omega) (by omega) fun H3 g3 => ⟨⟨_, rfl⟩, g3⟩
  · rintro σ' H1 ⟨⟨o, rfl⟩, g⟩
    refine ⟨g.oth _ _ (fun _ z => nomatch z) fL, ?_⟩
    have g1 : Grown (l3 :: p :: A) 10 H (upd H1 d1 (.dK kv1)) := (g.unlock hd1).mono (by omega)
    generalize upd H1 d1 (.dK kv1) = Hb at g1 ⊢
    have hdb : Hb d2 = some (.dK kv2) := g1.oth _ _ (fun _ z => nomatch z) hd2
    have hpb : Hb p = some (.lst [.ref d1, .ref d2, .ref l3]) := g1.keep p (by simp) _ hp
    -- the own answers
    refine ⟨d2, .dK kv2, hdb, trivial, fun od => ?_⟩
    have pL : upd Hb d2 (.frz od (.dK kv2)) p = some (.lst [.ref d1, .ref d2, .ref l3]) := lock_ne hdb hpb (fun z => nomatch z)
    have fL : upd Hb d2 (.frz od (.dK kv2)) d2 = some (.frz od (.dK kv2)) := upd_same
    refine ⟨_, rfl, p, _, 1, .ref d2, rfl, rfl, SqL.of pL, rfl, d2, od, rfl, .inl ⟨kv2, fL, for_it walk_keys (fun i σ' H' => (∃ o2, σ' = [some (.ref p), o, o2, none]) ∧ Grown (l3 :: p :: A) i (upd Hb d2 (.frz od (.dK kv2))) H')
      ⟨⟨_, rfl⟩, .refl⟩ (fun i σ' H' _ q => q.2.oth _ _ (fun _ z => nomatch z) fL) ?_ ?_⟩⟩
    · rintro i x σ' H1 H2 hi ⟨⟨o', rfl⟩, g⟩ ⟨rfl, kk, vv, hk, rfl⟩
      obtain ⟨n, e, q1, rfl, _⟩ := a2.get hk
      have nm : n ∈ keysD O := List.mem_map.mpr ⟨_, List.mem_of_getElem? q1, rfl⟩
      obtain ⟨e', v, f1, f2, f3⟩ := a2.val nm
      obtain ⟨z, r, s, rl⟩ := ok.o _ (lookup_mem f1)
      have f3' := f3.less (M' := []) (by simp)
      obtain ⟨q, xs, rfl, hx, hq⟩ := s.place f3
      have xl := hx.length
      rw [List.length_cons] at xl
      have hget : ∀ Q' : VK, Q' (.ref q) H2 → tDGet (tOp (rIxL K) (tVar 0) (tC (.int 1))) (tVar 2) [some (.ref p), o, some (kV (Sum.inr n)), none] H2 Q' := fun Q' q' => by
        obtain ⟨ys, s1, s2⟩ := g.at_ (K := K) (i := 1) pL rfl
        exact ⟨_, rfl, p, ys, 1, .ref d2, rfl, rfl, s1, s2, _, rfl, d2, .ref q, rfl, .inl ⟨kv2, .inr n, .inr ⟨od, g.oth _ _ (fun _ z => nomatch z) fL⟩, rfl, f2.symm⟩, q'⟩
      rcases hq with ⟨rfl', m, hq⟩ | ⟨rfl', hq⟩
      · have q3 : q ≠ l3 := no3 q (.str z) r rfl (by rw [← rfl']; exact f3')
        obtain ⟨zs, b1, b2⟩ := g1.lst q xs hq
        exact if_more (K := K) (l := true) g hget ⟨fun z => (List.mem_cons.mp z).elim q3 m, lock_ne hdb b1 (fun z => nomatch z)⟩ (by rw [List.length_append]; omega) (by omega) fun H3 g3 => ⟨⟨_, rfl⟩, g3⟩
      · exact if_more (K := K) (l := false) g hget (lock_ne hdb (g1.oth _ _ (fun _ z => nomatch z) hq) (fun z => nomatch z)) (by omega) (by omega) fun H3 g3 => ⟨⟨_, rfl⟩, g3⟩
    · rintro σ' H1 ⟨⟨o', rfl⟩, g⟩
      refine ⟨g.oth _ _ (fun _ z => nomatch z) fL, ?_⟩
      have g2 : Grown (l3 :: p :: A) 20 H (upd H1 d2 (.dK kv2)) := (g1.trans ((g.unlock hdb).mono (m := 10) (by omega)))
      generalize upd H1 d2 (.dK kv2) = Hc at g2 ⊢
      -- the rules
      have hpc : Hc p = some (.lst [.ref d1, .ref d2, .ref l3]) := g2.keep p (by simp) _ hp
      have hlc : Hc l3 = some (.lst xs3) := g2.keep l3 (by simp) _ hl3
      have r3 := hr3.length
      have rl := ok.rl
      refine ⟨_, rfl, p, _, 2, .ref l3, rfl, rfl, SqL.of hpc, rfl, l3, rfl, ⟨_, SqL.of hlc⟩, for_list (K := K) (a := l3) (xs := xs3) (fun i σ' H' => (∃ o3, σ' = [some (.ref p), o, o', o3]) ∧ Grown (l3 :: p :: A) (20 + 2 * i) H H')
        ⟨⟨_, rfl⟩, g2⟩ (fun i σ' H' _ q => SqL.of (q.2.keep l3 (by simp) _ hl3)) ?_ ?_⟩
      · rintro i x σ' H2 hx ⟨⟨o3, rfl⟩, g⟩
        obtain ⟨e, he, ae⟩ := hr3.get hx
        have hi : i < xs3.length := (List.getElem?_eq_some_iff.mp hx).1
        obtain ⟨f, n, rest, ms, s, s2, ml, rl2⟩ := ok.r e (List.mem_of_getElem? he)
        obtain ⟨q, ws, rfl, hw, hq⟩ := s.place ae
        have wl := hw.length
        rw [List.length_cons, List.length_cons] at wl
        obtain ⟨w0, _, rfl, hw0, w1, wr, rfl, hw1, hwr⟩ := hw
        obtain ⟨q', us, rfl, hu, hq'⟩ := s2.place hw1
        have ul := hu.length
        rw [List.length_map] at ul
        have hget : ∀ Q' : VK, Q' (.ref q') H2 → tOp (rIx K) (tVar 3) (tC (.int 1)) [some (.ref p), o, o', some (.ref q)] H2 Q' := fun Q' q0 => by
          rcases hq with ⟨_, m, hq⟩ | ⟨_, hq⟩
          · obtain ⟨ys, s1, s2⟩ := g.at_ (K := K) (i := 1) hq rfl
            exact ⟨_, rfl, .inl ⟨q, ys, 1, .ref q', rfl, rfl, s1, s2, q0⟩⟩
          · exact ⟨_, rfl, .inr (.inl ⟨q, _, 1, .ref q', rfl, rfl, SqT.of (g.oth _ _ (fun _ z => nomatch z) hq), at_of (xs := w0 :: V.ref q' :: wr) (j := 1) rfl rfl, q0⟩)⟩
        have next : ∀ H3, Grown (l3 :: p :: A) (20 + 2 * i + 1) H H3 → tIfS (tB (tCB (rIsi K) (tCons (tVar 3) (tCons (tC (.ty "list")) tNil)))) (tDrop (tBM K "list" rAppend (tVar 3) (tCons (tC (.str ("more" : Str))) tNil))) tNext
            { fin Q with nx := fun σ' H' => (∃ o3, σ' = [some (.ref p), o, o', o3]) ∧ Grown (l3 :: p :: A) (20 + 2 * (i + 1)) H H', ct := fun σ' H' => (∃ o3, σ' = [some (.ref p), o, o', o3]) ∧ Grown (l3 :: p :: A) (20 + 2 * (i + 1)) H H', bk := (fin Q).nx } [some (.ref p), o, o', some (.ref q)] H3 := fun H3 g3 => by
          rcases hq with ⟨_, m, hq⟩ | ⟨_, hq⟩
          · exact if_more (K := K) (l := true) g3 (fun Q' q0 => ⟨_, rfl, q0⟩) ⟨m, hq⟩ (by rw [List.length_cons, List.length_cons] at *; omega) (by omega) fun H4 g4 => ⟨⟨_, rfl⟩, g4.mono (by omega)⟩
          · exact if_more (K := K) (l := false) g3 (fun Q' q0 => ⟨_, rfl, q0⟩) hq (by rw [List.length_cons, List.length_cons] at *; omega) (by omega) fun H4 g4 => ⟨⟨_, rfl⟩, g4.mono (by omega)⟩
        rcases hq' with ⟨_, m, hq'⟩ | ⟨_, hq'⟩
        · exact if_more (K := K) (l := true) g hget ⟨m, hq'⟩ (by omega) (by omega) next
        · exact if_more (K := K) (l := false) g hget hq' (by omega) (by omega) next
      · rintro σ' H2 ⟨_, g⟩
        exact k H2 ((g.less fun x m => List.mem_cons_of_mem _ m).mono (by omega))
end Kb

set_option Elab.async false
set_option linter.all false
set_option maxRecDepth 100000
set_option maxHeartbeats 4000000
/-! Kb, 30: what a Kind tells: name, hidden, links(), own(), rules(). -/
namespace Kb
open PySem PySem.Spec PyProof.Rows L2

/-- a field of the Kind at a -/
def sp_fld (f : Str) (K : PySem.W.Frag) : Sp := fun vs H Q _ => ∃ (a dx : Addr) (fs : List (Str × V)) (v : V), vs = [.ref a] ∧ Cls K (KC K) ∧ NoAttr K (KC K) f ∧ H a = some (.ins (KC K) dx fs) ∧ fs.lookup f = some v ∧ Q v H
theorem len_fld {f : Str} {K : PySem.W.Frag} {vs : List V} {H : Hp} {Q : VK} {E : XK} (h : sp_fld f K vs H Q E) : vs.length = 1 := by
  obtain ⟨_, _, _, _, rfl, _⟩ := h
  rfl
theorem pure_fld {f : Str} {K : PySem.W.Frag} {vs : List V} {H : Hp} {Q : VK} {E : XK} (h : sp_fld f K vs H Q E) : tRet (tFld K (tVar 0) f) (fin Q) (st0 1 vs) H := by
  obtain ⟨a, dx, fs, v, rfl, c, n, e, l, q⟩ := h
  exact ⟨_, rfl, a, KC K, dx, fs, v, rfl, e, c, n, l, q⟩
abbrev sp_Kind_name (K : PySem.W.Frag) : Sp := sp_fld "kind_name" K
theorem len_Kind_name {K : PySem.W.Frag} {vs : List V} {H : Hp} {Q : VK} {E : XK} (h : sp_Kind_name K vs H Q E) : vs.length = 1 := len_fld h
def t_Kind_name (K : PySem.W.Frag) : TS :=
  (tRet (tFld K (tVar 0) "kind_name"))
theorem pure_Kind_name {K : PySem.W.Frag} (vs : List V) (H : Hp) (Q : VK) (E : XK) (h : sp_Kind_name K vs H Q E) : t_Kind_name K (fin Q) (st0 1 vs) H := pure_fld h
abbrev sp_Kind_hidden (K : PySem.W.Frag) : Sp := sp_fld "is_hidden" K
theorem len_Kind_hidden {K : PySem.W.Frag} {vs : List V} {H : Hp} {Q : VK} {E : XK} (h : sp_Kind_hidden K vs H Q E) : vs.length = 1 := len_fld h
def t_Kind_hidden (K : PySem.W.Frag) : TS :=
  (tRet (tFld K (tVar 0) "is_hidden"))
theorem pure_Kind_hidden {K : PySem.W.Frag} (vs : List V) (H : Hp) (Q : VK) (E : XK) (h : sp_Kind_hidden K vs H Q E) : t_Kind_hidden K (fin Q) (st0 1 vs) H := pure_fld h
/-- a copy of a table of the Kind at a -/
def sp_tab (f : Str) (K : PySem.W.Frag) : Sp := fun vs H Q E => sp_fld f K vs H (fun v H1 => ∃ l kvs, v = .ref l ∧ H1 l = some (.dK kvs) ∧ ∀ p, H1 p = none → Q (.ref p) (upd H1 p (.dK kvs))) E
theorem pure_tab {f : Str} {K : PySem.W.Frag} {vs : List V} {H : Hp} {Q : VK} {E : XK} (h : sp_tab f K vs H Q E) : tRet (tCB rDictD (tCons (tFld K (tVar 0) f) tNil)) (fin Q) (st0 1 vs) H := by
  obtain ⟨a, dx, fs, v, rfl, c, n, e, lk, l, kvs, rfl, hl, q⟩ := h
  exact ⟨_, rfl, a, KC K, dx, fs, _, rfl, e, c, n, lk, l, kvs, rfl, .inl hl, q⟩
abbrev sp_Kind_links (K : PySem.W.Frag) : Sp := sp_tab "link_table" K
theorem len_Kind_links {K : PySem.W.Frag} {vs : List V} {H : Hp} {Q : VK} {E : XK} (h : sp_Kind_links K vs H Q E) : vs.length = 1 := len_fld h
def t_Kind_links (K : PySem.W.Frag) : TS :=
  (tRet (tCB rDictD (tCons (tFld K (tVar 0) "link_table") tNil)))
theorem pure_Kind_links {K : PySem.W.Frag} (vs : List V) (H : Hp) (Q : VK) (E : XK) (h : sp_Kind_links K vs H Q E) : t_Kind_links K (fin Q) (st0 1 vs) H := pure_tab h
abbrev sp_Kind_own (K : PySem.W.Frag) : Sp := sp_tab "own_table" K
theorem len_Kind_own {K : PySem.W.Frag} {vs : List V} {H : Hp} {Q : VK} {E : XK} (h : sp_Kind_own K vs H Q E) : vs.length = 1 := len_fld h
def t_Kind_own (K : PySem.W.Frag) : TS :=
  (tRet (tCB rDictD (tCons (tFld K (tVar 0) "own_table") tNil)))
theorem pure_Kind_own {K : PySem.W.Frag} (vs : List V) (H : Hp) (Q : VK) (E : XK) (h : sp_Kind_own K vs H Q E) : t_Kind_own K (fin Q) (st0 1 vs) H := pure_tab h
def sp_Kind_rules (K : PySem.W.Frag) : Sp := fun vs H Q E => sp_fld "rule_list" K vs H (fun v H1 => ∃ l xs, v = .ref l ∧ H1 l = some (.lst xs) ∧ ∀ p, H1 p = none → Q (.ref p) (upd H1 p (.lst xs))) E
theorem len_Kind_rules {K : PySem.W.Frag} {vs : List V} {H : Hp} {Q : VK} {E : XK} (h : sp_Kind_rules K vs H Q E) : vs.length = 1 := len_fld h
def t_Kind_rules (K : PySem.W.Frag) : TS :=
  (tRet (tCB (rListOf K) (tCons (tFld K (tVar 0) "rule_list") tNil)))
theorem pure_Kind_rules {K : PySem.W.Frag} (vs : List V) (H : Hp) (Q : VK) (E : XK) (h : sp_Kind_rules K vs H Q E) : t_Kind_rules K (fin Q) (st0 1 vs) H := by
  obtain ⟨a, dx, fs, v, rfl, c, n, e, lk, l, xs, rfl, hl, q⟩ := h
  exact ⟨_, rfl, a, KC K, dx, fs, _, rfl, e, c, n, lk, l, xs, rfl, .inl (SqL.of hl), q⟩
/-- name in kind -/
def sp_Kind_contains (K : PySem.W.Frag) : Sp := fun vs H Q _ => ∃ (a dx o : Addr) (fs : List (Str × V)) (d : D) (x : V) (O : List (Str × D)) (kvs : List (Key × V)), vs = [.ref a, x] ∧ Cls K (KC K) ∧ NoAttr K (KC K) "own_table" ∧ H a = some (.ins (KC K) dx fs) ∧
  fs.lookup ("own_table" : Str) = some (V.ref o) ∧ H o = some (.dK kvs) ∧ kvs.map (·.1) = O.map (fun p => (Sum.inr p.1 : Key)) ∧ AtZ H d x ∧ Q (.bl (isLinkD d O)) H
theorem len_Kind_contains {K : PySem.W.Frag} {vs : List V} {H : Hp} {Q : VK} {E : XK} (h : sp_Kind_contains K vs H Q E) : vs.length = 2 := by
  obtain ⟨_, _, _, _, _, _, _, _, rfl, _⟩ := h
  rfl
def t_Kind_contains (K : PySem.W.Frag) : TS :=
  (tRet (tAndV (tCB (rIsi K) (tCons (tVar 1) (tCons (tC (.ty "str")) tNil))) (tDIn (tVar 1) (tFld K (tVar 0) "own_table"))))
theorem pure_Kind_contains {K : PySem.W.Frag} (vs : List V) (H : Hp) (Q : VK) (E : XK) (h : sp_Kind_contains K vs H Q E) : t_Kind_contains K (fin Q) (st0 2 vs) H := by
  obtain ⟨a, dx, o, fs, d, x, O, kvs, rfl, c, n, e, lk, ho, hk, hx, q⟩ := h
  refine ⟨_, rfl, x, _, _, _, d.isStr, rfl, .ty _, hx.ty, kit_str, _, rfl, ?_⟩
  cases hs : d.isStr with
  | false =>
    refine iteF ?_
    have : isLinkD d O = false := by cases d <;> first | rfl | (cases hs; done)
    rw [this] at q
    exact q
  | true =>
    refine iteT ?_
    obtain ⟨z, rfl⟩ : ∃ z, d = .str z := by cases d <;> first | exact ⟨_, rfl⟩ | (cases hs; done)
    obtain rfl : x = .str z := hx
    refine ⟨_, rfl, _, rfl, a, KC K, dx, fs, _, rfl, e, c, n, lk, o, _, rfl, .inl ⟨kvs, .inr z, .inl ho, rfl, rfl⟩, ?_⟩
    rw [valV_some hk]
    exact q
end Kb

set_option Elab.async false
set_option linter.all false
set_option maxRecDepth 100000
set_option maxHeartbeats 4000000
/-! Kb, 31: a Hook that tells an own class's properties and their getters, too. -/
namespace Kb
open PySem PySem.Spec PyProof.Rows L2

section
variable (K : PySem.W.Frag)
/-- the property f of the class x; its getter -/
abbrev prA (x f : Str) : Addr := He.ma K (He.ga K x) f
def gtA (x f : Str) : Addr := match PySem.W.recIn K (prA K x f) "property" with
  | some (.ref g :: _) => g
  | _ => 0
def prB (x f : Str) : Bool := He.eqO (PySem.W.findIn K (.ref (He.ga K x)) f) (some (some (.ref (prA K x f)))) &&
  (He.eqO (PySem.W.specialIn K (.ref (prA K x f)) "__get__") (some (some (.builtin "property.__get__"))) && (decide (PySem.W.takesIn K (.ref (prA K x f)) = some true) &&
    match PySem.W.recIn K (prA K x f) "property" with
    | some (.ref _ :: _) => true
    | _ => false))
/-- what stands at a, if it is a function -/
def fnB (a : Addr) : He.FnW := (K.lookup a).bind fun o => match o.data with
  | .func fd => some (fd.name, fd.qualname, fd.params, fd.body, fd.scope, fd.globals, fd.closure, fd.builtins)
  | _ => none
/-- a function without defaults at a -/
def fnC (a : Addr) (q : Str) : Bool := PySem.W.keepIn K (.ref a) && (match K.lookup a with
  | some ⟨_, _, .func fd, _⟩ => PySem.W.codeIn K fd.code q && He.dflB K fd.defaults []
  | _ => false)
end
theorem prB_ok {K : PySem.W.Frag} {x f : Str} (h : prB K x f = true) : PropOf K (He.ga K x) f (prA K x f) (gtA K x f) := by
  obtain ⟨h1, h⟩ := He.ba h
  obtain ⟨h2, h⟩ := He.ba h
  obtain ⟨h3, h4⟩ := He.ba h
  refine ⟨He.eqO_ok h1, He.eqO_ok h2, of_decide_eq_true h3, ?_⟩
  unfold gtA
  split at h4
  · next g r e =>
    rw [e]
    exact ⟨r, rfl⟩
  · cases h4
theorem fnB_ok {K : PySem.W.Frag} {a : Addr} {d : He.DefD} (e : fnB K a = d.val) (c : fnC K a d.qual = true) : ∃ fd, FunD K d.name d.qual d.params d.body d.scope [] [] a fd := by
  obtain ⟨kp, c2⟩ := He.ba c
  unfold fnB at e
  cases q : K.lookup a with
  | none =>
    rw [q] at c2
    cases c2
  | some o =>
    obtain ⟨oc, od, dt, osl⟩ := o
    rw [q] at c2 e
    cases dt with
    | func fd =>
      obtain ⟨n1, n2, n3, n4, n5, n6, n7, n8, n9, n10, n11, n12, n13, n14, n15⟩ := fd
      have e2 : (some (n1, n2, n3, n4, n5, n6, n7, n15) : He.FnW) = some (d.name, d.qual, d.params, .stmts d.body, d.scope, mainGlobals, [], builtinsNs) := e
      simp only [Option.some.injEq, Prod.mk.injEq] at e2
      obtain ⟨h1, h2, h3, h4, h5, h6, h7, h8⟩ := e2
      subst h1 h2 h3 h4 h5 h6 h7 h8
      obtain ⟨k1, k2⟩ := He.ba (show (PySem.W.codeIn K n13 d.qual && He.dflB K n8 []) = true from c2)
      exact ⟨_, ⟨oc, od, n8, n9, n10, n11, n12, n13, n14, osl, rfl, q, k1, He.dflB_ok k2, .inl rfl⟩, kp⟩
    | _ => cases c2
/-! ### the Hook -/
abbrev Pr : Type := Str × Str × He.DefD
abbrev AlK : Type := He.AlD × (Bool × List He.FnW)
def obK (fa : List He.Fa) (fn : List He.DefD) (pr : List Pr) (K : PySem.W.Frag) : AlK := (He.obsD fa fn K, (pr.all fun p => prB K p.1 p.2.1 && fnC K (gtA K p.1 p.2.1) p.2.2.qual, pr.map fun p => fnB K (gtA K p.1 p.2.1)))
def vaK (fn : List He.DefD) (pr : List Pr) : AlK := (He.valD fn, (true, pr.map fun p => p.2.2.val))
def Says (fa : List He.Fa) (fn : List He.DefD) (pr : List Pr) (K : PySem.W.Frag) : Prop := obK fa fn pr K = vaK fn pr
def obKG (n : Nat) (fa : List He.Fa) (fn : List He.DefD) (pr : List Pr) (g : Addr → Option Obj) : AlK := obK fa fn pr (He.frG g (He.asD g n))
def hookK (n : Nat) (fa : List He.Fa) (fn : List He.DefD) (pr : List Pr) : PySem.W.Hook where
  α := AlK
  obs := fun s => obKG n fa fn pr s.heap.get?
  val := fun _ => vaK fn pr
  says := fun _ h => ∃ K : PySem.W.Frag, K.In h ∧ Says fa fn pr K
  of := fun _ _ e => ⟨_, He.frG_in, e⟩
  keeps := fun _ _ _ ⟨K, hK, c⟩ k => ⟨K, PySem.W.Frag.In.keeps hK k, c⟩
theorem obKG_eq {n : Nat} {fa : List He.Fa} {fn : List He.DefD} {pr : List Pr} {g : Addr → Option Obj} {s : Shared} (h : ∀ a, g a = s.heap.get? a) : obKG n fa fn pr g = (hookK n fa fn pr).obs s := by
  have e : g = s.heap.get? := funext h
  rw [e] <;> rfl
section
variable {fa : List He.Fa} {fn : List He.DefD} {pr : List Pr} {K : PySem.W.Frag}
theorem Says.d (c : Says fa fn pr K) : He.SaysD fa fn K := congrArg (fun z : AlK => z.1) c
theorem Says.prop (c : Says fa fn pr K) (i : Nat) {p : Pr} (h : pr[i]? = some p := by rfl) : PropOf K (He.ga K p.1) p.2.1 (prA K p.1 p.2.1) (gtA K p.1 p.2.1) ∧ ∃ fd, FunD K p.2.2.name p.2.2.qual p.2.2.params p.2.2.body p.2.2.scope [] [] (gtA K p.1 p.2.1) fd := by
  have c2 : (pr.all fun p => prB K p.1 p.2.1 && fnC K (gtA K p.1 p.2.1) p.2.2.qual) = true := congrArg (fun z : AlK => z.2.1) c
  have e : pr.map (fun p => fnB K (gtA K p.1 p.2.1)) = pr.map fun p => p.2.2.val := congrArg (fun z : AlK => z.2.2) c
  have e2 : (pr.map fun p => fnB K (gtA K p.1 p.2.1))[i]? = (pr.map fun p => p.2.2.val)[i]? := by rw [e]
  rw [List.getElem?_map, List.getElem?_map, h] at e2
  obtain ⟨h1, h2⟩ := He.ba (List.all_eq_true.mp c2 p (List.mem_of_getElem? h))
  exact ⟨prB_ok h1, fnB_ok (Option.some.inj e2) h2⟩
end
end Kb

set_option Elab.async false
set_option linter.all false
set_option maxRecDepth 100000
set_option maxHeartbeats 4000000
/-! Kb, 32: what is drawn is good. -/
namespace Kb
open PySem PySem.Spec PyProof.Rows L2

theorem strsOf_map : ∀ l : List Str, strsOf (l.map D.str) = l
  | [] => rfl
  | a :: b => by
    show a :: strsOf (b.map D.str) = _
    rw [strsOf_map b]
theorem fine_ne {x : Str} (h : IsNE x) : (D.str x).fine = true := by
  rcases h with h | h
  · exact fine_name (nameB_iff.mpr h)
  · rw [h]
    decide +kernel
theorem fine_strs : ∀ {l : List Str}, (∀ x ∈ l, IsNE x) → fineL (l.map D.str) = true
  | [], _ => rfl
  | a :: b, h => by
    show ((D.str a).fine && fineL (b.map D.str)) = true
    rw [fine_ne (h a (by simp)), fine_strs fun x m => h x (by simp [m])]
    rfl
theorem Seq2.fine {d : D} {ds : List D} (s : Seq2 d ds) (h : ds.length ≤ 1000) (f : fineL ds = true) : d.fine = true := by
  rcases s with rfl | rfl
  · show (decide (ds.length ≤ 1000) && fineL ds) = true
    rw [decide_eq_true h, f]
    rfl
  · show (decide (ds.length ≤ 1000) && fineL ds) = true
    rw [decide_eq_true h, f]
    rfl
theorem all_ne {l : List Str} (h : ∀ x ∈ l, IsNE x) : (l.map D.str).all isNED = true := by
  rw [List.all_map]
  exact List.all_eq_true.mpr fun x m => neB_iff.mpr (h x m)
theorem all_name {l : List Str} (h : ∀ x ∈ l, IsName x) : (l.map D.str).all isNameD = true := by
  rw [List.all_map]
  exact List.all_eq_true.mpr fun x m => nameB_iff.mpr (h x m)
theorem choice_ok {d : D} {ms : List Str} (s : Seq2 d (ms.map D.str)) (h1 : ms ≠ []) (h4 : ms.length ≤ 4) (nd : ms.Nodup) (h : ∀ x ∈ ms, IsNE x) : isChoiceD d = true ∧ d.fine = true := by
  obtain ⟨e1, e2⟩ := s.items
  refine ⟨?_, s.fine (by rw [List.length_map]; omega) (fine_strs h)⟩
  unfold isChoiceD
  rw [e1, e2, all_ne h, strsOf_map, List.length_map, decide_eq_true nd, decide_eq_true h4, decide_eq_true (show 1 ≤ ms.length from List.length_pos_iff.mpr h1)]
  rfl
theorem names_ok' {d : D} {ms : List Str} (s : Seq2 d (ms.map D.str)) (h4 : ms.length ≤ 4) (nd : ms.Nodup) (h : ∀ x ∈ ms, IsName x) : isNamesD d = true ∧ d.fine = true := by
  obtain ⟨e1, e2⟩ := s.items
  refine ⟨?_, s.fine (by rw [List.length_map]; omega) (fine_strs fun x m => .inl (h x m))⟩
  unfold isNamesD
  rw [e1, e2, all_name h, strsOf_map, List.length_map, decide_eq_true nd, decide_eq_true h4]
  rfl
theorem link_ok {l : Str} {L : List (Str × D)} (h : l ∈ keysD L) : isLinkD (.str l) L = true := decide_eq_true h
theorem own_ok {d : D} {o : Own} {L : List (Str × D)} {lks : List Str} (s : Seq2 d o.d.items) (ok : o.ok lks) (p : (keysD L).Perm lks) (hl : ∀ l ∈ lks, IsName l) : isOwnD d L = true ∧ d.fine = true := by
  obtain ⟨e1, e2⟩ := s.items
  cases o with
  | val v =>
    have hv : IsName v := ok
    refine ⟨?_, s.fine (by show 2 ≤ 1000; decide) ?_⟩
    · unfold isOwnD
      rw [e2]
      show (d.isSeq && (!decide (("value" : Str) = "self") && (if ("value" : Str) = "value" then isNameD (.str v) else _))) = true
      rw [e1, if_pos rfl, show isNameD (.str v) = true from nameB_iff.mpr hv]
      decide +kernel
    · show ((D.str "value").fine && ((D.str v).fine && true)) = true
      rw [fine_ne (.inl hv)]
      decide +kernel
  | self =>
    refine ⟨?_, s.fine (by decide) (by decide +kernel)⟩
    unfold isOwnD
    rw [e2]
    show (d.isSeq && decide (("self" : Str) = "self")) = true
    rw [e1]
    decide +kernel
  | link l =>
    have hm : l ∈ lks := ok
    refine ⟨?_, s.fine (by show 2 ≤ 1000; decide) ?_⟩
    · unfold isOwnD
      rw [e2]
      show (d.isSeq && (!decide (("link" : Str) = "self") && (if ("link" : Str) = "value" then _ else decide (("link" : Str) = "link") && isLinkD (.str l) L))) = true
      rw [e1, if_neg (by decide +kernel), link_ok (p.mem_iff.mpr hm)]
      decide +kernel
    · show ((D.str "link").fine && ((D.str l).fine && true)) = true
      rw [fine_ne (.inl (hl l hm))]
      decide +kernel
theorem man_ok {b : Bool} : isMannerD (.str (man b)) = true := by cases b <;> decide +kernel
theorem fine_man {b : Bool} : (D.str (man b)).fine = true := by cases b <;> decide +kernel
theorem rest_ok {r : Rule} {asked lks : List Str} {L : List (Str × D)} (ok : r.ok asked lks) (p : (keysD L).Perm lks) (hl : ∀ l ∈ lks, IsName l) (ha : ∀ n ∈ asked, IsName n) : isRestD r.form r.rest L = true ∧ fineL r.rest = true := by
  obtain ⟨_, _, ok⟩ := ok
  cases r with
  | bar ns => exact ⟨by show (if ("bar" : Str) = "bar" ∨ ("bar" : Str) = "self" then _ else _) = true; rw [if_pos (.inl rfl)]; rfl, rfl⟩
  | self ns => exact ⟨by show (if ("self" : Str) = "bar" ∨ ("self" : Str) = "self" then _ else _) = true; rw [if_pos (.inr rfl)]; rfl, rfl⟩
  | tell ns v =>
    have hv : IsName v := ok
    refine ⟨?_, ?_⟩
    · show (if ("tell" : Str) = "bar" ∨ ("tell" : Str) = "self" then _ else if ("tell" : Str) = "tell" then isNameD (.str v) else _) = true
      rw [if_neg (by decide +kernel), if_pos rfl]
      exact nameB_iff.mpr hv
    · show ((D.str v).fine && true) = true
      rw [fine_ne (.inl hv)]
      rfl
  | give ns l b =>
    have hm : l ∈ lks := ok
    refine ⟨?_, ?_⟩
    · show (if ("give" : Str) = "bar" ∨ ("give" : Str) = "self" then _ else if ("give" : Str) = "tell" then _ else if ("give" : Str) = "give" then (isLinkD (.str l) L && isMannerD (.str (man b))) else _) = true
      rw [if_neg (by decide +kernel), if_neg (by decide +kernel), if_pos rfl, link_ok (p.mem_iff.mpr hm), man_ok]
      rfl
    · show ((D.str l).fine && ((D.str (man b)).fine && true)) = true
      rw [fine_ne (.inl (hl l hm)), fine_man]
      rfl
  | send ns l u b w =>
    obtain ⟨hm, hu⟩ : l ∈ lks ∧ (u = "" ∨ u ∈ asked) := ok
    have nu : IsNE u := hu.elim .inr fun m => .inl (ha u m)
    refine ⟨?_, ?_⟩
    · show (if ("send" : Str) = "bar" ∨ ("send" : Str) = "self" then _ else if ("send" : Str) = "tell" then _ else if ("send" : Str) = "give" then _ else decide (("send" : Str) = "send") && (isLinkD (.str l) L && (isNED (.str u) && (isMannerD (.str (man b)) && isFlagD (.bl w))))) = true
      rw [if_neg (by decide +kernel), if_neg (by decide +kernel), if_neg (by decide +kernel), link_ok (p.mem_iff.mpr hm), show isNED (.str u) = true from neB_iff.mpr nu, man_ok, decide_eq_true (rfl : ("send" : Str) = "send")]
      rfl
    · show ((D.str l).fine && ((D.str u).fine && ((D.str (man b)).fine && ((D.bl w).fine && true)))) = true
      rw [fine_ne (.inl (hl l hm)), fine_ne nu, fine_man]
      rfl
theorem rule_ok {e : D} {r : Rule} {asked lks : List Str} {L : List (Str × D)} (lr : LooseRule r.form r.names r.rest e) (ok : r.ok asked lks) (p : (keysD L).Perm lks) (hl : ∀ l ∈ lks, IsName l) (ha : ∀ n ∈ asked, IsName n) : isRuleD e L = true ∧ e.fine = true := by
  obtain ⟨n, ms, s1, s2, mp⟩ := lr
  obtain ⟨e1, e2⟩ := s1.items
  obtain ⟨r1, r2⟩ := rest_ok ok p hl ha
  obtain ⟨nk, na, _⟩ := ok
  obtain ⟨n1, n2⟩ := names_ok' s2 (by rw [mp.length_eq]; exact nk.len) (mp.nodup_iff.mpr nk.nd) fun x m => ha x (na x (mp.mem_iff.mp m))
  have rf := r.rest_flat.2
  refine ⟨?_, s1.fine (by simp; omega) ?_⟩
  · unfold isRuleD
    rw [e2]
    show (e.isSeq && (isNamesD n && isRestD r.form r.rest L)) = true
    rw [e1, n1, r1]
    rfl
  · show ((D.str r.form).fine && (n.fine && fineL r.rest)) = true
    have f : (D.str r.form).fine = true := by
      cases r with
      | bar => exact (by decide +kernel : (D.str "bar").fine = true)
      | tell => exact (by decide +kernel : (D.str "tell").fine = true)
      | self => exact (by decide +kernel : (D.str "self").fine = true)
      | give => exact (by decide +kernel : (D.str "give").fine = true)
      | send => exact (by decide +kernel : (D.str "send").fine = true)
    rw [n2, r2, f]
    rfl
end Kb

set_option Elab.async false
set_option linter.all false
set_option maxRecDepth 100000
set_option maxHeartbeats 4000000
/-! Kb, 33: the parts of a drawn kind, told loosely or as they are, make a Kind. -/
namespace Kb
open PySem PySem.Spec PyProof.Rows L2

/-- parts that tell the kind k -/
structure Tells (k : KD) (L O : List (Str × D)) (R : List D) : Prop where
  lp : (keysD L).Perm k.lks
  l : ∀ x ∈ L, ∃ ys ms : List Str, (x.1, ys) ∈ k.links ∧ Seq2 x.2 (ms.map D.str) ∧ ms.Perm ys
  op : (keysD O).Perm (k.own.map (·.1))
  o : ∀ x ∈ O, ∃ o, (x.1, o) ∈ k.own ∧ Seq2 x.2 o.d.items
  rl : R.length = k.rules.length
  r : ∀ (i : Nat) (r : Rule) (e : D), k.rules[i]? = some r → R[i]? = some e → LooseRule r.form r.names r.rest e
theorem LooseOk.tells {k : KD} {L O : List (Str × D)} {R : List D} (h : LooseOk k L O R) : Tells k L O R :=
  ⟨h.lp, fun x m => let ⟨ys, ms, a, b, c⟩ := h.l x m; ⟨ys, ms, a, .inl b, c⟩, h.op, h.o, h.rl, h.r⟩
theorem KD.tells (k : KD) : Tells k (linkD k.links) (ownD k.own) (k.rules.map Rule.d) := by
  refine ⟨by rw [keys_map], fun x m => ?_, by rw [keys_map], fun x m => ?_, List.length_map .., fun i r e h1 h2 => ?_⟩
  · obtain ⟨p, hp, rfl⟩ := List.mem_map.mp m
    exact ⟨p.2, p.2, hp, .inr rfl, List.Perm.refl _⟩
  · obtain ⟨p, hp, rfl⟩ := List.mem_map.mp m
    obtain ⟨ds, ed, _⟩ := p.2.d_tup
    refine ⟨p.2, hp, .inr ?_⟩
    show p.2.d = _
    rw [ed]
    rfl
  · rw [List.getElem?_map, h1] at h2
    cases h2
    exact ⟨nmD r.names, r.names, .inr r.d_eq, .inr rfl, List.Perm.refl _⟩
/-- a kind as it is drawn -/
structure KdGood (k : KD) : Prop where
  ex : ∃ (kinds asked : List Str) (rn : Nat), KdOk kinds asked 2 rn k ∧ rn ≤ 300 ∧ (∀ n ∈ kinds, IsName n) ∧ (∀ n ∈ asked, IsName n) ∧ asked.Nodup
  name : IsName k.name
theorem cho_ne {kinds ys : List Str} (c : ChoOk kinds ys) (hk : ∀ n ∈ kinds, IsName n) : ∀ y ∈ ys, IsNE y := fun y m => (c.mem y m).elim (fun h => .inl (hk y h)) .inr
theorem Tells.parts {k : KD} {L O : List (Str × D)} {R : List D} (g : KdGood k) (t : Tells k L O R) : Parts k.name L O (.lst R) ∧ O.length ≤ 5 ∧ L.length ≤ 2 ∧ R.length ≤ 300 := by
  obtain ⟨kinds, asked, rn, ok, hrn, hkn, han, hand⟩ := g.ex
  have lk := ok.lk
  have ll : L.length ≤ 2 := by
    have := t.lp.length_eq
    rw [keysD, List.length_map] at this
    rw [this]
    exact lk.len
  have sub := ok.own.sub
  have ol : O.length ≤ 5 := by
    have e1 := t.op.length_eq
    have e2 := sub.length_le
    rw [keysD, List.length_map] at e1
    rw [List.length_take] at e2
    omega
  have rl : R.length ≤ 300 := by
    rw [t.rl]
    exact Nat.le_trans ok.rl hrn
  have ond : (k.own.map (·.1)).Nodup := (hand.sublist (List.take_sublist ..)).sublist sub
  have onm : ∀ n ∈ k.own.map (·.1), IsName n := fun n m => han n (List.mem_of_mem_take (sub.subset m))
  have each : ∀ e ∈ R, isRuleD e L = true ∧ e.fine = true := fun e m => by
    obtain ⟨i, hi, rfl⟩ := List.getElem_of_mem m
    have hi2 : i < k.rules.length := by rw [← t.rl]; exact hi
    have lr := t.r i k.rules[i] R[i] (List.getElem?_eq_getElem hi2) (List.getElem?_eq_getElem hi)
    exact rule_ok lr (ok.ro _ (List.getElem_mem ..)) t.lp lk.nm han
  have fR : ∀ l : List D, (∀ e ∈ l, e.fine = true) → fineL l = true := fun l => by
    induction l with
    | nil => exact fun _ => rfl
    | cons a b ih =>
      intro h
      show (a.fine && fineL b) = true
      rw [h a (by simp), ih fun x m => h x (by simp [m])]
      rfl
  refine ⟨⟨nameB_iff.mpr g.name, ⟨ll, t.lp.nodup_iff.mpr lk.nd, fun x m => ?_⟩, ⟨ol, t.op.nodup_iff.mpr ond, fun x m => ?_⟩, rfl, rl, ?_, ?_⟩, ol, ll, rl⟩
  · obtain ⟨ys, ms, a, b, c⟩ := t.l x m
    have cho := ok.cho _ a
    have nm : x.1 ∈ k.lks := t.lp.mem_iff.mp (List.mem_map.mpr ⟨x, m, rfl⟩)
    obtain ⟨c1, c2⟩ := choice_ok b (fun z => cho.some (by rw [z] at c; exact (List.Perm.nil_eq c).symm)) (by rw [c.length_eq]; exact cho.len) (c.nodup_iff.mpr cho.nd) fun y my => cho_ne cho hkn y (c.mem_iff.mp my)
    exact ⟨nameB_iff.mpr (lk.nm _ nm), c1, c2⟩
  · obtain ⟨o, a, b⟩ := t.o x m
    have nm : x.1 ∈ k.own.map (·.1) := List.mem_map.mpr ⟨_, a, rfl⟩
    obtain ⟨c1, c2⟩ := own_ok b (ok.own.ok _ a) t.lp lk.nm
    exact ⟨nameB_iff.mpr (onm _ nm), c1, c2⟩
  · show (decide (R.length ≤ 1000) && fineL R) = true
    rw [decide_eq_true (by omega), fR R fun e m => (each e m).2]
    rfl
  · exact List.all_eq_true.mpr fun e m => (each e m).1
theorem LooseOk.spoil {k : KD} {L O : List (Str × D)} {R : List D} (g : KdGood k) (t : LooseOk k L O R) : SpoilOk L O R := by
  obtain ⟨pa, ol, ll, rl⟩ := t.tells.parts g
  obtain ⟨kinds, asked, rn, ok, hrn, hkn, han, hand⟩ := g.ex
  refine ⟨fun x m => ?_, fun x m => ?_, fun e m => ?_, by omega, by omega, rl⟩
  · obtain ⟨ys, ms, a, b, c⟩ := t.l x m
    have cho := ok.cho _ a
    have : ys.length ≤ 4 := cho.len
    exact ⟨ms, b, fun z => cho.some (by rw [z] at c; exact (List.Perm.nil_eq c).symm), by rw [c.length_eq]; omega⟩
  · obtain ⟨o, a, b⟩ := t.o x m
    cases o with
    | val v => exact ⟨"value", [.str v], b, by simp⟩
    | self => exact ⟨"self", [], b, by simp⟩
    | link l => exact ⟨"link", [.str l], b, by simp⟩
  · obtain ⟨i, hi, rfl⟩ := List.getElem_of_mem m
    have hi2 : i < k.rules.length := by rw [← t.rl]; exact hi
    obtain ⟨n, ms, s1, s2, mp⟩ := t.r i k.rules[i] R[i] (List.getElem?_eq_getElem hi2) (List.getElem?_eq_getElem hi)
    have nk := (ok.ro _ (List.getElem_mem hi2)).1.len
    exact ⟨_, n, _, ms, s1, s2, by rw [mp.length_eq]; omega, (Rule.rest_flat _).2⟩
theorem KdGood.fit {k : KD} (g : KdGood k) : KdFit k := by
  obtain ⟨kinds, asked, rn, ok, hrn, hkn, han, hand⟩ := g.ex
  have sub := ok.own.sub
  refine ⟨ok.lk.nd, ?_, fun p m => ?_, (hand.sublist (List.take_sublist ..)).sublist sub, ?_, Nat.le_trans ok.rl hrn, fun r m => ?_⟩
  · have := ok.lk.len
    rw [List.length_map] at this
    omega
  · have := (ok.cho p m).len
    omega
  · have e2 := sub.length_le
    rw [List.length_map, List.length_take] at e2
    omega
  · have := (ok.ro r m).1.len
    omega
end Kb

set_option Elab.async false
set_option linter.all false
set_option maxRecDepth 100000
set_option maxHeartbeats 4000000
/-! Kb, 34: _law_kind. -/
namespace Kb
open PySem PySem.Spec PyProof.Rows L2

/-- a new object is written alone -/
theorem But.ofNew {H H1 H' : Hp} {x : Addr} (a : But [] H H1) (h : H x = none) (b : But [x] H1 H') : But [] H H' := by
  refine ⟨fun y o _ e => ?_, fun y e => b.stand y (a.stand y e)⟩
  have ne : y ≠ x := ne_of_none e h
  exact b.keep y o (by simpa using ne) (a.keep y o (by simp) e)
/-- Kind(..) upon good parts that stand at x, y, z -/
theorem init_ok {K : PySem.W.Frag} {H : Hp} {nm : Str} {L O : List (Str × D)} {d : D} {y1 y2 y3 : V} {h : Bool} {x dx : Addr} {Q : VK} (C : KindC K) (h1 : At [] H (.dct L) y1) (h2 : At [] H (.dct O) y2) (h3 : At [] H d y3) (p : Parts nm L O d)
    (hx : H x = none) (hdx : H dx = none) (ne : dx ≠ x)
    (k : ∀ L' O' R' H', Kept L O d L' O' R' → (∀ M, Std M H → NoTup M H → KOb K M H' x nm L' O' R' h) → But [] H H' → Q (.ref x) H') :
    sp_Kind_init K [.ref x, .str nm, y1, y2, y3, .bl h] (upd (upd H dx (.own x)) x (.ins (KC K) dx [])) (fun v H2 => v = .non ∧ Q (.ref x) H2) E0 := by
  have B : But [] H (upd (upd H dx (.own x)) x (.ins (KC K) dx [])) := (But.new hdx).upd (.inr hx)
  have u : (upd (upd H dx (.own x)) x (.ins (KC K) dx [])) x = some (.ins (KC K) dx []) := upd_same
  generalize upd (upd H dx (.own x)) x (.ins (KC K) dx []) = H1 at B u ⊢
  refine ⟨x, dx, nm, L, O, d, y1, y2, y3, h, rfl, C, u, (h1.excl hx).mono B.nil, (h2.excl hx).mono B.nil, (h3.excl hx).mono B.nil, p, fun L' O' R' H' kp kob b => ⟨rfl, ?_⟩⟩
  exact k L' O' R' H' kp (fun M s t => kob M (s.but B) (t.but s B) (s.no hx)) (B.ofNew hx b)
def sp_l_kind (K : PySem.W.Frag) : Sp := fun vs H Q _ => ∃ (k : KD) (v : V), vs = [v] ∧ KindC K ∧ At [] H k.d v ∧ KdGood k ∧
  ∀ a L' O' R' H', Kept (linkD k.links) (ownD k.own) (.lst (k.rules.map Rule.d)) L' O' R' → H a = none → (∀ M, Std M H → NoTup M H → KOb K M H' a k.name L' O' R' k.hid) → But [] H H' → Q (.ref a) H'
theorem len_l_kind {K : PySem.W.Frag} {vs : List V} {H : Hp} {Q : VK} {E : XK} (h : sp_l_kind K vs H Q E) : vs.length = 1 := by
  obtain ⟨_, _, rfl, _⟩ := h
  rfl
def t_l_kind (K : PySem.W.Frag) : TS :=
  (tRet (tMakeN (KC K) 4 1 (sp_Kind_init K) (fun vs zs => vs ++ zs) E0 (tCons (tOp (rIxL K) (tVar 0) (tC (.int 0))) (tCons (tCB rDictD (tCons (tOp (rIxL K) (tVar 0) (tC (.int 1))) tNil)) (tCons (tCB rDictD (tCons (tOp (rIxL K) (tVar 0) (tC (.int 2))) tNil)) (tCons (tCB (rListOf K) (tCons (tOp (rIxL K) (tVar 0) (tC (.int 3))) tNil)) tNil))))
    (tCons (tOp (rIxL K) (tVar 0) (tC (.int 4))) tNil)))
theorem pure_l_kind {K : PySem.W.Frag} (vs : List V) (H : Hp) (Q : VK) (E : XK) (h : sp_l_kind K vs H Q E) : t_l_kind K (fin Q) (st0 1 vs) H := by
  obtain ⟨k, v, rfl, C, hv, g, fin_⟩ := h
  obtain ⟨kd, p1, p2, p3, kv1, kv2, xs3, rfl, nk, hk, n1, e1, l1, n2, e2, l2, n3, e3, l3⟩ := KD.parts hv
  refine ⟨_, rfl, kd, _, 0, _, rfl, rfl, SqL.of hk, rfl, ?_⟩
  refine ⟨_, rfl, kd, _, 1, .ref p1, rfl, rfl, SqL.of hk, rfl, p1, kv1, rfl, .inl e1, fun q1 hq1 => ?_⟩
  have B1 : But [] H (upd H q1 (.dK kv1)) := But.new hq1
  have u1 : (upd H q1 (.dK kv1)) q1 = some (.dK kv1) := upd_same
  generalize upd H q1 (.dK kv1) = H1 at B1 u1 ⊢
  refine ⟨_, rfl, kd, _, 2, .ref p2, rfl, rfl, SqL.of (B1.keep _ _ (by simp) hk), rfl, p2, kv2, rfl, .inl (B1.keep _ _ (by simp) e2), fun q2 hq2 => ?_⟩
  have B2 : But [] H1 (upd H1 q2 (.dK kv2)) := But.new hq2
  have u2 : (upd H1 q2 (.dK kv2)) q2 = some (.dK kv2) := upd_same
  generalize upd H1 q2 (.dK kv2) = H2 at B2 u2 ⊢
  have B02 := B1.trans B2
  refine ⟨_, rfl, kd, _, 3, .ref p3, rfl, rfl, SqL.of (B02.keep _ _ (by simp) hk), rfl, p3, xs3, rfl, .inl (SqL.of (B02.keep _ _ (by simp) e3)), fun q3 hq3 => ?_⟩
  have B3 : But [] H2 (upd H2 q3 (.lst xs3)) := But.new hq3
  have u3 : (upd H2 q3 (.lst xs3)) q3 = some (.lst xs3) := upd_same
  generalize upd H2 q3 (.lst xs3) = H3 at B3 u3 ⊢
  have B03 := B02.trans B3
  refine ⟨_, rfl, kd, _, 4, .bl k.hid, rfl, rfl, SqL.of (B03.keep _ _ (by simp) hk), rfl, rfl, rfl, fun x dx hx hdx ne => ?_⟩
  refine init_ok (K := K) (L := linkD k.links) (O := ownD k.own) (d := .lst (k.rules.map Rule.d)) C ⟨q1, kv1, rfl, by simp, B3.keep _ _ (by simp) (B2.keep _ _ (by simp) u1), l1.mono B03⟩ ⟨q2, kv2, rfl, by simp, B3.keep _ _ (by simp) u2, l2.mono B03⟩ ⟨q3, xs3, rfl, by simp, u3, l3.mono B03⟩ (k.tells.parts g).1 hx hdx ne
    fun L' O' R' H' kp kob b => fin_ x L' O' R' H' kp (B03.free hx) (fun M s t => kob M (s.but B03) (t.but s B03)) (B03.trans b)
end Kb

set_option Elab.async false
set_option linter.all false
set_option maxRecDepth 100000
set_option maxHeartbeats 400000
/-! Kb, 35: x.clear() of a dict or a list. -/
namespace Kb
open PySem PySem.Spec PyProof.Rows L2

/-- x.clear(), x a variable -/
def tClr (i : Nat) : TE := fun σ H Q => ∃ a, σ[i]? = some (some (.ref a)) ∧ ((∃ kvs, H a = some (.dK kvs) ∧ Q .non (upd H a (.dK []))) ∨ ∃ xs, H a = some (.lst xs) ∧ Q .non (upd H a (.lst [])))
theorem pe_clrVar {X : Cx} {y : Str} {i : Nat} {p apos cpos : Pos} (h : PE X (.Name y p) (tVar i)) (hb : attributeBase (.Name y p) "clear" X.env (eval (.Name y p) X.env) = eval (.Name y p) X.env := by rfl) (hl : (apos.endLine == cpos.line) = true := by rfl) :
    PE X (.Call (.Attribute (.Name y p) "clear" apos) [] [] cpos) (tClr i) := by
  refine ⟨fun pins s σ H Q I q => ?_⟩
  obtain ⟨a, ha, q⟩ := q
  rcases q with ⟨kvs, e, q⟩ | ⟨xs, e, q⟩
  · exact (pe_dclear h hb hl).run pins s σ H Q I ⟨_, ha, .inr (.inr (.inl ⟨rfl, .inl ⟨_, e⟩⟩)), a, kvs, rfl, rfl, e, q⟩
  · exact (pe_bm0 PySem.F.plainAttrs_list PySem.F.slot_list_clear PySem.F.type_list_clear mt_clear h hb hl).run pins s σ H Q I ⟨_, ha, .inl ⟨rfl, _, SqL.of e⟩, a, xs, rfl, rfl, e, q⟩
end Kb

set_option Elab.async false
set_option linter.all false
set_option maxRecDepth 100000
set_option maxHeartbeats 2000000
/-! Kb, 36: _law_tells. -/
namespace Kb
open PySem PySem.Spec PyProof.Rows L2

theorem But.ofNews {M : List Addr} {H H1 H' : Hp} (a : But [] H H1) (h : ∀ x ∈ M, H x = none) (b : But M H1 H') : But [] H H' :=
  ⟨fun y o _ e => b.keep y o (fun m => by rw [h y m] at e; cases e) (a.keep y o (by simp) e), fun y e => b.stand y (a.stand y e)⟩
/-- what a Kind must tell of k -/
def dueD (k : KD) : D := .lst [.str k.name, .bl k.hid, .dct (linkD k.links), .dct (ownD k.own), .lst (k.rules.map Rule.d)]
def toldD (nm : Str) (h : Bool) (L O : List (Str × D)) (R : List D) : D := .lst [.str nm, .bl h, .dct L, .dct O, .lst R]
def sp_l_tells (K : PySem.W.Frag) : Sp := fun vs H Q _ => ∃ (a : Addr) (nm : Str) (L O : List (Str × D)) (R : List D) (h : Bool) (k : KD) (v : V), vs = [.ref a, v] ∧ KindC K ∧ KOb K [] H a nm L O R h ∧ At [] H k.d v ∧ Like (toldD nm h L O R) (dueD k) ∧ (dueD k).dp < 6 ∧
  ∀ H', But [] H H' → Q (.bl true) H'
theorem len_l_tells {K : PySem.W.Frag} {vs : List V} {H : Hp} {Q : VK} {E : XK} (h : sp_l_tells K vs H Q E) : vs.length = 2 := by
  obtain ⟨_, _, _, _, _, _, _, _, rfl, _⟩ := h
  rfl
def t_l_tells (K : PySem.W.Frag) : TS :=
  (tSeq (tAsg (tLst (tCons (tProp (He.ga K "Kind") (sp_Kind_name K) [] E0 (tVar 0)) (tCons (tProp (He.ga K "Kind") (sp_Kind_hidden K) [] E0 (tVar 0)) (tCons (tMeth (He.ga K "Kind") "links" (sp_Kind_links K) [] E0 (tVar 0) tNil) (tCons (tMeth (He.ga K "Kind") "own" (sp_Kind_own K) [] E0 (tVar 0) tNil) (tCons (tMeth (He.ga K "Kind") "rules" (sp_Kind_rules K) [] E0 (tVar 0) tNil) tNil)))))) (gName 2))
  (tSeq (tAsg (tCall (sp_l_like 6 K) [] E0 (tCons (tVar 2) (tCons (tLst (tCons (tOp (rIxL K) (tVar 1) (tC (.int 0))) (tCons (tOp (rIxL K) (tVar 1) (tC (.int 4))) (tCons (tOp (rIxL K) (tVar 1) (tC (.int 1))) (tCons (tOp (rIxL K) (tVar 1) (tC (.int 2))) (tCons (tOp (rIxL K) (tVar 1) (tC (.int 3))) tNil)))))) tNil))) (gName 3))
  (tSeq (tFor (iList K (tSl (rSlL K) (tVar 2) (tPart (tC (.int 2))) tNoPart)) (gName 4)
    (tDrop (tClr 4)))
  (tRet (tVar 3)))))
theorem pure_l_tells {K : PySem.W.Frag} (vs : List V) (H : Hp) (Q : VK) (E : XK) (h : sp_l_tells K vs H Q E) : t_l_tells K (fin Q) (st0 5 vs) H := by
  obtain ⟨a, nm, L, O, R, h, k, v, rfl, C, ko, hv, lk, dp, fin_⟩ := h
  obtain ⟨dx, l, o, r, _, e, h1, h2, h3⟩ := ko
  obtain ⟨pl, kvl, rfl, _, el, al⟩ := h1
  obtain ⟨po, kvo, rfl, _, eo, ao⟩ := h2
  obtain ⟨pr, xsr, rfl, _, er, ar⟩ := h3
  -- told
  refine ⟨_, rfl, a, dx, _, rfl, e, a, dx, _, _, rfl, C.cls, C.n1, e, rfl, ?_⟩
  refine ⟨_, rfl, a, dx, _, rfl, e, a, dx, _, _, rfl, C.cls, C.n5, e, rfl, ?_⟩
  refine ⟨_, rfl, a, dx, _, rfl, e, rfl, a, dx, _, _, rfl, C.cls, C.n2, e, rfl, pl, kvl, rfl, el, fun q1 hq1 => ?_⟩
  have B1 : But [] H (upd H q1 (.dK kvl)) := But.new hq1
  have u1 : (upd H q1 (.dK kvl)) q1 = some (.dK kvl) := upd_same
  generalize upd H q1 (.dK kvl) = H1 at B1 u1 ⊢
  have e1 := B1.keep _ _ (by simp) e
  refine ⟨_, rfl, a, dx, _, rfl, e1, rfl, a, dx, _, _, rfl, C.cls, C.n3, e1, rfl, po, kvo, rfl, B1.keep _ _ (by simp) eo, fun q2 hq2 => ?_⟩
  have B2 : But [] H1 (upd H1 q2 (.dK kvo)) := But.new hq2
  have u2 : (upd H1 q2 (.dK kvo)) q2 = some (.dK kvo) := upd_same
  generalize upd H1 q2 (.dK kvo) = H2 at B2 u2 ⊢
  have B02 := B1.trans B2
  have e2 := B02.keep _ _ (by simp) e
  refine ⟨_, rfl, a, dx, _, rfl, e2, rfl, a, dx, _, _, rfl, C.cls, C.n4, e2, rfl, pr, xsr, rfl, B02.keep _ _ (by simp) er, fun q3 hq3 => ?_⟩
  have B3 : But [] H2 (upd H2 q3 (.lst xsr)) := But.new hq3
  have u3 : (upd H2 q3 (.lst xsr)) q3 = some (.lst xsr) := upd_same
  generalize upd H2 q3 (.lst xsr) = H3 at B3 u3 ⊢
  have B03 := B02.trans B3
  refine ⟨by show 5 ≤ sizeLine; decide, fun p hp => ?_⟩
  have B4 : But [] H3 (upd H3 p (.lst [.str nm, .bl h, .ref q1, .ref q2, .ref q3])) := But.new hp
  have u4 : (upd H3 p (.lst [.str nm, .bl h, .ref q1, .ref q2, .ref q3])) p = some (.lst [.str nm, .bl h, .ref q1, .ref q2, .ref q3]) := upd_same
  generalize upd H3 p (.lst [.str nm, .bl h, .ref q1, .ref q2, .ref q3]) = H4 at B4 u4 ⊢
  have B04 := B03.trans B4
  have B14 := (B2.trans B3).trans B4
  have B24 := B3.trans B4
  have w1 := B14.keep _ _ (by simp) u1
  have w2 := B24.keep _ _ (by simp) u2
  have w3 := B4.keep _ _ (by simp) u3
  have told : At [] H4 (toldD nm h L O R) (.ref p) := ⟨p, _, rfl, by simp, u4, _, _, rfl, rfl, _, _, rfl, rfl, _, _, rfl, ⟨q1, kvl, rfl, by simp, w1, al.mono B04⟩, _, _, rfl, ⟨q2, kvo, rfl, by simp, w2, ao.mono B04⟩, _, _, rfl, ⟨q3, xsr, rfl, by simp, w3, ar.mono B04⟩, rfl⟩
  -- due
  obtain ⟨kd, p1, p2, p3, kv1, kv2, xs3, rfl, _, hk, _, c1, l1, _, c2, l2, _, c3, l3⟩ := KD.parts (hv.mono B04)
  refine ⟨_, rfl, _, rfl, kd, _, 0, _, rfl, rfl, SqL.of hk, rfl, ?_⟩
  refine ⟨_, rfl, kd, _, 4, _, rfl, rfl, SqL.of hk, rfl, ?_⟩
  refine ⟨_, rfl, kd, _, 1, _, rfl, rfl, SqL.of hk, rfl, ?_⟩
  refine ⟨_, rfl, kd, _, 2, _, rfl, rfl, SqL.of hk, rfl, ?_⟩
  refine ⟨_, rfl, kd, _, 3, _, rfl, rfl, SqL.of hk, rfl, ?_⟩
  refine ⟨by show 5 ≤ sizeLine; decide, fun pd hpd => ?_⟩
  have B5 : But [] H4 (upd H4 pd (.lst [.str k.name, .bl k.hid, .ref p1, .ref p2, .ref p3])) := But.new hpd
  have u5 : (upd H4 pd (.lst [.str k.name, .bl k.hid, .ref p1, .ref p2, .ref p3])) pd = some (.lst [.str k.name, .bl k.hid, .ref p1, .ref p2, .ref p3]) := upd_same
  generalize upd H4 pd (.lst [.str k.name, .bl k.hid, .ref p1, .ref p2, .ref p3]) = H5 at B5 u5 ⊢
  have due : At [] H5 (dueD k) (.ref pd) := ⟨pd, _, rfl, by simp, u5, _, _, rfl, rfl, _, _, rfl, rfl, _, _, rfl, ⟨p1, kv1, rfl, by simp, B5.keep _ _ (by simp) c1, l1.mono B5⟩, _, _, rfl, ⟨p2, kv2, rfl, by simp, B5.keep _ _ (by simp) c2, l2.mono B5⟩, _, _, rfl,
    ⟨p3, xs3, rfl, by simp, B5.keep _ _ (by simp) c3, l3.mono B5⟩, rfl⟩
  refine ⟨toldD nm h L O R, dueD k, .ref p, .ref pd, rfl, (told.mono B5).z, due, lk, dp, fun H6 B6 => ?_⟩
  have B06 := (B04.trans B5).trans B6
  have B46 := B5.trans B6
  -- clear
  refine ⟨_, rfl, 2, rfl, _, _, rfl, SqL.of (B46.keep _ _ (by simp) u4), fun q hq => ?_⟩
  rw [show cutV [V.str nm, .bl h, .ref q1, .ref q2, .ref q3] (some 2) none = [.ref q1, .ref q2, .ref q3] from cutF2]
  have B7 : But [] H6 (upd H6 q (.lst [.ref q1, .ref q2, .ref q3])) := But.new hq
  have u7 : (upd H6 q (.lst [.ref q1, .ref q2, .ref q3])) q = some (.lst [.ref q1, .ref q2, .ref q3]) := upd_same
  generalize upd H6 q (.lst [.ref q1, .ref q2, .ref q3]) = H7 at B7 u7 ⊢
  have B07 := B06.trans B7
  have B47 := B46.trans B7
  have x1 := B47.keep _ _ (by simp) w1
  have x2 := B47.keep _ _ (by simp) w2
  have x3 := B47.keep _ _ (by simp) w3
  have n1 : q1 ≠ q := fun z => by rw [z, u7] at x1; cases x1
  have n2 : q2 ≠ q := fun z => by rw [z, u7] at x2; cases x2
  have f1 : H q1 = none := hq1
  have f2 : H q2 = none := B1.free hq2
  have f3 : H q3 = none := B02.free hq3
  have h3q : H6 q3 ≠ none := ne_none (B46.keep _ _ (by simp) w3)
  have n3 : q3 ≠ q := fun z => h3q (by rw [z]; exact hq)
  have m12 : q1 ≠ q2 := fun z => by rw [z] at u1; rw [u1] at hq2; cases hq2
  have m13 : q1 ≠ q3 := fun z => by rw [z] at x1; rw [x1] at x3; cases x3
  have m23 : q2 ≠ q3 := fun z => by rw [z] at x2; rw [x2] at x3; cases x3
  refine ⟨q, rfl, ⟨_, SqL.of u7⟩, for_list (K := K) (a := q) (xs := [.ref q1, .ref q2, .ref q3]) (fun i σ' H' => (∃ o4, σ' = [some (.ref a), some (.ref kd), some (.ref p), some (.bl true), o4]) ∧ (∃ k1, H' q1 = some (.dK k1)) ∧ (∃ k2, H' q2 = some (.dK k2)) ∧ (∃ k3, H' q3 = some (.lst k3)) ∧
      H' q = some (.lst [.ref q1, .ref q2, .ref q3]) ∧ But [q1, q2, q3] H7 H') ⟨⟨_, rfl⟩, ⟨_, x1⟩, ⟨_, x2⟩, ⟨_, x3⟩, u7, But.refl⟩ (fun i σ' H' _ z => SqL.of z.2.2.2.2.1) ?_ ?_⟩
  · rintro i x σ' H8 hx ⟨⟨o4, rfl⟩, ⟨k1, y1⟩, ⟨k2, y2⟩, ⟨k3, y3⟩, yq, B8⟩
    match i, hx with
    | 0, hx =>
      cases hx
      exact ⟨q1, rfl, .inl ⟨k1, y1, ⟨_, rfl⟩, ⟨_, upd_same⟩, ⟨k2, by rw [upd_ne (Ne.symm m12)]; exact y2⟩, ⟨k3, by rw [upd_ne (Ne.symm m13)]; exact y3⟩, by rw [upd_ne (Ne.symm n1)]; exact yq, B8.upd (.inl (by simp))⟩⟩
    | 1, hx =>
      cases hx
      exact ⟨q2, rfl, .inl ⟨k2, y2, ⟨_, rfl⟩, ⟨k1, by rw [upd_ne m12]; exact y1⟩, ⟨_, upd_same⟩, ⟨k3, by rw [upd_ne (Ne.symm m23)]; exact y3⟩, by rw [upd_ne (Ne.symm n2)]; exact yq, B8.upd (.inl (by simp))⟩⟩
    | 2, hx =>
      cases hx
      exact ⟨q3, rfl, .inr ⟨k3, y3, ⟨_, rfl⟩, ⟨k1, by rw [upd_ne m13]; exact y1⟩, ⟨k2, by rw [upd_ne m23]; exact y2⟩, ⟨_, upd_same⟩, by rw [upd_ne (Ne.symm n3)]; exact yq, B8.upd (.inl (by simp))⟩⟩
    | i + 3, hx => simp at hx
  · rintro σ' H8 ⟨⟨o4, rfl⟩, _, _, _, _, B8⟩
    refine ⟨_, rfl, fin_ H8 (B07.ofNews (fun x m => ?_) B8)⟩
    simp only [List.mem_cons, List.not_mem_nil, or_false] at m
    rcases m with rfl | rfl | rfl
    · exact f1
    · exact f2
    · exact f3
end Kb

set_option Elab.async false
set_option linter.all false
set_option maxRecDepth 100000
set_option maxHeartbeats 2000000
/-! Kb, 37: what a Kind keeps of parts that tell k is like k. -/
namespace Kb
open PySem PySem.Spec PyProof.Rows L2

mutual
def D.plain : D → Bool
  | .tup ds => decide (ds.length ≤ 1000) && D.plainL ds
  | .lst ds => decide (ds.length ≤ 1000) && D.plainL ds
  | .dct _ => false
  | .non => true
  | .bl _ => true
  | .int _ => true
  | .str _ => true
def D.plainL : List D → Bool
  | [] => true
  | d :: ds => D.plain d && D.plainL ds
end
mutual
theorem Like.refl : ∀ {d : D}, d.plain = true → Like d d
  | .non, _ => rfl
  | .bl _, _ => rfl
  | .int _, _ => rfl
  | .str _, _ => rfl
  | .tup ds, h => by
    obtain ⟨a, b⟩ := Bool.and_eq_true_iff.mp (show (decide (ds.length ≤ 1000) && D.plainL ds) = true from h)
    exact ⟨ds, rfl, of_decide_eq_true a, LikeL.refl b⟩
  | .lst ds, h => by
    obtain ⟨a, b⟩ := Bool.and_eq_true_iff.mp (show (decide (ds.length ≤ 1000) && D.plainL ds) = true from h)
    exact ⟨ds, rfl, of_decide_eq_true a, LikeL.refl b⟩
theorem LikeL.refl : ∀ {ds : List D}, D.plainL ds = true → LikeL ds ds
  | [], _ => rfl
  | d :: ds, h => by
    obtain ⟨a, b⟩ := Bool.and_eq_true_iff.mp (show (D.plain d && D.plainL ds) = true from h)
    exact ⟨d, ds, rfl, Like.refl a, LikeL.refl b⟩
end
theorem plain_flats : ∀ {ds : List D}, ds.all D.isFlat = true → D.plainL ds = true
  | [], _ => rfl
  | d :: ds, h => by
    rw [List.all_cons] at h
    obtain ⟨a, b⟩ := Bool.and_eq_true_iff.mp h
    show (D.plain d && D.plainL ds) = true
    rw [plain_flats b]
    cases d <;> first | rfl | cases a
theorem plain_nm {ys : List Str} (h : ys.length ≤ 1000) : (nmD ys).plain = true := by
  show (decide ((ys.map D.str).length ≤ 1000) && D.plainL (ys.map D.str)) = true
  rw [List.length_map, decide_eq_true h, plain_flats (by rw [List.all_map]; exact List.all_eq_true.mpr fun _ _ => rfl)]
  rfl
theorem plain_rule {r : Rule} (h : r.names.length ≤ 1000) : r.d.plain = true := by
  rw [r.d_eq]
  have f := r.rest_flat
  show (decide (_ ≤ 1000) && ((D.str r.form).plain && ((nmD r.names).plain && D.plainL r.rest))) = true
  rw [plain_nm h, plain_flats f.1, decide_eq_true (by simp; omega)]
  rfl
theorem likeP_of {kds : List (Str × D)} : ∀ {kes : List (Str × D)}, (∀ x ∈ kes, ∃ d, kds.lookup x.1 = some d ∧ Like d x.2) → LikeP kds kes
  | [], _ => trivial
  | (k, e) :: es, h => ⟨h (k, e) (by simp), likeP_of fun x m => h x (by simp [m])⟩
theorem lookup_of {n : Str} : ∀ {l : List (Str × D)}, n ∈ keysD l → ∃ d, l.lookup n = some d
  | [], m => by simp [keysD] at m
  | (k, e) :: l, m => by
    rw [List.lookup_cons]
    by_cases z : n = k
    · exact ⟨e, by rw [beq_iff_eq.mpr z]⟩
    · have m' : n ∈ keysD l := by
        have : n ∈ k :: keysD l := m
        exact (List.mem_cons.mp this).resolve_left z
      obtain ⟨d, q⟩ := lookup_of m'
      exact ⟨d, by rw [beq_eq_false_iff_ne.mpr z]; exact q⟩
theorem nodup_key {α : Type} : ∀ {l : List (Str × α)} {n : Str} {x y : α}, (l.map (·.1)).Nodup → (n, x) ∈ l → (n, y) ∈ l → x = y
  | [], _, _, _, _, h, _ => by cases h
  | (k, z) :: l, n, x, y, nd, h1, h2 => by
    have nd' := List.nodup_cons.mp (show (k :: l.map (·.1)).Nodup from nd)
    rcases List.mem_cons.mp h1 with e1 | m1
    · rcases List.mem_cons.mp h2 with e2 | m2
      · cases e1
        cases e2
        rfl
      · cases e1
        exact absurd (List.mem_map.mpr ⟨_, m2, rfl⟩) nd'.1
    · rcases List.mem_cons.mp h2 with e2 | m2
      · cases e2
        exact absurd (List.mem_map.mpr ⟨_, m1, rfl⟩) nd'.1
      · exact nodup_key nd'.2 m1 m2
theorem listOut_get {R : D → D → Prop} {ds es : List D} (h : ListOut R ds es) : ∀ (i : Nat) (d : D), ds[i]? = some d → ∃ e, es[i]? = some e ∧ R d e := by
  induction h with
  | nil => intro i d e; simp at e
  | @snoc ds es d e ho hr ih =>
    intro i d' hd
    have ln := ho.length
    by_cases hi : i < ds.length
    · rw [List.getElem?_append_left hi] at hd
      obtain ⟨e', a, b⟩ := ih i d' hd
      exact ⟨e', by rw [List.getElem?_append_left (by omega)]; exact a, b⟩
    · have hi2 : i = ds.length := by
        have := (List.getElem?_eq_some_iff.mp hd).1
        rw [List.length_append, List.length_singleton] at this
        omega
      rw [List.getElem?_append_right (by omega), hi2, Nat.sub_self] at hd
      cases hd
      exact ⟨e, by rw [List.getElem?_append_right (by omega), hi2, ln, Nat.sub_self]; rfl, hr⟩
theorem kept_rules {k : KD} {L O : List (Str × D)} {R : List D} {L' O' : List (Str × D)} {R' : List D} (kp : Kept L O (.lst R) L' O' R') (t : Tells k L O R) (so : ∀ r ∈ k.rules, sortedS r.names = true) : R' = k.rules.map Rule.d := by
  have e1 : R'.length = R.length := kp.rules.length
  refine List.ext_getElem? fun i => ?_
  rw [List.getElem?_map]
  cases hr : k.rules[i]? with
  | none =>
    have := List.getElem?_eq_none_iff.mp hr
    rw [List.getElem?_eq_none (by rw [e1, t.rl]; exact this)]
    rfl
  | some r =>
    have hi := (List.getElem?_eq_some_iff.mp hr).1
    have hi2 : i < R.length := by rw [t.rl]; exact hi
    obtain ⟨e, he, f, ns, rest, ys, it, ed, pm, sd⟩ := listOut_get kp.rules i R[i] (List.getElem?_eq_getElem hi2)
    obtain ⟨n, ms, s1, s2, mp⟩ := t.r i r R[i] hr (List.getElem?_eq_getElem hi2)
    rw [s1.items.2] at it
    cases it
    rw [s2.items.2, strsOf_map] at pm
    have eq : ys = r.names := sorted_same (pm.trans mp) sd (so r (List.mem_of_getElem? hr))
    rw [he, ed, eq, ← r.d_eq]
    rfl
theorem kept_like {k : KD} {L O : List (Str × D)} {R : List D} {L' O' : List (Str × D)} {R' : List D} (g : KdGood k) (t : Tells k L O R) (kp : Kept L O (.lst R) L' O' R') : Like (toldD k.name k.hid L' O' R') (dueD k) := by
  obtain ⟨kinds, asked, rn, ok, hrn, hkn, han, hand⟩ := g.ex
  have lnd : k.lks.Nodup := ok.lk.nd
  have sub := ok.own.sub
  have ond : (k.own.map (·.1)).Nodup := (hand.sublist (List.take_sublist ..)).sublist sub
  have ol : k.own.length ≤ 5 := by
    have e2 := sub.length_le
    rw [List.length_map, List.length_take] at e2
    omega
  have ll : k.links.length ≤ 2 := by
    have := ok.lk.len
    rw [List.length_map] at this
    exact this
  have er := kept_rules kp t fun r m => (ok.ro r m).1.so
  subst er
  have pR : D.plainL (k.rules.map Rule.d) = true := by
    have : ∀ l : List Rule, (∀ r ∈ l, r.names.length ≤ 1000) → D.plainL (l.map Rule.d) = true := fun l => by
      induction l with
      | nil => exact fun _ => rfl
      | cons a b ih =>
        intro h
        show (D.plain a.d && D.plainL (b.map Rule.d)) = true
        rw [plain_rule (h a (by simp)), ih fun r m => h r (by simp [m])]
        rfl
    exact this _ fun r m => Nat.le_trans (ok.ro r m).1.len (by decide)
  have hL : Like (.dct L') (.dct (linkD k.links)) := by
    refine ⟨L', rfl, ?_, by rw [keys_map]; exact lnd, by rw [List.length_map]; omega, fun n m => ?_, likeP_of fun x m => ?_⟩
    · rw [keys_map]
      exact kp.links.perm.trans t.lp
    · rw [keys_map] at m
      exact ok_name (ok.lk.nm n m)
    · obtain ⟨⟨n, ys⟩, hp, rfl⟩ := List.mem_map.mp m
      have nm : n ∈ keysD L' := (kp.links.perm.trans t.lp).mem_iff.mpr (List.mem_map.mpr ⟨_, hp, rfl⟩)
      obtain ⟨e, he⟩ := lookup_of nm
      obtain ⟨d0, h0, zs, rfl, pm, sd⟩ := kp.links.ok _ (lookup_mem he)
      obtain ⟨ys', ms, h1, s1, mp⟩ := t.l _ (lookup_mem h0)
      have ey : ys' = ys := nodup_key lnd h1 hp
      subst ey
      rw [s1.items.2, strsOf_map] at pm
      have cho := ok.cho _ hp
      have ez : zs = ys' := sorted_same (pm.trans mp) sd cho.so
      subst ez
      exact ⟨_, he, Like.refl (plain_nm (Nat.le_trans cho.len (by decide)))⟩
  have hO : Like (.dct O') (.dct (ownD k.own)) := by
    refine ⟨O', rfl, ?_, by rw [keys_map]; exact ond, by rw [List.length_map]; omega, fun n m => ?_, likeP_of fun x m => ?_⟩
    · rw [keys_map]
      exact kp.own.perm.trans t.op
    · rw [keys_map] at m
      exact ok_name (han n (List.mem_of_mem_take (sub.subset m)))
    · obtain ⟨⟨n, o⟩, hp, rfl⟩ := List.mem_map.mp m
      have nm : n ∈ keysD O' := (kp.own.perm.trans t.op).mem_iff.mpr (List.mem_map.mpr ⟨_, hp, rfl⟩)
      obtain ⟨e, he⟩ := lookup_of nm
      obtain ⟨d0, h0, h0e⟩ := kp.own.ok _ (lookup_mem he)
      have h0e : e = .tup d0.items := h0e
      subst h0e
      obtain ⟨o', h1, s1⟩ := t.o _ (lookup_mem h0)
      have eo : o' = o := nodup_key ond h1 hp
      subst eo
      rw [s1.items.2] at he
      obtain ⟨ds, ed, fl⟩ := o'.d_tup
      refine ⟨_, he, ?_⟩
      show Like (.tup o'.d.items) o'.d
      rw [ed]
      refine Like.refl ?_
      show (decide (ds.length ≤ 1000) && D.plainL ds) = true
      have : ds.length ≤ 2 := by
        cases o' <;> (cases ed; simp)
      rw [decide_eq_true (by omega), plain_flats fl]
      rfl
  have hR : Like (.lst (k.rules.map Rule.d)) (.lst (k.rules.map Rule.d)) := by
    have := ok.rl
    exact Like.refl (by
      show (decide ((k.rules.map Rule.d).length ≤ 1000) && D.plainL (k.rules.map Rule.d)) = true
      rw [List.length_map, decide_eq_true (by omega), pR]
      rfl)
  exact ⟨_, rfl, by simp, _, _, rfl, rfl, _, _, rfl, rfl, _, _, rfl, hL, _, _, rfl, hO, _, _, rfl, hR, rfl⟩
theorem dpL_le {n : Nat} : ∀ {ds : List D}, (∀ d ∈ ds, d.dp ≤ n) → D.dpL ds ≤ n
  | [], _ => Nat.zero_le _
  | d :: ds, h => by
    rw [D.dpL]
    exact Nat.max_le.mpr ⟨h d (by simp), dpL_le fun x m => h x (by simp [m])⟩
theorem dpP_le {n : Nat} : ∀ {ds : List (Str × D)}, (∀ x ∈ ds, x.2.dp ≤ n) → D.dpP ds ≤ n
  | [], _ => Nat.zero_le _
  | (k, d) :: ds, h => by
    rw [D.dpP]
    exact Nat.max_le.mpr ⟨h (k, d) (by simp), dpP_le fun x m => h x (by simp [m])⟩
theorem dp_flat' {d : D} (h : d.isFlat = true) : d.dp = 0 := by cases d <;> first | rfl | cases h
theorem dp_nm {ys : List Str} : (nmD ys).dp ≤ 1 := by
  show D.dpL (ys.map D.str) + 1 ≤ 1
  have : D.dpL (ys.map D.str) ≤ 0 := dpL_le fun d m => by
    obtain ⟨z, _, rfl⟩ := List.mem_map.mp m
    exact Nat.le_refl _
  omega
theorem dp_rule {r : Rule} : r.d.dp ≤ 2 := by
  rw [r.d_eq]
  have : D.dpL (.str r.form :: nmD r.names :: r.rest) ≤ 1 := dpL_le fun d m => by
    rcases List.mem_cons.mp m with rfl | m
    · exact Nat.zero_le _
    · rcases List.mem_cons.mp m with rfl | m
      · exact dp_nm
      · rw [dp_flat' (List.all_eq_true.mp r.rest_flat.1 d m)]
        exact Nat.zero_le _
  show D.dpL _ + 1 ≤ 2
  omega
theorem due_dp {k : KD} : (dueD k).dp < 6 := by
  have a : D.dpP (linkD k.links) ≤ 1 := dpP_le fun x m => by
    obtain ⟨p, _, rfl⟩ := List.mem_map.mp m
    exact dp_nm
  have b : D.dpP (ownD k.own) ≤ 1 := dpP_le fun x m => by
    obtain ⟨p, _, rfl⟩ := List.mem_map.mp m
    obtain ⟨ds, ed, fl⟩ := p.2.d_tup
    show p.2.d.dp ≤ 1
    rw [ed]
    have : D.dpL ds ≤ 0 := dpL_le fun d m => by
      rw [dp_flat' (List.all_eq_true.mp fl d m)]
      exact Nat.le_refl _
    show D.dpL ds + 1 ≤ 1
    omega
  have c : D.dpL (k.rules.map Rule.d) ≤ 2 := dpL_le fun d m => by
    obtain ⟨r, _, rfl⟩ := List.mem_map.mp m
    exact dp_rule
  have : D.dpL [.str k.name, .bl k.hid, .dct (linkD k.links), .dct (ownD k.own), .lst (k.rules.map Rule.d)] ≤ 3 := dpL_le fun d m => by
    simp only [List.mem_cons, List.not_mem_nil, or_false] at m
    rcases m with rfl | rfl | rfl | rfl | rfl
    · exact Nat.zero_le _
    · exact Nat.zero_le _
    · show D.dpP _ + 1 ≤ 3
      omega
    · show D.dpP _ + 1 ≤ 3
      omega
    · show D.dpL _ + 1 ≤ 3
      omega
  show D.dpL _ + 1 < 6
  omega
end Kb

set_option Elab.async false
set_option linter.all false
set_option maxRecDepth 100000
set_option maxHeartbeats 1000000
/-! Kb, 38: own operators: x in o, x not in o. -/
namespace Kb
open PySem PySem.Spec PyProof.Rows L2

/-- x in o by o's own __contains__ -/
def rInK (neg : Bool) (C : Addr) (sp : Sp) (E : XK) : R2 := fun x y H Q => ∃ a dx fs, y = .ref a ∧ H a = some (.ins C dx fs) ∧ sp [.ref a, x] H (fun v H' => ∃ b : Bool, v = .bl b ∧ Q (.bl (if neg then !b else b)) H') E
section
variable {X : Cx} {CX : CXT} {k : Nat} {C f : Addr} {fd : FuncData} {ps : List Str} {sp : Sp} {E : XK}
theorem op_inK (hs : PySem.W.findIn X.K (.ref C) "__contains__" = some (some (.ref f))) (hf : PySem.W.isFn X.K (.ref f) = true) (F : FnOk X.prog X.w X.K X.mg X.base CX k f fd ps sp) (hr : Room k X.A) (hb : Binds X.K fd ps []) (hx : Passes CX X E) :
    OpR X (compareOp .In) (rInK false C sp E) := by
  intro pins s σ H x y v u Q I rx ry h
  obtain ⟨a, dx, fs, rfl, ea, h⟩ := h
  obtain rfl : u = Value.ref a := ry
  obtain ⟨mA, J, _⟩ := ins_get I.hok ea
  obtain ⟨od, J, _⟩ := J.look
  obtain ⟨m, hF⟩ := I.fr
  refine PySem.W.in_K hF I.ok.mod.kin J hs hf (thn (run_fn (dvs := []) (ds := []) (vs := [.ref a, x]) (us := [.ref a, v]) F hr hb .nil hx I (.cons rfl (.cons rx .nil)) h) fun r s1 ⟨w, H1, I1, rw', b, e, q⟩ => ?_)
  subst e
  obtain rfl : r = Value.bool b := rw'
  exact wpAny_truthy_bool ⟨.bl b, H1, I1, rfl, q⟩
theorem op_notInK (hs : PySem.W.findIn X.K (.ref C) "__contains__" = some (some (.ref f))) (hf : PySem.W.isFn X.K (.ref f) = true) (F : FnOk X.prog X.w X.K X.mg X.base CX k f fd ps sp) (hr : Room k X.A) (hb : Binds X.K fd ps []) (hx : Passes CX X E) :
    OpR X (compareOp .NotIn) (rInK true C sp E) := by
  intro pins s σ H x y v u Q I rx ry h
  obtain ⟨a, dx, fs, rfl, ea, h⟩ := h
  obtain rfl : u = Value.ref a := ry
  obtain ⟨mA, J, _⟩ := ins_get I.hok ea
  obtain ⟨od, J, _⟩ := J.look
  obtain ⟨m, hF⟩ := I.fr
  refine PySem.W.notIn_K hF I.ok.mod.kin J hs hf (thn (run_fn (dvs := []) (ds := []) (vs := [.ref a, x]) (us := [.ref a, v]) F hr hb .nil hx I (.cons rfl (.cons rx .nil)) h) fun r s1 ⟨w, H1, I1, rw', b, e, q⟩ => ?_)
  subst e
  obtain rfl : r = Value.bool b := rw'
  exact wpAny_truthy_bool ⟨.bl (!b), H1, I1, rfl, q⟩
/-- x == y by x's own __eq__, both of one class -/
def rEqK (C : Addr) (sp : Sp) (E : XK) : R2 := fun x y H Q => ∃ a b dx dy fs gs, x = .ref a ∧ y = .ref b ∧ H a = some (.ins C dx fs) ∧ H b = some (.ins C dy gs) ∧ sp [.ref a, .ref b] H (fun v H' => ∃ t : Bool, v = .bl t ∧ Q (.bl t) H') E
theorem op_eqK (hs : PySem.W.findIn X.K (.ref C) "__eq__" = some (some (.ref f))) (hf : PySem.W.isFn X.K (.ref f) = true) (F : FnOk X.prog X.w X.K X.mg X.base CX k f fd ps sp) (hr : Room k X.A) (hb : Binds X.K fd ps []) (hx : Passes CX X E) :
    OpR X (compareOp .Eq) (rEqK C sp E) := by
  intro pins s σ H x y v u Q I rx ry h
  obtain ⟨a, b, dx, dy, fs, gs, rfl, rfl, ea, eb, h⟩ := h
  obtain rfl : v = Value.ref a := rx
  obtain rfl : u = Value.ref b := ry
  obtain ⟨mA, J, _⟩ := ins_get I.hok ea
  obtain ⟨mB, J', _⟩ := ins_get I.hok eb
  obtain ⟨od, J, _⟩ := J.look
  obtain ⟨od', J', _⟩ := J'.look
  obtain ⟨m, hF⟩ := I.fr
  show wpAny (model X.prog X.w) X.A (richCompare .Eq (.ref a) (.ref b)) (EP X pins σ Q) X.xe s
  refine PySem.W.cmp_K (op := .Eq) (tb := .ref C) hr.units0 hF I.ok.mod.kin J J'.type (by simp [PySem.W.notFirst]) hs hf (thn (run_fn (dvs := []) (ds := []) (vs := [.ref a, .ref b]) (us := [.ref a, .ref b]) F hr hb .nil hx I (.cons rfl (.cons rfl .nil)) h) fun r s1 ⟨w, H1, I1, rw', t, e, q⟩ => ?_)
  subst e
  obtain rfl : r = Value.bool t := rw'
  exact ⟨.bl t, H1, I1, rfl, q⟩
/-- o[y] by o's own __getitem__ -/
def rIxK (C : Addr) (sp : Sp) (E : XK) : R2 := fun x y H Q => ∃ a dx fs, x = .ref a ∧ H a = some (.ins C dx fs) ∧ sp [.ref a, y] H Q E
theorem pe_ixK {ae be : Expr} {pos : Pos} {ta tb : TE} (hs : PySem.W.findIn X.K (.ref C) "__getitem__" = some (some (.ref f))) (hf : PySem.W.isFn X.K (.ref f) = true) (hn : PySem.W.fnIn X.K f = true) (F : FnOk X.prog X.w X.K X.mg X.base CX k f fd ps sp) (hr : Room (k + 1) X.A) (hb : Binds X.K fd ps []) (hx : Passes CX X E)
    (ha : PE X ae ta) (hbe : PE X be tb) (hsl : ∀ (a : Addr) (u : Value), subscripted be true (.ref a) u = runValue (.builtin "lifetime.subscript" ⟨[.ref a, u], []⟩) := by (intro _ _; with_unfolding_all rfl)) : PE X (.Subscript ae be pos) (tOp (rIxK C sp E) ta tb) := by
  refine ⟨fun pins s σ H Q I h => ?_⟩
  refine Subscript_ (binT ha hbe I h fun v u s x y H I rx ry h => ?_)
  obtain ⟨a, dx, fs, rfl, ea, h⟩ := h
  obtain rfl : v = Value.ref a := rx
  obtain ⟨mA, J, _⟩ := ins_get I.hok ea
  obtain ⟨od, J, _⟩ := J.look
  obtain ⟨m, hF⟩ := I.fr
  have hl : ([Value.ref a, u] ++ []).length = ps.length := by
    rw [← F.len _ _ _ _ h]
    rfl
  refine PySem.W.sub_K hF I.ok.mod.kin J hs hn hf (wpAny_call (codeAny_mono (F.run X.A.in1 X.stack s H ⟨[.ref a, u], []⟩ [.ref a, u] [.ref a, y] Q E hr.in1 I.env0.in1 (hb s [.ref a, u] I.kIn hl) (.cons rfl (.cons ry .nil)) h) fun r s' hq => ?_)) (hsl a u)
  cases r with
  | error e => exact hx pins σ H s e s' I hq
  | ok fl =>
    cases fl with
    | ret w => exact I.after hq
    | next => exact False.elim hq
    | brk => exact False.elim hq
    | cont => exact False.elim hq
end
end Kb

set_option Elab.async false
set_option linter.all false
set_option maxRecDepth 100000
set_option maxHeartbeats 1000000
/-! Kb, 39: == of dicts and lists whose values are tuples of plain data. -/
namespace Kb
open PySem PySem.Spec PyProof.Rows L2

/-- two values are equal data, at most n deep -/
inductive SameV (H : Hp) : Nat → V → V → Prop
  | flat {n : Nat} {v : V} : flatB v = true → SameV H n v v
  | tup {n : Nat} {a b : Addr} {xs ys : List V} : H a = some (.tup xs) → H b = some (.tup ys) → xs.length = ys.length → (∀ (i : Nat) (v y : V), xs[i]? = some v → ys[i]? = some y → SameV H n v y) → SameV H (n + 1) (.ref a) (.ref b)
  | lst {n : Nat} {a b : Addr} {xs ys : List V} : H a = some (.lst xs) → H b = some (.lst ys) → xs.length = ys.length → (∀ (i : Nat) (v y : V), xs[i]? = some v → ys[i]? = some y → SameV H n v y) → SameV H (n + 1) (.ref a) (.ref b)
section
variable {X : Cx} {pins : List (Addr × Obj)} {σ : L2.St} {H : Hp} {s : Shared}
theorem vals_get {xs : List V} {us : List Value} (h : Vals xs us) {i : Nat} {u : Value} (e : us[i]? = some u) : ∃ x, xs[i]? = some x ∧ RelV x u := by
  induction h generalizing i with
  | nil => cases e
  | cons r1 _ ih =>
    cases i with
    | zero =>
      cases e
      exact ⟨_, rfl, r1⟩
    | succ i => exact ih e
theorem all_true {l : List Nat} : (l.all fun _ => true) = true := by simp
theorem SameV.tree (I : Inv X pins σ H s) {n : Nat} {v y : V} (h : SameV H n v y) : ∀ {u w : Value}, RelV v u → RelV y w → PySem.W.EqTree X.prog X.w s n u w true := by
  induction h with
  | flat f => exact fun r r' => .leaf fun A _ => eqAt_same r r' f
  | @tup n a b xs ys ha hb hl _ ih =>
    intro u w r r'
    obtain rfl : u = Value.ref a := r
    obtain rfl : w = Value.ref b := r'
    by_cases e : a = b
    · rw [e]; exact .same
    obtain ⟨ia, ra, ta, _⟩ := I.tuple (SqT.of ha)
    obtain ⟨ib, rb, tb, _⟩ := I.tuple (SqT.of hb)
    have sz : ia.toArray.size = ib.toArray.size := by
      have h1 := Paired.length ra
      have h2 := Paired.length rb
      simp
      omega
    have q := PySem.W.EqTree.tuples (prog := X.prog) (w := X.w) (n := n) (e := fun _ => true) e ta tb fun j h1 h2 => by
      obtain ⟨x, ex, rx⟩ := vals_get ra (i := j) (u := ia.toArray[j]) (by simp at h1; simp [h1])
      obtain ⟨z, ez, rz⟩ := vals_get rb (i := j) (u := ib.toArray[j]) (by simp at h2; simp [h2])
      exact ih j x z ex ez rx rz
    rw [all_true, Bool.true_and, sz, beq_self_eq_true] at q
    exact q
  | @lst n a b xs ys ha hb hl _ ih =>
    intro u w r r'
    obtain rfl : u = Value.ref a := r
    obtain rfl : w = Value.ref b := r'
    by_cases e : a = b
    · rw [e]; exact .same
    obtain ⟨ia, ra, ta, _⟩ := I.list (SqL.of ha)
    obtain ⟨ib, rb, tb, _⟩ := I.list (SqL.of hb)
    have sz : ia.toArray.size = ib.toArray.size := by
      have h1 := Paired.length ra
      have h2 := Paired.length rb
      simp
      omega
    have q := PySem.W.EqTree.lists (prog := X.prog) (w := X.w) (n := n) (e := fun _ => true) e ta.isList tb.isList sz fun j h1 h2 => by
      obtain ⟨x, ex, rx⟩ := vals_get ra (i := j) (u := ia.toArray[j]) (by simp at h1; simp [h1])
      obtain ⟨z, ez, rz⟩ := vals_get rb (i := j) (u := ib.toArray[j]) (by simp at h2; simp [h2])
      exact ih j x z ex ez rx rz
    rw [all_true] at q
    exact q
end
/-- d == e for dicts of equal data wherever both have the key -/
def rEqN : R2 := fun x y H Q => ∃ a b ks ls, x = .ref a ∧ y = .ref b ∧ H a = some (.dK ks) ∧ H b = some (.dK ls) ∧ (∀ k v z, (k, v) ∈ ks → valV ls k = some z → SameV H 30 v z) ∧ Q (.bl (ks.length == ls.length && ks.all fun p => (valV ls p.1).isSome)) H
/-- xs == ys for lists of unlike lengths, or of equal data -/
def rEqS : R2 := fun x y H Q => ∃ a b xs ys, x = .ref a ∧ y = .ref b ∧ H a = some (.lst xs) ∧ H b = some (.lst ys) ∧ (xs.length = ys.length → ∀ (i : Nat) (v z : V), xs[i]? = some v → ys[i]? = some z → SameV H 30 v z) ∧ Q (.bl (xs.length == ys.length)) H
section
variable {X : Cx}
theorem relO_isSome {o : Option V} {u : Option Value} (h : RelO o u) : u.isSome = o.isSome := by
  cases o with
  | none => cases u with
    | none => rfl
    | some _ => exact (h : False).elim
  | some _ => cases u with
    | none => exact (h : False).elim
    | some _ => rfl
theorem kv_mem {kvs : List (Key × V)} {vs : List (Key × Value)} (h : KV kvs vs) {k : Key} {u : Value} (m : (k, u) ∈ vs) : ∃ v, (k, v) ∈ kvs ∧ RelV v u := by
  unfold KV at h
  induction h with
  | nil => cases m
  | @cons p q ps qs h t ih =>
    rcases List.mem_cons.mp m with e | m
    · subst e
      obtain ⟨h1, h2⟩ := h
      obtain ⟨k', v'⟩ := p
      obtain rfl : k' = k := h1
      exact ⟨v', List.mem_cons_self, h2⟩
    · obtain ⟨v, a, b⟩ := ih m
      exact ⟨v, List.mem_cons_of_mem _ a, b⟩
theorem kv_all {ks : List (Key × V)} {va : List (Key × Value)} (ra : KV ks va) {f g : Key → Bool} (h : ∀ k, f k = g k) : (va.all fun p => f p.1) = ks.all fun p => g p.1 := by
  unfold KV at ra
  induction ra with
  | nil => rfl
  | @cons p q ps qs h1 t ih =>
    obtain ⟨e, _⟩ := h1
    rw [List.all_cons, List.all_cons, ih, h, ← e]
theorem op_eqN (hu : X.A.units + 64 < cLine) : OpR X (compareOp .Eq) rEqN := by
  intro pins s σ H x y v u Q I rx ry h
  obtain ⟨a, b, ks, ls, rfl, rfl, ea, eb, hp, q⟩ := h
  obtain rfl : v = Value.ref a := rx
  obtain rfl : u = Value.ref b := ry
  obtain ⟨_, ya, va, ra, da⟩ := (show ObjOk X.prog X.w H s.heap a (.dK ks) from I.hok a _ ea)
  obtain ⟨_, yb, vb, rb, db⟩ := (show ObjOk X.prog X.w H s.heap b (.dK ls) from I.hok b _ eb)
  have e1 : (va.length == vb.length) = (ks.length == ls.length) := by rw [← ra.length, ← rb.length]
  have e2 : (va.all fun p => (valueAt vb p.1).isSome && true) = ks.all fun p => (valV ls p.1).isSome := kv_all (f := fun k => (valueAt vb k).isSome && true) (g := fun k => (valV ls k).isSome) ra fun k => by rw [Bool.and_true, relO_isSome (rb.val k)]
  refine PySem.W.eq_dictsT (n := 30) (e := fun _ => true) ya yb da db (fun k w z m hz => ?_) (by omega) ?_
  · obtain ⟨v, mv, rv⟩ := kv_mem ra m
    have r := rb.val k
    rw [hz] at r
    cases e : valV ls k with
    | none => rw [e] at r; exact (r : False).elim
    | some t =>
      rw [e] at r
      exact (hp k v t mv e).tree I rv r
  · rw [e1, e2]
    exact ⟨.bl _, H, I, rfl, q⟩
theorem op_eqS (hu : X.A.units + 64 < cLine) : OpR X (compareOp .Eq) rEqS := by
  intro pins s σ H x y v u Q I rx ry h
  obtain ⟨a, b, xs, ys, rfl, rfl, ea, eb, hp, q⟩ := h
  obtain rfl : v = Value.ref a := rx
  obtain rfl : u = Value.ref b := ry
  obtain ⟨ia, ra, ta, _⟩ := I.list (SqL.of ea)
  obtain ⟨ib, rb, tb, _⟩ := I.list (SqL.of eb)
  have l1 := Paired.length ra
  have l2 := Paired.length rb
  by_cases e : xs.length = ys.length
  · have sz : ia.toArray.size = ib.toArray.size := by
      simp
      omega
    refine PySem.W.eq_listsT (n := 30) (e := fun _ => true) ta.isList tb.isList sz (fun j h1 h2 => ?_) (by omega) ?_
    · obtain ⟨x, ex, rx⟩ := vals_get ra (i := j) (u := ia.toArray[j]) (by simp at h1; simp [h1])
      obtain ⟨z, ez, rz⟩ := vals_get rb (i := j) (u := ib.toArray[j]) (by simp at h2; simp [h2])
      exact (hp e j x z ex ez).tree I rx rz
    · rw [all_true]
      rw [e, beq_self_eq_true] at q
      exact ⟨.bl _, H, I, rfl, q⟩
  · have sz : (ia.toArray.size != ib.toArray.size) = true := by
      simp
      omega
    have q' : Q (.bl false) H := by
      rw [show (xs.length == ys.length) = false by simp [e]] at q
      exact q
    exact PySem.SeqAt.RcAt.lists_lengths ta.isList tb.isList sz (by omega) X.prog X.w _ _ ⟨.bl _, H, I, rfl, q'⟩
end
end Kb

set_option Elab.async false
set_option linter.all false
set_option maxRecDepth 100000
set_option maxHeartbeats 1000000
/-! Kb, 40: an own error whose __init__ calls that of its own base class (which has none, and takes ValueError's). -/
namespace Kb
open PySem PySem.Spec PyProof.Rows L2

/-- what the written part says of an own error class without __init__, whose __init__ is called by name -/
structure BaseC (K : PySem.W.Frag) (B : Addr) : Prop where
  rd : PySem.W.readsIn K B (.type "type") = true
  sp : PySem.W.specialIn K (.ref B) "__getattribute__" = some (some (.builtin "type.__getattribute__"))
  ini : PySem.W.findCls K (.ref B) (.type "type") "__init__" = some (.val (.builtin "ValueError.__init__"))
section
variable {X : Cx} {o e : Expr} {es : List Expr} {ta : TA} {x : Str} {B : Addr} {p p1 p2 pos : Pos}
theorem pe_baseinit {pl : Sem Bool} (hg : Gl X x) (hm : X.mg x = some (.ref B)) (T0 : BaseC X.K B) (ha : PA X (e :: es) ta) (hdb : (x == ("__debug__" : Str)) = false := by decide)
    (hc : eval (.Call (.Attribute (.Name x p1) "__init__" p2) (e :: es) [] pos) X.env = (do
      let ov ← eval (.Name x p1) X.env
      standAt p2.atName
      let (f, first) ← holding [ov] (getMethod ov "__init__" pl)
      callWith pos f first (backTo pos (starEach (e :: es) X.env)) (backToKw pos (keywordEach [] X.env))) := by rfl)
    (he : starEach (e :: es) X.env = (false, eval e X.env) :: starEach es X.env := by rfl) (hpl : (backTo pos (starEach es X.env)).any (·.1) = false := by rfl) :
    PE X (.Call (.Attribute (.Name x p1) "__init__" p2) (e :: es) [] pos) (tVeI X.K ta) := by
  refine ⟨fun pins s σ H Q I h => ?_⟩
  refine PySem.W.methodCall_KW (ld_glob I hg hm ?_ hdb) hc
  refine PySem.W.method_cls I.kIn T0.sp (PySem.W.cls_value I.kIn T0.rd T0.ini (by decide +kernel) ?_)
  have I0 := I.tok (s.toks + 1)
  show wpAny _ _ (callWith pos (Value.builtin "ValueError.__init__") [] (backTo pos (starEach (e :: es) X.env)) []) _ _ _
  refine PyProof.Rows.callWith_method1 (thn (ha.run pos pins _ σ H _ I0 h) fun us s1 ⟨vs, H1, J, r1, a, C, ws, ev, lw, T, ea, q⟩ => ?_) he hpl
  subst ev
  cases r1 with
  | @cons _ u0 _ ur ra rw' =>
    cases (show u0 = Value.ref a from ra)
    have small : ur.length ≤ sizeLine := by
      have := Paired.length rw'
      rw [sizeLine_eq]
      omega
    exact oinit_ok T J ea small fun s' J' => ⟨.non, H1, J', rfl, q⟩
end
end Kb

set_option Elab.async false
set_option linter.all false
set_option maxRecDepth 100000
set_option maxHeartbeats 1000000
/-! Kb, 41: NoName(name); kind[name]; kind == kind. -/
namespace Kb
open PySem PySem.Spec PyProof.Rows L2

/-- the class NoName -/
abbrev NC (K : PySem.W.Frag) : Addr := He.ga K "NoName"
structure NoNameC (K : PySem.W.Frag) : Prop where
  ox : OexC K (NC K)
  no : PySem.W.findIn K (.ref (NC K)) "what" = some none
def sp_NoName_init (K : PySem.W.Frag) : Sp := fun vs H Q _ => ∃ (a : Addr) (x : V), vs = [.ref a, x] ∧ NoNameC K ∧ H a = some (exo a (NC K) none) ∧
  ∀ dx, H dx = none → dx ≠ a → Q .non (upd (upd H dx (exd dx [("what", x)])) a (exo a (NC K) (some dx)))
theorem len_NoName_init {K : PySem.W.Frag} {vs : List V} {H : Hp} {Q : VK} {E : XK} (h : sp_NoName_init K vs H Q E) : vs.length = 2 := by
  obtain ⟨a, x, rfl, _⟩ := h
  rfl
def t_NoName_init (K : PySem.W.Frag) : TS :=
  (tSeq (tDrop (tVeI K (tCons (tVar 0) (tCons (tC (.str ("this is not a name that can stand here" : Str))) tNil)))) (tOst K "what" (tVar 0) (tVar 1)))
theorem pure_NoName_init {K : PySem.W.Frag} (vs : List V) (H : Hp) (Q : VK) (E : XK) (h : sp_NoName_init K vs H Q E) : t_NoName_init K (fin Q) (st0 2 vs) H := by
  obtain ⟨a, x, rfl, N, e, k⟩ := h
  refine ⟨_, rfl, a, NC K, [V.str ("this is not a name that can stand here" : Str)], rfl, by simp, N.ox, e, ?_⟩
  exact ⟨_, rfl, _, rfl, a, NC K, rfl, N.ox, N.no, .inl ⟨e, fun dx h1 h2 => k dx h1 h2⟩⟩
/-- raise NoName(x) -/
def tRaiseN (K : PySem.W.Frag) (ta : TA) (E : XK) : TS := fun _ σ H => tMkO (NC K) (sp_NoName_init K) [] ta σ H fun cls d H' => E cls d H'
theorem do_raise {K : PySem.W.Frag} {E : XK} {D : Ends} {σ : L2.St} {H : Hp} {x : V} {i : Nat} (N : NoNameC K) (hx : σ[i]? = some (some x)) (k : ∀ d, H d = none → E (.ref (NC K)) (some d) (upd H d (.xd [("what", x)]))) : tRaiseN K (tCons (tVar i) tNil) E D σ H := by
  refine ⟨_, hx, by simp, fun a ha => ⟨a, x, rfl, N, upd_same, fun dx hd ne => ⟨rfl, dx, [("what", x)], upd_same, ?_, ?_, ?_⟩⟩⟩
  · rw [upd_ne ne]
    exact upd_same
  · rw [upd_ne ne] at hd
    exact hd
  · rw [upd_ne ne] at hd
    have e : upd (del (upd (upd (upd H a (exo a (NC K) none)) dx (exd dx [("what", x)])) a (exo a (NC K) (some dx))) a) dx (.xd [("what", x)]) = upd H dx (.xd [("what", x)]) := by
      funext b
      by_cases c : b = dx
      · rw [c, upd_same, upd_same]
      · rw [upd_ne c, upd_ne c]
        by_cases c2 : b = a
        · rw [c2, del_same]
          exact ha.symm
        · rw [del_ne c2, upd_ne c2, upd_ne c, upd_ne c2]
    rw [e]
    exact k dx hd

/-- kind[name], both ways -/
def sp_Kind_getitem (K : PySem.W.Frag) : Sp := fun vs H Q E => ∃ (a dx o : Addr) (fs : List (Str × V)) (d : D) (x : V) (O : List (Str × D)) (kvs : List (Key × V)), vs = [.ref a, x] ∧ Cls K (KC K) ∧ NoAttr K (KC K) "own_table" ∧ NoNameC K ∧
  H a = some (.ins (KC K) dx fs) ∧ fs.lookup ("own_table" : Str) = some (V.ref o) ∧ H o = some (.dK kvs) ∧ kvs.map (·.1) = O.map (fun p => (Sum.inr p.1 : Key)) ∧ AtZ H d x ∧
  (isLinkD d O = true → ∀ n v, d = .str n → valV kvs (.inr n) = some v → Q v H) ∧ (isLinkD d O = false → ∀ p, H p = none → E (.ref (NC K)) (some p) (upd H p (.xd [("what", x)])))
theorem len_Kind_getitem {K : PySem.W.Frag} {vs : List V} {H : Hp} {Q : VK} {E : XK} (h : sp_Kind_getitem K vs H Q E) : vs.length = 2 := by
  obtain ⟨_, _, _, _, _, _, _, _, rfl, _⟩ := h
  rfl
def t_Kind_getitem (E : XK) (K : PySem.W.Frag) : TS :=
  (tSeq (tIfS (tOr (tNot (tB (tCB (rIsi K) (tCons (tVar 1) (tCons (tC (.ty "str")) tNil))))) (tB (tDNotIn (tVar 1) (tFld K (tVar 0) "own_table"))))
    (tRaiseN K (tCons (tVar 1) tNil) E)
    tNext)
  (tRet (tDGet (tFld K (tVar 0) "own_table") (tVar 1))))
theorem pure_Kind_getitem {K : PySem.W.Frag} (vs : List V) (H : Hp) (Q : VK) (E : XK) (h : sp_Kind_getitem K vs H Q E) : t_Kind_getitem E K (fin Q) (st0 2 vs) H := by
  obtain ⟨a, dx, o, fs, d, x, O, kvs, rfl, c, n, N, e, lk, ho, hk, hx, q1, q2⟩ := h
  refine ⟨_, rfl, x, _, _, _, d.isStr, rfl, .ty _, hx.ty, kit_str, _, rfl, ?_⟩
  cases hs : d.isStr with
  | false =>
    have : isLinkD d O = false := by cases d <;> first | rfl | (cases hs; done)
    refine iteT ?_
    refine iteT ?_
    refine do_raise N ?_ (q2 this)
    rfl
  | true =>
    obtain ⟨z, rfl⟩ : ∃ z, d = .str z := by cases d <;> first | exact ⟨_, rfl⟩ | (cases hs; done)
    obtain rfl : x = .str z := hx
    refine ⟨_, rfl, _, rfl, a, KC K, dx, fs, _, rfl, e, c, n, lk, o, _, rfl, .inl ⟨kvs, .inr z, .inl ho, rfl, rfl⟩, ?_⟩
    have hv := valV_some (z := z) hk
    by_cases m : z ∈ keysD O
    · rw [decide_eq_true m] at hv
      have g : (!(valV kvs (Sum.inr z : Key)).isSome) = false := by rw [hv]; rfl
      refine ⟨_, rfl, ?_⟩
      rw [g]
      refine iteF ?_
      obtain ⟨v, ev⟩ := Option.isSome_iff_exists.mp hv
      exact ⟨_, rfl, a, KC K, dx, fs, _, rfl, e, c, n, lk, _, rfl, o, v, rfl, .inl ⟨kvs, .inr z, .inl ho, rfl, ev.symm⟩, q1 (decide_eq_true m) z v rfl ev⟩
    · rw [decide_eq_false m] at hv
      have g : (!(valV kvs (Sum.inr z : Key)).isSome) = true := by rw [hv]; rfl
      refine ⟨_, rfl, ?_⟩
      rw [g]
      refine iteT ?_
      refine do_raise N ?_ (q2 (decide_eq_false m))
      rfl
end Kb

set_option Elab.async false
set_option linter.all false
set_option maxRecDepth 100000
set_option maxHeartbeats 1000000
/-! Kb, 42: kind == kind. -/
namespace Kb
open PySem PySem.Spec PyProof.Rows L2

mutual
theorem SameV.of {M M' : List Addr} {H : Hp} : ∀ {d : D} {n : Nat} {v z : V}, d.plain = true → d.dp ≤ n → At M H d v → At M' H d z → SameV H n v z
  | .non, _, _, _, _, _, h, h' => by cases h; cases h'; exact .flat rfl
  | .bl _, _, _, _, _, _, h, h' => by cases h; cases h'; exact .flat rfl
  | .int _, _, _, _, _, _, h, h' => by cases h; cases h'; exact .flat rfl
  | .str _, _, _, _, _, _, h, h' => by cases h; cases h'; exact .flat rfl
  | .tup ds, n, _, _, p, q, h, h' => by
    obtain ⟨a, xs, rfl, _, ha, la⟩ := h
    obtain ⟨b, ys, rfl, _, hb, lb⟩ := h'
    obtain ⟨_, pl⟩ := Bool.and_eq_true_iff.mp (show (decide (ds.length ≤ 1000) && D.plainL ds) = true from p)
    have hn : D.dpL ds + 1 ≤ n := q
    obtain ⟨m, rfl⟩ : ∃ m, n = m + 1 := ⟨n - 1, by omega⟩
    exact .tup ha hb (la.length.trans lb.length.symm) (SameV.ofL pl (by omega) la lb)
  | .lst ds, n, _, _, p, q, h, h' => by
    obtain ⟨a, xs, rfl, _, ha, la⟩ := h
    obtain ⟨b, ys, rfl, _, hb, lb⟩ := h'
    obtain ⟨_, pl⟩ := Bool.and_eq_true_iff.mp (show (decide (ds.length ≤ 1000) && D.plainL ds) = true from p)
    have hn : D.dpL ds + 1 ≤ n := q
    obtain ⟨m, rfl⟩ : ∃ m, n = m + 1 := ⟨n - 1, by omega⟩
    exact .lst ha hb (la.length.trans lb.length.symm) (SameV.ofL pl (by omega) la lb)
  | .dct _, _, _, _, p, _, _, _ => by cases p
theorem SameV.ofL {M M' : List Addr} {H : Hp} : ∀ {ds : List D} {n : Nat} {xs ys : List V}, D.plainL ds = true → D.dpL ds ≤ n → AtL M H ds xs → AtL M' H ds ys → ∀ (i : Nat) (v z : V), xs[i]? = some v → ys[i]? = some z → SameV H n v z
  | [], _, _, _, _, _, h, _, i, v, z, e, _ => by
    cases (show _ = [] from h)
    cases e
  | d :: ds, n, _, _, p, q, h, h', i, v, z, e, e' => by
    obtain ⟨x, r, rfl, h1, h2⟩ := h
    obtain ⟨x', r', rfl, h1', h2'⟩ := h'
    obtain ⟨p1, p2⟩ := Bool.and_eq_true_iff.mp (show (D.plain d && D.plainL ds) = true from p)
    have hq : max (D.dp d) (D.dpL ds) ≤ n := q
    cases i with
    | zero =>
      cases e
      cases e'
      exact SameV.of p1 (by omega) h1 h1'
    | succ i => exact SameV.ofL p2 (by omega) h2 h2' i v z e e'
end
/-- plain and not deep -/
structure Low (d : D) : Prop where
  pl : d.plain = true
  dp : d.dp ≤ 30
/-- where both have a key, they have the same there -/
def EqOk (L L' : List (Str × D)) : Prop := ∀ k d d', (k, d) ∈ L → L'.lookup k = some d' → d = d' ∧ Low d
def keysB (L L' : List (Str × D)) : Bool := L.length == L'.length && L.all fun p => decide (p.1 ∈ keysD L')
theorem do_eqN {A A' : List Addr} {H : Hp} {L L' : List (Str × D)} {x y : V} {Q : VK} (hx : At A H (.dct L) x) (hy : At A' H (.dct L') y) (k : EqOk L L') (q : Q (.bl (keysB L L')) H) : rEqN x y H Q := by
  obtain ⟨a, ks, rfl, _, ha, la⟩ := hx
  obtain ⟨b, ls, rfl, _, hb, lb⟩ := hy
  refine ⟨a, b, ks, ls, rfl, rfl, ha, hb, fun key v z m hz => ?_, ?_⟩
  · obtain ⟨i, e⟩ := List.mem_iff_getElem?.mp m
    obtain ⟨n, d, e1, rfl, hd⟩ := la.get e
    have s := valV_some (z := n) lb.keys
    rw [hz] at s
    obtain ⟨d', v', l1, l2, l3⟩ := lb.val (of_decide_eq_true s.symm)
    rw [l2] at hz
    cases hz
    obtain ⟨rfl, lo⟩ := k n d d' (List.mem_of_getElem? e1) l1
    exact SameV.of lo.pl lo.dp hd l3
  · have e1 : (ks.length == ls.length) = (L.length == L'.length) := by rw [la.length, lb.length]
    have e2 : (ks.all fun p => (valV ls p.1).isSome) = L.all fun p => decide (p.1 ∈ keysD L') := by
      have h1 : (ks.all fun p => (valV ls p.1).isSome) = (ks.map (·.1)).all fun x => (valV ls x).isSome := by rw [List.all_map]; rfl
      rw [h1, la.keys, List.all_map]
      congr 1
      funext p
      exact valV_some lb.keys
    rw [e1, e2]
    exact q
theorem do_eqS {A A' : List Addr} {H : Hp} {R R' : List D} {x y : V} {Q : VK} (hx : At A H (.lst R) x) (hy : At A' H (.lst R') y) (k : R.length = R'.length → R = R' ∧ D.plainL R = true ∧ D.dpL R ≤ 30) (q : Q (.bl (R.length == R'.length)) H) : rEqS x y H Q := by
  obtain ⟨a, xs, rfl, _, ha, la⟩ := hx
  obtain ⟨b, ys, rfl, _, hb, lb⟩ := hy
  refine ⟨a, b, xs, ys, rfl, rfl, ha, hb, fun e i v z ev ez => ?_, ?_⟩
  · obtain ⟨rfl, pl, dp⟩ := k (by rw [← la.length, ← lb.length]; exact e)
    exact SameV.ofL pl dp la lb i v z ev ez
  · rw [la.length, lb.length]
    exact q

/-- what isinstance(o, Kind) asks of the class -/
structure KindI (K : PySem.W.Frag) : Prop where
  kc : KindC K
  cl : PySem.W.findIn K (.ref (KC K)) "__class__" = some (some (.builtin "object.__class__"))
  gt : PySem.W.specialIn K (.builtin "object.__class__") "__get__" = some (some (.builtin "getset_descriptor.__get__"))
  tk : PySem.W.takesIn K (.builtin "object.__class__") = some true
  mr : PySem.W.mroIn K (KC K) (.type "object") = some true
  ki : PySem.W.kitOne K (.ref (KC K)) (.ref (KC K)) = some true
/-- the parts of two Kinds that are compared -/
structure EqK (L O : List (Str × D)) (R : List D) (L' O' : List (Str × D)) (R' : List D) : Prop where
  l : EqOk L L'
  o : EqOk O O'
  r : R.length = R'.length → R = R' ∧ D.plainL R = true ∧ D.dpL R ≤ 30
def sp_Kind_eq (K : PySem.W.Frag) : Sp := fun vs H Q _ => ∃ (a b : Addr) (nm nm' : Str) (L O L' O' : List (Str × D)) (R R' : List D) (h h' : Bool), vs = [.ref a, .ref b] ∧ KindI K ∧ KOb K [] H a nm L O R h ∧ KOb K [] H b nm' L' O' R' h' ∧ EqK L O R L' O' R' ∧
  Q (.bl (decide (nm = nm') && (keysB L L' && (keysB O O' && (R.length == R'.length && decide (h = h')))))) H
theorem len_Kind_eq {K : PySem.W.Frag} {vs : List V} {H : Hp} {Q : VK} {E : XK} (h : sp_Kind_eq K vs H Q E) : vs.length = 2 := by
  obtain ⟨_, _, _, _, _, _, _, _, _, _, _, _, rfl, _⟩ := h
  rfl
def t_Kind_eq (K : PySem.W.Frag) : TS :=
  (tRet (tAndV (tCB (rIsi K) (tCons (tVar 1) (tCons (tC (.ref (He.ga K "Kind"))) tNil))) (tAndV (tOp rEq (tFld K (tVar 0) "kind_name") (tFld K (tVar 1) "kind_name")) (tAndV (tOp rEqN (tFld K (tVar 0) "link_table") (tFld K (tVar 1) "link_table")) (tAndV (tOp rEqN (tFld K (tVar 0) "own_table") (tFld K (tVar 1) "own_table")) (tAndV (tOp rEqS (tFld K (tVar 0) "rule_list") (tFld K (tVar 1) "rule_list")) (tOp rEq (tFld K (tVar 0) "is_hidden") (tFld K (tVar 1) "is_hidden"))))))))
theorem pure_Kind_eq {K : PySem.W.Frag} (vs : List V) (H : Hp) (Q : VK) (E : XK) (h : sp_Kind_eq K vs H Q E) : t_Kind_eq K (fin Q) (st0 2 vs) H := by
  obtain ⟨a, b, nm, nm', L, O, L', O', R, R', h, h', rfl, C, ⟨dx, l, o, r, _, ea, hl, ho, hr⟩, ⟨dy, l', o', r', _, eb, hl', ho', hr'⟩, k, q⟩ := h
  have c := C.kc.cls
  refine ⟨_, rfl, .ref b, .ref (KC K), _, _, true, rfl, .own _, .base (.ins eb c C.cl C.gt C.tk C.mr), C.ki, _, rfl, ?_⟩
  refine iteT ?_
  refine ⟨_, rfl, a, KC K, dx, _, .str nm, rfl, ea, c, C.kc.n1, rfl, _, rfl, b, KC K, dy, _, .str nm', rfl, eb, c, C.kc.n1, rfl, rfl, _, rfl, ?_⟩
  have e1 : decide (V.str nm = V.str nm') = decide (nm = nm') := decide_eq_decide.mpr ⟨fun z => V.str.inj z, fun z => by rw [z]⟩
  rw [e1]
  cases g1 : decide (nm = nm') with
  | false =>
    refine iteF ?_
    rw [g1] at q
    exact q
  | true =>
  rw [g1, Bool.true_and] at q
  refine iteT ?_
  refine ⟨_, rfl, a, KC K, dx, _, l, rfl, ea, c, C.kc.n2, rfl, _, rfl, b, KC K, dy, _, l', rfl, eb, c, C.kc.n2, rfl, ?_⟩
  refine do_eqN hl hl' k.l ⟨_, rfl, ?_⟩
  cases g2 : keysB L L' with
  | false =>
    refine iteF ?_
    rw [g2] at q
    exact q
  | true =>
  rw [g2, Bool.true_and] at q
  refine iteT ?_
  refine ⟨_, rfl, a, KC K, dx, _, o, rfl, ea, c, C.kc.n3, rfl, _, rfl, b, KC K, dy, _, o', rfl, eb, c, C.kc.n3, rfl, ?_⟩
  refine do_eqN ho ho' k.o ⟨_, rfl, ?_⟩
  cases g3 : keysB O O' with
  | false =>
    refine iteF ?_
    rw [g3] at q
    exact q
  | true =>
  rw [g3, Bool.true_and] at q
  refine iteT ?_
  refine ⟨_, rfl, a, KC K, dx, _, r, rfl, ea, c, C.kc.n4, rfl, _, rfl, b, KC K, dy, _, r', rfl, eb, c, C.kc.n4, rfl, ?_⟩
  refine do_eqS hr hr' k.r ⟨_, rfl, ?_⟩
  cases g4 : (R.length == R'.length) with
  | false =>
    refine iteF ?_
    rw [g4] at q
    exact q
  | true =>
  rw [g4, Bool.true_and] at q
  refine iteT ?_
  refine ⟨_, rfl, a, KC K, dx, _, .bl h, rfl, ea, c, C.kc.n5, rfl, _, rfl, b, KC K, dy, _, .bl h', rfl, eb, c, C.kc.n5, rfl, rfl, ?_⟩
  have e5 : decide (V.bl h = V.bl h') = decide (h = h') := decide_eq_decide.mpr ⟨fun z => V.bl.inj z, fun z => by rw [z]⟩
  rw [e5]
  exact q
end Kb

set_option Elab.async false
set_option linter.all false
set_option maxRecDepth 100000
set_option maxHeartbeats 2000000
/-! Kb, 43: a list comprehension where an exception is handled; x in o there. -/
namespace Kb
open PySem PySem.Spec PyProof.Rows L2 L2H

abbrev blkH (X : Cx) (p : Addr × Obj) (s : Shared) (H : Hp) (scope : Scope) (cenv : Env) (fp : List Addr) : Cx := { X.blk s H scope cenv fp with pn := [p] }
section
variable {X : Cx} {pins : List (Addr × Obj)} {σ : L2.St} {H : Hp} {s : Shared}
theorem toHot {p : Addr × Obj} {scope : Scope} {ce : Env} {fp : List Addr} {τ : L2.St} {G : Hp} {t : Shared} (J : Inv (X.blk s H scope ce fp) [] τ G t)
    (h1 : t.heap.get? p.1 = some p.2) (h2 : G p.1 = none) (h3 : p.1 ≠ ce.locals) (h4 : p.1 ∉ frs X.stack) (h5 : ∀ v, p.2.data ≠ .cell v) : Inv (blkH X p s H scope ce fp) [] τ G t where
  ok := ⟨J.ok.mod, J.ok.kind, J.ok.glob, J.ok.blt, J.ok.above, J.ok.inj, J.ok.has, J.ok.cab, J.ok.hd, J.ok.frames, J.ok.stk, J.ok.exf, J.ok.bs, J.ok.bsz, J.ok.noex, J.ok.exfs, J.ok.funs, J.ok.frf⟩
  os := J.os
  bare := J.bare
  base := J.base
  loc := J.loc
  cell := J.cell
  free := J.free
  freeC := J.freeC
  pin := fun q hq => by
    have e : q = p := by simpa using hq
    subst e
    exact ⟨h1, h2, h3, h4, h5⟩
  hok := J.hok
  len := J.len
end
section
variable {X : Cx}
theorem pe_lcH {elt tg iter : Expr} {ifs : List Expr} {scope : Scope} {own : List (Str × Nat)} {pos : Pos} {wi : TI} {g : TG} {tt : TT} {te : TE} (hot : HotC X) (nd : X.N.Nodup) (hi : PIH X tg iter wi) (ok : BlkOk X.N X.env.scope scope own)
    (hg : ∀ (p : Addr × Obj) (s : Shared) (H : Hp) (C : Addr) (cl : List (Str × Addr)) (fp : List Addr), Hot1 X.A p → PG (blkH X p s H scope (compEnvC scope cl C X.env) fp) tg g)
    (ht : ∀ (p : Addr × Obj) (s : Shared) (H : Hp) (C : Addr) (cl : List (Str × Addr)) (fp : List Addr), Hot1 X.A p → PTs (blkH X p s H scope (compEnvC scope cl C X.env) fp) ifs tt)
    (he : ∀ (p : Addr × Obj) (s : Shared) (H : Hp) (C : Addr) (cl : List (Str × Addr)) (fp : List Addr), Hot1 X.A p → PE (blkH X p s H scope (compEnvC scope cl C X.env) fp) elt te)
    (hs : ∀ x, foldedSetIterable iter X.env x = pure x := by intro _; rfl) :
    PE X (.ListComp elt [⟨tg, iter, ifs, 0⟩] scope pos) (tLc wi g tt te (own.map (·.2))) := by
  refine ⟨fun pins s σ H Q I h => ?_⟩
  rw [eval_ListComp]
  obtain ⟨p, hp1, hp2⟩ := hot
  have P := I.pin p (List.mem_append_left _ hp2)
  have frees : ∀ y ∈ scope.names, y.2 = .free → ∃ c, X.env.cells.lookup y.1 = some c := fun y hy e => I.ok.has _ ((ok.free y hy e).elim .inl .inr)
  refine wpAny_comprehension_free rfl hs (closure_ok frees) ok.kind (fun y m z => by rw [ok.uniq y m, z]) ?_
  refine thn (hi.run pins s σ H _ I h) fun xv s1 hx => thn hx fun itv s2 got => ?_
  obtain ⟨it, fp, tn, J, H2, rfl, I2, T, z0, f2, q⟩ := got
  refine wpAny_newObj_type (newEnv_comp ?_) (by show 0 ≤ sizeLine; decide)
  obtain ⟨L, hL⟩ : ∃ L, s2.heap.objs.size = L := ⟨_, rfl⟩
  rw [hL]
  obtain ⟨W, ⟨m0, w0⟩, turn⟩ := q L (I2.hok.fresh (Nat.le_of_eq hL))
  obtain ⟨s3, e3⟩ : ∃ s3, ({ s2 with heap := s2.heap.push { cls := .type "list", data := .seq ([] : List Value).toArray } } : Shared) = s3 := ⟨_, rfl⟩
  rw [e3]
  have grow : ∀ b o, s2.heap.get? b = some o → s3.heap.get? b = some o := fun b o e => by
    rw [← e3]
    exact Heap.get?_push_of_some _ e
  have more : s2.heap.objs.size < s3.heap.objs.size := by
    rw [← e3]
    show _ < (Heap.push _ _).objs.size
    rw [Heap.size_push]
    exact Nat.lt_succ_self _
  have I3 : Inv X pins σ (upd H2 L (.lst [])) s3 := by
    rw [← e3]
    exact I2.laid (t' := s2.toks) (fun _ _ e => Heap.get?_push_of_some _ e) (Nat.le_of_eq hL) ⟨Nat.zero_le _, [], 0, .nil, by rw [← hL]; exact Heap.get?_push_size _ rfl⟩
  have P3 := I3.pin p (List.mem_append_left _ hp2)
  obtain ⟨H3, eH⟩ : ∃ H3, upd H2 L (.lst []) = H3 := ⟨_, rfl⟩
  rw [eH] at w0 I3 P3
  have old : ∀ b ∈ fp, b < s2.heap.objs.size := fun b hb => by
    obtain ⟨o, e, _⟩ := T.obj _ _ z0 b hb
    exact Heap.lt_size e
  have f3 : ∀ b ∈ fp, FpOk X pins H3 b ∧ b < s3.heap.objs.size := fun b hb => by
    have lt := old b hb
    refine ⟨⟨?_, (f2 b hb).2⟩, Nat.lt_trans lt more⟩
    rw [← eH, upd_ne (by rw [← hL]; exact Nat.ne_of_lt lt)]
    exact (f2 b hb).1
  have none3 : ∀ b ∈ fp, H3 b = none := fun b hb => (f3 b hb).1.1
  have z3 : tn 0 s3.heap := T.keep _ _ _ z0 fun b _ o e => grow b o e
  have B0 := block_start I3 ok nd f3
  have pg := hg p s3 H3 s3.heap.objs.size (cellsFrom (s3.heap.objs.size + 1) scope.names (cloFrom X.env.cells scope.names [])) fp hp1
  have pt := ht p s3 H3 s3.heap.objs.size (cellsFrom (s3.heap.objs.size + 1) scope.names (cloFrom X.env.cells scope.names [])) fp hp1
  have pe := he p s3 H3 s3.heap.objs.size (cellsFrom (s3.heap.objs.size + 1) scope.names (cloFrom X.env.cells scope.names [])) fp hp1
  have notin : p.1 ∉ frs X.stack := fun hm => (List.mem_cons.mp (I.stkSub p.1 hm)).elim P.2.2.1 P.2.2.2.1
  obtain ⟨ce, ec⟩ : ∃ ce, compEnvC scope (cellsFrom (s3.heap.objs.size + 1) scope.names (cloFrom X.env.cells scope.names [])) s3.heap.objs.size X.env = ce := ⟨_, rfl⟩
  rw [ec] at B0 pg pt pe
  have cL : ce.locals = s3.heap.objs.size := by
    rw [← ec]
    rfl
  have keep4 : ∀ b o, s3.heap.get? b = some o → (pushCells (s3.heap.push { cls := .type "dict", data := .dict #[] }) scope.names).get? b = some o := fun b o e => pushCells_keeps _ _ _ _ (Heap.get?_push_of_some _ e)
  have I4 : Inv (blkH X p s3 H3 scope ce fp) [] (wipe σ (own.map (·.2))) H3 { s3 with heap := pushCells (s3.heap.push { cls := .type "dict", data := .dict #[] }) scope.names } :=
    toHot B0 (keep4 _ _ P3.1) P3.2.1 (by rw [cL]; exact Nat.ne_of_lt (Heap.lt_size P3.1)) notin P3.2.2.2.2
  show codeAny _ _ (.compStart (.ListComp elt [⟨tg, iter, ifs, 0⟩] scope pos) 0 (.ref it) (.ref L) (compEnvC scope (cellsFrom (s3.heap.objs.size + 1) scope.names (cloFrom X.env.cells scope.names [])) s3.heap.objs.size X.env)) _ { s3 with heap := pushCells (s3.heap.push { cls := .type "dict", data := .dict #[] }) scope.names }
  rw [ec]
  obtain ⟨s4, e4⟩ : ∃ s4, ({ s3 with heap := pushCells (s3.heap.push { cls := .type "dict", data := .dict #[] }) scope.names } : Shared) = s4 := ⟨_, rfl⟩
  rw [e4] at I4 ⊢
  have z4 : tn 0 s4.heap := T.keep _ _ _ z3 fun b _ o e => by
    rw [← e4]
    exact keep4 b o e
  have hotB : HotC (blkH X p s3 H3 scope ce fp) := ⟨p, hp1, List.mem_cons_self⟩
  have still : ∀ {τ : L2.St} {G : Hp} {t : Shared}, Inv (blkH X p s3 H3 scope ce fp) [] τ G t → (∀ b ∈ fp, G b = none) → ∀ b ∈ fp, FpOk (blkH X p s3 H3 scope ce fp) [] G b := fun {τ G t} J' hn b hb =>
    ⟨hn b hb, (J'.ok.exf b hb).1, J'.ok.exfs b hb, .inl hb, fun x c e => (J'.ok.exf b hb).2 x c e, fun q hq => by
      have e : q = p := by simpa using hq
      subst e
      intro z
      obtain ⟨z1, _, _, _, z5, z6⟩ := (f3 b hb).1
      exact z6 q (List.mem_append_left _ hp2) z⟩
  have loop : codeAny (model X.prog X.w) X.A (.compLoop (.ListComp elt [⟨tg, iter, ifs, 0⟩] scope pos) 0 (.ref it) (.ref L) ce) (compPost (model X.prog X.w) X.A X.xe none (EP X pins σ Q) (.ref L) s3.heap.objs.size) s4 := by
    refine compLoop_any (fun n t => ∃ i G, Inv (blkH X p s3 H3 scope ce fp) [] (wipe σ (own.map (·.2))) G t ∧ tn i t.heap ∧ (∀ b ∈ fp, G b = none) ∧ W i n G) ?_ m0 ⟨0, H3, I4, z4, none3, w0⟩
    rintro n t5 ⟨i, G5, I5, z5, n5, w5⟩
    rcases turn i n G5 w5 with ⟨stop, fine⟩ | ⟨go, Nx, less, step⟩
    · refine thnF (T.done (blkH X p s3 H3 scope ce fp) rfl rfl rfl hotB i [] t5 _ G5 (fun _ _ => False) I5 (still I5 n5) z5 stop) fun r t6 ⟨er, I6⟩ => ?_
      subst er
      have I7 : Inv X pins σ G5 t6 := I3.call' (ch := fp) I6.os I6.base I6.hok I6.bare fun b hb => ⟨(f3 b hb).1.2.2.2.1, (f3 b hb).1.2.1, (f3 b hb).1.2.2.2.2.1, (f3 b hb).1.2.2.2.2.2⟩
      have nC : G5 s3.heap.objs.size = none := by
        have := I6.free
        rw [← cL]
        exact this
      obtain ⟨m, hm, _⟩ := I6.loc
      have hm : t6.heap.Ns ce.locals m := hm
      rw [cL] at hm
      refine ⟨m, hm, fun h'' sb => ?_⟩
      obtain ⟨f0, f1, f2, f3, f4, f5⟩ := I3.fpOk (Nat.le_refl _) nC
      exact ⟨.ref L, G5, I7.turned (t' := t6.toks) (fun b o hb e => (sb.2 b hb).trans e) f0 f1 f3 f4 f5, rfl, fine⟩
    · refine thnF (T.item (blkH X p s3 H3 scope ce fp) rfl rfl rfl hotB i [] t5 _ G5 (fun _ _ => False) I5 (still I5 n5) z5 go) fun r t6 ⟨u, er, h6⟩ => ?_
      subst er
      refine thnF h6 fun _ t7 ⟨x, G7, I7, r7, y7, z7, n7⟩ => ?_
      refine thnF (pg.run _ t7 _ G7 x u _ (I7.pinned (still I7 n7) (T.obj _ _ z7)) r7 (step x G7 y7)) fun _ t8 ⟨τ, G8, I8, same, q8⟩ => ?_
      refine thnF (pt.run _ t8 τ G8 _ I8 q8) fun b t9 ⟨G9, I9, q9⟩ => ?_
      have close : ∀ {t : Shared} {G : Hp}, Inv (blkH X p s3 H3 scope ce fp) ([] ++ pinsAt fp t7.heap) τ G t → Nx G → ∃ m, m < n ∧ ∃ i G, Inv (blkH X p s3 H3 scope ce fp) [] (wipe σ (own.map (·.2))) G t ∧ tn i t.heap ∧ (∀ b ∈ fp, G b = none) ∧ W i m G := fun {t G} J' nx => by
        obtain ⟨m', hm, w'⟩ := less G nx
        have held : ∀ b ∈ fp, ∀ o, t7.heap.get? b = some o → t.heap.get? b = some o ∧ G b = none := fun b hb o e =>
          let z := J'.pin (b, o) (List.mem_append_right _ (List.mem_append_right _ (mem_pinsAt hb e)))
          ⟨z.1, z.2.1⟩
        refine ⟨m', hm, i + 1, G, (J'.unpinned (pins := [])).weak (by rw [← same, wipe_length]) (fun j v e => ?_), T.keep _ _ _ z7 fun b hb o e => (held b hb o e).1, fun b hb => ?_, w'⟩
        · rw [← same] at e
          exact (wipe_some e).1
        · obtain ⟨o, e, _⟩ := T.obj _ _ z7 b hb
          exact (held b hb o e).2
      cases b with
      | false =>
        simp only [Bool.false_eq_true, if_false] at q9 ⊢
        exact close I9 q9
      | true =>
        simp only [if_true] at q9 ⊢
        refine thnF (pe.run _ t9 τ G9 _ I9 q9) fun z t10 ⟨yv, G10, I10, r10, acc, a1, a2, nx⟩ => ?_
        exact app_ok (X := blkH X p s3 H3 scope ce fp) I10 a1 a2 r10 fun t11 I11 => close I11 nx
  exact codeAny_compStart_list loop (T.self X.A 0 _ _ _ z4 loop)
end
section
variable {X : Cx} {CX : CXT} {k : Nat} {C f : Addr} {fd : FuncData} {ps : List Str} {sp : Sp} {E : XK}
/-- x in o by o's own __contains__, where an exception is handled -/
theorem op_inKH (hs : PySem.W.findIn X.K (.ref C) "__contains__" = some (some (.ref f))) (hf : PySem.W.isFn X.K (.ref f) = true) (F : FnH X.prog X.w X.K X.mg X.base CX k f fd ps sp) (hr : RoomH k X.A) (hc : HotC X) (hb : Binds X.K fd ps []) (hx : ∀ σ, PassesAt CX X σ E) :
    OpR X (compareOp .In) (rInK false C sp E) := by
  intro pins s σ H x y v u Q I rx ry h
  obtain ⟨a, dx, fs, rfl, ea, h⟩ := h
  cases (show u = Value.ref a from ry)
  obtain ⟨mA, O, _⟩ := ins_get I.hok ea
  obtain ⟨od, O, _⟩ := O.look
  obtain ⟨m, fr⟩ := I.fr
  refine PySem.W.in_K fr I.ok.mod.kin O hs hf (thn (run_fnH (E := fun _ => E) (vs := [.ref a, x]) (us := [.ref a, v]) F hr hc hb (hx σ) I (.cons rfl (.cons rx .nil)) h) fun r s1 ⟨w, G, J, rw', b, e, q⟩ => ?_)
  subst e
  cases (show r = Value.bool b from rw')
  exact wpAny_truthy_bool ⟨.bl b, G, J, rfl, q⟩
end
end Kb

set_option Elab.async false
set_option linter.all false
set_option maxRecDepth 100000
set_option maxHeartbeats 1000000
/-! Kb, 44: _law_like and x in kind where an exception is handled; _law_not_own. -/
namespace Kb
open PySem PySem.Spec PyProof.Rows L2 L2H

section
variable {P : Program} {w : World} {K : PySem.W.Frag} {mg : Str → Option Value} {base : Heap} {x qual : Str} {params : Arguments} {body : List Stmt} {scope : Scope} {dvs : List V} {kws : List (Str × V)} {f : Addr} {fd : FuncData}
/-- a def's promise where an exception is handled -/
theorem okHot {CX : CXT} {N ps : List Str} {k : Nat} {sp : Sp} (F : FunD K x qual params body scope dvs kws f fd) (S : FnScope N ps scope) (len : ∀ vs H Q E, sp vs H Q E → vs.length = ps.length)
    (hbody : ∀ (cdv : Value) (A : Around) (outer : List Env) (s : Shared) (H : Hp) (vs : List V) (Q : VK) (E : XK) (p : Addr × Obj), HotC (cxH CX P w K mg base N qual scope f cdv A outer s H E p) → RoomH k (A.deeper (envOfC qual scope s.heap.objs.size f cdv)) → sp vs H Q E →
      ∃ t, PSs (cxH CX P w K mg base N qual scope f cdv A outer s H E p) body t ∧ t { nx := fun _ H' => Q .non H', rt := Q } (L2.start N vs) H) : FnH P w K mg base CX (k + 1) f fd ps sp := by
  obtain ⟨_, _, _, _, _, _, _, _, _, _, rfl, lk, hcd, _, _⟩ := F.ex
  exact fn_ofH lk hcd S len fun A outer s H vs Q E p hot hr hsp => hbody _ A outer s H vs Q E p ⟨p, hot, List.mem_cons_self⟩ hr hsp
theorem noHot {CX : CXT} {ps : List Str} {sp : Sp} {k : Nat} (no : ∀ vs H Q E, ¬ sp vs H Q E) : FnH P w K mg base CX k f fd ps sp :=
  ⟨fun vs H Q E h => (no vs H Q E h).elim, fun _ _ _ _ _ _ _ _ _ _ _ _ _ _ _ _ h => (no _ _ _ _ h).elim⟩
end
/-- like data without dicts -/
def sp_lh (n : Nat) (K : PySem.W.Frag) : Sp := fun vs H Q _ => ∃ (d : D) (x y : V), vs = [x, y] ∧ AtZ H d x ∧ At [] H d y ∧ d.plain = true ∧ d.dp < n ∧ ∀ H', But [] H H' → Q (.bl true) H'
theorem len_lh {n : Nat} {K : PySem.W.Frag} {vs : List V} {H : Hp} {Q : VK} {E : XK} (h : sp_lh n K vs H Q E) : vs.length = 2 := by
  obtain ⟨_, _, _, rfl, _⟩ := h
  rfl
theorem no_lh {K : PySem.W.Frag} {vs : List V} {H : Hp} {Q : VK} {E : XK} : ¬ sp_lh 0 K vs H Q E := fun h => by
  obtain ⟨_, _, _, _, _, _, _, h, _⟩ := h
  omega
def t_lh (n : Nat) (K : PySem.W.Frag) : TS :=
  (tSeq (tIfS (tB (tCB (rIsi K) (tCons (tVar 1) (tCons (tC (.ty "dict")) tNil))))
    tNever
    tNext)
  (tSeq (tIfS (tB (tCB (rIsiT K) (tCons (tVar 1) (tCons (tTup (tCons (tC (.ty "list")) (tCons (tC (.ty "tuple")) tNil))) tNil))))
    (tSeq (tIfS (tOr (tNot (tB (tCB (rIsiT K) (tCons (tVar 0) (tCons (tTup (tCons (tC (.ty "list")) (tCons (tC (.ty "tuple")) tNil))) tNil))))) (tTest (tOp rNe (tCB (rIsi K) (tCons (tVar 0) (tCons (tC (.ty "list")) tNil))) (tCB (rIsi K) (tCons (tVar 1) (tCons (tC (.ty "list")) tNil))))))
    (tRet (tC (.bl false)))
    tNext)
  (tSeq (tIfS (tTest (tOp rNe (tCB (rLenA K) (tCons (tVar 0) tNil)) (tCB (rLenA K) (tCons (tVar 1) tNil))))
    (tRet (tC (.bl false)))
    tNext)
  (tRet (tOp (rEqD K) (tLc (iRng1 (tCons (tCB (rLenA K) (tCons (tVar 1) tNil)) tNil)) (gName 2) (tNot (tB (tCallS (sp_lh n K) (fun _ => E0) (tCons (tOp (rIx K) (tVar 0) (tVar 2)) (tCons (tOp (rIx K) (tVar 1) (tVar 2)) tNil))))) (tVar 2) [2]) (tLst tNil)))))
    tNext)
  (tSeq (tIfS (tTest (tOp rNe (tCB (rIsi K) (tCons (tVar 0) (tCons (tC (.ty "bool")) tNil))) (tCB (rIsi K) (tCons (tVar 1) (tCons (tC (.ty "bool")) tNil)))))
    (tRet (tC (.bl false)))
    tNext)
  (tRet (tAndV (tOp rEq (tCB (rIsi K) (tCons (tVar 0) (tCons (tC (.ty "int")) tNil))) (tCB (rIsi K) (tCons (tVar 1) (tCons (tC (.ty "int")) tNil)))) (tOp rEq (tVar 0) (tVar 1)))))))
theorem plain_memL : ∀ {ds : List D} {d : D}, D.plainL ds = true → d ∈ ds → d.plain = true
  | a :: ds, d, h, m => by
    obtain ⟨h1, h2⟩ := Bool.and_eq_true_iff.mp (show (D.plain a && D.plainL ds) = true from h)
    rcases List.mem_cons.mp m with e | m
    · rw [e]
      exact h1
    · exact plain_memL h2 m
theorem plain_item {d x : D} (h : d.plain = true) (m : x ∈ d.items) : x.plain = true := by
  cases d with
  | tup ds => exact plain_memL (Bool.and_eq_true_iff.mp (show (decide (ds.length ≤ 1000) && D.plainL ds) = true from h)).2 m
  | lst ds => exact plain_memL (Bool.and_eq_true_iff.mp (show (decide (ds.length ≤ 1000) && D.plainL ds) = true from h)).2 m
  | _ => cases m
theorem pure_lh {K : PySem.W.Frag} (n : Nat) (vs : List V) (H : Hp) (Q : VK) (E : XK) (h : sp_lh (n + 1) K vs H Q E) : t_lh n K (fin Q) (st0 3 vs) H := by
  obtain ⟨d, x, y, rfl, hx, hy, hp, hn, k⟩ := h
  have hl := Like.refl hp
  have hd : d.isDct = false := by cases d <;> first | rfl | cases hp
  refine ⟨_, rfl, y, _, _, _, d.isDct, rfl, .ty _, hy.ty, kit_dct, _, rfl, ?_⟩
  rw [hd]
  refine iteF ?_
  refine ⟨_, rfl, by show 2 ≤ sizeLine; decide, fun q1 hq1 => ?_⟩
  have B1 : But [] H (upd H q1 (.tup [.ty "list", .ty "tuple"])) := But.new hq1
  have u1 : (upd H q1 (.tup [.ty "list", .ty "tuple"])) q1 = some (.tup [.ty "list", .ty "tuple"]) := upd_same
  generalize upd H q1 (.tup [.ty "list", .ty "tuple"]) = H1 at B1 u1 ⊢
  have hx1 := hx.mono (Zm.but B1)
  have hy1 := hy.mono B1
  refine ⟨y, q1, _, _, _, d.isSeq, rfl, u1, .cons (.ty _) (.cons (.ty _) .nil), hy1.ty, kit_seq, _, rfl, ?_⟩
  cases hs : d.isSeq with
  | true =>
    refine iteT ?_
    refine ⟨_, rfl, by show 2 ≤ sizeLine; decide, fun q2 hq2 => ?_⟩
    have B2 : But [] H1 (upd H1 q2 (.tup [.ty "list", .ty "tuple"])) := But.new hq2
    have u2 : (upd H1 q2 (.tup [.ty "list", .ty "tuple"])) q2 = some (.tup [.ty "list", .ty "tuple"]) := upd_same
    generalize upd H1 q2 (.tup [.ty "list", .ty "tuple"]) = H2 at B2 u2 ⊢
    have hx2 := hx1.mono (Zm.but B2)
    have hy2 := hy1.mono B2
    have B02 := B1.trans B2
    refine ⟨x, q2, _, _, _, d.isSeq, rfl, u2, .cons (.ty _) (.cons (.ty _) .nil), hx2.ty, kit_seq, _, rfl, ?_⟩
    rw [hs]
    refine iteF ?_
    refine ⟨_, rfl, x, _, _, _, d.isLst, rfl, .ty _, hx2.ty, kit_lst, _, rfl, y, _, _, _, d.isLst, rfl, .ty _, hy2.ty, kit_lst, ?_⟩
    refine ⟨rfl, _, rfl, ?_⟩
    rw [decide_eq_true (rfl : V.bl d.isLst = V.bl d.isLst)]
    refine iteF ?_
    obtain ⟨p1, xs1, rfl, a1, z1⟩ := hx2.seq (K := K) hs
    obtain ⟨p2, xs2, rfl, a2, z2⟩ := hy2.seq (K := K) hs
    obtain ⟨_, l1000⟩ := like_seq hl hs
    have n1 := z1.length
    have n2 := z2.length
    refine ⟨_, rfl, _, xs1.length, rfl, a1.lenV, _, rfl, _, xs2.length, rfl, a2.lenV, rfl, _, rfl, ?_⟩
    rw [decide_eq_true (show V.int (xs1.length : Int) = V.int (xs2.length : Int) by rw [n1, n2])]
    refine iteF ?_
    refine ⟨_, rfl, _, xs2.length, rfl, a2.lenV, (xs2.length : Int), rfl, by omega, by omega, fun Dl hD => ?_⟩
    have uD : (upd H2 Dl (.lst [])) Dl = some (.lst []) := upd_same
    refine lc_it walk_range (fun i H' => H' Dl = some (.lst []) ∧ But [] H2 H') ⟨uD, But.new hD⟩ (fun _ _ _ _ => trivial) ?_ ?_
    · rintro i v H5 H6 hi ⟨q1', b5⟩ ⟨rfl, rfl⟩
      have hi2 : i < xs2.length := by simpa using hi
      have hi1 : i < xs1.length := by omega
      obtain ⟨d2, f1, f2⟩ := (z1.mono (Zm.but b5)).get (i := i) (x := xs1[i]) (by simp [hi1])
      obtain ⟨e2, g1, g2⟩ := (z2.mono b5).get (i := i) (x := xs2[i]) (by simp [hi2])
      refine ⟨wipe_one, ?_⟩
      refine ⟨_, rfl, _, rfl, (a1.but b5).ixR (i := i) (v := xs1[i]) (by simp [hi1]) (by omega) ?_⟩
      refine ⟨_, rfl, _, rfl, (a2.but b5).ixR (i := i) (v := xs2[i]) (by simp [hi2]) (by omega) ?_⟩
      obtain rfl : d2 = e2 := Option.some.inj (f1.symm.trans g1)
      refine ⟨d2, _, _, rfl, f2, g2, plain_item hp (List.mem_of_getElem? g1), ?_, fun H7 b7 => ⟨_, rfl, ?_⟩⟩
      · have := items_dp (List.mem_of_getElem? g1)
        omega
      · exact iteF ⟨b7.keep _ _ (by simp) q1', b5.trans b7⟩
    · rintro H5 ⟨q1', b5⟩
      refine ⟨sz0, fun q3 hq3 => ?_⟩
      exact eqE (xs := []) (by rw [upd_ne (ne_of_none q1' hq3)]; exact q1') rfl upd_same (k _ ((B02.trans b5).upd' hq3))
  | false =>
    refine iteF ?_
    have hf : d.isFlat = true := by cases d <;> first | rfl | (cases hs; done) | (cases hd; done)
    refine ⟨_, rfl, x, _, _, _, d.isBool, rfl, .ty _, hx1.ty, kit_bool, _, rfl, y, _, _, _, d.isBool, rfl, .ty _, hy1.ty, kit_bool, ?_⟩
    refine ⟨rfl, _, rfl, ?_⟩
    rw [decide_eq_true (rfl : V.bl d.isBool = V.bl d.isBool)]
    refine iteF ?_
    refine ⟨_, rfl, x, _, _, _, d.isInt, rfl, .ty _, hx1.ty, kit_int, _, rfl, y, _, _, _, d.isInt, rfl, .ty _, hy1.ty, kit_int, ?_⟩
    refine ⟨rfl, _, rfl, ?_⟩
    rw [decide_eq_true (rfl : V.bl d.isInt = V.bl d.isInt)]
    refine iteT ?_
    obtain ⟨exy, sc⟩ := flat_eq hl hf hx1 hy1
    refine ⟨_, rfl, _, rfl, sc, ?_⟩
    rw [decide_eq_true exy]
    exact k H1 B1
end Kb

set_option Elab.async false
set_option linter.all false
set_option maxRecDepth 100000
set_option maxHeartbeats 1000000
/-! Kb, 45: _law_not_own. -/
namespace Kb
open PySem PySem.Spec PyProof.Rows L2 L2H

/-- o[y] by o's own __getitem__, which may raise -/
def tIxS (C : Addr) (sp : Sp) (E : L2.St → XK) (ta tb : TE) : TE := fun σ H Q => ta σ H fun x H1 => tb σ H1 fun y H2 => ∃ a dx fs, x = .ref a ∧ H2 a = some (.ins C dx fs) ∧ sp [.ref a, y] H2 Q (E σ)
section
variable {X : Cx} {CX : CXT} {k : Nat} {C f : Addr} {fd : FuncData} {ps : List Str} {sp : Sp} {E : L2.St → XK}
theorem pe_ixS {ae be : Expr} {pos : Pos} {ta tb : TE} (hs : PySem.W.findIn X.K (.ref C) "__getitem__" = some (some (.ref f))) (hf : PySem.W.isFn X.K (.ref f) = true) (hn : PySem.W.fnIn X.K f = true) (F : FnOk X.prog X.w X.K X.mg X.base CX k f fd ps sp) (hr : Room (k + 1) X.A) (hb : Binds X.K fd ps []) (hx : ∀ σ, PassesAt CX X σ (E σ))
    (ha : PE X ae ta) (hbe : PE X be tb) (hsl : ∀ (a : Addr) (u : Value), subscripted be true (.ref a) u = runValue (.builtin "lifetime.subscript" ⟨[.ref a, u], []⟩) := by (intro _ _; with_unfolding_all rfl)) : PE X (.Subscript ae be pos) (tIxS C sp E ta tb) := by
  refine ⟨fun pins s σ H Q I h => ?_⟩
  have h : tOp (rIxK C sp (E σ)) ta tb σ H Q := h
  refine Subscript_ (binT ha hbe I h fun v u s x y H I rx ry h => ?_)
  obtain ⟨a, dx, fs, rfl, ea, h⟩ := h
  cases (show v = Value.ref a from rx)
  obtain ⟨mA, J, _⟩ := ins_get I.hok ea
  obtain ⟨od, J, _⟩ := J.look
  obtain ⟨m, hF⟩ := I.fr
  have hl : ([Value.ref a, u] ++ []).length = ps.length := by
    rw [← F.len _ _ _ _ h]
    rfl
  refine PySem.W.sub_K hF I.ok.mod.kin J hs hn hf (wpAny_call (codeAny_mono (F.run X.A.in1 X.stack s H ⟨[.ref a, u], []⟩ [.ref a, u] [.ref a, y] Q (E σ) hr.in1 I.env0.in1 (hb s [.ref a, u] I.kIn hl) (.cons rfl (.cons ry .nil)) h) fun r s' hq => ?_)) (hsl a u)
  cases r with
  | error e => exact hx σ pins H s e s' I hq
  | ok fl =>
    cases fl with
    | ret w => exact I.after hq
    | next => exact False.elim hq
    | brk => exact False.elim hq
    | cont => exact False.elim hq
end
/-- what the law asks of the class NoName, where it is caught -/
structure NoNameX (K : PySem.W.Frag) : Prop where
  nn : NoNameC K
  xf : XfC K (NC K)
  me : PySem.W.exmOne K (.ref (NC K)) (.ref (NC K)) = some true
def sp_l_not_own (K : PySem.W.Frag) : Sp := fun vs H Q _ => ∃ (a : Addr) (nm : Str) (L O : List (Str × D)) (R : List D) (h : Bool) (d : D) (x : V), vs = [.ref a, x] ∧ KindC K ∧ NoNameX K ∧ KOb K [] H a nm L O R h ∧ At [] H d x ∧ d.plain = true ∧ d.dp < 3 ∧ isLinkD d O = false ∧
  ∀ H', But [] H H' → Q (.bl true) H'
theorem len_l_not_own {K : PySem.W.Frag} {vs : List V} {H : Hp} {Q : VK} {E : XK} (h : sp_l_not_own K vs H Q E) : vs.length = 2 := by
  obtain ⟨_, _, _, _, _, _, _, _, rfl, _⟩ := h
  rfl
def ts_not_own (K : PySem.W.Frag) : Addr → Value → Option Addr → TS := fun a cls d =>
  tRet (tAndV (tCallS (sp_lh 3 K) (fun _ => E0) (tCons (tXf a cls d (NC K) "what" (tVar 2)) (tCons (tVar 1) tNil))) (tNotV (tOp (rInK false (KC K) (sp_Kind_contains K) E0) (tVar 1) (tVar 0))))
def tb_not_own (K : PySem.W.Frag) (W : WX) : TS := tDrop (tIxS (KC K) (sp_Kind_getitem K) (WE W) (tVar 0) (tVar 1))
def t_l_not_own (K : PySem.W.Frag) : TS :=
  (tSeq (fun D σ H => tb_not_own K (wAs K (.ref (NC K)) 2 (ts_not_own K) (fun _ _ _ _ => False) D) D σ H) (tRet (tC (.bl false))))
theorem pure_l_not_own {K : PySem.W.Frag} (vs : List V) (H : Hp) (Q : VK) (E : XK) (h : sp_l_not_own K vs H Q E) : t_l_not_own K (fin Q) (st0 3 vs) H := by
  obtain ⟨a, nm, L, O, R, hd, d, x, rfl, C, N, ⟨dx, l, o, r, _, ea, hl, ho, hr⟩, hx, pl, dp, no, k⟩ := h
  obtain ⟨po, ko, rfl, _, eo, lo⟩ := ho
  refine ⟨_, rfl, _, rfl, a, dx, _, rfl, ea, a, dx, po, _, d, x, O, ko, rfl, C.cls, C.n3, N.nn, ea, rfl, eo, lo.keys, hx.z, fun q => ?_, fun _ p hp => ?_⟩
  · rw [no] at q
    cases q
  · refine ⟨true, N.me, fun _ e he => ?_, fun q => nomatch q⟩
    have B : But [] H (upd H p (.xd [("what", x)])) := But.new hp
    have hx' := hx.mono B
    refine ⟨_, rfl, rfl, rfl, p, _, x, rfl, upd_same, rfl, _, rfl, d, x, x, rfl, hx'.z, hx', pl, dp, fun H' b => ⟨_, rfl, ?_⟩⟩
    refine iteT ?_
    have B' := B.trans b
    refine ⟨_, rfl, _, rfl, a, dx, _, rfl, B'.keep _ _ (by simp) ea, a, dx, po, _, d, x, O, ko, rfl, C.cls, C.n3, B'.keep _ _ (by simp) ea, rfl, B'.keep _ _ (by simp) eo, lo.keys, (hx.mono B').z, _, rfl, _, rfl, ?_⟩
    rw [no]
    exact k _ B'
end Kb

set_option Elab.async false
set_option linter.all false
set_option maxRecDepth 100000
set_option maxHeartbeats 2000000
/-! Kb, 46: _law_changed. -/
namespace Kb
open PySem PySem.Spec PyProof.Rows L2

/-- k' is k, one part of it changed -/
structure Chg (k k' : KD) : Prop where
  l : k'.links = k.links ∨ ∃ w, w ∉ k.lks ∧ k'.links = [(w, [("" : Str)])]
  o : k'.own = k.own ∨ k'.own = [] ∨ ∃ w, w ∉ k.own.map (·.1) ∧ k'.own = [(w, .self)]
  r : k'.rules = k.rules ∨ k'.rules = [] ∨ k'.rules = k.rules ++ [.bar []]
  ne : k'.name ≠ k.name ∨ (∃ w, w ∉ k.lks ∧ k'.links = [(w, [("" : Str)])]) ∨ (∃ w, w ∉ k.own.map (·.1) ∧ k'.own = [(w, .self)]) ∨ k'.rules = k.rules ++ [.bar []] ∨ k'.hid ≠ k.hid
theorem KdGood.rename {k : KD} (g : KdGood k) {w : Str} (h : IsName w) (b : Bool) : KdGood ⟨w, k.links, k.own, k.rules, b⟩ := by
  obtain ⟨kinds, asked, rn, ok, a⟩ := g.ex
  exact ⟨⟨kinds, asked, rn, ⟨ok.lk, ok.cho, ok.own, ok.rl, ok.ro⟩, a⟩, h⟩
theorem KdGood.link {k : KD} (g : KdGood k) {w : Str} (h : IsName w) : KdGood ⟨k.name, [(w, [("" : Str)])], [], [], k.hid⟩ := by
  have lk : Names 2 [w] := ⟨by simp, by simp, fun x m => by rw [List.mem_singleton.mp m]; exact h⟩
  have co : ChoOk [] [("" : Str)] := ⟨⟨by simp, by simp, by decide +kernel⟩, by simp, fun y m => .inr (List.mem_singleton.mp m)⟩
  have ok : KdOk [] [] 2 0 ⟨k.name, [(w, [("" : Str)])], [], [], k.hid⟩ := ⟨lk, fun p m => by rw [List.mem_singleton.mp m]; exact co, ⟨by simp, fun p m => (List.not_mem_nil m).elim⟩, Nat.le_refl _, fun r m => (List.not_mem_nil m).elim⟩
  exact ⟨⟨[], [], 0, ok, by omega, fun _ m => (List.not_mem_nil m).elim, fun _ m => (List.not_mem_nil m).elim, List.nodup_nil⟩, g.name⟩
theorem KdGood.self {k : KD} (g : KdGood k) {w : Str} (h : IsName w) : KdGood ⟨k.name, k.links, [(w, .self)], k.rules, k.hid⟩ := by
  obtain ⟨kinds, asked, rn, ok, hr, hk, ha, nd⟩ := g.ex
  have mem : ∀ n ∈ asked, n ∈ w :: asked.filter (fun x => decide (x ≠ w)) := fun n m => by
    by_cases e : n = w
    · exact List.mem_cons.mpr (.inl e)
    · exact List.mem_cons_of_mem _ (List.mem_filter.mpr ⟨m, decide_eq_true e⟩)
  refine ⟨⟨kinds, w :: asked.filter (fun x => decide (x ≠ w)), rn, ⟨ok.lk, ok.cho, ⟨by simp, fun p m => ?_⟩, ok.rl, fun r m => ?_⟩, hr, hk, fun n m => ?_, ?_⟩, g.name⟩
  · rw [List.mem_singleton.mp m]
    exact trivial
  · obtain ⟨a1, a2, a3⟩ := ok.ro r m
    refine ⟨a1, fun n mn => mem n (a2 n mn), ?_⟩
    cases r with
    | send ns l u b c => exact ⟨a3.1, a3.2.elim .inl fun z => .inr (mem _ z)⟩
    | _ => exact a3
  · rcases List.mem_cons.mp m with e | m
    · rw [e]
      exact h
    · exact ha n (List.mem_filter.mp m).1
  · rw [List.nodup_cons]
    refine ⟨fun z => ?_, nd.sublist List.filter_sublist⟩
    have := (List.mem_filter.mp z).2
    simp at this
theorem KdGood.bar {k : KD} (g : KdGood k) (hl : k.rules.length ≤ 299) : KdGood ⟨k.name, k.links, k.own, k.rules ++ [.bar []], k.hid⟩ := by
  obtain ⟨kinds, asked, rn, ok, hr, a⟩ := g.ex
  refine ⟨⟨kinds, asked, 300, ⟨ok.lk, ok.cho, ok.own, ?_, fun r m => ?_⟩, Nat.le_refl _, a⟩, g.name⟩
  · show (k.rules ++ [Rule.bar []]).length ≤ 300
    rw [List.length_append]
    simp
    omega
  · rcases List.mem_append.mp m with m | m
    · exact ok.ro r m
    · rw [List.mem_singleton.mp m]
      exact ⟨⟨by simp [Rule.names], by simp [Rule.names], by decide +kernel⟩, fun n m => (List.not_mem_nil m).elim, trivial⟩

theorem KdGood.tells_len {k : KD} (g : KdGood k) : k.links.length ≤ 2 ∧ k.own.length ≤ 5 := by
  obtain ⟨_, h1, h2, _⟩ := k.tells.parts g
  rw [ownD, List.length_map] at h1
  rw [List.length_map] at h2
  exact ⟨h2, h1⟩
theorem if_no {i j : Int} {n : Nat} {σ : L2.St} {H : Hp} {D : Ends} {t : TS} (h : i ≠ j) (hσ : σ[n]? = some (some (.int i))) (k : D.nx σ H) : tIfS (tTest (tOp rEq (tVar n) (tC (.int j)))) t tNext D σ H := by
  refine ⟨_, hσ, rfl, _, rfl, ?_⟩
  rw [decide_eq_false (fun z => h (V.int.inj z))]
  exact iteF k
theorem if_yes {i : Int} {n : Nat} {σ : L2.St} {H : Hp} {D : Ends} {t : TS} (hσ : σ[n]? = some (some (.int i))) (k : t D σ H) : tIfS (tTest (tOp rEq (tVar n) (tC (.int i)))) t tNext D σ H := by
  refine ⟨_, hσ, rfl, _, rfl, ?_⟩
  rw [decide_eq_true rfl]
  exact iteT k
theorem kd_at {A : List Addr} {H : Hp} {q : Addr} {nm : Str} {x1 x2 x3 : V} {h : Bool} {L O : List (Str × D)} {R : List D} (hq : H q = some (.lst [.str nm, x1, x2, x3, .bl h])) (z1 : At (q :: A) H (.dct L) x1) (z2 : At (q :: A) H (.dct O) x2) (z3 : At (q :: A) H (.lst R) x3) :
    At [] H (.lst [.str nm, .dct L, .dct O, .lst R, .bl h]) (.ref q) := by
  exact ⟨q, _, rfl, by simp, hq, _, _, rfl, rfl, _, _, rfl, z1.less (by simp), _, _, rfl, z2.less (by simp), _, _, rfl, z3.less (by simp), _, _, rfl, rfl, rfl⟩

def sp_l_changed (K : PySem.W.Frag) : Sp := fun vs H Q _ => ∃ (a c : Addr) (k : KD) (v : V), vs = [.ref a, v] ∧ StAt H a c ∧ At [a, c] H k.d v ∧ KdGood k ∧ k.rules.length ≤ 299 ∧
  ∀ (k' : KD) (v' : V) (H' : Hp), Chg k k' → KdGood k' → At [] H' k'.d v' → StAt H' a c → But [a, c] H H' → Q v' H'
theorem len_l_changed {K : PySem.W.Frag} {vs : List V} {H : Hp} {Q : VK} {E : XK} (h : sp_l_changed K vs H Q E) : vs.length = 2 := by
  obtain ⟨_, _, _, _, rfl, _⟩ := h
  rfl
def t_l_changed (K : PySem.W.Frag) : TS :=
  (tSeq (tAsg (tCall (sp_l_draw K) [] E0 (tCons (tVar 0) (tCons (tC (.int 5)) tNil))) (gName 2))
  (tSeq (tAsg (tLst (tCons (tOp (rIxL K) (tVar 1) (tC (.int 0))) (tCons (tCB rDictD (tCons (tOp (rIxL K) (tVar 1) (tC (.int 1))) tNil)) (tCons (tCB rDictD (tCons (tOp (rIxL K) (tVar 1) (tC (.int 2))) tNil)) (tCons (tCB (rListOf K) (tCons (tOp (rIxL K) (tVar 1) (tC (.int 3))) tNil)) (tCons (tOp (rIxL K) (tVar 1) (tC (.int 4))) tNil)))))) (gName 3))
  (tSeq (tIfS (tTest (tOp rEq (tVar 2) (tC (.int 0))))
    (tAsg (tCall (sp_l_word K) [] E0 (tCons (tVar 0) (tCons (tLst (tCons (tOp (rIxL K) (tVar 1) (tC (.int 0))) tNil)) tNil))) (gSub (tVar 3) (tC (.int 0)) rSetL))
    tNext)
  (tSeq (tIfS (tTest (tOp rEq (tVar 2) (tC (.int 1))))
    (tSeq (tAsg (tDisp [((tCall (sp_l_word K) [] E0 (tCons (tVar 0) (tCons (tCB rListK (tCons (tOp (rIxL K) (tVar 1) (tC (.int 1))) tNil)) tNil))), (tTup (tCons (tC (.str ("" : Str))) tNil)))]) (gSub (tVar 3) (tC (.int 1)) rSetL))
  (tSeq (tAsg tDNewK (gSub (tVar 3) (tC (.int 2)) rSetL))
  (tAsg (tLst tNil) (gSub (tVar 3) (tC (.int 3)) rSetL))))
    tNext)
  (tSeq (tIfS (tTest (tOp rEq (tVar 2) (tC (.int 2))))
    (tAsg (tDisp [((tCall (sp_l_word K) [] E0 (tCons (tVar 0) (tCons (tCB rListK (tCons (tOp (rIxL K) (tVar 1) (tC (.int 2))) tNil)) tNil))), (tTup (tCons (tC (.str ("self" : Str))) tNil)))]) (gSub (tVar 3) (tC (.int 2)) rSetL))
    tNext)
  (tSeq (tIfS (tTest (tOp rEq (tVar 2) (tC (.int 3))))
    (tAsg (tOp rCat (tOp (rIxL K) (tVar 3) (tC (.int 3))) (tLst (tCons (tTup (tCons (tC (.str ("bar" : Str))) (tCons (tTup tNil) tNil))) tNil))) (gSub (tVar 3) (tC (.int 3)) rSetL))
    tNext)
  (tSeq (tIfS (tTest (tOp rEq (tVar 2) (tC (.int 4))))
    (tAsg (tNotV (tOp (rIxL K) (tVar 1) (tC (.int 4)))) (gSub (tVar 3) (tC (.int 4)) rSetL))
    tNext)
  (tRet (tVar 3)))))))))
/-- {w: (z,)}, w a new word -/
theorem do_disp {K : PySem.W.Frag} {σ : L2.St} {H : Hp} {Q : VK} {a c kd p : Addr} {ws : List Str} {xs : List V} {i : Nat} {z : Str} {kvs : List (Key × V)} {kds : List (Str × D)} (hσ : σ[0]? = some (some (.ref a))) (hσ1 : σ[1]? = some (some (.ref kd))) (S : StAt H a c)
    (hk : H kd = some (.lst xs)) (nk : kd ∉ [a, c]) (hi : atI xs (i : Int) = some (.ref p)) (hp : H p = some (.dK kvs)) (nm : kvs.map (·.1) = kds.map fun p => (Sum.inr p.1 : Key)) (hl : kds.length ≤ 11)
    (k : ∀ (w : Str) (d t : Addr) (H' : Hp), IsName w → w ∉ keysD kds → StAt H' a c → But [a, c] H H' → H d = none → d ∉ [a, c] → H' d = some (.dK [(Sum.inr w, .ref t)]) → H' t = some (.tup [.str z]) → t ∉ [a, c] → Q (.ref d) H') :
    tDisp [((tCall (sp_l_word K) [] E0 (tCons (tVar 0) (tCons (tCB rListK (tCons (tOp (rIxL K) (tVar 1) (tC (.int (i : Int)))) tNil)) tNil))), (tTup (tCons (tC (.str z)) tNil)))] σ H Q := by
  intro d hd
  have B0 : But [] H (upd H d (.dK [])) := But.new hd
  have u0 : (upd H d (.dK [])) d = some (.dK []) := upd_same
  have nd : d ∉ [a, c] := S.no hd
  have S0 : StAt (upd H d (.dK [])) a c := S.new hd
  generalize upd H d (.dK []) = H0 at B0 u0 S0 ⊢
  refine ⟨_, hσ, _, hσ1, kd, _, _, .ref p, rfl, rfl, SqL.of (B0.keep _ _ (by simp) hk), hi, p, kvs, rfl, .inl (B0.keep _ _ (by simp) hp), fun r hr => ?_⟩
  rw [keys_strs (kds := kds) nm]
  have B1 : But [] H0 (upd H0 r (.lst ((keysD kds).map V.str))) := But.new hr
  have u1 : (upd H0 r (.lst ((keysD kds).map V.str))) r = some (.lst ((keysD kds).map V.str)) := upd_same
  have nr : r ∉ [a, c] := S0.no hr
  have S1 : StAt (upd H0 r (.lst ((keysD kds).map V.str))) a c := S0.new hr
  have d1 := B1.keep _ _ (by simp) u0
  generalize upd H0 r (.lst ((keysD kds).map V.str)) = H1 at B1 u1 S1 d1 ⊢
  refine ⟨a, c, r, keysD kds, rfl, S1, nr, u1, by rw [keysD, List.length_map]; exact hl, fun w H2 hw nw S2 B2 => ?_⟩
  refine ⟨by show 1 ≤ sizeLine; decide, fun t ht => ?_⟩
  have d2 := B2.keep _ _ nd d1
  have dt : d ≠ t := ne_of_none d2 ht
  refine ⟨by rw [upd_ne dt]; exact d2, [(Sum.inr w, .ref t)], rfl, by simp, ?_⟩
  have S3 : StAt (upd H2 t (.tup [.str z])) a c := S2.new ht
  refine k w d t _ hw nw (S3.upd nd) ?_ hd nd upd_same (by rw [upd_ne (Ne.symm dt)]; exact upd_same) (S2.no ht)
  have B02 : But [a, c] H H2 := (B0.trans B1).nil.trans B2
  exact (B02.upd' ht).upd (.inr hd)

theorem do_dispA {K : PySem.W.Frag} {σ : L2.St} {H : Hp} {g : TG} {EN : Ends} {a c kd p : Addr} {ws : List Str} {xs : List V} {i : Nat} {z : Str} {kvs : List (Key × V)} {kds : List (Str × D)} (hσ : σ[0]? = some (some (.ref a))) (hσ1 : σ[1]? = some (some (.ref kd))) (S : StAt H a c)
    (hk : H kd = some (.lst xs)) (nk : kd ∉ [a, c]) (hi : atI xs (i : Int) = some (.ref p)) (hp : H p = some (.dK kvs)) (nm : kvs.map (·.1) = kds.map fun p => (Sum.inr p.1 : Key)) (hl : kds.length ≤ 11)
    (k : ∀ (w : Str) (d t : Addr) (H' : Hp), IsName w → w ∉ keysD kds → StAt H' a c → But [a, c] H H' → H d = none → d ∉ [a, c] → H' d = some (.dK [(Sum.inr w, .ref t)]) → H' t = some (.tup [.str z]) → t ∉ [a, c] → g (.ref d) σ H' EN.nx) :
    tAsg (tDisp [((tCall (sp_l_word K) [] E0 (tCons (tVar 0) (tCons (tCB rListK (tCons (tOp (rIxL K) (tVar 1) (tC (.int (i : Int)))) tNil)) tNil))), (tTup (tCons (tC (.str z)) tNil)))]) g EN σ H :=
  do_disp (ws := ws) hσ hσ1 S hk nk hi hp nm hl k
theorem pure_l_changed {K : PySem.W.Frag} (vs : List V) (H : Hp) (Q : VK) (E : XK) (h : sp_l_changed K vs H Q E) : t_l_changed K (fin Q) (st0 4 vs) H := by
  obtain ⟨a, c, k, v, rfl, S, hv, g, hl, fin_⟩ := h
  obtain ⟨kd, p1, p2, p3, kv1, kv2, xs3, rfl, nk, hk, n1, e1, l1, n2, e2, l2, n3, e3, l3⟩ := KD.parts hv
  refine ⟨_, rfl, a, c, 5, rfl, S, by decide, by decide, fun r H1 r0 r5 S1 B1 => ?_⟩
  have hk1 := B1.keep _ _ nk hk
  have e11 := B1.keep _ _ n1 e1
  have e21 := B1.keep _ _ n2 e2
  have e31 := B1.keep _ _ n3 e3
  have l11 := l1.mono B1
  have l21 := l2.mono B1
  have l31 := l3.mono B1
  refine ⟨_, rfl, kd, _, 0, _, rfl, rfl, SqL.of hk1, rfl, ?_⟩
  refine ⟨_, rfl, kd, _, 1, .ref p1, rfl, rfl, SqL.of hk1, rfl, p1, kv1, rfl, .inl e11, fun q1 hq1 => ?_⟩
  have C1 : But [] H1 (upd H1 q1 (.dK kv1)) := But.new hq1
  have u1 : (upd H1 q1 (.dK kv1)) q1 = some (.dK kv1) := upd_same
  generalize upd H1 q1 (.dK kv1) = H2 at C1 u1 ⊢
  refine ⟨_, rfl, kd, _, 2, .ref p2, rfl, rfl, SqL.of (C1.keep _ _ (by simp) hk1), rfl, p2, kv2, rfl, .inl (C1.keep _ _ (by simp) e21), fun q2 hq2 => ?_⟩
  have C2 : But [] H2 (upd H2 q2 (.dK kv2)) := But.new hq2
  have u2 : (upd H2 q2 (.dK kv2)) q2 = some (.dK kv2) := upd_same
  generalize upd H2 q2 (.dK kv2) = H3 at C2 u2 ⊢
  have C02 := C1.trans C2
  refine ⟨_, rfl, kd, _, 3, .ref p3, rfl, rfl, SqL.of (C02.keep _ _ (by simp) hk1), rfl, p3, xs3, rfl, .inl (SqL.of (C02.keep _ _ (by simp) e31)), fun q3 hq3 => ?_⟩
  have C3 : But [] H3 (upd H3 q3 (.lst xs3)) := But.new hq3
  have u3 : (upd H3 q3 (.lst xs3)) q3 = some (.lst xs3) := upd_same
  generalize upd H3 q3 (.lst xs3) = H4 at C3 u3 ⊢
  have C03 := C02.trans C3
  refine ⟨_, rfl, kd, _, 4, .bl k.hid, rfl, rfl, SqL.of (C03.keep _ _ (by simp) hk1), rfl, by show 5 ≤ sizeLine; decide, fun q hq => ?_⟩
  have C4 : But [] H4 (upd H4 q (.lst [.str k.name, .ref q1, .ref q2, .ref q3, .bl k.hid])) := But.new hq
  have u4 : (upd H4 q (.lst [.str k.name, .ref q1, .ref q2, .ref q3, .bl k.hid])) q = some (.lst [.str k.name, .ref q1, .ref q2, .ref q3, .bl k.hid]) := upd_same
  generalize upd H4 q (.lst [.str k.name, .ref q1, .ref q2, .ref q3, .bl k.hid]) = H5 at C4 u4 ⊢
  have C := C03.trans C4
  have S5 : StAt H5 a c := S1.nil C
  have q0 : H1 q = none := C03.free hq
  have nq : q ∉ [a, c] := S1.no q0
  have u15 := C4.keep _ _ (by simp) (C3.keep _ _ (by simp) (C2.keep _ _ (by simp) u1))
  have u25 := C4.keep _ _ (by simp) (C3.keep _ _ (by simp) u2)
  have u35 := C4.keep _ _ (by simp) u3
  have ne : ∀ x, x ≠ q → x ∉ [a, c] → x ∉ [q, a, c] := fun x h1 h2 m => (List.mem_cons.mp m).elim h1 h2
  have ne1 := ne q1 (ne_of_none (C3.keep _ _ (by simp) (C2.keep _ _ (by simp) u1)) hq) (S1.no hq1)
  have ne2 := ne q2 (ne_of_none (C3.keep _ _ (by simp) u2) hq) (S1.no (C1.free hq2))
  have ne3 := ne q3 (ne_of_none u3 hq) (S1.no (C02.free hq3))
  have z1 : At [q, a, c] H5 (.dct (linkD k.links)) (.ref q1) := ⟨q1, kv1, rfl, ne1, u15, (l11.excl q0).mono C.nil⟩
  have z2 : At [q, a, c] H5 (.dct (ownD k.own)) (.ref q2) := ⟨q2, kv2, rfl, ne2, u25, (l21.excl q0).mono C.nil⟩
  have z3 : At [q, a, c] H5 (.lst (k.rules.map Rule.d)) (.ref q3) := by
    have e0 : At [a, c] H1 (.lst (k.rules.map Rule.d)) (.ref p3) := ⟨p3, xs3, rfl, n3, e31, l31⟩
    obtain ⟨_, _, e, _, e', l⟩ := (e0.excl q0).mono C.nil
    cases e
    rw [C.keep _ _ (by simp) e31] at e'
    cases e'
    exact ⟨q3, xs3, rfl, ne3, u35, l⟩
  have hk5 := C.keep _ _ (by simp) hk1
  have e15 := C.keep _ _ (by simp) e11
  have e25 := C.keep _ _ (by simp) e21
  have q00 : H q = none := B1.free q0
  have BC : But [a, c] H H5 := B1.trans C.nil
  have sub : ∀ x ∈ [a, c], x ∈ [q, a, c] := fun x m => List.mem_cons_of_mem _ m
  have new : ∀ {H6 : Hp} {o : HO}, But [q, a, c] H H6 → But [a, c] H (upd H6 q o) := fun {H6 o} b => by
    refine ⟨fun x u m e => ?_, fun x e => ?_⟩
    · have xq : x ≠ q := fun z => by rw [z, q00] at e; cases e
      rw [upd_ne xq]
      exact b.keep _ _ (ne x xq m) e
    · by_cases xq : x = q
      · rw [xq, upd_same]
        simp
      · rw [upd_ne xq]
        exact b.stand x e
  have fin : ∀ {H6 : Hp} {nm : Str} {L : List (Str × List Str)} {O : List (Str × Own)} {R : List Rule} {hd : Bool} {y1 y2 y3 : V}, But [q, a, c] H5 H6 → StAt H6 a c → At [q, a, c] H6 (.dct (linkD L)) y1 → At [q, a, c] H6 (.dct (ownD O)) y2 → At [q, a, c] H6 (.lst (R.map Rule.d)) y3 →
      Chg k ⟨nm, L, O, R, hd⟩ → KdGood ⟨nm, L, O, R, hd⟩ → Q (.ref q) (upd H6 q (.lst [.str nm, y1, y2, y3, .bl hd])) := fun {H6 nm L O R hd y1 y2 y3} b s w1 w2 w3 ch gd => by
    have B : But [q, a, c] H6 (upd H6 q (.lst [.str nm, y1, y2, y3, .bl hd])) := But.refl.upd (.inl (by simp))
    exact fin_ ⟨nm, L, O, R, hd⟩ (.ref q) _ ch gd (kd_at (A := [a, c]) upd_same (w1.mono B) (w2.mono B) (w3.mono B)) (s.upd nq) (new ((BC.more sub).trans b))
  have lln : k.links.length ≤ 2 := by
    have := g.tells_len
    exact this.1
  have oln : k.own.length ≤ 5 := g.tells_len.2
  have r' : r = 0 ∨ r = 1 ∨ r = 2 ∨ r = 3 ∨ r = 4 := by omega
  rcases r' with rfl | rfl | rfl | rfl | rfl
  · refine if_yes rfl ?_
    refine ⟨_, rfl, _, rfl, kd, _, 0, _, rfl, rfl, SqL.of hk5, rfl, by show 1 ≤ sizeLine; decide, fun r hr => ?_⟩
    refine ⟨a, c, r, [k.name], rfl, S5.new hr, S5.no hr, upd_same, by simp, fun w H6 hw nw S6 B6 => ?_⟩
    have b : But [a, c] H5 H6 := (But.new hr).trans B6
    refine ⟨_, rfl, q, _, 0, 0, rfl, rfl, b.keep _ _ nq u4, rfl, ?_⟩
    refine if_no (by decide) rfl (if_no (by decide) rfl (if_no (by decide) rfl (if_no (by decide) rfl ⟨_, rfl, ?_⟩)))
    refine fin (b.more sub) S6 (z1.mono (b.more sub)) (z2.mono (b.more sub)) (z3.mono (b.more sub)) ⟨.inl rfl, .inl rfl, .inl rfl, .inl fun z => nw ?_⟩ (g.rename hw _)
    rw [show w = k.name from z]
    simp
  · refine if_no (by decide) rfl (if_yes rfl ?_)
    refine do_dispA (ws := []) (kd := kd) (p := p1) (i := 1) (z := "") (kds := linkD k.links) (by rfl) (by rfl) S5 hk5 nk rfl e15 l11.keys (by rw [List.length_map]; exact Nat.le_trans lln (by omega)) fun w d t H6 hw nw S6 B6 hd nd ed et nt => ?_
    have b6 := B6.more sub
    refine ⟨_, rfl, q, _, 1, 1, rfl, rfl, B6.keep _ _ nq u4, rfl, ?_⟩
    have q6 := B6.keep _ _ nq u4
    have dq : d ≠ q := fun z => by rw [z, u4] at hd; cases hd
    have tq : t ≠ q := fun z => by rw [z, q6] at et; cases et
    have zz : At [q, a, c] H6 (.dct (linkD [(w, [("" : Str)])])) (.ref d) := ⟨d, _, rfl, ne d dq nd, ed, _, _, rfl, ⟨t, _, rfl, ne t tq nt, et, _, _, rfl, rfl, rfl⟩, rfl⟩
    have b7 : But [q, a, c] H6 (upd H6 q (.lst [.str k.name, .ref d, .ref q2, .ref q3, .bl k.hid])) := But.refl.upd (.inl (by simp))
    have q7 : (upd H6 q (.lst [.str k.name, .ref d, .ref q2, .ref q3, .bl k.hid])) q = some (.lst [.str k.name, .ref d, .ref q2, .ref q3, .bl k.hid]) := upd_same
    have S7 : StAt (upd H6 q (.lst [.str k.name, .ref d, .ref q2, .ref q3, .bl k.hid])) a c := S6.upd nq
    show tSeq _ _ _ _ (upd H6 q (.lst [.str k.name, .ref d, .ref q2, .ref q3, .bl k.hid]))
    generalize upd H6 q (.lst [.str k.name, .ref d, .ref q2, .ref q3, .bl k.hid]) = H7 at b7 q7 S7 ⊢
    intro d2 hd2
    have n2q : d2 ≠ q := fun z => by rw [z, q7] at hd2; cases hd2
    have b8 : But [q, a, c] H7 (upd H7 d2 (.dK [])) := But.new hd2
    have u8 : (upd H7 d2 (.dK [])) d2 = some (.dK []) := upd_same
    have S8 : StAt (upd H7 d2 (.dK [])) a c := S7.new hd2
    have q8 : (upd H7 d2 (.dK [])) q = some (.lst [.str k.name, .ref d, .ref q2, .ref q3, .bl k.hid]) := by rw [upd_ne (Ne.symm n2q)]; exact q7
    have n2 := ne d2 n2q (S7.no hd2)
    generalize upd H7 d2 (.dK []) = H8 at b8 u8 S8 q8 ⊢
    refine ⟨_, rfl, q, _, 2, 2, rfl, rfl, q8, rfl, ?_⟩
    have b9 : But [q, a, c] H8 (upd H8 q (.lst [.str k.name, .ref d, .ref d2, .ref q3, .bl k.hid])) := But.refl.upd (.inl (by simp))
    have q9 : (upd H8 q (.lst [.str k.name, .ref d, .ref d2, .ref q3, .bl k.hid])) q = some (.lst [.str k.name, .ref d, .ref d2, .ref q3, .bl k.hid]) := upd_same
    have S9 : StAt (upd H8 q (.lst [.str k.name, .ref d, .ref d2, .ref q3, .bl k.hid])) a c := S8.upd nq
    show tAsg (tLst tNil) (gSub (tVar 3) (tC (.int 3)) rSetL) _ _ (upd H8 q (.lst [.str k.name, .ref d, .ref d2, .ref q3, .bl k.hid]))
    generalize upd H8 q (.lst [.str k.name, .ref d, .ref d2, .ref q3, .bl k.hid]) = H9 at b9 q9 S9 ⊢
    refine ⟨sz0, fun d3 hd3 => ?_⟩
    have n3q : d3 ≠ q := fun z => by rw [z, q9] at hd3; cases hd3
    have b10 : But [q, a, c] H9 (upd H9 d3 (.lst [])) := But.new hd3
    have u10 : (upd H9 d3 (.lst [])) d3 = some (.lst []) := upd_same
    have S10 : StAt (upd H9 d3 (.lst [])) a c := S9.new hd3
    have q10 : (upd H9 d3 (.lst [])) q = some (.lst [.str k.name, .ref d, .ref d2, .ref q3, .bl k.hid]) := by rw [upd_ne (Ne.symm n3q)]; exact q9
    have n3' := ne d3 n3q (S9.no hd3)
    generalize upd H9 d3 (.lst []) = H10 at b10 u10 S10 q10 ⊢
    refine ⟨_, rfl, q, _, 3, 3, rfl, rfl, q10, rfl, ?_⟩
    refine if_no (by decide) rfl (if_no (by decide) rfl (if_no (by decide) rfl ⟨_, rfl, ?_⟩))
    have nw' : w ∉ k.lks := fun m => nw (by rw [keys_map]; exact m)
    refine fin ((((b6.trans b7).trans b8).trans b9).trans b10) S10 (zz.mono (((b7.trans b8).trans b9).trans b10)) (O := []) (R := []) ?_ ?_ ⟨.inr ⟨w, nw', rfl⟩, .inr (.inl rfl), .inr (.inl rfl), .inr (.inl ⟨w, nw', rfl⟩)⟩ (g.link hw)
    · exact ⟨d2, [], rfl, n2, (b9.trans b10).keep _ _ n2 u8, rfl⟩
    · exact ⟨d3, [], rfl, n3', u10, rfl⟩
  · refine if_no (by decide) rfl (if_no (by decide) rfl (if_yes rfl ?_))
    refine do_dispA (ws := []) (kd := kd) (p := p2) (i := 2) (z := "self") (kds := ownD k.own) (by rfl) (by rfl) S5 hk5 nk rfl e25 l21.keys (by rw [ownD, List.length_map]; exact Nat.le_trans oln (by omega)) fun w d t H6 hw nw S6 B6 hd nd ed et nt => ?_
    have b6 := B6.more sub
    refine ⟨_, rfl, q, _, 2, 2, rfl, rfl, B6.keep _ _ nq u4, rfl, ?_⟩
    have q6 := B6.keep _ _ nq u4
    have dq : d ≠ q := fun z => by rw [z, u4] at hd; cases hd
    have tq : t ≠ q := fun z => by rw [z, q6] at et; cases et
    have zz : At [q, a, c] H6 (.dct (ownD [(w, .self)])) (.ref d) := ⟨d, _, rfl, ne d dq nd, ed, _, _, rfl, ⟨t, _, rfl, ne t tq nt, et, _, _, rfl, rfl, rfl⟩, rfl⟩
    refine if_no (by decide) rfl (if_no (by decide) rfl ⟨_, rfl, ?_⟩)
    have nw' : w ∉ k.own.map (·.1) := fun m => nw (by rw [ownD, keys_map]; exact m)
    exact fin b6 S6 (z1.mono b6) zz (z3.mono b6) ⟨.inl rfl, .inr (.inr ⟨w, nw', rfl⟩), .inl rfl, .inr (.inr (.inl ⟨w, nw', rfl⟩))⟩ (g.self hw)
  · refine if_no (by decide) rfl (if_no (by decide) rfl (if_no (by decide) rfl (if_yes rfl ?_)))
    refine ⟨_, rfl, q, _, 3, .ref q3, rfl, rfl, SqL.of u4, rfl, ?_⟩
    refine ⟨sz0, fun t0 ht0 => ⟨by show 2 ≤ sizeLine; decide, fun t1 ht1 => ⟨by show 1 ≤ sizeLine; decide, fun t2 ht2 => ?_⟩⟩⟩
    have x0 : But [] H5 (upd H5 t0 (.tup [])) := But.new ht0
    have y0 : (upd H5 t0 (.tup [])) t0 = some (.tup []) := upd_same
    generalize upd H5 t0 (.tup []) = G0 at x0 y0 ht1 ht2 ⊢
    have x1 : But [] G0 (upd G0 t1 (.tup [.str "bar", .ref t0])) := But.new ht1
    have y1 : (upd G0 t1 (.tup [.str "bar", .ref t0])) t1 = some (.tup [.str "bar", .ref t0]) := upd_same
    generalize upd G0 t1 (.tup [.str "bar", .ref t0]) = G1 at x1 y1 ht2 ⊢
    have x2 : But [] G1 (upd G1 t2 (.lst [.ref t1])) := But.new ht2
    have y2 : (upd G1 t2 (.lst [.ref t1])) t2 = some (.lst [.ref t1]) := upd_same
    generalize upd G1 t2 (.lst [.ref t1]) = G2 at x2 y2 ⊢
    have x02 := (x0.trans x1).trans x2
    obtain ⟨_, _, e3', _, e3'', l3'⟩ := z3
    cases e3'
    rw [u35] at e3''
    cases e3''
    have len3 : xs3.length ≤ 299 := by rw [l3'.length, List.length_map]; exact hl
    refine ⟨q3, t2, xs3, _, rfl, rfl, x02.keep _ _ (by simp) u35, y2, Nat.le_of_lt (small1000 (by simp; omega)), fun t3 ht3 => ?_⟩
    have x3 : But [] G2 (upd G2 t3 (.lst (xs3 ++ [.ref t1]))) := But.new ht3
    have y3 : (upd G2 t3 (.lst (xs3 ++ [.ref t1]))) t3 = some (.lst (xs3 ++ [.ref t1])) := upd_same
    have q3n : t3 ≠ q := fun z => by rw [z, x02.keep _ _ (by simp) u4] at ht3; cases ht3
    generalize upd G2 t3 (.lst (xs3 ++ [.ref t1])) = G3 at x3 y3 ⊢
    have x03 := x02.trans x3
    refine ⟨_, rfl, q, _, 3, 3, rfl, rfl, x03.keep _ _ (by simp) u4, rfl, ?_⟩
    refine if_no (by decide) rfl ⟨_, rfl, ?_⟩
    have n0 := ne t0 (fun z => by rw [z, u4] at ht0; cases ht0) (S5.no ht0)
    have n1' := ne t1 (fun z => by rw [z, x0.keep _ _ (by simp) u4] at ht1; cases ht1) (S5.no (x0.free ht1))
    have n3'' := ne t3 q3n (S5.no (x02.free ht3))
    have bar : At [q, a, c] G3 (Rule.bar []).d (.ref t1) := ⟨t1, _, rfl, n1', (x2.trans x3).keep _ _ (by simp) y1, _, _, rfl, rfl, .ref t0, _, rfl, ⟨t0, _, rfl, n0, ((x1.trans x2).trans x3).keep _ _ (by simp) y0, rfl⟩, rfl⟩
    have zl : At [q, a, c] G3 (.lst ((k.rules ++ [Rule.bar []]).map Rule.d)) (.ref t3) := ⟨t3, _, rfl, n3'', y3, by rw [List.map_append]; exact AtL.snoc (l3'.mono x03.nil) bar⟩
    exact fin x03.nil (S5.nil x03) (z1.mono x03.nil) (z2.mono x03.nil) zl ⟨.inl rfl, .inl rfl, .inr (.inr rfl), .inr (.inr (.inr (.inl rfl)))⟩ (g.bar hl)
  · refine if_no (by decide) rfl (if_no (by decide) rfl (if_no (by decide) rfl (if_no (by decide) rfl (if_yes rfl ?_))))
    refine ⟨_, rfl, kd, _, 4, .bl k.hid, rfl, rfl, SqL.of hk5, rfl, _, rfl, ?_⟩
    refine ⟨_, rfl, q, _, 4, 4, rfl, rfl, u4, rfl, ?_⟩
    refine ⟨_, rfl, ?_⟩
    exact fin But.refl S5 z1 z2 z3 ⟨.inl rfl, .inl rfl, .inl rfl, .inr (.inr (.inr (.inr (by show (!k.hid) ≠ k.hid; cases k.hid <;> simp))))⟩ (g.rename g.name _)
end Kb

set_option Elab.async false
set_option linter.all false
set_option maxRecDepth 100000
set_option maxHeartbeats 2000000
/-! Kb, 47: an own error is raised, its context None. -/
namespace Kb
open PySem PySem.Spec PyProof.Rows L2 L2H
section
variable {X : Cx} {CX : CXT} {x : Str} {e : Expr} {es : List Expr} {ta : TA} {p pos : Pos} {C fI : Addr} {k : Nat} {fd : FuncData} {ps : List Str} {sp : Sp}
theorem pmk_oexN (T : OexC X.K C) (iC : PySem.W.findIn X.K (.ref C) "__init__" = some (some (.ref fI))) (tI : PySem.W.typeIn X.K (.ref fI) = some (.type "function")) (G : FnOk X.prog X.w X.K X.mg X.base CX k fI fd ps sp) (hr : Room (k + 1) X.A)
    (hb : Binds X.K fd ps []) (hx : Passes CX X E0) (hg : Gl X x) (hm : X.mg x = some (.ref C)) (ha : PA X (e :: es) ta) (hdb : (x == ("__debug__" : Str)) = false := by decide)
    (he : starEach (e :: es) X.env = (false, eval e X.env) :: starEach es X.env := by rfl) (hpl : (backTo pos (starEach es X.env)).any (·.1) = false := by rfl) :
    L2N.PMk X (.Call (.Name x p) (e :: es) [] pos) (tMkO C sp [] ta) := by
  intro pins s σ H Q I h
  obtain ⟨_, _, _, _, bm, _, _, _, _, _, _, _, _, _, _, lC, tail⟩ := T.cls
  refine wpAny_Call_Name_kw (ld_glob I hg hm ?_ hdb)
  refine PySem.W.callWith_K (h₀ := X.base) I.ok.mod.kin T.kC (thn (ha.run pos pins s σ H _ I h) fun us s1 got => ?_) he hpl
  obtain ⟨vs, H1, J, rel, small, want⟩ := got
  refine ⟨J.kIn, ?_⟩
  obtain ⟨hp, g, dr, tk, os⟩ := s1
  show wpAny _ _ (call (.ref C) us) _ _ _
  have up1 : hp.objs.size ≤ hp.objs.size + 1 := Nat.le_succ _
  have free : H1 (hp.objs.size + 1) = none := J.hok.fresh up1
  have want := want _ free
  rw [List.append_nil] at want
  have two : ∀ b o, hp.get? b = some o → ((hp.push (PySem.W.kdv_tup us)).push (PySem.HandSPX.excO C hp.objs.size)).get? b = some o := fun _ _ z =>
    Heap.get?_push_of_some _ (Heap.get?_push_of_some _ z)
  have there : ((hp.push (PySem.W.kdv_tup us)).push (PySem.HandSPX.excO C hp.objs.size)).get? (hp.objs.size + 1) = some (PySem.HandSPX.excO C hp.objs.size) := by
    heap_get
  have J2 := J.laid (t' := tk) (a := hp.objs.size + 1) (o := exo (hp.objs.size + 1) C none) (h' := (hp.push (PySem.W.kdv_tup us)).push (PySem.HandSPX.excO C hp.objs.size)) two up1 (exo_ok there)
  have rel2 : Vals (V.ref (hp.objs.size + 1) :: vs) (Value.ref (hp.objs.size + 1) :: us) := .cons rfl rel
  have len : (Value.ref (hp.objs.size + 1) :: us ++ []).length = ps.length := by
    have z := rel2.length
    rw [G.len _ _ _ _ want] at z
    rw [List.append_nil]
    exact z.symm
  have few : us.length ≤ sizeLine := by
    have z := Paired.length rel
    rw [sizeLine_eq]
    omega
  have bind := hb _ (Value.ref (hp.objs.size + 1) :: us) J2.kIn len
  rw [List.append_nil] at bind
  refine wpAny_call (PySem.HandSPX.call_own F.excBase_ValueError (fun Y => PySem.HandSPX.refsVE_contains Y bm tail) (J.kIn _ _ lC) (PySem.W.looks_findIn J.kIn iC) (fun self => PySem.W.bind_fn J.kIn self tI) few ?_)
  refine codeAny_mono (G.run _ X.stack _ _ ⟨_, []⟩ _ _ _ E0 (hr.make C us []) (J2.env0.make C us []) bind rel2 want) fun r s' got => ?_
  cases r with
  | error er => exact hx pins σ _ _ er s' J2 got
  | ok fl =>
    cases fl with
    | ret u =>
      obtain ⟨v, H2, eos, bare, un, hok, rv, rfl, d, fs, ea, ed, hd1, q⟩ := got
      obtain ⟨h2, g2, d2, t2, os'⟩ := s'
      obtain ⟨t0, B, J3, kB, nB, oe, na⟩ := mk_end0 (d2 := d2) (t2 := t2) J up1 two un hok eos bare ea ed hd1
      exact ⟨rv, _, _, _, ⟨B, g2, d2, t2, os'⟩, _, .ref C, some d, rfl, J3, kB, nB, oe, ⟨rfl, rfl, fun vs z => by cases z; rfl⟩, rfl, rfl, na, rfl, bare, raises_own T.exC T.tyC, q⟩
    | next => exact False.elim got
    | brk => exact False.elim got
    | cont => exact False.elim got
end
theorem passN {P : Program} {w : World} {X : Cx} : Passes (L2N.CX P w) X E0 := fun _ _ _ _ _ _ _ c => by
  obtain ⟨_, _, _, _, _, _, _, _, _, _, _, _, z⟩ := c
  exact z.elim
theorem passH {P : Program} {w : World} {X : Cx} : ∀ σ, PassesAt (L2.CX P w) X σ E0 := fun σ pins H s e s' I c => passL pins σ H s e s' I (by
  obtain ⟨_, _, _, _, _, _, _, _, _, _, _, _, z⟩ := c
  exact z.elim)
theorem passW {X : Cx} {W : WX} (tk : L2N.Takes X W) : ∀ σ, PassesAt (L2N.CX X.prog X.w) X σ (WE W σ) := fun σ _ _ _ e s' I c => tk e s' (L2N.XE.of_call I (fun _ _ _ h => h) c)
theorem takesN {X : Cx} : L2N.Takes X (fun _ _ _ _ => False) := fun _ _ x => by
  obtain ⟨_, _, _, _, _, _, _, _, _, _, _, _, _, _, _, _, z⟩ := x
  exact z.elim
theorem hotOf {X : Cx} {a : Addr} {oe : Obj} {cls : Value} {d : Option Addr} {pn : List (Addr × Obj)} (hz : L2N.Zn cls d oe) (hf : ∃ vs, oe.data = .fields vs) : HotC (X.suite a ((a, oe) :: pn)) := by
  obtain ⟨vs, e⟩ := hf
  exact ⟨(a, oe), ⟨rfl, vs, e, hz.2.2 vs e⟩, List.mem_cons_self⟩
theorem pss_never {X : Cx} {b : List Stmt} : PSs X b tNever := ⟨fun _ _ _ _ _ _ h => h.elim⟩
end Kb

set_option Elab.async false
set_option linter.all false
set_option maxRecDepth 100000
set_option maxHeartbeats 1000000
/-! Kb, 48: what a Kind keeps, told by the kind's data; Kinds of one kind and of a changed one compared. -/
namespace Kb
open PySem PySem.Spec PyProof.Rows L2

mutual
theorem like_eq : ∀ {e d : D}, e.plain = true → Like d e → d = e
  | .non, _, _, h => h
  | .bl _, _, _, h => h
  | .int _, _, _, h => h
  | .str _, _, _, h => h
  | .tup es, _, p, h => by
    obtain ⟨ds, rfl, _, l⟩ := h
    rw [like_eqL (Bool.and_eq_true_iff.mp (show (decide (es.length ≤ 1000) && D.plainL es) = true from p)).2 l]
  | .lst es, _, p, h => by
    obtain ⟨ds, rfl, _, l⟩ := h
    rw [like_eqL (Bool.and_eq_true_iff.mp (show (decide (es.length ≤ 1000) && D.plainL es) = true from p)).2 l]
  | .dct _, _, p, _ => by cases p
theorem like_eqL : ∀ {es ds : List D}, D.plainL es = true → LikeL ds es → ds = es
  | [], _, _, h => h
  | e :: es, _, p, h => by
    obtain ⟨d, r, rfl, h1, h2⟩ := h
    obtain ⟨p1, p2⟩ := Bool.and_eq_true_iff.mp (show (D.plain e && D.plainL es) = true from p)
    rw [like_eq p1 h1, like_eqL p2 h2]
end
/-- a table that tells what Ld does -/
structure Agree (L Ld : List (Str × D)) : Prop where
  p : (keysD L).Perm (keysD Ld)
  nd : (keysD L).Nodup
  ok : ∀ n d, (n, d) ∈ L → Ld.lookup n = some d ∧ Low d
theorem mem_keys {L : List (Str × D)} {n : Str} {d : D} (m : (n, d) ∈ L) : n ∈ keysD L := List.mem_map.mpr ⟨_, m, rfl⟩
theorem mem_lookup' {L : List (Str × D)} {n : Str} {d : D} (nd : (keysD L).Nodup) (m : (n, d) ∈ L) : L.lookup n = some d := by
  obtain ⟨e, he⟩ := lookup_of (mem_keys m)
  rw [he, nodup_key nd (lookup_mem he) m]
theorem Agree.of {L Ld : List (Str × D)} (h : Like (.dct L) (.dct Ld)) (low : ∀ x ∈ Ld, Low x.2) : Agree L Ld := by
  obtain ⟨_, e, p, nd, _, _, l⟩ := h
  cases e
  have ndL : (keysD L).Nodup := p.symm.nodup nd
  refine ⟨p, ndL, fun n d m => ?_⟩
  obtain ⟨e, he⟩ := lookup_of (p.mem_iff.mp (mem_keys m))
  obtain ⟨d', h1, h2⟩ := l.get he
  rw [mem_lookup' ndL m] at h1
  cases h1
  have lo := low _ (lookup_mem he)
  have z := like_eq lo.pl h2
  subst z
  exact ⟨he, lo⟩
theorem Agree.len {L Ld : List (Str × D)} (a : Agree L Ld) : L.length = Ld.length := by
  have := a.p.length_eq
  rw [keysD, keysD, List.length_map, List.length_map] at this
  exact this
/-- two tables, each of its own; where both have a key, they tell the same -/
theorem Agree.ok2 {L Ld L' Ld' : List (Str × D)} (a : Agree L Ld) (b : Agree L' Ld') (h : ∀ n d d', Ld.lookup n = some d → Ld'.lookup n = some d' → d = d') : EqOk L L' := fun n d d' m l => by
  obtain ⟨h1, h2⟩ := a.ok n d m
  obtain ⟨h3, _⟩ := b.ok n d' (lookup_mem l)
  exact ⟨h n d d' h1 h3, h2⟩
theorem Agree.same {L L' Ld : List (Str × D)} (a : Agree L Ld) (b : Agree L' Ld) : EqOk L L' ∧ keysB L L' = true := by
  refine ⟨a.ok2 b fun n d d' h h' => by rw [h] at h'; cases h'; rfl, ?_⟩
  unfold keysB
  rw [a.len, b.len, beq_self_eq_true, Bool.true_and]
  exact List.all_eq_true.mpr fun x m => decide_eq_true (b.p.mem_iff.mpr (a.p.mem_iff.mp (List.mem_map.mpr ⟨x, m, rfl⟩)))
/-- a key of the one that the other has not -/
theorem Agree.unlike {L Ld L' : List (Str × D)} {w : Str} {e : D} (a : Agree L Ld) (b : Agree L' [(w, e)]) (n : w ∉ keysD Ld) : (EqOk L L' ∧ EqOk L' L) ∧ keysB L L' = false ∧ keysB L' L = false := by
  have k1 : ∀ x, x ∈ keysD L' → x = w := fun x m => by simpa [keysD] using b.p.mem_iff.mp m
  have k2 : w ∉ keysD L := fun m => n (a.p.mem_iff.mp m)
  have wm : w ∈ keysD L' := b.p.mem_iff.mpr (by simp [keysD])
  refine ⟨⟨fun m d d' h h' => ?_, fun m d d' h h' => ?_⟩, ?_, ?_⟩
  · have := k1 m (mem_keys (lookup_mem h'))
    subst this
    exact absurd (mem_keys h) k2
  · have := k1 m (mem_keys h)
    subst this
    exact absurd (mem_keys (lookup_mem h')) k2
  · unfold keysB
    cases L with
    | nil =>
      rw [b.len]
      rfl
    | cons p r =>
      rw [List.all_cons, decide_eq_false (fun m => k2 (by rw [← k1 _ m]; simp [keysD])), Bool.false_and, Bool.and_false]
  · unfold keysB
    obtain ⟨x, xm, ex⟩ := List.mem_map.mp wm
    have : (L'.all fun p => decide (p.1 ∈ keysD L)) = false := by
      rw [Bool.eq_false_iff]
      intro z
      have := of_decide_eq_true (List.all_eq_true.mp z x xm)
      rw [ex] at this
      exact k2 this
    rw [this, Bool.and_false]
theorem Agree.nil {L : List (Str × D)} (a : Agree L []) : L = [] := by
  have := a.len
  exact List.length_eq_zero_iff.mp this
/-- what a Kind of the kind k keeps -/
structure Out (k : KD) (L O : List (Str × D)) (R : List D) : Prop where
  l : Agree L (linkD k.links)
  o : Agree O (ownD k.own)
  r : R = k.rules.map Rule.d
  pl : D.plainL R = true
  dp : D.dpL R ≤ 30
theorem low_nm {ys : List Str} (h : ys.length ≤ 1000) : Low (nmD ys) := ⟨plain_nm h, Nat.le_trans dp_nm (by decide)⟩
theorem low_own {o : Own} : Low o.d := by
  obtain ⟨ds, ed, fl⟩ := o.d_tup
  have len : ds.length ≤ 2 := by cases o <;> (cases ed; simp)
  have h0 : D.dpL ds ≤ 0 := dpL_le fun d m => Nat.le_of_eq (dp_flat' (List.all_eq_true.mp fl d m))
  rw [ed]
  refine ⟨?_, ?_⟩
  · show (decide (ds.length ≤ 1000) && D.plainL ds) = true
    rw [decide_eq_true (by omega), plain_flats fl]
    rfl
  · show D.dpL ds + 1 ≤ 30
    omega
theorem Kept.out {k : KD} {L O : List (Str × D)} {R : List D} {L' O' : List (Str × D)} {R' : List D} (g : KdGood k) (t : Tells k L O R) (kp : Kept L O (.lst R) L' O' R') : Out k L' O' R' := by
  have h := kept_like g t kp
  obtain ⟨kinds, asked, rn, ok, hrn, hkn, han, hand⟩ := g.ex
  obtain ⟨_, e, _, _, _, rfl, _, _, _, rfl, _, _, _, rfl, hL, _, _, rfl, hO, _, _, rfl, hR, _⟩ := h
  cases e
  have er := kept_rules kp t fun r m => (ok.ro r m).1.so
  have pR : ∀ l : List Rule, (∀ r ∈ l, r.names.length ≤ 1000) → D.plainL (l.map Rule.d) = true ∧ D.dpL (l.map Rule.d) ≤ 2 := fun l => by
    induction l with
    | nil => exact fun _ => ⟨rfl, by decide⟩
    | cons a b ih =>
      intro h
      obtain ⟨i1, i2⟩ := ih fun r m => h r (by simp [m])
      constructor
      · show (D.plain a.d && D.plainL (b.map Rule.d)) = true
        rw [plain_rule (h a (by simp)), i1]
        rfl
      · show max (D.dp a.d) (D.dpL (b.map Rule.d)) ≤ 2
        have := dp_rule (r := a)
        omega
  obtain ⟨q1, q2⟩ := pR k.rules fun r m => Nat.le_trans (ok.ro r m).1.len (by decide)
  refine ⟨Agree.of hL fun x m => ?_, Agree.of hO fun x m => ?_, er, by rw [er]; exact q1, by rw [er]; omega⟩
  · obtain ⟨p, hp, rfl⟩ := List.mem_map.mp m
    exact low_nm (Nat.le_trans (ok.cho p hp).len (by decide))
  · obtain ⟨p, hp, rfl⟩ := List.mem_map.mp m
    exact low_own
theorem Out.eq {k : KD} {L O L' O' : List (Str × D)} {R R' : List D} (a : Out k L O R) (b : Out k L' O' R') : EqK L O R L' O' R' ∧ keysB L L' = true ∧ keysB O O' = true ∧ (R.length == R'.length) = true := by
  obtain ⟨l1, l2⟩ := a.l.same b.l
  obtain ⟨o1, o2⟩ := a.o.same b.o
  refine ⟨⟨l1, o1, fun _ => ⟨a.r.trans b.r.symm, a.pl, a.dp⟩⟩, l2, o2, ?_⟩
  rw [a.r, b.r, beq_self_eq_true]
theorem Out.ne {k k' : KD} {L O L' O' : List (Str × D)} {R R' : List D} (a : Out k L O R) (b : Out k' L' O' R') (c : Chg k k') :
    EqK L O R L' O' R' ∧ EqK L' O' R' L O R ∧ (decide (k.name = k'.name) && (keysB L L' && (keysB O O' && (R.length == R'.length && decide (k.hid = k'.hid))))) = false ∧
      (decide (k'.name = k.name) && (keysB L' L && (keysB O' O && (R'.length == R.length && decide (k'.hid = k.hid))))) = false := by
  have hl : EqOk L L' ∧ EqOk L' L := by
    rcases c.l with e | ⟨w, nw, e⟩
    · have b' := b.l
      rw [e] at b'
      exact ⟨(a.l.same b').1, (b'.same a.l).1⟩
    · have b' := b.l
      rw [e] at b'
      exact (a.l.unlike b' (by rw [keys_map]; exact nw)).1
  have ho : EqOk O O' ∧ EqOk O' O := by
    rcases c.o with e | e | ⟨w, nw, e⟩
    · have b' := b.o
      rw [e] at b'
      exact ⟨(a.o.same b').1, (b'.same a.o).1⟩
    · have b' := b.o
      rw [e] at b'
      have z : O' = [] := b'.nil
      subst z
      exact ⟨fun _ _ _ _ h => (nomatch h), fun _ _ _ h => (nomatch h)⟩
    · have b' := b.o
      rw [e] at b'
      exact (a.o.unlike b' (by rw [ownD, keys_map]; exact nw)).1
  have hr : R.length = R'.length → R = R' := fun e => by
    rcases c.r with z | z | z
    · rw [a.r, b.r, z]
    · have e0 : R' = [] := by rw [b.r, z]; rfl
      rw [e0] at e ⊢
      exact List.length_eq_zero_iff.mp e
    · rw [a.r, b.r, z, List.length_map, List.length_map, List.length_append] at e
      simp at e
  refine ⟨⟨hl.1, ho.1, fun e => ⟨hr e, a.pl, a.dp⟩⟩, ⟨hl.2, ho.2, fun e => ⟨(hr e.symm).symm, b.pl, b.dp⟩⟩, ?_⟩
  rcases c.ne with e | ⟨w, nw, e⟩ | ⟨w, nw, e⟩ | e | e
  · rw [decide_eq_false (fun z => e z.symm), decide_eq_false e]
    exact ⟨rfl, rfl⟩
  · have b' := b.l
    rw [e] at b'
    obtain ⟨_, u, v⟩ := a.l.unlike b' (by rw [keys_map]; exact nw)
    rw [u, v]
    simp
  · have b' := b.o
    rw [e] at b'
    obtain ⟨_, u, v⟩ := a.o.unlike b' (by rw [ownD, keys_map]; exact nw)
    rw [u, v]
    simp
  · have h1 : (R.length == R'.length) = false := by
      rw [a.r, b.r, e, List.length_map, List.length_map, List.length_append]
      simp
    have h2 : (R'.length == R.length) = false := by
      rw [a.r, b.r, e, List.length_map, List.length_map, List.length_append]
      simp
    rw [h1, h2]
    simp
  · have h1 : decide (k.hid = k'.hid) = false := decide_eq_false (fun z => e z.symm)
    have h2 : decide (k'.hid = k.hid) = false := decide_eq_false e
    rw [h1, h2]
    simp
end Kb

set_option Elab.async false
set_option linter.all false
set_option maxRecDepth 100000
set_option maxHeartbeats 1000000
/-! Kb, 57: words for houses: walks, a fresh dict walked, extend by a tuple; Kinds in a row. -/
namespace PySem
open AutoSeq1 MeetsSeq MeetsSeq2 MeetsSeq3 SeqRoads2
theorem kbExtendT (l : Addr) (items : Array Value) (n : Nat) (b : Addr) (more : Array Value) (m : Nat) (dct : Option Addr) (sl : Array (Option Value)) (short : ¬(!items.isEmpty && Builtin.List.listTooLong (items.size + more.size)) = true) (fit : items.size ≤ sizeLine) (fit2 : items.size + more.size ≤ sizeLine + 1) :
    Meets (Builtin.«list.extend» ⟨[.ref l, .ref b], []⟩) (fun _ R s => s.heap.get? l = some { cls := .type "list", dict := none, data := .seq items n, slots := #[] } ∧ s.heap.get? b = some { cls := .type "tuple", dict := dct, data := .seq more m, slots := sl } ∧
      R (.ok (.ret Value.none)) { s with heap := s.heap.update l (Obj.mapSeq fun x => x ++ more), toks := s.toks }) :=
  .of_wp fun prog w A R s h => by
    obtain ⟨hp, g, d, tk, os⟩ := s
    obtain ⟨hl, hb, h⟩ := h
    have f1 := idx_int
    have f2 := sub_tuple_tuple
    have f3 := sub_list_list
    have f4 := sub_tuple_list
    have f5 := sub_list_tuple
    have both : (items ++ more).size ≤ sizeLine + 1 := by
      rw [Array.size_append]
      exact fit2
    wp_walk using (wpAny_updateSeq hl rfl (hz := fit) (_hz' := both)), wpAny_loadPart' hl, wpAny_loadPart' hb
    exact ⟨_, rfl, h⟩
end PySem
namespace Kb
open PySem PySem.Spec PyProof.Rows L2

theorem walk_enumT {K : PySem.W.Frag} {a : Addr} {xs : List V} : Walk (Itet K a) xs.length (fun H => SqT K H a xs) (YPair (fun i => some (.int (i : Nat))) (fun i => xs[i]?)) := by
  refine ⟨fun i _ lt q => ⟨xs, xs[i], q, by simp [lt]⟩, fun _ q => ⟨xs, q, rfl⟩, fun i H v H' _ q y => ?_⟩
  obtain ⟨T, x, h1, h2, h3, h4⟩ := y
  exact ⟨T, .int (i : Nat), x, h1, h2, h3, rfl, h4 xs q⟩
/-- a dict that was just made, from now on never written -/
def tFreeze (te : TE) : TE := fun σ H Q => te σ H fun x H1 => ∃ (d : Addr) (kvs : List (Key × V)), x = .ref d ∧ H1 d = some (.dK kvs) ∧ ∀ od, Q (.ref d) (upd H1 d (.frz od (.dK kvs)))
theorem pe_freeze {X : Cx} {e : Expr} {te : TE} (h : PE X e te) : PE X e (tFreeze te) := by
  refine ⟨fun pins s σ H Q I q => thn (h.run pins s σ H _ I q) fun v s1 ⟨x, H1, I1, r, d, kvs, ex, hd, k⟩ => ?_⟩
  subst ex
  obtain ⟨od, I2⟩ := I1.lock hd trivial
  exact ⟨.ref d, _, I2, r, k od⟩
theorem mt_extendT {X : Cx} : MtM X "list.extend" rExtendT := by
  intro pins s σ H x vs v us Q I rx rv h
  obtain ⟨l, b, xs, zs, rfl, rfl, hl, hb, sz, q⟩ := h
  cases rx
  obtain ⟨u, rfl, ru⟩ := rv.one
  cases ru
  obtain ⟨z, its, n, r, len, e⟩ := I.lstM hl
  obtain ⟨its2, r2, ⟨⟨cls, dct, dat, sl⟩, e2, c2, n2, d2⟩, len2⟩ := I.tuple (SqT.of hb)
  have gc : cls = .type "tuple" := c2
  have gd : dat = .seq its2.toArray n2 := d2
  subst gc gd
  have l2 := r2.length
  have sz2 : its.toArray.size + its2.toArray.size ≤ sizeLine := by
    rw [List.size_toArray, List.size_toArray]
    omega
  have short : ¬(!its.toArray.isEmpty && Builtin.List.listTooLong (its.toArray.size + its2.toArray.size)) = true := by
    rw [notLongL sz2, Bool.and_false]
    exact Bool.false_ne_true
  refine call_meets F.slot_list_extend ⟨_, e, rfl⟩ F.entry_list_extend (F.args_list_extend_2 _ _) (PySem.kbExtendT l its.toArray n b its2.toArray n2 dct sl short (by rw [List.size_toArray]; omega) (by omega)) ⟨e, e2, ?_⟩
  refine ⟨.non, _, I.lset (its' := its ++ its2) hl e (by simp) (r.append r2) ?_, rfl, q⟩
  rw [List.length_append]
  omega
/-- what a Kind keeps -/
structure KB where
  nm : Str
  L : List (Str × D)
  O : List (Str × D)
  R : List D
  h : Bool
def KAt (K : PySem.W.Frag) (M : List Addr) (H : Hp) (b : KB) (v : V) : Prop := ∃ a, v = .ref a ∧ KOb K M H a b.nm b.L b.O b.R b.h
structure KAtL (K : PySem.W.Frag) (M : List Addr) (H : Hp) (bs : List KB) (xs : List V) : Prop where
  len : bs.length = xs.length
  at_ : ∀ (i : Nat) (b : KB) (v : V), bs[i]? = some b → xs[i]? = some v → KAt K M H b v
theorem KAt.mono {K : PySem.W.Frag} {M : List Addr} {H H' : Hp} {b : KB} {v : V} (h : KAt K M H b v) (bt : But M H H') : KAt K M H' b v := let ⟨a, e, k⟩ := h; ⟨a, e, k.mono bt⟩
theorem KAt.less {K : PySem.W.Frag} {M M' : List Addr} {H : Hp} {b : KB} {v : V} (h : KAt K M H b v) (s : ∀ x ∈ M', x ∈ M) : KAt K M' H b v := let ⟨a, e, k⟩ := h; ⟨a, e, k.less s⟩
theorem KAtL.mono {K : PySem.W.Frag} {M : List Addr} {H H' : Hp} {bs : List KB} {xs : List V} (h : KAtL K M H bs xs) (bt : But M H H') : KAtL K M H' bs xs := ⟨h.len, fun i b v e e' => (h.at_ i b v e e').mono bt⟩
theorem KAtL.less {K : PySem.W.Frag} {M M' : List Addr} {H : Hp} {bs : List KB} {xs : List V} (h : KAtL K M H bs xs) (s : ∀ x ∈ M', x ∈ M) : KAtL K M' H bs xs := ⟨h.len, fun i b v e e' => (h.at_ i b v e e').less s⟩
theorem KAtL.get {K : PySem.W.Frag} {M : List Addr} {H : Hp} {bs : List KB} {xs : List V} {i : Nat} {v : V} (h : KAtL K M H bs xs) (e : xs[i]? = some v) : ∃ b, bs[i]? = some b ∧ KAt K M H b v := by
  have lt := (List.getElem?_eq_some_iff.mp e).1
  have lt2 : i < bs.length := by rw [h.len]; exact lt
  exact ⟨bs[i], by simp [lt2], h.at_ i _ v (by simp [lt2]) e⟩
end Kb

set_option Elab.async false
set_option linter.all false
set_option maxRecDepth 100000
set_option maxHeartbeats 2000000
/-! Kb, 58: kinds_by_name. -/
namespace Kb
open PySem PySem.Spec PyProof.Rows L2

/-- things of which P is said, in a row -/
structure RowP (P : KB → V → Prop) (bs : List KB) (xs : List V) : Prop where
  len : bs.length = xs.length
  at_ : ∀ (i : Nat) (b : KB) (v : V), bs[i]? = some b → xs[i]? = some v → P b v
theorem RowP.get {P : KB → V → Prop} {bs : List KB} {xs : List V} {i : Nat} {v : V} (h : RowP P bs xs) (e : xs[i]? = some v) : ∃ b, bs[i]? = some b ∧ P b v := by
  have lt : i < bs.length := by rw [h.len]; exact (List.getElem?_eq_some_iff.mp e).1
  exact ⟨bs[i], List.getElem?_eq_getElem lt, h.at_ i _ v (List.getElem?_eq_getElem lt) e⟩
theorem RowP.imp {P Q : KB → V → Prop} {bs : List KB} {xs : List V} (h : RowP P bs xs) (k : ∀ b v, P b v → Q b v) : RowP Q bs xs := ⟨h.len, fun i b v e e' => k b v (h.at_ i b v e e')⟩
/-- a table by the names -/
structure TabP (P : KB → V → Prop) (bs : List KB) (kvs : List (Key × V)) : Prop where
  len : kvs.length = bs.length
  at_ : ∀ (i : Nat) (b : KB) (k : Key) (v : V), bs[i]? = some b → kvs[i]? = some (k, v) → k = .inr b.nm ∧ P b v
section
variable {P Q : KB → V → Prop} {bs : List KB} {kvs : List (Key × V)}
theorem TabP.imp (h : TabP P bs kvs) (k : ∀ b v, P b v → Q b v) : TabP Q bs kvs := ⟨h.len, fun i b key v e e' => ⟨(h.at_ i b key v e e').1, k b v (h.at_ i b key v e e').2⟩⟩
theorem TabP.nil : TabP P [] [] := ⟨rfl, fun i b k v e => by cases e⟩
theorem TabP.get (h : TabP P bs kvs) {i : Nat} {k : Key} {v : V} (e : kvs[i]? = some (k, v)) : ∃ b, bs[i]? = some b ∧ k = .inr b.nm ∧ P b v := by
  have lt : i < bs.length := by rw [← h.len]; exact (List.getElem?_eq_some_iff.mp e).1
  exact ⟨bs[i], List.getElem?_eq_getElem lt, h.at_ i _ k v (List.getElem?_eq_getElem lt) e⟩
theorem TabP.keys (h : TabP P bs kvs) : kvs.map (·.1) = (bs.map KB.nm).map Sum.inr := by
  refine List.ext_getElem? fun i => ?_
  rw [List.getElem?_map, List.getElem?_map, List.getElem?_map]
  cases e : kvs[i]? with
  | none =>
    have : bs[i]? = none := List.getElem?_eq_none (by rw [← h.len]; exact List.getElem?_eq_none_iff.mp e)
    rw [this]
    rfl
  | some kv =>
    obtain ⟨k, v⟩ := kv
    obtain ⟨b, eb, ek, _⟩ := h.get e
    rw [eb, ek]
    rfl
theorem TabP.snoc (h : TabP P bs kvs) {b : KB} {v : V} (p : P b v) : TabP P (bs ++ [b]) (kvs ++ [(Sum.inr b.nm, v)]) := by
  refine ⟨by rw [List.length_append, List.length_append, h.len]; rfl, fun i b' k' v' e e' => ?_⟩
  by_cases lt : i < bs.length
  · rw [List.getElem?_append_left lt] at e
    rw [List.getElem?_append_left (by rw [h.len]; exact lt)] at e'
    exact h.at_ i b' k' v' e e'
  · have li : i = bs.length := by
      have := (List.getElem?_eq_some_iff.mp e).1
      rw [List.length_append, List.length_singleton] at this
      omega
    subst li
    rw [List.getElem?_append_right (Nat.le_refl _), Nat.sub_self] at e
    rw [List.getElem?_append_right (by rw [h.len]; exact Nat.le_refl _), h.len, Nat.sub_self] at e'
    cases e
    cases e'
    exact ⟨rfl, p⟩
theorem TabP.val (h : TabP P bs kvs) (nd : (bs.map KB.nm).Nodup) {b : KB} (m : b ∈ bs) : ∃ v, valV kvs (.inr b.nm) = some v ∧ P b v := by
  obtain ⟨i, e⟩ := List.mem_iff_getElem?.mp m
  have lt : i < kvs.length := by rw [h.len]; exact (List.getElem?_eq_some_iff.mp e).1
  have ek := List.getElem?_eq_getElem lt
  obtain ⟨k1, p⟩ := h.at_ i b kvs[i].1 kvs[i].2 e ek
  have ndk : (kvs.map (·.1)).Nodup := by
    rw [h.keys]
    exact List.Pairwise.map Sum.inr (fun a b (e : a ≠ b) => fun z => e (Sum.inr.inj z)) nd
  have q := val_nodup ndk kvs[i] (List.getElem_mem lt)
  rw [k1] at q
  exact ⟨_, q, p⟩
theorem TabP.none (h : TabP P bs kvs) {n : Str} (m : n ∉ bs.map KB.nm) : valV kvs (.inr n) = none := by
  cases e : valV kvs (Sum.inr n : Key) with
  | none => rfl
  | some v =>
    unfold valV at e
    obtain ⟨kv, e1, _⟩ := Option.map_eq_some_iff.mp e
    have hk : kv.1 = .inr n := of_decide_eq_true (by simpa using List.find?_some e1)
    have mk : kv.1 ∈ kvs.map (·.1) := List.mem_map.mpr ⟨kv, List.mem_of_find?_eq_some e1, rfl⟩
    rw [h.keys, hk] at mk
    obtain ⟨z, mz, ez⟩ := List.mem_map.mp mk
    cases ez
    exact absurd mz m
end
theorem put_new {kvs : List (Key × V)} {k : Key} {v : V} (h : valV kvs k = none) : putK kvs k v = kvs ++ [(k, v)] := by
  unfold putK
  rw [if_neg]
  intro z
  obtain ⟨kv, m, e⟩ := List.any_eq_true.mp z
  unfold valV at h
  have := List.find?_eq_none.mp (Option.map_eq_none_iff.mp h) kv m
  exact this e

/-- is_list of data, or of any list or tuple -/
def sp_is_listA (K : PySem.W.Frag) : Sp := fun vs H Q E => sp_is_list K vs H Q E ∨ ∃ (p : Addr) (xs : List V), vs = [.ref p] ∧ SqV K H p xs ∧ ∀ H', But [] H H' → Q (.bl true) H'
theorem len_is_listA {K : PySem.W.Frag} {vs : List V} {H : Hp} {Q : VK} {E : XK} (h : sp_is_listA K vs H Q E) : vs.length = 1 := by
  rcases h with h | ⟨_, _, rfl, _⟩
  · exact len_is_list h
  · rfl
theorem SqV.ty {K : PySem.W.Frag} {H : Hp} {p : Addr} {xs : List V} (h : SqV K H p xs) : ∃ d : D, TyX K H (.ref p) (.type d.ty) ∧ d.isSeq = true := by
  rcases h with ((h | ⟨o, h⟩) | ⟨o, _, _, h, c, _⟩) | ((h | ⟨o, h⟩) | ⟨o, _, _, h, c, _⟩)
  · exact ⟨.lst [], .base (.lst h), rfl⟩
  · exact ⟨.lst [], .base (.frz h), rfl⟩
  · exact ⟨.lst [], .kList h c, rfl⟩
  · exact ⟨.tup [], .base (.tup h), rfl⟩
  · exact ⟨.tup [], .fTuple h, rfl⟩
  · exact ⟨.tup [], .kTuple h c, rfl⟩
theorem SqV.lenv {K : PySem.W.Frag} {H : Hp} {p : Addr} {xs : List V} (h : SqV K H p xs) : LenV K (.ref p) H xs.length := h.imp (fun h => ⟨_, h, rfl⟩) (fun h => ⟨_, h, rfl⟩)
theorem pure_is_listA {K : PySem.W.Frag} (vs : List V) (H : Hp) (Q : VK) (E : XK) (h : sp_is_listA K vs H Q E) : t_is_list K (fin Q) (st0 1 vs) H := by
  rcases h with h | ⟨p, xs, rfl, sq, k⟩
  · exact pure_is_list vs H Q E h
  refine ⟨_, rfl, by show 2 ≤ sizeLine; decide, fun t ht => ?_⟩
  have b : But [] H (upd H t (.tup [.ty "list", .ty "tuple"])) := But.new ht
  obtain ⟨d, ty, e⟩ := (sq.but b).ty
  exact ⟨.ref p, t, _, _, _, true, rfl, upd_same, .cons (.ty _) (.cons (.ty _) .nil), ty, by rw [← e]; exact kit_seq, k _ b⟩
def sp_kinds_by_name (K : PySem.W.Frag) : Sp := fun vs H Q _ => ∃ (p : Addr) (xs : List V) (bs : List KB) (P : KB → V → Prop), vs = [.ref p] ∧ KindI K ∧ SqV K H p xs ∧ RowP P bs xs ∧ (∀ b v, P b v → KAt K [] H b v) ∧ 1 ≤ bs.length ∧ bs.length ≤ 4 ∧ (bs.map KB.nm).Nodup ∧
  ∀ bs' kvs d H', bs'.Perm bs → sortedS (bs'.map KB.nm) = true → TabP P bs' kvs → H d = none → H' d = some (.dK kvs) → But [] H H' → Q (.ref d) H'
theorem len_kinds_by_name {K : PySem.W.Frag} {vs : List V} {H : Hp} {Q : VK} {E : XK} (h : sp_kinds_by_name K vs H Q E) : vs.length = 1 := by
  obtain ⟨_, _, _, _, rfl, _⟩ := h
  rfl
def t_kinds_by_name (K : PySem.W.Frag) : TS :=
  (tSeq (tIfS (tOr (tNot (tB (tCall (sp_is_listA K) [] E0 (tCons (tVar 0) tNil)))) (tNot (tTest (tChain rLeI rLeI (tC (.int 1)) (tCB (rLenA K) (tCons (tVar 0) tNil)) (tC (.int 4))))))
    tNever
    tNext)
  (tSeq (tAsg tDNewK (gName 1))
  (tSeq (tFor (iEnumA K (tCons (tVar 0) tNil)) (gTup K 2 (gCons (gName 2) (gCons (gName 3) gNil)))
    (tSeq (tIfS (tOr (tNot (tB (tCB (rIsi K) (tCons (tVar 3) (tCons (tC (.ref (He.ga K "Kind"))) tNil))))) (tB (tDIn (tProp (He.ga K "Kind") (sp_Kind_name K) [] E0 (tVar 3)) (tVar 1))))
    tNever
    tNext)
  (sDPut (tVar 1) (tProp (He.ga K "Kind") (sp_Kind_name K) [] E0 (tVar 3)) (tVar 3))))
  (tRet (tDc (iList K (tCB rSortD (tCons (tVar 1) tNil))) (gName 4) tYes (tVar 4) (tDGet (tVar 1) (tVar 4)) [4])))))
theorem KAt.isi {K : PySem.W.Frag} {M : List Addr} {H : Hp} {b : KB} {v : V} (C : KindI K) (h : KAt K M H b v) : TyX K H v (.ref (KC K)) := by
  obtain ⟨a, rfl, dx, l, o, r, na, ea, hl, ho, hr⟩ := h
  exact .base (.ins ea C.kc.cls C.cl C.gt C.tk C.mr)
theorem KAt.name {K : PySem.W.Frag} {M : List Addr} {H : Hp} {b : KB} {v : V} {Q : VK} (C : KindI K) (h : KAt K M H b v) (q : Q (.str b.nm) H) : ∃ a dx fs, v = V.ref a ∧ H a = some (HO.ins (KC K) dx fs) ∧ sp_Kind_name K [.ref a] H Q E0 := by
  obtain ⟨a, rfl, dx, l, o, r, na, ea, hl, ho, hr⟩ := h
  exact ⟨a, dx, _, rfl, ea, a, dx, _, _, rfl, C.kc.cls, C.kc.n1, ea, rfl, q⟩
theorem sqL_but {K : PySem.W.Frag} {H H' : Hp} {p : Addr} {xs : List V} (h : SqL K H p xs) (b : But [] H H') : SqL K H' p xs := by
  rcases h with (h | ⟨o, h⟩) | h
  · exact .inl (.inl (b.keep _ _ (by simp) h))
  · exact .inl (.inr ⟨o, b.keep _ _ (by simp) h⟩)
  · exact .inr h
theorem sqT_but {K : PySem.W.Frag} {H H' : Hp} {p : Addr} {xs : List V} (h : SqT K H p xs) (b : But [] H H') : SqT K H' p xs := by
  rcases h with (h | ⟨o, h⟩) | h
  · exact .inl (.inl (b.keep _ _ (by simp) h))
  · exact .inl (.inr ⟨o, b.keep _ _ (by simp) h⟩)
  · exact .inr h
/-- a walk with enumerate over either -/
theorem enumA {K : PySem.W.Frag} {H H1 : Hp} {p : Addr} {xs : List V} {R : It → Hp → Prop} (sq : SqV K H p xs) (b1 : But [] H H1)
    (k : ∀ (J : It) (G : Hp → Prop), Walk J xs.length G (YPair (fun i => some (.int (i : Nat))) (fun i => xs[i]?)) → (∀ H', But [] H H' → G H') → R J H1) :
    ((∃ ys, SqL K H1 p ys) ∧ R (Ite K p) H1) ∨ ((∃ ys, SqT K H1 p ys) ∧ R (Itet K p) H1) := by
  rcases sq with h | h
  · exact .inl ⟨⟨_, sqL_but h b1⟩, k _ _ walk_enum fun H' b => sqL_but h b⟩
  · exact .inr ⟨⟨_, sqT_but h b1⟩, k _ _ walk_enumT fun H' b => sqT_but h b⟩
theorem run_enumA {K : PySem.W.Frag} {H H1 : Hp} {p : Addr} {xs : List V} {R : It → Hp → Prop} {j : Nat} {σ : L2.St} (hσ : σ[j]? = some (some (.ref p))) (sq : SqV K H p xs) (b1 : But [] H H1)
    (k : ∀ (J : It) (G : Hp → Prop), Walk J xs.length G (YPair (fun i => some (.int (i : Nat))) (fun i => xs[i]?)) → (∀ H', But [] H H' → G H') → R J H1) :
    iEnumA K (tCons (tVar j) tNil) σ H1 R := ⟨_, hσ, p, rfl, enumA (R := R) sq b1 k⟩
theorem perm_lift {α β : Type} {f : α → β} {l1 l2 : List β} (h : l1.Perm l2) : ∀ bs : List α, bs.map f = l2 → ∃ bs' : List α, bs'.Perm bs ∧ bs'.map f = l1 := by
  induction h with
  | nil => exact fun bs e => ⟨bs, .refl _, e⟩
  | cons a _ ih =>
    intro bs e
    cases bs with
    | nil => cases e
    | cons b r =>
      rw [List.map_cons] at e
      obtain ⟨e1, e2⟩ := List.cons.inj e
      obtain ⟨bs', p, m⟩ := ih r e2
      exact ⟨b :: bs', p.cons b, by rw [List.map_cons, e1, m]⟩
  | swap a c l =>
    intro bs e
    cases bs with
    | nil => cases e
    | cons b r =>
      rw [List.map_cons] at e
      obtain ⟨e1, e2⟩ := List.cons.inj e
      cases r with
      | nil => cases e2
      | cons b2 r2 =>
        rw [List.map_cons] at e2
        obtain ⟨e3, e4⟩ := List.cons.inj e2
        exact ⟨b2 :: b :: r2, .swap _ _ _, by rw [List.map_cons, List.map_cons, e1, e3, e4]⟩
  | trans _ _ ih1 ih2 =>
    intro bs e
    obtain ⟨b2, p2, m2⟩ := ih2 bs e
    obtain ⟨b1, p1, m1⟩ := ih1 b2 m2
    exact ⟨b1, p1.trans p2, m1⟩
theorem pure_kinds_by_name {K : PySem.W.Frag} (vs : List V) (H : Hp) (Q : VK) (E : XK) (h : sp_kinds_by_name K vs H Q E) : t_kinds_by_name K (fin Q) (st0 5 vs) H := by
  obtain ⟨p, xs, bs, P, rfl, C, sq, rp, ka, lo, hi, nd, k⟩ := h
  have c := C.kc.cls
  have hlen := rp.len
  refine ⟨_, rfl, .inr ⟨p, xs, rfl, sq, fun H1 B1 => ⟨true, rfl, ?_⟩⟩⟩
  refine iteF ?_
  have sq1 := sq.but B1
  refine ⟨_, rfl, .ref p, xs.length, rfl, sq1.lenv, _, _, rfl, rfl, _, rfl, ?_⟩
  refine ite2 (fun _ => ?_) (fun z => absurd (decide_eq_true (by omega : (1 : Int) ≤ (xs.length : Int))) z)
  refine ⟨_, _, rfl, rfl, _, rfl, ?_⟩
  have e4 : decide ((xs.length : Int) ≤ 4) = true := decide_eq_true (by omega)
  rw [e4]
  refine iteF ?_
  intro tb htb
  have B2 : But [] H1 (upd H1 tb (.dK [])) := But.new htb
  have sq2 := sq1.but B2
  have ht2 : (upd H1 tb (.dK [])) tb = some (.dK []) := upd_same
  have htb0 := B1.free htb
  show tFor (iEnumA K (tCons (tVar 0) tNil)) _ _ _ ((st0 5 [V.ref p]).set 1 (some (.ref tb))) _
  unfold tFor
  refine run_enumA (p := p) rfl sq (B1.trans B2) fun J G w g => ?_
  refine for_it w (fun i σ H2 => ∃ kvs, H2 tb = some (.dK kvs) ∧ TabP P (bs.take i) kvs ∧ But [] H H2 ∧ ∃ v2 v3, σ = [some (.ref p), some (.ref tb), v2, v3, none]) ⟨[], ht2, TabP.nil, B1.trans B2, _, _, rfl⟩ (fun i σ H2 _ ⟨_, _, _, B, _⟩ => g H2 B) ?_ ?_
  · rintro i x σ H2 H3 hi ⟨kvs, e1, e2, B, v2, v3, rfl⟩ ⟨T, z0, y, rfl, hT, rfl, ez0, ey⟩
    obtain rfl : V.int (i : Nat) = z0 := Option.some.inj ez0
    have ey : xs[i]? = some y := ey
    have T2 : (upd H2 T (.tup [.int (i : Nat), y])) T = some (.tup [.int (i : Nat), y]) := upd_same
    have BT : But [] H2 (upd H2 T (.tup [.int (i : Nat), y])) := But.new hT
    generalize upd H2 T (.tup [.int (i : Nat), y]) = H3 at T2 BT ⊢
    have B3 := B.trans BT
    obtain ⟨b, eb, pb⟩ := rp.get ey
    have kb := (ka b y pb).mono B3
    have e3 := BT.keep _ _ (by simp) e1
    have hno : valV kvs (Sum.inr b.nm : Key) = none := e2.none fun m => by
      obtain ⟨b2, m2, en⟩ := List.mem_map.mp m
      have nd2 : ((bs.take (i + 1)).map KB.nm).Nodup := nd.sublist ((List.take_sublist ..).map _)
      rw [List.take_add_one, eb, List.map_append] at nd2
      exact (List.nodup_append.mp nd2).2.2 b2.nm (List.mem_map.mpr ⟨b2, m2, rfl⟩) b.nm (List.mem_singleton.mpr rfl) en
    refine ⟨T, _, rfl, SqT.of T2, rfl, _, _, rfl, _, _, rfl, rfl, ?_⟩
    refine ⟨_, rfl, y, .ref (KC K), _, _, true, rfl, .own _, kb.isi C, C.ki, _, rfl, ?_⟩
    refine iteF ?_
    refine ⟨_, rfl, kb.name C ?_⟩
    refine ⟨_, rfl, tb, _, rfl, .inl ⟨kvs, .inr b.nm, .inl e3, rfl, hno.symm⟩, _, rfl, ?_⟩
    refine iteF ?_
    refine ⟨_, rfl, _, rfl, _, rfl, kb.name C ?_⟩
    have l4 : kvs.length < 64 := by
      rw [e2.len, List.length_take]
      omega
    refine ⟨tb, _, rfl, .inl ⟨kvs, .inr b.nm, e3, rfl, small1000 (by omega), rfl⟩, kvs ++ [(.inr b.nm, y)], ?_, ?_, B3.upd (.inr htb0), _, _, rfl⟩
    · rw [upd_same, put_new hno]
    · rw [List.take_add_one, eb]
      exact e2.snoc pb
  · rintro σ H2 ⟨kvs, e1, e2, B, v2, v3, rfl⟩
    rw [← hlen, List.take_length] at e2
    have hk := e2.keys
    have lk := e2.len
    refine ⟨_, rfl, tb, kvs, bs.map KB.nm, rfl, .inl e1, hk, by rw [List.length_map]; omega, fun ys q hperm hsort hq => ?_⟩
    refine ⟨q, rfl, ⟨_, SqL.of upd_same⟩, fun Dd hD => ?_⟩
    obtain ⟨bs', pb, mb⟩ := perm_lift hperm bs rfl
    subst mb
    have hq1 : (upd H2 q (.lst ((bs'.map KB.nm).map V.str))) q = some (.lst ((bs'.map KB.nm).map V.str)) := upd_same
    have Bq : But [] H2 (upd H2 q (.lst ((bs'.map KB.nm).map V.str))) := But.new hq
    generalize upd H2 q (.lst ((bs'.map KB.nm).map V.str)) = H3 at hD hq1 Bq ⊢
    have e3 := Bq.keep _ _ (by simp) e1
    have ndb : (bs'.map KB.nm).Nodup := (hperm.nodup_iff).mpr nd
    have lb : bs'.length = bs.length := pb.length_eq
    have B3 := B.trans Bq
    have hD0 := B3.free hD
    refine dc_it (J := Itl K q) walk_list (fun i H' => ∃ kvs', TabP P (bs'.take i) kvs' ∧ H' Dd = some (.dK kvs') ∧ But [] H3 H') ⟨[], .nil, upd_same, But.new hD⟩ (fun i H' _ ⟨_, _, _, B4⟩ => SqL.of (B4.keep _ _ (by simp) hq1)) ?_ ?_
    · rintro i x H4 H5 hi ⟨kvs', t1, t2, B4⟩ ⟨rfl, hx⟩
      rw [List.getElem?_map, List.getElem?_map] at hx
      obtain ⟨n, hn, rfl⟩ := Option.map_eq_some_iff.mp hx
      obtain ⟨b, hb, rfl⟩ := Option.map_eq_some_iff.mp hn
      obtain ⟨v, ev, pv⟩ := e2.val nd (pb.mem_iff.mp (List.mem_of_getElem? hb))
      have hno : valV kvs' (Sum.inr b.nm : Key) = none := t1.none fun m => by
        obtain ⟨b2, m2, en⟩ := List.mem_map.mp m
        have nd2 : ((bs'.take (i + 1)).map KB.nm).Nodup := ndb.sublist ((List.take_sublist ..).map _)
        rw [List.take_add_one, hb, List.map_append] at nd2
        exact (List.nodup_append.mp nd2).2.2 b2.nm (List.mem_map.mpr ⟨b2, m2, rfl⟩) b.nm (List.mem_singleton.mpr rfl) en
      refine ⟨wipe_one, ?_⟩
      refine ⟨_, rfl, _, rfl, _, rfl, tb, v, rfl, .inl ⟨kvs, .inr b.nm, .inl (B4.keep _ _ (by simp) e3), rfl, ev.symm⟩, ?_⟩
      have l4 : kvs'.length < 64 := by
        rw [t1.len, List.length_take]
        omega
      refine ⟨kvs', .inr b.nm, rfl, t2, small1000 (by omega), kvs' ++ [(.inr b.nm, v)], ?_, ?_, B4.upd (.inr hD)⟩
      · rw [List.take_add_one, hb]
        exact t1.snoc pv
      · rw [upd_same, put_new hno]
    · rintro H4 ⟨kvs', t1, t2, B4⟩
      rw [List.length_map, List.length_map, List.take_length] at t1
      exact k bs' kvs' Dd H4 pb hsort t1 hD0 t2 (B3.trans B4)
end Kb

set_option Elab.async false
set_option linter.all false
set_option maxRecDepth 100000
set_option maxHeartbeats 2000000
/-! Kb, 59: leads_only_to, named_by. -/
namespace Kb
open PySem PySem.Spec PyProof.Rows L2

theorem TabP.has {P : KB → V → Prop} {bs : List KB} {kvs : List (Key × V)} (h : TabP P bs kvs) (nd : (bs.map KB.nm).Nodup) (n : Str) : (valV kvs (.inr n)).isSome = decide (n ∈ bs.map KB.nm) := by
  by_cases m : n ∈ bs.map KB.nm
  · obtain ⟨b, mb, rfl⟩ := List.mem_map.mp m
    obtain ⟨v, e, _⟩ := h.val nd mb
    rw [e, decide_eq_true m]
    rfl
  · rw [h.none m, decide_eq_false m]
    rfl
/-- the choices of links as a Kind keeps them -/
def ChoicesB (L : List (Str × D)) : Prop := ∀ x ∈ L, ∃ ys : List Str, x.2 = nmD ys ∧ ys.length ≤ 4
def choB (ns : List Str) (c : Str) : Bool := decide (c = "") || decide (c ∈ ns)
def leadsB (L : List (Str × D)) (ns : List Str) : Bool := L.all fun x => (strsOf x.2.items).all (choB ns)
/-- what the Kind at v keeps -/
theorem KAt.open' {K : PySem.W.Frag} {M : List Addr} {H : Hp} {b : KB} {v : V} (h : KAt K M H b v) : ∃ a dx fs l o r kl ko xs, v = .ref a ∧ H a = some (.ins (KC K) dx fs) ∧ fs = kf b.nm (.ref l) (.ref o) (.ref r) b.h ∧
    H l = some (.dK kl) ∧ AtP M H b.L kl ∧ H o = some (.dK ko) ∧ AtP M H b.O ko ∧ H r = some (.lst xs) ∧ AtL M H b.R xs := by
  obtain ⟨a, rfl, dx, l, o, r, na, ea, ⟨l', kl, rfl, _, hl, hl2⟩, ⟨o', ko, rfl, _, ho, ho2⟩, ⟨r', xs, rfl, _, hr, hr2⟩⟩ := h
  exact ⟨a, dx, _, l', o', r', kl, ko, xs, rfl, ea, rfl, hl, hl2.less (fun x m => by simp [m]), ho, ho2.less (fun x m => by simp [m]), hr, hr2.less (fun x m => by simp [m])⟩
def sp_leads_only_to (K : PySem.W.Frag) : Sp := fun vs H Q _ => ∃ (v : V) (b : KB) (d : Addr) (kvs : List (Key × V)) (bs : List KB) (P : KB → V → Prop), vs = [v, .ref d] ∧ KindC K ∧ KAt K [] H b v ∧ ChoicesB b.L ∧
  H d = some (.dK kvs) ∧ TabP P bs kvs ∧ (bs.map KB.nm).Nodup ∧ ∀ H', But [] H H' → Q (.bl (leadsB b.L (bs.map KB.nm))) H'
theorem len_leads_only_to {K : PySem.W.Frag} {vs : List V} {H : Hp} {Q : VK} {E : XK} (h : sp_leads_only_to K vs H Q E) : vs.length = 2 := by
  obtain ⟨_, _, _, _, _, _, rfl, _⟩ := h
  rfl
def t_leads_only_to (K : PySem.W.Frag) : TS :=
  (tSeq (tFor (iVals (tFreeze (tMeth (He.ga K "Kind") "links" (sp_Kind_links K) [] E0 (tVar 0) tNil))) (gName 2)
    (tIfS (tNot (tB (tCB (rAll K) (tCons (tLc (iTup K (tVar 2)) (gName 3) tYes (tOrV (tOp rEq (tVar 3) (tC (.str ("" : Str)))) (tDIn (tVar 3) (tVar 1))) [3]) tNil))))
    (tRet (tC (.bl false)))
    tNext))
  (tRet (tC (.bl true))))
theorem leads_take {L : List (Str × D)} {ns : List Str} {i : Nat} {x : Str × D} (e : L[i]? = some x) (h : leadsB (L.take i) ns = true) : leadsB (L.take (i + 1)) ns = (strsOf x.2.items).all (choB ns) := by
  unfold leadsB at h ⊢
  rw [List.take_add_one, e, List.all_append, h, Bool.true_and]
  simp
theorem leads_false {L : List (Str × D)} {ns : List Str} {i : Nat} (h : leadsB (L.take i) ns = false) : leadsB L ns = false := by
  cases e : leadsB L ns with
  | false => rfl
  | true =>
    have : leadsB (L.take i) ns = true := List.all_eq_true.mpr fun x m => List.all_eq_true.mp e x (List.mem_of_mem_take m)
    rw [this] at h
    cases h
theorem pure_leads_only_to {K : PySem.W.Frag} (vs : List V) (H : Hp) (Q : VK) (E : XK) (h : sp_leads_only_to K vs H Q E) : t_leads_only_to K (fin Q) (st0 4 vs) H := by
  obtain ⟨v, b, d, kvs, bs, P, rfl, C, kb, cb, hd, tp, nd, k⟩ := h
  obtain ⟨a, dx, fs, l, o, r, kl, ko, xs, rfl, ea, rfl, hl, hl2, ho, ho2, hr, hr2⟩ := kb.open'
  refine ⟨_, rfl, a, dx, _, rfl, ea, by rfl, a, dx, _, _, rfl, C.cls, C.n2, ea, rfl, l, kl, rfl, hl, fun p hp => ?_⟩
  refine ⟨p, kl, rfl, upd_same, fun od => ?_⟩
  have B1 : But [] H (upd (upd H p (.dK kl)) p (.frz od (.dK kl))) := (But.new hp).upd (.inr hp)
  have hp1 : (upd (upd H p (.dK kl)) p (.frz od (.dK kl))) p = some (.frz od (.dK kl)) := upd_same
  generalize upd (upd H p (.dK kl)) p (.frz od (.dK kl)) = H1 at B1 hp1 ⊢
  refine ⟨p, od, kl, rfl, hp1, ?_⟩
  refine for_it walk_values (fun i σ H2 => But [] H1 H2 ∧ leadsB (b.L.take i) (bs.map KB.nm) = true ∧ ∃ v2, σ = [some (.ref a), some (.ref d), v2, none]) ⟨But.refl, rfl, _, rfl⟩ (fun i σ H2 _ q => q.1.keep _ _ (by simp) hp1) ?_ ?_
  · rintro i y σ H2 H3 hi ⟨B, lt, v2, rfl⟩ ⟨rfl, key, ey⟩
    obtain ⟨n, e, en, rfl, ae⟩ := hl2.get ey
    obtain ⟨ys, ee, ly⟩ := cb _ (List.mem_of_getElem? en)
    obtain rfl : e = nmD ys := ee
    have B2 := B1.trans B
    have ae2 := ae.mono B2
    obtain ⟨T, zs, rfl, _, hT, hz⟩ := ae2
    obtain ⟨ez, _⟩ := strs_at hz (by simp [D.isStr])
    rw [strsOf_map] at ez
    subst ez
    have lt2 := leads_take en lt
    have hd3 := B2.keep _ _ (by simp) hd
    have all : (strsOf (nmD ys).items).all (choB (bs.map KB.nm)) = ys.all (choB (bs.map KB.nm)) := by
      show (strsOf (ys.map D.str)).all _ = _
      rw [strsOf_map]
    refine ⟨_, rfl, T, rfl, ⟨_, SqT.of hT⟩, fun Dd hD => ?_⟩
    refine lc_it (J := Itt K T) walk_tup (fun j H4 => H4 Dd = some (.lst ((ys.take j).map fun c => V.bl (choB (bs.map KB.nm) c))) ∧ But [] H3 H4) ⟨upd_same, But.new hD⟩ (fun j H4 _ q => SqT.of (q.2.keep _ _ (by simp) hT)) ?_ ?_
    · rintro j x H4 H5 hj ⟨e4, B4⟩ ⟨rfl, ex⟩
      rw [List.getElem?_map] at ex
      obtain ⟨c, ec, rfl⟩ := Option.map_eq_some_iff.mp ex
      refine ⟨wipe_one, ?_⟩
      have more : ∀ b' : Bool, b' = choB (bs.map KB.nm) c → ∃ acc, H5 Dd = some (.lst acc) ∧ acc.length < sizeLine ∧ (upd H5 Dd (.lst (acc ++ [V.bl b']))) Dd = some (.lst ((ys.take (j + 1)).map fun c => V.bl (choB (bs.map KB.nm) c))) ∧ But [] H3 (upd H5 Dd (.lst (acc ++ [V.bl b']))) := by
        rintro _ rfl
        refine ⟨_, e4, small1000 (by rw [List.length_map, List.length_take]; omega), ?_, B4.upd (.inr hD)⟩
        rw [upd_same, List.take_add_one, ec, List.map_append]
        rfl
      refine ⟨_, rfl, rfl, _, rfl, ?_⟩
      refine ite2 (fun z => ?_) (fun z => ?_)
      · refine more true ?_
        unfold choB
        rw [show decide (c = "") = true from by simpa using z]
        rfl
      · refine ⟨_, rfl, _, rfl, d, _, rfl, .inl ⟨kvs, .inr c, .inl (B4.keep _ _ (by simp) hd3), rfl, rfl⟩, ?_⟩
        refine more _ ?_
        unfold choB
        rw [show decide (c = "") = false from by simpa using z, tp.has nd]
        rfl
    · rintro H4 ⟨e4, B4⟩
      rw [List.length_map, List.take_length] at e4
      refine ⟨Dd, ys.map (choB (bs.map KB.nm)), rfl, SqL.of (by rw [e4, List.map_map]; rfl), _, rfl, ?_⟩
      rw [List.all_map]
      show if (!(ys.all (choB (bs.map KB.nm)))) = true then _ else _
      rw [← all, ← lt2]
      cases e5 : leadsB (b.L.take (i + 1)) (bs.map KB.nm) with
      | true => exact iteF ⟨B.trans B4, rfl, _, rfl⟩
      | false =>
        refine iteT ?_
        have := k H4 (B2.trans B4)
        rw [leads_false e5] at this
        exact this
  · rintro σ H2 ⟨B, lt, v2, rfl⟩
    have e : kl.length = b.L.length := hl2.length
    rw [e, List.take_length] at lt
    have := k H2 (B1.trans B)
    rw [lt] at this
    exact this
end Kb

set_option Elab.async false
set_option linter.all false
set_option maxRecDepth 100000
set_option maxHeartbeats 2000000
/-! Kb, 60: named_by. -/
namespace Kb
open PySem PySem.Spec PyProof.Rows L2

/-- the name that a rule sends on under, or the empty text -/
def Rule.sub : Rule → Str
  | .send _ _ u _ _ => u
  | _ => ""
def Rule.more (r : Rule) : List Str := if r.sub = "" then [] else [r.sub]
def Rule.told (r : Rule) : List Str := r.names ++ r.more
/-- the names that a Kind names, with repetitions -/
def namedB (O : List (Str × D)) (rs : List Rule) : List Str := keysD O ++ rs.flatMap Rule.told
theorem rule_at {M : List Addr} {H : Hp} {r : Rule} {x : V} (h : At M H r.d x) : ∃ T T1 ys, x = .ref T ∧ H T = some (.tup (.str r.form :: .ref T1 :: ys)) ∧ H T1 = some (.tup (r.names.map V.str)) ∧
    (r.form = "send" → ∃ y0 yr, ys = y0 :: .str r.sub :: yr) ∧ (r.form ≠ "send" → r.sub = "") := by
  have nm : ∀ {ns : List Str} {z : V}, At M H (nmD ns) z → ∃ T1, z = .ref T1 ∧ H T1 = some (.tup (ns.map V.str)) := fun {ns z} h => by
    obtain ⟨T1, zs, rfl, _, hT, hz⟩ := h
    obtain ⟨ez, _⟩ := strs_at hz (by simp [D.isStr])
    rw [strsOf_map] at ez
    exact ⟨T1, rfl, by rw [hT, ez]⟩
  cases r with
  | bar ns =>
    obtain ⟨T, xs, rfl, _, hT, x0, xr, rfl, h0, x1, xr1, rfl, h1, hr⟩ := h
    cases h0
    obtain ⟨T1, rfl, e⟩ := nm h1
    exact ⟨T, T1, _, rfl, hT, e, fun z => absurd (show ("bar" : Str) = "send" from z) (by decide), fun _ => rfl⟩
  | tell ns v =>
    obtain ⟨T, xs, rfl, _, hT, x0, xr, rfl, h0, x1, xr1, rfl, h1, hr⟩ := h
    cases h0
    obtain ⟨T1, rfl, e⟩ := nm h1
    exact ⟨T, T1, _, rfl, hT, e, fun z => absurd (show ("tell" : Str) = "send" from z) (by decide), fun _ => rfl⟩
  | self ns =>
    obtain ⟨T, xs, rfl, _, hT, x0, xr, rfl, h0, x1, xr1, rfl, h1, hr⟩ := h
    cases h0
    obtain ⟨T1, rfl, e⟩ := nm h1
    exact ⟨T, T1, _, rfl, hT, e, fun z => absurd (show ("self" : Str) = "send" from z) (by decide), fun _ => rfl⟩
  | give ns l b =>
    obtain ⟨T, xs, rfl, _, hT, x0, xr, rfl, h0, x1, xr1, rfl, h1, hr⟩ := h
    cases h0
    obtain ⟨T1, rfl, e⟩ := nm h1
    exact ⟨T, T1, _, rfl, hT, e, fun z => absurd (show ("give" : Str) = "send" from z) (by decide), fun _ => rfl⟩
  | send ns l u b w =>
    obtain ⟨T, xs, rfl, _, hT, x0, xr, rfl, h0, x1, xr1, rfl, h1, x2, xr2, rfl, h2, x3, xr3, rfl, h3, hr⟩ := h
    cases h0
    cases h3
    obtain ⟨T1, rfl, e⟩ := nm h1
    exact ⟨T, T1, _, rfl, hT, e, fun _ => ⟨_, _, rfl⟩, fun z => absurd rfl z⟩
def sp_named_by (K : PySem.W.Frag) : Sp := fun vs H Q _ => ∃ (v : V) (b : KB) (rs : List Rule), vs = [v] ∧ KindC K ∧ KAt K [] H b v ∧ b.R = rs.map Rule.d ∧ b.O.length ≤ 5 ∧ rs.length ≤ 300 ∧ (∀ r ∈ rs, r.names.length ≤ 4) ∧
  ∀ p H', H p = none → H' p = some (.lst ((namedB b.O rs).map V.str)) → But [] H H' → Q (.ref p) H'
theorem len_named_by {K : PySem.W.Frag} {vs : List V} {H : Hp} {Q : VK} {E : XK} (h : sp_named_by K vs H Q E) : vs.length = 1 := by
  obtain ⟨_, _, _, rfl, _⟩ := h
  rfl
def t_named_by (K : PySem.W.Frag) : TS :=
  (tSeq (tAsg (tCB rListK (tCons (tMeth (He.ga K "Kind") "own" (sp_Kind_own K) [] E0 (tVar 0) tNil) tNil)) (gName 1))
  (tSeq (tFor (iList K (tMeth (He.ga K "Kind") "rules" (sp_Kind_rules K) [] E0 (tVar 0) tNil)) (gName 2)
    (tSeq (tDrop (tBM K "list" rExtendT (tVar 1) (tCons (tOp (rIxT K) (tVar 2) (tC (.int 1))) tNil)))
  (tIfS (tAnd (tTest (tOp rEq (tOp (rIxT K) (tVar 2) (tC (.int 0))) (tC (.str ("send" : Str))))) (tTest (tOp rNe (tOp (rIxT K) (tVar 2) (tC (.int 3))) (tC (.str ("" : Str))))))
    (tDrop (tBM K "list" rAppend (tVar 1) (tCons (tOp (rIxT K) (tVar 2) (tC (.int 3))) tNil)))
    tNext)))
  (tRet (tVar 1))))
theorem told_len {r : Rule} (h : r.names.length ≤ 4) : r.told.length ≤ 5 := by
  unfold Rule.told Rule.more
  rw [List.length_append]
  split
  · simp; omega
  · simp; omega
theorem flat_len {rs : List Rule} (h : ∀ r ∈ rs, r.names.length ≤ 4) : (rs.flatMap Rule.told).length ≤ 5 * rs.length := by
  induction rs with
  | nil => simp
  | cons a b ih =>
    rw [List.flatMap_cons, List.length_append, List.length_cons]
    have := ih fun r m => h r (by simp [m])
    have := told_len (h a (by simp))
    omega
theorem named_take {O : List (Str × D)} {rs : List Rule} {i : Nat} {r : Rule} (e : rs[i]? = some r) : namedB O (rs.take (i + 1)) = namedB O (rs.take i) ++ r.names ++ r.more := by
  unfold namedB
  rw [List.take_add_one, e, List.flatMap_append]
  simp [Rule.told]
theorem pure_named_by {K : PySem.W.Frag} (vs : List V) (H : Hp) (Q : VK) (E : XK) (h : sp_named_by K vs H Q E) : t_named_by K (fin Q) (st0 3 vs) H := by
  obtain ⟨v, b, rs, rfl, C, kb, eR, lO, lR, l4, k⟩ := h
  obtain ⟨a, dx, fs, l, o, r, kl, ko, xs, rfl, ea, rfl, hl, hl2, ho, ho2, hr, hr2⟩ := kb.open'
  rw [eR] at hr2
  refine ⟨_, rfl, a, dx, _, rfl, ea, by rfl, a, dx, _, _, rfl, C.cls, C.n3, ea, rfl, o, ko, rfl, ho, fun p hp => ?_⟩
  have B1 : But [] H (upd H p (.dK ko)) := But.new hp
  have hp1 : (upd H p (.dK ko)) p = some (.dK ko) := upd_same
  generalize upd H p (.dK ko) = H1 at B1 hp1 ⊢
  refine ⟨p, ko, rfl, .inl hp1, fun q hq => ?_⟩
  have hq0 := B1.free hq
  have B2 : But [] H (upd H1 q (.lst (ko.map fun kv => kV kv.1))) := B1.upd' hq
  have eq2 : (upd H1 q (.lst (ko.map fun kv => kV kv.1))) q = some (.lst ((namedB b.O (rs.take 0)).map V.str)) := by
    rw [upd_same]
    have e := congrArg (List.map kV) ho2.keys
    rw [List.map_map, List.map_map] at e
    show some (HO.lst (ko.map (kV ∘ fun kv => kv.1))) = _
    rw [e, namedB, List.take_zero, List.flatMap_nil, List.append_nil, keysD, List.map_map]
    rfl
  generalize upd H1 q (.lst (ko.map fun kv => kV kv.1)) = H2 at B2 eq2 ⊢
  have ea2 := B2.keep _ _ (by simp) ea
  have hr3 := B2.keep _ _ (by simp) hr
  refine ⟨_, rfl, a, dx, _, rfl, ea2, by rfl, a, dx, _, _, rfl, C.cls, C.n4, ea2, rfl, r, xs, rfl, hr3, fun s hs => ?_⟩
  have hs3 : (upd H2 s (.lst xs)) s = some (.lst xs) := upd_same
  have B3 : But [] H2 (upd H2 s (.lst xs)) := But.new hs
  have eq3 := B3.keep _ _ (by simp) eq2
  have B03 := B2.trans B3
  generalize upd H2 s (.lst xs) = H3 at hs3 B3 eq3 B03 ⊢
  have sq : s ≠ q := fun z => by rw [z, eq2] at hs; cases hs
  have hxs : xs.length = rs.length := by rw [hr2.length, List.length_map]
  refine ⟨s, rfl, ⟨_, SqL.of hs3⟩, ?_⟩
  refine for_it walk_list (fun i σ H4 => But [] H H4 ∧ But [q] H3 H4 ∧ H4 q = some (.lst ((namedB b.O (rs.take i)).map V.str)) ∧ ∃ v2, σ = [some (.ref a), some (.ref q), v2]) ⟨B03, But.refl, eq3, _, rfl⟩ (fun i σ H4 _ z => SqL.of (z.2.1.keep _ _ (by simpa using sq) hs3)) ?_ ?_
  · rintro i y σ H4 H5 hi ⟨B4, Bq, e4, v2, rfl⟩ ⟨rfl, ey⟩
    obtain ⟨d, ed, hd⟩ := hr2.get ey
    rw [List.getElem?_map] at ed
    obtain ⟨ru, er, rfl⟩ := Option.map_eq_some_iff.mp ed
    obtain ⟨T, T1, ys, rfl, hT, hT1, s1, s2⟩ := rule_at (hd.mono B4)
    have nl := l4 ru (List.mem_of_getElem? er)
    have fl := flat_len (rs := rs.take i) (fun r m => l4 r (List.mem_of_mem_take m))
    have nt := named_take (O := b.O) er
    have nml : (namedB b.O (rs.take i)).length ≤ 1505 := by
      unfold namedB
      rw [List.length_append, keysD, List.length_map]
      rw [List.length_take] at fl
      omega
    refine ⟨_, rfl, .inl ⟨rfl, _, SqL.of e4⟩, _, rfl, T, _, 1, _, rfl, rfl, SqT.of hT, atI_nat (j := 1) rfl, ?_⟩
    refine ⟨q, T1, _, _, rfl, rfl, e4, hT1, by rw [List.length_map, List.length_map, sizeLine_eq]; omega, ?_⟩
    have Tq : T ≠ q := fun z => by rw [z, e4] at hT; cases hT
    have hT6 : (upd H5 q (.lst ((namedB b.O (rs.take i)).map V.str ++ ru.names.map V.str))) T = some (.tup (.str ru.form :: .ref T1 :: ys)) := by rw [upd_ne Tq]; exact hT
    have e6 : (upd H5 q (.lst ((namedB b.O (rs.take i)).map V.str ++ ru.names.map V.str))) q = some (.lst ((namedB b.O (rs.take i) ++ ru.names).map V.str)) := by rw [upd_same, List.map_append]
    have B6 : But [q] H5 (upd H5 q (.lst ((namedB b.O (rs.take i)).map V.str ++ ru.names.map V.str))) := But.refl.upd (.inl (by simp))
    have B06 : But [] H (upd H5 q (.lst ((namedB b.O (rs.take i)).map V.str ++ ru.names.map V.str))) := B4.upd (.inr hq0)
    generalize upd H5 q (.lst ((namedB b.O (rs.take i)).map V.str ++ ru.names.map V.str)) = H6 at hT6 e6 B6 B06 ⊢
    have Bq6 := Bq.trans B6
    refine ⟨_, rfl, T, _, 0, _, rfl, rfl, SqT.of hT6, atI_nat (j := 0) rfl, rfl, _, rfl, ?_⟩
    refine ite2 (fun z => ?_) (fun z => ?_)
    · have zf : ru.form = "send" := by simpa using z
      obtain ⟨y0, yr, rfl⟩ := s1 zf
      refine ⟨_, rfl, T, _, 3, _, rfl, rfl, SqT.of hT6, atI_nat (j := 3) rfl, rfl, _, rfl, ?_⟩
      refine ite2 (fun z => ?_) (fun z => ?_)
      · have zs : ru.sub ≠ "" := by simpa using z
        refine ⟨_, rfl, .inl ⟨rfl, _, SqL.of e6⟩, _, rfl, T, _, 3, _, rfl, rfl, SqT.of hT6, atI_nat (j := 3) rfl, ?_⟩
        refine ⟨q, _, _, rfl, rfl, e6, by rw [List.length_map, List.length_append, sizeLine_eq]; omega, B06.upd (.inr hq0), Bq6.upd (.inl (by simp)), ?_, _, rfl⟩
        rw [upd_same, nt, show ru.more = [ru.sub] from if_neg zs]
        simp
      · have zs : ru.sub = "" := by simpa using z
        refine ⟨B06, Bq6, ?_, _, rfl⟩
        rw [e6, nt, show ru.more = [] from if_pos zs, List.append_nil]
    · have zf : ru.form ≠ "send" := by simpa using z
      refine ⟨B06, Bq6, ?_, _, rfl⟩
      rw [e6, nt, show ru.more = [] from if_pos (s2 zf), List.append_nil]
  · rintro σ H4 ⟨B4, Bq, e4, v2, rfl⟩
    rw [hxs, List.take_length] at e4
    exact ⟨_, rfl, k q H4 hq0 e4 B4⟩
end Kb

set_option Elab.async false
set_option linter.all false
set_option maxRecDepth 100000
set_option maxHeartbeats 2000000
/-! Kb, 61: House.__init__. -/
namespace Kb
open PySem PySem.Spec PyProof.Rows L2

abbrev HC (K : PySem.W.Frag) : Addr := He.ga K "House"
structure HouseC (K : PySem.W.Frag) : Prop where
  cls : Cls K (HC K)
  n1 : NoAttr K (HC K) "kind_table"
  n2 : NoAttr K (HC K) "name_list"
def hf (t n : Addr) : List (Str × V) := [("kind_table", .ref t), ("name_list", .ref n)]
/-- what is known of a Kind that goes into a house -/
structure KBok (b : KB) (rs : List Rule) : Prop where
  cho : ChoicesB b.L
  ru : b.R = rs.map Rule.d
  lO : b.O.length ≤ 5
  lR : rs.length ≤ 300
  l4 : ∀ r ∈ rs, r.names.length ≤ 4
def allNamed (rs : KB → List Rule) (bs : List KB) : List Str := bs.flatMap fun b => namedB b.O (rs b)
theorem leadsB_same {L : List (Str × D)} {ns ns' : List Str} (h : ∀ n, n ∈ ns ↔ n ∈ ns') : leadsB L ns = leadsB L ns' := by
  have e : choB ns = choB ns' := by
    funext c
    unfold choB
    rw [show decide (c ∈ ns) = decide (c ∈ ns') from decide_eq_decide.mpr (h c)]
  unfold leadsB
  rw [e]
theorem sqV_ins {K : PySem.W.Frag} {H H' : Hp} {p a C dx : Addr} {fs : List (Str × V)} {xs : List V} (h : SqV K H p xs) (ha : H a = some (.ins C dx fs)) (b : But [a] H H') : SqV K H' p xs := by
  have ne : ∀ {o}, H p = some o → (∀ dx fs, o ≠ .ins C dx fs) → p ∉ [a] := fun {o} e n z => by
    rw [List.mem_singleton.mp z, ha] at e
    cases e
    exact n _ _ rfl
  rcases h with ((h | ⟨o, h⟩) | h) | ((h | ⟨o, h⟩) | h)
  · exact .inl (.inl (.inl (b.keep _ _ (ne h (fun _ _ z => nomatch z)) h)))
  · exact .inl (.inl (.inr ⟨o, b.keep _ _ (ne h (fun _ _ z => nomatch z)) h⟩))
  · exact .inl (.inr h)
  · exact .inr (.inl (.inl (b.keep _ _ (ne h (fun _ _ z => nomatch z)) h)))
  · exact .inr (.inl (.inr ⟨o, b.keep _ _ (ne h (fun _ _ z => nomatch z)) h⟩))
  · exact .inr (.inr h)
theorem run_seqA {K : PySem.W.Frag} {H H1 : Hp} {p : Addr} {xs : List V} {R : It → Hp → Prop} {j : Nat} {σ : L2.St} (hσ : σ[j]? = some (some (.ref p))) (sq : SqV K H p xs) (b1 : But [] H H1)
    (k : ∀ (J : It) (G : Hp → Prop), Walk J xs.length G (YAt xs) → (∀ H', But [] H H' → G H') → R J H1) :
    iSeq K (tVar j) σ H1 R := by
  refine ⟨_, hσ, p, rfl, ?_⟩
  rcases sq with h | h
  · exact .inl ⟨⟨_, sqL_but h b1⟩, k _ _ walk_list fun H' b => sqL_but h b⟩
  · exact .inr ⟨⟨_, sqT_but h b1⟩, k _ _ walk_tup fun H' b => sqT_but h b⟩
def sp_House_init (K : PySem.W.Frag) : Sp := fun vs H Q _ => ∃ (a dx p : Addr) (xs : List V) (bs : List KB) (rs : KB → List Rule) (P : KB → V → Prop), vs = [.ref a, .ref p] ∧ HouseC K ∧ KindI K ∧ H a = some (.ins (HC K) dx []) ∧
  SqV K H p xs ∧ RowP P bs xs ∧ (∀ b v, P b v → KAt K [a] H b v) ∧ 1 ≤ bs.length ∧ bs.length ≤ 4 ∧ (bs.map KB.nm).Nodup ∧ (∀ b ∈ bs, KBok b (rs b)) ∧ (∀ b ∈ bs, leadsB b.L (bs.map KB.nm) = true) ∧ (allNamed rs bs).length ≤ 1000 ∧
  (∀ ns : List Str, ns.Nodup → (∀ y, y ∈ ns ↔ y ∈ allNamed rs bs) → ns.length ≤ 6) ∧
  ∀ bs' ns kvs t n H', bs'.Perm bs → sortedS (bs'.map KB.nm) = true → TabP P bs' kvs → ns.Nodup → sortedS ns = true → (∀ y, y ∈ ns ↔ y ∈ allNamed rs bs) →
    H' a = some (.ins (HC K) dx (hf t n)) → H' t = some (.dK kvs) → H' n = some (.lst (ns.map V.str)) → H t = none → H n = none → But [a] H H' → Q .non H'
theorem len_House_init {K : PySem.W.Frag} {vs : List V} {H : Hp} {Q : VK} {E : XK} (h : sp_House_init K vs H Q E) : vs.length = 2 := by
  obtain ⟨_, _, _, _, _, _, _, rfl, _⟩ := h
  rfl
def t_House_init (K : PySem.W.Frag) : TS :=
  (tSeq (sFld K (tVar 0) (tCall (sp_kinds_by_name K) [] E0 (tCons (tVar 1) tNil)) "kind_table")
  (tSeq (tFor (iEnumA K (tCons (tVar 1) tNil)) (gTup K 2 (gCons (gName 2) (gCons (gName 3) gNil)))
    (tIfS (tNot (tB (tCall (sp_leads_only_to K) [] E0 (tCons (tVar 3) (tCons (tFld K (tVar 0) "kind_table") tNil)))))
    tNever
    tNext))
  (tSeq (tAsg (tLst tNil) (gName 4))
  (tSeq (tFor (iSeq K (tVar 1)) (gName 3)
    (tDrop (tBM K "list" rExtend (tVar 4) (tCons (tCall (sp_named_by K) [] E0 (tCons (tVar 3) tNil)) tNil))))
  (tSeq (sFld K (tVar 0) (tSortUni K (tVar 4)) "name_list")
  (tIfS (tTest (tOp rGtI (tCB (rLenA K) (tCons (tFld K (tVar 0) "name_list") tNil)) (tC (.int 6))))
    tNever
    tNext))))))
theorem pure_House_init {K : PySem.W.Frag} (vs : List V) (H : Hp) (Q : VK) (E : XK) (h : sp_House_init K vs H Q E) : t_House_init K (fin Q) (st0 5 vs) H := by
  obtain ⟨a, dx, p, xs, bs, rs, P, rfl, C, CK, ha, sq, rp, ka, lo, hi, nd, ok, lead, l1000, six, k⟩ := h
  refine ⟨_, rfl, p, xs, bs, P, rfl, CK, sq, rp, fun b v pb => (ka b v pb).less (by simp), lo, hi, nd, fun bs' kvs t H1 pm so tp ht0 ht B1 => ?_⟩
  have ha1 := B1.keep _ _ (by simp) ha
  refine ⟨_, rfl, a, HC K, dx, [], rfl, ha1, C.cls, C.n1, by decide, ?_⟩
  have ta : t ≠ a := fun z => by rw [z, ha] at ht0; cases ht0
  have ha2 : (upd H1 a (.ins (HC K) dx (putF "kind_table" (.ref t) []))) a = some (.ins (HC K) dx [("kind_table", .ref t)]) := upd_same
  have ht2 : (upd H1 a (.ins (HC K) dx (putF "kind_table" (.ref t) []))) t = some (.dK kvs) := by rw [upd_ne ta]; exact ht
  have B2 : But [a] H (upd H1 a (.ins (HC K) dx (putF "kind_table" (.ref t) []))) := B1.nil.upd (.inl (by simp))
  generalize upd H1 a (.ins (HC K) dx (putF "kind_table" (.ref t) [])) = H2 at ha2 ht2 B2 ⊢
  have sq2 := sqV_ins sq ha B2
  have ka2 : ∀ b v, P b v → KAt K [a] H2 b v := fun b v pb => (ka b v pb).mono B2
  have ndp : (bs'.map KB.nm).Nodup := (pm.map KB.nm).nodup_iff.mpr nd
  show tFor (iEnumA K (tCons (tVar 1) tNil)) _ _ _ (st0 5 [V.ref a, V.ref p]) H2
  unfold tFor
  refine run_enumA (p := p) rfl sq2 But.refl fun J G w g => ?_
  refine for_it w (fun i σ H3 => But [] H2 H3 ∧ ∃ v2 v3, σ = [some (.ref a), some (.ref p), v2, v3, none]) ⟨But.refl, _, _, rfl⟩ (fun i σ H3 _ q => g H3 q.1) ?_ ?_
  · rintro i x σ H3 H4 hi2 ⟨B3, v2, v3, rfl⟩ ⟨T, z0, y, rfl, hT, rfl, ez0, ey⟩
    obtain rfl : V.int (i : Nat) = z0 := Option.some.inj ez0
    have ey : xs[i]? = some y := ey
    have T2 : (upd H3 T (.tup [.int (i : Nat), y])) T = some (.tup [.int (i : Nat), y]) := upd_same
    have B4 := B3.upd' (o := .tup [.int (i : Nat), y]) hT
    generalize upd H3 T (.tup [.int (i : Nat), y]) = H4 at T2 B4 ⊢
    obtain ⟨b, eb, pb⟩ := rp.get ey
    have mb := List.mem_of_getElem? eb
    refine ⟨T, _, rfl, SqT.of T2, rfl, _, _, rfl, _, _, rfl, rfl, ?_⟩
    refine ⟨_, rfl, _, rfl, a, HC K, dx, _, .ref t, rfl, B4.keep _ _ (by simp) ha2, C.cls, C.n1, rfl, ?_⟩
    refine ⟨y, b, t, kvs, bs', P, rfl, CK.kc, ((ka2 b y pb).less (by simp)).mono B4, (ok b mb).cho, B4.keep _ _ (by simp) ht2, tp, ndp, fun H5 B5 => ⟨_, rfl, ?_⟩⟩
    rw [leadsB_same (ns' := bs.map KB.nm) fun n => (pm.map KB.nm).mem_iff, lead b mb]
    exact iteF ⟨B4.trans B5, _, _, rfl⟩
  · rintro σ H3 ⟨B3, v2, v3, rfl⟩
    refine ⟨sz0, fun nl hnl => ?_⟩
    have B4 := B3.upd' (o := .lst []) hnl
    have hnl2 : H2 nl = none := B3.free hnl
    have hnl0 : H nl = none := by
      refine Classical.byContradiction fun z => ?_
      exact B2.stand nl z hnl2
    have e4 : (upd H3 nl (.lst [])) nl = some (.lst []) := upd_same
    generalize upd H3 nl (.lst []) = H4 at B4 e4 ⊢
    show tFor (iSeq K (tVar 1)) _ _ _ [some (.ref a), some (.ref p), v2, v3, some (.ref nl)] H4
    unfold tFor
    refine run_seqA (p := p) rfl sq2 B4 fun J G w g => ?_
    refine for_it w (fun i σ H5 => But [] H2 H5 ∧ H5 nl = some (.lst ((allNamed rs (bs.take i)).map V.str)) ∧ ∃ v3, σ = [some (.ref a), some (.ref p), v2, v3, some (.ref nl)]) ⟨B4, e4, _, rfl⟩ (fun i σ H3 _ q => g H3 q.1) ?_ ?_
    · rintro i y σ H5 H6 hi2 ⟨B5, e5, v3, rfl⟩ ⟨rfl, ey⟩
      obtain ⟨b, eb, pb⟩ := rp.get ey
      have mb := List.mem_of_getElem? eb
      have kk := ok b mb
      have at' : allNamed rs (bs.take (i + 1)) = allNamed rs (bs.take i) ++ namedB b.O (rs b) := by
        unfold allNamed
        rw [List.take_add_one, eb, List.flatMap_append]
        simp
      have le : (allNamed rs (bs.take (i + 1))).length ≤ (allNamed rs bs).length := by
        have e : allNamed rs bs = allNamed rs (bs.take (i + 1)) ++ allNamed rs (bs.drop (i + 1)) := by
          unfold allNamed
          rw [← List.flatMap_append, List.take_append_drop]
        rw [e, List.length_append]
        omega
      rw [at', List.length_append] at le
      refine ⟨_, rfl, .inl ⟨rfl, _, SqL.of e5⟩, _, rfl, y, b, rs b, rfl, CK.kc, ((ka2 b y pb).less (by simp)).mono B5, kk.ru, kk.lO, kk.lR, kk.l4, fun q H7 hq hq7 B7 => ?_⟩
      refine ⟨nl, q, _, _, rfl, rfl, B7.keep _ _ (by simp) e5, hq7, by rw [List.length_map, List.length_map, sizeLine_eq]; omega, (B5.trans B7).upd (.inr hnl2), ?_, _, rfl⟩
      rw [upd_same, at', List.map_append]
    · rintro σ H5 ⟨B5, e5, v3, rfl⟩
      rw [← rp.len, List.take_length] at e5
      refine ⟨_, rfl, nl, _, rfl, SqL.of e5, l1000, fun ns n nn so2 mem hn => ?_⟩
      have B6 := B5.upd' (o := .lst (ns.map V.str)) hn
      have e6 : (upd H5 n (.lst (ns.map V.str))) n = some (.lst (ns.map V.str)) := upd_same
      have hn2 := B5.free hn
      have hn0 : H n = none := by
        refine Classical.byContradiction fun z => ?_
        exact B2.stand n z hn2
      generalize upd H5 n (.lst (ns.map V.str)) = H6 at B6 e6 ⊢
      have ha6 := B6.keep _ _ (by simp) ha2
      have ht6 := B6.keep _ _ (by simp) ht2
      have na : n ≠ a := fun z => by rw [z, ha6] at e6; cases e6
      refine ⟨_, rfl, a, HC K, dx, _, rfl, ha6, C.cls, C.n2, by simp, ?_⟩
      have ha7 : (upd H6 a (.ins (HC K) dx (putF "name_list" (.ref n) [("kind_table", .ref t)]))) a = some (.ins (HC K) dx (hf t n)) := upd_same
      have e7 : (upd H6 a (.ins (HC K) dx (putF "name_list" (.ref n) [("kind_table", .ref t)]))) n = some (.lst (ns.map V.str)) := by rw [upd_ne na]; exact e6
      have ht7 : (upd H6 a (.ins (HC K) dx (putF "name_list" (.ref n) [("kind_table", .ref t)]))) t = some (.dK kvs) := by rw [upd_ne ta]; exact ht6
      have B7 : But [a] H (upd H6 a (.ins (HC K) dx (putF "name_list" (.ref n) [("kind_table", .ref t)]))) := (B2.trans B6.nil).upd (.inl (by simp))
      generalize upd H6 a (.ins (HC K) dx (putF "name_list" (.ref n) [("kind_table", .ref t)])) = H7 at ha7 e7 ht7 B7 ⊢
      refine ⟨_, rfl, a, HC K, dx, _, .ref n, rfl, ha7, C.cls, C.n2, rfl, _, ns.length, rfl, .inl ⟨_, SqL.of e7, by simp⟩, _, _, rfl, rfl, _, rfl, ?_⟩
      have l6 := six ns nn mem
      refine ite2 (fun z => absurd (of_decide_eq_true z) (by omega)) fun _ => ?_
      exact k bs' ns kvs t n H7 pm so tp nn so2 mem ha7 ht7 e7 ht0 hn0 B7
end Kb

set_option Elab.async false
set_option linter.all false
set_option maxRecDepth 100000
set_option maxHeartbeats 2000000
/-! Kb, 62: what a House tells. -/
namespace Kb
open PySem PySem.Spec PyProof.Rows L2

/-- the House at h, of these Kinds, in the order of their names, and these names; no object of M in it -/
def HObT (K : PySem.W.Frag) (M : List Addr) (H : Hp) (h t n : Addr) (bs : List KB) (ns : List Str) : Prop :=
  ∃ dx kvs, h ∉ M ∧ t ∉ M ∧ n ∉ M ∧ H h = some (.ins (HC K) dx (hf t n)) ∧ H t = some (.dK kvs) ∧ H n = some (.lst (ns.map V.str)) ∧ TabP (KAt K (h :: t :: n :: M) H) bs kvs
def HOb (K : PySem.W.Frag) (M : List Addr) (H : Hp) (h : Addr) (bs : List KB) (ns : List Str) : Prop := ∃ t n, HObT K M H h t n bs ns
theorem But.wide {M M' : List Addr} {H H' : Hp} (b : But M H H') (s : ∀ x ∈ M, x ∈ M') : But M' H H' := ⟨fun a o m e => b.keep a o (fun z => m (s a z)) e, b.stand⟩
theorem KAt.excl {K : PySem.W.Frag} {M : List Addr} {H : Hp} {b : KB} {v : V} {x : Addr} (q : KAt K M H b v) (hx : H x = none) : KAt K (x :: M) H b v := by
  obtain ⟨a, rfl, dx, l, o, r, na, ea, hl, ho, hr⟩ := q
  refine ⟨a, rfl, dx, l, o, r, fun z => ?_, ea, hl.excl hx, ho.excl hx, hr.excl hx⟩
  rcases List.mem_cons.mp z with e | e
  · rw [e, hx] at ea
    cases ea
  · exact na e
section
variable {K : PySem.W.Frag} {M M' : List Addr} {H H' : Hp} {h t n : Addr} {bs : List KB} {ns : List Str}
theorem HObT.mono (q : HObT K M H h t n bs ns) (b : But M H H') : HObT K M H' h t n bs ns := by
  obtain ⟨dx, kvs, a1, a2, a3, e1, e2, e3, tp⟩ := q
  exact ⟨dx, kvs, a1, a2, a3, b.keep _ _ a1 e1, b.keep _ _ a2 e2, b.keep _ _ a3 e3, tp.imp fun _ _ k => k.mono (b.wide fun x m => by simp [m])⟩
theorem HObT.less (q : HObT K M H h t n bs ns) (s : ∀ x ∈ M', x ∈ M) : HObT K M' H h t n bs ns := by
  obtain ⟨dx, kvs, a1, a2, a3, e1, e2, e3, tp⟩ := q
  exact ⟨dx, kvs, fun z => a1 (s _ z), fun z => a2 (s _ z), fun z => a3 (s _ z), e1, e2, e3, tp.imp fun _ _ k => k.less fun x m => by
    simp only [List.mem_cons] at m ⊢
    rcases m with m | m | m | m
    · exact .inl m
    · exact .inr (.inl m)
    · exact .inr (.inr (.inl m))
    · exact .inr (.inr (.inr (s x m)))⟩
theorem HObT.excl {x : Addr} (q : HObT K M H h t n bs ns) (hx : H x = none) : HObT K (x :: M) H h t n bs ns := by
  obtain ⟨dx, kvs, a1, a2, a3, e1, e2, e3, tp⟩ := q
  have no : ∀ {y o}, H y = some o → y ∉ M → y ∉ x :: M := fun {y o} e m z => by
    rcases List.mem_cons.mp z with c | c
    · rw [c, hx] at e
      cases e
    · exact m c
  refine ⟨dx, kvs, no e1 a1, no e2 a2, no e3 a3, e1, e2, e3, tp.imp fun _ _ k => (k.excl hx).less fun y m => ?_⟩
  simp only [List.mem_cons] at m ⊢
  rcases m with m | m | m | m | m
  · exact .inr (.inl m)
  · exact .inr (.inr (.inl m))
  · exact .inr (.inr (.inr (.inl m)))
  · exact .inl m
  · exact .inr (.inr (.inr (.inr m)))
theorem HOb.mono (q : HOb K M H h bs ns) (b : But M H H') : HOb K M H' h bs ns := let ⟨t, n, q⟩ := q; ⟨t, n, q.mono b⟩
theorem HOb.less (q : HOb K M H h bs ns) (s : ∀ x ∈ M', x ∈ M) : HOb K M' H h bs ns := let ⟨t, n, q⟩ := q; ⟨t, n, q.less s⟩
theorem HObT.hob (q : HObT K M H h t n bs ns) : HOb K M H h bs ns := ⟨t, n, q⟩
end
/-- House(kinds) -/
theorem house_ok {K : PySem.W.Frag} {H : Hp} {p x dx : Addr} {xs : List V} {bs : List KB} {rs : KB → List Rule} {P : KB → V → Prop} {Q : VK} (C : HouseC K) (CK : KindI K) (sq : SqV K H p xs) (rp : RowP P bs xs) (ka : ∀ b v, P b v → KAt K [] H b v)
    (lo : 1 ≤ bs.length) (hi : bs.length ≤ 4) (nd : (bs.map KB.nm).Nodup) (ok : ∀ b ∈ bs, KBok b (rs b)) (lead : ∀ b ∈ bs, leadsB b.L (bs.map KB.nm) = true) (l1000 : (allNamed rs bs).length ≤ 1000)
    (six : ∀ ns : List Str, ns.Nodup → (∀ y, y ∈ ns ↔ y ∈ allNamed rs bs) → ns.length ≤ 6) (hx : H x = none) (hdx : H dx = none) (ne : dx ≠ x)
    (k : ∀ bs' ns t n H', bs'.Perm bs → sortedS (bs'.map KB.nm) = true → ns.Nodup → sortedS ns = true → (∀ y, y ∈ ns ↔ y ∈ allNamed rs bs) → H t = none → H n = none →
      (∀ M, Std M H → (∀ b v, P b v → KAt K M H b v) → HObT K M H' x t n bs' ns) → But [] H H' → Q (.ref x) H') :
    sp_House_init K [.ref x, .ref p] (upd (upd H dx (.own x)) x (.ins (HC K) dx [])) (fun v H2 => v = .non ∧ Q (.ref x) H2) E0 := by
  have B : But [] H (upd (upd H dx (.own x)) x (.ins (HC K) dx [])) := (But.new hdx).upd (.inr hx)
  have u : (upd (upd H dx (.own x)) x (.ins (HC K) dx [])) x = some (.ins (HC K) dx []) := upd_same
  generalize upd (upd H dx (.own x)) x (.ins (HC K) dx []) = H1 at B u ⊢
  refine ⟨x, dx, p, xs, bs, rs, P, rfl, C, CK, u, sq.but B, rp, fun b v pb => ((ka b v pb).excl hx).mono B.nil, lo, hi, nd, ok, lead, l1000, six, fun bs' ns kvs t n H' pm so tp nn so2 mem e1 e2 e3 f1 f2 b => ⟨rfl, ?_⟩⟩
  have g1 := B.free f1
  have g2 := B.free f2
  have BB := B.ofNew hx b
  exact k bs' ns t n H' pm so nn so2 mem g1 g2 (fun M s kb => ⟨dx, kvs, s.no hx, s.no g1, s.no g2, e1, e2, e3, tp.imp fun b v pb => ((((kb b v pb).excl g2).excl g1).excl hx).mono BB.nil⟩) BB
/-! ### names(), columns(), kinds() -/
def sp_House_names (K : PySem.W.Frag) : Sp := fun vs H Q _ => ∃ (h : Addr) (bs : List KB) (ns : List Str), vs = [.ref h] ∧ HouseC K ∧ HOb K [] H h bs ns ∧ ∀ p, H p = none → Q (.ref p) (upd H p (.lst (ns.map V.str)))
theorem len_House_names {K : PySem.W.Frag} {vs : List V} {H : Hp} {Q : VK} {E : XK} (h : sp_House_names K vs H Q E) : vs.length = 1 := by
  obtain ⟨_, _, _, rfl, _⟩ := h
  rfl
def t_House_names (K : PySem.W.Frag) : TS :=
  (tRet (tCB (rListOf K) (tCons (tFld K (tVar 0) "name_list") tNil)))
theorem pure_House_names {K : PySem.W.Frag} (vs : List V) (H : Hp) (Q : VK) (E : XK) (h : sp_House_names K vs H Q E) : t_House_names K (fin Q) (st0 1 vs) H := by
  obtain ⟨h, bs, ns, rfl, C, ⟨t, n, dx, kvs, _, _, _, e1, e2, e3, tp⟩, k⟩ := h
  exact ⟨_, rfl, h, HC K, dx, _, _, rfl, e1, C.cls, C.n2, rfl, n, _, rfl, .inl (SqL.of e3), k⟩
def sp_House_columns (K : PySem.W.Frag) : Sp := fun vs H Q _ => ∃ (h : Addr) (bs : List KB) (ns : List Str), vs = [.ref h] ∧ HouseC K ∧ HOb K [] H h bs ns ∧ ns.length ≤ 1000 ∧ ∀ p H', H p = none → H' p = some (.lst ((("" : Str) :: ns).map V.str)) → But [] H H' → Q (.ref p) H'
theorem len_House_columns {K : PySem.W.Frag} {vs : List V} {H : Hp} {Q : VK} {E : XK} (h : sp_House_columns K vs H Q E) : vs.length = 1 := by
  obtain ⟨_, _, _, rfl, _⟩ := h
  rfl
def t_House_columns (K : PySem.W.Frag) : TS :=
  (tRet (tOp rCat (tLst (tCons (tC (.str ("" : Str))) tNil)) (tFld K (tVar 0) "name_list")))
theorem pure_House_columns {K : PySem.W.Frag} (vs : List V) (H : Hp) (Q : VK) (E : XK) (h : sp_House_columns K vs H Q E) : t_House_columns K (fin Q) (st0 1 vs) H := by
  obtain ⟨h, bs, ns, rfl, C, ⟨t, n, dx, kvs, _, _, _, e1, e2, e3, tp⟩, l, k⟩ := h
  refine ⟨by show 1 ≤ sizeLine; decide, fun p hp => ?_⟩
  have B : But [] H (upd H p (.lst [.str ("" : Str)])) := But.new hp
  have u : (upd H p (.lst [.str ("" : Str)])) p = some (.lst [.str ("" : Str)]) := upd_same
  generalize upd H p (.lst [.str ("" : Str)]) = H1 at B u ⊢
  refine ⟨_, rfl, h, HC K, dx, _, _, rfl, B.keep _ _ (by simp) e1, C.cls, C.n2, rfl, p, n, _, _, rfl, rfl, u, B.keep _ _ (by simp) e3, by rw [List.length_map, sizeLine_eq]; show 1 + _ ≤ _; omega, fun q hq => ?_⟩
  exact k q _ (B.free hq) upd_same (B.upd' hq)
def sp_House_kinds (K : PySem.W.Frag) : Sp := fun vs H Q _ => ∃ (h : Addr) (bs : List KB) (ns : List Str), vs = [.ref h] ∧ HouseC K ∧ HOb K [] H h bs ns ∧ ∀ p, H p = none → Q (.ref p) (upd H p (.lst ((bs.map KB.nm).map V.str)))
theorem len_House_kinds {K : PySem.W.Frag} {vs : List V} {H : Hp} {Q : VK} {E : XK} (h : sp_House_kinds K vs H Q E) : vs.length = 1 := by
  obtain ⟨_, _, _, rfl, _⟩ := h
  rfl
def t_House_kinds (K : PySem.W.Frag) : TS :=
  (tRet (tCB rListK (tCons (tFld K (tVar 0) "kind_table") tNil)))
theorem pure_House_kinds {K : PySem.W.Frag} (vs : List V) (H : Hp) (Q : VK) (E : XK) (h : sp_House_kinds K vs H Q E) : t_House_kinds K (fin Q) (st0 1 vs) H := by
  obtain ⟨h, bs, ns, rfl, C, ⟨t, n, dx, kvs, _, _, _, e1, e2, e3, tp⟩, k⟩ := h
  refine ⟨_, rfl, h, HC K, dx, _, _, rfl, e1, C.cls, C.n1, rfl, t, kvs, rfl, .inl e2, fun p hp => ?_⟩
  have e : kvs.map (fun kv => kV kv.1) = (bs.map KB.nm).map V.str := by
    have e := congrArg (List.map kV) tp.keys
    rw [List.map_map, List.map_map] at e
    exact e
  rw [e]
  exact k p hp
/-! ### column_of -/
def sp_House_column_of (K : PySem.W.Frag) : Sp := fun vs H Q E => ∃ (h : Addr) (bs : List KB) (ns : List Str) (d : D) (x : V), vs = [.ref h, x] ∧ HouseC K ∧ NoNameC K ∧ HOb K [] H h bs ns ∧ At [] H d x ∧ d.fine = true ∧
  (isNED d = true → ∀ n H', d = .str n → But [] H H' → Q (.str (if n ∈ ns then n else "")) H') ∧ (isNED d = false → ∀ H' p, But [] H H' → H' p = none → E (.ref (NC K)) (some p) (upd H' p (.xd [("what", x)])))
theorem len_House_column_of {K : PySem.W.Frag} {vs : List V} {H : Hp} {Q : VK} {E : XK} (h : sp_House_column_of K vs H Q E) : vs.length = 2 := by
  obtain ⟨_, _, _, _, _, rfl, _⟩ := h
  rfl
def t_House_column_of (E : XK) (K : PySem.W.Frag) : TS :=
  (tSeq (tIfS (tNot (tB (tCall (sp_is_name_or_empty K) [] E0 (tCons (tVar 1) tNil))))
    (tRaiseN K (tCons (tVar 1) tNil) E)
    tNext)
  (tSeq (tIfS (tTest (tOp (rIn K false) (tVar 1) (tFld K (tVar 0) "name_list")))
    (tRet (tVar 1))
    tNext)
  (tRet (tC (.str ("" : Str))))))
theorem pure_House_column_of {K : PySem.W.Frag} (vs : List V) (H : Hp) (Q : VK) (E : XK) (h : sp_House_column_of K vs H Q E) : t_House_column_of E K (fin Q) (st0 2 vs) H := by
  obtain ⟨h, bs, ns, d, x, rfl, C, N, ⟨t, n, dx, kvs, _, _, _, e1, e2, e3, tp⟩, hx, fi, q1, q2⟩ := h
  refine ⟨_, rfl, d, x, rfl, hx, fi, fun H1 B1 => ⟨_, rfl, ?_⟩⟩
  cases hs : isNED d with
  | false =>
    refine iteT ?_
    exact do_raise N rfl (fun p hp => q2 hs H1 p B1 hp)
  | true =>
    refine iteF ?_
    obtain ⟨z, rfl⟩ : ∃ z, d = .str z := by cases d <;> first | exact ⟨_, rfl⟩ | (cases hs; done)
    obtain rfl : x = .str z := hx
    refine ⟨_, rfl, _, rfl, h, HC K, dx, _, .ref n, rfl, B1.keep _ _ (by simp) e1, C.cls, C.n2, rfl, n, _, rfl, .inl (SqL.of (B1.keep _ _ (by simp) e3)), rfl, by simp [flatV], _, rfl, ?_⟩
    have := q1 hs z H1 rfl B1
    show (if (if false = true then !inV (V.str z) (ns.map V.str) else inV (V.str z) (ns.map V.str)) = true then _ else _)
    rw [if_neg Bool.false_ne_true, inV_strs]
    by_cases m : z ∈ ns
    · rw [if_pos m] at this
      rw [if_pos (decide_eq_true m)]
      exact ⟨_, rfl, this⟩
    · rw [if_neg m] at this
      rw [if_neg (fun e => m (of_decide_eq_true e))]
      exact this
/-! ### NoKind, house[name] -/
/-- the class NoKind -/
abbrev NKC (K : PySem.W.Frag) : Addr := He.ga K "NoKind"
structure NoKindC (K : PySem.W.Frag) : Prop where
  ox : OexC K (NKC K)
  no : PySem.W.findIn K (.ref (NKC K)) "what" = some none
def sp_NoKind_init (K : PySem.W.Frag) : Sp := fun vs H Q _ => ∃ (a : Addr) (x : V), vs = [.ref a, x] ∧ NoKindC K ∧ H a = some (exo a (NKC K) none) ∧
  ∀ dx, H dx = none → dx ≠ a → Q .non (upd (upd H dx (exd dx [("what", x)])) a (exo a (NKC K) (some dx)))
theorem len_NoKind_init {K : PySem.W.Frag} {vs : List V} {H : Hp} {Q : VK} {E : XK} (h : sp_NoKind_init K vs H Q E) : vs.length = 2 := by
  obtain ⟨a, x, rfl, _⟩ := h
  rfl
def t_NoKind_init (K : PySem.W.Frag) : TS :=
  (tSeq (tDrop (tVeI K (tCons (tVar 0) (tCons (tC (.str ("there is no such kind" : Str))) tNil)))) (tOst K "what" (tVar 0) (tVar 1)))
theorem pure_NoKind_init {K : PySem.W.Frag} (vs : List V) (H : Hp) (Q : VK) (E : XK) (h : sp_NoKind_init K vs H Q E) : t_NoKind_init K (fin Q) (st0 2 vs) H := by
  obtain ⟨a, x, rfl, N, e, k⟩ := h
  refine ⟨_, rfl, a, NKC K, [V.str ("there is no such kind" : Str)], rfl, by simp, N.ox, e, ?_⟩
  exact ⟨_, rfl, _, rfl, a, NKC K, rfl, N.ox, N.no, .inl ⟨e, fun dx h1 h2 => k dx h1 h2⟩⟩
/-- raise NoKind(x) -/
def tRaiseK (K : PySem.W.Frag) (ta : TA) (E : XK) : TS := fun _ σ H => tMkO (NKC K) (sp_NoKind_init K) [] ta σ H fun cls d H' => E cls d H'
theorem do_raiseK {K : PySem.W.Frag} {E : XK} {D : Ends} {σ : L2.St} {H : Hp} {x : V} {i : Nat} (N : NoKindC K) (hx : σ[i]? = some (some x)) (k : ∀ d, H d = none → E (.ref (NKC K)) (some d) (upd H d (.xd [("what", x)]))) : tRaiseK K (tCons (tVar i) tNil) E D σ H := by
  refine ⟨_, hx, by simp, fun a ha => ⟨a, x, rfl, N, upd_same, fun dx hd ne => ⟨rfl, dx, [("what", x)], upd_same, ?_, ?_, ?_⟩⟩⟩
  · rw [upd_ne ne]
    exact upd_same
  · rw [upd_ne ne] at hd
    exact hd
  · rw [upd_ne ne] at hd
    have e : upd (del (upd (upd (upd H a (exo a (NKC K) none)) dx (exd dx [("what", x)])) a (exo a (NKC K) (some dx))) a) dx (.xd [("what", x)]) = upd H dx (.xd [("what", x)]) := by
      funext b
      by_cases c : b = dx
      · rw [c, upd_same, upd_same]
      · rw [upd_ne c, upd_ne c]
        by_cases c2 : b = a
        · rw [c2, del_same]
          exact ha.symm
        · rw [del_ne c2, upd_ne c2, upd_ne c, upd_ne c2]
    rw [e]
    exact k dx hd
/-- d is the name of one of these Kinds -/
def isKn (d : D) (bs : List KB) : Bool := match d with | .str n => decide (n ∈ bs.map KB.nm) | _ => false
def sp_House_getitem (K : PySem.W.Frag) : Sp := fun vs H Q E => ∃ (h : Addr) (bs : List KB) (ns : List Str) (d : D) (x : V), vs = [.ref h, x] ∧ HouseC K ∧ NoKindC K ∧ HOb K [] H h bs ns ∧ (bs.map KB.nm).Nodup ∧ AtZ H d x ∧
  (∀ b v, b ∈ bs → d = .str b.nm → (∀ M, HOb K M H h bs ns → KAt K M H b v) → Q v H) ∧ (isKn d bs = false → ∀ p, H p = none → E (.ref (NKC K)) (some p) (upd H p (.xd [("what", x)])))
theorem len_House_getitem {K : PySem.W.Frag} {vs : List V} {H : Hp} {Q : VK} {E : XK} (h : sp_House_getitem K vs H Q E) : vs.length = 2 := by
  obtain ⟨_, _, _, _, _, rfl, _⟩ := h
  rfl
def t_House_getitem (E : XK) (K : PySem.W.Frag) : TS :=
  (tSeq (tIfS (tOr (tNot (tB (tCB (rIsi K) (tCons (tVar 1) (tCons (tC (.ty "str")) tNil))))) (tB (tDNotIn (tVar 1) (tFld K (tVar 0) "kind_table"))))
    (tRaiseK K (tCons (tVar 1) tNil) E)
    tNext)
  (tRet (tDGet (tFld K (tVar 0) "kind_table") (tVar 1))))
theorem pure_House_getitem {K : PySem.W.Frag} (vs : List V) (H : Hp) (Q : VK) (E : XK) (h : sp_House_getitem K vs H Q E) : t_House_getitem E K (fin Q) (st0 2 vs) H := by
  obtain ⟨h, bs, ns, d, x, rfl, C, N, ⟨t, n, dx, kvs, _, _, _, e1, e2, e3, tp⟩, nd, hx, q1, q2⟩ := h
  refine ⟨_, rfl, x, _, _, _, d.isStr, rfl, .ty _, hx.ty, kit_str, _, rfl, ?_⟩
  cases hs : d.isStr with
  | false =>
    have : isKn d bs = false := by cases d <;> first | rfl | (cases hs; done)
    refine iteT ?_
    refine iteT ?_
    exact do_raiseK N rfl (q2 this)
  | true =>
    obtain ⟨z, rfl⟩ : ∃ z, d = .str z := by cases d <;> first | exact ⟨_, rfl⟩ | (cases hs; done)
    obtain rfl : x = .str z := hx
    refine ⟨_, rfl, _, rfl, h, HC K, dx, _, .ref t, rfl, e1, C.cls, C.n1, rfl, t, _, rfl, .inl ⟨kvs, .inr z, .inl e2, rfl, rfl⟩, ?_⟩
    have hv := tp.has nd z
    by_cases m : z ∈ bs.map KB.nm
    · rw [decide_eq_true m] at hv
      have g : (!(valV kvs (Sum.inr z : Key)).isSome) = false := by rw [hv]; rfl
      refine ⟨_, rfl, ?_⟩
      rw [g]
      refine iteF ?_
      obtain ⟨b, mb, rfl⟩ := List.mem_map.mp m
      obtain ⟨v, ev, kv⟩ := tp.val nd mb
      refine ⟨_, rfl, h, HC K, dx, _, .ref t, rfl, e1, C.cls, C.n1, rfl, _, rfl, t, v, rfl, .inl ⟨kvs, .inr b.nm, .inl e2, rfl, ev.symm⟩, q1 b v mb rfl fun M hm => ?_⟩
      obtain ⟨t', n', dx', kvs', _, _, _, e1', e2', _, tp'⟩ := hm
      rw [e1] at e1'
      cases e1'
      rw [e2] at e2'
      cases e2'
      obtain ⟨v', ev', kv'⟩ := tp'.val nd mb
      rw [ev] at ev'
      cases ev'
      exact kv'.less fun x m => by simp [m]
    · rw [decide_eq_false m] at hv
      have g : (!(valV kvs (Sum.inr z : Key)).isSome) = true := by rw [hv]; rfl
      refine ⟨_, rfl, ?_⟩
      rw [g]
      refine iteT ?_
      exact do_raiseK N rfl (q2 (decide_eq_false m))
end Kb

set_option Elab.async false
set_option linter.all false
set_option maxRecDepth 100000
set_option maxHeartbeats 2000000
/-! Kb, 63: == of two dicts whose values are compared by an own __eq__. -/
namespace Kb
open PySem PySem.Spec PyProof.Rows L2

section
variable {prog : Program} {w : World} {KT : Type} [DecidableEq KT] {knd : PySem.KeyKind prog w KT} {A : Around} {E : Value → Shared → Prop}
def pairB (kb : List (KT × Value)) (e : KT → Bool) (p : KT × Value) : Bool := (valueAt kb p.1).isSome && e p.1
/-- the two dicts stay as they are while their values are compared -/
theorem pairsJ {nm : String} {a b : Addr} {ka kb : List (KT × Value)} {e : KT → Bool} {Q : Bool → Shared → Prop} {s0 s : Shared} (J : Shared → Prop) (ha : (a == sysModules) = false) (hb : (b == sysModules) = false)
    (da : s0.heap.DictOf knd a ka) (db : s0.heap.DictOf knd b kb) (keep : ∀ t, J t → t.heap.get? a = s0.heap.get? a ∧ t.heap.get? b = s0.heap.get? b)
    (turn : ∀ k v y, (k, v) ∈ ka → valueAt kb k = some y → ∀ t, J t → wpAny (model prog w) A (eqBool v y) (fun r t' => r = e k ∧ J t') E t)
    (h : ∀ t, J t → Q (ka.length == kb.length && ka.all (pairB kb e)) t) (hs : J s) : wpAny (model prog w) A (Builtin.Dict.samePairs nm a b) Q E s := by
  obtain ⟨oa, es, ep, ga, _, xa, ya, pa, _⟩ := da
  obtain ⟨ob, es', ep', gb, _, xb, yb, pb, _⟩ := db
  have na : ka.length = es.size := by rw [← pa.length, Array.length_toList]
  have nb : kb.length = es'.size := by rw [← pb.length, Array.length_toList]
  have seek : ∀ k, findBy knd.is es' k = valueAt kb k := fun k => by
    rw [← pb.find k]
    clear nb pb yb xb gb
    obtain ⟨l⟩ := es'
    simp [findBy]
  have getA : ∀ t, J t → t.heap.get? a = some oa := fun t j => (keep t j).1.trans ga
  have getB : ∀ t, J t → t.heap.get? b = some ob := fun t j => (keep t j).2.trans gb
  unfold Builtin.Dict.samePairs Builtin.Dict.showsAll
  rw [ha, hb]
  refine wpAny_bind (wpAny_pure (wpAny_bind (wpAny_pure (wpAny_bind (wpAny_dictEntries (getA s hs) xa ?_)))))
  refine wpAny_bind (wpAny_dictEntries (getB s hs) xb ?_)
  by_cases same : es.size = es'.size
  · have end' : ∀ t, J t → ∀ r, ka.all (pairB kb e) = r → Q r t := fun t j r er => by
      have q := h t j
      rw [na, nb, same, beq_self_eq_true, Bool.true_and, er] at q
      exact q
    rw [if_neg (by rw [same]; simp)]
    refine wpAny_bind (wpAny_dictEpoch (getA s hs) xa (wpAny_bind ?_))
    rw [Std.Legacy.Range.forIn_eq_forIn_range']
    simp only [Std.Legacy.Range.size, Nat.sub_zero, Nat.add_sub_cancel, Nat.div_one]
    refine wpAny_forIn_list _ (fun rest q t => J t ∧ q = (none, ()) ∧ ∃ i, rest = List.range' i (es.size - i) ∧ i ≤ es.size ∧ (ka.take i).all (pairB kb e) = true) _ ?_ ?_ _ _ ⟨hs, rfl, 0, by simp, Nat.zero_le _, rfl⟩
    · rintro x rest q t ⟨j, rfl, i, er, le, pre⟩
      have lt : i < es.size := by
        refine Nat.lt_of_le_of_ne le fun z => ?_
        rw [z, Nat.sub_self] at er
        cases er
      rw [show es.size - i = (es.size - (i + 1)) + 1 from by omega, List.range'_succ] at er
      obtain ⟨rfl, rfl⟩ := List.cons.inj er
      have lt2 : x < ka.length := by rw [na]; exact lt
      have ex := List.getElem?_eq_getElem lt2
      have tk : ka.take (x + 1) = ka.take x ++ [ka[x]] := by rw [List.take_add_one, ex]; rfl
      have cut : pairB kb e ka[x] = false → ka.all (pairB kb e) = false := fun z => by
        cases g : ka.all (pairB kb e) with
        | false => rfl
        | true =>
          rw [List.all_eq_true.mp g _ (List.getElem_mem lt2)] at z
          cases z
      refine wpAny_bind (wpAny_dictEntries (getA t j) xa ?_)
      rw [Array.getElem?_eq_getElem lt]
      obtain ⟨isk, ev⟩ := pa.get? (i := x) (e := es[x]) (k := ka[x].1) (v := ka[x].2) (by rw [Array.getElem?_toList]; exact Array.getElem?_eq_getElem lt) (by rw [ex])
      obtain ⟨k2, isk2, eh⟩ := ya es[x] (Array.getElem_mem lt)
      obtain rfl : k2 = ka[x].1 := knd.inj _ _ _ isk2 isk
      show wpAny _ _ (holding [es[x].key, es[x].val] _ >>= _) _ _ _
      rw [eh]
      refine wpAny_bind (wpAny_holding (wpAny_bind (wpAny_dictFind_of isk (getB t j) xb yb ?_)))
      cases fj : es'.findIdx? fun u => knd.is ka[x].1 u.key with
      | none =>
        have no : valueAt kb ka[x].1 = none := by rw [← seek, findBy_of_findIdx?, fj]
        have pf : pairB kb e ka[x] = false := by unfold pairB; rw [no]; rfl
        refine wpAny_pure ?_
        show wpAny _ _ (if (!false) = true then _ else _) _ _ _
        rw [if_pos (by decide)]
        exact wpAny_pure (wpAny_pure (end' t j _ (cut pf)))
      | some m =>
        obtain ⟨lm, _, _⟩ := Array.findIdx?_eq_some_iff_getElem.mp fj
        have yes : valueAt kb ka[x].1 = some es'[m].val := by
          rw [← seek, findBy_of_findIdx?, fj]
          simp [Array.getElem?_eq_getElem lm]
        refine wpAny_bind (wpAny_dictEntries (getB t j) xb ?_)
        rw [Array.getElem?_eq_getElem lm]
        have tt := turn ka[x].1 ka[x].2 es'[m].val (List.getElem_mem lt2) yes t j
        rw [← ev] at tt
        refine wpAny_holding (wpAny_mono tt (fun r t2 z => ?_) fun _ _ z => z)
        obtain ⟨rfl, j2⟩ := z
        have pf : pairB kb e ka[x] = e ka[x].1 := by unfold pairB; rw [yes]; rfl
        cases ee : e ka[x].1 with
        | false =>
          show wpAny _ _ (if (!false) = true then _ else _) _ _ _
          rw [if_pos (by decide)]
          exact wpAny_pure (wpAny_pure (end' t2 j2 _ (cut (pf.trans ee))))
        | true =>
          show wpAny _ _ (if (!true) = true then _ else _) _ _ _
          rw [if_neg (by decide)]
          refine wpAny_bind (wpAny_dictEpoch (getA t2 j2) xa ?_)
          rw [if_neg (by simp)]
          refine wpAny_pure ⟨j2, rfl, x + 1, rfl, lt, ?_⟩
          rw [tk, List.all_append, pre, Bool.true_and, List.all_cons, List.all_nil, pf, ee]
          rfl
    · rintro q t ⟨j, rfl, i, er, le, pre⟩
      have ei : i = es.size := by
        refine Classical.byContradiction fun z => ?_
        rw [show es.size - i = (es.size - (i + 1)) + 1 from by omega, List.range'_succ] at er
        cases er
      rw [ei, ← na, List.take_length] at pre
      exact wpAny_pure (end' t j _ pre)
  · rw [if_pos (by simpa using same)]
    have q := h s hs
    rw [na, nb, show (es.size == es'.size) = false by simpa using same, Bool.false_and] at q
    exact wpAny_bind (wpAny_rule (wpAny_pure q))
theorem dictsJ {a b : Addr} {ka kb : List (KT × Value)} {e : KT → Bool} {Q : Value → Shared → Prop} {s0 s : Shared} (J : Shared → Prop) (ha : (a == sysModules) = false) (hb : (b == sysModules) = false)
    (da : s0.heap.DictOf knd a ka) (db : s0.heap.DictOf knd b kb) (keep : ∀ t, J t → t.heap.get? a = s0.heap.get? a ∧ t.heap.get? b = s0.heap.get? b) (hu : A.units < cLine)
    (turn : ∀ k v y, (k, v) ∈ ka → valueAt kb k = some y → ∀ t, J t → wpAny (model prog w) A.in1 (eqBool v y) (fun r t' => r = e k ∧ J t') E t)
    (h : ∀ t, J t → Q (.bool (ka.length == kb.length && ka.all (pairB kb e))) t) (hs : J s) : wpAny (model prog w) A (compareOp .Eq (.ref a) (.ref b)) Q E s := by
  have ta : s.heap.DictOf knd a ka := by
    obtain ⟨o, es, ep, g, r⟩ := da
    exact ⟨o, es, ep, (keep s hs).1.trans g, r⟩
  have tb : s.heap.DictOf knd b kb := by
    obtain ⟨o, es, ep, g, r⟩ := db
    exact ⟨o, es, ep, (keep s hs).2.trans g, r⟩
  refine wpAny_richCompare_same_room (op := .Eq) ta.typeIs tb.typeIs PySem.F.slot_dict_eq (wpAny_call_entry PySem.F.slot_dict_eq ta.typeIs PySem.F.entry_dict_eq ?_ (PySem.F.args_dict_eq_2 _ _)) hu
  show wpAny _ _ (Builtin.Dict.dictSlotArgs "__eq__" ⟨[.ref a, .ref b], []⟩ >>= _) _ _ s
  unfold Builtin.Dict.dictSlotArgs
  refine wpAny_bind (wpAny_bind (wpAny_notOrdered_dict ta.typeIs (wpAny_pure ?_)))
  refine wpAny_bind (wpAny_isInstance (T := "dict") tb.typeIs PySem.F.sub_dict_dict ?_)
  simp only [Bool.not_true, Bool.false_eq_true, if_false]
  refine wpAny_bind (wpAny_pure (wpAny_bind (wpAny_pure (wpAny_bind ?_))))
  refine pairsJ J ha hb da db keep turn (fun t j => ?_) hs
  refine wpAny_pure ⟨_, rfl, fun x => (nomatch x), ?_⟩
  simpa using h t j
end
/-- d == e for dicts that are locked, whose values are the same objects or are compared by the own __eq__ of C -/
def rEqDK (C : Addr) (sp : Sp) : R2 := fun x y H Q => ∃ (a b : Addr) (oa ob : Obj) (ks ls : List (Key × V)) (e : Key → Bool), x = .ref a ∧ y = .ref b ∧ H a = some (.frz oa (.dK ks)) ∧ H b = some (.frz ob (.dK ls)) ∧
  (∀ k v z, (k, v) ∈ ks → valV ls k = some z → ∃ p q dx dy fs gs, v = .ref p ∧ z = .ref q ∧ H p = some (.ins C dx fs) ∧ H q = some (.ins C dy gs) ∧ (p = q → e k = true) ∧ sp [.ref p, .ref q] H (fun r H' => r = .bl (e k) ∧ H' = H) E0) ∧
  Q (.bl (ks.length == ls.length && ks.all fun p => (valV ls p.1).isSome && e p.1)) H
theorem op_eqDK {X : Cx} {CX : CXT} {k : Nat} {C f : Addr} {fd : FuncData} {ps : List Str} {sp : Sp} (hs : PySem.W.findIn X.K (.ref C) "__eq__" = some (some (.ref f))) (hf : PySem.W.isFn X.K (.ref f) = true) (F : FnOk X.prog X.w X.K X.mg X.base CX k f fd ps sp) (hr : Room (k + 1) X.A) (hb : Binds X.K fd ps []) (hx : Passes CX X E0) :
    OpR X (compareOp .Eq) (rEqDK C sp) := by
  intro pins s σ H x y v u Q I rx ry h
  obtain ⟨a, b, oa, ob, ks, ls, e, rfl, rfl, ea, eb, hp, q⟩ := h
  obtain rfl : v = Value.ref a := rx
  obtain rfl : u = Value.ref b := ry
  obtain ⟨ga, _, ya, va, ra, da⟩ := (show ObjOk X.prog X.w H s.heap a (.frz oa (.dK ks)) from I.hok a _ ea)
  obtain ⟨gb, _, yb, vb, rb, db⟩ := (show ObjOk X.prog X.w H s.heap b (.frz ob (.dK ls)) from I.hok b _ eb)
  have e1 : (va.length == vb.length) = (ks.length == ls.length) := by rw [← ra.length, ← rb.length]
  have e2 : (va.all (pairB vb e)) = ks.all fun p => (valV ls p.1).isSome && e p.1 := kv_all (f := fun k => (valueAt vb k).isSome && e k) (g := fun k => (valV ls k).isSome && e k) ra fun k => by rw [relO_isSome (rb.val k)]
  refine dictsJ (s0 := s) (e := e) (fun t => Inv X pins σ H t) ya yb da db (fun t J => ?_) hr.units0 (fun k w z m hz t J => ?_) (fun t J => ?_) I
  · obtain ⟨ga', _⟩ := (show ObjOk X.prog X.w H t.heap a (.frz oa (.dK ks)) from J.hok a _ ea)
    obtain ⟨gb', _⟩ := (show ObjOk X.prog X.w H t.heap b (.frz ob (.dK ls)) from J.hok b _ eb)
    exact ⟨ga'.trans ga.symm, gb'.trans gb.symm⟩
  · obtain ⟨v, mv, rv⟩ := kv_mem ra m
    have r := rb.val k
    rw [hz] at r
    cases ez : valV ls k with
    | none => rw [ez] at r; exact (r : False).elim
    | some y =>
      rw [ez] at r
      obtain ⟨p, q, dx, dy, fs, gs, rfl, rfl, hp1, hq1, hsame, hsp⟩ := hp k v y mv ez
      obtain rfl : w = Value.ref p := rv
      obtain rfl : z = Value.ref q := r
      by_cases ne : p = q
      · subst ne
        exact SeqAt.EqAt.same (A := X.A.in1) (s := t) (.ref p) X.prog X.w _ _ ⟨(hsame rfl).symm, J⟩
      refine GQ.eqBool_refG ne ?_
      obtain ⟨mA, J1, _⟩ := ins_get J.hok hp1
      obtain ⟨mB, J2, _⟩ := ins_get J.hok hq1
      obtain ⟨od, J1, _⟩ := J1.look
      obtain ⟨od', J2, _⟩ := J2.look
      obtain ⟨m', hF⟩ := J.fr
      have hl : ([Value.ref p, Value.ref q] ++ []).length = ps.length := by
        rw [← F.len _ _ _ _ hsp]
        rfl
      refine PySem.W.cmp_K (op := .Eq) (tb := .ref C) hr.in1.units0 hF J.ok.mod.kin J1 J2.type (by simp [PySem.W.notFirst]) hs hf ?_
      refine wpAny_call (codeAny_mono (F.run X.A.in1 X.stack t H ⟨[.ref p, .ref q], []⟩ [.ref p, .ref q] [.ref p, .ref q] _ E0 hr.in1 J.env0.in1 (hb t [.ref p, .ref q] J.kIn hl) (.cons rfl (.cons rfl .nil)) hsp) fun r s' hq => ?_)
      cases r with
      | error er => exact hx pins σ H t er s' J hq
      | ok fl =>
        cases fl with
        | ret w =>
          obtain ⟨r, H', J', rr, er, eh⟩ := J.after hq
          subst er
          subst eh
          obtain rfl : w = Value.bool (e k) := rr
          exact ⟨_, rfl, rfl, J'⟩
        | next => exact False.elim hq
        | brk => exact False.elim hq
        | cont => exact False.elim hq
  · rw [e1, e2]
    exact ⟨.bl _, H, J, rfl, q⟩
end Kb

set_option Elab.async false
set_option linter.all false
set_option maxRecDepth 100000
set_option maxHeartbeats 2000000
/-! Kb, 64: house == house. -/
namespace Kb
open PySem PySem.Spec PyProof.Rows L2

structure HouseI (K : PySem.W.Frag) : Prop where
  hc : HouseC K
  cl : PySem.W.findIn K (.ref (HC K)) "__class__" = some (some (.builtin "object.__class__"))
  gt : PySem.W.specialIn K (.builtin "object.__class__") "__get__" = some (some (.builtin "getset_descriptor.__get__"))
  tk : PySem.W.takesIn K (.builtin "object.__class__") = some true
  mr : PySem.W.mroIn K (HC K) (.type "object") = some true
  ki : PySem.W.kitOne K (.ref (HC K)) (.ref (HC K)) = some true
def kEqB (b b' : KB) : Bool := decide (b.nm = b'.nm) && (keysB b.L b'.L && (keysB b.O b'.O && (b.R.length == b'.R.length && decide (b.h = b'.h))))
def hasEqB (bs' : List KB) (b : KB) : Bool := bs'.any fun b' => decide (b'.nm = b.nm) && kEqB b b'
def houseEqB (bs bs' : List KB) : Bool := bs.length == bs'.length && bs.all (hasEqB bs')
def sp_House_eq (K : PySem.W.Frag) : Sp := fun vs H Q _ => ∃ (a b t n t' n' : Addr) (bs bs' : List KB) (ns ns' : List Str), vs = [.ref a, .ref b] ∧ HouseI K ∧ KindI K ∧ HObT K [t'] H a t n bs ns ∧ HObT K [t] H b t' n' bs' ns' ∧ (bs.map KB.nm).Nodup ∧ (bs'.map KB.nm).Nodup ∧
  (∀ b1 ∈ bs, ∀ b2 ∈ bs', b1.nm = b2.nm → EqK b1.L b1.O b1.R b2.L b2.O b2.R) ∧ Q (.bl (houseEqB bs bs')) H
theorem len_House_eq {K : PySem.W.Frag} {vs : List V} {H : Hp} {Q : VK} {E : XK} (h : sp_House_eq K vs H Q E) : vs.length = 2 := by
  obtain ⟨_, _, _, _, _, _, _, _, _, _, rfl, _⟩ := h
  rfl
def t_House_eq (K : PySem.W.Frag) : TS :=
  (tRet (tAndV (tCB (rIsi K) (tCons (tVar 1) (tCons (tC (.ref (He.ga K "House"))) tNil))) (tLockE (tLockE (tOp (rEqDK (KC K) (sp_Kind_eq K)) (tFld K (tVar 0) "kind_table") (tFld K (tVar 1) "kind_table"))))))
def byName (bs : List KB) (k : Key) : Option KB := bs.find? fun b => decide (k = .inr b.nm)
def eqKey (bs bs' : List KB) (k : Key) : Bool := match byName bs k, byName bs' k with | some b, some b' => kEqB b b' | _, _ => true
theorem byName_of {bs : List KB} {b : KB} (nd : (bs.map KB.nm).Nodup) (m : b ∈ bs) : byName bs (.inr b.nm) = some b := by
  unfold byName
  induction bs with
  | nil => cases m
  | cons c r ih =>
    rw [List.map_cons] at nd
    obtain ⟨n1, n2⟩ := List.nodup_cons.mp nd
    rcases List.mem_cons.mp m with e | m
    · rw [← e]
      exact List.find?_cons_of_pos (by simp)
    · rw [List.find?_cons_of_neg, ih n2 m]
      intro z
      have e : (Sum.inr b.nm : Key) = .inr c.nm := of_decide_eq_true z
      exact n1 (by rw [← Sum.inr.inj e]; exact List.mem_map.mpr ⟨b, m, rfl⟩)
theorem keysB_self {L : List (Str × D)} : keysB L L = true := by
  unfold keysB
  rw [beq_self_eq_true, Bool.true_and]
  exact List.all_eq_true.mpr fun x m => decide_eq_true (List.mem_map.mpr ⟨x, m, rfl⟩)
theorem kEqB_self {b : KB} : kEqB b b = true := by
  unfold kEqB
  rw [keysB_self, keysB_self]
  simp
theorem hasEqB_of {bs' : List KB} {b b' : KB} (nd : (bs'.map KB.nm).Nodup) (m : b' ∈ bs') (e : b'.nm = b.nm) : hasEqB bs' b = kEqB b b' := by
  unfold hasEqB
  cases h : kEqB b b' with
  | true => exact List.any_eq_true.mpr ⟨b', m, by rw [h, e]; simp⟩
  | false =>
    refine List.any_eq_false.mpr fun c mc z => ?_
    obtain ⟨z1, z2⟩ := Bool.and_eq_true_iff.mp z
    have ec : c.nm = b'.nm := (of_decide_eq_true z1).trans e.symm
    have q1 := byName_of nd mc
    have q2 := byName_of nd m
    rw [ec, q2] at q1
    cases q1
    rw [h] at z2
    cases z2
theorem KAt.inj {K : PySem.W.Frag} {M M' : List Addr} {H : Hp} {b b' : KB} {v : V} (h : KAt K M H b v) (h' : KAt K M' H b' v) : b = b' := by
  obtain ⟨a, rfl, dx, l, o, r, na, ea, hl, ho, hr⟩ := h
  obtain ⟨a', e, dx', l', o', r', na', ea', hl', ho', hr'⟩ := h'
  cases e
  rw [ea] at ea'
  unfold kf at ea'
  have ee := Option.some.inj ea'
  injection ee with _ _ e3
  injection e3 with x1 x2
  injection x2 with y1 y2
  injection y2 with z1 z2
  injection z2 with w1 w2
  injection w2 with u1 u2
  have n1 : b.nm = b'.nm := by injection (congrArg Prod.snd x1)
  have l1 := congrArg Prod.snd y1
  have o1 := congrArg Prod.snd z1
  have r1 := congrArg Prod.snd w1
  have h1 : b.h = b'.h := by injection (congrArg Prod.snd u1)
  simp only at l1 o1 r1
  subst l1
  subst o1
  subst r1
  have l2 : b.L = b'.L := by injection At.inj hl hl'
  have o2 : b.O = b'.O := by injection At.inj ho ho'
  have r2 : b.R = b'.R := by injection At.inj hr hr'
  cases b
  cases b'
  simp only at n1 l2 o2 r2 h1
  rw [n1, l2, o2, r2, h1]
theorem pure_House_eq {K : PySem.W.Frag} (vs : List V) (H : Hp) (Q : VK) (E : XK) (h : sp_House_eq K vs H Q E) : t_House_eq K (fin Q) (st0 2 vs) H := by
  obtain ⟨a, b, t, n, t', n', bs, bs', ns, ns', rfl, C, CK, ⟨dx, kvs, p1, p2, p3, e1, e2, e3, tp⟩, ⟨dx', kvs', p1', p2', p3', e1', e2', e3', tp'⟩, nd, nd', ok, q⟩ := h
  have ne : t ≠ t' := fun z => p2 (by simp [z])
  have c := C.hc.cls
  refine ⟨_, rfl, .ref b, .ref (HC K), _, _, true, rfl, .own _, .base (.ins e1' c C.cl C.gt C.tk C.mr), C.ki, _, rfl, ?_⟩
  refine iteT ?_
  refine ⟨t, .dK kvs, e2, trivial, fun od => ?_⟩
  have f1 : (upd H t (.frz od (.dK kvs))) t' = some (.dK kvs') := by rw [upd_ne (fun z => ne z.symm)]; exact e2'
  refine ⟨t', .dK kvs', f1, trivial, fun od' => ?_⟩
  have B : But [t, t'] H (upd (upd H t (.frz od (.dK kvs))) t' (.frz od' (.dK kvs'))) := (But.refl.upd (.inl (by simp))).upd (.inl (by simp))
  have g1 : (upd (upd H t (.frz od (.dK kvs))) t' (.frz od' (.dK kvs'))) t = some (.frz od (.dK kvs)) := by rw [upd_ne ne, upd_same]
  have g2 : (upd (upd H t (.frz od (.dK kvs))) t' (.frz od' (.dK kvs'))) t' = some (.frz od' (.dK kvs')) := upd_same
  have ua : upd (upd (upd (upd H t (.frz od (.dK kvs))) t' (.frz od' (.dK kvs'))) t' (.dK kvs')) t (.dK kvs) = H := by
    funext x
    by_cases x1 : x = t
    · rw [x1, upd_same, e2]
    · rw [upd_ne x1]
      by_cases x2 : x = t'
      · rw [x2, upd_same, e2']
      · rw [upd_ne x2, upd_ne x2, upd_ne x1]
  have g4 : (upd (upd (upd H t (.frz od (.dK kvs))) t' (.frz od' (.dK kvs'))) t' (.dK kvs')) t = some (.frz od (.dK kvs)) := by rw [upd_ne ne]; exact g1
  have na : a ∉ [t, t'] := fun z => by
    rcases List.mem_cons.mp z with z | z
    · rw [z, e2] at e1; cases e1
    · exact p1 z
  have nb : b ∉ [t, t'] := fun z => by
    rcases List.mem_cons.mp z with z | z
    · exact p1' (by simp [z])
    · rw [List.mem_singleton.mp z, e2'] at e1'; cases e1'
  generalize upd (upd H t (.frz od (.dK kvs))) t' (.frz od' (.dK kvs')) = H2 at B g1 g2 g4 ua ⊢
  refine ⟨_, rfl, a, HC K, dx, _, .ref t, rfl, B.keep _ _ na e1, c, C.hc.n1, rfl, _, rfl, b, HC K, dx', _, .ref t', rfl, B.keep _ _ nb e1', c, C.hc.n1, rfl, ?_⟩
  refine ⟨t, t', od, od', kvs, kvs', eqKey bs bs', rfl, rfl, g1, g2, fun k v z m hz => ?_, ?_⟩
  · obtain ⟨i, ei⟩ := List.mem_iff_getElem?.mp m
    obtain ⟨b1, eb1, rfl, k1⟩ := tp.get ei
    have m1 := List.mem_of_getElem? eb1
    have m2 : b1.nm ∈ bs'.map KB.nm := by
      have := tp'.has nd' b1.nm
      rw [hz] at this
      exact of_decide_eq_true this.symm
    obtain ⟨b2, mb2, en⟩ := List.mem_map.mp m2
    obtain ⟨z', ez', k2⟩ := tp'.val nd' mb2
    rw [en, hz] at ez'
    cases ez'
    have ek : eqKey bs bs' (.inr b1.nm) = kEqB b1 b2 := by
      unfold eqKey
      rw [byName_of nd m1, ← en, byName_of nd' mb2]
    have k1' := (k1.less (M' := [t, t']) (by simp)).mono B
    have k2' := (k2.less (M' := [t, t']) (by simp)).mono B
    obtain ⟨p, hp, ob1⟩ := k1'.less (M' := []) (by simp)
    obtain ⟨q', hq, ob2⟩ := k2'.less (M' := []) (by simp)
    obtain ⟨dp, _, _, _, _, ip, _⟩ := id ob1
    obtain ⟨dq, _, _, _, _, iq, _⟩ := id ob2
    refine ⟨p, q', dp, dq, _, _, hp, hq, ip, iq, fun e => ?_, ?_⟩
    · rw [hp, e, ← hq] at k1'
      rw [ek, k1'.inj k2']
      exact kEqB_self
    · rw [ek]
      exact ⟨p, q', _, _, _, _, _, _, _, _, _, _, rfl, CK, ob1, ob2, ok b1 m1 b2 mb2 en.symm, rfl, rfl⟩
  · refine ⟨g2, g4, ?_⟩
    rw [ua]
    have e : (kvs.length == kvs'.length && kvs.all fun p => (valV kvs' p.1).isSome && eqKey bs bs' p.1) = houseEqB bs bs' := by
      unfold houseEqB
      rw [tp.len, tp'.len]
      congr 1
      have h1 : (kvs.all fun p => (valV kvs' p.1).isSome && eqKey bs bs' p.1) = (kvs.map (·.1)).all fun k => (valV kvs' k).isSome && eqKey bs bs' k := by rw [List.all_map]; rfl
      rw [h1, tp.keys, List.map_map, List.all_map]
      refine Bool.eq_iff_iff.mpr ?_
      rw [List.all_eq_true, List.all_eq_true]
      refine forall_congr' fun b1 => forall_congr' fun m1 => ?_
      show ((valV kvs' (.inr b1.nm)).isSome && eqKey bs bs' (.inr b1.nm)) = true ↔ _
      rw [tp'.has nd']
      by_cases m2 : b1.nm ∈ bs'.map KB.nm
      · obtain ⟨b2, mb2, en⟩ := List.mem_map.mp m2
        rw [decide_eq_true m2, Bool.true_and, hasEqB_of nd' mb2 en]
        unfold eqKey
        rw [byName_of nd m1, ← en, byName_of nd' mb2]
      · rw [decide_eq_false m2, Bool.false_and]
        refine ⟨fun z => (nomatch z), fun z => ?_⟩
        obtain ⟨c, mc, zc⟩ := List.any_eq_true.mp z
        exact absurd (List.mem_map.mpr ⟨c, mc, of_decide_eq_true (Bool.and_eq_true_iff.mp zc).1⟩) m2
    rw [e]
    exact q
end Kb

set_option Elab.async false
set_option linter.all false
set_option maxRecDepth 100000
set_option maxHeartbeats 2000000
/-! Kb, 65: dicts where an exception is handled: their keys walked, list(d). -/
namespace Kb
open PySem PySem.Spec PyProof.Rows L2 L2H HotX

section
variable {prog : Program} {w : World} {A : Around} {E : Value → Shared → Prop} {s : Shared}
theorem keyEndH {it d x1 : Addr} {i n ep : Nat} {od : Obj} {es : Array DictEntry} {Q : Option Value → Shared → Prop} (hot : HotAt A x1 s.heap) (ne : x1 ≠ it) (st : s.heap.IsKeyIter it d i n ep)
    (e1 : s.heap.get? d = some od) (e2 : od.data = .dict es ep) (z : es.size = n) (le : n ≤ i) (q : ∀ h', Heap.ExtBut it s.heap h' → Q none { s with heap := h' }) :
    wpAny (model prog w) A (pyNext (.ref it)) Q E s := by
  obtain ⟨oi, g1, g2, g3⟩ := id st
  obtain ⟨hh, o1, vs1, x2, x3, x4⟩ := hot
  have ty := st.typeIs
  unfold pyNext
  refine wpAny_bind (wpAny_attempt (wpAny_callSpecial?_slot (name := Str.ofString "__next__") ty F.slot_dict_keyiterator_next (wpAny_call_entry F.slot_dict_keyiterator_next ty F.entry_dict_keyiterator_next ?_ (F.args_dict_keyiterator_next_1 _))))
  refine wpAny_bind (wpAny_pure ?_); refine wpAny_bind ?_; refine wpAny_bind ?_
  first | refine wpAny_bind (wpAny_typeNameOfWhole_keyiter ty (wpAny_pure ?_)) | refine wpAny_bind (wpAny_typeNameOf_keyiter ty (wpAny_pure ?_))
  refine wpAny_bind (wpAny_fieldsOf g1 g3 ?_)
  have own : Builtin.Dict_items.ownsTuple "dict_keyiterator" = false := by decide
  simp only [own, Bool.false_eq_true, if_false]
  show wpAny _ _ (if (Value.ref d == Value.none) = true then _ else _) _ _ s; rw [if_neg (show ¬ ((Value.ref d == Value.none) = true) from Bool.false_ne_true)]
  refine wpAny_bind (wpAny_pure ?_); refine wpAny_bind (wpAny_dictEntries e1 e2 ?_)
  rw [if_neg (by rw [z]; simp)]; refine wpAny_bind (wpAny_pure ?_); refine wpAny_bind (wpAny_dictEpoch e1 e2 ?_)
  rw [if_neg (by simp)]; refine wpAny_pure ?_
  have ge : es.size ≤ i := by rw [z]; exact le
  simp only [show ¬ ((i : Int) < 0) from by omega, if_false, Int.toNat_natCast, Array.getElem?_eq_none ge]
  refine wpAny_bind ?_
  first | refine wpAny_bind (wpAny_typeNameOfWhole_keyiter ty (wpAny_pure ?_)) | refine wpAny_bind (wpAny_typeNameOf_keyiter ty (wpAny_pure ?_))
  show wpAny _ _ (setField (.ref it) 0 .none >>= _) _ _ s; refine wpAny_bind (wpAny_setField g1 g3 (by simp) ?_)
  have y2 : (s.heap.update it (Obj.mapFields (·.setIfInBounds 0 .none))).get? x1 = some o1 := (Heap.get?_update_other _ _ (Ne.symm ne)).trans x2
  show wpAny _ _ (newExc (.type "StopIteration") [] >>= _) _ _ _; refine wpAny_bind ?_
  simp only [newExc, newTuple]
  refine wpAny_bind (wpAny_newObj_type ?_ (by size_fits)); refine wpAny_bind (m := firstArgMember _ _) (wpAny_of_eq (a := Value.none) (by first | rfl | (simp only [firstArgMember]; rfl)) ?_)
  refine wpAny_newObj_type ?_ (by size_fits); refine raiseNew_hot ⟨hh, o1, vs1, Heap.get?_push_of_some _ (Heap.get?_push_of_some _ y2), x3, x4⟩ (Nat.ne_of_lt (Heap.lt_size (Heap.get?_push_of_some _ y2))) (Heap.get?_push_size _ rfl) rfl (by first | (simp; done) | (simp; omega) | (simp only [Array.size_append]; simp; omega)) ?_
  refine wpAny_bind (wpAny_isInstance (T := "StopIteration") (b := true) ⟨_, Heap.get?_update_self _ (Heap.get?_push_size _ rfl) rfl, rfl⟩ isSubtype_stop ?_); refine wpAny_pure (q _ fun b o nb e => ?_)
  have e' : (s.heap.update it (Obj.mapFields (·.setIfInBounds 0 .none))).get? b = some o := (Heap.get?_update_other _ _ (Ne.symm nb)).trans e
  rw [Heap.get?_update_other _ _ (Nat.ne_of_gt (Heap.lt_size (Heap.get?_push_of_some _ e')))]
  exact Heap.get?_push_of_some _ (Heap.get?_push_of_some _ e')
section
variable {K : Type} [DecidableEq K] {knd : KeyKind prog w K}
theorem walkKeyH {x1 : Addr} {o1 : Obj} {vs1 : Array Value} (hh : A.handled = some (.ref x1)) (d1 : o1.data = .fields vs1) (c1 : vs1[2]? = some .none) (I d : Addr) (nd : d ≠ I) (nx : x1 ≠ I) (kvs : List (K × Value)) (ep : Nat) :
    Walks prog w A I [I, d, x1] [I] kvs.length (fun i v => ∃ k x, kvs[i]? = some (k, x) ∧ knd.is k v = true) (fun i h => (h.IsKeyIter I d i kvs.length ep ∧ h.DictAt knd d kvs ep) ∧ h.get? x1 = some o1) where
  sub := fun b m => by simp at m; simp [m]
  frame := fun _ _ _ st k => ⟨⟨st.1.1.at fun o e => k I (by simp) o e, st.1.2.at' fun o e => k d (by simp) o e⟩, k x1 (by simp) _ st.2⟩
  item := fun i s Q E hi st q => by
    obtain ⟨⟨k, x⟩, ex⟩ : ∃ p, kvs[i]? = some p := ⟨kvs[i], List.getElem?_eq_getElem hi⟩
    refine wpAny_pyNext_dict_item st.1.1 st.1.2 ex fun key h' hk st' sb => ?_
    exact q key h' s.toks ⟨k, x, ex, hk⟩ ⟨⟨st', st.1.2.extBut sb.extBut nd⟩, (sb.2 x1 nx).trans st.2⟩ fun b o nb e => sb.extBut b o (fun z => nb (by simp [z])) e
  done := fun s Q E st q => by
    obtain ⟨o, es, g1, g2, g3, g4, g5, g6⟩ := id st.1.2
    have z : es.size = kvs.length := by rw [← g5.length]; simp
    exact keyEndH ⟨hh, o1, vs1, st.2, d1, c1⟩ nx st.1.1 g1 g3 z (Nat.le_refl _) fun h' eb => q h' s.toks fun b o nb e => eb b o (fun z => nb (by simp [z])) e
  self := fun _ _ _ _ st q => wpAny_pyIter_keyiter st.1.1 q
/-- S.extend(d), S an empty list -/
theorem extendKeyH {R : Result → Shared → Prop} {x1 d S : Addr} {kvs : List (K × Value)} {ep c0 : Nat} (lo : (d == sysModules) = false) (hot : HotAt A x1 s.heap) (m : s.heap.DictAt knd d kvs ep) (nd : S ≠ d) (nx : S ≠ x1) (res : Value)
    (eS : s.heap.get? S = some { cls := .type "list", data := .seq #[] c0 }) (hn : kvs.length ≤ sizeLine)
    (q : ∀ h' tk acc c, (∀ b o, b ≠ S → s.heap.get? b = some o → h'.get? b = some o) → h'.get? S = some { cls := .type "list", dict := none, data := .seq acc c, slots := #[] } → ItemsOf (fun i v => ∃ k x, kvs[i]? = some (k, x) ∧ knd.is k v = true) acc kvs.length → R (.ok (.ret res)) { s with heap := h', toks := tk }) :
    wpAny (model prog w) A.in1 (Builtin.List.listExtendWith (.ref S) (.ref d) res)
      (fun fin t => match fin with | .done f => R (.ok f) t | .again c => c.quiet = true ∧ codeAny (model prog w) A c R t) (fun e t => R (.error e) t) s := by
  obtain ⟨hh, o1, vs1, g1, d1, c1⟩ := hot
  have nI : S ≠ s.heap.objs.size := Nat.ne_of_lt (Heap.lt_size eS)
  have n1 : x1 ≠ s.heap.objs.size := Nat.ne_of_lt (Heap.lt_size g1)
  have out : S ∉ [s.heap.objs.size, d, x1] := fun z => by
    simp only [List.mem_cons, List.not_mem_nil, or_false] at z
    rcases z with z | z | z
    · exact nI z
    · exact nd z
    · exact nx z
  have W := walkKeyH (prog := prog) (w := w) (A := A.in1) (knd := knd) hh d1 c1 s.heap.objs.size d (Nat.ne_of_lt m.lt_size) n1 kvs ep
  obtain ⟨oI, eI⟩ : ∃ oI : Obj, oI = { cls := .type "dict_keyiterator", data := .fields #[.ref d, .int 0 0, .int kvs.length 0, .int ep 0] } := ⟨_, rfl⟩
  have st0 : (s.heap.push oI).IsKeyIter s.heap.objs.size d 0 kvs.length ep := by
    rw [eI]
    exact ⟨_, Heap.get?_push_size _ rfl, rfl, rfl⟩
  have key : ∀ (h : Heap) (c tk : Nat), ((h.IsKeyIter s.heap.objs.size d 0 kvs.length ep ∧ h.DictAt knd d kvs ep) ∧ h.get? x1 = some o1) → (∀ b o, b ≠ S → s.heap.get? b = some o → h.get? b = some o) → h.get? S = some { cls := .type "list", data := .seq #[] c } →
      codeAny (model prog w) A (.builtin "list.extend.loop" ⟨[.ref S, .ref s.heap.objs.size, res], []⟩) R { s with heap := h, toks := tk } := by
    intro h c tk st k eh
    have WS := W.toS
    refine codeAny_extend_loopS WS hn S out res kvs.length 0 _ #[] c rfl (Nat.zero_le _) st eh (ItemsOf.nil _) fun t acc c' mv et it => ?_
    rw [Moved.eq_with mv]
    refine q t.heap t.toks acc c' (fun b o nb e => mv.heap b o (fun z => ?_) (k b o nb e)) et it
    rcases List.mem_cons.mp z with z | z
    · exact nb z
    · exact absurd (Heap.lt_size e) (by rw [List.mem_singleton.mp z]; exact Nat.lt_irrefl _)
  unfold Builtin.List.listExtendWith
  refine wpAny_bind (wpAny_typeOf (T := "dict") m.dictOf.typeIs ?_)
  have same : Builtin.List.listSameRef (.ref S) (.ref d) = false := by simp [Builtin.List.listSameRef, nd]
  have k1 : (Value.type "dict" == Value.type "list") = false := by decide
  have k2 : (Value.type "dict" == Value.type "tuple") = false := by decide
  simp only [same, k1, k2, Bool.or_false, Bool.false_eq_true, if_false]
  refine wpAny_bind (wpAny_pyIter_dict lo m ?_)
  rw [← eI]
  have e1 := Heap.get?_push_of_some oI eS
  have m1 := m.push oI
  have x1' := Heap.get?_push_of_some oI g1
  refine wpAny_bind (wpAny_holding (PySem.W.kdl_hint_dict (s := { s with heap := s.heap.push oI }) m1.dictOf.typeIs ?_))
  refine wpAny_ite_split (fun _ => ?_) (fun _ => wpAny_pure ⟨plainId_quiet PySem.F.plain_extend_loop _, key _ c0 _ ⟨⟨st0, m1⟩, x1'⟩ (fun b o _ e => Heap.get?_push_of_some _ e) e1⟩)
  refine wpAny_bind (wpAny_rule ?_); refine wpAny_bind ?_
  show wpAny _ _ (updateSeq S (·.push .none) >>= fun _ => updateSeq S (·.pop)) _ _ _; refine wpAny_bind (wpAny_updateSeq e1 rfl ?_)
  have e2 := Heap.get?_update_self (Obj.mapSeq (·.push Value.none)) e1 rfl
  refine wpAny_updateSeq (hz := by seq_fits) e2 rfl ?_
  have e3 := Heap.get?_update_self (Obj.mapSeq (·.pop)) e2 rfl
  refine wpAny_pure ⟨plainId_quiet PySem.F.plain_extend_loop _, key _ _ _ ?_ (fun b o nb e => ?_) e3⟩
  · refine W.frame 0 _ _ ⟨⟨st0, m1⟩, x1'⟩ fun b hb o e => ?_
    have nb : b ≠ S := fun z => out (z ▸ hb)
    rw [Heap.get?_update_other _ _ (Ne.symm nb), Heap.get?_update_other _ _ (Ne.symm nb)]
    exact e
  · rw [Heap.get?_update_other _ _ (Ne.symm nb), Heap.get?_update_other _ _ (Ne.symm nb)]
    exact Heap.get?_push_of_some _ e
/-- list(d) -/
theorem listKeyH {x1 d : Addr} {kvs : List (K × Value)} {ep : Nat} {Q : Value → Shared → Prop} (lo : (d == sysModules) = false) (hot : HotAt A x1 s.heap) (m : s.heap.DictAt knd d kvs ep) (hn : kvs.length ≤ sizeLine)
    (q : ∀ h' tk acc c, (∀ b o, s.heap.get? b = some o → h'.get? b = some o) → h'.get? s.heap.objs.size = some { cls := .type "list", dict := none, data := .seq acc c, slots := #[] } → ItemsOf (fun i v => ∃ k x, kvs[i]? = some (k, x) ∧ knd.is k v = true) acc kvs.length → Q (.ref s.heap.objs.size) { s with heap := h', toks := tk }) :
    wpAny (model prog w) A (call (.type "list") [.ref d]) Q E s := by
  refine callType_codes (Q₁ := fun v t => v = .ref s.heap.objs.size ∧ t = { s with heap := s.heap.push { cls := .type "list", data := .seq #[] } }) PySem.F.called_list (PySem.F.typeCall_list_1 _) PySem.F.entry_list_init (code_list_new _ ⟨rfl, rfl⟩) fun v t vt => ?_
  obtain ⟨rfl, rfl⟩ := vt
  obtain ⟨S, eS⟩ : ∃ S, s.heap.objs.size = S := ⟨_, rfl⟩
  have e0 : (s.heap.push { cls := .type "list", data := .seq #[] }).get? S = some { cls := .type "list", data := .seq #[] } := by
    rw [← eS]
    exact Heap.get?_push_size _ rfl
  obtain ⟨hh, o1, vs1, g1, d1, c1⟩ := hot
  have nd : S ≠ d := by rw [← eS]; exact Nat.ne_of_gt m.lt_size
  have nx : S ≠ x1 := by rw [← eS]; exact Nat.ne_of_gt (Heap.lt_size g1)
  have m1 := m.push ({ cls := .type "list", data := .seq #[] } : Obj)
  have g2 := Heap.get?_push_of_some ({ cls := .type "list", data := .seq #[] } : Obj) g1
  have k1 : ∀ b o, s.heap.get? b = some o → b ≠ S ∧ (s.heap.push { cls := .type "list", data := .seq #[] }).get? b = some o := fun b o e => ⟨by rw [← eS]; exact Nat.ne_of_lt (Heap.lt_size e), Heap.get?_push_of_some _ e⟩
  rw [eS]
  refine ⟨⟨_, e0, rfl⟩, PySem.F.args_list_init_2 _ _, ?_⟩
  generalize s.heap.push { cls := .type "list", data := .seq #[] } = h1 at e0 m1 g2 k1 ⊢
  show wpAny _ _ (do let old ← Builtin.List.listItems (.ref S); Builtin.List.listUpdate (.ref S) (fun _ => #[]); letGo old.toList.reverse; Builtin.List.listExtendWith (.ref S) (.ref d) .none) _ _ { s with heap := h1 }
  refine wpAny_bind ?_
  unfold Builtin.List.listItems
  refine wpAny_bind (wpAny_seqItems e0 rfl (wpAny_pure ?_))
  show wpAny _ _ (updateSeq S (fun _ => #[]) >>= fun _ => letGo (#[] : Array Value).toList.reverse >>= fun _ => Builtin.List.listExtendWith (.ref S) (.ref d) .none) _ _ { s with heap := h1 }
  refine wpAny_bind (wpAny_updateSeq e0 rfl ?_)
  have e2 := Heap.get?_update_self (Obj.mapSeq (fun _ => (#[] : Array Value))) e0 rfl
  have oth : ∀ b o, b ≠ S → h1.get? b = some o → (h1.update S (Obj.mapSeq (fun _ => (#[] : Array Value)))).get? b = some o := fun b o nb e => by
    rw [Heap.get?_update_other _ _ (Ne.symm nb)]
    exact e
  refine wpAny_bind (wpAny_letGo ?_)
  refine extendKeyH (A := A.in1) (s := { s with heap := h1.update S (Obj.mapSeq (fun _ => (#[] : Array Value))) }) lo ⟨hh, o1, vs1, oth _ _ (Ne.symm nx) g2, d1, c1⟩ (m1.at' fun o e => oth _ _ (Ne.symm nd) e) nd nx .none e2 hn fun h' tk acc c k eh it => ?_
  refine ⟨rfl, ?_⟩
  rw [eS] at q
  exact q h' tk acc c (fun b o e => k b o (k1 b o e).1 (oth b o (k1 b o e).1 (k1 b o e).2)) eh it
end
end
/-- list(d): its keys, where an exception is handled -/
theorem kListKH {X : Cx} (hot : HotC X) : CallR X (.type "list") rListK := by
  intro pins s σ H xs us Q I r q
  obtain ⟨a, kvs, rfl, hd, q⟩ := q
  obtain ⟨u, rfl, rx⟩ := vals1 r
  cases rx
  obtain ⟨z, lo, vs, rel, dd⟩ := dk_rd I.hok hd
  obtain ⟨ep, hat⟩ := dd.dictAt
  have ek : (kvs.map fun kv => kV kv.1) = vs.map fun p => kV p.1 := by
    have e := congrArg (List.map kV) rel.keys
    rwa [List.map_map, List.map_map] at e
  obtain ⟨x1, hx⟩ := hot.at I
  refine listKeyH (knd := mixKind X.prog X.w) lo hx hat (by rw [← rel.length]; exact z) fun h' tk acc c k hD it => ?_
  have hv : Vals (vs.map fun p => kV p.1) acc.toList := keys_at (by rw [Array.length_toList]; exact it.1) fun j v e => it.2 j v (by rw [← Array.getElem?_toList]; exact e)
  have ok : ObjOk X.prog X.w (upd H s.heap.objs.size (.lst (kvs.map fun kv => kV kv.1))) h' s.heap.objs.size (.lst (kvs.map fun kv => kV kv.1)) := ⟨by rw [List.length_map]; exact z, acc.toList, c, by rw [ek]; exact hv, by rw [Array.toArray_toList]; exact hD⟩
  exact ⟨.ref s.heap.objs.size, _, I.laid (t' := tk) k (Nat.le_refl _) ok, rfl, q _ (I.hok.fresh (Nat.le_refl _))⟩
section
variable {P : Program} {w : World} {K : PySem.W.Frag} {tg : Expr} {d : Addr} {o : Obj} {es : Array DictEntry} {ep : Nat}
theorem turn_keysH {kvs : List (Key × V)} (it : Addr) (hod : o.data = .dict es ep) : TurnH P w K tg (Itk d o kvs) [it] it (fun i h => h.IsKeyIter it d i kvs.length ep) where
  mem := List.mem_cons_self
  obj := fun i h st b hb => by
    obtain rfl := List.mem_singleton.mp hb
    obtain ⟨oi, e, _, dd⟩ := st
    exact ⟨oi, e, fun v z => by rw [dd] at z; cases z⟩
  keep := fun i h h' st k => st.at fun oi e => k it List.mem_cons_self oi e
  item := by
    intro X eP ew eK hc i pins s σ H E I hf st hg
    subst eP ew eK
    obtain ⟨hd, hi⟩ := hg
    obtain ⟨f0, f1, f2, f3, f4, f5⟩ := hf it List.mem_cons_self
    obtain ⟨_, _, _, es', ep', vs, hdt, _, kv, hm⟩ := I.frzK hd
    obtain ⟨rfl, rfl⟩ := dict_ep hod hdt
    obtain ⟨⟨k, v⟩, hkv⟩ : ∃ p, kvs[i]? = some p := ⟨kvs[i], List.getElem?_eq_getElem hi⟩
    obtain ⟨u, hu, _⟩ := kv_get kv hkv
    have hl : kvs.length = vs.length := Paired.length kv
    rw [hl] at st
    refine wpAny_pyNext_dict_item st hm hu fun key h' hkey st' sb => ?_
    have I1 : Inv X pins σ H { s with heap := h' } := I.turned (t' := s.toks) (fun b ob hb e => (sb.2 b hb).trans e) f0 f1 f3 f4 f5
    obtain ⟨oi, e, c, dd⟩ := id st'
    rw [← hl] at st'
    exact ⟨key, rfl, go_of (s := { s with heap := h' }) e c dd (by decide) ⟨kV k, H, I1, relV_key (show keyIs k key = true from hkey), ⟨rfl, k, v, hkv, rfl⟩, st', fun b hb => (hf b hb).1⟩⟩
  done := by
    intro X eP ew eK hc i pins s σ H E I hf st hg
    subst eP ew eK
    obtain ⟨hd, hi⟩ := hg
    obtain ⟨f0, f1, f2, f3, f4, f5⟩ := hf it List.mem_cons_self
    obtain ⟨_, hgd, _, es', ep', vs, hdt, hsz, kv, _⟩ := I.frzK hd
    obtain ⟨rfl, rfl⟩ := dict_ep hod hdt
    obtain ⟨p, ⟨hh, v1, e1, c1⟩, hp⟩ := hc
    have hp' := List.mem_append_left pins hp
    exact keyEndH ⟨hh, p.2, v1, (I.pin p hp').1, e1, c1⟩ (f5 p hp') st hgd hdt hsz hi fun h' eb => ⟨rfl, I.turned (t' := s.toks) (fun b ob hb e => eb b ob hb e) f0 f1 f3 f4 f5⟩
  self := fun _ _ _ _ _ st h => wpAny_pyIter_keyiter st h
theorem turn_keysTH {kvs : List (List Key × V)} (it : Addr) (hod : o.data = .dict es ep) : TurnH P w K tg (Itkt d o kvs) [it] it (fun i h => h.IsKeyIter it d i kvs.length ep) where
  mem := List.mem_cons_self
  obj := fun i h st b hb => by
    obtain rfl := List.mem_singleton.mp hb
    obtain ⟨oi, e, _, dd⟩ := st
    exact ⟨oi, e, fun v z => by rw [dd] at z; cases z⟩
  keep := fun i h h' st k => st.at fun oi e => k it List.mem_cons_self oi e
  item := by
    intro X eP ew eK hc i pins s σ H E I hf st hg
    subst eP ew eK
    obtain ⟨hd, hi⟩ := hg
    obtain ⟨f0, f1, f2, f3, f4, f5⟩ := hf it List.mem_cons_self
    obtain ⟨_, hgd, _, es', ep', hdt, hsz, ent⟩ := I.frzT hd
    obtain ⟨rfl, rfl⟩ := dict_ep hod hdt
    obtain ⟨⟨k, v⟩, hkv⟩ : ∃ p, kvs[i]? = some p := ⟨kvs[i], List.getElem?_eq_getElem hi⟩
    obtain ⟨en, q, hen, hkey, hq⟩ := ent i k v hkv
    refine next_key_item st hgd hdt hsz hen fun h' st' sb => ?_
    have I1 : Inv X pins σ H { s with heap := h' } := I.turned (t' := s.toks) (fun b ob nb e => (sb.2 b nb).trans e) f0 f1 f3 f4 f5
    obtain ⟨oi, e, c, dd⟩ := id st'
    exact ⟨_, rfl, go_of (s := { s with heap := h' }) e c dd (by decide) ⟨.ref q, H, I1, hkey, ⟨rfl, k, v, q, hkv, rfl, hq⟩, st', fun b hb => (hf b hb).1⟩⟩
  done := by
    intro X eP ew eK hc i pins s σ H E I hf st hg
    subst eP ew eK
    obtain ⟨hd, hi⟩ := hg
    obtain ⟨f0, f1, f2, f3, f4, f5⟩ := hf it List.mem_cons_self
    obtain ⟨_, hgd, _, es', ep', hdt, hsz, ent⟩ := I.frzT hd
    obtain ⟨rfl, rfl⟩ := dict_ep hod hdt
    obtain ⟨p, ⟨hh, v1, e1, c1⟩, hp⟩ := hc
    have hp' := List.mem_append_left pins hp
    exact keyEndH ⟨hh, p.2, v1, (I.pin p hp').1, e1, c1⟩ (f5 p hp') st hgd hdt hsz hi fun h' eb => ⟨rfl, I.turned (t' := s.toks) (fun b ob hb e => eb b ob hb e) f0 f1 f3 f4 f5⟩
  self := fun _ _ _ _ _ st h => wpAny_pyIter_keyiter st h
end
section
variable {X : Cx} {tg e : Expr} {td : TE}
/-- for k in d, d locked, where an exception is handled -/
theorem pi_keysH (he : PE X e td) : PIH X tg e (iKeys td) := by
  refine ⟨fun pins s σ H R I h => ?_⟩
  refine thn (he.run pins s σ H _ I h) fun u s1 ⟨x, H1, I1, rx, d, o, ex, q⟩ => ?_
  subst ex
  obtain rfl : u = Value.ref d := rx
  have fp : ∀ (oi : Obj), ∀ b ∈ [s1.heap.objs.size], FpOk X pins H1 b := fun oi b hb => by
    obtain rfl := List.mem_singleton.mp hb
    exact I1.fpOk (Nat.le_refl _) (I1.hok.fresh (Nat.le_refl _))
  rcases q with ⟨kvs, hd, q⟩ | ⟨kvs, hd, q⟩
  · obtain ⟨hs, hgd, hx, es, ep, vs, hdt, hsz, _, _⟩ := I1.frzK hd
    refine iter_keys hs hgd hx hdt ⟨s1.heap.objs.size, [s1.heap.objs.size], _, _, H1, rfl, I1.kept (t' := s1.toks) fun b ob e => Heap.get?_push_of_some _ e, turn_keysH _ hdt, ⟨_, Heap.get?_push_size _ rfl, rfl, by rw [hsz] <;> rfl⟩, fp default, q⟩
  · obtain ⟨hs, hgd, hx, es, ep, hdt, hsz, _⟩ := I1.frzT hd
    refine iter_keys hs hgd hx hdt ⟨s1.heap.objs.size, [s1.heap.objs.size], _, _, H1, rfl, I1.kept (t' := s1.toks) fun b ob e => Heap.get?_push_of_some _ e, turn_keysTH _ hdt, ⟨_, Heap.get?_push_size _ rfl, rfl, by rw [hsz] <;> rfl⟩, fp default, q⟩
/-- a def called where an exception is handled, as elsewhere -/
theorem tCall_eq (sp : Sp) (E : XK) (t : TA) : tCallS sp (fun _ => E) t = tCall sp [] E t := by
  funext σ H Q
  unfold tCall tCallS
  simp only [List.append_nil]
theorem tMeth_eq (C : Addr) (m : Str) (sp : Sp) (E : XK) (ta : TE) (t : TA) : tMethH C m sp (fun _ => E) ta t = tMeth C m sp [] E ta t := by
  funext σ H Q
  unfold tMeth tMethH
  simp only [List.append_nil]
end
section
variable {X : Cx} {CX : CXT} {k : Nat} {C f : Addr} {fd : FuncData} {ps : List Str} {sp : Sp} {E : L2.St → XK} {m : Str} {o e : Expr} {es : List Expr} {ta : TE} {t : TA} {apos pos : Pos}
theorem pe_callHC {p : Pos} {x : Str} {E0' : XK} (F : FnH X.prog X.w X.K X.mg X.base CX k f fd ps sp) (hr : RoomH k X.A) (hc : HotC X) (hg : Gl X x) (hm : X.mg x = some (.ref f)) (hk : PySem.W.keepIn X.K (.ref f) = true) (hb : Binds X.K fd ps []) (hx : ∀ σ, PassesAt CX X σ E0')
    (ha : PA X (e :: es) t) (hdb : (x == ("__debug__" : Str)) = false := by decide) (he : starEach (e :: es) X.env = (false, eval e X.env) :: starEach es X.env := by rfl) (hpl : (backTo pos (starEach es X.env)).any (·.1) = false := by rfl) :
    PE X (.Call (.Name x p) (e :: es) [] pos) (tCall sp [] E0' t) := by
  rw [← tCall_eq]
  exact pe_callH F hr hc hg hm hk hb hx ha hdb he hpl
/-- o.m(e, ..), which may raise -/
theorem pe_methE {pl : Sem Bool} (he : PE X o ta) (c : Cls X.K C) (hm : Meth X.K C m f) (F : FnOk X.prog X.w X.K X.mg X.base CX k f fd ps sp) (hr : Room k X.A) (hb : Binds X.K fd ps []) (hx : ∀ σ, PassesAt CX X σ (E σ)) (ha : PA X (e :: es) t)
    (hst : starEach (e :: es) X.env = (false, eval e X.env) :: starEach es X.env := by rfl) (hpl : (backTo pos (starEach es X.env)).any (·.1) = false := by rfl)
    (ht : eval (.Call (.Attribute o m apos) (e :: es) [] pos) X.env = (do let ov ← eval o X.env; standAt apos.atName; let (f, first) ← holding [ov] (getMethod ov m pl); callWith pos f first (backTo pos (starEach (e :: es) X.env)) (backToKw pos (keywordEach [] X.env))) := by rfl) :
    PE X (.Call (.Attribute o m apos) (e :: es) [] pos) (tMethH C m sp E ta t) := by
  refine ⟨fun pins s σ H Q I h => PySem.W.methodCall_KW (pl := pl) (thn (he.run pins s σ H _ I h) fun u s1 ⟨x, H1, I1, rx, a, dx, fs, ex, ea, l, q⟩ => ?_) ht⟩
  subst ex
  obtain rfl : u = Value.ref a := rx
  refine getmeth_ok I1 ea c hm l (PySem.W.callWith_K (first := [.ref a]) (h₀ := X.base) I.ok.mod.kin hm.kp (thn (ha.run pos pins s1 σ H1 _ I1 q) fun us s2 ⟨vs, H2, I2, r, q2⟩ => ⟨I2.kIn, ?_⟩) hst hpl)
  exact run_fnS (us := .ref a :: us) (vs := .ref a :: vs) F hr hb (hx σ) I2 (.cons rfl r) q2
end
end Kb

set_option Elab.async false
set_option linter.all false
set_option maxRecDepth 100000
set_option maxHeartbeats 2000000
/-! Kb, 66: Kinds made of drawn kinds; the names of drawn kinds. -/
namespace Kb
open PySem PySem.Spec PyProof.Rows L2 L2H

/-- the Kind b was made of the kind k -/
structure Made (k : KD) (b : KB) : Prop where
  nm : b.nm = k.name
  h : b.h = k.hid
  out : Out k b.L b.O b.R
  like : Like (toldD k.name k.hid b.L b.O b.R) (dueD k)
theorem Made.of {k : KD} {L O : List (Str × D)} {R : List D} (g : KdGood k) (kp : Kept (linkD k.links) (ownD k.own) (.lst (k.rules.map Rule.d)) L O R) : Made k ⟨k.name, L, O, R, k.hid⟩ :=
  ⟨rfl, rfl, kp.out g k.tells, kept_like g k.tells kp⟩
/-- a kind of a drawn house -/
structure InHouse (kinds asked : List Str) (rn : Nat) (k : KD) : Prop where
  ok : KdOk kinds asked 2 rn k
  rn : rn ≤ 300
  kn : ∀ n ∈ kinds, IsName n
  an : ∀ n ∈ asked, IsName n
  nd : asked.Nodup
  mem : k.name ∈ kinds
theorem InHouse.good {kinds asked : List Str} {rn : Nat} {k : KD} (i : InHouse kinds asked rn k) : KdGood k := ⟨⟨kinds, asked, rn, i.ok, i.rn, i.kn, i.an, i.nd⟩, i.kn _ i.mem⟩
theorem HsOk.inh {kn an rn : Nat} {kinds asked : List Str} {hs : List KD} (o : HsOk kn 2 an rn kinds asked hs) (r : rn ≤ 300) {k : KD} (m : k ∈ hs) : InHouse kinds asked rn k :=
  ⟨o.ok k m, r, o.ks.nm, o.as.nm, o.as.nd, by rw [← o.nm]; exact List.mem_map.mpr ⟨k, m, rfl⟩⟩
section
variable {k : KD} {b : KB} {kinds asked : List Str} {rn : Nat}
theorem InHouse.ol (i : InHouse kinds asked rn k) : k.own.length ≤ 5 := by
  have := i.ok.own.sub.length_le
  rw [List.length_map, List.length_take] at this
  omega
theorem Made.ok (m : Made k b) (i : InHouse kinds asked rn k) : KBok b k.rules := by
  refine ⟨fun x hx => ?_, m.out.r, ?_, Nat.le_trans i.ok.rl i.rn, fun r hr => (i.ok.ro r hr).1.len⟩
  · obtain ⟨e, _⟩ := m.out.l.ok x.1 x.2 hx
    obtain ⟨p, hp, ep⟩ := List.mem_map.mp (lookup_mem e)
    exact ⟨p.2, (congrArg Prod.snd ep).symm, (i.ok.cho p hp).len⟩
  · rw [m.out.o.len, ownD, List.length_map]
    exact i.ol
theorem Made.lead (m : Made k b) (i : InHouse kinds asked rn k) : leadsB b.L kinds = true := by
  refine List.all_eq_true.mpr fun x hx => List.all_eq_true.mpr fun c hc => ?_
  obtain ⟨e, _⟩ := m.out.l.ok x.1 x.2 hx
  obtain ⟨p, hp, ep⟩ := List.mem_map.mp (lookup_mem e)
  rw [← congrArg Prod.snd ep] at hc
  have hc : c ∈ p.2 := by
    have e : strsOf (nmD p.2).items = p.2 := strsOf_map p.2
    rw [← e]
    exact hc
  unfold choB
  rcases (i.ok.cho p hp).mem c hc with z | z
  · rw [decide_eq_true z, Bool.or_true]
  · rw [decide_eq_true z, Bool.true_or]
/-- what a drawn kind names -/
def kdNamed (k : KD) : List Str := k.own.map (·.1) ++ k.rules.flatMap Rule.told
theorem Made.named (m : Made k b) (y : Str) : y ∈ namedB b.O k.rules ↔ y ∈ kdNamed k := by
  unfold namedB kdNamed
  rw [List.mem_append, List.mem_append, m.out.o.p.mem_iff, keys_map]
theorem InHouse.named (i : InHouse kinds asked rn k) {y : Str} (h : y ∈ kdNamed k) : y ∈ asked := by
  rcases List.mem_append.mp h with h | h
  · exact List.mem_of_mem_take (i.ok.own.sub.subset h)
  · obtain ⟨r, mr, h⟩ := List.mem_flatMap.mp h
    obtain ⟨_, r2, r3⟩ := i.ok.ro r mr
    rcases List.mem_append.mp h with h | h
    · exact r2 y h
    · unfold Rule.more at h
      cases r with
      | send ns l u b w =>
        have h : y ∈ (if u = "" then [] else [u]) := h
        by_cases z : u = ""
        · rw [if_pos z] at h
          cases h
        · rw [if_neg z] at h
          rw [List.mem_singleton.mp h]
          exact r3.2.resolve_left z
      | _ => cases h
theorem InHouse.few (i : InHouse kinds asked rn k) : (kdNamed k).length ≤ 5 + 5 * rn := by
  unfold kdNamed
  rw [List.length_append, List.length_map]
  have h1 := i.ol
  have h2 : (k.rules.flatMap Rule.told).length ≤ 5 * k.rules.length := flat_len fun r hr => (i.ok.ro r hr).1.len
  have h3 := i.ok.rl
  have h4 : 5 * k.rules.length ≤ 5 * rn := Nat.mul_le_mul_left _ h3
  omega
end
/-- one of the two lists was made of the other -/
structure MadeL (hs : List KD) (bs : List KB) : Prop where
  len : bs.length = hs.length
  at_ : ∀ (i : Nat) (k : KD) (b : KB), hs[i]? = some k → bs[i]? = some b → Made k b
theorem MadeL.nm {hs : List KD} {bs : List KB} (m : MadeL hs bs) : bs.map KB.nm = hs.map KD.name := by
  refine List.ext_getElem? fun i => ?_
  rw [List.getElem?_map, List.getElem?_map]
  cases e : bs[i]? with
  | none =>
    have : hs[i]? = none := List.getElem?_eq_none (by rw [← m.len]; exact List.getElem?_eq_none_iff.mp e)
    rw [this]
    rfl
  | some b =>
    have lt : i < hs.length := by rw [← m.len]; exact (List.getElem?_eq_some_iff.mp e).1
    rw [List.getElem?_eq_getElem lt]
    exact congrArg some (m.at_ i _ b (List.getElem?_eq_getElem lt) e).nm
theorem MadeL.get {hs : List KD} {bs : List KB} (m : MadeL hs bs) {b : KB} (mb : b ∈ bs) : ∃ k ∈ hs, Made k b := by
  obtain ⟨i, e⟩ := List.mem_iff_getElem?.mp mb
  have lt : i < hs.length := by rw [← m.len]; exact (List.getElem?_eq_some_iff.mp e).1
  exact ⟨hs[i], List.getElem_mem lt, m.at_ i _ b (List.getElem?_eq_getElem lt) e⟩
theorem MadeL.got {hs : List KD} {bs : List KB} (m : MadeL hs bs) {k : KD} (mk : k ∈ hs) : ∃ b ∈ bs, Made k b := by
  obtain ⟨i, e⟩ := List.mem_iff_getElem?.mp mk
  have lt : i < bs.length := by rw [m.len]; exact (List.getElem?_eq_some_iff.mp e).1
  exact ⟨bs[i], List.getElem_mem lt, m.at_ i k _ e (List.getElem?_eq_getElem lt)⟩
end Kb

set_option Elab.async false
set_option linter.all false
set_option maxRecDepth 100000
set_option maxHeartbeats 2000000
/-! Kb, 67: a comprehension over a list, row by row; Kinds in a row; a House of them. -/
namespace Kb
open PySem PySem.Spec PyProof.Rows L2 L2H

/-- the slots at a turn of a comprehension -/
abbrev turnS (σ : L2.St) (g : Nat) (x : V) : L2.St := (wipe σ [g]).set g (some x)
theorem turn_at {σ : L2.St} {g : Nat} {x : V} (h : g < σ.length) : (turnS σ g x)[g]? = some (some x) := by
  show ((σ.set g none).set g (some x))[g]? = _
  rw [List.getElem?_set_self (by simpa using h)]
theorem turn_ne {σ : L2.St} {g j : Nat} {x : V} {o : Option V} (h : j ≠ g) (e : σ[j]? = some o) : (turnS σ g x)[j]? = some o := by
  show ((σ.set g none).set g (some x))[j]? = _
  rw [List.getElem?_set_ne (Ne.symm h), List.getElem?_set_ne (Ne.symm h)]
  exact e
theorem turn_wipe {σ : L2.St} {g : Nat} {x : V} : wipe (turnS σ g x) [g] = wipe σ [g] := by
  show ((σ.set g none).set g (some x)).set g none = σ.set g none
  simp
/-- [te for g in a list] -/
theorem lc_row {K : PySem.W.Frag} {tl te : TE} {g : Nat} {σ : L2.St} {H H1 : Hp} {Q : VK} {r : Addr} {xs : List V} (hl : ∀ R : V → Hp → Prop, R (.ref r) H1 → tl σ H R) (hr : H1 r = some (.lst xs)) (lt : xs.length ≤ 1000)
    (I : Addr → Nat → List V → Hp → Prop) (h0 : ∀ Dl, H1 Dl = none → I Dl 0 [] (upd H1 Dl (.lst []))) (keep : ∀ Dl i ys H', I Dl i ys H' → H' r = some (.lst xs) ∧ H' Dl = some (.lst ys) ∧ ys.length ≤ i)
    (step : ∀ Dl i x ys H' (R : V → Hp → Prop), xs[i]? = some x → I Dl i ys H' → (∀ y H2, H2 Dl = some (.lst ys) → I Dl (i + 1) (ys ++ [y]) (upd H2 Dl (.lst (ys ++ [y]))) → R y H2) → te (turnS σ g x) H' R)
    (done : ∀ Dl ys H', H1 Dl = none → I Dl xs.length ys H' → Q (.ref Dl) H') : tLc (iList K tl) (gName g) tYes te [g] σ H Q := by
  refine hl _ ⟨r, rfl, ⟨_, SqL.of hr⟩, fun Dl hD => ?_⟩
  refine lc_it walk_list (fun i H' => i ≤ xs.length ∧ ∃ ys, I Dl i ys H') ⟨Nat.zero_le _, [], h0 Dl hD⟩ (fun i H' _ ⟨_, ys, q⟩ => SqL.of (keep _ _ _ _ q).1) ?_ ?_
  · rintro i x H2 H3 hi ⟨_, ys, q⟩ ⟨rfl, ex⟩
    refine ⟨turn_wipe, ?_⟩
    refine step Dl i x ys _ _ ex q fun y H4 e q' => ⟨ys, e, ?_, hi, _, q'⟩
    have := (keep _ _ _ _ q).2.2
    exact small1000 (by omega)
  · rintro H2 ⟨_, ys, q⟩
    exact done Dl ys H2 hD q
/-- a row of new Kinds -/
def NewKs (K : PySem.W.Frag) (H H' : Hp) (b : KB) (v : V) : Prop := ∀ M, Std M H → NoTup M H → KAt K M H' b v
theorem NewKs.mono {K : PySem.W.Frag} {H H' H2 : Hp} {b : KB} {v : V} (h : NewKs K H H' b v) (bt : But [] H' H2) : NewKs K H H2 b v := fun M s t => (h M s t).mono bt.nil
theorem NewKs.kat {K : PySem.W.Frag} {H H' : Hp} {b : KB} {v : V} (h : NewKs K H H' b v) : KAt K [] H' b v := h [] Std.nil NoTup.nil
theorem RowP.nil {P : KB → V → Prop} : RowP P [] [] := ⟨rfl, fun i b v e => by cases e⟩
theorem RowP.snoc {P : KB → V → Prop} {bs : List KB} {xs : List V} {b : KB} {v : V} (h : RowP P bs xs) (p : P b v) : RowP P (bs ++ [b]) (xs ++ [v]) := by
  refine ⟨by rw [List.length_append, List.length_append, h.len]; rfl, fun i b' v' e e' => ?_⟩
  by_cases lt : i < bs.length
  · rw [List.getElem?_append_left lt] at e
    rw [List.getElem?_append_left (by rw [← h.len]; exact lt)] at e'
    exact h.at_ i b' v' e e'
  · have li : i = bs.length := by
      have := (List.getElem?_eq_some_iff.mp e).1
      rw [List.length_append, List.length_singleton] at this
      omega
    subst li
    rw [List.getElem?_append_right (Nat.le_refl _), Nat.sub_self] at e
    rw [List.getElem?_append_right (by rw [h.len]; exact Nat.le_refl _), h.len, Nat.sub_self] at e'
    cases e
    cases e'
    exact p
theorem RowP.cons {P : KB → V → Prop} {bs : List KB} {xs : List V} {b : KB} {v : V} : RowP P (b :: bs) (v :: xs) ↔ P b v ∧ RowP P bs xs := by
  refine ⟨fun h => ⟨h.at_ 0 b v rfl rfl, ⟨by have := h.len; simp at this; exact this, fun i b' v' e e' => h.at_ (i + 1) b' v' (by simpa using e) (by simpa using e')⟩⟩, fun ⟨p, h⟩ => ⟨by simp [h.len], fun i b' v' e e' => ?_⟩⟩
  cases i with
  | zero =>
    cases e
    cases e'
    exact p
  | succ j => exact h.at_ j b' v' (by simpa using e) (by simpa using e')
theorem RowP.perm {P : KB → V → Prop} {xs ys : List V} (pm : ys.Perm xs) : ∀ {bs : List KB}, RowP P bs xs → ∃ bs', bs'.Perm bs ∧ RowP P bs' ys := by
  suffices ∀ {us vs : List V}, us.Perm vs → ∀ {bs : List KB}, RowP P bs us → ∃ bs', bs'.Perm bs ∧ RowP P bs' vs from fun {bs} h => this pm.symm h
  intro us vs pm
  induction pm with
  | nil => exact fun {bs} h => ⟨bs, List.Perm.refl _, h⟩
  | cons x _ ih =>
    intro bs h
    cases bs with
    | nil => have := h.len; cases this
    | cons b r =>
      obtain ⟨p, h⟩ := RowP.cons.mp h
      obtain ⟨r', q, h'⟩ := ih h
      exact ⟨b :: r', q.cons b, RowP.cons.mpr ⟨p, h'⟩⟩
  | swap x y l =>
    intro bs h
    cases bs with
    | nil => have := h.len; cases this
    | cons b r =>
      obtain ⟨p, h⟩ := RowP.cons.mp h
      cases r with
      | nil => have := h.len; cases this
      | cons b2 r =>
        obtain ⟨p2, h⟩ := RowP.cons.mp h
        exact ⟨b2 :: b :: r, List.Perm.swap _ _ _, RowP.cons.mpr ⟨p2, RowP.cons.mpr ⟨p, h⟩⟩⟩
  | trans _ _ i1 i2 =>
    intro bs h
    obtain ⟨b1, q1, h1⟩ := i1 h
    obtain ⟨b2, q2, h2⟩ := i2 h1
    exact ⟨b2, q2.trans q1, h2⟩
theorem MadeL.nil {hs : List KD} : ∀ (i : Nat) (k : KD) (b : KB), hs[i]? = some k → ([] : List KB)[i]? = some b → Made k b := fun i k b _ e => by cases e
/-- [_law_kind(k) for k in a drawn house] -/
theorem kinds_row {K : PySem.W.Frag} {tl : TE} {g : Nat} {σ : L2.St} {H H1 : Hp} {Q : VK} {r : Addr} {xs : List V} {hs : List KD} {M : List Addr} (C : KindC K) (hl : ∀ R : V → Hp → Prop, R (.ref r) H1 → tl σ H R) (hg : g < σ.length) (hr : H1 r = some (.lst xs)) (ha : AtL [] H1 (hs.map KD.d) xs) (lt : hs.length ≤ 1000)
    (good : ∀ k ∈ hs, KdGood k)
    (done : ∀ Dl bs ys H', H1 Dl = none → H' Dl = some (.lst ys) → MadeL hs bs → RowP (NewKs K H1 H') bs ys → But [] H1 H' → Q (.ref Dl) H') : tLc (iList K tl) (gName g) tYes (tCall (sp_l_kind K) [] E0 (tCons (tVar g) tNil)) [g] σ H Q := by
  have len : xs.length = hs.length := by rw [ha.length, List.length_map]
  refine lc_row hl hr (by omega) (fun Dl i ys H' => ys.length = i ∧ H1 Dl = none ∧ H' Dl = some (.lst ys) ∧ But [] H1 H' ∧ ∃ bs, bs.length = i ∧ (∀ (j : Nat) (k : KD) (b : KB), hs[j]? = some k → bs[j]? = some b → Made k b) ∧ RowP (fun b v => ∀ M, Std M H1 → NoTup M H1 → KAt K (Dl :: M) H' b v) bs ys)
    (fun Dl hD => ⟨rfl, hD, upd_same, But.new hD, [], rfl, MadeL.nil, RowP.nil⟩) ?_ ?_ ?_
  · rintro Dl i ys H' ⟨l, hD, e, B, _⟩
    exact ⟨B.keep _ _ (by simp) hr, e, Nat.le_of_eq l⟩
  · rintro Dl i x ys H' R ex ⟨l, hD, e, B, bs, lb, mk, rp⟩ nx
    obtain ⟨d, ed, hd⟩ := ha.get ex
    rw [List.getElem?_map] at ed
    obtain ⟨k, ek, rfl⟩ := Option.map_eq_some_iff.mp ed
    have gk := good k (List.mem_of_getElem? ek)
    refine ⟨_, turn_at hg, k, x, rfl, C, hd.mono B, gk, fun a L O Rl H2 kp ha0 kob B2 => ?_⟩
    have e2 := B2.keep _ _ (by simp) e
    refine nx _ _ e2 ⟨by rw [List.length_append, l]; rfl, hD, upd_same, ?_, bs ++ [⟨k.name, L, O, Rl, k.hid⟩], by rw [List.length_append, lb]; rfl, fun j k' b ej eb => ?_, ?_⟩
    · exact (B.trans B2).upd (.inr hD)
    · by_cases lj : j < bs.length
      · rw [List.getElem?_append_left lj] at eb
        exact mk j k' b ej eb
      · have := (List.getElem?_eq_some_iff.mp eb).1
        rw [List.length_append, List.length_singleton] at this
        have ej' : j = bs.length := by omega
        subst ej'
        rw [List.getElem?_append_right (Nat.le_refl _), Nat.sub_self] at eb
        cases eb
        rw [lb, ek] at ej
        cases ej
        exact Made.of gk kp
    · have B3 : ∀ M : List Addr, But (Dl :: M) H2 (upd H2 Dl (.lst (ys ++ [.ref a]))) := fun M => But.refl.upd (.inl (by simp))
      refine RowP.snoc (rp.imp fun b v p M s t => ?_) fun M s t => ?_
      · exact ((p M s t).mono (B2.nil)).mono (B3 M)
      · have sD : Std (Dl :: M) H' := Std.cons e (s.but B)
        have tD : NoTup (Dl :: M) H' := NoTup.cons e (fun _ z => nomatch z) (t.but s B)
        exact KAt.mono ⟨a, rfl, kob _ sD tD⟩ (B3 M)
  · rintro Dl ys H' hD ⟨l, _, e, B, bs, lb, mk, rp⟩
    exact done Dl bs ys H' hD e ⟨by rw [lb, len], mk⟩ (rp.imp fun b v p M s t => (p M s t).less fun x m => List.mem_cons_of_mem _ m) B
/-- Kinds of the drawn kinds, in any order -/
structure MadeS (hs : List KD) (bs : List KB) : Prop where
  len : bs.length = hs.length
  nm : (bs.map KB.nm).Perm (hs.map KD.name)
  get : ∀ b ∈ bs, ∃ k ∈ hs, Made k b
  got : ∀ k ∈ hs, ∃ b ∈ bs, Made k b
theorem MadeL.s {hs : List KD} {bs : List KB} (m : MadeL hs bs) : MadeS hs bs := ⟨m.len, by rw [m.nm], fun b mb => m.get mb, fun k mk => m.got mk⟩
theorem MadeS.perm {hs : List KD} {bs bs' : List KB} (m : MadeS hs bs) (p : bs'.Perm bs) : MadeS hs bs' :=
  ⟨p.length_eq.trans m.len, (p.map KB.nm).trans m.nm, fun b mb => m.get b (p.mem_iff.mp mb), fun k mk => let ⟨b, mb, h⟩ := m.got k mk; ⟨b, p.mem_iff.mpr mb, h⟩⟩
/-- the rules of the drawn kind of that name -/
def rsOf (hs : List KD) (b : KB) : List Rule := match hs.find? fun k => decide (k.name = b.nm) with | some k => k.rules | none => []
theorem rsOf_of {hs : List KD} {k : KD} {b : KB} (nd : (hs.map KD.name).Nodup) (mk : k ∈ hs) (m : Made k b) : rsOf hs b = k.rules := by
  have : hs.find? (fun k => decide (k.name = b.nm)) = some k := by
    rw [m.nm]
    clear m
    induction hs with
    | nil => cases mk
    | cons c r ih =>
      rw [List.map_cons] at nd
      obtain ⟨n1, n2⟩ := List.nodup_cons.mp nd
      rcases List.mem_cons.mp mk with e | mk
      · rw [← e]
        exact List.find?_cons_of_pos (by simp)
      · rw [List.find?_cons_of_neg, ih n2 mk]
        intro z
        exact n1 (by rw [show c.name = k.name from of_decide_eq_true z]; exact List.mem_map.mpr ⟨k, mk, rfl⟩)
  unfold rsOf
  rw [this]
/-- what a drawn house names -/
def hsNamed (hs : List KD) : List Str := hs.flatMap kdNamed
section
variable {hs : List KD} {bs : List KB} {kn an rn : Nat} {kinds asked : List Str}
theorem HsOk.nd (o : HsOk kn 2 an rn kinds asked hs) : (hs.map KD.name).Nodup := by rw [o.nm]; exact o.ks.nd
theorem HsOk.len (o : HsOk kn 2 an rn kinds asked hs) : hs.length = kinds.length := by rw [← o.nm, List.length_map]
theorem MadeS.named (m : MadeS hs bs) (nd : (hs.map KD.name).Nodup) (y : Str) : y ∈ allNamed (rsOf hs) bs ↔ y ∈ hsNamed hs := by
  unfold allNamed hsNamed
  rw [List.mem_flatMap, List.mem_flatMap]
  constructor
  · rintro ⟨b, mb, h⟩
    obtain ⟨k, mk, mm⟩ := m.get b mb
    rw [rsOf_of nd mk mm] at h
    exact ⟨k, mk, (mm.named y).mp h⟩
  · rintro ⟨k, mk, h⟩
    obtain ⟨b, mb, mm⟩ := m.got k mk
    refine ⟨b, mb, ?_⟩
    rw [rsOf_of nd mk mm]
    exact (mm.named y).mpr h
theorem flatMap_le {α β : Type} {f : α → List β} {n : Nat} : ∀ {l : List α}, (∀ x ∈ l, (f x).length ≤ n) → (l.flatMap f).length ≤ l.length * n
  | [], _ => by simp
  | a :: l, h => by
    rw [List.flatMap_cons, List.length_append, List.length_cons, Nat.succ_mul]
    have h1 := h a (by simp)
    have h2 := flatMap_le (l := l) fun x m => h x (by simp [m])
    omega
theorem MadeS.few (m : MadeS hs bs) (o : HsOk kn 2 an rn kinds asked hs) (r : rn ≤ 300) : (allNamed (rsOf hs) bs).length ≤ bs.length * (5 + 5 * rn) := by
  refine flatMap_le fun b mb => ?_
  obtain ⟨k, mk, mm⟩ := m.get b mb
  have i := o.inh r mk
  rw [rsOf_of o.nd mk mm]
  unfold namedB
  rw [List.length_append, keysD, List.length_map, mm.out.o.len, ownD, List.length_map]
  have h1 := i.ol
  have h2 : (k.rules.flatMap Rule.told).length ≤ 5 * k.rules.length := flat_len fun r hr => (i.ok.ro r hr).1.len
  have h4 : 5 * k.rules.length ≤ 5 * rn := Nat.mul_le_mul_left _ i.ok.rl
  omega
theorem nodup_sub_len {α : Type} [DecidableEq α] : ∀ {l m : List α}, l.Nodup → (∀ x ∈ l, x ∈ m) → l.length ≤ m.length
  | [], _, _, _ => Nat.zero_le _
  | a :: l, m, nd, s => by
    obtain ⟨n1, n2⟩ := List.nodup_cons.mp nd
    have h := nodup_sub_len (l := l) (m := m.erase a) n2 fun x mx => by
      have ne : x ≠ a := fun z => n1 (z ▸ mx)
      exact (List.mem_erase_of_ne ne).mpr (s x (by simp [mx]))
    have ma := s a (by simp)
    rw [List.length_erase_of_mem ma] at h
    have := List.length_pos_of_mem ma
    rw [List.length_cons]
    omega
theorem HsOk.six (o : HsOk kn 2 an rn kinds asked hs) (r : rn ≤ 300) (a6 : an ≤ 6) {ns : List Str} (nd : ns.Nodup) (h : ∀ y ∈ ns, y ∈ hsNamed hs) : ns.length ≤ 6 := by
  refine Nat.le_trans (nodup_sub_len nd fun y m => ?_) (Nat.le_trans o.as.len a6)
  obtain ⟨k, mk, h⟩ := List.mem_flatMap.mp (h y m)
  exact (o.inh r mk).named h
end
/-- House(..) of Kinds that were made of a drawn house -/
theorem house_made {K : PySem.W.Frag} {H : Hp} {p x dx : Addr} {xs : List V} {hs : List KD} {bs : List KB} {kn an rn : Nat} {kinds asked : List Str} {P : KB → V → Prop} {Q : VK} (C : HouseC K) (CK : KindI K) (o : HsOk kn 2 an rn kinds asked hs) (k4 : kn ≤ 4) (a6 : an ≤ 6) (r40 : rn ≤ 40)
    (sq : SqV K H p xs) (rp : RowP P bs xs) (ka : ∀ b v, P b v → KAt K [] H b v) (m : MadeS hs bs) (hx : H x = none) (hdx : H dx = none) (ne : dx ≠ x)
    (k : ∀ bs' ns t n H', bs'.Perm bs → MadeS hs bs' → sortedS (bs'.map KB.nm) = true → ns.Nodup → sortedS ns = true → (∀ y, y ∈ ns ↔ y ∈ hsNamed hs) → H t = none → H n = none →
      (∀ M, Std M H → (∀ b v, P b v → KAt K M H b v) → HObT K M H' x t n bs' ns) → But [] H H' → Q (.ref x) H') :
    sp_House_init K [.ref x, .ref p] (upd (upd H dx (.own x)) x (.ins (HC K) dx [])) (fun v H2 => v = .non ∧ Q (.ref x) H2) E0 := by
  have r3 : rn ≤ 300 := by omega
  have hl := o.len
  have kl := o.ks.len
  have kp : 1 ≤ kinds.length := List.length_pos_iff.mpr o.kne
  have few := m.few o r3
  have bl : bs.length ≤ 4 := by rw [m.len, hl]; omega
  refine house_ok (rs := rsOf hs) C CK sq rp ka (by rw [m.len, hl]; exact kp) bl ?_ (fun b mb => ?_) (fun b mb => ?_) ?_ (fun ns nd h => ?_) hx hdx ne fun bs' ns t n H' pm so nn so2 mem e1 e2 ob B => ?_
  · exact m.nm.nodup_iff.mpr o.nd
  · obtain ⟨k, mk, mm⟩ := m.get b mb
    rw [rsOf_of o.nd mk mm]
    exact mm.ok (o.inh r3 mk)
  · obtain ⟨k, mk, mm⟩ := m.get b mb
    rw [leadsB_same (ns' := kinds) fun n => by rw [m.nm.mem_iff, o.nm]]
    exact mm.lead (o.inh r3 mk)
  · have : bs.length * (5 + 5 * rn) ≤ 4 * (5 + 5 * rn) := Nat.mul_le_mul_right _ bl
    omega
  · exact o.six r3 a6 nd fun y my => (m.named o.nd y).mp ((h y).mp my)
  · exact k bs' ns t n H' pm (m.perm pm) so nn so2 (fun y => (mem y).trans (m.named o.nd y)) e1 e2 ob B
end Kb

set_option Elab.async false
set_option linter.all false
set_option maxRecDepth 100000
set_option maxHeartbeats 2000000
/-! Kb, 68: _law_names. -/
namespace Kb
open PySem PySem.Spec PyProof.Rows L2 L2H

def sp_l_names (K : PySem.W.Frag) : Sp := fun vs H Q _ => ∃ (hs : List KD) (v : V), vs = [v] ∧ At [] H (.lst (hs.map KD.d)) v ∧ (hsNamed hs).length ≤ 1000 ∧
  ∀ ns p H', ns.Nodup → sortedS ns = true → (∀ y, y ∈ ns ↔ y ∈ hsNamed hs) → H p = none → H' p = some (.lst (ns.map V.str)) → But [] H H' → Q (.ref p) H'
theorem len_l_names {K : PySem.W.Frag} {vs : List V} {H : Hp} {Q : VK} {E : XK} (h : sp_l_names K vs H Q E) : vs.length = 1 := by
  obtain ⟨_, _, rfl, _⟩ := h
  rfl
def t_l_names (K : PySem.W.Frag) : TS :=
  (tSeq (tAsg (tLst tNil) (gName 1))
  (tSeq (tFor (iList K (tVar 0)) (gName 2)
    (tSeq (tAsg (tOp rCat (tVar 1) (tCB rListK (tCons (tOp (rIxL K) (tVar 2) (tC (.int 2))) tNil))) (gName 1))
  (tFor (iList K (tOp (rIxL K) (tVar 2) (tC (.int 3)))) (gName 3)
    (tSeq (tAsg (tOp rCat (tVar 1) (tCB (rListOf K) (tCons (tOp (rIxT K) (tVar 3) (tC (.int 1))) tNil))) (gName 1))
  (tIfS (tAnd (tTest (tOp rEq (tOp (rIxT K) (tVar 3) (tC (.int 0))) (tC (.str ("send" : Str))))) (tTest (tOp rNe (tOp (rIxT K) (tVar 3) (tC (.int 3))) (tC (.str ("" : Str))))))
    (tDrop (tBM K "list" rAppend (tVar 1) (tCons (tOp (rIxT K) (tVar 3) (tC (.int 3))) tNil)))
    tNext)))))
  (tRet (tSortUni K (tVar 1)))))
theorem named_part {hs : List KD} {i : Nat} {k : KD} (e : hs[i]? = some k) : hsNamed hs = hsNamed (hs.take i) ++ (kdNamed k ++ hsNamed (hs.drop (i + 1))) := by
  have h1 : hs = hs.take i ++ k :: hs.drop (i + 1) := by
    obtain ⟨lt, rfl⟩ := List.getElem?_eq_some_iff.mp e
    rw [List.getElem_cons_drop, List.take_append_drop]
  conv => lhs; rw [h1]
  unfold hsNamed
  rw [List.flatMap_append, List.flatMap_cons]
theorem named_next {hs : List KD} {i : Nat} {k : KD} (e : hs[i]? = some k) : hsNamed (hs.take (i + 1)) = hsNamed (hs.take i) ++ kdNamed k := by
  unfold hsNamed
  rw [List.take_add_one, e, List.flatMap_append]
  simp
theorem told_part {rs : List Rule} {i : Nat} {r : Rule} (e : rs[i]? = some r) : rs.flatMap Rule.told = (rs.take i).flatMap Rule.told ++ (r.told ++ (rs.drop (i + 1)).flatMap Rule.told) := by
  have h1 : rs = rs.take i ++ r :: rs.drop (i + 1) := by
    obtain ⟨lt, rfl⟩ := List.getElem?_eq_some_iff.mp e
    rw [List.getElem_cons_drop, List.take_append_drop]
  conv => lhs; rw [h1]
  rw [List.flatMap_append, List.flatMap_cons]
theorem told_next {rs : List Rule} {i : Nat} {r : Rule} (e : rs[i]? = some r) : (rs.take (i + 1)).flatMap Rule.told = (rs.take i).flatMap Rule.told ++ r.told := by
  rw [List.take_add_one, e, List.flatMap_append]
  simp
theorem pure_l_names {K : PySem.W.Frag} (vs : List V) (H : Hp) (Q : VK) (E : XK) (h : sp_l_names K vs H Q E) : t_l_names K (fin Q) (st0 4 vs) H := by
  obtain ⟨hs, v, rfl, hv, few, k⟩ := h
  obtain ⟨r, xs, rfl, _, hr, ha⟩ := hv
  have len : xs.length = hs.length := by rw [ha.length, List.length_map]
  refine ⟨sz0, fun p hp => ?_⟩
  have Bp : But [] H (upd H p (.lst [])) := But.new hp
  have ep : (upd H p (.lst [])) p = some (.lst ((hsNamed (hs.take 0)).map V.str)) := upd_same
  generalize upd H p (.lst []) = H1 at Bp ep ⊢
  have hr1 := Bp.keep _ _ (by simp) hr
  refine ⟨_, rfl, r, rfl, ⟨_, SqL.of hr1⟩, ?_⟩
  refine for_it walk_list (fun i σ H' => ∃ l v2 v3, σ = [some (.ref r), some (.ref l), v2, v3] ∧ H l = none ∧ H' l = some (.lst ((hsNamed (hs.take i)).map V.str)) ∧ But [] H H') ⟨p, _, _, rfl, hp, ep, Bp⟩
    (fun i σ H' _ z => let ⟨_, _, _, _, _, _, B⟩ := z; SqL.of (B.keep _ _ (by simp) hr)) ?_ ?_
  · rintro i y σ H2 H3 hi ⟨l, v2, v3, rfl, hl, el, B2⟩ ⟨rfl, ey⟩
    obtain ⟨d, ed, hd⟩ := ha.get ey
    rw [List.getElem?_map] at ed
    obtain ⟨kd, ek, rfl⟩ := Option.map_eq_some_iff.mp ed
    obtain ⟨ka, p1, p2, p3, kv1, kv2, xs3, rfl, _, hk, _, c1, l1, _, c2, l2, _, c3, l3⟩ := KD.parts (hd.mono B2)
    have part := congrArg List.length (named_part ek)
    rw [List.length_append, List.length_append] at part
    have kpart : (kdNamed kd).length = kd.own.length + (kd.rules.flatMap Rule.told).length := by unfold kdNamed; rw [List.length_append, List.length_map]
    have ek2 : kv2.map (fun kv => kV kv.1) = (kd.own.map (·.1)).map V.str := by
      have e := congrArg (List.map kV) l2.keys
      rw [List.map_map, List.map_map] at e
      exact e.trans (by rw [ownD, List.map_map, List.map_map]; rfl)
    refine ⟨_, rfl, _, rfl, ka, _, 2, .ref p2, rfl, rfl, SqL.of hk, rfl, p2, kv2, rfl, .inl c2, fun q hq => ?_⟩
    rw [ek2]
    have eq1 : (upd H3 q (.lst ((kd.own.map (·.1)).map V.str))) q = some (.lst ((kd.own.map (·.1)).map V.str)) := upd_same
    have Bq : But [] H3 (upd H3 q (.lst ((kd.own.map (·.1)).map V.str))) := But.new hq
    generalize upd H3 q (.lst ((kd.own.map (·.1)).map V.str)) = H4 at eq1 Bq ⊢
    refine ⟨l, q, _, _, rfl, rfl, Bq.keep _ _ (by simp) el, eq1, by rw [List.length_map, List.length_map, List.length_map, sizeLine_eq]; omega, fun m hm => ?_⟩
    have B4 := B2.trans Bq
    have hm0 := B4.free hm
    have em : (upd H4 m (.lst ((hsNamed (hs.take i)).map V.str ++ (kd.own.map (·.1)).map V.str))) m = some (.lst ((hsNamed (hs.take i) ++ kd.own.map (·.1) ++ (kd.rules.take 0).flatMap Rule.told).map V.str)) := by
      rw [upd_same, List.take_zero, List.flatMap_nil, List.append_nil, List.map_append]
    have B5 : But [] H (upd H4 m (.lst ((hsNamed (hs.take i)).map V.str ++ (kd.own.map (·.1)).map V.str))) := B4.upd' hm
    have B25 : But [] H3 (upd H4 m (.lst ((hsNamed (hs.take i)).map V.str ++ (kd.own.map (·.1)).map V.str))) := Bq.upd' hm
    generalize upd H4 m (.lst ((hsNamed (hs.take i)).map V.str ++ (kd.own.map (·.1)).map V.str)) = H5 at em B5 B25 ⊢
    refine ⟨_, rfl, ka, _, 3, .ref p3, rfl, rfl, SqL.of (B25.keep _ _ (by simp) hk), rfl, p3, rfl, ⟨_, SqL.of (B25.keep _ _ (by simp) c3)⟩, ?_⟩
    have len3 : xs3.length = kd.rules.length := by rw [l3.length, List.length_map]
    refine for_it walk_list (fun j σ H' => ∃ l v3, σ = [some (.ref r), some (.ref l), some (.ref ka), v3] ∧ H l = none ∧ H3 l = none ∧ H' l = some (.lst ((hsNamed (hs.take i) ++ kd.own.map (·.1) ++ (kd.rules.take j).flatMap Rule.told).map V.str)) ∧ But [] H H' ∧ But [] H3 H') ⟨m, _, rfl, hm0, Bq.free hm, em, B5, B25⟩
      (fun j σ H' _ z => let ⟨_, _, _, _, _, _, _, B⟩ := z; SqL.of (B.keep _ _ (by simp) c3)) ?_ ?_
    · rintro j y σ H6 H7 hj ⟨l', v3', rfl, hl', hl3, el', B6, B36⟩ ⟨rfl, ey⟩
      obtain ⟨d, ed, hd⟩ := l3.get ey
      rw [List.getElem?_map] at ed
      obtain ⟨ru, er, rfl⟩ := Option.map_eq_some_iff.mp ed
      obtain ⟨T, T1, ys, rfl, hT, hT1, s1, s2⟩ := rule_at (hd.mono B36)
      have rpart := congrArg List.length (told_part er)
      rw [List.length_append, List.length_append] at rpart
      have tl : ru.told.length = ru.names.length + ru.more.length := by unfold Rule.told; rw [List.length_append]
      refine ⟨_, rfl, _, rfl, T, _, 1, .ref T1, rfl, rfl, SqT.of hT, atI_nat (j := 1) rfl, T1, _, rfl, .inr (SqT.of hT1), fun q hq => ?_⟩
      have eq7 : (upd H7 q (.lst (ru.names.map V.str))) q = some (.lst (ru.names.map V.str)) := upd_same
      have B7 : But [] H7 (upd H7 q (.lst (ru.names.map V.str))) := But.new hq
      generalize upd H7 q (.lst (ru.names.map V.str)) = H8 at eq7 B7 ⊢
      refine ⟨l', q, _, _, rfl, rfl, B7.keep _ _ (by simp) el', eq7, by rw [List.length_map, List.length_map, List.length_append, List.length_append, List.length_map, sizeLine_eq]; omega, fun m' hm' => ?_⟩
      have B8 := B6.trans B7
      have B38 := B36.trans B7
      have e9 : (upd H8 m' (.lst ((hsNamed (hs.take i) ++ kd.own.map (·.1) ++ (kd.rules.take j).flatMap Rule.told).map V.str ++ ru.names.map V.str))) m' = some (.lst ((hsNamed (hs.take i) ++ kd.own.map (·.1) ++ (kd.rules.take j).flatMap Rule.told ++ ru.names).map V.str)) := by
        rw [upd_same, ← List.map_append]
      have B9 : But [] H (upd H8 m' (.lst ((hsNamed (hs.take i) ++ kd.own.map (·.1) ++ (kd.rules.take j).flatMap Rule.told).map V.str ++ ru.names.map V.str))) := B8.upd' hm'
      have B39 : But [] H3 (upd H8 m' (.lst ((hsNamed (hs.take i) ++ kd.own.map (·.1) ++ (kd.rules.take j).flatMap Rule.told).map V.str ++ ru.names.map V.str))) := B38.upd' hm'
      have B79 : But [] H7 (upd H8 m' (.lst ((hsNamed (hs.take i) ++ kd.own.map (·.1) ++ (kd.rules.take j).flatMap Rule.told).map V.str ++ ru.names.map V.str))) := B7.upd' hm'
      have hm0' := B8.free hm'
      have hm3' := B38.free hm'
      generalize upd H8 m' (.lst ((hsNamed (hs.take i) ++ kd.own.map (·.1) ++ (kd.rules.take j).flatMap Rule.told).map V.str ++ ru.names.map V.str)) = H9 at e9 B9 B39 B79 ⊢
      have hT9 := B79.keep _ _ (by simp) hT
      have nt : hsNamed (hs.take i) ++ kd.own.map (·.1) ++ (kd.rules.take (j + 1)).flatMap Rule.told = hsNamed (hs.take i) ++ kd.own.map (·.1) ++ (kd.rules.take j).flatMap Rule.told ++ ru.names ++ ru.more := by
        rw [told_next er]
        unfold Rule.told
        simp only [List.append_assoc]
      refine ⟨_, rfl, T, _, 0, _, rfl, rfl, SqT.of hT9, atI_nat (j := 0) rfl, rfl, _, rfl, ?_⟩
      refine ite2 (fun z => ?_) (fun z => ?_)
      · have zf : ru.form = "send" := by simpa using z
        obtain ⟨y0, yr, rfl⟩ := s1 zf
        refine ⟨_, rfl, T, _, 3, _, rfl, rfl, SqT.of hT9, atI_nat (j := 3) rfl, rfl, _, rfl, ?_⟩
        refine ite2 (fun z => ?_) (fun z => ?_)
        · have zs : ru.sub ≠ "" := by simpa using z
          have mo : ru.more = [ru.sub] := if_neg zs
          rw [mo] at tl
          refine ⟨_, rfl, .inl ⟨rfl, _, SqL.of e9⟩, _, rfl, T, _, 3, _, rfl, rfl, SqT.of hT9, atI_nat (j := 3) rfl, ?_⟩
          refine ⟨m', _, _, rfl, rfl, e9, ?_, m', _, rfl, hm0', hm3', ?_, B9.upd (.inr hm0'), B39.upd (.inr hm3')⟩
          · rw [List.length_map, List.length_append, List.length_append, List.length_append, List.length_map, sizeLine_eq]
            simp only [List.length_singleton] at tl
            omega
          · rw [upd_same, nt, mo]
            simp only [List.map_append, List.map_cons, List.map_nil]
        · have zs : ru.sub = "" := by simpa using z
          refine ⟨m', _, rfl, hm0', hm3', ?_, B9, B39⟩
          rw [e9, nt, show ru.more = [] from if_pos zs, List.append_nil]
      · have zf : ru.form ≠ "send" := by simpa using z
        refine ⟨m', _, rfl, hm0', hm3', ?_, B9, B39⟩
        rw [e9, nt, show ru.more = [] from if_pos (s2 zf), List.append_nil]
    · rintro σ H6 ⟨l', v3', rfl, hl', hl3, el', B6, B36⟩
      rw [len3, List.take_length] at el'
      refine ⟨l', _, _, rfl, hl', ?_, B6⟩
      rw [el', named_next ek]
      unfold kdNamed
      rw [List.append_assoc]
  · rintro σ H2 ⟨l, v2, v3, rfl, hl, el, B2⟩
    rw [len, List.take_length] at el
    refine ⟨_, rfl, l, _, rfl, SqL.of el, few, fun ns n nn so mem hn => ?_⟩
    exact k ns n _ nn so mem (B2.free hn) upd_same (B2.upd' hn)
end Kb

set_option Elab.async false
set_option linter.all false
set_option maxRecDepth 100000
set_option maxHeartbeats 1000000
/-! Kb, 69: try .. except X as n; texts as data. -/
namespace Kb
open PySem PySem.Spec PyProof.Rows L2 L2H

/-- try, except C as the name of slot i; no other exception leaves the body -/
def tTry (K : PySem.W.Frag) (C : Addr) (i : Nat) (tb : WX → TS) (ts : Addr → Value → Option Addr → TS) : TS := fun D σ H => tb (wAs K (.ref C) i ts (fun _ _ _ _ => False) D) D σ H
theorem ps_tryN {X : Cx} {x n : Str} {C : Addr} {i : Nat} {body suite : List Stmt} {b₀ : Stmt} {np pos pos' : Pos} {tb : WX → TS} {ts : Addr → Value → Option Addr → TS} (hs : X.stack = X.env :: X.outer) (hf : X.env.frame = some X.env.locals) (hN : X.N.Nodup) (hi : X.N[i]? = some n)
    (hln : X.env.kindOf n = some .local) (hc : L2.Names X x (.ref C)) (hb : ∀ (W : WX) (pn : List (Addr × Obj)) (xe : Value → Shared → Prop), L2N.Takes (X.tr pn xe) W → PassesOwn (model X.prog X.w) X.A X.env xe → PSs (X.tr pn xe) body (tb W))
    (hsu : ∀ (a : Addr) (oe : Obj) (cls : Value) (d : Option Addr) (pn : List (Addr × Obj)), L2N.Zn cls d oe → (∃ vs, oe.data = .fields vs) → PSs (X.suite a ((a, oe) :: pn)) (b₀ :: suite) (ts a cls d)) :
    PS X (.Try body [.ExceptHandler (some (.Name x np)) (some n) (b₀ :: suite) pos'] [] [] pos) (tTry X.K C i tb ts) := L2N.ps_try_as hs hf hN hi hln hc takesN hb hsu
/-- what the law asks of the class NoKind, where it is caught -/
structure NoKindX (K : PySem.W.Frag) : Prop where
  nn : NoKindC K
  xf : XfC K (NKC K)
  me : PySem.W.exmOne K (.ref (NKC K)) (.ref (NKC K)) = some true

theorem perm_mem {l m : List Str} (h1 : l.Nodup) (h2 : m.Nodup) (h : ∀ y, y ∈ l ↔ y ∈ m) : l.Perm m := by
  refine List.perm_iff_count.mpr fun a => ?_
  rw [List.Nodup.count h1, List.Nodup.count h2]
  simp only [h]
theorem same_names {l m : List Str} (h1 : l.Nodup) (h2 : m.Nodup) (s1 : sortedS l = true) (s2 : sortedS m = true) (h : ∀ y, y ∈ l ↔ y ∈ m) : l = m := sorted_same (perm_mem h1 h2 h) s1 s2
/-- a list of texts -/
abbrev strD (ns : List Str) : D := .lst (ns.map D.str)
theorem likeL_strs : ∀ {ns : List Str}, LikeL (ns.map D.str) (ns.map D.str)
  | [] => rfl
  | _ :: _ => ⟨_, _, rfl, rfl, likeL_strs⟩
theorem like_strs {ns : List Str} (h : ns.length ≤ 1000) : Like (strD ns) (strD ns) := ⟨_, rfl, by rw [List.length_map]; exact h, likeL_strs⟩
theorem dp_strs {ns : List Str} : (strD ns).dp ≤ 1 := by
  show D.dpL (ns.map D.str) + 1 ≤ 1
  have : D.dpL (ns.map D.str) ≤ 0 := dpL_le fun d m => by
    obtain ⟨z, _, rfl⟩ := List.mem_map.mp m
    exact Nat.le_refl 0
  omega
theorem at_strs {M : List Addr} {H : Hp} {p : Addr} {ns : List Str} (m : p ∉ M) (h : H p = some (.lst (ns.map V.str))) : At M H (strD ns) (.ref p) := ⟨p, _, rfl, m, h, AtL.strs⟩
end Kb

set_option Elab.async false
set_option linter.all false
set_option maxRecDepth 100000
set_option maxHeartbeats 2000000
/-! K03, 1: what a House tells of a drawn house. -/
namespace Kb
namespace K03
open PySem PySem.Spec PyProof.Rows L2 L2H

/-- the House at h holds the drawn house hs: Kinds bs in the order of their names, names ns -/
structure Holds (hs : List KD) (bs : List KB) (ns : List Str) : Prop where
  m : MadeS hs bs
  so : sortedS (bs.map KB.nm) = true
  nn : ns.Nodup
  sn : sortedS ns = true
  mem : ∀ y, y ∈ ns ↔ y ∈ hsNamed hs
  six : ns.length ≤ 6
  nd : (hs.map KD.name).Nodup
  few : (hsNamed hs).length ≤ 1000
  four : hs.length ≤ 4
theorem Holds.bnd {hs : List KD} {bs : List KB} {ns : List Str} (h : Holds hs bs ns) : (bs.map KB.nm).Nodup := h.m.nm.nodup_iff.mpr h.nd

/-! ### _law_tells -/
def sp_l_tells (K : PySem.W.Frag) : Sp := fun vs H Q _ => ∃ (h : Addr) (bs : List KB) (ns : List Str) (hs : List KD) (v : V), vs = [.ref h, v] ∧ HouseC K ∧ HOb K [] H h bs ns ∧ Holds hs bs ns ∧ At [] H (.lst (hs.map KD.d)) v ∧
  ∀ H', But [] H H' → Q (.bl true) H'
theorem len_l_tells {K : PySem.W.Frag} {vs : List V} {H : Hp} {Q : VK} {E : XK} (h : sp_l_tells K vs H Q E) : vs.length = 2 := by
  obtain ⟨_, _, _, _, _, rfl, _⟩ := h
  rfl
def t_l_tells (K : PySem.W.Frag) : TS :=
  (tSeq (tAsg (tCall (sp_l_names K) [] E0 (tCons (tVar 1) tNil)) (gName 2))
  (tSeq (tAsg (tLst (tCons (tMeth (He.ga K "House") "names" (sp_House_names K) [] E0 (tVar 0) tNil) (tCons (tMeth (He.ga K "House") "columns" (sp_House_columns K) [] E0 (tVar 0) tNil) (tCons (tMeth (He.ga K "House") "kinds" (sp_House_kinds K) [] E0 (tVar 0) tNil) tNil)))) (gName 3))
  (tSeq (tAsg (tLst (tCons (tVar 2) (tCons (tOp rCat (tLst (tCons (tC (.str ("" : Str))) tNil)) (tVar 2)) (tCons (tCB (rSortedS K) (tCons (tLc (iList K (tVar 1)) (gName 7) tYes (tOp (rIxL K) (tVar 7) (tC (.int 0))) [7]) tNil)) tNil)))) (gName 4))
  (tSeq (tAsg (tCall (sp_l_like 6 K) [] E0 (tCons (tVar 3) (tCons (tVar 4) tNil))) (gName 5))
  (tSeq (tFor (iList K (tVar 3)) (gName 6)
    (tDrop (tClr 6)))
  (tRet (tVar 5)))))))
/-- [k[0] for k in a drawn house] -/
theorem names_row {K : PySem.W.Frag} {tl : TE} {g : Nat} {σ : L2.St} {H H1 : Hp} {Q : VK} {r : Addr} {xs : List V} {hs : List KD} (hl : ∀ R : V → Hp → Prop, R (.ref r) H1 → tl σ H R) (hg : g < σ.length) (hr : H1 r = some (.lst xs)) (ha : AtL [] H1 (hs.map KD.d) xs) (lt : hs.length ≤ 1000)
    (done : ∀ Dl H', H1 Dl = none → H' Dl = some (.lst ((hs.map KD.name).map V.str)) → But [] H1 H' → Q (.ref Dl) H') : tLc (iList K tl) (gName g) tYes (tOp (rIxL K) (tVar g) (tC (.int 0))) [g] σ H Q := by
  have len : xs.length = hs.length := by rw [ha.length, List.length_map]
  refine lc_row hl hr (by omega) (fun Dl i ys H' => ys = ((hs.take i).map KD.name).map V.str ∧ i ≤ hs.length ∧ H1 Dl = none ∧ H' Dl = some (.lst ys) ∧ But [] H1 H') (fun Dl hD => ⟨rfl, Nat.zero_le _, hD, upd_same, But.new hD⟩) ?_ ?_ ?_
  · rintro Dl i ys H' ⟨e0, l, hD, e, B⟩
    exact ⟨B.keep _ _ (by simp) hr, e, by rw [e0, List.length_map, List.length_map, List.length_take]; omega⟩
  · rintro Dl i x ys H' R ex ⟨e0, l, hD, e, B⟩ nx
    obtain ⟨d, ed, hd⟩ := ha.get ex
    rw [List.getElem?_map] at ed
    obtain ⟨k, ek, rfl⟩ := Option.map_eq_some_iff.mp ed
    obtain ⟨kd, p1, p2, p3, kv1, kv2, xs3, rfl, _, hk, _⟩ := KD.parts (hd.mono B)
    refine ⟨_, turn_at hg, kd, _, 0, .str k.name, rfl, rfl, SqL.of hk, rfl, ?_⟩
    refine nx _ _ e ⟨?_, (List.getElem?_eq_some_iff.mp ek).1, hD, upd_same, B.upd (.inr hD)⟩
    rw [e0, List.take_add_one, ek]
    simp
  · rintro Dl ys H' hD ⟨e0, l, _, e, B⟩
    rw [len, List.take_length] at e0
    rw [e0] at e
    exact done Dl H' hD e B
theorem pure_l_tells {K : PySem.W.Frag} (vs : List V) (H : Hp) (Q : VK) (E : XK) (h : sp_l_tells K vs H Q E) : t_l_tells K (fin Q) (st0 8 vs) H := by
  obtain ⟨h, bs, ns, hs, v, rfl, C, ob, hd, hv, k⟩ := h
  refine ⟨_, rfl, hs, v, rfl, hv, hd.few, fun ns' q0 H1 nn' so' mem' f0 e0 B1 => ?_⟩
  obtain rfl : ns' = ns := same_names nn' hd.nn so' hd.sn fun y => (mem' y).trans (hd.mem y).symm
  have six := hd.six
  have four := hd.four
  have ob1 := ob.mono B1
  obtain ⟨t, n, dx, kvs, _, _, _, o1, _⟩ := id ob1
  refine ⟨_, rfl, h, dx, _, rfl, o1, rfl, h, bs, ns', rfl, C, ob1, fun q1 hq1 => ?_⟩
  have B2 : But [] H1 (upd H1 q1 (.lst (ns'.map V.str))) := But.new hq1
  have u1 : (upd H1 q1 (.lst (ns'.map V.str))) q1 = some (.lst (ns'.map V.str)) := upd_same
  generalize upd H1 q1 (.lst (ns'.map V.str)) = H2 at B2 u1 ⊢
  refine ⟨_, rfl, h, dx, _, rfl, B2.keep _ _ (by simp) o1, rfl, h, bs, ns', rfl, C, ob1.mono B2, by omega, fun q2 H3 hq2 u2 B3 => ?_⟩
  have B13 := B2.trans B3
  refine ⟨_, rfl, h, dx, _, rfl, B13.keep _ _ (by simp) o1, rfl, h, bs, ns', rfl, C, ob1.mono B13, fun q3 hq3 => ?_⟩
  have B4 : But [] H3 (upd H3 q3 (.lst ((bs.map KB.nm).map V.str))) := But.new hq3
  have u3 : (upd H3 q3 (.lst ((bs.map KB.nm).map V.str))) q3 = some (.lst ((bs.map KB.nm).map V.str)) := upd_same
  generalize upd H3 q3 (.lst ((bs.map KB.nm).map V.str)) = H4 at B4 u3 ⊢
  refine ⟨by show 3 ≤ sizeLine; decide, fun p hp => ?_⟩
  have B5 : But [] H4 (upd H4 p (.lst [.ref q1, .ref q2, .ref q3])) := But.new hp
  have u4 : (upd H4 p (.lst [.ref q1, .ref q2, .ref q3])) p = some (.lst [.ref q1, .ref q2, .ref q3]) := upd_same
  generalize upd H4 p (.lst [.ref q1, .ref q2, .ref q3]) = H5 at B5 u4 ⊢
  have B45 := B4.trans B5
  have B25 := B3.trans B45
  have B15 := B13.trans B45
  have w1 := B25.keep _ _ (by simp) u1
  have w2 := B45.keep _ _ (by simp) u2
  have w3 := B5.keep _ _ (by simp) u3
  -- what is due
  refine ⟨_, rfl, by show 1 ≤ sizeLine; decide, fun c hc => ?_⟩
  have B6 : But [] H5 (upd H5 c (.lst [.str ("" : Str)])) := But.new hc
  have uc : (upd H5 c (.lst [.str ("" : Str)])) c = some (.lst [.str ("" : Str)]) := upd_same
  generalize upd H5 c (.lst [.str ("" : Str)]) = H6 at B6 uc ⊢
  have B16 := B15.trans B6
  have x0 := B16.keep _ _ (by simp) e0
  refine ⟨_, rfl, c, q0, _, _, rfl, rfl, uc, x0, by rw [List.length_map, sizeLine_eq]; show 1 + _ ≤ _; omega, fun d hd' => ?_⟩
  have B7 : But [] H6 (upd H6 d (.lst ([V.str ("" : Str)] ++ ns'.map V.str))) := But.new hd'
  have ud : (upd H6 d (.lst ([V.str ("" : Str)] ++ ns'.map V.str))) d = some (.lst ((("" : Str) :: ns').map V.str)) := upd_same
  generalize upd H6 d (.lst ([V.str ("" : Str)] ++ ns'.map V.str)) = H7 at B7 ud ⊢
  have B07 := (B1.trans B16).trans B7
  obtain ⟨r, xs, rfl, _, hr, ha⟩ := hv.mono B07
  dsimp only [tCons, tCB]
  refine names_row (fun R q => ⟨_, rfl, q⟩) (by show 7 < 8; decide) hr ha (by omega) fun Dl H8 hD eD B8 => ?_
  refine ⟨Dl, hs.map KD.name, rfl, SqL.of eD, by rw [List.length_map]; omega, fun ys e pm so he => ?_⟩
  obtain rfl : ys = bs.map KB.nm := sorted_same (pm.trans hd.m.nm.symm) so hd.so
  have B9 : But [] H8 (upd H8 e (.lst ((bs.map KB.nm).map V.str))) := But.new he
  have ue : (upd H8 e (.lst ((bs.map KB.nm).map V.str))) e = some (.lst ((bs.map KB.nm).map V.str)) := upd_same
  generalize upd H8 e (.lst ((bs.map KB.nm).map V.str)) = H9 at B9 ue ⊢
  refine ⟨by show 3 ≤ sizeLine; decide, fun z hz => ?_⟩
  have B10 : But [] H9 (upd H9 z (.lst [.ref q0, .ref d, .ref e])) := But.new hz
  have uz : (upd H9 z (.lst [.ref q0, .ref d, .ref e])) z = some (.lst [.ref q0, .ref d, .ref e]) := upd_same
  generalize upd H9 z (.lst [.ref q0, .ref d, .ref e]) = H10 at B10 uz ⊢
  have B710 := (B8.trans B9).trans B10
  have B510 := (B6.trans B7).trans B710
  have lb : (bs.map KB.nm).length ≤ 4 := by rw [List.length_map, hd.m.len]; exact hd.four
  have told : At [] H10 (.lst [strD ns', strD ("" :: ns'), strD (bs.map KB.nm)]) (.ref p) := ⟨p, _, rfl, by simp, B510.keep _ _ (by simp) u4, _, _, rfl, at_strs (by simp) (B510.keep _ _ (by simp) w1), _, _, rfl, at_strs (by simp) (B510.keep _ _ (by simp) w2), _, _, rfl, at_strs (by simp) (B510.keep _ _ (by simp) w3), rfl⟩
  have due : At [] H10 (.lst [strD ns', strD ("" :: ns'), strD (bs.map KB.nm)]) (.ref z) := ⟨z, _, rfl, by simp, uz, _, _, rfl, at_strs (by simp) (((B7.trans B710).keep _ _ (by simp) x0)), _, _, rfl, at_strs (by simp) (B710.keep _ _ (by simp) ud), _, _, rfl, at_strs (by simp) (B10.keep _ _ (by simp) ue), rfl⟩
  have lk : Like (.lst [strD ns', strD ("" :: ns'), strD (bs.map KB.nm)]) (.lst [strD ns', strD ("" :: ns'), strD (bs.map KB.nm)]) :=
    ⟨_, rfl, by show 3 ≤ 1000; decide, _, _, rfl, like_strs (by omega), _, _, rfl, like_strs (by rw [List.length_cons]; omega), _, _, rfl, like_strs (by omega), rfl⟩
  have dp : (D.lst [strD ns', strD ("" :: ns'), strD (bs.map KB.nm)]).dp < 6 := by
    show max (strD ns').dp (max (strD ("" :: ns')).dp (max (strD (bs.map KB.nm)).dp 0)) + 1 < 6
    have a1 := dp_strs (ns := ns')
    have a2 := dp_strs (ns := "" :: ns')
    have a3 := dp_strs (ns := bs.map KB.nm)
    omega
  refine ⟨_, rfl, _, rfl, _, _, .ref p, .ref z, rfl, told.z, due, lk, dp, fun H11 B11 => ?_⟩
  -- clear
  have B511 := B510.trans B11
  have B011 := (B07.trans B710).trans B11
  have y1 := B511.keep _ _ (by simp) w1
  have y2 := B511.keep _ _ (by simp) w2
  have y3 := B511.keep _ _ (by simp) w3
  have y4 := B511.keep _ _ (by simp) u4
  have f1 : H q1 = none := B1.free hq1
  have f2 : H q2 = none := (B1.trans B2).free hq2
  have f3 : H q3 = none := (B1.trans B13).free hq3
  have n1 : q1 ≠ p := ne_of_none (B45.keep _ _ (by simp) (B3.keep _ _ (by simp) u1) |> fun q => by exact (B4.trans But.refl).keep _ _ (by simp) (B3.keep _ _ (by simp) u1)) hp
  have n2 : q2 ≠ p := ne_of_none (B4.keep _ _ (by simp) u2) hp
  have n3 : q3 ≠ p := ne_of_none u3 hp
  have m12 : q1 ≠ q2 := fun z => by rw [z] at u1; exact absurd u1 (by rw [hq2]; exact fun q => nomatch q)
  have m13 : q1 ≠ q3 := ne_of_none (B3.keep _ _ (by simp) u1) hq3
  have m23 : q2 ≠ q3 := ne_of_none u2 hq3
  refine ⟨_, rfl, p, rfl, ⟨_, SqL.of y4⟩, ?_⟩
  refine for_it walk_list (fun i σ' H' => (∃ o6, σ' = [some (.ref h), some (.ref r), some (.ref q0), some (.ref p), some (.ref z), some (.bl true), o6, none]) ∧ (∃ k1, H' q1 = some (.lst k1)) ∧ (∃ k2, H' q2 = some (.lst k2)) ∧ (∃ k3, H' q3 = some (.lst k3)) ∧
      H' p = some (.lst [.ref q1, .ref q2, .ref q3]) ∧ But [q1, q2, q3] H11 H') ⟨⟨_, rfl⟩, ⟨_, y1⟩, ⟨_, y2⟩, ⟨_, y3⟩, y4, But.refl⟩ (fun i σ' H' _ z => SqL.of z.2.2.2.2.1) ?_ ?_
  · rintro i x σ' H12 H13 hi ⟨⟨o6, rfl⟩, ⟨k1, j1⟩, ⟨k2, j2⟩, ⟨k3, j3⟩, jp, B12⟩ ⟨rfl, hx⟩
    match i, hx with
    | 0, hx =>
      cases hx
      exact ⟨q1, rfl, .inr ⟨k1, j1, ⟨_, rfl⟩, ⟨_, upd_same⟩, ⟨k2, by rw [upd_ne (Ne.symm m12)]; exact j2⟩, ⟨k3, by rw [upd_ne (Ne.symm m13)]; exact j3⟩, by rw [upd_ne (Ne.symm n1)]; exact jp, B12.upd (.inl (by simp))⟩⟩
    | 1, hx =>
      cases hx
      exact ⟨q2, rfl, .inr ⟨k2, j2, ⟨_, rfl⟩, ⟨k1, by rw [upd_ne m12]; exact j1⟩, ⟨_, upd_same⟩, ⟨k3, by rw [upd_ne (Ne.symm m23)]; exact j3⟩, by rw [upd_ne (Ne.symm n2)]; exact jp, B12.upd (.inl (by simp))⟩⟩
    | 2, hx =>
      cases hx
      exact ⟨q3, rfl, .inr ⟨k3, j3, ⟨_, rfl⟩, ⟨k1, by rw [upd_ne m13]; exact j1⟩, ⟨k2, by rw [upd_ne m23]; exact j2⟩, ⟨_, upd_same⟩, by rw [upd_ne (Ne.symm n3)]; exact jp, B12.upd (.inl (by simp))⟩⟩
    | i + 3, hx => simp at hx
  · rintro σ' H12 ⟨⟨o6, rfl⟩, _, _, _, _, B12⟩
    refine ⟨_, rfl, k H12 (B011.ofNews (fun x m => ?_) B12)⟩
    simp only [List.mem_cons, List.not_mem_nil, or_false] at m
    rcases m with rfl | rfl | rfl
    · exact f1
    · exact f2
    · exact f3
end K03
end Kb

set_option Elab.async false
set_option linter.all false
set_option maxRecDepth 100000
set_option maxHeartbeats 2000000
/-! K03, 2: _law_kind_told, _law_no_kind, _law_refuses, _law_built. -/
namespace Kb
namespace K03
open PySem PySem.Spec PyProof.Rows L2 L2H

/-! ### _law_kind_told -/
def sp_l_kind_told (K : PySem.W.Frag) : Sp := fun vs H Q _ => ∃ (b : KB) (k : KD) (x v : V), vs = [x, v] ∧ KindC K ∧ KAt K [] H b x ∧ Made k b ∧ At [] H k.d v ∧ ∀ H', But [] H H' → Q (.bl true) H'
theorem len_l_kind_told {K : PySem.W.Frag} {vs : List V} {H : Hp} {Q : VK} {E : XK} (h : sp_l_kind_told K vs H Q E) : vs.length = 2 := by
  obtain ⟨_, _, _, _, rfl, _⟩ := h
  rfl
def t_l_kind_told (K : PySem.W.Frag) : TS :=
  (tRet (tAndV (tOp rEq (tProp (He.ga K "Kind") (sp_Kind_name K) [] E0 (tVar 0)) (tOp (rIxL K) (tVar 1) (tC (.int 0)))) (tAndV (tCall (sp_l_like 6 K) [] E0 (tCons (tMeth (He.ga K "Kind") "rules" (sp_Kind_rules K) [] E0 (tVar 0) tNil) (tCons (tOp (rIxL K) (tVar 1) (tC (.int 3))) tNil))) (tCall (sp_l_like 6 K) [] E0 (tCons (tMeth (He.ga K "Kind") "own" (sp_Kind_own K) [] E0 (tVar 0) tNil) (tCons (tOp (rIxL K) (tVar 1) (tC (.int 2))) tNil))))))
theorem due_dp {k : KD} : (D.dct (ownD k.own)).dp < 6 ∧ (D.lst (k.rules.map Rule.d)).dp < 6 := by
  constructor
  · show D.dpP (ownD k.own) + 1 < 6
    have : ∀ l : List (Str × Own), D.dpP (ownD l) ≤ 1 := fun l => by
      induction l with
      | nil => exact Nat.zero_le _
      | cons a b ih =>
        show max (a.2.d.dp) (D.dpP (ownD b)) ≤ 1
        have : a.2.d.dp ≤ 1 := by
          obtain ⟨ds, ed, fl⟩ := a.2.d_tup
          rw [ed]
          show D.dpL ds + 1 ≤ 1
          have h0 : D.dpL ds ≤ 0 := dpL_le fun d m => Nat.le_of_eq (dp_flat' (List.all_eq_true.mp fl d m))
          omega
        omega
    have := this k.own
    omega
  · show D.dpL (k.rules.map Rule.d) + 1 < 6
    have : D.dpL (k.rules.map Rule.d) ≤ 2 := dpL_le fun d m => by
      obtain ⟨r, _, rfl⟩ := List.mem_map.mp m
      exact dp_rule
    omega
theorem Made.parts {k : KD} {b : KB} (m : Made k b) : Like (.dct b.O) (.dct (ownD k.own)) ∧ Like (.lst b.R) (.lst (k.rules.map Rule.d)) := by
  obtain ⟨_, e, _, _, _, rfl, _, _, _, rfl, _, _, _, rfl, _, _, _, rfl, hO, _, _, rfl, hR, _⟩ := m.like
  cases e
  exact ⟨hO, hR⟩
theorem pure_l_kind_told {K : PySem.W.Frag} (vs : List V) (H : Hp) (Q : VK) (E : XK) (h : sp_l_kind_told K vs H Q E) : t_l_kind_told K (fin Q) (st0 2 vs) H := by
  obtain ⟨b, k, x, v, rfl, C, kb, m, hv, fin_⟩ := h
  obtain ⟨a, rfl, dx, l, o, r, _, ea, hl, ho, hr⟩ := kb
  obtain ⟨kd, p1, p2, p3, kv1, kv2, xs3, rfl, _, hk, _, c1, l1, _, c2, l2, _, c3, l3⟩ := KD.parts hv
  obtain ⟨po, kvo, rfl, _, eo, ao⟩ := ho
  obtain ⟨pr, xsr, rfl, _, er, ar⟩ := hr
  obtain ⟨lkO, lkR⟩ := Made.parts m
  refine ⟨_, rfl, a, dx, _, rfl, ea, a, dx, _, .str b.nm, rfl, C.cls, C.n1, ea, rfl, ?_⟩
  refine ⟨_, rfl, kd, _, 0, .str k.name, rfl, rfl, SqL.of hk, rfl, rfl, ?_⟩
  rw [m.nm, decide_eq_true (rfl : V.str k.name = V.str k.name)]
  refine ⟨_, rfl, ?_⟩
  refine iteT ?_
  refine ⟨_, rfl, a, dx, _, rfl, ea, rfl, a, dx, _, _, rfl, C.cls, C.n4, ea, rfl, pr, xsr, rfl, er, fun q1 hq1 => ?_⟩
  have B1 : But [] H (upd H q1 (.lst xsr)) := But.new hq1
  have u1 : (upd H q1 (.lst xsr)) q1 = some (.lst xsr) := upd_same
  generalize upd H q1 (.lst xsr) = H1 at B1 u1 ⊢
  refine ⟨_, rfl, kd, _, 3, .ref p3, rfl, rfl, SqL.of (B1.keep _ _ (by simp) hk), rfl, ?_⟩
  have told1 : At [] H1 (.lst b.R) (.ref q1) := ⟨q1, xsr, rfl, by simp, u1, ar.mono B1⟩
  have due1 : At [] H1 (.lst (k.rules.map Rule.d)) (.ref p3) := ⟨p3, xs3, rfl, by simp, B1.keep _ _ (by simp) c3, l3.mono B1⟩
  refine ⟨_, _, _, _, rfl, told1.z, due1, lkR, due_dp.2, fun H2 B2 => ⟨_, rfl, ?_⟩⟩
  refine iteT ?_
  have B02 := B1.trans B2
  have ea2 := B02.keep _ _ (by simp) ea
  refine ⟨_, rfl, a, dx, _, rfl, ea2, rfl, a, dx, _, _, rfl, C.cls, C.n3, ea2, rfl, po, kvo, rfl, B02.keep _ _ (by simp) eo, fun q2 hq2 => ?_⟩
  have B3 : But [] H2 (upd H2 q2 (.dK kvo)) := But.new hq2
  have u2 : (upd H2 q2 (.dK kvo)) q2 = some (.dK kvo) := upd_same
  generalize upd H2 q2 (.dK kvo) = H3 at B3 u2 ⊢
  have B03 := B02.trans B3
  refine ⟨_, rfl, kd, _, 2, .ref p2, rfl, rfl, SqL.of (B03.keep _ _ (by simp) hk), rfl, ?_⟩
  have told2 : At [] H3 (.dct b.O) (.ref q2) := ⟨q2, kvo, rfl, by simp, u2, ao.mono B03⟩
  have due2 : At [] H3 (.dct (ownD k.own)) (.ref p2) := ⟨p2, kv2, rfl, by simp, B03.keep _ _ (by simp) c2, l2.mono B03⟩
  exact ⟨_, _, _, _, rfl, told2.z, due2, lkO, due_dp.1, fun H4 B4 => fin_ H4 (B03.trans B4)⟩

/-! ### _law_no_kind -/
def sp_l_no_kind (K : PySem.W.Frag) : Sp := fun vs H Q _ => ∃ (h : Addr) (bs : List KB) (ns : List Str) (n : Str), vs = [.ref h, .str n] ∧ HouseC K ∧ NoKindX K ∧ HOb K [] H h bs ns ∧ (bs.map KB.nm).Nodup ∧ n ∉ bs.map KB.nm ∧ ∀ H', But [] H H' → Q (.bl true) H'
theorem len_l_no_kind {K : PySem.W.Frag} {vs : List V} {H : Hp} {Q : VK} {E : XK} (h : sp_l_no_kind K vs H Q E) : vs.length = 2 := by
  obtain ⟨_, _, _, _, rfl, _⟩ := h
  rfl
def t_l_no_kind (K : PySem.W.Frag) : TS :=
  (tSeq (tTry K (He.ga K "NoKind") 2 (fun W => (tDrop (tIxS (He.ga K "House") (sp_House_getitem K) (WE W) (tVar 0) (tVar 1)))) (fun a cls d => (tRet (tOp rEq (tXf a cls d (He.ga K "NoKind") "what" (tVar 2)) (tVar 1)))))
  (tRet (tC (.bl false))))
theorem HOb.ins {K : PySem.W.Frag} {M : List Addr} {H : Hp} {h : Addr} {bs : List KB} {ns : List Str} (o : HOb K M H h bs ns) : ∃ dx fs, H h = some (.ins (HC K) dx fs) ∧ fs.lookup ("column_of" : Str) = none := let ⟨_, _, _, _, _, _, _, e, _⟩ := o; ⟨_, _, e, rfl⟩
theorem pure_l_no_kind {K : PySem.W.Frag} (vs : List V) (H : Hp) (Q : VK) (E : XK) (h : sp_l_no_kind K vs H Q E) : t_l_no_kind K (fin Q) (st0 3 vs) H := by
  obtain ⟨h, bs, ns, n, rfl, C, N, ob, nd, no, k⟩ := h
  obtain ⟨dx, fs, e, _⟩ := HOb.ins ob
  refine ⟨_, rfl, _, rfl, h, dx, fs, rfl, e, h, bs, ns, .str n, .str n, rfl, C, N.nn, ob, nd, rfl, fun b v mb ed _ => ?_, fun _ p hp => ?_⟩
  · exact absurd (List.mem_map.mpr ⟨b, mb, by injection ed.symm⟩) no
  · refine ⟨true, N.me, fun _ a he => ?_, fun q => nomatch q⟩
    have B : But [] H (upd H p (.xd [("what", V.str n)])) := But.new hp
    refine ⟨_, rfl, rfl, rfl, p, _, .str n, rfl, upd_same, rfl, _, rfl, rfl, ?_⟩
    rw [decide_eq_true (rfl : V.str n = V.str n)]
    exact k _ B

/-! ### _law_refuses -/
def sp_l_refuses (K : PySem.W.Frag) : Sp := fun vs H Q _ => ∃ (h : Addr) (bs : List KB) (ns : List Str) (d : D) (x : V), vs = [.ref h, x] ∧ HouseC K ∧ NoNameX K ∧ NoKindX K ∧ HOb K [] H h bs ns ∧ (bs.map KB.nm).Nodup ∧ At [] H d x ∧ d.fine = true ∧ isNED d = false ∧ isKn d bs = false ∧
  Like d d ∧ d.dp < 6 ∧ ∀ H', But [] H H' → Q (.bl true) H'
theorem len_l_refuses {K : PySem.W.Frag} {vs : List V} {H : Hp} {Q : VK} {E : XK} (h : sp_l_refuses K vs H Q E) : vs.length = 2 := by
  obtain ⟨_, _, _, _, _, rfl, _⟩ := h
  rfl
def t_l_refuses (K : PySem.W.Frag) : TS :=
  (tSeq (tAsg (tC (.bl false)) (gName 2))
  (tSeq (tTry K (He.ga K "NoName") 3 (fun W => (tDrop (tMethH (He.ga K "House") "column_of" (sp_House_column_of K) (WE W) (tVar 0) (tCons (tVar 1) tNil)))) (fun a cls d => (tAsg (tCall (sp_l_like 6 K) [] E0 (tCons (tXf a cls d (He.ga K "NoName") "what" (tVar 3)) (tCons (tVar 1) tNil))) (gName 2))))
  (tSeq (tIfS (tNot (tB (tVar 2)))
    (tRet (tC (.bl false)))
    tNext)
  (tSeq (tTry K (He.ga K "NoKind") 3 (fun W => (tDrop (tIxS (He.ga K "House") (sp_House_getitem K) (WE W) (tVar 0) (tVar 1)))) (fun a cls d => (tRet (tCall (sp_l_like 6 K) [] E0 (tCons (tXf a cls d (He.ga K "NoKind") "what" (tVar 3)) (tCons (tVar 1) tNil))))))
  (tRet (tC (.bl false)))))))
theorem pure_l_refuses {K : PySem.W.Frag} (vs : List V) (H : Hp) (Q : VK) (E : XK) (h : sp_l_refuses K vs H Q E) : t_l_refuses K (fin Q) (st0 4 vs) H := by
  obtain ⟨h, bs, ns, d, x, rfl, C, N1, N2, ob, nd, hx, fi, no1, no2, lk, dp, k⟩ := h
  obtain ⟨dx, fs, e, lo⟩ := HOb.ins ob
  refine ⟨_, rfl, h, dx, fs, rfl, e, lo, _, rfl, h, bs, ns, d, x, rfl, C, N1.nn, ob, hx, fi, fun q => ?_, fun _ H1 p B1 hp => ?_⟩
  · rw [no1] at q
    cases q
  · refine ⟨true, N1.me, fun _ a he => ?_, fun q => nomatch q⟩
    have B2 : But [] H (upd H1 p (.xd [("what", x)])) := B1.upd' hp
    have hx2 := hx.mono B2
    refine ⟨_, rfl, rfl, rfl, p, _, x, rfl, upd_same, rfl, _, rfl, d, d, x, x, rfl, hx2.z, hx2, lk, dp, fun H3 B3 => ?_⟩
    have B03 := B2.trans B3
    have hx3 := hx.mono B03
    have ob3 : HOb K [] H3 h bs ns := HOb.mono ob B03
    refine ⟨_, rfl, _, rfl, ?_⟩
    refine iteF ?_
    refine ⟨_, rfl, _, rfl, h, dx, fs, rfl, B03.keep _ _ (by simp) e, h, bs, ns, d, x, rfl, C, N2.nn, ob3, nd, hx3.z, fun b v mb ed _ => ?_, fun _ p2 hp2 => ?_⟩
    · rw [ed] at no2
      exact absurd (List.mem_map.mpr ⟨b, mb, rfl⟩) (of_decide_eq_false (show decide (b.nm ∈ bs.map KB.nm) = false from no2))
    · refine ⟨true, N2.me, fun _ a2 he2 => ?_, fun q => nomatch q⟩
      have B4 : But [] H3 (upd H3 p2 (.xd [("what", x)])) := But.new hp2
      have hx4 := hx3.mono B4
      exact ⟨_, rfl, rfl, rfl, p2, _, x, rfl, upd_same, rfl, _, rfl, d, d, x, x, rfl, hx4.z, hx4, lk, dp, fun H5 B5 => k H5 ((B03.trans B4).trans B5)⟩

/-! ### _law_built -/
def sp_l_built (K : PySem.W.Frag) : Sp := fun vs H Q _ => ∃ (kn an rn : Nat) (kinds asked : List Str) (hs : List KD) (v : V), vs = [v] ∧ HouseC K ∧ KindI K ∧ HsOk kn 2 an rn kinds asked hs ∧ kn ≤ 4 ∧ an ≤ 6 ∧ rn ≤ 40 ∧ At [] H (.lst (hs.map KD.d)) v ∧
  ∀ h t n bs ns H', Holds hs bs ns → H h = none → H t = none → H n = none → (∀ M, Std M H → NoTup M H → HObT K M H' h t n bs ns) → But [] H H' → Q (.ref h) H'
theorem len_l_built {K : PySem.W.Frag} {vs : List V} {H : Hp} {Q : VK} {E : XK} (h : sp_l_built K vs H Q E) : vs.length = 1 := by
  obtain ⟨_, _, _, _, _, _, _, rfl, _⟩ := h
  rfl
def t_l_built (K : PySem.W.Frag) : TS :=
  (tRet (tMake (He.ga K "House") (sp_House_init K) [] E0 (tCons (tLc (iList K (tVar 0)) (gName 1) tYes (tCall (sp_l_kind K) [] E0 (tCons (tVar 1) tNil)) [1]) tNil)))
theorem hsNamed_few {kn an rn : Nat} {kinds asked : List Str} {hs : List KD} (o : HsOk kn 2 an rn kinds asked hs) (k4 : kn ≤ 4) (r40 : rn ≤ 40) : (hsNamed hs).length ≤ 1000 := by
  have h1 : (hsNamed hs).length ≤ hs.length * (5 + 5 * rn) := flatMap_le fun k mk => (o.inh (by omega) mk).few
  have h2 : hs.length ≤ 4 := by rw [o.len]; exact Nat.le_trans o.ks.len k4
  have h3 : hs.length * (5 + 5 * rn) ≤ 4 * (5 + 5 * rn) := Nat.mul_le_mul_right _ h2
  omega
theorem Holds.of {kn an rn : Nat} {kinds asked : List Str} {hs : List KD} {bs : List KB} {ns : List Str} (o : HsOk kn 2 an rn kinds asked hs) (k4 : kn ≤ 4) (a6 : an ≤ 6) (r40 : rn ≤ 40) (m : MadeS hs bs) (so : sortedS (bs.map KB.nm) = true) (nn : ns.Nodup) (sn : sortedS ns = true) (mem : ∀ y, y ∈ ns ↔ y ∈ hsNamed hs) : Holds hs bs ns :=
  ⟨m, so, nn, sn, mem, o.six (by omega) a6 nn fun y my => (mem y).mp my, o.nd, hsNamed_few o k4 r40, by rw [o.len]; exact Nat.le_trans o.ks.len k4⟩
theorem pure_l_built {K : PySem.W.Frag} (vs : List V) (H : Hp) (Q : VK) (E : XK) (h : sp_l_built K vs H Q E) : t_l_built K (fin Q) (st0 2 vs) H := by
  obtain ⟨kn, an, rn, kinds, asked, hs, v, rfl, C, CK, o, k4, a6, r40, hv, k⟩ := h
  obtain ⟨r, xs, rfl, _, hr, ha⟩ := hv
  have hl : hs.length ≤ 4 := by rw [o.len]; exact Nat.le_trans o.ks.len k4
  dsimp only [t_l_built, tRet, tMake, tCons]
  refine kinds_row (M := []) CK.kc (fun R q => ⟨_, rfl, q⟩) (by show 1 < 2; decide) hr ha (by omega) (fun kd mk => (o.inh (by omega) mk).good) fun Dl bs ys H1 hD eD ml rp B1 => ?_
  intro x dx hx hdx ne
  refine house_made C CK o k4 a6 r40 (.inl (SqL.of eD)) rp (fun b v p => p.kat) ml.s hx hdx ne fun bs' ns t n H2 pm ms so nn sn mem e1 e2 ob B2 => ?_
  refine k x t n bs' ns H2 (Holds.of o k4 a6 r40 ms so nn sn mem) (B1.free hx) (B1.free e1) (B1.free e2) (fun M s tt => ob M (s.but B1) fun b v p => p M s tt) (B1.trans B2)
end K03
end Kb

set_option Elab.async false
set_option linter.all false
set_option maxRecDepth 100000
set_option maxHeartbeats 2000000
/-! K03, 3: Houses of one drawn house, and of one with a flag changed, compared. -/
namespace Kb
namespace K03
open PySem PySem.Spec PyProof.Rows L2 L2H

/-- kinds of one name differ at most in their flag -/
def Sim (hs hs' : List KD) : Prop := ∀ k ∈ hs, ∀ k' ∈ hs', k.name = k'.name → k'.links = k.links ∧ k'.own = k.own ∧ k'.rules = k.rules
theorem Sim.symm {hs hs' : List KD} (s : Sim hs hs') : Sim hs' hs := fun k m k' m' e => let ⟨a, b, c⟩ := s k' m' k m e.symm; ⟨a.symm, b.symm, c.symm⟩
theorem kd_of_name {hs : List KD} (nd : (hs.map KD.name).Nodup) {k k' : KD} (m : k ∈ hs) (m' : k' ∈ hs) (e : k.name = k'.name) : k = k' := by
  induction hs with
  | nil => cases m
  | cons c r ih =>
    rw [List.map_cons] at nd
    obtain ⟨n1, n2⟩ := List.nodup_cons.mp nd
    rcases List.mem_cons.mp m with h | h
    · rcases List.mem_cons.mp m' with h' | h'
      · rw [h, h']
      · exact absurd (List.mem_map.mpr ⟨k', h', by rw [← e, h]⟩) n1
    · rcases List.mem_cons.mp m' with h' | h'
      · exact absurd (List.mem_map.mpr ⟨k, h, by rw [e, h']⟩) n1
      · exact ih n2 h h'
theorem Sim.refl {hs : List KD} (nd : (hs.map KD.name).Nodup) : Sim hs hs := fun k m k' m' e => by
  rw [kd_of_name nd m m' e]
  exact ⟨rfl, rfl, rfl⟩
/-- a flag turned round -/
def flipK (k : KD) : KD := { k with hid := !k.hid }
theorem Sim.flip {hs : List KD} {i : Nat} {k : KD} (nd : (hs.map KD.name).Nodup) (e : hs[i]? = some k) : Sim hs (hs.set i (flipK k)) := fun k1 m k2 m2 en => by
  rcases List.mem_or_eq_of_mem_set m2 with h | h
  · exact Sim.refl nd k1 m k2 h en
  · rw [h] at en ⊢
    exact Sim.refl nd k1 m k (List.mem_of_getElem? e) en
theorem Sim.eq {hs hs' : List KD} {bs bs' : List KB} (s : Sim hs hs') (m : MadeS hs bs) (m' : MadeS hs' bs') {b1 b2 : KB} (h1 : b1 ∈ bs) (h2 : b2 ∈ bs') (e : b1.nm = b2.nm) :
    EqK b1.L b1.O b1.R b2.L b2.O b2.R ∧ kEqB b1 b2 = decide (b1.h = b2.h) := by
  obtain ⟨k, mk, mm⟩ := m.get b1 h1
  obtain ⟨k', mk', mm'⟩ := m'.get b2 h2
  obtain ⟨z1, z2, z3⟩ := s k mk k' mk' (by rw [← mm.nm, ← mm'.nm, e])
  have o2 := mm'.out
  have o2' : Out k b2.L b2.O b2.R := ⟨by rw [← z1]; exact o2.l, by rw [← z2]; exact o2.o, by rw [← z3]; exact o2.r, o2.pl, o2.dp⟩
  obtain ⟨q1, q2, q3, q4⟩ := mm.out.eq o2'
  refine ⟨q1, ?_⟩
  unfold kEqB
  rw [q2, q3, q4, decide_eq_true e, Bool.true_and, Bool.true_and, Bool.true_and, Bool.true_and]
theorem houses_eq {hs : List KD} {bs bs' : List KB} {ns ns' : List Str} (h : Holds hs bs ns) (h' : Holds hs bs' ns') : houseEqB bs bs' = true := by
  unfold houseEqB
  rw [h.m.len, h'.m.len, beq_self_eq_true, Bool.true_and]
  refine List.all_eq_true.mpr fun b1 m1 => ?_
  obtain ⟨k, mk, mm⟩ := h.m.get b1 m1
  obtain ⟨b2, m2, mm2⟩ := h'.m.got k mk
  have en : b1.nm = b2.nm := by rw [mm.nm, mm2.nm]
  rw [hasEqB_of h'.bnd m2 en.symm, ((Sim.refl h.nd).eq h.m h'.m m1 m2 en).2, mm.h, mm2.h]
  exact decide_eq_true rfl
theorem houses_ne {hs hs' : List KD} {bs bs' : List KB} {ns ns' : List Str} (s : Sim hs hs') (h : Holds hs bs ns) (h' : Holds hs' bs' ns') {k k' : KD} (m : k ∈ hs) (m' : k' ∈ hs') (en : k.name = k'.name) (ne : k.hid ≠ k'.hid) : houseEqB bs bs' = false := by
  obtain ⟨b1, m1, mm⟩ := h.m.got k m
  obtain ⟨b2, m2, mm2⟩ := h'.m.got k' m'
  have e : b1.nm = b2.nm := by rw [mm.nm, mm2.nm, en]
  have : hasEqB bs' b1 = false := by
    rw [hasEqB_of h'.bnd m2 e.symm, (s.eq h.m h'.m m1 m2 e).2, mm.h, mm2.h]
    exact decide_eq_false ne
  unfold houseEqB
  rw [Bool.and_eq_false_iff]
  refine .inr (Bool.eq_false_iff.mpr fun z => ?_)
  rw [List.all_eq_true.mp z b1 m1] at this
  cases this
theorem flip_ok {kn an rn : Nat} {kinds asked : List Str} {hs : List KD} {i : Nat} {k : KD} (o : HsOk kn 2 an rn kinds asked hs) (e : hs[i]? = some k) : HsOk kn 2 an rn kinds asked (hs.set i (flipK k)) := by
  refine ⟨?_, o.ks, o.kne, o.as, fun k' m => ?_⟩
  · rw [List.map_set, show (flipK k).name = k.name from rfl, ← o.nm]
    refine List.ext_getElem? fun j => ?_
    by_cases z : j = i
    · rw [z, List.getElem?_set_self (by rw [List.length_map]; exact (List.getElem?_eq_some_iff.mp e).1), List.getElem?_map, e]
      rfl
    · rw [List.getElem?_set_ne (fun q => z q.symm)]
  · rcases List.mem_or_eq_of_mem_set m with h | h
    · exact o.ok k' h
    · rw [h]
      have q := o.ok k (List.mem_of_getElem? e)
      exact ⟨q.lk, q.cho, q.own, q.rl, q.ro⟩
theorem atL_of {M : List Addr} {H : Hp} : ∀ {ds : List D} {xs : List V}, ds.length = xs.length → (∀ (i : Nat) (d : D) (x : V), ds[i]? = some d → xs[i]? = some x → At M H d x) → AtL M H ds xs
  | [], [], _, _ => rfl
  | [], _ :: _, l, _ => by cases l
  | _ :: _, [], l, _ => by cases l
  | d :: ds, x :: xs, l, h => ⟨x, xs, rfl, h 0 d x rfl rfl, atL_of (by simpa using l) fun i d' x' e e' => h (i + 1) d' x' (by simpa using e) (by simpa using e')⟩
end K03
end Kb

set_option Elab.async false
set_option linter.all false
set_option maxRecDepth 100000
set_option maxHeartbeats 2000000
/-! K03, 4: the law's last part: a house with a flag turned round. -/
namespace Kb
namespace K03
open PySem PySem.Spec PyProof.Rows L2 L2H

/-- what the top gives -/
structure Top (K : PySem.W.Frag) : Prop where
  HI : HouseI K
  CK : KindI K
  N1 : NoNameX K
  N2 : NoKindX K
/-- the drawn house, the machine, the House told -/
structure Sit (K : PySem.W.Frag) (kinds asked : List Str) (hs : List KD) (bs : List KB) (ns : List Str) (a c r h t n : Addr) (H : Hp) : Prop where
  T : Top K
  o : HsOk 4 2 6 6 kinds asked hs
  hd : Holds hs bs ns
  S : StAt H a c
  hv : At [a, c] H (.lst (hs.map KD.d)) (.ref r)
  ob : HObT K [a, c] H h t n bs ns
theorem HObT.tab {K : PySem.W.Frag} {M : List Addr} {H : Hp} {h t n : Addr} {bs : List KB} {ns : List Str} (o : HObT K M H h t n bs ns) : ∃ kvs, H t = some (.dK kvs) := let ⟨_, _, _, _, _, _, e, _⟩ := o; ⟨_, e⟩
theorem HObT.obj {K : PySem.W.Frag} {M : List Addr} {H : Hp} {h t n : Addr} {bs : List KB} {ns : List Str} (o : HObT K M H h t n bs ns) : ∃ dx fs, H h = some (.ins (HC K) dx fs) := let ⟨_, _, _, _, _, e, _⟩ := o; ⟨_, _, e⟩
theorem Sit.nil {K : PySem.W.Frag} {kinds asked : List Str} {hs : List KD} {bs : List KB} {ns : List Str} {a c r h t n : Addr} {H H' : Hp} (s : Sit K kinds asked hs bs ns a c r h t n H) (B : But [] H H') : Sit K kinds asked hs bs ns a c r h t n H' :=
  ⟨s.T, s.o, s.hd, s.S.nil B, s.hv.mono B.nil, s.ob.mono B.nil⟩
theorem Sit.draw {K : PySem.W.Frag} {kinds asked : List Str} {hs : List KD} {bs : List KB} {ns : List Str} {a c r h t n : Addr} {H H' : Hp} (s : Sit K kinds asked hs bs ns a c r h t n H) (B : But [a, c] H H') (S : StAt H' a c) : Sit K kinds asked hs bs ns a c r h t n H' :=
  ⟨s.T, s.o, s.hd, S, s.hv.mono B, s.ob.mono B⟩
def t_law_g (K : PySem.W.Frag) : TS :=
  (tSeq (tAsg (tCall (sp_l_draw K) [] E0 (tCons (tVar 1) (tCons (tCB (rLenA K) (tCons (tVar 2) tNil)) tNil))) (gName 11))
  (tSeq (tAsg (tLc (iList K (tVar 2)) (gName 13) tYes (tCB (rListOf K) (tCons (tVar 13) tNil)) [13]) (gName 12))
  (tSeq (tAsg (tNotV (tOp (rIxL K) (tOp (rIxL K) (tVar 12) (tVar 11)) (tC (.int 4)))) (gSub (tOp (rIxL K) (tVar 12) (tVar 11)) (tC (.int 4)) rSetL))
  (tRet (tAndV (tNotV (tOp (rEqK (He.ga K "House") (sp_House_eq K) E0) (tVar 4) (tCall (sp_l_built K) [] E0 (tCons (tVar 12) tNil)))) (tNotV (tOp (rEqK (He.ga K "House") (sp_House_eq K) E0) (tCall (sp_l_built K) [] E0 (tCons (tVar 12) tNil)) (tVar 4))))))))
/-- a list with the parts of the kind k, which stand in H0; the list itself is new -/
def CopyAt (H0 H : Hp) (k : KD) (v : V) : Prop := ∃ p y1 y2 y3, v = .ref p ∧ H0 p = none ∧ H p = some (.lst [.str k.name, y1, y2, y3, .bl k.hid]) ∧ At [] H0 (.dct (linkD k.links)) y1 ∧ At [] H0 (.dct (ownD k.own)) y2 ∧ At [] H0 (.lst (k.rules.map Rule.d)) y3
theorem CopyAt.at_ {H0 H : Hp} {k : KD} {v : V} (h : CopyAt H0 H k v) (B : But [] H0 H) : At [] H k.d v := by
  obtain ⟨p, y1, y2, y3, rfl, _, e, a1, a2, a3⟩ := h
  exact ⟨p, _, rfl, by simp, e, _, _, rfl, rfl, _, _, rfl, a1.mono B, _, _, rfl, a2.mono B, _, _, rfl, a3.mono B, _, _, rfl, rfl, rfl⟩
theorem copies_row {K : PySem.W.Frag} {tl : TE} {g : Nat} {σ : L2.St} {H H1 : Hp} {Q : VK} {r : Addr} {xs : List V} {hs : List KD} (hl : ∀ R : V → Hp → Prop, R (.ref r) H1 → tl σ H R) (hg : g < σ.length) (hr : H1 r = some (.lst xs)) (ha : AtL [] H1 (hs.map KD.d) xs) (lt : hs.length ≤ 1000)
    (done : ∀ Dl ys H', H1 Dl = none → H' Dl = some (.lst ys) → ys.length = hs.length → ys.Nodup → (∀ (j : Nat) (k : KD) (y : V), hs[j]? = some k → ys[j]? = some y → CopyAt H1 H' k y ∧ y ≠ .ref Dl) → But [] H1 H' → Q (.ref Dl) H') : tLc (iList K tl) (gName g) tYes (tCB (rListOf K) (tCons (tVar g) tNil)) [g] σ H Q := by
  have len : xs.length = hs.length := by rw [ha.length, List.length_map]
  refine lc_row hl hr (by omega) (fun Dl i ys H' => ys.length = i ∧ i ≤ hs.length ∧ H1 Dl = none ∧ H' Dl = some (.lst ys) ∧ ys.Nodup ∧ (∀ (j : Nat) (k : KD) (y : V), hs[j]? = some k → ys[j]? = some y → CopyAt H1 H' k y ∧ y ≠ .ref Dl) ∧ But [] H1 H')
    (fun Dl hD => ⟨rfl, Nat.zero_le _, hD, upd_same, List.nodup_nil, (fun j k y _ e => by cases e), But.new hD⟩) ?_ ?_ ?_
  · rintro Dl i ys H' ⟨l, _, hD, e, _, _, B⟩
    exact ⟨B.keep _ _ (by simp) hr, e, Nat.le_of_eq l⟩
  · rintro Dl i x ys H' R ex ⟨l, hi, hD, e, nd, cp, B⟩ nx
    obtain ⟨d, ed, hd⟩ := ha.get ex
    rw [List.getElem?_map] at ed
    obtain ⟨k, ek, rfl⟩ := Option.map_eq_some_iff.mp ed
    obtain ⟨kd, p1, p2, p3, kv1, kv2, xs3, rfl, _, hk, n1, c1, l1, n2, c2, l2, n3, c3, l3⟩ := KD.parts hd
    refine ⟨_, turn_at hg, kd, _, rfl, .inl (SqL.of (B.keep _ _ (by simp) hk)), fun q hq => ?_⟩
    have hq1 := B.free hq
    have eq1 : (upd H' q (.lst [.str k.name, .ref p1, .ref p2, .ref p3, .bl k.hid])) q = some (.lst [.str k.name, .ref p1, .ref p2, .ref p3, .bl k.hid]) := upd_same
    have B2 : But [] H' (upd H' q (.lst [.str k.name, .ref p1, .ref p2, .ref p3, .bl k.hid])) := But.new hq
    generalize upd H' q (.lst [.str k.name, .ref p1, .ref p2, .ref p3, .bl k.hid]) = H2 at eq1 B2 ⊢
    have e2 := B2.keep _ _ (by simp) e
    have qD : q ≠ Dl := fun z => by rw [z, e] at hq; cases hq
    have fin : ∀ k' y, CopyAt H1 H2 k' y → y ≠ .ref Dl → CopyAt H1 (upd H2 Dl (.lst (ys ++ [.ref q]))) k' y ∧ y ≠ .ref Dl := fun k' y h ne => by
      obtain ⟨p, y1, y2, y3, rfl, e1, e3, a1, a2, a3⟩ := h
      exact ⟨⟨p, y1, y2, y3, rfl, e1, by rw [upd_ne (fun z => ne (by rw [z]))]; exact e3, a1, a2, a3⟩, ne⟩
    refine nx _ _ e2 ⟨by rw [List.length_append, l]; rfl, (List.getElem?_eq_some_iff.mp ek).1, hD, upd_same, ?_, fun j k' y ej ey => ?_, (B.trans B2).upd (.inr hD)⟩
    · refine List.nodup_append.mpr ⟨nd, List.nodup_cons.mpr ⟨by simp, List.nodup_nil⟩, fun y my z mz => ?_⟩
      rw [List.mem_singleton.mp mz]
      obtain ⟨j, ej⟩ := List.mem_iff_getElem?.mp my
      have lj : j < hs.length := by have := (List.getElem?_eq_some_iff.mp ej).1; omega
      obtain ⟨⟨p, y1, y2, y3, rfl, _, ep, _⟩, _⟩ := cp j _ y (List.getElem?_eq_getElem lj) ej
      exact fun z => by
        have : p = q := by injection z
        rw [this, hq] at ep
        cases ep
    · by_cases lj : j < ys.length
      · rw [List.getElem?_append_left lj] at ey
        obtain ⟨⟨p, y1, y2, y3, rfl, f1, f2, a1, a2, a3⟩, ne⟩ := cp j k' y ej ey
        exact fin _ _ ⟨p, y1, y2, y3, rfl, f1, B2.keep _ _ (by simp) f2, a1, a2, a3⟩ ne
      · have := (List.getElem?_eq_some_iff.mp ey).1
        rw [List.length_append, List.length_singleton] at this
        obtain rfl : j = ys.length := by omega
        rw [List.getElem?_append_right (Nat.le_refl _), Nat.sub_self] at ey
        cases ey
        rw [l, ek] at ej
        cases ej
        exact fin _ _ ⟨q, .ref p1, .ref p2, .ref p3, rfl, hq1, eq1, ⟨p1, kv1, rfl, n1, c1, l1⟩, ⟨p2, kv2, rfl, n2, c2, l2⟩, ⟨p3, xs3, rfl, n3, c3, l3⟩⟩ (fun z => qD (by injection z))
  · rintro Dl ys H' hD ⟨l, _, _, e, nd, cp, B⟩
    exact done Dl ys H' hD e (by rw [l, len]) nd cp B
theorem law_g {K : PySem.W.Frag} {kinds asked : List Str} {hs : List KD} {bs : List KB} {ns : List Str} {a c r h t n : Addr} {H : Hp} {Q : VK} {u0 u3 u5 u6 u7 u8 u9 u10 u11 u12 u13 u14 : Option V} (s : Sit K kinds asked hs bs ns a c r h t n H) (q : ∀ H', Q (.bl true) H') :
    t_law_g K (fin Q) [u0, some (.ref a), some (.ref r), u3, some (.ref h), u5, u6, u7, u8, u9, u10, u11, u12, u13, u14] H := by
  obtain ⟨rr, xs, er, nr, hr, ha⟩ := id s.hv
  cases er
  have len : xs.length = hs.length := by rw [ha.length, List.length_map]
  have four := s.hd.four
  have pos : 1 ≤ hs.length := by rw [s.o.len]; exact List.length_pos_iff.mpr s.o.kne
  refine ⟨_, rfl, _, rfl, _, xs.length, rfl, .inl ⟨_, SqL.of hr, rfl⟩, a, c, xs.length, rfl, s.S, by omega, by omega, fun z H1 z1 z2 S1 B1 => ?_⟩
  obtain ⟨i, rfl, hi⟩ := idx_of z1 z2
  have s1 := s.draw B1 S1
  obtain ⟨rr, xs', er, nr1, hr1, ha1⟩ := id s1.hv
  cases er
  dsimp only [tSeq, tAsg, gName]
  refine copies_row (fun R q => ⟨_, rfl, q⟩) (by show 13 < 15; decide) hr1 (ha1.less (by simp)) (by omega) fun Dl ys H2 hD eD ly nd cp B2 => ?_
  have hi' : i < hs.length := by omega
  have ey : ys[i]? = some ys[i] := List.getElem?_eq_getElem (by omega)
  have ek : hs[i]? = some hs[i] := List.getElem?_eq_getElem hi'
  obtain ⟨⟨p, y1, y2, y3, ep, p0, hp, a1, a2, a3⟩, neD⟩ := cp i _ _ ek ey
  rw [ep] at ey
  refine ⟨_, rfl, _, rfl, Dl, ys, i, .ref p, rfl, rfl, SqL.of eD, at_of rfl ey, p, _, 4, .bl hs[i].hid, rfl, rfl, SqL.of hp, rfl, _, rfl, ?_⟩
  refine ⟨_, rfl, _, rfl, Dl, ys, i, .ref p, rfl, rfl, SqL.of eD, at_of rfl ey, p, _, 4, 4, rfl, rfl, hp, rfl, ?_⟩
  have pD : p ≠ Dl := fun z => neD (by rw [ep, z])
  have hp3 : (upd H2 p (.lst ([V.str hs[i].name, y1, y2, y3, .bl hs[i].hid].set 4 (.bl (!hs[i].hid))))) p = some (.lst [.str (flipK hs[i]).name, y1, y2, y3, .bl (flipK hs[i]).hid]) := upd_same
  have eD3 : (upd H2 p (.lst ([V.str hs[i].name, y1, y2, y3, .bl hs[i].hid].set 4 (.bl (!hs[i].hid))))) Dl = some (.lst ys) := by rw [upd_ne (Ne.symm pD)]; exact eD
  have B3 : But [] H1 (upd H2 p (.lst ([V.str hs[i].name, y1, y2, y3, .bl hs[i].hid].set 4 (.bl (!hs[i].hid))))) := B2.upd (.inr p0)
  have oth : ∀ x, x ≠ p → (upd H2 p (.lst ([V.str hs[i].name, y1, y2, y3, .bl hs[i].hid].set 4 (.bl (!hs[i].hid))))) x = H2 x := fun x ne => upd_ne ne
  generalize upd H2 p (.lst ([V.str hs[i].name, y1, y2, y3, .bl hs[i].hid].set 4 (.bl (!hs[i].hid)))) = H3 at hp3 eD3 B3 oth ⊢
  have o' : HsOk 4 2 6 6 kinds asked (hs.set i (flipK hs[i])) := flip_ok s.o ek
  have hv3 : At [] H3 (.lst ((hs.set i (flipK hs[i])).map KD.d)) (.ref Dl) := by
    refine ⟨Dl, ys, rfl, by simp, eD3, atL_of (by rw [List.length_map, List.length_set, ly]) fun j d y ej ey' => ?_⟩
    rw [List.getElem?_map] at ej
    obtain ⟨k, ek', rfl⟩ := Option.map_eq_some_iff.mp ej
    by_cases z : j = i
    · rw [z, List.getElem?_set_self hi'] at ek'
      cases ek'
      rw [z, ey] at ey'
      cases ey'
      exact CopyAt.at_ ⟨p, y1, y2, y3, rfl, p0, hp3, a1, a2, a3⟩ B3
    · rw [List.getElem?_set_ne (fun q => z q.symm)] at ek'
      obtain ⟨⟨p', z1, z2, z3, rfl, f1, f2, b1, b2, b3⟩, _⟩ := cp j k y ek' ey'
      have ne : p' ≠ p := fun w => z (by
        rw [w] at ey'
        exact (List.getElem?_inj (List.getElem?_eq_some_iff.mp ey').1 nd).mp (ey'.trans ey.symm))
      exact CopyAt.at_ ⟨p', z1, z2, z3, rfl, f1, by rw [oth _ ne]; exact f2, b1, b2, b3⟩ B3
  have s3 := s1.nil B3
  have sim : Sim hs (hs.set i (flipK hs[i])) := Sim.flip s.hd.nd ek
  have mk : hs[i] ∈ hs := List.getElem_mem hi'
  have mk' : flipK hs[i] ∈ hs.set i (flipK hs[i]) := List.mem_of_getElem? (List.getElem?_set_self hi')
  have hne : hs[i].hid ≠ (flipK hs[i]).hid := by show _ ≠ !_; cases hs[i].hid <;> decide
  have ne1 : ∀ bs' ns', Holds (hs.set i (flipK hs[i])) bs' ns' → houseEqB bs bs' = false := fun bs' ns' h' => houses_ne sim s.hd h' mk mk' rfl hne
  have ne2 : ∀ bs' ns', Holds (hs.set i (flipK hs[i])) bs' ns' → houseEqB bs' bs = false := fun bs' ns' h' => houses_ne sim.symm h' s.hd mk' mk rfl hne.symm
  -- told == built(other)
  obtain ⟨dx, fs, eh⟩ := HObT.obj s3.ob
  refine ⟨_, rfl, _, rfl, 4, 6, 6, kinds, asked, _, .ref Dl, rfl, s.T.HI.hc, s.T.CK, o', by decide, by decide, by decide, hv3, fun h' t' n' bs' ns' H4 hold f1 f2 f3 ob B4 => ?_⟩
  obtain ⟨tk, et⟩ := HObT.tab s3.ob
  have obn := ob [t] (Std.cons et Std.nil) (NoTup.cons et (fun _ z => nomatch z) NoTup.nil)
  obtain ⟨dx', fs', eh'⟩ := HObT.obj obn
  have obo : HObT K [t'] H4 h t n bs ns := HObT.less ((s3.ob.excl f2).mono B4.nil) (by simp)
  refine ⟨h, h', dx, dx', fs, fs', rfl, rfl, B4.keep _ _ (by simp) eh, eh', ?_⟩
  refine ⟨h, h', t, n, t', n', bs, bs', ns, ns', rfl, s.T.HI, s.T.CK, obo, obn, s.hd.bnd, hold.bnd, fun b1 m1 b2 m2 e => (sim.eq s.hd.m hold.m m1 m2 e).1, _, rfl, ?_⟩
  rw [ne1 bs' ns' hold]
  refine ⟨_, rfl, ?_⟩
  refine ⟨_, rfl, ?_⟩
  refine iteT ?_
  -- built(other) == told
  have s4 := s3.nil B4
  have hv4 := hv3.mono B4
  refine ⟨_, rfl, 4, 6, 6, kinds, asked, _, .ref Dl, rfl, s.T.HI.hc, s.T.CK, o', by decide, by decide, by decide, hv4, fun h2 t2 n2 bs2 ns2 H5 hold2 g1 g2 g3 ob2 B5 => ?_⟩
  obtain ⟨tk4, et4⟩ := HObT.tab s4.ob
  have obn2 := ob2 [t] (Std.cons et4 Std.nil) (NoTup.cons et4 (fun _ z => nomatch z) NoTup.nil)
  obtain ⟨dx2, fs2, eh2⟩ := HObT.obj obn2
  obtain ⟨dx4, fs4, eh4⟩ := HObT.obj s4.ob
  have obo2 : HObT K [t2] H5 h t n bs ns := HObT.less ((s4.ob.excl g2).mono B5.nil) (by simp)
  refine ⟨_, rfl, h2, h, dx2, dx4, fs2, fs4, rfl, rfl, eh2, B5.keep _ _ (by simp) eh4, ?_⟩
  refine ⟨h2, h, t2, n2, t, n, bs2, bs, ns2, ns, rfl, s.T.HI, s.T.CK, obn2, obo2, hold2.bnd, s.hd.bnd, fun b1 m1 b2 m2 e => (sim.symm.eq hold2.m s.hd.m m1 m2 e).1, _, rfl, ?_⟩
  rw [ne2 bs2 ns2 hold2]
  exact ⟨_, rfl, q _⟩
end K03
end Kb

set_option Elab.async false
set_option linter.all false
set_option maxRecDepth 100000
set_option maxHeartbeats 2000000
/-! K03, 5: what a House refuses. -/
namespace Kb
namespace K03
open PySem PySem.Spec PyProof.Rows L2 L2H

def t_law_f (K : PySem.W.Frag) : TS :=
  (tSeq (tFor (iList K (tLst (tCons (tC .non) (tCons (tC (.int 3)) (tCons (tC (.bl true)) (tCons (tTup (tCons (tC (.str ("a" : Str))) tNil)) (tCons (tLst (tCons (tC (.str ("a" : Str))) tNil)) (tCons (tC (.str ("A" : Str))) (tCons (tC (.str ("abcdefghi" : Str))) (tCons tDNewK tNil)))))))))) (gName 10)
    (tIfS (tNot (tB (tCall (sp_l_refuses K) [] E0 (tCons (tVar 4) (tCons (tVar 10) tNil)))))
    (tRet (tC (.bl false)))
    tNext))
  (t_law_g K))
def odd : List D := [.non, .int 3, .bl true, .tup [.str ("a" : Str)], .lst [.str ("a" : Str)], .str ("A" : Str), .str ("abcdefghi" : Str), .dct []]
theorem Sit.names {K : PySem.W.Frag} {kinds asked : List Str} {hs : List KD} {bs : List KB} {ns : List Str} {a c r h t n : Addr} {H : Hp} (s : Sit K kinds asked hs bs ns a c r h t n H) {x : Str} (m : x ∈ bs.map KB.nm) : x ∈ kinds := by
  rw [← s.o.nm]
  exact s.hd.m.nm.mem_iff.mp m
theorem odd_ok {bs : List KB} (hb : ∀ x ∈ bs.map KB.nm, IsName x) {d : D} (m : d ∈ odd) : d.fine = true ∧ isNED d = false ∧ isKn d bs = false ∧ Like d d ∧ d.dp < 6 := by
  have no : ∀ x : Str, nameB x = false → isKn (.str x) bs = false := fun x z => decide_eq_false fun w => by
    have := nameB_iff.mpr (hb x w)
    rw [z] at this
    cases this
  simp only [odd, List.mem_cons, List.not_mem_nil, or_false] at m
  rcases m with rfl | rfl | rfl | rfl | rfl | rfl | rfl | rfl
  · exact ⟨rfl, rfl, rfl, rfl, by decide⟩
  · exact ⟨rfl, rfl, rfl, rfl, by decide⟩
  · exact ⟨rfl, rfl, rfl, rfl, by decide⟩
  · exact ⟨by decide +kernel, rfl, rfl, ⟨_, rfl, by decide, _, _, rfl, rfl, rfl⟩, by decide⟩
  · exact ⟨by decide +kernel, rfl, rfl, ⟨_, rfl, by decide, _, _, rfl, rfl, rfl⟩, by decide⟩
  · exact ⟨by decide +kernel, by decide +kernel, no _ (by decide +kernel), rfl, by decide⟩
  · exact ⟨by decide +kernel, by decide +kernel, no _ (by decide +kernel), rfl, by decide⟩
  · exact ⟨rfl, rfl, rfl, ⟨_, rfl, List.Perm.refl _, List.nodup_nil, by decide, (fun _ z => by cases z), trivial⟩, by decide⟩
theorem law_f {K : PySem.W.Frag} {kinds asked : List Str} {hs : List KD} {bs : List KB} {ns : List Str} {a c r h t n : Addr} {H : Hp} {Q : VK} {u0 u3 u5 u6 u7 u8 u9 u10 u11 u12 u13 u14 : Option V} (s : Sit K kinds asked hs bs ns a c r h t n H) (q : ∀ H', Q (.bl true) H') :
    t_law_f K (fin Q) [u0, some (.ref a), some (.ref r), u3, some (.ref h), u5, u6, u7, u8, u9, u10, u11, u12, u13, u14] H := by
  refine ⟨by show 1 ≤ sizeLine; decide, fun p1 hp1 => ?_⟩
  have B1 : But [] H (upd H p1 (.tup [.str ("a" : Str)])) := But.new hp1
  have e1 : (upd H p1 (.tup [.str ("a" : Str)])) p1 = some (.tup [.str ("a" : Str)]) := upd_same
  generalize upd H p1 (.tup [.str ("a" : Str)]) = H1 at B1 e1 ⊢
  refine ⟨by show 1 ≤ sizeLine; decide, fun p2 hp2 => ?_⟩
  have B2 : But [] H1 (upd H1 p2 (.lst [.str ("a" : Str)])) := But.new hp2
  have e2 : (upd H1 p2 (.lst [.str ("a" : Str)])) p2 = some (.lst [.str ("a" : Str)]) := upd_same
  generalize upd H1 p2 (.lst [.str ("a" : Str)]) = H2 at B2 e2 ⊢
  intro p3 hp3
  have B3 : But [] H2 (upd H2 p3 (.dK [])) := But.new hp3
  have e3 : (upd H2 p3 (.dK [])) p3 = some (.dK []) := upd_same
  generalize upd H2 p3 (.dK []) = H3 at B3 e3 ⊢
  refine ⟨by show 8 ≤ sizeLine; decide, fun p hp => ?_⟩
  have B4 : But [] H3 (upd H3 p (.lst [.non, .int 3, .bl true, .ref p1, .ref p2, .str ("A" : Str), .str ("abcdefghi" : Str), .ref p3])) := But.new hp
  have e4 : (upd H3 p (.lst [.non, .int 3, .bl true, .ref p1, .ref p2, .str ("A" : Str), .str ("abcdefghi" : Str), .ref p3])) p = some (.lst [.non, .int 3, .bl true, .ref p1, .ref p2, .str ("A" : Str), .str ("abcdefghi" : Str), .ref p3]) := upd_same
  generalize upd H3 p (.lst [.non, .int 3, .bl true, .ref p1, .ref p2, .str ("A" : Str), .str ("abcdefghi" : Str), .ref p3]) = H4 at B4 e4 ⊢
  have B24 := B3.trans B4
  have al : AtL [] H4 odd [.non, .int 3, .bl true, .ref p1, .ref p2, .str ("A" : Str), .str ("abcdefghi" : Str), .ref p3] :=
    ⟨_, _, rfl, rfl, _, _, rfl, rfl, _, _, rfl, rfl, _, _, rfl, ⟨p1, _, rfl, by simp, (B2.trans B24).keep _ _ (by simp) e1, _, _, rfl, rfl, rfl⟩, _, _, rfl, ⟨p2, _, rfl, by simp, B24.keep _ _ (by simp) e2, _, _, rfl, rfl, rfl⟩, _, _, rfl, rfl, _, _, rfl, rfl, _, _, rfl, ⟨p3, _, rfl, by simp, B4.keep _ _ (by simp) e3, rfl⟩, rfl⟩
  have s4 := s.nil ((B1.trans B2).trans B24)
  have hb : ∀ x ∈ bs.map KB.nm, IsName x := fun x m => s.o.ks.nm x (s.names m)
  refine ⟨p, rfl, ⟨_, SqL.of e4⟩, ?_⟩
  refine for_it walk_list (fun i σ' H' => But [] H4 H' ∧ ∃ v10, σ' = [u0, some (.ref a), some (.ref r), u3, some (.ref h), u5, u6, u7, u8, u9, v10, u11, u12, u13, u14]) ⟨But.refl, _, rfl⟩ (fun i σ' H' _ z => SqL.of (z.1.keep _ _ (by simp) e4)) ?_ ?_
  · rintro i x σ' H5 H6 hi ⟨B5, v10, rfl⟩ ⟨rfl, ex⟩
    obtain ⟨d, ed, hd⟩ := al.get ex
    obtain ⟨o1, o2, o3, o4, o5⟩ := odd_ok hb (List.mem_of_getElem? ed)
    have s5 := s4.nil B5
    refine ⟨_, rfl, _, rfl, h, bs, ns, d, x, rfl, s.T.HI.hc, s.T.N1, s.T.N2, HOb.less s5.ob.hob (by simp), s.hd.bnd, hd.mono B5, o1, o2, o3, o4, o5, fun H7 B7 => ⟨_, rfl, ?_⟩⟩
    exact iteF ⟨B5.trans B7, _, rfl⟩
  · rintro σ' H5 ⟨B5, v10, rfl⟩
    exact law_g (s4.nil B5) q
end K03
end Kb

set_option Elab.async false
set_option linter.all false
set_option maxRecDepth 100000
set_option maxHeartbeats 2000000
/-! K03, 6: what a House tells of its kinds. -/
namespace Kb
namespace K03
open PySem PySem.Spec PyProof.Rows L2 L2H

def t_law_e (K : PySem.W.Frag) : TS :=
  (tSeq (tAsg (tLc (iList K (tVar 2)) (gName 13) tYes (tOp (rIxL K) (tVar 13) (tC (.int 0))) [13]) (gName 9))
  (tSeq (tIfS (tOr (tNot (tB (tCall (sp_l_no_kind K) [] E0 (tCons (tVar 4) (tCons (tCall (sp_l_word K) [] E0 (tCons (tVar 1) (tCons (tVar 9) tNil))) tNil))))) (tNot (tB (tCall (sp_l_no_kind K) [] E0 (tCons (tVar 4) (tCons (tC (.str ("" : Str))) tNil))))))
    (tRet (tC (.bl false)))
    tNext)
  (t_law_f K)))
theorem law_e {K : PySem.W.Frag} {kinds asked : List Str} {hs : List KD} {bs : List KB} {ns : List Str} {a c r h t n : Addr} {H : Hp} {Q : VK} {u0 u3 u5 u6 u7 u8 u9 u10 u11 u12 u13 u14 : Option V} (s : Sit K kinds asked hs bs ns a c r h t n H) (q : ∀ H', Q (.bl true) H') :
    t_law_e K (fin Q) [u0, some (.ref a), some (.ref r), u3, some (.ref h), u5, u6, u7, u8, u9, u10, u11, u12, u13, u14] H := by
  obtain ⟨rr, xs, er, nr, hr, ha⟩ := id s.hv
  cases er
  have four := s.hd.four
  dsimp only [t_law_e, tSeq, tAsg]
  refine names_row (fun R q => ⟨_, rfl, q⟩) (by show 13 < 15; decide) hr (ha.less (by simp)) (by omega) fun Dl H1 hD eD B1 => ?_
  have s1 := s.nil B1
  have nD : Dl ∉ [a, c] := s.S.no hD
  refine ⟨_, rfl, _, rfl, _, rfl, a, c, Dl, _, rfl, s1.S, nD, eD, by rw [List.length_map]; omega, fun w H2 hw wn S2 B2 => ?_⟩
  have s2 := s1.draw B2 S2
  have nm : ∀ x, x ∈ bs.map KB.nm ↔ x ∈ hs.map KD.name := fun x => s.hd.m.nm.mem_iff
  refine ⟨h, bs, ns, w, rfl, s.T.HI.hc, s.T.N2, HOb.less s2.ob.hob (by simp), s.hd.bnd, fun m => wn ((nm w).mp m), fun H3 B3 => ⟨_, rfl, ?_⟩⟩
  refine iteF ?_
  have s3 := s2.nil B3
  refine ⟨_, rfl, h, bs, ns, "", rfl, s.T.HI.hc, s.T.N2, HOb.less s3.ob.hob (by simp), s.hd.bnd, fun m => ?_, fun H4 B4 => ⟨_, rfl, ?_⟩⟩
  · exact name_ne (s.o.ks.nm _ (s.names m)) rfl
  · exact iteF (law_f (s3.nil B4) q)
/-- the Kind of a name in a row of Kinds with different names -/
theorem kb_of_name {bs : List KB} (nd : (bs.map KB.nm).Nodup) {b b' : KB} (m : b ∈ bs) (m' : b' ∈ bs) (e : b.nm = b'.nm) : b = b' := by
  have h1 := byName_of nd m
  have h2 := byName_of nd m'
  rw [e, h2] at h1
  exact (Option.some.inj h1).symm
def t_law_d (K : PySem.W.Frag) : TS :=
  (tSeq (tIfS (tTest (tOp (rNeD K) (tLc (iList K (tVar 2)) (gName 13) (tNot (tB (tCall (sp_l_kind_told K) [] E0 (tCons (tOp (rIxK (He.ga K "House") (sp_House_getitem K) E0) (tVar 4) (tOp (rIxL K) (tVar 13) (tC (.int 0)))) (tCons (tVar 13) tNil))))) (tVar 13) [13]) (tLst tNil)))
    (tRet (tC (.bl false)))
    tNext)
  (t_law_e K))
theorem law_d {K : PySem.W.Frag} {kinds asked : List Str} {hs : List KD} {bs : List KB} {ns : List Str} {a c r h t n : Addr} {H : Hp} {Q : VK} {u0 u3 u5 u6 u7 u8 u9 u10 u11 u12 u13 u14 : Option V} (s : Sit K kinds asked hs bs ns a c r h t n H) (q : ∀ H', Q (.bl true) H') :
    t_law_d K (fin Q) [u0, some (.ref a), some (.ref r), u3, some (.ref h), u5, u6, u7, u8, u9, u10, u11, u12, u13, u14] H := by
  obtain ⟨rr, xs, er, nr, hr, ha⟩ := id s.hv
  cases er
  have len : xs.length = hs.length := by rw [ha.length, List.length_map]
  refine ⟨_, rfl, r, rfl, ⟨_, SqL.of hr⟩, fun Dl hD => ?_⟩
  refine lc_it walk_list (fun i H' => H' Dl = some (.lst []) ∧ But [] H H') ⟨upd_same, But.new hD⟩ (fun i H' _ z => SqL.of (z.2.keep _ _ (by simp) hr)) ?_ ?_
  · rintro i x H1 H2 hi ⟨eD, B1⟩ ⟨rfl, ex⟩
    have s1 := s.nil B1
    obtain ⟨d, ed, hd⟩ := ha.get ex
    rw [List.getElem?_map] at ed
    obtain ⟨k, ek, rfl⟩ := Option.map_eq_some_iff.mp ed
    have mk := List.mem_of_getElem? ek
    have hd1 := (hd.less (M' := []) (by simp)).mono B1.nil
    obtain ⟨kd, p1, p2, p3, kv1, kv2, xs3, rfl, _, hk, _⟩ := KD.parts hd1
    obtain ⟨dx, fs, eh⟩ := HObT.obj s1.ob
    have ob1 : HOb K [] H2 h bs ns := HOb.less s1.ob.hob (by simp)
    refine ⟨turn_wipe (σ := [u0, some (.ref a), some (.ref r), u3, some (.ref h), u5, u6, u7, u8, u9, u10, u11, u12, u13, u14]), ?_⟩
    obtain ⟨b, mb, mm⟩ := s.hd.m.got k mk
    refine ⟨_, rfl, _, rfl, kd, _, 0, .str k.name, rfl, rfl, SqL.of hk, rfl, h, dx, fs, rfl, eh, ?_⟩
    refine ⟨h, bs, ns, .str k.name, .str k.name, rfl, s.T.HI.hc, s.T.N2.nn, ob1, s.hd.bnd, rfl, fun b' v mb' ed' f => ?_, fun z => ?_⟩
    · have e2 : b' = b := kb_of_name s.hd.bnd mb' mb (by rw [mm.nm]; injection ed'.symm)
      subst e2
      refine ⟨_, rfl, b', k, v, .ref kd, rfl, s.T.CK.kc, f [] ob1, mm, hd1, fun H3 B3 => ⟨_, rfl, ?_⟩⟩
      exact iteF ⟨B3.keep _ _ (by simp) eD, B1.trans B3⟩
    · exact absurd (show k.name ∈ bs.map KB.nm from by rw [← mm.nm]; exact List.mem_map.mpr ⟨b, mb, rfl⟩) (of_decide_eq_false z)
  · rintro H1 ⟨eD, B1⟩
    refine ⟨sz0, fun q3 hq3 => ?_⟩
    refine neSame (xs := []) (by rw [upd_ne (ne_of_none eD hq3)]; exact eD) upd_same rfl ⟨_, rfl, ?_⟩
    exact iteF (law_e (s.nil (B1.upd' hq3)) q)
end K03
end Kb

set_option Elab.async false
set_option linter.all false
set_option maxRecDepth 100000
set_option maxHeartbeats 2000000
/-! K03, 7: column_of. -/
namespace Kb
namespace K03
open PySem PySem.Spec PyProof.Rows L2 L2H

def t_law_c (K : PySem.W.Frag) : TS :=
  (tSeq (tAsg (tCall (sp_l_names K) [] E0 (tCons (tVar 2) tNil)) (gName 6))
  (tSeq (tFor (iList K (tOp rCat (tOp rCat (tVar 6) (tLc (iRng1 (tCons (tC (.int 3)) tNil)) (gName 14) tYes (tCall (sp_l_word K) [] E0 (tCons (tVar 1) (tCons (tLst tNil) tNil))) [14])) (tLst (tCons (tC (.str ("" : Str))) tNil)))) (gName 7)
    (tSeq (tAsg (tC (.str ("" : Str))) (gName 8))
  (tSeq (tIfS (tTest (tOp (rIn K false) (tVar 7) (tVar 6)))
    (tAsg (tVar 7) (gName 8))
    tNext)
  (tIfS (tNot (tB (tCall (sp_l_like 6 K) [] E0 (tCons (tMeth (He.ga K "House") "column_of" (sp_House_column_of K) [] E0 (tVar 4) (tCons (tVar 7) tNil)) (tCons (tVar 8) tNil)))))
    (tRet (tC (.bl false)))
    tNext))))
  (t_law_d K)))
theorem fine_ne {x : Str} (h : IsNE x) : fineS x = true := by
  refine decide_eq_true ?_
  rcases h with h | h
  · have := h.hi
    rw [← len_cs] at this
    omega
  · rw [h]
    decide
theorem law_c {K : PySem.W.Frag} {kinds asked : List Str} {hs : List KD} {bs : List KB} {ns : List Str} {a c r h t n : Addr} {H : Hp} {Q : VK} {u0 u3 u5 u6 u7 u8 u9 u10 u11 u12 u13 u14 : Option V} (s : Sit K kinds asked hs bs ns a c r h t n H) (q : ∀ H', Q (.bl true) H') :
    t_law_c K (fin Q) [u0, some (.ref a), some (.ref r), u3, some (.ref h), u5, u6, u7, u8, u9, u10, u11, u12, u13, u14] H := by
  refine ⟨_, rfl, hs, .ref r, rfl, s.hv.less (by simp), s.hd.few, fun ns' p H1 nn so mem hp ep B1 => ?_⟩
  obtain rfl : ns' = ns := same_names nn s.hd.nn so s.hd.sn fun y => (mem y).trans (s.hd.mem y).symm
  have s1 := s.nil B1
  have np : p ∉ [a, c] := s.S.no hp
  have six := s.hd.six
  -- three words
  refine ⟨_, rfl, 3, rfl, by decide, by decide, fun Dl hD => ?_⟩
  have nD : Dl ∉ [a, c] := s1.S.no hD
  refine lc_it walk_range (fun i H' => ∃ ws : List Str, H' Dl = some (.lst (ws.map V.str)) ∧ ws.length = i ∧ (∀ w ∈ ws, IsName w) ∧ StAt H' a c ∧ But [a, c] H1 H') ⟨[], upd_same, rfl, (fun _ z => by cases z), s1.S.new hD, But.new hD⟩ (fun _ _ _ _ => trivial) ?_ ?_
  · rintro i v H5 H6 hi ⟨ws, e5, lw, nw, S5, B5⟩ ⟨rfl, rfl⟩
    refine ⟨turn_wipe (σ := [u0, some (.ref a), some (.ref r), u3, some (.ref h), u5, some (.ref p), u7, u8, u9, u10, u11, u12, u13, u14]), ?_⟩
    have hi3 : i < 3 := hi
    refine ⟨_, rfl, sz0, fun q1 hq1 => ?_⟩
    have S6 := S5.new (o := .lst []) hq1
    have nq := S5.no hq1
    refine ⟨a, c, q1, [], rfl, S6, nq, upd_same, by decide, fun w H7 hw _ S7 B7 => ?_⟩
    have e7 := B7.keep _ _ nD (by rw [upd_ne (ne_of_none e5 hq1)]; exact e5)
    refine ⟨_, e7, by rw [List.length_map]; exact small1000 (by omega), ws ++ [w], by rw [upd_same, List.map_append]; rfl, by rw [List.length_append, lw]; rfl, fun x hx => ?_, S7.upd nD, ((B5.upd' hq1).trans B7).upd (.inr hD)⟩
    rcases List.mem_append.mp hx with hx | hx
    · exact nw x hx
    · rw [List.mem_singleton.mp hx]
      exact hw
  · rintro H5 ⟨ws, e5, lw, nw, S5, B5⟩
    have lw3 : ws.length = 3 := lw
    have s5 := s1.draw B5 S5
    have ep5 := B5.keep _ _ np ep
    refine ⟨p, Dl, _, _, rfl, rfl, ep5, e5, by rw [List.length_map, List.length_map, sizeLine_eq]; omega, fun q1 hq1 => ?_⟩
    have B6 : But [] H5 (upd H5 q1 (.lst (ns'.map V.str ++ ws.map V.str))) := But.new hq1
    have e6 : (upd H5 q1 (.lst (ns'.map V.str ++ ws.map V.str))) q1 = some (.lst (ns'.map V.str ++ ws.map V.str)) := upd_same
    generalize upd H5 q1 (.lst (ns'.map V.str ++ ws.map V.str)) = H6 at B6 e6 ⊢
    refine ⟨by show 1 ≤ sizeLine; decide, fun q2 hq2 => ?_⟩
    have B7 : But [] H6 (upd H6 q2 (.lst [.str ("" : Str)])) := But.new hq2
    have e7 : (upd H6 q2 (.lst [.str ("" : Str)])) q2 = some (.lst [.str ("" : Str)]) := upd_same
    generalize upd H6 q2 (.lst [.str ("" : Str)]) = H7 at B7 e7 ⊢
    refine ⟨q1, q2, _, _, rfl, rfl, B7.keep _ _ (by simp) e6, e7, by rw [List.length_append, List.length_map, List.length_map, sizeLine_eq]; show _ + 1 ≤ _; omega, fun q3 hq3 => ?_⟩
    have B8 : But [] H7 (upd H7 q3 (.lst (ns'.map V.str ++ ws.map V.str ++ [.str ("" : Str)]))) := But.new hq3
    have e8 : (upd H7 q3 (.lst (ns'.map V.str ++ ws.map V.str ++ [.str ("" : Str)]))) q3 = some (.lst ((ns' ++ ws ++ [("" : Str)]).map V.str)) := by rw [upd_same, List.map_append, List.map_append]; rfl
    generalize upd H7 q3 (.lst (ns'.map V.str ++ ws.map V.str ++ [.str ("" : Str)])) = H8 at B8 e8 ⊢
    have B58 := (B6.trans B7).trans B8
    have s8 := s5.nil B58
    have ep8 := B58.keep _ _ (by simp) ep5
    have ne : ∀ z ∈ ns' ++ ws ++ [("" : Str)], IsNE z := fun z mz => by
      rcases List.mem_append.mp mz with mz | mz
      · rcases List.mem_append.mp mz with mz | mz
        · obtain ⟨k, mk, hk⟩ := List.mem_flatMap.mp ((s.hd.mem z).mp mz)
          exact .inl (s.o.as.nm z ((s.o.inh (by decide) mk).named hk))
        · exact .inl (nw z mz)
      · exact .inr (List.mem_singleton.mp mz)
    refine ⟨q3, rfl, ⟨_, SqL.of e8⟩, ?_⟩
    refine for_it walk_list (fun i σ' H' => But [] H8 H' ∧ ∃ v7 v8, σ' = [u0, some (.ref a), some (.ref r), u3, some (.ref h), u5, some (.ref p), v7, v8, u9, u10, u11, u12, u13, u14]) ⟨But.refl, _, _, rfl⟩ (fun i σ' H' _ z => SqL.of (z.1.keep _ _ (by simp) e8)) ?_ ?_
    · rintro i x σ' H9 H10 hi ⟨B9, v7, v8, rfl⟩ ⟨rfl, ex⟩
      rw [List.getElem?_map] at ex
      obtain ⟨z, ez, rfl⟩ := Option.map_eq_some_iff.mp ex
      have nez := ne z (List.mem_of_getElem? ez)
      have s9 := s8.nil B9
      obtain ⟨dx, fs, eh, lo⟩ := HOb.ins s9.ob.hob
      refine ⟨_, rfl, _, rfl, p, _, rfl, .inl (SqL.of (B9.keep _ _ (by simp) ep8)), rfl, by simp [flatV], _, rfl, ?_⟩
      have told : ∀ (v8 : V) (J : VK) (y : Str), y = (if z ∈ ns' then z else "") → v8 = .str y → (∀ H', But [] H10 H' → J (.bl true) H') → tCall (sp_l_like 6 K) [] E0 (tCons (tMeth (He.ga K "House") "column_of" (sp_House_column_of K) [] E0 (tVar 4) (tCons (tVar 7) tNil)) (tCons (tVar 8) tNil))
          [u0, some (.ref a), some (.ref r), u3, some (.ref h), u5, some (.ref p), some (.str z), some v8, u9, u10, u11, u12, u13, u14] H10 J := fun v8 J y ey e8 k => by
        refine ⟨_, rfl, h, dx, fs, rfl, eh, lo, _, rfl, h, bs, ns', .str z, .str z, rfl, s.T.HI.hc, s.T.N1.nn, HOb.less s9.ob.hob (by simp), rfl, fine_ne nez, fun _ m H11 em B11 => ?_, fun no => ?_⟩
        · cases em
          rw [e8]
          exact ⟨_, rfl, .str y, .str y, _, _, rfl, by rw [ey]; exact rfl, rfl, rfl, (by show 0 < 6; decide), fun H12 B12 => k H12 (B11.trans B12)⟩
        · have : neB z = true := neB_iff.mpr nez
          rw [show isNED (.str z) = neB z from rfl, this] at no
          cases no
      have go : ∀ v8 : V, (∃ y, y = (if z ∈ ns' then z else "") ∧ v8 = .str y) → tIfS (tNot (tB (tCall (sp_l_like 6 K) [] E0 (tCons (tMeth (He.ga K "House") "column_of" (sp_House_column_of K) [] E0 (tVar 4) (tCons (tVar 7) tNil)) (tCons (tVar 8) tNil))))) (tRet (tC (.bl false))) tNext
          { fin Q with nx := fun σ' H' => But [] H8 H' ∧ ∃ v7 v8, σ' = [u0, some (.ref a), some (.ref r), u3, some (.ref h), u5, some (.ref p), v7, v8, u9, u10, u11, u12, u13, u14], ct := fun σ' H' => But [] H8 H' ∧ ∃ v7 v8, σ' = [u0, some (.ref a), some (.ref r), u3, some (.ref h), u5, some (.ref p), v7, v8, u9, u10, u11, u12, u13, u14], bk := fun σ' H' => t_law_d K (fin Q) σ' H' }
          [u0, some (.ref a), some (.ref r), u3, some (.ref h), u5, some (.ref p), some (.str z), some v8, u9, u10, u11, u12, u13, u14] H10 := fun v8 ⟨y, ey, ev⟩ => by
        refine told v8 _ y ey ev fun H' B' => ⟨_, rfl, ?_⟩
        exact iteF ⟨B9.trans B', _, _, rfl⟩
      show (if (if false = true then !inV (V.str z) (ns'.map V.str) else inV (V.str z) (ns'.map V.str)) = true then _ else _)
      rw [if_neg Bool.false_ne_true, inV_strs]
      by_cases m : z ∈ ns'
      · rw [if_pos (decide_eq_true m)]
        exact ⟨_, rfl, go _ ⟨z, by rw [if_pos m], rfl⟩⟩
      · rw [if_neg (fun e => m (of_decide_eq_true e))]
        exact go _ ⟨"", by rw [if_neg m], rfl⟩
    · rintro σ' H9 ⟨B9, v7, v8, rfl⟩
      exact law_d (s8.nil B9) q
end K03
end Kb

set_option Elab.async false
set_option linter.all false
set_option maxRecDepth 100000
set_option maxHeartbeats 2000000
/-! K03, 8: law. -/
namespace Kb
namespace K03
open PySem PySem.Spec PyProof.Rows L2 L2H

theorem house_madeR {K : PySem.W.Frag} {H : Hp} {p x dx : Addr} {xs : List V} {hs : List KD} {bs : List KB} {kn an rn : Nat} {kinds asked : List Str} {P : KB → V → Prop} {R : Hp → Prop} (C : HouseC K) (CK : KindI K) (o : HsOk kn 2 an rn kinds asked hs) (k4 : kn ≤ 4) (a6 : an ≤ 6) (r40 : rn ≤ 40)
    (sq : SqV K H p xs) (rp : RowP P bs xs) (ka : ∀ b v, P b v → KAt K [] H b v) (m : MadeS hs bs) (hx : H x = none) (hdx : H dx = none) (ne : dx ≠ x)
    (k : ∀ bs' ns t n H', bs'.Perm bs → MadeS hs bs' → sortedS (bs'.map KB.nm) = true → ns.Nodup → sortedS ns = true → (∀ y, y ∈ ns ↔ y ∈ hsNamed hs) → H t = none → H n = none →
      (∀ M, Std M H → (∀ b v, P b v → KAt K M H b v) → HObT K M H' x t n bs' ns) → But [] H H' → R H') :
    sp_House_init K [.ref x, .ref p] (upd (upd H dx (.own x)) x (.ins (HC K) dx [])) (fun v H2 => v = .non ∧ R H2) E0 := house_made (Q := fun _ H => R H) C CK o k4 a6 r40 sq rp ka m hx hdx ne k
def t_law_b (K : PySem.W.Frag) : TS :=
  (tSeq (tDrop (tClr 3))
  (tSeq (tIfS (tOr (tNot (tB (tCall (sp_l_tells K) [] E0 (tCons (tVar 4) (tCons (tVar 2) tNil))))) (tOr (tNot (tB (tCall (sp_l_tells K) [] E0 (tCons (tVar 4) (tCons (tVar 2) tNil))))) (tNot (tTest (tOp (rEqK (He.ga K "House") (sp_House_eq K) E0) (tVar 4) (tVar 5))))))
    (tRet (tC (.bl false)))
    tNext)
  (t_law_c K)))
theorem law_b {K : PySem.W.Frag} {kinds asked : List Str} {hs : List KD} {bs bs2 : List KB} {ns ns2 : List Str} {a c r h t n h2 t2 n2 l : Addr} {ys : List V} {H : Hp} {Q : VK} {u0 u6 u7 u8 u9 u10 u11 u12 u13 u14 : Option V} (T : Top K) (o : HsOk 4 2 6 6 kinds asked hs) (hd : Holds hs bs ns) (hd2 : Holds hs bs2 ns2) (S : StAt H a c)
    (nl : l ∉ [a, c]) (el : H l = some (.lst ys)) (hv : At [l, a, c] H (.lst (hs.map KD.d)) (.ref r)) (ob : HObT K [t2, l, a, c] H h t n bs ns) (ob2 : HObT K [t, l, a, c] H h2 t2 n2 bs2 ns2) (q : ∀ H', Q (.bl true) H') :
    t_law_b K (fin Q) [u0, some (.ref a), some (.ref r), some (.ref l), some (.ref h), some (.ref h2), u6, u7, u8, u9, u10, u11, u12, u13, u14] H := by
  refine ⟨l, rfl, .inr ⟨ys, el, ?_⟩⟩
  have B1 : But [l] H (upd H l (.lst [])) := But.refl.upd (.inl (by simp))
  generalize upd H l (.lst []) = H1 at B1 ⊢
  have S1 : StAt H1 a c := S.mono (M := [l]) (fun m => nl (by rw [List.mem_singleton.mp m]; simp)) (fun m => nl (by rw [List.mem_singleton.mp m]; simp)) B1
  have hv1 := (hv.mono (B1.more (M' := [l, a, c]) (by simp))).less (M' := [a, c]) (by simp)
  have ob1 := ob.mono (B1.more (M' := [t2, l, a, c]) (by simp))
  have ob21 := ob2.mono (B1.more (M' := [t, l, a, c]) (by simp))
  have s1 : Sit K kinds asked hs bs ns a c r h t n H1 := ⟨T, o, hd, S1, hv1, HObT.less ob1 (by simp)⟩
  refine ⟨_, rfl, _, rfl, h, bs, ns, hs, .ref r, rfl, T.HI.hc, HOb.less s1.ob.hob (by simp), hd, s1.hv.less (by simp), fun H2 B2 => ⟨_, rfl, ?_⟩⟩
  refine iteF ?_
  have s2 := s1.nil B2
  refine ⟨_, rfl, _, rfl, h, bs, ns, hs, .ref r, rfl, T.HI.hc, HOb.less s2.ob.hob (by simp), hd, s2.hv.less (by simp), fun H3 B3 => ⟨_, rfl, ?_⟩⟩
  refine iteF ?_
  have s3 := s2.nil B3
  have B23 := B2.trans B3
  have obA : HObT K [t2] H3 h t n bs ns := HObT.less (ob1.mono B23.nil) (by simp)
  have obB : HObT K [t] H3 h2 t2 n2 bs2 ns2 := HObT.less (ob21.mono B23.nil) (by simp)
  obtain ⟨dx, fs, eh⟩ := HObT.obj obA
  obtain ⟨dx2, fs2, eh2⟩ := HObT.obj obB
  refine ⟨_, rfl, _, rfl, h, h2, dx, dx2, fs, fs2, rfl, rfl, eh, eh2, ?_⟩
  refine ⟨h, h2, t, n, t2, n2, bs, bs2, ns, ns2, rfl, T.HI, T.CK, obA, obB, hd.bnd, hd2.bnd, fun b1 m1 b2 m2 e => ((Sim.refl hd.nd).eq hd.m hd2.m m1 m2 e).1, _, rfl, _, rfl, ?_⟩
  rw [houses_eq hd hd2]
  exact iteF (law_c s3 q)
def sp_law (K : PySem.W.Frag) : Sp := fun vs H Q _ => ∃ (s : Addr) (ns : List Int), vs = [.ref s] ∧ SqL K H s (ns.map V.int) ∧ Top K ∧ ∀ H', Q (.bl true) H'
theorem len_law {K : PySem.W.Frag} {vs : List V} {H : Hp} {Q : VK} {E : XK} (h : sp_law K vs H Q E) : vs.length = 1 := by
  obtain ⟨_, _, rfl, _⟩ := h
  rfl
def t_law (K : PySem.W.Frag) : TS :=
  (tSeq (tAsg (tCall (sp_l_state K) [] E0 (tCons (tVar 0) tNil)) (gName 1))
  (tSeq (tAsg (tCall (sp_l_house K) [] E0 (tCons (tVar 1) (tCons (tC (.int 4)) (tCons (tC (.int 2)) (tCons (tC (.int 6)) (tCons (tC (.int 6)) tNil)))))) (gName 2))
  (tSeq (tAsg (tCall (sp_l_shuffled K) [] E0 (tCons (tVar 1) (tCons (tLc (iList K (tVar 2)) (gName 13) tYes (tCall (sp_l_kind K) [] E0 (tCons (tVar 13) tNil)) [13]) tNil))) (gName 3))
  (tSeq (tAsg (tMake (He.ga K "House") (sp_House_init K) [] E0 (tCons (tVar 3) tNil)) (gName 4))
  (tSeq (tAsg (tMake (He.ga K "House") (sp_House_init K) [] E0 (tCons (tCB (rTupOf K) (tCons (tLc (iList K (tVar 2)) (gName 13) tYes (tCall (sp_l_kind K) [] E0 (tCons (tVar 13) tNil)) [13]) tNil)) tNil)) (gName 5))
  (t_law_b K))))))
theorem pure_law {K : PySem.W.Frag} (vs : List V) (H : Hp) (Q : VK) (E : XK) (h : sp_law K vs H Q E) : t_law K (fin Q) (st0 15 vs) H := by
  obtain ⟨s, is, rfl, hs0, T, q⟩ := h
  refine ⟨_, rfl, s, is, rfl, hs0, fun a c H1 ha hc S1 B1 => ?_⟩
  refine ⟨_, rfl, a, c, 4, 2, 6, 6, rfl, S1, by decide, by decide, by decide, by decide, by decide, by decide, fun kinds asked hs v H2 o nw S2 B2 => ?_⟩
  obtain ⟨r, xs, rfl, nr, hr, al⟩ := nw [a, c] S1.std
  have hl4 : hs.length ≤ 4 := by rw [o.len]; exact o.ks.len
  have good : ∀ k ∈ hs, KdGood k := fun k m => (o.inh (by decide) m).good
  refine ⟨_, rfl, ?_⟩
  dsimp only [tCons]
  refine kinds_row (M := []) T.CK.kc (fun R q => ⟨_, rfl, q⟩) (by show 13 < 15; decide) hr (al.less (by simp)) (by omega) good fun Dl bs0 ys0 H3 hD eD ml rp B3 => ?_
  have S3 := S2.nil B3
  refine ⟨a, c, Dl, ys0, rfl, S3, S2.no hD, eD, by rw [← rp.len, ml.len]; omega, fun ys l H4 pm hl el S4 B4 => ?_⟩
  obtain ⟨bs1, pb, rp1⟩ := RowP.perm pm rp
  have hv4 : At [l, a, c] H4 (.lst (hs.map KD.d)) (.ref r) := (At.excl hl ((show At [a, c] H2 (.lst (hs.map KD.d)) (.ref r) from ⟨r, xs, rfl, nr, hr, al⟩).mono B3.nil)).mono (B4.more (by simp))
  have nlac : l ∉ [a, c] := S3.no hl
  -- the Kinds as they stand now
  have kat : ∀ b v, NewKs K H2 H3 b v → ∀ M, (∀ x ∈ [a, c], x ∈ M) → Std M H2 → NoTup M H2 → KAt K (l :: M) H4 b v := fun b v p M sub st nt => ((p M st nt).excl hl).mono (B4.more fun x m => List.mem_cons_of_mem _ (sub x m))
  have std2 : Std [a, c] H2 := S2.std
  have nt2 : NoTup [a, c] H2 := S2.notup
  refine ⟨_, rfl, fun x1 dx1 hx1 hdx1 ne1 => ?_⟩
  refine house_madeR T.HI.hc T.CK o (by decide) (by decide) (by decide) (.inl (SqL.of el)) rp1 (fun b v p => (kat b v p [a, c] (fun _ m => m) std2 nt2).less (by simp)) (ml.s.perm pb) hx1 hdx1 ne1 fun bs n1 t1 m1 H5 pm1 ms1 so1 nn1 sn1 mem1 e1 e2 ob1 B5 => ?_
  have hd1 : Holds hs bs n1 := Holds.of o (by decide) (by decide) (by decide) ms1 so1 nn1 sn1 mem1
  have obl : HObT K [l, a, c] H5 x1 t1 m1 bs n1 := ob1 [l, a, c] (Std.cons el S4.std) fun b v p => kat b v p [a, c] (fun _ m => m) std2 nt2
  have el5 := B5.keep _ _ (by simp) el
  have hv5 := hv4.mono B5.nil
  have S5 := S4.nil B5
  obtain ⟨tk, et⟩ := HObT.tab obl
  -- the twin
  obtain ⟨r', xs5, er, nr5, hr5, al5⟩ := id hv5
  cases er
  dsimp only [gName, tSeq, tAsg, tMake, tCons, tCB]
  refine kinds_row (M := []) T.CK.kc (fun R q => ⟨_, rfl, q⟩) (by show 13 < 15; decide) hr5 (al5.less (by simp)) (by omega) good fun Dl2 bs2 ys2 H6 hD2 eD2 ml2 rp2 B6 => ?_
  refine ⟨Dl2, ys2, rfl, .inl ⟨SqL.of eD2, fun q2 hq2 => ?_⟩⟩
  have B7 : But [] H6 (upd H6 q2 (.tup ys2)) := But.new hq2
  have e7 : (upd H6 q2 (.tup ys2)) q2 = some (.tup ys2) := upd_same
  generalize upd H6 q2 (.tup ys2) = H7 at B7 e7 ⊢
  have B57 := B6.trans B7
  have rp7 : RowP (NewKs K H5 H7) bs2 ys2 := rp2.imp fun b v p => p.mono B7
  intro x2 dx2 hx2 hdx2 ne2
  refine house_madeR T.HI.hc T.CK o (by decide) (by decide) (by decide) (.inr (SqT.of e7)) rp7 (fun b v p => p.kat) ml2.s hx2 hdx2 ne2 fun bs' n2 t2 m2 H8 pm2 ms2 so2 nn2 sn2 mem2 f1 f2 ob2 B8 => ?_
  have hd2 : Holds hs bs' n2 := Holds.of o (by decide) (by decide) (by decide) ms2 so2 nn2 sn2 mem2
  have B58 := B57.trans B8
  have obT : HObT K [t2, l, a, c] H8 x1 t1 m1 bs n1 := ((obl.mono B57.nil).excl f1).mono B8.nil
  have std5 : Std [t1, l, a, c] H5 := Std.cons et (Std.cons el5 S5.std)
  have nt5 : NoTup [t1, l, a, c] H5 := NoTup.cons et (fun _ z => nomatch z) (NoTup.cons el5 (fun _ z => nomatch z) S5.notup)
  have obW : HObT K [t1, l, a, c] H8 x2 t2 m2 bs' n2 := ob2 _ (std5.but B57) fun b v p => p _ std5 nt5
  exact law_b T o hd1 hd2 (S5.nil B58) nlac (B58.keep _ _ (by simp) el5) (hv5.mono B58.nil) obT obW q
end K03
end Kb

set_option Elab.async false
set_option linter.all false
set_option maxRecDepth 100000
/-! Kb, 70: small words for derivations. -/
namespace Kb
open PySem PySem.Spec PyProof.Rows L2 L2H
abbrev Binds := @L2.Binds
theorem huH {k : Nat} {A : Around} (r : RoomH k A) : A.units + 64 < cLine := by have := r.un; omega
theorem huH1 {k : Nat} {A : Around} (r : RoomH k A) : A.units + 1 < cLine := by have := r.un; omega
end Kb

set_option Elab.async false
set_option linter.all false
set_option maxRecDepth 100000
set_option maxHeartbeats 1000000
namespace Kb
namespace K03
open PySem PySem.Spec PyProof.Rows L2 L2H
def topS (i : Nat) : Stmt := PySem.Challenge.pw_onwardasks_k03_house_told.main.body.getD i (.Pass ⟨0, 0, 0, 0⟩)
abbrev FnP (K : PySem.W.Frag) (x qual : Str) (st : Stmt) (f : Addr) (fd : FuncData) : Prop := FunD K x qual (defArgs st) (defBody st) (defScope st) [] [] f fd
abbrev s_Kind_eq : Stmt := inClass (topS 30) 9
abbrev N_Kind_eq : List Str := ["self", "other"]
theorem sc_Kind_eq : FnScope N_Kind_eq ["self", "other"] (defScope s_Kind_eq) := ⟨rfl, rfl, rfl, by decide +kernel, rfl, by decide +kernel, by decide +kernel⟩
abbrev s_House_eq : Stmt := inClass (topS 37) 8
abbrev N_House_eq : List Str := ["self", "other"]
theorem sc_House_eq : FnScope N_House_eq ["self", "other"] (defScope s_House_eq) := ⟨rfl, rfl, rfl, by decide +kernel, rfl, by decide +kernel, by decide +kernel⟩
abbrev s_Kind_rules : Stmt := inClass (topS 30) 5
abbrev N_Kind_rules : List Str := ["self"]
theorem sc_Kind_rules : FnScope N_Kind_rules ["self"] (defScope s_Kind_rules) := ⟨rfl, rfl, rfl, by decide +kernel, rfl, by decide +kernel, by decide +kernel⟩
abbrev s_Kind_own : Stmt := inClass (topS 30) 4
abbrev N_Kind_own : List Str := ["self"]
theorem sc_Kind_own : FnScope N_Kind_own ["self"] (defScope s_Kind_own) := ⟨rfl, rfl, rfl, by decide +kernel, rfl, by decide +kernel, by decide +kernel⟩
abbrev s_named_by : Stmt := topS 36
abbrev N_named_by : List Str := ["kind", "names", "rule"]
theorem sc_named_by : FnScope N_named_by ["kind"] (defScope s_named_by) := ⟨rfl, rfl, rfl, by decide +kernel, rfl, by decide +kernel, by decide +kernel⟩
abbrev s_Kind_links : Stmt := inClass (topS 30) 3
abbrev N_Kind_links : List Str := ["self"]
theorem sc_Kind_links : FnScope N_Kind_links ["self"] (defScope s_Kind_links) := ⟨rfl, rfl, rfl, by decide +kernel, rfl, by decide +kernel, by decide +kernel⟩
abbrev s_leads_only_to : Stmt := topS 35
abbrev N_leads_only_to : List Str := ["kind", "names", "choices", "choice"]
theorem sc_leads_only_to : FnScope N_leads_only_to ["kind", "names"] (defScope s_leads_only_to) := ⟨rfl, rfl, rfl, by decide +kernel, rfl, by decide +kernel, by decide +kernel⟩
abbrev s_Kind_name : Stmt := inClass (topS 30) 1
abbrev N_Kind_name : List Str := ["self"]
theorem sc_Kind_name : FnScope N_Kind_name ["self"] (defScope s_Kind_name) := ⟨rfl, rfl, rfl, by decide +kernel, rfl, by decide +kernel, by decide +kernel⟩
abbrev s_is_list : Stmt := topS 13
abbrev N_is_list : List Str := ["x"]
theorem sc_is_list : FnScope N_is_list ["x"] (defScope s_is_list) := ⟨rfl, rfl, rfl, by decide +kernel, rfl, by decide +kernel, by decide +kernel⟩
abbrev s_kinds_by_name : Stmt := topS 34
abbrev N_kinds_by_name : List Str := ["kinds", "table", "index", "kind", "name"]
theorem sc_kinds_by_name : FnScope N_kinds_by_name ["kinds"] (defScope s_kinds_by_name) := ⟨rfl, rfl, rfl, by decide +kernel, rfl, by decide +kernel, by decide +kernel⟩
abbrev s_House_init : Stmt := inClass (topS 37) 0
abbrev N_House_init : List Str := ["self", "kinds", "index", "kind", "named"]
theorem sc_House_init : FnScope N_House_init ["self", "kinds"] (defScope s_House_init) := ⟨rfl, rfl, rfl, by decide +kernel, rfl, by decide +kernel, by decide +kernel⟩
abbrev s_is_flag : Stmt := topS 12
abbrev N_is_flag : List Str := ["x"]
theorem sc_is_flag : FnScope N_is_flag ["x"] (defScope s_is_flag) := ⟨rfl, rfl, rfl, by decide +kernel, rfl, by decide +kernel, by decide +kernel⟩
abbrev s_is_link : Stmt := topS 22
abbrev N_is_link : List Str := ["link", "links"]
theorem sc_is_link : FnScope N_is_link ["link", "links"] (defScope s_is_link) := ⟨rfl, rfl, rfl, by decide +kernel, rfl, by decide +kernel, by decide +kernel⟩
abbrev s_is_name : Stmt := topS 10
abbrev N_is_name : List Str := ["x", "letter"]
theorem sc_is_name : FnScope N_is_name ["x"] (defScope s_is_name) := ⟨rfl, rfl, rfl, by decide +kernel, rfl, by decide +kernel, by decide +kernel⟩
abbrev s_is_name_or_empty : Stmt := topS 11
abbrev N_is_name_or_empty : List Str := ["x"]
theorem sc_is_name_or_empty : FnScope N_is_name_or_empty ["x"] (defScope s_is_name_or_empty) := ⟨rfl, rfl, rfl, by decide +kernel, rfl, by decide +kernel, by decide +kernel⟩
abbrev s_is_manner : Stmt := topS 23
abbrev N_is_manner : List Str := ["manner"]
theorem sc_is_manner : FnScope N_is_manner ["manner"] (defScope s_is_manner) := ⟨rfl, rfl, rfl, by decide +kernel, rfl, by decide +kernel, by decide +kernel⟩
abbrev s_is_send : Stmt := topS 25
abbrev N_is_send : List Str := ["rest", "links", "link", "under", "manner", "wraps"]
theorem sc_is_send : FnScope N_is_send ["rest", "links"] (defScope s_is_send) := ⟨rfl, rfl, rfl, by decide +kernel, rfl, by decide +kernel, by decide +kernel⟩
abbrev s_is_name_list : Stmt := topS 21
abbrev N_is_name_list : List Str := ["names", "name"]
theorem sc_is_name_list : FnScope N_is_name_list ["names"] (defScope s_is_name_list) := ⟨rfl, rfl, rfl, by decide +kernel, rfl, by decide +kernel, by decide +kernel⟩
abbrev s_is_rule : Stmt := topS 26
abbrev N_is_rule : List Str := ["rule", "links", "form", "rest"]
theorem sc_is_rule : FnScope N_is_rule ["rule", "links"] (defScope s_is_rule) := ⟨rfl, rfl, rfl, by decide +kernel, rfl, by decide +kernel, by decide +kernel⟩
abbrev s_copied_rules : Stmt := topS 29
abbrev N_copied_rules : List Str := ["rules", "links", "rule"]
theorem sc_copied_rules : FnScope N_copied_rules ["rules", "links"] (defScope s_copied_rules) := ⟨rfl, rfl, rfl, by decide +kernel, rfl, by decide +kernel, by decide +kernel⟩
abbrev s_is_own_answer : Stmt := topS 24
abbrev N_is_own_answer : List Str := ["answer", "links", "form"]
theorem sc_is_own_answer : FnScope N_is_own_answer ["answer", "links"] (defScope s_is_own_answer) := ⟨rfl, rfl, rfl, by decide +kernel, rfl, by decide +kernel, by decide +kernel⟩
abbrev s_copied_own : Stmt := topS 28
abbrev N_copied_own : List Str := ["own", "links", "name", "answer"]
theorem sc_copied_own : FnScope N_copied_own ["own", "links"] (defScope s_copied_own) := ⟨rfl, rfl, rfl, by decide +kernel, rfl, by decide +kernel, by decide +kernel⟩
abbrev s_is_choice_list : Stmt := topS 20
abbrev N_is_choice_list : List Str := ["choices", "choice"]
theorem sc_is_choice_list : FnScope N_is_choice_list ["choices"] (defScope s_is_choice_list) := ⟨rfl, rfl, rfl, by decide +kernel, rfl, by decide +kernel, by decide +kernel⟩
abbrev s_copied_links : Stmt := topS 27
abbrev N_copied_links : List Str := ["links", "link", "choices"]
theorem sc_copied_links : FnScope N_copied_links ["links"] (defScope s_copied_links) := ⟨rfl, rfl, rfl, by decide +kernel, rfl, by decide +kernel, by decide +kernel⟩
abbrev s_Kind_init : Stmt := inClass (topS 30) 0
abbrev N_Kind_init : List Str := ["self", "name", "links", "own", "rules", "hidden"]
theorem sc_Kind_init : FnScope N_Kind_init ["self", "name", "links", "own", "rules", "hidden"] (defScope s_Kind_init) := ⟨rfl, rfl, rfl, by decide +kernel, rfl, by decide +kernel, by decide +kernel⟩
abbrev s_l_kind : Stmt := topS 52
abbrev N_l_kind : List Str := ["_law_kind_here"]
theorem sc_l_kind : FnScope N_l_kind ["_law_kind_here"] (defScope s_l_kind) := ⟨rfl, rfl, rfl, by decide +kernel, rfl, by decide +kernel, by decide +kernel⟩
abbrev s_l_built : Stmt := topS 53
abbrev N_l_built : List Str := ["_law_house_here", "_law_kind_here"]
theorem sc_l_built : FnScope N_l_built ["_law_house_here"] (defScope s_l_built) := ⟨rfl, rfl, rfl, by decide +kernel, rfl, by decide +kernel, by decide +kernel⟩
abbrev s_l_draw : Stmt := topS 40
abbrev N_l_draw : List Str := ["_law_state_here", "_law_many", "_law_cells", "_law_place", "_law_number", "_law_mixed"]
theorem sc_l_draw : FnScope N_l_draw ["_law_state_here", "_law_many"] (defScope s_l_draw) := ⟨rfl, rfl, rfl, by decide +kernel, rfl, by decide +kernel, by decide +kernel⟩
abbrev s_NoKind_init : Stmt := inClass (topS 5) 0
abbrev N_NoKind_init : List Str := ["self", "kind"]
theorem sc_NoKind_init : FnScope N_NoKind_init ["self", "kind"] (defScope s_NoKind_init) := ⟨rfl, rfl, rfl, by decide +kernel, rfl, by decide +kernel, by decide +kernel⟩
abbrev s_House_getitem : Stmt := inClass (topS 37) 6
abbrev N_House_getitem : List Str := ["self", "name"]
theorem sc_House_getitem : FnScope N_House_getitem ["self", "name"] (defScope s_House_getitem) := ⟨rfl, rfl, rfl, by decide +kernel, rfl, by decide +kernel, by decide +kernel⟩
abbrev s_NoName_init : Stmt := inClass (topS 6) 0
abbrev N_NoName_init : List Str := ["self", "name"]
theorem sc_NoName_init : FnScope N_NoName_init ["self", "name"] (defScope s_NoName_init) := ⟨rfl, rfl, rfl, by decide +kernel, rfl, by decide +kernel, by decide +kernel⟩
abbrev s_House_column_of : Stmt := inClass (topS 37) 3
abbrev N_House_column_of : List Str := ["self", "name"]
theorem sc_House_column_of : FnScope N_House_column_of ["self", "name"] (defScope s_House_column_of) := ⟨rfl, rfl, rfl, by decide +kernel, rfl, by decide +kernel, by decide +kernel⟩
abbrev s_l_like : Stmt := topS 55
abbrev N_l_like : List Str := ["_law_told", "_law_due", "_law_k"]
theorem sc_l_like : FnScope N_l_like ["_law_told", "_law_due"] (defScope s_l_like) := ⟨rfl, rfl, rfl, by decide +kernel, rfl, by decide +kernel, by decide +kernel⟩
abbrev s_l_refuses : Stmt := topS 58
abbrev N_l_refuses : List Str := ["_law_told", "_law_value_here", "_law_good", "e"]
theorem sc_l_refuses : FnScope N_l_refuses ["_law_told", "_law_value_here"] (defScope s_l_refuses) := ⟨rfl, rfl, rfl, by decide +kernel, rfl, by decide +kernel, by decide +kernel⟩
abbrev s_l_no_kind : Stmt := topS 59
abbrev N_l_no_kind : List Str := ["_law_told", "_law_name", "e"]
theorem sc_l_no_kind : FnScope N_l_no_kind ["_law_told", "_law_name"] (defScope s_l_no_kind) := ⟨rfl, rfl, rfl, by decide +kernel, rfl, by decide +kernel, by decide +kernel⟩
abbrev s_l_word : Stmt := topS 42
abbrev N_l_word : List Str := ["_law_state_here", "_law_taken", "_law_letters", "_law_size", "_law_word_here", "_law_k", "_law_other"]
theorem sc_l_word : FnScope N_l_word ["_law_state_here", "_law_taken"] (defScope s_l_word) := ⟨rfl, rfl, rfl, by decide +kernel, rfl, by decide +kernel, by decide +kernel⟩
abbrev s_l_kind_told : Stmt := topS 57
abbrev N_l_kind_told : List Str := ["_law_told", "_law_kind_here"]
theorem sc_l_kind_told : FnScope N_l_kind_told ["_law_told", "_law_kind_here"] (defScope s_l_kind_told) := ⟨rfl, rfl, rfl, by decide +kernel, rfl, by decide +kernel, by decide +kernel⟩
abbrev s_l_names : Stmt := topS 54
abbrev N_l_names : List Str := ["_law_house_here", "_law_names_here", "_law_kind_here", "_law_rule_here"]
theorem sc_l_names : FnScope N_l_names ["_law_house_here"] (defScope s_l_names) := ⟨rfl, rfl, rfl, by decide +kernel, rfl, by decide +kernel, by decide +kernel⟩
abbrev s_House_names : Stmt := inClass (topS 37) 1
abbrev N_House_names : List Str := ["self"]
theorem sc_House_names : FnScope N_House_names ["self"] (defScope s_House_names) := ⟨rfl, rfl, rfl, by decide +kernel, rfl, by decide +kernel, by decide +kernel⟩
abbrev s_House_columns : Stmt := inClass (topS 37) 2
abbrev N_House_columns : List Str := ["self"]
theorem sc_House_columns : FnScope N_House_columns ["self"] (defScope s_House_columns) := ⟨rfl, rfl, rfl, by decide +kernel, rfl, by decide +kernel, by decide +kernel⟩
abbrev s_House_kinds : Stmt := inClass (topS 37) 4
abbrev N_House_kinds : List Str := ["self"]
theorem sc_House_kinds : FnScope N_House_kinds ["self"] (defScope s_House_kinds) := ⟨rfl, rfl, rfl, by decide +kernel, rfl, by decide +kernel, by decide +kernel⟩
abbrev s_l_tells : Stmt := topS 56
abbrev N_l_tells : List Str := ["_law_told", "_law_house_here", "_law_names_here", "_law_parts", "_law_due", "_law_good", "_law_part", "_law_kind_here"]
theorem sc_l_tells : FnScope N_l_tells ["_law_told", "_law_house_here"] (defScope s_l_tells) := ⟨rfl, rfl, rfl, by decide +kernel, rfl, by decide +kernel, by decide +kernel⟩
abbrev s_l_shuffled : Stmt := topS 45
abbrev N_l_shuffled : List Str := ["_law_state_here", "_law_row", "_law_rest", "_law_mixed", "_law_k"]
theorem sc_l_shuffled : FnScope N_l_shuffled ["_law_state_here", "_law_row"] (defScope s_l_shuffled) := ⟨rfl, rfl, rfl, by decide +kernel, rfl, by decide +kernel, by decide +kernel⟩
abbrev s_l_pick : Stmt := topS 41
abbrev N_l_pick : List Str := ["_law_state_here", "_law_row"]
theorem sc_l_pick : FnScope N_l_pick ["_law_state_here", "_law_row"] (defScope s_l_pick) := ⟨rfl, rfl, rfl, by decide +kernel, rfl, by decide +kernel, by decide +kernel⟩
abbrev s_l_value : Stmt := topS 47
abbrev N_l_value : List Str := ["_law_state_here"]
theorem sc_l_value : FnScope N_l_value ["_law_state_here"] (defScope s_l_value) := ⟨rfl, rfl, rfl, by decide +kernel, rfl, by decide +kernel, by decide +kernel⟩
abbrev s_l_own : Stmt := topS 49
abbrev N_l_own : List Str := ["_law_state_here", "_law_names_here", "_law_links", "_law_own_here", "_law_name", "_law_sort"]
theorem sc_l_own : FnScope N_l_own ["_law_state_here", "_law_names_here", "_law_links"] (defScope s_l_own) := ⟨rfl, rfl, rfl, by decide +kernel, rfl, by decide +kernel, by decide +kernel⟩
abbrev s_l_some : Stmt := topS 44
abbrev N_l_some : List Str := ["_law_state_here", "_law_row", "_law_part"]
theorem sc_l_some : FnScope N_l_some ["_law_state_here", "_law_row"] (defScope s_l_some) := ⟨rfl, rfl, rfl, by decide +kernel, rfl, by decide +kernel, by decide +kernel⟩
abbrev s_l_rule : Stmt := topS 48
abbrev N_l_rule : List Str := ["_law_state_here", "_law_names_here", "_law_links", "_law_chosen", "_law_sort", "_law_link", "_law_manner", "_law_under"]
theorem sc_l_rule : FnScope N_l_rule ["_law_state_here", "_law_names_here", "_law_links"] (defScope s_l_rule) := ⟨rfl, rfl, rfl, by decide +kernel, rfl, by decide +kernel, by decide +kernel⟩
abbrev s_l_choices : Stmt := topS 46
abbrev N_l_choices : List Str := ["_law_state_here", "_law_kinds", "_law_chosen"]
theorem sc_l_choices : FnScope N_l_choices ["_law_state_here", "_law_kinds"] (defScope s_l_choices) := ⟨rfl, rfl, rfl, by decide +kernel, rfl, by decide +kernel, by decide +kernel⟩
abbrev s_l_words : Stmt := topS 43
abbrev N_l_words : List Str := ["_law_state_here", "_law_many", "_law_words_here", "_law_k"]
theorem sc_l_words : FnScope N_l_words ["_law_state_here", "_law_many"] (defScope s_l_words) := ⟨rfl, rfl, rfl, by decide +kernel, rfl, by decide +kernel, by decide +kernel⟩
abbrev s_l_doors : Stmt := topS 50
abbrev N_l_doors : List Str := ["_law_state_here", "_law_most"]
theorem sc_l_doors : FnScope N_l_doors ["_law_state_here", "_law_most"] (defScope s_l_doors) := ⟨rfl, rfl, rfl, by decide +kernel, rfl, by decide +kernel, by decide +kernel⟩
abbrev s_l_house : Stmt := topS 51
abbrev N_l_house : List Str := ["_law_state_here", "_law_kinds", "_law_links", "_law_names_here", "_law_rules", "_law_words_here", "_law_asked", "_law_house_here", "_law_word_here", "_law_doors_here", "_law_leads", "_law_door", "_law_listed", "_law_k"]
theorem sc_l_house : FnScope N_l_house ["_law_state_here", "_law_kinds", "_law_links", "_law_names_here", "_law_rules"] (defScope s_l_house) := ⟨rfl, rfl, rfl, by decide +kernel, rfl, by decide +kernel, by decide +kernel⟩
abbrev s_l_state : Stmt := topS 39
abbrev N_l_state : List Str := ["_law_script", "_law_cells", "_law_cell"]
theorem sc_l_state : FnScope N_l_state ["_law_script"] (defScope s_l_state) := ⟨rfl, rfl, rfl, by decide +kernel, rfl, by decide +kernel, by decide +kernel⟩
abbrev s_law : Stmt := topS 60
abbrev N_law : List Str := ["_law_script", "_law_state_here", "_law_house_here", "_law_parts", "_law_told", "_law_twin", "_law_names_here", "_law_name", "_law_due", "_law_words_here", "_law_value_here", "_law_place", "_law_other", "_law_kind_here", "_law_k"]
theorem sc_law : FnScope N_law ["_law_script"] (defScope s_law) := ⟨rfl, rfl, rfl, by decide +kernel, rfl, by decide +kernel, by decide +kernel⟩
abbrev FnK (K : PySem.W.Frag) (x qual : Str) (st : Stmt) (f : Addr) (fd : FuncData) : Prop := FunD K x qual (defArgs st) (defBody st) (defScope st) [] [("hidden", .bl false)] f fd
theorem bK0_Kind_init {K : PySem.W.Frag} {f : Addr} {fd : FuncData} (F : FnK K "__init__" "Kind.__init__" s_Kind_init f fd) : ∃ ds, Vals [.bl false] ds ∧ Binds K fd ["self", "name", "links", "own", "rules", "hidden"] ds := F.binds0 5 (by simp) rfl (fun D doc pm an cdv ct us ks l1 l2 => by
  match us, l1, ks, l2 with
  | [_, _, _, _, _], _, [_], _ => exact ⟨_, _, _, _, _, _, rfl, rfl, rfl⟩)
theorem bK1_Kind_init {K : PySem.W.Frag} {f : Addr} {fd : FuncData} (F : FnK K "__init__" "Kind.__init__" s_Kind_init f fd) : ∃ mv : List Value, KBn K fd ["self", "name", "links", "own", "rules", "hidden"] 5 ["hidden"] (fun us ws => us ++ ws) (fun vs zs => vs ++ zs) := by
  obtain ⟨mv, h⟩ := F.kbinds0 (ps := ["self", "name", "links", "own", "rules", "hidden"]) 5 ["hidden"] [] (fun us _ ws => us ++ ws) (by simp) (by simp) (fun r1 _ r3 => r1.append r3) (fun D doc pm an cdv ct us ks ws l1 l2 l3 => by
    match us, l1, ks, l2, ws, l3 with
    | [_, _, _, _, _], _, [], _, [_], _ => rfl)
  exact ⟨mv, h⟩
/-- what the top has left -/
structure Fs (K : PySem.W.Frag) (mg : Str → Option Value) (fd : Nat → FuncData) : Prop where
  n_abs : mg "abs" = none
  n_all : mg "all" = none
  n_bool : mg "bool" = none
  n_dict : mg "dict" = none
  n_enumerate : mg "enumerate" = none
  n_int : mg "int" = none
  n_isinstance : mg "isinstance" = none
  n_len : mg "len" = none
  n_list : mg "list" = none
  n_min : mg "min" = none
  n_range : mg "range" = none
  n_set : mg "set" = none
  n_sorted : mg "sorted" = none
  n_str : mg "str" = none
  n_tuple : mg "tuple" = none
  c_MOST_KINDS : ∃ t, mg "MOST_KINDS" = some (.int 4 t)
  c_MOST_NAMED : ∃ t, mg "MOST_NAMED" = some (.int 6 t)
  c_LETTERS : ∃ t, mg "LETTERS" = some (.str ("abcdefghijklmnopqrstuvwxyz" : Str) t)
  c_LONGEST_NAME : ∃ t, mg "LONGEST_NAME" = some (.int 8 t)
  c_MOST_NAMES : ∃ t, mg "MOST_NAMES" = some (.int 4 t)
  c_MOST_RULES : ∃ t, mg "MOST_RULES" = some (.int 300 t)
  c_MOST_OWN : ∃ t, mg "MOST_OWN" = some (.int 5 t)
  c_MOST_CHOICES : ∃ t, mg "MOST_CHOICES" = some (.int 4 t)
  c_MOST_LINKS : ∃ t, mg "MOST_LINKS" = some (.int 2 t)
  g_AskError : mg "AskError" = some (.ref (He.ga K "AskError"))
  g_House : mg "House" = some (.ref (He.ga K "House"))
  g_Kind : mg "Kind" = some (.ref (He.ga K "Kind"))
  g_NoKind : mg "NoKind" = some (.ref (He.ga K "NoKind"))
  g_NoName : mg "NoName" = some (.ref (He.ga K "NoName"))
  c_House : Cls K (He.ga K "House")
  c_Kind : Cls K (He.ga K "Kind")
  fd_Kind_eq : FnP K "__eq__" "Kind.__eq__" s_Kind_eq (He.ma K (He.ga K "Kind") "__eq__") (fd 0)
  m_Kind_eq : Meth K (He.ga K "Kind") "__eq__" (He.ma K (He.ga K "Kind") "__eq__")
  fd_House_eq : FnP K "__eq__" "House.__eq__" s_House_eq (He.ma K (He.ga K "House") "__eq__") (fd 1)
  m_House_eq : Meth K (He.ga K "House") "__eq__" (He.ma K (He.ga K "House") "__eq__")
  fd_Kind_rules : FnP K "rules" "Kind.rules" s_Kind_rules (He.ma K (He.ga K "Kind") "rules") (fd 2)
  m_Kind_rules : Meth K (He.ga K "Kind") "rules" (He.ma K (He.ga K "Kind") "rules")
  fd_Kind_own : FnP K "own" "Kind.own" s_Kind_own (He.ma K (He.ga K "Kind") "own") (fd 3)
  m_Kind_own : Meth K (He.ga K "Kind") "own" (He.ma K (He.ga K "Kind") "own")
  g_named_by : mg "named_by" = some (.ref (He.ga K "named_by"))
  fd_named_by : FnP K "named_by" "named_by" s_named_by (He.ga K "named_by") (fd 4)
  fd_Kind_links : FnP K "links" "Kind.links" s_Kind_links (He.ma K (He.ga K "Kind") "links") (fd 5)
  m_Kind_links : Meth K (He.ga K "Kind") "links" (He.ma K (He.ga K "Kind") "links")
  g_leads_only_to : mg "leads_only_to" = some (.ref (He.ga K "leads_only_to"))
  fd_leads_only_to : FnP K "leads_only_to" "leads_only_to" s_leads_only_to (He.ga K "leads_only_to") (fd 6)
  fd_Kind_name : FnP K "name" "Kind.name" s_Kind_name (gtA K "Kind" "name") (fd 7)
  p_Kind_name : PropOf K (He.ga K "Kind") "name" (prA K "Kind" "name") (gtA K "Kind" "name")
  g_is_list : mg "is_list" = some (.ref (He.ga K "is_list"))
  fd_is_list : FnP K "is_list" "is_list" s_is_list (He.ga K "is_list") (fd 8)
  g_kinds_by_name : mg "kinds_by_name" = some (.ref (He.ga K "kinds_by_name"))
  fd_kinds_by_name : FnP K "kinds_by_name" "kinds_by_name" s_kinds_by_name (He.ga K "kinds_by_name") (fd 9)
  fd_House_init : FnP K "__init__" "House.__init__" s_House_init (He.ma K (He.ga K "House") "__init__") (fd 10)
  mk_House : Mk K (He.ga K "House") (He.ma K (He.ga K "House") "__init__")
  g_is_flag : mg "is_flag" = some (.ref (He.ga K "is_flag"))
  fd_is_flag : FnP K "is_flag" "is_flag" s_is_flag (He.ga K "is_flag") (fd 11)
  g_is_link : mg "is_link" = some (.ref (He.ga K "is_link"))
  fd_is_link : FnP K "is_link" "is_link" s_is_link (He.ga K "is_link") (fd 12)
  g_is_name : mg "is_name" = some (.ref (He.ga K "is_name"))
  fd_is_name : FnP K "is_name" "is_name" s_is_name (He.ga K "is_name") (fd 13)
  g_is_name_or_empty : mg "is_name_or_empty" = some (.ref (He.ga K "is_name_or_empty"))
  fd_is_name_or_empty : FnP K "is_name_or_empty" "is_name_or_empty" s_is_name_or_empty (He.ga K "is_name_or_empty") (fd 14)
  g_is_manner : mg "is_manner" = some (.ref (He.ga K "is_manner"))
  fd_is_manner : FnP K "is_manner" "is_manner" s_is_manner (He.ga K "is_manner") (fd 15)
  g_is_send : mg "is_send" = some (.ref (He.ga K "is_send"))
  fd_is_send : FnP K "is_send" "is_send" s_is_send (He.ga K "is_send") (fd 16)
  g_is_name_list : mg "is_name_list" = some (.ref (He.ga K "is_name_list"))
  fd_is_name_list : FnP K "is_name_list" "is_name_list" s_is_name_list (He.ga K "is_name_list") (fd 17)
  g_is_rule : mg "is_rule" = some (.ref (He.ga K "is_rule"))
  fd_is_rule : FnP K "is_rule" "is_rule" s_is_rule (He.ga K "is_rule") (fd 18)
  g_copied_rules : mg "copied_rules" = some (.ref (He.ga K "copied_rules"))
  fd_copied_rules : FnP K "copied_rules" "copied_rules" s_copied_rules (He.ga K "copied_rules") (fd 19)
  g_is_own_answer : mg "is_own_answer" = some (.ref (He.ga K "is_own_answer"))
  fd_is_own_answer : FnP K "is_own_answer" "is_own_answer" s_is_own_answer (He.ga K "is_own_answer") (fd 20)
  g_copied_own : mg "copied_own" = some (.ref (He.ga K "copied_own"))
  fd_copied_own : FnP K "copied_own" "copied_own" s_copied_own (He.ga K "copied_own") (fd 21)
  g_is_choice_list : mg "is_choice_list" = some (.ref (He.ga K "is_choice_list"))
  fd_is_choice_list : FnP K "is_choice_list" "is_choice_list" s_is_choice_list (He.ga K "is_choice_list") (fd 22)
  g_copied_links : mg "copied_links" = some (.ref (He.ga K "copied_links"))
  fd_copied_links : FnP K "copied_links" "copied_links" s_copied_links (He.ga K "copied_links") (fd 23)
  fd_Kind_init : FnK K "__init__" "Kind.__init__" s_Kind_init (He.ma K (He.ga K "Kind") "__init__") (fd 24)
  mk_Kind : Mk K (He.ga K "Kind") (He.ma K (He.ga K "Kind") "__init__")
  g_l_kind : mg "_law_kind" = some (.ref (He.ga K "_law_kind"))
  fd_l_kind : FnP K "_law_kind" "_law_kind" s_l_kind (He.ga K "_law_kind") (fd 25)
  g_l_built : mg "_law_built" = some (.ref (He.ga K "_law_built"))
  fd_l_built : FnP K "_law_built" "_law_built" s_l_built (He.ga K "_law_built") (fd 26)
  g_l_draw : mg "_law_draw" = some (.ref (He.ga K "_law_draw"))
  fd_l_draw : FnP K "_law_draw" "_law_draw" s_l_draw (He.ga K "_law_draw") (fd 27)
  fd_NoKind_init : FnP K "__init__" "NoKind.__init__" s_NoKind_init (He.ma K (He.ga K "NoKind") "__init__") (fd 28)
  x_NoKind : OexC K (He.ga K "NoKind")
  i_NoKind : PySem.W.findIn K (.ref (He.ga K "NoKind")) "__init__" = some (some (.ref (He.ma K (He.ga K "NoKind") "__init__")))
  t_NoKind : PySem.W.typeIn K (.ref (He.ma K (He.ga K "NoKind") "__init__")) = some (.type "function")
  fd_House_getitem : FnP K "__getitem__" "House.__getitem__" s_House_getitem (He.ma K (He.ga K "House") "__getitem__") (fd 29)
  m_House_getitem : Meth K (He.ga K "House") "__getitem__" (He.ma K (He.ga K "House") "__getitem__")
  f_House_getitem : PySem.W.fnIn K (He.ma K (He.ga K "House") "__getitem__") = true
  fd_NoName_init : FnP K "__init__" "NoName.__init__" s_NoName_init (He.ma K (He.ga K "NoName") "__init__") (fd 30)
  x_NoName : OexC K (He.ga K "NoName")
  i_NoName : PySem.W.findIn K (.ref (He.ga K "NoName")) "__init__" = some (some (.ref (He.ma K (He.ga K "NoName") "__init__")))
  t_NoName : PySem.W.typeIn K (.ref (He.ma K (He.ga K "NoName") "__init__")) = some (.type "function")
  fd_House_column_of : FnP K "column_of" "House.column_of" s_House_column_of (He.ma K (He.ga K "House") "column_of") (fd 31)
  m_House_column_of : Meth K (He.ga K "House") "column_of" (He.ma K (He.ga K "House") "column_of")
  g_l_like : mg "_law_like" = some (.ref (He.ga K "_law_like"))
  fd_l_like : FnP K "_law_like" "_law_like" s_l_like (He.ga K "_law_like") (fd 32)
  g_l_refuses : mg "_law_refuses" = some (.ref (He.ga K "_law_refuses"))
  fd_l_refuses : FnP K "_law_refuses" "_law_refuses" s_l_refuses (He.ga K "_law_refuses") (fd 33)
  g_l_no_kind : mg "_law_no_kind" = some (.ref (He.ga K "_law_no_kind"))
  fd_l_no_kind : FnP K "_law_no_kind" "_law_no_kind" s_l_no_kind (He.ga K "_law_no_kind") (fd 34)
  g_l_word : mg "_law_word" = some (.ref (He.ga K "_law_word"))
  fd_l_word : FnP K "_law_word" "_law_word" s_l_word (He.ga K "_law_word") (fd 35)
  g_l_kind_told : mg "_law_kind_told" = some (.ref (He.ga K "_law_kind_told"))
  fd_l_kind_told : FnP K "_law_kind_told" "_law_kind_told" s_l_kind_told (He.ga K "_law_kind_told") (fd 36)
  g_l_names : mg "_law_names" = some (.ref (He.ga K "_law_names"))
  fd_l_names : FnP K "_law_names" "_law_names" s_l_names (He.ga K "_law_names") (fd 37)
  fd_House_names : FnP K "names" "House.names" s_House_names (He.ma K (He.ga K "House") "names") (fd 38)
  m_House_names : Meth K (He.ga K "House") "names" (He.ma K (He.ga K "House") "names")
  fd_House_columns : FnP K "columns" "House.columns" s_House_columns (He.ma K (He.ga K "House") "columns") (fd 39)
  m_House_columns : Meth K (He.ga K "House") "columns" (He.ma K (He.ga K "House") "columns")
  fd_House_kinds : FnP K "kinds" "House.kinds" s_House_kinds (He.ma K (He.ga K "House") "kinds") (fd 40)
  m_House_kinds : Meth K (He.ga K "House") "kinds" (He.ma K (He.ga K "House") "kinds")
  g_l_tells : mg "_law_tells" = some (.ref (He.ga K "_law_tells"))
  fd_l_tells : FnP K "_law_tells" "_law_tells" s_l_tells (He.ga K "_law_tells") (fd 41)
  g_l_shuffled : mg "_law_shuffled" = some (.ref (He.ga K "_law_shuffled"))
  fd_l_shuffled : FnP K "_law_shuffled" "_law_shuffled" s_l_shuffled (He.ga K "_law_shuffled") (fd 42)
  g_l_pick : mg "_law_pick" = some (.ref (He.ga K "_law_pick"))
  fd_l_pick : FnP K "_law_pick" "_law_pick" s_l_pick (He.ga K "_law_pick") (fd 43)
  g_l_value : mg "_law_value" = some (.ref (He.ga K "_law_value"))
  fd_l_value : FnP K "_law_value" "_law_value" s_l_value (He.ga K "_law_value") (fd 44)
  g_l_own : mg "_law_own" = some (.ref (He.ga K "_law_own"))
  fd_l_own : FnP K "_law_own" "_law_own" s_l_own (He.ga K "_law_own") (fd 45)
  g_l_some : mg "_law_some" = some (.ref (He.ga K "_law_some"))
  fd_l_some : FnP K "_law_some" "_law_some" s_l_some (He.ga K "_law_some") (fd 46)
  g_l_rule : mg "_law_rule" = some (.ref (He.ga K "_law_rule"))
  fd_l_rule : FnP K "_law_rule" "_law_rule" s_l_rule (He.ga K "_law_rule") (fd 47)
  g_l_choices : mg "_law_choices" = some (.ref (He.ga K "_law_choices"))
  fd_l_choices : FnP K "_law_choices" "_law_choices" s_l_choices (He.ga K "_law_choices") (fd 48)
  g_l_words : mg "_law_words" = some (.ref (He.ga K "_law_words"))
  fd_l_words : FnP K "_law_words" "_law_words" s_l_words (He.ga K "_law_words") (fd 49)
  g_l_doors : mg "_law_doors" = some (.ref (He.ga K "_law_doors"))
  fd_l_doors : FnP K "_law_doors" "_law_doors" s_l_doors (He.ga K "_law_doors") (fd 50)
  g_l_house : mg "_law_house" = some (.ref (He.ga K "_law_house"))
  fd_l_house : FnP K "_law_house" "_law_house" s_l_house (He.ga K "_law_house") (fd 51)
  g_l_state : mg "_law_state" = some (.ref (He.ga K "_law_state"))
  fd_l_state : FnP K "_law_state" "_law_state" s_l_state (He.ga K "_law_state") (fd 52)
  g_law : mg "law" = some (.ref (He.ga K "law"))
  fd_law : FnP K "law" "law" s_law (He.ga K "law") (fd 53)
  a_AskError : BaseC K (He.ga K "AskError")
  nx_NoKind : NoKindX K
  nx_NoName : NoNameX K
section
variable {P : Program} {w : World} {K : PySem.W.Frag} {mg : Str → Option Value} {base : Heap} {fd : Nat → FuncData}
theorem ok_Kind_eq (T : Fs K mg fd) : FnOk P w K mg base (L2.CX P w) 1 (He.ma K (He.ga K "Kind") "__eq__") (fd 0) ["self", "other"] (sp_Kind_eq K) := by
  refine FunD.ok T.fd_Kind_eq sc_Kind_eq (fun vs H Q E h => len_Kind_eq h) (fun cdv A outer s H vs Q E hr h => ⟨t_Kind_eq K, ?_, pure_Kind_eq vs H Q E h⟩)
  have hu := hu_of hr
  exact (pss_one (ps_ret (pe_and (pe_callB call_isi (by rfl) T.n_isinstance (by decide +kernel) (pa_cons (pv 1) (pa_cons (pe_glob rfl T.g_Kind rfl) pa_nil))) (pe_and (pe_cmpR op_eq (pe_fld (pv 0) rfl) (pe_fld (pv 1) rfl) (nomark _)) (pe_and (pe_cmpR (op_eqN hr.units) (pe_fld (pv 0) rfl) (pe_fld (pv 1) rfl) (nomark _)) (pe_and (pe_cmpR (op_eqN hr.units) (pe_fld (pv 0) rfl) (pe_fld (pv 1) rfl) (nomark _)) (pe_and (pe_cmpR (op_eqS hr.units) (pe_fld (pv 0) rfl) (pe_fld (pv 1) rfl) (nomark _)) (pe_one (pe_cmpR op_eq (pe_fld (pv 0) rfl) (pe_fld (pv 1) rfl) (nomark _))))))))))
theorem ok_House_eq (T : Fs K mg fd) : FnOk P w K mg base (L2.CX P w) 3 (He.ma K (He.ga K "House") "__eq__") (fd 1) ["self", "other"] (sp_House_eq K) := by
  have G_Kind_eq := ok_Kind_eq (P := P) (w := w) (base := base) T
  have b_Kind_eq : Binds K (fd 0) ["self", "other"] [] := T.fd_Kind_eq.bindsN fun _ _ _ _ _ _ us hl => match us, hl with | [_, _], _ => rfl
  refine FunD.ok T.fd_House_eq sc_House_eq (fun vs H Q E h => len_House_eq h) (fun cdv A outer s H vs Q E hr h => ⟨t_House_eq K, ?_, pure_House_eq vs H Q E h⟩)
  have hu := hu_of hr
  exact (pss_one (ps_ret (pe_and (pe_callB call_isi (by rfl) T.n_isinstance (by decide +kernel) (pa_cons (pv 1) (pa_cons (pe_glob rfl T.g_House rfl) pa_nil))) (pe_one (pe_lock (pe_lock (pe_cmpR (op_eqDK T.m_Kind_eq.at_ T.m_Kind_eq.fn G_Kind_eq (hr.mono (by decide)) b_Kind_eq passL) (pe_fld (pv 0) rfl) (pe_fld (pv 1) rfl) (nomark _))))))))
theorem ok_Kind_rules (T : Fs K mg fd) : FnOk P w K mg base (L2.CX P w) 1 (He.ma K (He.ga K "Kind") "rules") (fd 2) ["self"] (sp_Kind_rules K) := by
  refine FunD.ok T.fd_Kind_rules sc_Kind_rules (fun vs H Q E h => len_Kind_rules h) (fun cdv A outer s H vs Q E hr h => ⟨t_Kind_rules K, ?_, pure_Kind_rules vs H Q E h⟩)
  have hu := hu_of hr
  exact (pss_one (ps_ret (pe_callTy kListOf (by rfl) T.n_list (by decide +kernel) (pa_cons (pe_fld (pv 0) rfl) pa_nil))))
theorem ok_Kind_own (T : Fs K mg fd) : FnOk P w K mg base (L2.CX P w) 1 (He.ma K (He.ga K "Kind") "own") (fd 3) ["self"] (sp_Kind_own K) := by
  refine FunD.ok T.fd_Kind_own sc_Kind_own (fun vs H Q E h => len_Kind_own h) (fun cdv A outer s H vs Q E hr h => ⟨t_Kind_own K, ?_, pure_Kind_own vs H Q E h⟩)
  have hu := hu_of hr
  exact (pss_one (ps_ret (pe_callTy kDictD (by rfl) T.n_dict (by decide +kernel) (pa_cons (pe_fld (pv 0) rfl) pa_nil))))
theorem ok_named_by (T : Fs K mg fd) : FnOk P w K mg base (L2.CX P w) 2 (He.ga K "named_by") (fd 4) ["kind"] (sp_named_by K) := by
  have G_Kind_rules := ok_Kind_rules (P := P) (w := w) (base := base) T
  have b_Kind_rules : Binds K (fd 2) ["self"] [] := T.fd_Kind_rules.bindsN fun _ _ _ _ _ _ us hl => match us, hl with | [_], _ => rfl
  have G_Kind_own := ok_Kind_own (P := P) (w := w) (base := base) T
  have b_Kind_own : Binds K (fd 3) ["self"] [] := T.fd_Kind_own.bindsN fun _ _ _ _ _ _ us hl => match us, hl with | [_], _ => rfl
  refine FunD.ok T.fd_named_by sc_named_by (fun vs H Q E h => len_named_by h) (fun cdv A outer s H vs Q E hr h => ⟨t_named_by K, ?_, pure_named_by vs H Q E h⟩)
  have hu := hu_of hr
  exact (pss_cons (ps_set (i := 1) sc_named_by.nd rfl (Or.inl rfl) (pe_callTy (kListK rfl) (by rfl) T.n_list (by decide +kernel) (pa_cons (pe_meth0 (pv 0) T.c_Kind T.m_Kind_own G_Kind_own (hr.mono (by decide)) b_Kind_own .nil passL) pa_nil)))
      (pss_cons (ps_for (passes_of rfl) rfl (pi_list (pe_meth0 (pv 0) T.c_Kind T.m_Kind_rules G_Kind_rules (hr.mono (by decide)) b_Kind_rules .nil passL)) (pg_name (i := 2) sc_named_by.nd rfl (Or.inl rfl))
      (pss_cons (ps_expr (pe_bm PySem.F.plainAttrs_list PySem.F.slot_list_extend PySem.F.type_list_extend mt_extendT (pv 1) (pa_cons (pe_ix ix_tup (pv 2) pe_int (fun _ _ => rfl)) pa_nil)))
      (pss_one (ps_if (PW.pt (pw_and (pt_cmpR op_eq (pe_ix ix_tup (pv 2) pe_int (fun _ _ => rfl)) pe_str (nomark _)) (pw_and1 (pt_cmpR op_ne (pe_ix ix_tup (pv 2) pe_int (fun _ _ => rfl)) pe_str (nomark _)))))
      (pss_one (ps_expr (pe_bm PySem.F.plainAttrs_list PySem.F.slot_list_append PySem.F.type_list_append mt_append (pv 1) (pa_cons (pe_ix ix_tup (pv 2) pe_int (fun _ _ => rfl)) pa_nil))))
      pss_nil))))
      (pss_one (ps_ret (pv 1)))))
theorem ok_Kind_links (T : Fs K mg fd) : FnOk P w K mg base (L2.CX P w) 1 (He.ma K (He.ga K "Kind") "links") (fd 5) ["self"] (sp_Kind_links K) := by
  refine FunD.ok T.fd_Kind_links sc_Kind_links (fun vs H Q E h => len_Kind_links h) (fun cdv A outer s H vs Q E hr h => ⟨t_Kind_links K, ?_, pure_Kind_links vs H Q E h⟩)
  have hu := hu_of hr
  exact (pss_one (ps_ret (pe_callTy kDictD (by rfl) T.n_dict (by decide +kernel) (pa_cons (pe_fld (pv 0) rfl) pa_nil))))
theorem ok_leads_only_to (T : Fs K mg fd) : FnOk P w K mg base (L2.CX P w) 2 (He.ga K "leads_only_to") (fd 6) ["kind", "names"] (sp_leads_only_to K) := by
  have G_Kind_links := ok_Kind_links (P := P) (w := w) (base := base) T
  have b_Kind_links : Binds K (fd 5) ["self"] [] := T.fd_Kind_links.bindsN fun _ _ _ _ _ _ us hl => match us, hl with | [_], _ => rfl
  refine FunD.ok T.fd_leads_only_to sc_leads_only_to (fun vs H Q E h => len_leads_only_to h) (fun cdv A outer s H vs Q E hr h => ⟨t_leads_only_to K, ?_, pure_leads_only_to vs H Q E h⟩)
  have hu := hu_of hr
  exact (pss_cons (ps_for (passes_of rfl) rfl (pi_values (pe_freeze (pe_meth0 (pv 0) T.c_Kind T.m_Kind_links G_Kind_links (hr.mono (by decide)) b_Kind_links .nil passL))) (pg_name (i := 2) sc_leads_only_to.nd rfl (Or.inl rfl))
      (pss_one (ps_if (pt_not (pt_val (pe_callB (cr_all rfl) (by rfl) T.n_all (by decide +kernel) (pa_cons (pe_lc (own := [("choice", 3)]) (g := gName 3) (tt := tYes) rfl sc_leads_only_to.nd (pi_tup (pv 2)) (blkOk_by (N := N_leads_only_to) (sc := defScope s_leads_only_to) (by decide +kernel)) (fun _ _ _ _ _ => pg_name (i := 3) sc_leads_only_to.nd rfl (Or.inl rfl)) (fun _ _ _ _ _ => pts_nil) (fun _ _ _ _ _ => (pe_or (pe_cmpR op_eq (pv 3) pe_str (nomark _)) (pe_one (pe_cmp (pc_din hu (pv 3) (pv 1))))))) pa_nil))))
      (pss_one (ps_ret pe_bl))
      pss_nil)))
      (pss_one (ps_ret pe_bl)))
theorem ok_Kind_name (T : Fs K mg fd) : FnOk P w K mg base (L2.CX P w) 1 (gtA K "Kind" "name") (fd 7) ["self"] (sp_Kind_name K) := by
  refine FunD.ok T.fd_Kind_name sc_Kind_name (fun vs H Q E h => len_Kind_name h) (fun cdv A outer s H vs Q E hr h => ⟨t_Kind_name K, ?_, pure_Kind_name vs H Q E h⟩)
  have hu := hu_of hr
  exact (pss_one (ps_ret (pe_fld (pv 0) rfl)))
theorem ok_is_list (T : Fs K mg fd) : FnOk P w K mg base (L2.CX P w) 1 (He.ga K "is_list") (fd 8) ["x"] (sp_is_list K) := by
  refine FunD.ok T.fd_is_list sc_is_list (fun vs H Q E h => len_is_list h) (fun cdv A outer s H vs Q E hr h => ⟨t_is_list K, ?_, pure_is_list vs H Q E h⟩)
  have hu := hu_of hr
  exact (pss_one (ps_ret (pe_callB call_isiT (by rfl) T.n_isinstance (by decide +kernel) (pa_cons (pv 0) (pa_cons (pe_tup (pa_cons (pe_bltn (by rfl) T.n_list (by decide +kernel) rfl) (pa_cons (pe_bltn (by rfl) T.n_tuple (by decide +kernel) rfl) pa_nil))) pa_nil)))))
theorem okA_is_list (T : Fs K mg fd) : FnOk P w K mg base (L2.CX P w) 1 (He.ga K "is_list") (fd 8) ["x"] (sp_is_listA K) := by
  refine FunD.ok T.fd_is_list sc_is_list (fun vs H Q E h => len_is_listA h) (fun cdv A outer s H vs Q E hr h => ⟨t_is_list K, ?_, pure_is_listA vs H Q E h⟩)
  have hu := hu_of hr
  exact (pss_one (ps_ret (pe_callB call_isiT (by rfl) T.n_isinstance (by decide +kernel) (pa_cons (pv 0) (pa_cons (pe_tup (pa_cons (pe_bltn (by rfl) T.n_list (by decide +kernel) rfl) (pa_cons (pe_bltn (by rfl) T.n_tuple (by decide +kernel) rfl) pa_nil))) pa_nil)))))
theorem ok_kinds_by_name (T : Fs K mg fd) : FnOk P w K mg base (L2.CX P w) 3 (He.ga K "kinds_by_name") (fd 9) ["kinds"] (sp_kinds_by_name K) := by
  have G_Kind_name := ok_Kind_name (P := P) (w := w) (base := base) T
  have b_Kind_name : Binds K (fd 7) ["self"] [] := T.fd_Kind_name.bindsN fun _ _ _ _ _ _ us hl => match us, hl with | [_], _ => rfl
  have G_is_list := okA_is_list (P := P) (w := w) (base := base) T
  have b_is_list : Binds K (fd 8) ["x"] [] := T.fd_is_list.bindsN fun _ _ _ _ _ _ us hl => match us, hl with | [_], _ => rfl
  obtain ⟨_, c_MOST_KINDS⟩ := T.c_MOST_KINDS
  refine FunD.ok T.fd_kinds_by_name sc_kinds_by_name (fun vs H Q E h => len_kinds_by_name h) (fun cdv A outer s H vs Q E hr h => ⟨t_kinds_by_name K, ?_, pure_kinds_by_name vs H Q E h⟩)
  have hu := hu_of hr
  exact (pss_cons (ps_if (PW.pt (pw_or (pt_not (pt_val (pe_call G_is_list (hr.mono (by decide)) rfl T.g_is_list T.fd_is_list.kp b_is_list .nil passL (pa_cons (pv 0) pa_nil)))) (pw_or1 (pt_not (pt_chain kLe kLe pe_int (pe_callB kLenA (by rfl) T.n_len (by decide +kernel) (pa_cons (pv 0) pa_nil)) (pe_glob rfl c_MOST_KINDS ⟨_, rfl⟩))))))
      (pss_one ps_never)
      pss_nil)
      (pss_cons (ps_set (i := 1) sc_kinds_by_name.nd rfl (Or.inr rfl) pe_dnewK)
      (pss_cons (ps_for (passes_of rfl) rfl (pi_enumA rfl T.n_enumerate (pa_cons (pv 0) pa_nil)) (pg_tup (n := 2) rfl (pgs_cons (pg_name (i := 2) sc_kinds_by_name.nd rfl (Or.inl rfl)) (pgs_cons (pg_name (i := 3) sc_kinds_by_name.nd rfl (Or.inl rfl)) pgs_nil)))
      (pss_cons (ps_if (PW.pt (pw_or (pt_not (pt_val (pe_callB call_isi (by rfl) T.n_isinstance (by decide +kernel) (pa_cons (pv 3) (pa_cons (pe_glob rfl T.g_Kind rfl) pa_nil))))) (pw_or1 (pt_cmp (pc_din hu (pe_prop (pv 3) T.c_Kind T.p_Kind_name G_Kind_name (hr.mono (by decide)) b_Kind_name .nil passL rfl) (pv 1))))))
      (pss_one ps_never)
      pss_nil)
      (pss_one (ps_dput hu (pv 1) (pe_prop (pv 3) T.c_Kind T.p_Kind_name G_Kind_name (hr.mono (by decide)) b_Kind_name .nil passL rfl) (pv 3) rfl))))
      (pss_one (ps_ret (pe_dc (own := [("name", 4)]) (g := gName 4) (tt := tYes) rfl sc_kinds_by_name.nd (pi_list (pe_callB (kSortD rfl) (by rfl) T.n_sorted (by decide +kernel) (pa_cons (pv 1) pa_nil))) (blkOk_by (N := N_kinds_by_name) (sc := defScope s_kinds_by_name) (by decide +kernel)) (fun _ _ _ _ _ => pg_name (i := 4) sc_kinds_by_name.nd rfl (Or.inl rfl)) (fun _ _ _ _ _ => pts_nil) (fun _ _ _ _ _ => (pv 4)) (fun _ _ _ _ _ => (pe_dget hu (pv 1) (pv 4) (fun _ _ => rfl)))))))))
theorem ok_House_init (T : Fs K mg fd) : FnOk P w K mg base (L2.CX P w) 4 (He.ma K (He.ga K "House") "__init__") (fd 10) ["self", "kinds"] (sp_House_init K) := by
  have G_named_by := ok_named_by (P := P) (w := w) (base := base) T
  have b_named_by : Binds K (fd 4) ["kind"] [] := T.fd_named_by.bindsN fun _ _ _ _ _ _ us hl => match us, hl with | [_], _ => rfl
  have G_leads_only_to := ok_leads_only_to (P := P) (w := w) (base := base) T
  have b_leads_only_to : Binds K (fd 6) ["kind", "names"] [] := T.fd_leads_only_to.bindsN fun _ _ _ _ _ _ us hl => match us, hl with | [_, _], _ => rfl
  have G_kinds_by_name := ok_kinds_by_name (P := P) (w := w) (base := base) T
  have b_kinds_by_name : Binds K (fd 9) ["kinds"] [] := T.fd_kinds_by_name.bindsN fun _ _ _ _ _ _ us hl => match us, hl with | [_], _ => rfl
  obtain ⟨_, c_MOST_NAMED⟩ := T.c_MOST_NAMED
  refine FunD.ok T.fd_House_init sc_House_init (fun vs H Q E h => len_House_init h) (fun cdv A outer s H vs Q E hr h => ⟨t_House_init K, ?_, pure_House_init vs H Q E h⟩)
  have hu := hu_of hr
  exact (pss_cons (ps_fld (pv 0) (pe_call G_kinds_by_name (hr.mono (by decide)) rfl T.g_kinds_by_name T.fd_kinds_by_name.kp b_kinds_by_name .nil passL (pa_cons (pv 1) pa_nil)) rfl)
      (pss_cons (ps_for (passes_of rfl) rfl (pi_enumA rfl T.n_enumerate (pa_cons (pv 1) pa_nil)) (pg_tup (n := 2) rfl (pgs_cons (pg_name (i := 2) sc_House_init.nd rfl (Or.inl rfl)) (pgs_cons (pg_name (i := 3) sc_House_init.nd rfl (Or.inl rfl)) pgs_nil)))
      (pss_one (ps_if (pt_not (pt_val (pe_call G_leads_only_to (hr.mono (by decide)) rfl T.g_leads_only_to T.fd_leads_only_to.kp b_leads_only_to .nil passL (pa_cons (pv 3) (pa_cons (pe_fld (pv 0) rfl) pa_nil)))))
      (pss_one ps_never)
      pss_nil)))
      (pss_cons (ps_set (i := 4) sc_House_init.nd rfl (Or.inl rfl) (pe_lst pa_nil))
      (pss_cons (ps_for (passes_of rfl) rfl (pi_seqVar (pv 1)) (pg_name (i := 3) sc_House_init.nd rfl (Or.inl rfl))
      (pss_one (ps_expr (pe_bm PySem.F.plainAttrs_list PySem.F.slot_list_extend PySem.F.type_list_extend mt_extend (pv 4) (pa_cons (pe_call G_named_by (hr.mono (by decide)) rfl T.g_named_by T.fd_named_by.kp b_named_by .nil passL (pa_cons (pv 3) pa_nil)) pa_nil)))))
      (pss_cons (ps_fld (pv 0) (pe_sortUni rfl T.n_sorted rfl T.n_set (by decide +kernel) (pv 4)) rfl)
      (pss_one (ps_if (pt_cmpR kGt (pe_callB kLenA (by rfl) T.n_len (by decide +kernel) (pa_cons (pe_fld (pv 0) rfl) pa_nil)) (pe_glob rfl c_MOST_NAMED ⟨_, rfl⟩) (nomark _))
      (pss_one ps_never)
      pss_nil)))))))
theorem ok_is_flag (T : Fs K mg fd) : FnOk P w K mg base (L2.CX P w) 1 (He.ga K "is_flag") (fd 11) ["x"] (sp_is_flag K) := by
  refine FunD.ok T.fd_is_flag sc_is_flag (fun vs H Q E h => len_is_flag h) (fun cdv A outer s H vs Q E hr h => ⟨t_is_flag K, ?_, pure_is_flag vs H Q E h⟩)
  have hu := hu_of hr
  exact (pss_one (ps_ret (pe_or (pe_cmpR op_isBb (pv 0) pe_bl (nomark _)) (pe_one (pe_cmpR op_isBb (pv 0) pe_bl (nomark _))))))
theorem ok_is_link (T : Fs K mg fd) : FnOk P w K mg base (L2.CX P w) 1 (He.ga K "is_link") (fd 12) ["link", "links"] (sp_is_link K) := by
  refine FunD.ok T.fd_is_link sc_is_link (fun vs H Q E h => len_is_link h) (fun cdv A outer s H vs Q E hr h => ⟨t_is_link K, ?_, pure_is_link vs H Q E h⟩)
  have hu := hu_of hr
  exact (pss_one (ps_ret (pe_and (pe_callB call_isi (by rfl) T.n_isinstance (by decide +kernel) (pa_cons (pv 0) (pa_cons (pe_bltn (by rfl) T.n_str (by decide +kernel) rfl) pa_nil))) (pe_one (pe_cmp (pc_din hu (pv 0) (pv 1)))))))
theorem ok_is_name (T : Fs K mg fd) : FnOk P w K mg base (L2.CX P w) 1 (He.ga K "is_name") (fd 13) ["x"] (sp_is_name K) := by
  obtain ⟨_, c_LETTERS⟩ := T.c_LETTERS
  obtain ⟨_, c_LONGEST_NAME⟩ := T.c_LONGEST_NAME
  refine FunD.ok T.fd_is_name sc_is_name (fun vs H Q E h => len_is_name h) (fun cdv A outer s H vs Q E hr h => ⟨t_is_name K, ?_, pure_is_name vs H Q E h⟩)
  have hu := hu_of hr
  exact (pss_cons (ps_if (PW.pt (pw_or (pt_not (pt_val (pe_callB call_isi (by rfl) T.n_isinstance (by decide +kernel) (pa_cons (pv 0) (pa_cons (pe_bltn (by rfl) T.n_str (by decide +kernel) rfl) pa_nil))))) (pw_or1 (pt_not (pt_chain kLe kLe pe_int (pe_callB kLenA (by rfl) T.n_len (by decide +kernel) (pa_cons (pv 0) pa_nil)) (pe_glob rfl c_LONGEST_NAME ⟨_, rfl⟩))))))
      (pss_one (ps_ret pe_bl))
      pss_nil)
      (pss_one (ps_ret (pe_callB (cr_all rfl) (by rfl) T.n_all (by decide +kernel) (pa_cons (pe_lc (own := [("letter", 1)]) (g := gName 1) (tt := tYes) rfl sc_is_name.nd (pi_str (pv 0)) (blkOk_by (N := N_is_name) (sc := defScope s_is_name) (by decide +kernel)) (fun _ _ _ _ _ => pg_name (i := 1) sc_is_name.nd rfl (Or.inl rfl)) (fun _ _ _ _ _ => pts_nil) (fun _ _ _ _ _ => (pe_cmpR kInT (pv 1) (pe_glob rfl c_LETTERS ⟨_, rfl⟩) (by rfl)))) pa_nil)))))
theorem ok_is_name_or_empty (T : Fs K mg fd) : FnOk P w K mg base (L2.CX P w) 2 (He.ga K "is_name_or_empty") (fd 14) ["x"] (sp_is_name_or_empty K) := by
  have G_is_name := ok_is_name (P := P) (w := w) (base := base) T
  have b_is_name : Binds K (fd 13) ["x"] [] := T.fd_is_name.bindsN fun _ _ _ _ _ _ us hl => match us, hl with | [_], _ => rfl
  refine FunD.ok T.fd_is_name_or_empty sc_is_name_or_empty (fun vs H Q E h => len_is_name_or_empty h) (fun cdv A outer s H vs Q E hr h => ⟨t_is_name_or_empty K, ?_, pure_is_name_or_empty vs H Q E h⟩)
  have hu := hu_of hr
  exact (pss_one (ps_ret (pe_and (pe_callB call_isi (by rfl) T.n_isinstance (by decide +kernel) (pa_cons (pv 0) (pa_cons (pe_bltn (by rfl) T.n_str (by decide +kernel) rfl) pa_nil))) (pe_one (pe_or (pe_cmpR op_eq (pv 0) pe_str (nomark _)) (pe_one (pe_call G_is_name (hr.mono (by decide)) rfl T.g_is_name T.fd_is_name.kp b_is_name .nil passL (pa_cons (pv 0) pa_nil))))))))
theorem ok_is_manner (T : Fs K mg fd) : FnOk P w K mg base (L2.CX P w) 1 (He.ga K "is_manner") (fd 15) ["manner"] (sp_is_manner K) := by
  refine FunD.ok T.fd_is_manner sc_is_manner (fun vs H Q E h => len_is_manner h) (fun cdv A outer s H vs Q E hr h => ⟨t_is_manner K, ?_, pure_is_manner vs H Q E h⟩)
  have hu := hu_of hr
  exact (pss_one (ps_ret (pe_and (pe_callB call_isi (by rfl) T.n_isinstance (by decide +kernel) (pa_cons (pv 0) (pa_cons (pe_bltn (by rfl) T.n_str (by decide +kernel) rfl) pa_nil))) (pe_one (pe_cmpR op_in_seq (pv 0) (pe_tup (pa_cons pe_str (pa_cons pe_str pa_nil))) (by rfl))))))
theorem ok_is_send (T : Fs K mg fd) : FnOk P w K mg base (L2.CX P w) 3 (He.ga K "is_send") (fd 16) ["rest", "links"] (sp_is_send K) := by
  have G_is_link := ok_is_link (P := P) (w := w) (base := base) T
  have b_is_link : Binds K (fd 12) ["link", "links"] [] := T.fd_is_link.bindsN fun _ _ _ _ _ _ us hl => match us, hl with | [_, _], _ => rfl
  have G_is_name_or_empty := ok_is_name_or_empty (P := P) (w := w) (base := base) T
  have b_is_name_or_empty : Binds K (fd 14) ["x"] [] := T.fd_is_name_or_empty.bindsN fun _ _ _ _ _ _ us hl => match us, hl with | [_], _ => rfl
  have G_is_manner := ok_is_manner (P := P) (w := w) (base := base) T
  have b_is_manner : Binds K (fd 15) ["manner"] [] := T.fd_is_manner.bindsN fun _ _ _ _ _ _ us hl => match us, hl with | [_], _ => rfl
  have G_is_flag := ok_is_flag (P := P) (w := w) (base := base) T
  have b_is_flag : Binds K (fd 11) ["x"] [] := T.fd_is_flag.bindsN fun _ _ _ _ _ _ us hl => match us, hl with | [_], _ => rfl
  refine FunD.ok T.fd_is_send sc_is_send (fun vs H Q E h => len_is_send h) (fun cdv A outer s H vs Q E hr h => ⟨t_is_send K, ?_, pure_is_send vs H Q E h⟩)
  have hu := hu_of hr
  exact (pss_cons (ps_if (pt_cmpR op_ne (pe_callB kLenA (by rfl) T.n_len (by decide +kernel) (pa_cons (pv 0) pa_nil)) pe_int (nomark _))
      (pss_one (ps_ret pe_bl))
      pss_nil)
      (pss_cons (ps_asg (pv 0) (pg_seq (n := 4) (pgs_cons (pg_name (i := 2) sc_is_send.nd rfl (Or.inl rfl)) (pgs_cons (pg_name (i := 3) sc_is_send.nd rfl (Or.inl rfl)) (pgs_cons (pg_name (i := 4) sc_is_send.nd rfl (Or.inl rfl)) (pgs_cons (pg_name (i := 5) sc_is_send.nd rfl (Or.inl rfl)) pgs_nil))))))
      (pss_one (ps_ret (pe_and (pe_call G_is_link (hr.mono (by decide)) rfl T.g_is_link T.fd_is_link.kp b_is_link .nil passL (pa_cons (pv 2) (pa_cons (pv 1) pa_nil))) (pe_and (pe_call G_is_name_or_empty (hr.mono (by decide)) rfl T.g_is_name_or_empty T.fd_is_name_or_empty.kp b_is_name_or_empty .nil passL (pa_cons (pv 3) pa_nil)) (pe_and (pe_call G_is_manner (hr.mono (by decide)) rfl T.g_is_manner T.fd_is_manner.kp b_is_manner .nil passL (pa_cons (pv 4) pa_nil)) (pe_one (pe_call G_is_flag (hr.mono (by decide)) rfl T.g_is_flag T.fd_is_flag.kp b_is_flag .nil passL (pa_cons (pv 5) pa_nil))))))))))
theorem ok_is_name_list (T : Fs K mg fd) : FnOk P w K mg base (L2.CX P w) 2 (He.ga K "is_name_list") (fd 17) ["names"] (sp_is_name_list K) := by
  have G_is_name := ok_is_name (P := P) (w := w) (base := base) T
  have b_is_name : Binds K (fd 13) ["x"] [] := T.fd_is_name.bindsN fun _ _ _ _ _ _ us hl => match us, hl with | [_], _ => rfl
  have G_is_list := ok_is_list (P := P) (w := w) (base := base) T
  have b_is_list : Binds K (fd 8) ["x"] [] := T.fd_is_list.bindsN fun _ _ _ _ _ _ us hl => match us, hl with | [_], _ => rfl
  obtain ⟨_, c_MOST_NAMES⟩ := T.c_MOST_NAMES
  refine FunD.ok T.fd_is_name_list sc_is_name_list (fun vs H Q E h => len_is_name_list h) (fun cdv A outer s H vs Q E hr h => ⟨t_is_name_list K, ?_, pure_is_name_list vs H Q E h⟩)
  have hu := hu_of hr
  exact (pss_cons (ps_if (PW.pt (pw_or (pt_not (pt_val (pe_call G_is_list (hr.mono (by decide)) rfl T.g_is_list T.fd_is_list.kp b_is_list .nil passL (pa_cons (pv 0) pa_nil)))) (pw_or1 (pt_cmpR kGt (pe_callB kLenA (by rfl) T.n_len (by decide +kernel) (pa_cons (pv 0) pa_nil)) (pe_glob rfl c_MOST_NAMES ⟨_, rfl⟩) (nomark _)))))
      (pss_one (ps_ret pe_bl))
      pss_nil)
      (pss_one (ps_ret (pe_and (pe_callB (cr_all rfl) (by rfl) T.n_all (by decide +kernel) (pa_cons (pe_lc (own := [("name", 1)]) (g := gName 1) (tt := tYes) rfl sc_is_name_list.nd (pi_seqVar (pv 0)) (blkOk_by (N := N_is_name_list) (sc := defScope s_is_name_list) (by decide +kernel)) (fun _ _ _ _ _ => pg_name (i := 1) sc_is_name_list.nd rfl (Or.inl rfl)) (fun _ _ _ _ _ => pts_nil) (fun _ _ _ _ _ => (pe_call G_is_name (hr.mono (by decide)) rfl T.g_is_name T.fd_is_name.kp b_is_name .nil passL (pa_cons (pv 1) pa_nil)))) pa_nil)) (pe_one (pe_cmpR op_eq (pe_lenUni rfl T.n_len rfl T.n_set (pv 0)) (pe_callB kLenA (by rfl) T.n_len (by decide +kernel) (pa_cons (pv 0) pa_nil)) (nomark _)))))))
theorem ok_is_rule (T : Fs K mg fd) : FnOk P w K mg base (L2.CX P w) 4 (He.ga K "is_rule") (fd 18) ["rule", "links"] (sp_is_rule K) := by
  have G_is_send := ok_is_send (P := P) (w := w) (base := base) T
  have b_is_send : Binds K (fd 16) ["rest", "links"] [] := T.fd_is_send.bindsN fun _ _ _ _ _ _ us hl => match us, hl with | [_, _], _ => rfl
  have G_is_link := ok_is_link (P := P) (w := w) (base := base) T
  have b_is_link : Binds K (fd 12) ["link", "links"] [] := T.fd_is_link.bindsN fun _ _ _ _ _ _ us hl => match us, hl with | [_, _], _ => rfl
  have G_is_manner := ok_is_manner (P := P) (w := w) (base := base) T
  have b_is_manner : Binds K (fd 15) ["manner"] [] := T.fd_is_manner.bindsN fun _ _ _ _ _ _ us hl => match us, hl with | [_], _ => rfl
  have G_is_name := ok_is_name (P := P) (w := w) (base := base) T
  have b_is_name : Binds K (fd 13) ["x"] [] := T.fd_is_name.bindsN fun _ _ _ _ _ _ us hl => match us, hl with | [_], _ => rfl
  have G_is_list := ok_is_list (P := P) (w := w) (base := base) T
  have b_is_list : Binds K (fd 8) ["x"] [] := T.fd_is_list.bindsN fun _ _ _ _ _ _ us hl => match us, hl with | [_], _ => rfl
  have G_is_name_list := ok_is_name_list (P := P) (w := w) (base := base) T
  have b_is_name_list : Binds K (fd 17) ["names"] [] := T.fd_is_name_list.bindsN fun _ _ _ _ _ _ us hl => match us, hl with | [_], _ => rfl
  refine FunD.ok T.fd_is_rule sc_is_rule (fun vs H Q E h => len_is_rule h) (fun cdv A outer s H vs Q E hr h => ⟨t_is_rule K, ?_, pure_is_rule vs H Q E h⟩)
  have hu := hu_of hr
  exact (pss_cons (ps_if (PW.pt (pw_or (pt_not (pt_val (pe_call G_is_list (hr.mono (by decide)) rfl T.g_is_list T.fd_is_list.kp b_is_list .nil passL (pa_cons (pv 0) pa_nil)))) (pw_or (pt_cmpR kLt (pe_callB kLenA (by rfl) T.n_len (by decide +kernel) (pa_cons (pv 0) pa_nil)) pe_int (nomark _)) (pw_or (pt_not (pt_val (pe_callB call_isi (by rfl) T.n_isinstance (by decide +kernel) (pa_cons (pe_ix ix_seq (pv 0) pe_int (fun _ _ => rfl)) (pa_cons (pe_bltn (by rfl) T.n_str (by decide +kernel) rfl) pa_nil))))) (pw_or1 (pt_not (pt_val (pe_call G_is_name_list (hr.mono (by decide)) rfl T.g_is_name_list T.fd_is_name_list.kp b_is_name_list .nil passL (pa_cons (pe_ix ix_seq (pv 0) pe_int (fun _ _ => rfl)) pa_nil)))))))))
      (pss_one (ps_ret pe_bl))
      pss_nil)
      (pss_cons (ps_set (i := 2) sc_is_rule.nd rfl (Or.inl rfl) (pe_ix ix_seq (pv 0) pe_int (fun _ _ => rfl)))
      (pss_cons (ps_set (i := 3) sc_is_rule.nd rfl (Or.inl rfl) (pe_slice (SlR.or sl_list sl_tupA) (pv 0) (po_some pe_int) po_none))
      (pss_cons (ps_if (PW.pt (pw_or (pt_cmpR op_eq (pv 2) pe_str (nomark _)) (pw_or1 (pt_cmpR op_eq (pv 2) pe_str (nomark _)))))
      (pss_one (ps_ret (pe_cmpR op_eq (pe_callB kLenA (by rfl) T.n_len (by decide +kernel) (pa_cons (pv 3) pa_nil)) pe_int (nomark _))))
      pss_nil)
      (pss_cons (ps_if (pt_cmpR op_eq (pv 2) pe_str (nomark _))
      (pss_one (ps_ret (pe_and (pe_cmpR op_eq (pe_callB kLenA (by rfl) T.n_len (by decide +kernel) (pa_cons (pv 3) pa_nil)) pe_int (nomark _)) (pe_one (pe_call G_is_name (hr.mono (by decide)) rfl T.g_is_name T.fd_is_name.kp b_is_name .nil passL (pa_cons (pe_ix ix_seq (pv 3) pe_int (fun _ _ => rfl)) pa_nil))))))
      pss_nil)
      (pss_cons (ps_if (pt_cmpR op_eq (pv 2) pe_str (nomark _))
      (pss_one (ps_ret (pe_and (pe_cmpR op_eq (pe_callB kLenA (by rfl) T.n_len (by decide +kernel) (pa_cons (pv 3) pa_nil)) pe_int (nomark _)) (pe_and (pe_call G_is_link (hr.mono (by decide)) rfl T.g_is_link T.fd_is_link.kp b_is_link .nil passL (pa_cons (pe_ix ix_seq (pv 3) pe_int (fun _ _ => rfl)) (pa_cons (pv 1) pa_nil))) (pe_one (pe_call G_is_manner (hr.mono (by decide)) rfl T.g_is_manner T.fd_is_manner.kp b_is_manner .nil passL (pa_cons (pe_ix ix_seq (pv 3) pe_int (fun _ _ => rfl)) pa_nil)))))))
      pss_nil)
      (pss_one (ps_ret (pe_and (pe_cmpR op_eq (pv 2) pe_str (nomark _)) (pe_one (pe_call G_is_send (hr.mono (by decide)) rfl T.g_is_send T.fd_is_send.kp b_is_send .nil passL (pa_cons (pv 3) (pa_cons (pv 1) pa_nil)))))))))))))
theorem ok_copied_rules (T : Fs K mg fd) : FnOk P w K mg base (L2.CX P w) 5 (He.ga K "copied_rules") (fd 19) ["rules", "links"] (sp_copied_rules K) := by
  have G_is_rule := ok_is_rule (P := P) (w := w) (base := base) T
  have b_is_rule : Binds K (fd 18) ["rule", "links"] [] := T.fd_is_rule.bindsN fun _ _ _ _ _ _ us hl => match us, hl with | [_, _], _ => rfl
  have G_is_list := ok_is_list (P := P) (w := w) (base := base) T
  have b_is_list : Binds K (fd 8) ["x"] [] := T.fd_is_list.bindsN fun _ _ _ _ _ _ us hl => match us, hl with | [_], _ => rfl
  obtain ⟨_, c_MOST_RULES⟩ := T.c_MOST_RULES
  refine FunD.ok T.fd_copied_rules sc_copied_rules (fun vs H Q E h => len_copied_rules h) (fun cdv A outer s H vs Q E hr h => ⟨t_copied_rules K, ?_, pure_copied_rules vs H Q E h⟩)
  have hu := hu_of hr
  exact (pss_cons (ps_if (PW.pt (pw_or (pt_not (pt_val (pe_call G_is_list (hr.mono (by decide)) rfl T.g_is_list T.fd_is_list.kp b_is_list .nil passL (pa_cons (pv 0) pa_nil)))) (pw_or1 (pt_cmpR kGt (pe_callB kLenA (by rfl) T.n_len (by decide +kernel) (pa_cons (pv 0) pa_nil)) (pe_glob rfl c_MOST_RULES ⟨_, rfl⟩) (nomark _)))))
      (pss_one ps_never)
      pss_nil)
      (pss_cons (ps_if (pt_not (pt_val (pe_callB (cr_all rfl) (by rfl) T.n_all (by decide +kernel) (pa_cons (pe_lc (own := [("rule", 2)]) (g := gName 2) (tt := tYes) rfl sc_copied_rules.nd (pi_seqVar (pv 0)) (blkOk_by (N := N_copied_rules) (sc := defScope s_copied_rules) (by decide +kernel)) (fun _ _ _ _ _ => pg_name (i := 2) sc_copied_rules.nd rfl (Or.inl rfl)) (fun _ _ _ _ _ => pts_nil) (fun _ _ _ _ _ => (pe_call G_is_rule (hr.mono (by decide)) rfl T.g_is_rule T.fd_is_rule.kp b_is_rule .nil passL (pa_cons (pv 2) (pa_cons (pv 1) pa_nil))))) pa_nil))))
      (pss_one ps_never)
      pss_nil)
      (pss_one (ps_ret (pe_lc (own := [("rule", 2)]) (g := gName 2) (tt := tYes) rfl sc_copied_rules.nd (pi_seqVar (pv 0)) (blkOk_by (N := N_copied_rules) (sc := defScope s_copied_rules) (by decide +kernel)) (fun _ _ _ _ _ => pg_name (i := 2) sc_copied_rules.nd rfl (Or.inl rfl)) (fun _ _ _ _ _ => pts_nil) (fun _ _ _ _ _ => (pe_op op_catT (pe_tup (pa_cons (pe_ix ix_seq (pv 2) pe_int (fun _ _ => rfl)) (pa_cons (pe_callTy kTupOf (by rfl) T.n_tuple (by decide +kernel) (pa_cons (pe_callB cr_sortedA (by rfl) T.n_sorted (by decide +kernel) (pa_cons (pe_ix ix_seq (pv 2) pe_int (fun _ _ => rfl)) pa_nil)) pa_nil)) pa_nil))) (pe_callTy kTupOf (by rfl) T.n_tuple (by decide +kernel) (pa_cons (pe_slice (SlR.or sl_list sl_tupA) (pv 2) (po_some pe_int) po_none) pa_nil)))))))))
theorem ok_is_own_answer (T : Fs K mg fd) : FnOk P w K mg base (L2.CX P w) 2 (He.ga K "is_own_answer") (fd 20) ["answer", "links"] (sp_is_own_answer K) := by
  have G_is_link := ok_is_link (P := P) (w := w) (base := base) T
  have b_is_link : Binds K (fd 12) ["link", "links"] [] := T.fd_is_link.bindsN fun _ _ _ _ _ _ us hl => match us, hl with | [_, _], _ => rfl
  have G_is_name := ok_is_name (P := P) (w := w) (base := base) T
  have b_is_name : Binds K (fd 13) ["x"] [] := T.fd_is_name.bindsN fun _ _ _ _ _ _ us hl => match us, hl with | [_], _ => rfl
  have G_is_list := ok_is_list (P := P) (w := w) (base := base) T
  have b_is_list : Binds K (fd 8) ["x"] [] := T.fd_is_list.bindsN fun _ _ _ _ _ _ us hl => match us, hl with | [_], _ => rfl
  refine FunD.ok T.fd_is_own_answer sc_is_own_answer (fun vs H Q E h => len_is_own_answer h) (fun cdv A outer s H vs Q E hr h => ⟨t_is_own_answer K, ?_, pure_is_own_answer vs H Q E h⟩)
  have hu := hu_of hr
  exact (pss_cons (ps_if (PW.pt (pw_or (pt_not (pt_val (pe_call G_is_list (hr.mono (by decide)) rfl T.g_is_list T.fd_is_list.kp b_is_list .nil passL (pa_cons (pv 0) pa_nil)))) (pw_or (pt_cmpR op_eq (pe_callB kLenA (by rfl) T.n_len (by decide +kernel) (pa_cons (pv 0) pa_nil)) pe_int (nomark _)) (pw_or1 (pt_not (pt_val (pe_callB call_isi (by rfl) T.n_isinstance (by decide +kernel) (pa_cons (pe_ix ix_seq (pv 0) pe_int (fun _ _ => rfl)) (pa_cons (pe_bltn (by rfl) T.n_str (by decide +kernel) rfl) pa_nil)))))))))
      (pss_one (ps_ret pe_bl))
      pss_nil)
      (pss_cons (ps_set (i := 2) sc_is_own_answer.nd rfl (Or.inl rfl) (pe_ix ix_seq (pv 0) pe_int (fun _ _ => rfl)))
      (pss_cons (ps_if (pt_cmpR op_eq (pv 2) pe_str (nomark _))
      (pss_one (ps_ret (pe_cmpR op_eq (pe_callB kLenA (by rfl) T.n_len (by decide +kernel) (pa_cons (pv 0) pa_nil)) pe_int (nomark _))))
      pss_nil)
      (pss_cons (ps_if (pt_cmpR op_ne (pe_callB kLenA (by rfl) T.n_len (by decide +kernel) (pa_cons (pv 0) pa_nil)) pe_int (nomark _))
      (pss_one (ps_ret pe_bl))
      pss_nil)
      (pss_cons (ps_if (pt_cmpR op_eq (pv 2) pe_str (nomark _))
      (pss_one (ps_ret (pe_call G_is_name (hr.mono (by decide)) rfl T.g_is_name T.fd_is_name.kp b_is_name .nil passL (pa_cons (pe_ix ix_seq (pv 0) pe_int (fun _ _ => rfl)) pa_nil))))
      pss_nil)
      (pss_one (ps_ret (pe_and (pe_cmpR op_eq (pv 2) pe_str (nomark _)) (pe_one (pe_call G_is_link (hr.mono (by decide)) rfl T.g_is_link T.fd_is_link.kp b_is_link .nil passL (pa_cons (pe_ix ix_seq (pv 0) pe_int (fun _ _ => rfl)) (pa_cons (pv 1) pa_nil))))))))))))
theorem ok_copied_own (T : Fs K mg fd) : FnOk P w K mg base (L2.CX P w) 3 (He.ga K "copied_own") (fd 21) ["own", "links"] (sp_copied_own K) := by
  have G_is_name := ok_is_name (P := P) (w := w) (base := base) T
  have b_is_name : Binds K (fd 13) ["x"] [] := T.fd_is_name.bindsN fun _ _ _ _ _ _ us hl => match us, hl with | [_], _ => rfl
  have G_is_own_answer := ok_is_own_answer (P := P) (w := w) (base := base) T
  have b_is_own_answer : Binds K (fd 20) ["answer", "links"] [] := T.fd_is_own_answer.bindsN fun _ _ _ _ _ _ us hl => match us, hl with | [_, _], _ => rfl
  obtain ⟨_, c_MOST_OWN⟩ := T.c_MOST_OWN
  refine FunD.ok T.fd_copied_own sc_copied_own (fun vs H Q E h => len_copied_own h) (fun cdv A outer s H vs Q E hr h => ⟨t_copied_own K, ?_, pure_copied_own vs H Q E h⟩)
  have hu := hu_of hr
  exact (pss_cons (ps_if (PW.pt (pw_or (pt_not (pt_val (pe_callB call_isi (by rfl) T.n_isinstance (by decide +kernel) (pa_cons (pv 0) (pa_cons (pe_bltn (by rfl) T.n_dict (by decide +kernel) rfl) pa_nil))))) (pw_or1 (pt_cmpR kGt (pe_callB kLenD (by rfl) T.n_len (by decide +kernel) (pa_cons (pv 0) pa_nil)) (pe_glob rfl c_MOST_OWN ⟨_, rfl⟩) (nomark _)))))
      (pss_one ps_never)
      pss_nil)
      (pss_cons (ps_lock (ps_for (passes_of rfl) rfl (pi_items (pv 0)) (pg_tup (n := 2) rfl (pgs_cons (pg_name (i := 2) sc_copied_own.nd rfl (Or.inl rfl)) (pgs_cons (pg_name (i := 3) sc_copied_own.nd rfl (Or.inl rfl)) pgs_nil)))
      (pss_one (ps_if (PW.pt (pw_or (pt_not (pt_val (pe_call G_is_name (hr.mono (by decide)) rfl T.g_is_name T.fd_is_name.kp b_is_name .nil passL (pa_cons (pv 2) pa_nil)))) (pw_or1 (pt_not (pt_val (pe_call G_is_own_answer (hr.mono (by decide)) rfl T.g_is_own_answer T.fd_is_own_answer.kp b_is_own_answer .nil passL (pa_cons (pv 3) (pa_cons (pv 1) pa_nil))))))))
      (pss_one ps_never)
      pss_nil))))
      (pss_one (ps_ret (pe_dc (own := [("name", 2)]) (g := gName 2) (tt := tYes) rfl sc_copied_own.nd (pi_list (pe_callB (kSortD rfl) (by rfl) T.n_sorted (by decide +kernel) (pa_cons (pv 0) pa_nil))) (blkOk_by (N := N_copied_own) (sc := defScope s_copied_own) (by decide +kernel)) (fun _ _ _ _ _ => pg_name (i := 2) sc_copied_own.nd rfl (Or.inl rfl)) (fun _ _ _ _ _ => pts_nil) (fun _ _ _ _ _ => (pv 2)) (fun _ _ _ _ _ => (pe_callTy kTupOf (by rfl) T.n_tuple (by decide +kernel) (pa_cons (pe_dget hu (pv 0) (pv 2) (fun _ _ => rfl)) pa_nil))))))))
theorem ok_is_choice_list (T : Fs K mg fd) : FnOk P w K mg base (L2.CX P w) 3 (He.ga K "is_choice_list") (fd 22) ["choices"] (sp_is_choice_list K) := by
  have G_is_name_or_empty := ok_is_name_or_empty (P := P) (w := w) (base := base) T
  have b_is_name_or_empty : Binds K (fd 14) ["x"] [] := T.fd_is_name_or_empty.bindsN fun _ _ _ _ _ _ us hl => match us, hl with | [_], _ => rfl
  have G_is_list := ok_is_list (P := P) (w := w) (base := base) T
  have b_is_list : Binds K (fd 8) ["x"] [] := T.fd_is_list.bindsN fun _ _ _ _ _ _ us hl => match us, hl with | [_], _ => rfl
  obtain ⟨_, c_MOST_CHOICES⟩ := T.c_MOST_CHOICES
  refine FunD.ok T.fd_is_choice_list sc_is_choice_list (fun vs H Q E h => len_is_choice_list h) (fun cdv A outer s H vs Q E hr h => ⟨t_is_choice_list K, ?_, pure_is_choice_list vs H Q E h⟩)
  have hu := hu_of hr
  exact (pss_cons (ps_if (PW.pt (pw_or (pt_not (pt_val (pe_call G_is_list (hr.mono (by decide)) rfl T.g_is_list T.fd_is_list.kp b_is_list .nil passL (pa_cons (pv 0) pa_nil)))) (pw_or1 (pt_not (pt_chain kLe kLe pe_int (pe_callB kLenA (by rfl) T.n_len (by decide +kernel) (pa_cons (pv 0) pa_nil)) (pe_glob rfl c_MOST_CHOICES ⟨_, rfl⟩))))))
      (pss_one (ps_ret pe_bl))
      pss_nil)
      (pss_one (ps_ret (pe_and (pe_callB (cr_all rfl) (by rfl) T.n_all (by decide +kernel) (pa_cons (pe_lc (own := [("choice", 1)]) (g := gName 1) (tt := tYes) rfl sc_is_choice_list.nd (pi_seqVar (pv 0)) (blkOk_by (N := N_is_choice_list) (sc := defScope s_is_choice_list) (by decide +kernel)) (fun _ _ _ _ _ => pg_name (i := 1) sc_is_choice_list.nd rfl (Or.inl rfl)) (fun _ _ _ _ _ => pts_nil) (fun _ _ _ _ _ => (pe_call G_is_name_or_empty (hr.mono (by decide)) rfl T.g_is_name_or_empty T.fd_is_name_or_empty.kp b_is_name_or_empty .nil passL (pa_cons (pv 1) pa_nil)))) pa_nil)) (pe_one (pe_cmpR op_eq (pe_lenUni rfl T.n_len rfl T.n_set (pv 0)) (pe_callB kLenA (by rfl) T.n_len (by decide +kernel) (pa_cons (pv 0) pa_nil)) (nomark _)))))))
theorem ok_copied_links (T : Fs K mg fd) : FnOk P w K mg base (L2.CX P w) 4 (He.ga K "copied_links") (fd 23) ["links"] (sp_copied_links K) := by
  have G_is_name := ok_is_name (P := P) (w := w) (base := base) T
  have b_is_name : Binds K (fd 13) ["x"] [] := T.fd_is_name.bindsN fun _ _ _ _ _ _ us hl => match us, hl with | [_], _ => rfl
  have G_is_choice_list := ok_is_choice_list (P := P) (w := w) (base := base) T
  have b_is_choice_list : Binds K (fd 22) ["choices"] [] := T.fd_is_choice_list.bindsN fun _ _ _ _ _ _ us hl => match us, hl with | [_], _ => rfl
  obtain ⟨_, c_MOST_LINKS⟩ := T.c_MOST_LINKS
  refine FunD.ok T.fd_copied_links sc_copied_links (fun vs H Q E h => len_copied_links h) (fun cdv A outer s H vs Q E hr h => ⟨t_copied_links K, ?_, pure_copied_links vs H Q E h⟩)
  have hu := hu_of hr
  exact (pss_cons (ps_if (PW.pt (pw_or (pt_not (pt_val (pe_callB call_isi (by rfl) T.n_isinstance (by decide +kernel) (pa_cons (pv 0) (pa_cons (pe_bltn (by rfl) T.n_dict (by decide +kernel) rfl) pa_nil))))) (pw_or1 (pt_cmpR kGt (pe_callB kLenD (by rfl) T.n_len (by decide +kernel) (pa_cons (pv 0) pa_nil)) (pe_glob rfl c_MOST_LINKS ⟨_, rfl⟩) (nomark _)))))
      (pss_one ps_never)
      pss_nil)
      (pss_cons (ps_lock (ps_for (passes_of rfl) rfl (pi_items (pv 0)) (pg_tup (n := 2) rfl (pgs_cons (pg_name (i := 1) sc_copied_links.nd rfl (Or.inl rfl)) (pgs_cons (pg_name (i := 2) sc_copied_links.nd rfl (Or.inl rfl)) pgs_nil)))
      (pss_one (ps_if (PW.pt (pw_or (pt_not (pt_val (pe_call G_is_name (hr.mono (by decide)) rfl T.g_is_name T.fd_is_name.kp b_is_name .nil passL (pa_cons (pv 1) pa_nil)))) (pw_or1 (pt_not (pt_val (pe_call G_is_choice_list (hr.mono (by decide)) rfl T.g_is_choice_list T.fd_is_choice_list.kp b_is_choice_list .nil passL (pa_cons (pv 2) pa_nil)))))))
      (pss_one ps_never)
      pss_nil))))
      (pss_one (ps_ret (pe_dc (own := [("link", 1)]) (g := gName 1) (tt := tYes) rfl sc_copied_links.nd (pi_list (pe_callB (kSortD rfl) (by rfl) T.n_sorted (by decide +kernel) (pa_cons (pv 0) pa_nil))) (blkOk_by (N := N_copied_links) (sc := defScope s_copied_links) (by decide +kernel)) (fun _ _ _ _ _ => pg_name (i := 1) sc_copied_links.nd rfl (Or.inl rfl)) (fun _ _ _ _ _ => pts_nil) (fun _ _ _ _ _ => (pv 1)) (fun _ _ _ _ _ => (pe_callTy kTupOf (by rfl) T.n_tuple (by decide +kernel) (pa_cons (pe_callB cr_sortedA (by rfl) T.n_sorted (by decide +kernel) (pa_cons (pe_dget hu (pv 0) (pv 1) (fun _ _ => rfl)) pa_nil)) pa_nil))))))))
theorem ok_Kind_init (T : Fs K mg fd) : FnOk P w K mg base (L2.CX P w) 6 (He.ma K (He.ga K "Kind") "__init__") (fd 24) ["self", "name", "links", "own", "rules", "hidden"] (sp_Kind_init K) := by
  have G_is_flag := ok_is_flag (P := P) (w := w) (base := base) T
  have b_is_flag : Binds K (fd 11) ["x"] [] := T.fd_is_flag.bindsN fun _ _ _ _ _ _ us hl => match us, hl with | [_], _ => rfl
  have G_copied_rules := ok_copied_rules (P := P) (w := w) (base := base) T
  have b_copied_rules : Binds K (fd 19) ["rules", "links"] [] := T.fd_copied_rules.bindsN fun _ _ _ _ _ _ us hl => match us, hl with | [_, _], _ => rfl
  have G_copied_own := ok_copied_own (P := P) (w := w) (base := base) T
  have b_copied_own : Binds K (fd 21) ["own", "links"] [] := T.fd_copied_own.bindsN fun _ _ _ _ _ _ us hl => match us, hl with | [_, _], _ => rfl
  have G_copied_links := ok_copied_links (P := P) (w := w) (base := base) T
  have b_copied_links : Binds K (fd 23) ["links"] [] := T.fd_copied_links.bindsN fun _ _ _ _ _ _ us hl => match us, hl with | [_], _ => rfl
  have G_is_name := ok_is_name (P := P) (w := w) (base := base) T
  have b_is_name : Binds K (fd 13) ["x"] [] := T.fd_is_name.bindsN fun _ _ _ _ _ _ us hl => match us, hl with | [_], _ => rfl
  refine FunD.ok T.fd_Kind_init sc_Kind_init (fun vs H Q E h => len_Kind_init h) (fun cdv A outer s H vs Q E hr h => ⟨t_Kind_init K, ?_, pure_Kind_init vs H Q E h⟩)
  have hu := hu_of hr
  exact (pss_cons (ps_if (pt_not (pt_val (pe_call G_is_name (hr.mono (by decide)) rfl T.g_is_name T.fd_is_name.kp b_is_name .nil passL (pa_cons (pv 1) pa_nil))))
      (pss_one ps_never)
      pss_nil)
      (pss_cons (ps_fld (pv 0) (pv 1) rfl)
      (pss_cons (ps_fld (pv 0) (pe_call G_copied_links (hr.mono (by decide)) rfl T.g_copied_links T.fd_copied_links.kp b_copied_links .nil passL (pa_cons (pv 2) pa_nil)) rfl)
      (pss_cons (ps_fld (pv 0) (pe_call G_copied_own (hr.mono (by decide)) rfl T.g_copied_own T.fd_copied_own.kp b_copied_own .nil passL (pa_cons (pv 3) (pa_cons (pe_fld (pv 0) rfl) pa_nil))) rfl)
      (pss_cons (ps_fld (pv 0) (pe_call G_copied_rules (hr.mono (by decide)) rfl T.g_copied_rules T.fd_copied_rules.kp b_copied_rules .nil passL (pa_cons (pv 4) (pa_cons (pe_fld (pv 0) rfl) pa_nil))) rfl)
      (pss_cons (ps_if (pt_not (pt_val (pe_call G_is_flag (hr.mono (by decide)) rfl T.g_is_flag T.fd_is_flag.kp b_is_flag .nil passL (pa_cons (pv 5) pa_nil))))
      (pss_one ps_never)
      pss_nil)
      (pss_one (ps_fld (pv 0) (pv 5) rfl))))))))
theorem ok_l_kind (T : Fs K mg fd) : FnOk P w K mg base (L2.CX P w) 8 (He.ga K "_law_kind") (fd 25) ["_law_kind_here"] (sp_l_kind K) := by
  have G_Kind_init := ok_Kind_init (P := P) (w := w) (base := base) T
  obtain ⟨_, bk_Kind_init⟩ := bK1_Kind_init T.fd_Kind_init
  obtain ⟨_, r0_Kind_init, b0_Kind_init⟩ := bK0_Kind_init T.fd_Kind_init
  refine FunD.ok T.fd_l_kind sc_l_kind (fun vs H Q E h => len_l_kind h) (fun cdv A outer s H vs Q E hr h => ⟨t_l_kind K, ?_, pure_l_kind vs H Q E h⟩)
  have hu := hu_of hr
  exact (pss_one (ps_ret (pe_makeN (x := "Kind") (n := 4) (ks := ["hidden"]) T.mk_Kind G_Kind_init (hr.mono (by decide)) rfl T.g_Kind bk_Kind_init passL (pa_cons (pe_ix ix_list (pv 0) pe_int (fun _ _ => rfl)) (pa_cons (pe_callTy kDictD (by rfl) T.n_dict (by decide +kernel) (pa_cons (pe_ix ix_list (pv 0) pe_int (fun _ _ => rfl)) pa_nil)) (pa_cons (pe_callTy kDictD (by rfl) T.n_dict (by decide +kernel) (pa_cons (pe_ix ix_list (pv 0) pe_int (fun _ _ => rfl)) pa_nil)) (pa_cons (pe_callTy kListOf (by rfl) T.n_list (by decide +kernel) (pa_cons (pe_ix ix_list (pv 0) pe_int (fun _ _ => rfl)) pa_nil)) pa_nil)))) (pk_cons (pe_ix ix_list (pv 0) pe_int (fun _ _ => rfl)) pk_nil))))
theorem ok_l_built (T : Fs K mg fd) : FnOk P w K mg base (L2.CX P w) 9 (He.ga K "_law_built") (fd 26) ["_law_house_here"] (sp_l_built K) := by
  have G_House_init := ok_House_init (P := P) (w := w) (base := base) T
  have b_House_init : Binds K (fd 10) ["self", "kinds"] [] := T.fd_House_init.bindsN fun _ _ _ _ _ _ us hl => match us, hl with | [_, _], _ => rfl
  have G_l_kind := ok_l_kind (P := P) (w := w) (base := base) T
  have b_l_kind : Binds K (fd 25) ["_law_kind_here"] [] := T.fd_l_kind.bindsN fun _ _ _ _ _ _ us hl => match us, hl with | [_], _ => rfl
  refine FunD.ok T.fd_l_built sc_l_built (fun vs H Q E h => len_l_built h) (fun cdv A outer s H vs Q E hr h => ⟨t_l_built K, ?_, pure_l_built vs H Q E h⟩)
  have hu := hu_of hr
  exact (pss_one (ps_ret (pe_make T.mk_House G_House_init (hr.mono (by decide)) rfl T.g_House b_House_init .nil passL (pa_cons (pe_lc (own := [("_law_kind_here", 1)]) (g := gName 1) (tt := tYes) rfl sc_l_built.nd (pi_list (pv 0)) (blkOk_by (N := N_l_built) (sc := defScope s_l_built) (by decide +kernel)) (fun _ _ _ _ _ => pg_name (i := 1) sc_l_built.nd rfl (Or.inl rfl)) (fun _ _ _ _ _ => pts_nil) (fun _ _ _ _ _ => (pe_call G_l_kind (hr.mono (by decide)) rfl T.g_l_kind T.fd_l_kind.kp b_l_kind .nil passL (pa_cons (pv 1) pa_nil)))) pa_nil))))
theorem ok_l_draw (T : Fs K mg fd) : FnOk P w K mg base (L2.CX P w) 1 (He.ga K "_law_draw") (fd 27) ["_law_state_here", "_law_many"] (sp_l_draw K) := by
  refine FunD.ok T.fd_l_draw sc_l_draw (fun vs H Q E h => len_l_draw h) (fun cdv A outer s H vs Q E hr h => ⟨t_l_draw K, ?_, pure_l_draw vs H Q E h⟩)
  have hu := hu_of hr
  exact (pss_cons (ps_set (i := 2) sc_l_draw.nd rfl (Or.inl rfl) (pe_ix ix_list (pv 0) pe_int (fun _ _ => rfl)))
      (pss_cons (ps_set (i := 3) sc_l_draw.nd rfl (Or.inl rfl) (pe_op kMod (pe_callTy kInt1 (by rfl) T.n_int (by decide +kernel) (pa_cons (pe_ix ix_list (pv 0) pe_int (fun _ _ => rfl)) pa_nil)) (pe_callB kLenA (by rfl) T.n_len (by decide +kernel) (pa_cons (pv 2) pa_nil))))
      (pss_cons (ps_asg (pe_op kAdd (pe_ix ix_list (pv 0) pe_int (fun _ _ => rfl)) pe_int) (pg_sub (pv 0) pe_int set_list))
      (pss_cons (ps_set (i := 4) sc_l_draw.nd rfl (Or.inl rfl) (pe_ix ix_list (pv 2) (pv 3) (fun _ _ => rfl)))
      (pss_cons (ps_if (pt_cmpR kGe (pv 4) (pe_op kPow pe_int pe_int) (nomark _))
      (pss_cons (ps_asg (pe_op kDiv (pv 4) (pv 1)) (pg_sub (pv 2) (pv 3) set_list))
      (pss_one (ps_ret (pe_op kMod (pe_callTy kInt1 (by rfl) T.n_int (by decide +kernel) (pa_cons (pv 4) pa_nil)) (pv 1)))))
      pss_nil)
      (pss_cons (ps_asg (pe_op kAdd (pe_ix ix_list (pv 0) pe_int (fun _ _ => rfl)) pe_int) (pg_sub (pv 0) pe_int set_list))
      (pss_cons (ps_set (i := 5) sc_l_draw.nd rfl (Or.inl rfl) (pe_op kMod (pe_callTy kInt1 (by rfl) T.n_int (by decide +kernel) (pa_cons (pe_op kMul (pe_op kAdd (pe_op kAdd (pv 4) (pe_op kMul pe_int (pe_ix ix_list (pv 0) pe_int (fun _ _ => rfl)))) pe_int) pe_int) pa_nil)) pe_int))
      (pss_cons (ps_set (i := 5) sc_l_draw.nd rfl (Or.inl rfl) (pe_op kMod (pe_callTy kInt1 (by rfl) T.n_int (by decide +kernel) (pa_cons (pe_op kMul (pv 5) (pe_op kAdd (pe_op kDiv (pv 5) pe_int) pe_int)) pa_nil)) pe_int))
      (pss_cons (ps_set (i := 5) sc_l_draw.nd rfl (Or.inl rfl) (pe_op kMod (pe_callTy kInt1 (by rfl) T.n_int (by decide +kernel) (pa_cons (pe_op kMul (pv 5) (pe_op kAdd (pe_op kDiv (pv 5) pe_int) pe_int)) pa_nil)) pe_int))
      (pss_one (ps_ret (pe_op kMod (pe_callTy kInt1 (by rfl) T.n_int (by decide +kernel) (pa_cons (pe_op kDiv (pv 5) pe_int) pa_nil)) (pv 1)))))))))))))
theorem ok_NoKind_init (T : Fs K mg fd) : FnOk P w K mg base (L2.CX P w) 1 (He.ma K (He.ga K "NoKind") "__init__") (fd 28) ["self", "kind"] (sp_NoKind_init K) := by
  refine FunD.ok T.fd_NoKind_init sc_NoKind_init (fun vs H Q E h => len_NoKind_init h) (fun cdv A outer s H vs Q E hr h => ⟨t_NoKind_init K, ?_, pure_NoKind_init vs H Q E h⟩)
  have hu := hu_of hr
  exact (pss_cons (ps_expr (pe_baseinit rfl T.g_AskError T.a_AskError (pa_cons (pv 0) (pa_cons pe_str pa_nil))))
      (pss_one (ps_ost (pv 0) (pv 1))))
theorem ok_House_getitem (T : Fs K mg fd) : FnOk P w K mg base (L2N.CX P w) 3 (He.ma K (He.ga K "House") "__getitem__") (fd 29) ["self", "name"] (sp_House_getitem K) := by
  have G_NoKind_init := ok_NoKind_init (P := P) (w := w) (base := base) T
  have b_NoKind_init : Binds K (fd 28) ["self", "kind"] [] := T.fd_NoKind_init.bindsN fun _ _ _ _ _ _ us hl => match us, hl with | [_, _], _ => rfl
  refine FunD.ok T.fd_House_getitem sc_House_getitem (fun vs H Q E h => len_House_getitem h) (fun cdv A outer s H vs Q E hr h => ⟨t_House_getitem E K, ?_, pure_House_getitem vs H Q E h⟩)
  have hu := hu_of hr
  exact (pss_cons (ps_if (PW.pt (pw_or (pt_not (pt_val (pe_callB call_isi (by rfl) T.n_isinstance (by decide +kernel) (pa_cons (pv 1) (pa_cons (pe_bltn (by rfl) T.n_str (by decide +kernel) rfl) pa_nil))))) (pw_or1 (pt_cmp (pc_dnotin hu (pv 1) (pe_fld (pv 0) rfl))))))
      (pss_one (L2N.ps_raise rfl (L2N.takes_of rfl rfl rfl rfl) (pmk_oexN T.x_NoKind T.i_NoKind T.t_NoKind G_NoKind_init (hr.mono (by decide)) b_NoKind_init passL rfl T.g_NoKind (pa_cons (pv 1) pa_nil))))
      pss_nil)
      (pss_one (ps_ret (pe_dget hu (pe_fld (pv 0) rfl) (pv 1) (fun _ _ => rfl)))))
theorem ok_NoName_init (T : Fs K mg fd) : FnOk P w K mg base (L2.CX P w) 1 (He.ma K (He.ga K "NoName") "__init__") (fd 30) ["self", "name"] (sp_NoName_init K) := by
  refine FunD.ok T.fd_NoName_init sc_NoName_init (fun vs H Q E h => len_NoName_init h) (fun cdv A outer s H vs Q E hr h => ⟨t_NoName_init K, ?_, pure_NoName_init vs H Q E h⟩)
  have hu := hu_of hr
  exact (pss_cons (ps_expr (pe_baseinit rfl T.g_AskError T.a_AskError (pa_cons (pv 0) (pa_cons pe_str pa_nil))))
      (pss_one (ps_ost (pv 0) (pv 1))))
theorem ok_House_column_of (T : Fs K mg fd) : FnOk P w K mg base (L2N.CX P w) 3 (He.ma K (He.ga K "House") "column_of") (fd 31) ["self", "name"] (sp_House_column_of K) := by
  have G_is_name_or_empty := ok_is_name_or_empty (P := P) (w := w) (base := base) T
  have b_is_name_or_empty : Binds K (fd 14) ["x"] [] := T.fd_is_name_or_empty.bindsN fun _ _ _ _ _ _ us hl => match us, hl with | [_], _ => rfl
  have G_NoName_init := ok_NoName_init (P := P) (w := w) (base := base) T
  have b_NoName_init : Binds K (fd 30) ["self", "name"] [] := T.fd_NoName_init.bindsN fun _ _ _ _ _ _ us hl => match us, hl with | [_, _], _ => rfl
  refine FunD.ok T.fd_House_column_of sc_House_column_of (fun vs H Q E h => len_House_column_of h) (fun cdv A outer s H vs Q E hr h => ⟨t_House_column_of E K, ?_, pure_House_column_of vs H Q E h⟩)
  have hu := hu_of hr
  exact (pss_cons (ps_if (pt_not (pt_val (pe_call G_is_name_or_empty (hr.mono (by decide)) rfl T.g_is_name_or_empty T.fd_is_name_or_empty.kp b_is_name_or_empty .nil passL (pa_cons (pv 1) pa_nil))))
      (pss_one (L2N.ps_raise rfl (L2N.takes_of rfl rfl rfl rfl) (pmk_oexN T.x_NoName T.i_NoName T.t_NoName G_NoName_init (hr.mono (by decide)) b_NoName_init passL rfl T.g_NoName (pa_cons (pv 1) pa_nil))))
      pss_nil)
      (pss_cons (ps_if (pt_cmpR op_in_seq (pv 1) (pe_fld (pv 0) rfl) (by rfl))
      (pss_one (ps_ret (pv 1)))
      pss_nil)
      (pss_one (ps_ret pe_str))))
theorem ok_l_like (T : Fs K mg fd) : ∀ n, FnOk P w K mg base (L2.CX P w) n (He.ga K "_law_like") (fd 32) ["_law_told", "_law_due"] (sp_l_like n K)
  | 0 => ⟨fun vs H Q E h => len_l_like h, fun _ _ _ _ _ _ _ _ _ _ _ _ _ h => (no_l_like h).elim⟩
  | n + 1 => by
    have G_l_like := ok_l_like T n
    have b_l_like : Binds K (fd 32) ["_law_told", "_law_due"] [] := T.fd_l_like.bindsN fun _ _ _ _ _ _ us hl => match us, hl with | [_, _], _ => rfl
    refine FunD.ok T.fd_l_like sc_l_like (fun vs H Q E h => len_l_like h) (fun cdv A outer s H vs Q E hr h => ⟨t_l_like n K, ?_, pure_l_like n vs H Q E h⟩)
    have hu := hu_of hr
    exact (pss_cons (ps_if (pt_val (pe_callB call_isi (by rfl) T.n_isinstance (by decide +kernel) (pa_cons (pv 1) (pa_cons (pe_bltn (by rfl) T.n_dict (by decide +kernel) rfl) pa_nil))))
      (pss_cons (ps_if (PW.pt (pw_or (pt_not (pt_val (pe_callB call_isi (by rfl) T.n_isinstance (by decide +kernel) (pa_cons (pv 0) (pa_cons (pe_bltn (by rfl) T.n_dict (by decide +kernel) rfl) pa_nil))))) (pw_or1 (pt_cmpR (op_neD hr.units) (pe_callB cr_sortedS (by rfl) T.n_sorted (by decide +kernel) (pa_cons (pe_callTy (kListK rfl) (by rfl) T.n_list (by decide +kernel) (pa_cons (pv 0) pa_nil)) pa_nil)) (pe_callB cr_sortedS (by rfl) T.n_sorted (by decide +kernel) (pa_cons (pe_callTy (kListK rfl) (by rfl) T.n_list (by decide +kernel) (pa_cons (pv 1) pa_nil)) pa_nil)) (nomark _)))))
      (pss_one (ps_ret pe_bl))
      pss_nil)
      (pss_one (ps_ret (pe_cmpR (op_eqD hr.units) (pe_lock (pe_lc (own := [("_law_k", 2)]) (g := gName 2) (tt := (tNot (tB (tCall (sp_l_like n K) [] E0 (tCons (tDGet (tVar 0) (tVar 2)) (tCons (tDGet (tVar 1) (tVar 2)) tNil)))))) rfl sc_l_like.nd (pi_keys (pv 1)) (blkOk_by (N := N_l_like) (sc := defScope s_l_like) (by decide +kernel)) (fun _ _ _ _ _ => pg_name (i := 2) sc_l_like.nd rfl (Or.inl rfl)) (fun _ _ _ _ _ => (pts_one (pt_not (pt_val (pe_call G_l_like (hr.mono (by omega)) rfl T.g_l_like T.fd_l_like.kp b_l_like .nil passL (pa_cons (pe_dget hu (pv 0) (pv 2) (fun _ _ => rfl)) (pa_cons (pe_dget hu (pv 1) (pv 2) (fun _ _ => rfl)) pa_nil))))))) (fun _ _ _ _ _ => (pv 2)))) (pe_lst pa_nil) (nomark _)))))
      pss_nil)
      (pss_cons (ps_if (pt_val (pe_callB call_isiT (by rfl) T.n_isinstance (by decide +kernel) (pa_cons (pv 1) (pa_cons (pe_tup (pa_cons (pe_bltn (by rfl) T.n_list (by decide +kernel) rfl) (pa_cons (pe_bltn (by rfl) T.n_tuple (by decide +kernel) rfl) pa_nil))) pa_nil))))
      (pss_cons (ps_if (PW.pt (pw_or (pt_not (pt_val (pe_callB call_isiT (by rfl) T.n_isinstance (by decide +kernel) (pa_cons (pv 0) (pa_cons (pe_tup (pa_cons (pe_bltn (by rfl) T.n_list (by decide +kernel) rfl) (pa_cons (pe_bltn (by rfl) T.n_tuple (by decide +kernel) rfl) pa_nil))) pa_nil))))) (pw_or1 (pt_cmpR op_ne (pe_callB call_isi (by rfl) T.n_isinstance (by decide +kernel) (pa_cons (pv 0) (pa_cons (pe_bltn (by rfl) T.n_list (by decide +kernel) rfl) pa_nil))) (pe_callB call_isi (by rfl) T.n_isinstance (by decide +kernel) (pa_cons (pv 1) (pa_cons (pe_bltn (by rfl) T.n_list (by decide +kernel) rfl) pa_nil))) (nomark _)))))
      (pss_one (ps_ret pe_bl))
      pss_nil)
      (pss_cons (ps_if (pt_cmpR op_ne (pe_callB kLenA (by rfl) T.n_len (by decide +kernel) (pa_cons (pv 0) pa_nil)) (pe_callB kLenA (by rfl) T.n_len (by decide +kernel) (pa_cons (pv 1) pa_nil)) (nomark _))
      (pss_one (ps_ret pe_bl))
      pss_nil)
      (pss_one (ps_ret (pe_cmpR (op_eqD hr.units) (pe_lc (own := [("_law_k", 2)]) (g := gName 2) (tt := (tNot (tB (tCall (sp_l_like n K) [] E0 (tCons (tOp (rIx K) (tVar 0) (tVar 2)) (tCons (tOp (rIx K) (tVar 1) (tVar 2)) tNil)))))) rfl sc_l_like.nd (pi_range1 rfl T.n_range (pa_cons (pe_callB kLenA (by rfl) T.n_len (by decide +kernel) (pa_cons (pv 1) pa_nil)) pa_nil)) (blkOk_by (N := N_l_like) (sc := defScope s_l_like) (by decide +kernel)) (fun _ _ _ _ _ => pg_name (i := 2) sc_l_like.nd rfl (Or.inl rfl)) (fun _ _ _ _ _ => (pts_one (pt_not (pt_val (pe_call G_l_like (hr.mono (by omega)) rfl T.g_l_like T.fd_l_like.kp b_l_like .nil passL (pa_cons (pe_ix ix_seq (pv 0) (pv 2) (fun _ _ => rfl)) (pa_cons (pe_ix ix_seq (pv 1) (pv 2) (fun _ _ => rfl)) pa_nil))))))) (fun _ _ _ _ _ => (pv 2))) (pe_lst pa_nil) (nomark _))))))
      pss_nil)
      (pss_cons (ps_if (pt_cmpR op_ne (pe_callB call_isi (by rfl) T.n_isinstance (by decide +kernel) (pa_cons (pv 0) (pa_cons (pe_bltn (by rfl) T.n_bool (by decide +kernel) rfl) pa_nil))) (pe_callB call_isi (by rfl) T.n_isinstance (by decide +kernel) (pa_cons (pv 1) (pa_cons (pe_bltn (by rfl) T.n_bool (by decide +kernel) rfl) pa_nil))) (nomark _))
      (pss_one (ps_ret pe_bl))
      pss_nil)
      (pss_one (ps_ret (pe_and (pe_cmpR op_eq (pe_callB call_isi (by rfl) T.n_isinstance (by decide +kernel) (pa_cons (pv 0) (pa_cons (pe_bltn (by rfl) T.n_int (by decide +kernel) rfl) pa_nil))) (pe_callB call_isi (by rfl) T.n_isinstance (by decide +kernel) (pa_cons (pv 1) (pa_cons (pe_bltn (by rfl) T.n_int (by decide +kernel) rfl) pa_nil))) (nomark _)) (pe_one (pe_cmpR op_eq (pv 0) (pv 1) (nomark _)))))))))
theorem okH_l_like (T : Fs K mg fd) : ∀ n, FnH P w K mg base (L2.CX P w) n (He.ga K "_law_like") (fd 32) ["_law_told", "_law_due"] (sp_l_like n K)
  | 0 => noHot fun _ _ _ _ h => no_l_like h
  | n + 1 => by
    have H_l_like := okH_l_like T n
    have b_l_like : Binds K (fd 32) ["_law_told", "_law_due"] [] := T.fd_l_like.bindsN fun _ _ _ _ _ _ us hl => match us, hl with | [_, _], _ => rfl
    refine okHot T.fd_l_like sc_l_like (fun vs H Q E h => len_l_like h) (fun cdv A outer s H vs Q E p hc hr h => ⟨t_l_like n K, ?_, pure_l_like n vs H Q E h⟩)
    have hu := huH1 hr
    exact (pss_cons (ps_if (pt_val (pe_callB call_isi (by rfl) T.n_isinstance (by decide +kernel) (pa_cons (pv 1) (pa_cons (pe_bltn (by rfl) T.n_dict (by decide +kernel) rfl) pa_nil))))
      (pss_cons (ps_if (PW.pt (pw_or (pt_not (pt_val (pe_callB call_isi (by rfl) T.n_isinstance (by decide +kernel) (pa_cons (pv 0) (pa_cons (pe_bltn (by rfl) T.n_dict (by decide +kernel) rfl) pa_nil))))) (pw_or1 (pt_cmpR (op_neD (huH hr)) (pe_callB cr_sortedS (by rfl) T.n_sorted (by decide +kernel) (pa_cons (pe_callTy (kListKH hc) (by rfl) T.n_list (by decide +kernel) (pa_cons (pv 0) pa_nil)) pa_nil)) (pe_callB cr_sortedS (by rfl) T.n_sorted (by decide +kernel) (pa_cons (pe_callTy (kListKH hc) (by rfl) T.n_list (by decide +kernel) (pa_cons (pv 1) pa_nil)) pa_nil)) (nomark _)))))
      (pss_one (ps_ret pe_bl))
      pss_nil)
      (pss_one (ps_ret (pe_cmpR (op_eqD (huH hr)) (pe_lock (pe_lcH (own := [("_law_k", 2)]) (g := gName 2) (tt := (tNot (tB (tCall (sp_l_like n K) [] E0 (tCons (tDGet (tVar 0) (tVar 2)) (tCons (tDGet (tVar 1) (tVar 2)) tNil)))))) hc sc_l_like.nd (pi_keysH (pv 1)) (blkOk_by (N := N_l_like) (sc := defScope s_l_like) (by decide +kernel)) (fun pp _ _ _ _ _ hp => pg_name (i := 2) sc_l_like.nd rfl (Or.inl rfl)) (fun pp _ _ _ _ _ hp => (pts_one (pt_not (pt_val (pe_callHC H_l_like (hr.mono (by omega)) ⟨pp, hp, List.mem_cons_self⟩ rfl T.g_l_like T.fd_l_like.kp b_l_like passH (pa_cons (pe_dget hu (pv 0) (pv 2) (fun _ _ => rfl)) (pa_cons (pe_dget hu (pv 1) (pv 2) (fun _ _ => rfl)) pa_nil))))))) (fun pp _ _ _ _ _ hp => (pv 2)))) (pe_lst pa_nil) (nomark _)))))
      pss_nil)
      (pss_cons (ps_if (pt_val (pe_callB call_isiT (by rfl) T.n_isinstance (by decide +kernel) (pa_cons (pv 1) (pa_cons (pe_tup (pa_cons (pe_bltn (by rfl) T.n_list (by decide +kernel) rfl) (pa_cons (pe_bltn (by rfl) T.n_tuple (by decide +kernel) rfl) pa_nil))) pa_nil))))
      (pss_cons (ps_if (PW.pt (pw_or (pt_not (pt_val (pe_callB call_isiT (by rfl) T.n_isinstance (by decide +kernel) (pa_cons (pv 0) (pa_cons (pe_tup (pa_cons (pe_bltn (by rfl) T.n_list (by decide +kernel) rfl) (pa_cons (pe_bltn (by rfl) T.n_tuple (by decide +kernel) rfl) pa_nil))) pa_nil))))) (pw_or1 (pt_cmpR op_ne (pe_callB call_isi (by rfl) T.n_isinstance (by decide +kernel) (pa_cons (pv 0) (pa_cons (pe_bltn (by rfl) T.n_list (by decide +kernel) rfl) pa_nil))) (pe_callB call_isi (by rfl) T.n_isinstance (by decide +kernel) (pa_cons (pv 1) (pa_cons (pe_bltn (by rfl) T.n_list (by decide +kernel) rfl) pa_nil))) (nomark _)))))
      (pss_one (ps_ret pe_bl))
      pss_nil)
      (pss_cons (ps_if (pt_cmpR op_ne (pe_callB kLenA (by rfl) T.n_len (by decide +kernel) (pa_cons (pv 0) pa_nil)) (pe_callB kLenA (by rfl) T.n_len (by decide +kernel) (pa_cons (pv 1) pa_nil)) (nomark _))
      (pss_one (ps_ret pe_bl))
      pss_nil)
      (pss_one (ps_ret (pe_cmpR (op_eqD (huH hr)) (pe_lcH (own := [("_law_k", 2)]) (g := gName 2) (tt := (tNot (tB (tCall (sp_l_like n K) [] E0 (tCons (tOp (rIx K) (tVar 0) (tVar 2)) (tCons (tOp (rIx K) (tVar 1) (tVar 2)) tNil)))))) hc sc_l_like.nd (pi_range1H rfl T.n_range (pa_cons (pe_callB kLenA (by rfl) T.n_len (by decide +kernel) (pa_cons (pv 1) pa_nil)) pa_nil)) (blkOk_by (N := N_l_like) (sc := defScope s_l_like) (by decide +kernel)) (fun pp _ _ _ _ _ hp => pg_name (i := 2) sc_l_like.nd rfl (Or.inl rfl)) (fun pp _ _ _ _ _ hp => (pts_one (pt_not (pt_val (pe_callHC H_l_like (hr.mono (by omega)) ⟨pp, hp, List.mem_cons_self⟩ rfl T.g_l_like T.fd_l_like.kp b_l_like passH (pa_cons (pe_ix ix_seq (pv 0) (pv 2) (fun _ _ => rfl)) (pa_cons (pe_ix ix_seq (pv 1) (pv 2) (fun _ _ => rfl)) pa_nil))))))) (fun pp _ _ _ _ _ hp => (pv 2))) (pe_lst pa_nil) (nomark _))))))
      pss_nil)
      (pss_cons (ps_if (pt_cmpR op_ne (pe_callB call_isi (by rfl) T.n_isinstance (by decide +kernel) (pa_cons (pv 0) (pa_cons (pe_bltn (by rfl) T.n_bool (by decide +kernel) rfl) pa_nil))) (pe_callB call_isi (by rfl) T.n_isinstance (by decide +kernel) (pa_cons (pv 1) (pa_cons (pe_bltn (by rfl) T.n_bool (by decide +kernel) rfl) pa_nil))) (nomark _))
      (pss_one (ps_ret pe_bl))
      pss_nil)
      (pss_one (ps_ret (pe_and (pe_cmpR op_eq (pe_callB call_isi (by rfl) T.n_isinstance (by decide +kernel) (pa_cons (pv 0) (pa_cons (pe_bltn (by rfl) T.n_int (by decide +kernel) rfl) pa_nil))) (pe_callB call_isi (by rfl) T.n_isinstance (by decide +kernel) (pa_cons (pv 1) (pa_cons (pe_bltn (by rfl) T.n_int (by decide +kernel) rfl) pa_nil))) (nomark _)) (pe_one (pe_cmpR op_eq (pv 0) (pv 1) (nomark _)))))))))
theorem ok_l_refuses (T : Fs K mg fd) : FnOk P w K mg base (L2.CX P w) 8 (He.ga K "_law_refuses") (fd 33) ["_law_told", "_law_value_here"] (sp_l_refuses K) := by
  have G_House_getitem := ok_House_getitem (P := P) (w := w) (base := base) T
  have b_House_getitem : Binds K (fd 29) ["self", "name"] [] := T.fd_House_getitem.bindsN fun _ _ _ _ _ _ us hl => match us, hl with | [_, _], _ => rfl
  have G_NoKind_init := ok_NoKind_init (P := P) (w := w) (base := base) T
  have b_NoKind_init : Binds K (fd 28) ["self", "kind"] [] := T.fd_NoKind_init.bindsN fun _ _ _ _ _ _ us hl => match us, hl with | [_, _], _ => rfl
  have G_House_column_of := ok_House_column_of (P := P) (w := w) (base := base) T
  have b_House_column_of : Binds K (fd 31) ["self", "name"] [] := T.fd_House_column_of.bindsN fun _ _ _ _ _ _ us hl => match us, hl with | [_, _], _ => rfl
  have G_NoName_init := ok_NoName_init (P := P) (w := w) (base := base) T
  have b_NoName_init : Binds K (fd 30) ["self", "name"] [] := T.fd_NoName_init.bindsN fun _ _ _ _ _ _ us hl => match us, hl with | [_, _], _ => rfl
  have H_l_like := okH_l_like (P := P) (w := w) (base := base) T 6
  have b_l_like : Binds K (fd 32) ["_law_told", "_law_due"] [] := T.fd_l_like.bindsN fun _ _ _ _ _ _ us hl => match us, hl with | [_, _], _ => rfl
  refine FunD.ok T.fd_l_refuses sc_l_refuses (fun vs H Q E h => len_l_refuses h) (fun cdv A outer s H vs Q E hr h => ⟨t_l_refuses K, ?_, pure_l_refuses vs H Q E h⟩)
  have hu := hu_of hr
  exact (pss_cons (ps_set (i := 2) sc_l_refuses.nd rfl (Or.inl rfl) pe_bl)
      (pss_cons (ps_tryN (i := 3) (tb := fun W => (tDrop (tMethH (He.ga K "House") "column_of" (sp_House_column_of K) (WE W) (tVar 0) (tCons (tVar 1) tNil)))) (ts := fun a cls d => (tAsg (tCall (sp_l_like 6 K) [] E0 (tCons (tXf a cls d (He.ga K "NoName") "what" (tVar 3)) (tCons (tVar 1) tNil))) (gName 2))) rfl rfl sc_l_refuses.nd rfl rfl ⟨rfl, by decide, Or.inl T.g_NoName⟩
      (fun W pn xe tk _ => (pss_one (ps_expr (pe_methE (pv 0) T.c_House T.m_House_column_of G_House_column_of (hr.mono (by decide)) b_House_column_of (passW tk) (pa_cons (pv 1) pa_nil)))))
      (fun a oe cls d pn hz hf => (pss_one (ps_set (i := 2) sc_l_refuses.nd rfl (Or.inl rfl) (pe_callHC H_l_like ((roomH_mark hr _).mono (by decide)) (hotOf hz hf) rfl T.g_l_like T.fd_l_like.kp b_l_like passH (pa_cons (pe_xf T.nx_NoName.xf T.nx_NoName.nn.no hz.zc hf (pv 3)) (pa_cons (pv 1) pa_nil)))))))
      (pss_cons (ps_if (pt_not (pt_val (pv 2)))
      (pss_one (ps_ret pe_bl))
      pss_nil)
      (pss_cons (ps_tryN (i := 3) (tb := fun W => (tDrop (tIxS (He.ga K "House") (sp_House_getitem K) (WE W) (tVar 0) (tVar 1)))) (ts := fun a cls d => (tRet (tCall (sp_l_like 6 K) [] E0 (tCons (tXf a cls d (He.ga K "NoKind") "what" (tVar 3)) (tCons (tVar 1) tNil))))) rfl rfl sc_l_refuses.nd rfl rfl ⟨rfl, by decide, Or.inl T.g_NoKind⟩
      (fun W pn xe tk _ => (pss_one (ps_expr (pe_ixS T.m_House_getitem.at_ T.m_House_getitem.fn T.f_House_getitem G_House_getitem (hr.mono (by decide)) b_House_getitem (passW tk) (pv 0) (pv 1)))))
      (fun a oe cls d pn hz hf => (pss_one (ps_ret (pe_callHC H_l_like ((roomH_mark hr _).mono (by decide)) (hotOf hz hf) rfl T.g_l_like T.fd_l_like.kp b_l_like passH (pa_cons (pe_xf T.nx_NoKind.xf T.nx_NoKind.nn.no hz.zc hf (pv 3)) (pa_cons (pv 1) pa_nil)))))))
      (pss_one (ps_ret pe_bl))))))
theorem ok_l_no_kind (T : Fs K mg fd) : FnOk P w K mg base (L2.CX P w) 5 (He.ga K "_law_no_kind") (fd 34) ["_law_told", "_law_name"] (sp_l_no_kind K) := by
  have G_House_getitem := ok_House_getitem (P := P) (w := w) (base := base) T
  have b_House_getitem : Binds K (fd 29) ["self", "name"] [] := T.fd_House_getitem.bindsN fun _ _ _ _ _ _ us hl => match us, hl with | [_, _], _ => rfl
  have G_NoKind_init := ok_NoKind_init (P := P) (w := w) (base := base) T
  have b_NoKind_init : Binds K (fd 28) ["self", "kind"] [] := T.fd_NoKind_init.bindsN fun _ _ _ _ _ _ us hl => match us, hl with | [_, _], _ => rfl
  refine FunD.ok T.fd_l_no_kind sc_l_no_kind (fun vs H Q E h => len_l_no_kind h) (fun cdv A outer s H vs Q E hr h => ⟨t_l_no_kind K, ?_, pure_l_no_kind vs H Q E h⟩)
  have hu := hu_of hr
  exact (pss_cons (ps_tryN (i := 2) (tb := fun W => (tDrop (tIxS (He.ga K "House") (sp_House_getitem K) (WE W) (tVar 0) (tVar 1)))) (ts := fun a cls d => (tRet (tOp rEq (tXf a cls d (He.ga K "NoKind") "what" (tVar 2)) (tVar 1)))) rfl rfl sc_l_no_kind.nd rfl rfl ⟨rfl, by decide, Or.inl T.g_NoKind⟩
      (fun W pn xe tk _ => (pss_one (ps_expr (pe_ixS T.m_House_getitem.at_ T.m_House_getitem.fn T.f_House_getitem G_House_getitem (hr.mono (by decide)) b_House_getitem (passW tk) (pv 0) (pv 1)))))
      (fun a oe cls d pn hz hf => (pss_one (ps_ret (pe_cmpR op_eq (pe_xf T.nx_NoKind.xf T.nx_NoKind.nn.no hz.zc hf (pv 2)) (pv 1) (nomark _))))))
      (pss_one (ps_ret pe_bl)))
theorem ok_l_word (T : Fs K mg fd) : FnOk P w K mg base (L2.CX P w) 2 (He.ga K "_law_word") (fd 35) ["_law_state_here", "_law_taken"] (sp_l_word K) := by
  have G_l_draw := ok_l_draw (P := P) (w := w) (base := base) T
  have b_l_draw : Binds K (fd 27) ["_law_state_here", "_law_many"] [] := T.fd_l_draw.bindsN fun _ _ _ _ _ _ us hl => match us, hl with | [_, _], _ => rfl
  refine FunD.ok T.fd_l_word sc_l_word (fun vs H Q E h => len_l_word h) (fun cdv A outer s H vs Q E hr h => ⟨t_l_word K, ?_, pure_l_word vs H Q E h⟩)
  have hu := hu_of hr
  exact (pss_cons (ps_set (i := 2) sc_l_word.nd rfl (Or.inr rfl) pe_str)
      (pss_cons (ps_set (i := 3) sc_l_word.nd rfl (Or.inl rfl) (pe_ix ix_list (pe_lst (pa_cons pe_int (pa_cons pe_int (pa_cons pe_int (pa_cons pe_int (pa_cons pe_int (pa_cons pe_int (pa_cons pe_int (pa_cons pe_int (pa_cons pe_int pa_nil)))))))))) (pe_call G_l_draw (hr.mono (by decide)) rfl T.g_l_draw T.fd_l_draw.kp b_l_draw .nil passL (pa_cons (pv 0) (pa_cons pe_int pa_nil))) (fun _ _ => rfl)))
      (pss_cons (ps_set (i := 4) sc_l_word.nd rfl (Or.inl rfl) (pe_join pe_str (pe_lc (own := [("_law_k", 5)]) (g := gName 5) (tt := tYes) rfl sc_l_word.nd (pi_range1 rfl T.n_range (pa_cons (pv 3) pa_nil)) (blkOk_by (N := N_l_word) (sc := defScope s_l_word) (by decide +kernel)) (fun _ _ _ _ _ => pg_name (i := 5) sc_l_word.nd rfl (Or.inl rfl)) (fun _ _ _ _ _ => pts_nil) (fun _ _ _ _ _ => (pe_ix ix_str (pv 2) (pe_call G_l_draw (hr.mono (by decide)) rfl T.g_l_draw T.fd_l_draw.kp b_l_draw .nil passL (pa_cons (pv 0) (pa_cons pe_int pa_nil))) (fun _ _ => rfl))))))
      (pss_cons (ps_if (pt_cmpR op_in_seq (pv 4) (pv 1) (by rfl))
      (pss_one (ps_ret (pe_ix ix_list (pe_lc (own := [("_law_other", 6)]) (g := gName 6) (tt := (tTest (tOp (rIn K true) (tVar 6) (tVar 1)))) rfl sc_l_word.nd (pi_str pe_str) (blkOk_by (N := N_l_word) (sc := defScope s_l_word) (by decide +kernel)) (fun _ _ _ _ _ => pg_name (i := 6) sc_l_word.nd rfl (Or.inl rfl)) (fun _ _ _ _ _ => (pts_one (pt_cmpR op_notIn_seq (pv 6) (pv 1) (by rfl)))) (fun _ _ _ _ _ => (pv 6))) pe_int (fun _ _ => rfl))))
      pss_nil)
      (pss_one (ps_ret (pv 4)))))))
theorem ok_l_kind_told (T : Fs K mg fd) : FnOk P w K mg base (L2.CX P w) 7 (He.ga K "_law_kind_told") (fd 36) ["_law_told", "_law_kind_here"] (sp_l_kind_told K) := by
  have G_Kind_name := ok_Kind_name (P := P) (w := w) (base := base) T
  have b_Kind_name : Binds K (fd 7) ["self"] [] := T.fd_Kind_name.bindsN fun _ _ _ _ _ _ us hl => match us, hl with | [_], _ => rfl
  have G_l_like := ok_l_like (P := P) (w := w) (base := base) T 6
  have b_l_like : Binds K (fd 32) ["_law_told", "_law_due"] [] := T.fd_l_like.bindsN fun _ _ _ _ _ _ us hl => match us, hl with | [_, _], _ => rfl
  have G_Kind_rules := ok_Kind_rules (P := P) (w := w) (base := base) T
  have b_Kind_rules : Binds K (fd 2) ["self"] [] := T.fd_Kind_rules.bindsN fun _ _ _ _ _ _ us hl => match us, hl with | [_], _ => rfl
  have G_Kind_own := ok_Kind_own (P := P) (w := w) (base := base) T
  have b_Kind_own : Binds K (fd 3) ["self"] [] := T.fd_Kind_own.bindsN fun _ _ _ _ _ _ us hl => match us, hl with | [_], _ => rfl
  refine FunD.ok T.fd_l_kind_told sc_l_kind_told (fun vs H Q E h => len_l_kind_told h) (fun cdv A outer s H vs Q E hr h => ⟨t_l_kind_told K, ?_, pure_l_kind_told vs H Q E h⟩)
  have hu := hu_of hr
  exact (pss_one (ps_ret (pe_and (pe_cmpR op_eq (pe_prop (pv 0) T.c_Kind T.p_Kind_name G_Kind_name (hr.mono (by decide)) b_Kind_name .nil passL rfl) (pe_ix ix_list (pv 1) pe_int (fun _ _ => rfl)) (nomark _)) (pe_and (pe_call G_l_like (hr.mono (by omega)) rfl T.g_l_like T.fd_l_like.kp b_l_like .nil passL (pa_cons (pe_meth0 (pv 0) T.c_Kind T.m_Kind_rules G_Kind_rules (hr.mono (by decide)) b_Kind_rules .nil passL) (pa_cons (pe_ix ix_list (pv 1) pe_int (fun _ _ => rfl)) pa_nil))) (pe_one (pe_call G_l_like (hr.mono (by omega)) rfl T.g_l_like T.fd_l_like.kp b_l_like .nil passL (pa_cons (pe_meth0 (pv 0) T.c_Kind T.m_Kind_own G_Kind_own (hr.mono (by decide)) b_Kind_own .nil passL) (pa_cons (pe_ix ix_list (pv 1) pe_int (fun _ _ => rfl)) pa_nil))))))))
theorem ok_l_names (T : Fs K mg fd) : FnOk P w K mg base (L2.CX P w) 1 (He.ga K "_law_names") (fd 37) ["_law_house_here"] (sp_l_names K) := by
  refine FunD.ok T.fd_l_names sc_l_names (fun vs H Q E h => len_l_names h) (fun cdv A outer s H vs Q E hr h => ⟨t_l_names K, ?_, pure_l_names vs H Q E h⟩)
  have hu := hu_of hr
  exact (pss_cons (ps_set (i := 1) sc_l_names.nd rfl (Or.inl rfl) (pe_lst pa_nil))
      (pss_cons (ps_for (passes_of rfl) rfl (pi_list (pv 0)) (pg_name (i := 2) sc_l_names.nd rfl (Or.inl rfl))
      (pss_cons (ps_set (i := 1) sc_l_names.nd rfl (Or.inl rfl) (pe_op op_cat (pv 1) (pe_callTy (kListK rfl) (by rfl) T.n_list (by decide +kernel) (pa_cons (pe_ix ix_list (pv 2) pe_int (fun _ _ => rfl)) pa_nil))))
      (pss_one (ps_for (passes_of rfl) rfl (pi_list (pe_ix ix_list (pv 2) pe_int (fun _ _ => rfl))) (pg_name (i := 3) sc_l_names.nd rfl (Or.inl rfl))
      (pss_cons (ps_set (i := 1) sc_l_names.nd rfl (Or.inl rfl) (pe_op op_cat (pv 1) (pe_callTy kListOf (by rfl) T.n_list (by decide +kernel) (pa_cons (pe_ix ix_tup (pv 3) pe_int (fun _ _ => rfl)) pa_nil))))
      (pss_one (ps_if (PW.pt (pw_and (pt_cmpR op_eq (pe_ix ix_tup (pv 3) pe_int (fun _ _ => rfl)) pe_str (nomark _)) (pw_and1 (pt_cmpR op_ne (pe_ix ix_tup (pv 3) pe_int (fun _ _ => rfl)) pe_str (nomark _)))))
      (pss_one (ps_expr (pe_bm PySem.F.plainAttrs_list PySem.F.slot_list_append PySem.F.type_list_append mt_append (pv 1) (pa_cons (pe_ix ix_tup (pv 3) pe_int (fun _ _ => rfl)) pa_nil))))
      pss_nil)))))))
      (pss_one (ps_ret (pe_sortUni rfl T.n_sorted rfl T.n_set (by decide +kernel) (pv 1))))))
theorem ok_House_names (T : Fs K mg fd) : FnOk P w K mg base (L2.CX P w) 1 (He.ma K (He.ga K "House") "names") (fd 38) ["self"] (sp_House_names K) := by
  refine FunD.ok T.fd_House_names sc_House_names (fun vs H Q E h => len_House_names h) (fun cdv A outer s H vs Q E hr h => ⟨t_House_names K, ?_, pure_House_names vs H Q E h⟩)
  have hu := hu_of hr
  exact (pss_one (ps_ret (pe_callTy kListOf (by rfl) T.n_list (by decide +kernel) (pa_cons (pe_fld (pv 0) rfl) pa_nil))))
theorem ok_House_columns (T : Fs K mg fd) : FnOk P w K mg base (L2.CX P w) 1 (He.ma K (He.ga K "House") "columns") (fd 39) ["self"] (sp_House_columns K) := by
  refine FunD.ok T.fd_House_columns sc_House_columns (fun vs H Q E h => len_House_columns h) (fun cdv A outer s H vs Q E hr h => ⟨t_House_columns K, ?_, pure_House_columns vs H Q E h⟩)
  have hu := hu_of hr
  exact (pss_one (ps_ret (pe_op op_cat (pe_lst (pa_cons pe_str pa_nil)) (pe_fld (pv 0) rfl))))
theorem ok_House_kinds (T : Fs K mg fd) : FnOk P w K mg base (L2.CX P w) 1 (He.ma K (He.ga K "House") "kinds") (fd 40) ["self"] (sp_House_kinds K) := by
  refine FunD.ok T.fd_House_kinds sc_House_kinds (fun vs H Q E h => len_House_kinds h) (fun cdv A outer s H vs Q E hr h => ⟨t_House_kinds K, ?_, pure_House_kinds vs H Q E h⟩)
  have hu := hu_of hr
  exact (pss_one (ps_ret (pe_callTy (kListK rfl) (by rfl) T.n_list (by decide +kernel) (pa_cons (pe_fld (pv 0) rfl) pa_nil))))
theorem ok_l_tells (T : Fs K mg fd) : FnOk P w K mg base (L2.CX P w) 7 (He.ga K "_law_tells") (fd 41) ["_law_told", "_law_house_here"] (sp_l_tells K) := by
  have G_l_like := ok_l_like (P := P) (w := w) (base := base) T 6
  have b_l_like : Binds K (fd 32) ["_law_told", "_law_due"] [] := T.fd_l_like.bindsN fun _ _ _ _ _ _ us hl => match us, hl with | [_, _], _ => rfl
  have G_House_names := ok_House_names (P := P) (w := w) (base := base) T
  have b_House_names : Binds K (fd 38) ["self"] [] := T.fd_House_names.bindsN fun _ _ _ _ _ _ us hl => match us, hl with | [_], _ => rfl
  have G_House_columns := ok_House_columns (P := P) (w := w) (base := base) T
  have b_House_columns : Binds K (fd 39) ["self"] [] := T.fd_House_columns.bindsN fun _ _ _ _ _ _ us hl => match us, hl with | [_], _ => rfl
  have G_House_kinds := ok_House_kinds (P := P) (w := w) (base := base) T
  have b_House_kinds : Binds K (fd 40) ["self"] [] := T.fd_House_kinds.bindsN fun _ _ _ _ _ _ us hl => match us, hl with | [_], _ => rfl
  have G_l_names := ok_l_names (P := P) (w := w) (base := base) T
  have b_l_names : Binds K (fd 37) ["_law_house_here"] [] := T.fd_l_names.bindsN fun _ _ _ _ _ _ us hl => match us, hl with | [_], _ => rfl
  refine FunD.ok T.fd_l_tells sc_l_tells (fun vs H Q E h => len_l_tells h) (fun cdv A outer s H vs Q E hr h => ⟨t_l_tells K, ?_, pure_l_tells vs H Q E h⟩)
  have hu := hu_of hr
  exact (pss_cons (ps_set (i := 2) sc_l_tells.nd rfl (Or.inl rfl) (pe_call G_l_names (hr.mono (by decide)) rfl T.g_l_names T.fd_l_names.kp b_l_names .nil passL (pa_cons (pv 1) pa_nil)))
      (pss_cons (ps_set (i := 3) sc_l_tells.nd rfl (Or.inl rfl) (pe_lst (pa_cons (pe_meth0 (pv 0) T.c_House T.m_House_names G_House_names (hr.mono (by decide)) b_House_names .nil passL) (pa_cons (pe_meth0 (pv 0) T.c_House T.m_House_columns G_House_columns (hr.mono (by decide)) b_House_columns .nil passL) (pa_cons (pe_meth0 (pv 0) T.c_House T.m_House_kinds G_House_kinds (hr.mono (by decide)) b_House_kinds .nil passL) pa_nil)))))
      (pss_cons (ps_set (i := 4) sc_l_tells.nd rfl (Or.inl rfl) (pe_lst (pa_cons (pv 2) (pa_cons (pe_op op_cat (pe_lst (pa_cons pe_str pa_nil)) (pv 2)) (pa_cons (pe_callB cr_sortedS (by rfl) T.n_sorted (by decide +kernel) (pa_cons (pe_lc (own := [("_law_kind_here", 7)]) (g := gName 7) (tt := tYes) rfl sc_l_tells.nd (pi_list (pv 1)) (blkOk_by (N := N_l_tells) (sc := defScope s_l_tells) (by decide +kernel)) (fun _ _ _ _ _ => pg_name (i := 7) sc_l_tells.nd rfl (Or.inl rfl)) (fun _ _ _ _ _ => pts_nil) (fun _ _ _ _ _ => (pe_ix ix_list (pv 7) pe_int (fun _ _ => rfl)))) pa_nil)) pa_nil)))))
      (pss_cons (ps_set (i := 5) sc_l_tells.nd rfl (Or.inl rfl) (pe_call G_l_like (hr.mono (by omega)) rfl T.g_l_like T.fd_l_like.kp b_l_like .nil passL (pa_cons (pv 3) (pa_cons (pv 4) pa_nil))))
      (pss_cons (ps_for (passes_of rfl) rfl (pi_list (pv 3)) (pg_name (i := 6) sc_l_tells.nd rfl (Or.inl rfl))
      (pss_one (ps_expr (pe_clrVar (pv 6)))))
      (pss_one (ps_ret (pv 5))))))))
theorem ok_l_shuffled (T : Fs K mg fd) : FnOk P w K mg base (L2.CX P w) 2 (He.ga K "_law_shuffled") (fd 42) ["_law_state_here", "_law_row"] (sp_l_shuffled K) := by
  have G_l_draw := ok_l_draw (P := P) (w := w) (base := base) T
  have b_l_draw : Binds K (fd 27) ["_law_state_here", "_law_many"] [] := T.fd_l_draw.bindsN fun _ _ _ _ _ _ us hl => match us, hl with | [_, _], _ => rfl
  refine FunD.ok T.fd_l_shuffled sc_l_shuffled (fun vs H Q E h => len_l_shuffled h) (fun cdv A outer s H vs Q E hr h => ⟨t_l_shuffled K, ?_, pure_l_shuffled vs H Q E h⟩)
  have hu := hu_of hr
  exact (pss_cons (ps_set (i := 2) sc_l_shuffled.nd rfl (Or.inl rfl) (pe_callTy kListOf (by rfl) T.n_list (by decide +kernel) (pa_cons (pv 1) pa_nil)))
      (pss_cons (ps_set (i := 3) sc_l_shuffled.nd rfl (Or.inl rfl) (pe_lst pa_nil))
      (pss_cons (ps_for (passes_of rfl) rfl (pi_range1 rfl T.n_range (pa_cons (pe_callB kLenA (by rfl) T.n_len (by decide +kernel) (pa_cons (pv 1) pa_nil)) pa_nil)) (pg_name (i := 4) sc_l_shuffled.nd rfl (Or.inl rfl))
      (pss_one (ps_expr (pe_bm PySem.F.plainAttrs_list PySem.F.slot_list_append PySem.F.type_list_append mt_append (pv 3) (pa_cons (pe_bm PySem.F.plainAttrs_list PySem.F.slot_list_pop PySem.F.type_list_pop mt_popAt (pv 2) (pa_cons (pe_call G_l_draw (hr.mono (by decide)) rfl T.g_l_draw T.fd_l_draw.kp b_l_draw .nil passL (pa_cons (pv 0) (pa_cons (pe_callB kLenA (by rfl) T.n_len (by decide +kernel) (pa_cons (pv 2) pa_nil)) pa_nil))) pa_nil)) pa_nil)))))
      (pss_one (ps_ret (pv 3))))))
theorem ok_l_pick (T : Fs K mg fd) : FnOk P w K mg base (L2.CX P w) 2 (He.ga K "_law_pick") (fd 43) ["_law_state_here", "_law_row"] (sp_l_pick K) := by
  have G_l_draw := ok_l_draw (P := P) (w := w) (base := base) T
  have b_l_draw : Binds K (fd 27) ["_law_state_here", "_law_many"] [] := T.fd_l_draw.bindsN fun _ _ _ _ _ _ us hl => match us, hl with | [_, _], _ => rfl
  refine FunD.ok T.fd_l_pick sc_l_pick (fun vs H Q E h => len_l_pick h) (fun cdv A outer s H vs Q E hr h => ⟨t_l_pick K, ?_, pure_l_pick vs H Q E h⟩)
  have hu := hu_of hr
  exact (pss_one (ps_ret (pe_ix ix_list (pv 1) (pe_call G_l_draw (hr.mono (by decide)) rfl T.g_l_draw T.fd_l_draw.kp b_l_draw .nil passL (pa_cons (pv 0) (pa_cons (pe_callB kLenA (by rfl) T.n_len (by decide +kernel) (pa_cons (pv 1) pa_nil)) pa_nil))) (fun _ _ => rfl))))
theorem ok_l_value (T : Fs K mg fd) : FnOk P w K mg base (L2.CX P w) 3 (He.ga K "_law_value") (fd 44) ["_law_state_here"] (sp_l_value K) := by
  have G_l_pick := ok_l_pick (P := P) (w := w) (base := base) T
  have b_l_pick : Binds K (fd 43) ["_law_state_here", "_law_row"] [] := T.fd_l_pick.bindsN fun _ _ _ _ _ _ us hl => match us, hl with | [_, _], _ => rfl
  have G_l_draw := ok_l_draw (P := P) (w := w) (base := base) T
  have b_l_draw : Binds K (fd 27) ["_law_state_here", "_law_many"] [] := T.fd_l_draw.bindsN fun _ _ _ _ _ _ us hl => match us, hl with | [_, _], _ => rfl
  have G_l_word := ok_l_word (P := P) (w := w) (base := base) T
  have b_l_word : Binds K (fd 35) ["_law_state_here", "_law_taken"] [] := T.fd_l_word.bindsN fun _ _ _ _ _ _ us hl => match us, hl with | [_, _], _ => rfl
  refine FunD.ok T.fd_l_value sc_l_value (fun vs H Q E h => len_l_value h) (fun cdv A outer s H vs Q E hr h => ⟨t_l_value K, ?_, pure_l_value vs H Q E h⟩)
  have hu := hu_of hr
  exact (pss_cons (ps_if (pt_cmpR op_eq (pe_call G_l_draw (hr.mono (by decide)) rfl T.g_l_draw T.fd_l_draw.kp b_l_draw .nil passL (pa_cons (pv 0) (pa_cons pe_int pa_nil))) pe_int (nomark _))
      (pss_one (ps_ret (pe_call G_l_word (hr.mono (by decide)) rfl T.g_l_word T.fd_l_word.kp b_l_word .nil passL (pa_cons (pv 0) (pa_cons (pe_lst pa_nil) pa_nil)))))
      pss_nil)
      (pss_one (ps_ret (pe_call G_l_pick (hr.mono (by decide)) rfl T.g_l_pick T.fd_l_pick.kp b_l_pick .nil passL (pa_cons (pv 0) (pa_cons (pe_lst (pa_cons pe_str (pa_cons pe_str pa_nil))) pa_nil))))))
theorem ok_l_own (T : Fs K mg fd) : FnOk P w K mg base (L2.CX P w) 4 (He.ga K "_law_own") (fd 45) ["_law_state_here", "_law_names_here", "_law_links"] (sp_l_own K) := by
  have G_l_pick := ok_l_pick (P := P) (w := w) (base := base) T
  have b_l_pick : Binds K (fd 43) ["_law_state_here", "_law_row"] [] := T.fd_l_pick.bindsN fun _ _ _ _ _ _ us hl => match us, hl with | [_, _], _ => rfl
  have G_l_value := ok_l_value (P := P) (w := w) (base := base) T
  have b_l_value : Binds K (fd 44) ["_law_state_here"] [] := T.fd_l_value.bindsN fun _ _ _ _ _ _ us hl => match us, hl with | [_], _ => rfl
  have G_l_draw := ok_l_draw (P := P) (w := w) (base := base) T
  have b_l_draw : Binds K (fd 27) ["_law_state_here", "_law_many"] [] := T.fd_l_draw.bindsN fun _ _ _ _ _ _ us hl => match us, hl with | [_, _], _ => rfl
  refine FunD.ok T.fd_l_own sc_l_own (fun vs H Q E h => len_l_own h) (fun cdv A outer s H vs Q E hr h => ⟨t_l_own K, ?_, pure_l_own vs H Q E h⟩)
  have hu := hu_of hr
  exact (pss_cons (ps_set (i := 3) sc_l_own.nd rfl (Or.inl rfl) pe_dnewK)
      (pss_cons (ps_for (passes_of rfl) rfl (pi_list (pe_slice sl_list (pv 1) po_none (po_some pe_int))) (pg_name (i := 4) sc_l_own.nd rfl (Or.inl rfl))
      (pss_cons (ps_set (i := 5) sc_l_own.nd rfl (Or.inl rfl) (pe_call G_l_draw (hr.mono (by decide)) rfl T.g_l_draw T.fd_l_draw.kp b_l_draw .nil passL (pa_cons (pv 0) (pa_cons pe_int pa_nil))))
      (C8.pss_cut (ps_if (pt_cmpR op_eq (pv 5) pe_int (nomark _))
      (pss_one (ps_dput hu (pv 3) (pv 4) (pe_tup (pa_cons pe_str (pa_cons (pe_call G_l_value (hr.mono (by decide)) rfl T.g_l_value T.fd_l_value.kp b_l_value .nil passL (pa_cons (pv 0) pa_nil)) pa_nil))) rfl))
      pss_nil)
      (C8.pss_cut (ps_if (pt_cmpR op_eq (pv 5) pe_int (nomark _))
      (pss_one (ps_dput hu (pv 3) (pv 4) (pe_tup (pa_cons pe_str pa_nil)) rfl))
      pss_nil)
      (pss_one (ps_if (PW.pt (pw_and (pt_cmpR op_eq (pv 5) pe_int (nomark _)) (pw_and1 (pt_cmpR (op_neD hr.units) (pv 2) (pe_lst pa_nil) (nomark _)))))
      (pss_one (ps_dput hu (pv 3) (pv 4) (pe_tup (pa_cons pe_str (pa_cons (pe_call G_l_pick (hr.mono (by decide)) rfl T.g_l_pick T.fd_l_pick.kp b_l_pick .nil passL (pa_cons (pv 0) (pa_cons (pv 2) pa_nil))) pa_nil))) rfl))
      pss_nil))))))
      (pss_one (ps_ret (pv 3)))))
theorem ok_l_some (T : Fs K mg fd) : FnOk P w K mg base (L2.CX P w) 2 (He.ga K "_law_some") (fd 46) ["_law_state_here", "_law_row"] (sp_l_some K) := by
  have G_l_draw := ok_l_draw (P := P) (w := w) (base := base) T
  have b_l_draw : Binds K (fd 27) ["_law_state_here", "_law_many"] [] := T.fd_l_draw.bindsN fun _ _ _ _ _ _ us hl => match us, hl with | [_, _], _ => rfl
  refine FunD.ok T.fd_l_some sc_l_some (fun vs H Q E h => len_l_some h) (fun cdv A outer s H vs Q E hr h => ⟨t_l_some K, ?_, pure_l_some vs H Q E h⟩)
  have hu := hu_of hr
  exact (pss_one (ps_ret (pe_lc (own := [("_law_part", 2)]) (g := gName 2) (tt := (tTest (tOp rEq (tCall (sp_l_draw K) [] E0 (tCons (tVar 0) (tCons (tC (.int 2)) tNil))) (tC (.int 1))))) rfl sc_l_some.nd (pi_list (pv 1)) (blkOk_by (N := N_l_some) (sc := defScope s_l_some) (by decide +kernel)) (fun _ _ _ _ _ => pg_name (i := 2) sc_l_some.nd rfl (Or.inl rfl)) (fun _ _ _ _ _ => (pts_one (pt_cmpR op_eq (pe_call G_l_draw (hr.mono (by decide)) rfl T.g_l_draw T.fd_l_draw.kp b_l_draw .nil passL (pa_cons (pv 0) (pa_cons pe_int pa_nil))) pe_int (nomark _)))) (fun _ _ _ _ _ => (pv 2)))))
theorem ok_l_rule (T : Fs K mg fd) : FnOk P w K mg base (L2.CX P w) 4 (He.ga K "_law_rule") (fd 47) ["_law_state_here", "_law_names_here", "_law_links"] (sp_l_rule K) := by
  have G_l_draw := ok_l_draw (P := P) (w := w) (base := base) T
  have b_l_draw : Binds K (fd 27) ["_law_state_here", "_law_many"] [] := T.fd_l_draw.bindsN fun _ _ _ _ _ _ us hl => match us, hl with | [_, _], _ => rfl
  have G_l_pick := ok_l_pick (P := P) (w := w) (base := base) T
  have b_l_pick : Binds K (fd 43) ["_law_state_here", "_law_row"] [] := T.fd_l_pick.bindsN fun _ _ _ _ _ _ us hl => match us, hl with | [_, _], _ => rfl
  have G_l_value := ok_l_value (P := P) (w := w) (base := base) T
  have b_l_value : Binds K (fd 44) ["_law_state_here"] [] := T.fd_l_value.bindsN fun _ _ _ _ _ _ us hl => match us, hl with | [_], _ => rfl
  have G_l_some := ok_l_some (P := P) (w := w) (base := base) T
  have b_l_some : Binds K (fd 46) ["_law_state_here", "_law_row"] [] := T.fd_l_some.bindsN fun _ _ _ _ _ _ us hl => match us, hl with | [_, _], _ => rfl
  refine FunD.ok T.fd_l_rule sc_l_rule (fun vs H Q E h => len_l_rule h) (fun cdv A outer s H vs Q E hr h => ⟨t_l_rule K, ?_, pure_l_rule vs H Q E h⟩)
  have hu := hu_of hr
  exact (pss_cons (ps_set (i := 3) sc_l_rule.nd rfl (Or.inl rfl) (pe_tup pa_nil))
      (C8.pss_cut (ps_if (pt_cmpR kGt (pe_call G_l_draw (hr.mono (by decide)) rfl T.g_l_draw T.fd_l_draw.kp b_l_draw .nil passL (pa_cons (pv 0) (pa_cons pe_int pa_nil))) pe_int (nomark _))
      (pss_one (ps_set (i := 3) sc_l_rule.nd rfl (Or.inl rfl) (pe_callTy kTupOf (by rfl) T.n_tuple (by decide +kernel) (pa_cons (pe_callB cr_sortedS (by rfl) T.n_sorted (by decide +kernel) (pa_cons (pe_slice sl_list (pe_call G_l_some (hr.mono (by decide)) rfl T.g_l_some T.fd_l_some.kp b_l_some .nil passL (pa_cons (pv 0) (pa_cons (pv 1) pa_nil))) po_none (po_some pe_int)) pa_nil)) pa_nil))))
      pss_nil)
      (pss_cons (ps_set (i := 4) sc_l_rule.nd rfl (Or.inl rfl) (pe_call G_l_draw (hr.mono (by decide)) rfl T.g_l_draw T.fd_l_draw.kp b_l_draw .nil passL (pa_cons (pv 0) (pa_cons pe_int pa_nil))))
      (pss_cons (ps_if (pt_cmpR op_eq (pv 4) pe_int (nomark _))
      (pss_one (ps_ret (pe_tup (pa_cons pe_str (pa_cons (pv 3) pa_nil)))))
      pss_nil)
      (pss_cons (ps_if (PW.pt (pw_or (pt_cmpR op_eq (pv 4) pe_int (nomark _)) (pw_or1 (PW.pt (pw_and (pt_cmpR (op_eqD hr.units) (pv 2) (pe_lst pa_nil) (nomark _)) (pw_and1 (pt_cmpR kGt (pv 4) pe_int (nomark _))))))))
      (pss_one (ps_ret (pe_tup (pa_cons pe_str (pa_cons (pv 3) (pa_cons (pe_call G_l_value (hr.mono (by decide)) rfl T.g_l_value T.fd_l_value.kp b_l_value .nil passL (pa_cons (pv 0) pa_nil)) pa_nil))))))
      pss_nil)
      (pss_cons (ps_if (pt_cmpR op_eq (pv 4) pe_int (nomark _))
      (pss_one (ps_ret (pe_tup (pa_cons pe_str (pa_cons (pv 3) pa_nil)))))
      pss_nil)
      (pss_cons (ps_set (i := 5) sc_l_rule.nd rfl (Or.inl rfl) (pe_call G_l_pick (hr.mono (by decide)) rfl T.g_l_pick T.fd_l_pick.kp b_l_pick .nil passL (pa_cons (pv 0) (pa_cons (pv 2) pa_nil))))
      (pss_cons (ps_set (i := 6) sc_l_rule.nd rfl (Or.inl rfl) (pe_call G_l_pick (hr.mono (by decide)) rfl T.g_l_pick T.fd_l_pick.kp b_l_pick .nil passL (pa_cons (pv 0) (pa_cons (pe_lst (pa_cons pe_str (pa_cons pe_str pa_nil))) pa_nil))))
      (pss_cons (ps_if (pt_cmpR op_eq (pv 4) pe_int (nomark _))
      (pss_one (ps_ret (pe_tup (pa_cons pe_str (pa_cons (pv 3) (pa_cons (pv 5) (pa_cons (pv 6) pa_nil)))))))
      pss_nil)
      (pss_cons (ps_set (i := 7) sc_l_rule.nd rfl (Or.inl rfl) (pe_call G_l_pick (hr.mono (by decide)) rfl T.g_l_pick T.fd_l_pick.kp b_l_pick .nil passL (pa_cons (pv 0) (pa_cons (pe_op op_cat (pe_lst (pa_cons pe_str pa_nil)) (pv 1)) pa_nil))))
      (pss_one (ps_ret (pe_tup (pa_cons pe_str (pa_cons (pv 3) (pa_cons (pv 5) (pa_cons (pv 7) (pa_cons (pv 6) (pa_cons (pe_cmpR op_eq (pe_call G_l_draw (hr.mono (by decide)) rfl T.g_l_draw T.fd_l_draw.kp b_l_draw .nil passL (pa_cons (pv 0) (pa_cons pe_int pa_nil))) pe_int (nomark _)) pa_nil)))))))))))))))))))
theorem ok_l_choices (T : Fs K mg fd) : FnOk P w K mg base (L2.CX P w) 3 (He.ga K "_law_choices") (fd 48) ["_law_state_here", "_law_kinds"] (sp_l_choices K) := by
  have G_l_pick := ok_l_pick (P := P) (w := w) (base := base) T
  have b_l_pick : Binds K (fd 43) ["_law_state_here", "_law_row"] [] := T.fd_l_pick.bindsN fun _ _ _ _ _ _ us hl => match us, hl with | [_, _], _ => rfl
  have G_l_some := ok_l_some (P := P) (w := w) (base := base) T
  have b_l_some : Binds K (fd 46) ["_law_state_here", "_law_row"] [] := T.fd_l_some.bindsN fun _ _ _ _ _ _ us hl => match us, hl with | [_, _], _ => rfl
  refine FunD.ok T.fd_l_choices sc_l_choices (fun vs H Q E h => len_l_choices h) (fun cdv A outer s H vs Q E hr h => ⟨t_l_choices K, ?_, pure_l_choices vs H Q E h⟩)
  have hu := hu_of hr
  exact (pss_cons (ps_set (i := 2) sc_l_choices.nd rfl (Or.inl rfl) (pe_call G_l_some (hr.mono (by decide)) rfl T.g_l_some T.fd_l_some.kp b_l_some .nil passL (pa_cons (pv 0) (pa_cons (pe_op op_cat (pv 1) (pe_lst (pa_cons pe_str pa_nil))) pa_nil))))
      (C8.pss_cut (ps_if (pt_cmpR (op_eqD hr.units) (pv 2) (pe_lst pa_nil) (nomark _))
      (pss_one (ps_set (i := 2) sc_l_choices.nd rfl (Or.inl rfl) (pe_lst (pa_cons (pe_call G_l_pick (hr.mono (by decide)) rfl T.g_l_pick T.fd_l_pick.kp b_l_pick .nil passL (pa_cons (pv 0) (pa_cons (pv 1) pa_nil))) pa_nil))))
      pss_nil)
      (pss_one (ps_ret (pe_callTy kTupOf (by rfl) T.n_tuple (by decide +kernel) (pa_cons (pe_callB cr_sortedS (by rfl) T.n_sorted (by decide +kernel) (pa_cons (pe_slice sl_list (pv 2) po_none (po_some pe_int)) pa_nil)) pa_nil))))))
theorem ok_l_words (T : Fs K mg fd) : FnOk P w K mg base (L2.CX P w) 3 (He.ga K "_law_words") (fd 49) ["_law_state_here", "_law_many"] (sp_l_words K) := by
  have G_l_word := ok_l_word (P := P) (w := w) (base := base) T
  have b_l_word : Binds K (fd 35) ["_law_state_here", "_law_taken"] [] := T.fd_l_word.bindsN fun _ _ _ _ _ _ us hl => match us, hl with | [_, _], _ => rfl
  refine FunD.ok T.fd_l_words sc_l_words (fun vs H Q E h => len_l_words h) (fun cdv A outer s H vs Q E hr h => ⟨t_l_words K, ?_, pure_l_words vs H Q E h⟩)
  have hu := hu_of hr
  exact (pss_cons (ps_set (i := 2) sc_l_words.nd rfl (Or.inl rfl) (pe_lst pa_nil))
      (pss_cons (ps_for (passes_of rfl) rfl (pi_range1 rfl T.n_range (pa_cons (pv 1) pa_nil)) (pg_name (i := 3) sc_l_words.nd rfl (Or.inl rfl))
      (pss_one (ps_expr (pe_bm PySem.F.plainAttrs_list PySem.F.slot_list_append PySem.F.type_list_append mt_append (pv 2) (pa_cons (pe_call G_l_word (hr.mono (by decide)) rfl T.g_l_word T.fd_l_word.kp b_l_word .nil passL (pa_cons (pv 0) (pa_cons (pv 2) pa_nil))) pa_nil)))))
      (pss_one (ps_ret (pv 2)))))
theorem ok_l_doors (T : Fs K mg fd) : FnOk P w K mg base (L2.CX P w) 4 (He.ga K "_law_doors") (fd 50) ["_law_state_here", "_law_most"] (sp_l_doors K) := by
  have G_l_words := ok_l_words (P := P) (w := w) (base := base) T
  have b_l_words : Binds K (fd 49) ["_law_state_here", "_law_many"] [] := T.fd_l_words.bindsN fun _ _ _ _ _ _ us hl => match us, hl with | [_, _], _ => rfl
  have G_l_draw := ok_l_draw (P := P) (w := w) (base := base) T
  have b_l_draw : Binds K (fd 27) ["_law_state_here", "_law_many"] [] := T.fd_l_draw.bindsN fun _ _ _ _ _ _ us hl => match us, hl with | [_, _], _ => rfl
  refine FunD.ok T.fd_l_doors sc_l_doors (fun vs H Q E h => len_l_doors h) (fun cdv A outer s H vs Q E hr h => ⟨t_l_doors K, ?_, pure_l_doors vs H Q E h⟩)
  have hu := hu_of hr
  exact (pss_cons (ps_if (PW.pt (pw_or (pt_cmpR op_eq (pv 1) pe_int (nomark _)) (pw_or1 (pt_cmpR op_eq (pe_call G_l_draw (hr.mono (by decide)) rfl T.g_l_draw T.fd_l_draw.kp b_l_draw .nil passL (pa_cons (pv 0) (pa_cons pe_int pa_nil))) pe_int (nomark _)))))
      (pss_one (ps_ret (pe_lst pa_nil)))
      pss_nil)
      (pss_one (ps_ret (pe_call G_l_words (hr.mono (by decide)) rfl T.g_l_words T.fd_l_words.kp b_l_words .nil passL (pa_cons (pv 0) (pa_cons (pe_callB (kMin2 rfl) (by rfl) T.n_min (by decide +kernel) (pa_cons (pv 1) (pa_cons (pe_op kAdd pe_int (pe_call G_l_draw (hr.mono (by decide)) rfl T.g_l_draw T.fd_l_draw.kp b_l_draw .nil passL (pa_cons (pv 0) (pa_cons (pe_op kAdd (pv 1) pe_int) pa_nil)))) pa_nil))) pa_nil))))))
theorem ok_l_house (T : Fs K mg fd) : FnOk P w K mg base (L2.CX P w) 5 (He.ga K "_law_house") (fd 51) ["_law_state_here", "_law_kinds", "_law_links", "_law_names_here", "_law_rules"] (sp_l_house K) := by
  have G_l_own := ok_l_own (P := P) (w := w) (base := base) T
  have b_l_own : Binds K (fd 45) ["_law_state_here", "_law_names_here", "_law_links"] [] := T.fd_l_own.bindsN fun _ _ _ _ _ _ us hl => match us, hl with | [_, _, _], _ => rfl
  have G_l_draw := ok_l_draw (P := P) (w := w) (base := base) T
  have b_l_draw : Binds K (fd 27) ["_law_state_here", "_law_many"] [] := T.fd_l_draw.bindsN fun _ _ _ _ _ _ us hl => match us, hl with | [_, _], _ => rfl
  have G_l_rule := ok_l_rule (P := P) (w := w) (base := base) T
  have b_l_rule : Binds K (fd 47) ["_law_state_here", "_law_names_here", "_law_links"] [] := T.fd_l_rule.bindsN fun _ _ _ _ _ _ us hl => match us, hl with | [_, _, _], _ => rfl
  have G_l_choices := ok_l_choices (P := P) (w := w) (base := base) T
  have b_l_choices : Binds K (fd 48) ["_law_state_here", "_law_kinds"] [] := T.fd_l_choices.bindsN fun _ _ _ _ _ _ us hl => match us, hl with | [_, _], _ => rfl
  have G_l_doors := ok_l_doors (P := P) (w := w) (base := base) T
  have b_l_doors : Binds K (fd 50) ["_law_state_here", "_law_most"] [] := T.fd_l_doors.bindsN fun _ _ _ _ _ _ us hl => match us, hl with | [_, _], _ => rfl
  have G_l_words := ok_l_words (P := P) (w := w) (base := base) T
  have b_l_words : Binds K (fd 49) ["_law_state_here", "_law_many"] [] := T.fd_l_words.bindsN fun _ _ _ _ _ _ us hl => match us, hl with | [_, _], _ => rfl
  refine FunD.ok T.fd_l_house sc_l_house (fun vs H Q E h => len_l_house h) (fun cdv A outer s H vs Q E hr h => ⟨t_l_house K, ?_, pure_l_house vs H Q E h⟩)
  have hu := hu_of hr
  exact (pss_cons (ps_set (i := 5) sc_l_house.nd rfl (Or.inl rfl) (pe_call G_l_words (hr.mono (by decide)) rfl T.g_l_words T.fd_l_words.kp b_l_words .nil passL (pa_cons (pv 0) (pa_cons (pe_op kAdd pe_int (pe_call G_l_draw (hr.mono (by decide)) rfl T.g_l_draw T.fd_l_draw.kp b_l_draw .nil passL (pa_cons (pv 0) (pa_cons (pv 1) pa_nil)))) pa_nil))))
      (pss_cons (ps_set (i := 6) sc_l_house.nd rfl (Or.inr rfl) (pe_call G_l_words (hr.mono (by decide)) rfl T.g_l_words T.fd_l_words.kp b_l_words .nil passL (pa_cons (pv 0) (pa_cons (pe_op kAdd pe_int (pe_call G_l_draw (hr.mono (by decide)) rfl T.g_l_draw T.fd_l_draw.kp b_l_draw .nil passL (pa_cons (pv 0) (pa_cons (pv 3) pa_nil)))) pa_nil))))
      (pss_cons (ps_set (i := 7) sc_l_house.nd rfl (Or.inl rfl) (pe_lst pa_nil))
      (pss_cons (ps_for (passes_of rfl) rfl (pi_list (pv 5)) (pg_name (i := 8) sc_l_house.nd rfl (Or.inl rfl))
      (pss_cons (ps_set (i := 9) sc_l_house.nd rfl (Or.inr rfl) (pe_call G_l_doors (hr.mono (by decide)) rfl T.g_l_doors T.fd_l_doors.kp b_l_doors .nil passL (pa_cons (pv 0) (pa_cons (pv 2) pa_nil))))
      (pss_cons (ps_set (i := 10) sc_l_house.nd rfl (Or.inl rfl) pe_dnewK)
      (pss_cons (ps_for (passes_of rfl) rfl (pi_list (pv 9)) (pg_name (i := 11) sc_l_house.nd rfl (Or.inl rfl))
      (pss_one (ps_dput hu (pv 10) (pv 11) (pe_call G_l_choices (hr.mono (by decide)) rfl T.g_l_choices T.fd_l_choices.kp b_l_choices .nil passL (pa_cons (pv 0) (pa_cons (pv 5) pa_nil))) rfl)))
      (pss_cons (ps_setLc (i := 12) (own := [("_law_k", 13)]) (g := gName 13) (tt := tYes) rfl sc_l_house.nd rfl rfl (sw_true rfl rfl rfl (by decide +kernel)) (pi_range1 rfl T.n_range (pa_cons (pe_call G_l_draw (hr.mono (by decide)) rfl T.g_l_draw T.fd_l_draw.kp b_l_draw .nil passL (pa_cons (pv 0) (pa_cons (pe_op kAdd (pv 4) pe_int) pa_nil))) pa_nil)) (blkOk_by (N := N_l_house) (sc := defScope s_l_house) (by decide +kernel)) (fun _ _ _ _ _ => pg_name (i := 13) sc_l_house.nd rfl (Or.inl rfl)) (fun _ _ _ _ _ => pts_nil) (fun _ _ _ _ _ => (pe_call G_l_rule (hr.mono (by decide)) rfl T.g_l_rule T.fd_l_rule.kp b_l_rule .nil passL (pa_cons (pv 0) (pa_cons (pv 6) (pa_cons (pv 9) pa_nil))))))
      (pss_one (ps_expr (pe_bm PySem.F.plainAttrs_list PySem.F.slot_list_append PySem.F.type_list_append mt_append (pv 7) (pa_cons (pe_lst (pa_cons (pv 8) (pa_cons (pv 10) (pa_cons (pe_call G_l_own (hr.mono (by decide)) rfl T.g_l_own T.fd_l_own.kp b_l_own .nil passL (pa_cons (pv 0) (pa_cons (pv 6) (pa_cons (pv 9) pa_nil)))) (pa_cons (pv 12) (pa_cons (pe_cmpR op_eq (pe_call G_l_draw (hr.mono (by decide)) rfl T.g_l_draw T.fd_l_draw.kp b_l_draw .nil passL (pa_cons (pv 0) (pa_cons pe_int pa_nil))) pe_int (nomark _)) pa_nil)))))) pa_nil)))))))))
      (pss_one (ps_ret (pv 7)))))))
theorem ok_l_state (T : Fs K mg fd) : FnOk P w K mg base (L2.CX P w) 1 (He.ga K "_law_state") (fd 52) ["_law_script"] (sp_l_state K) := by
  refine FunD.ok T.fd_l_state sc_l_state (fun vs H Q E h => len_l_state h) (fun cdv A outer s H vs Q E hr h => ⟨t_l_state K, ?_, pure_l_state vs H Q E h⟩)
  have hu := hu_of hr
  exact (pss_cons (ps_setLc (i := 1) (own := [("_law_cell", 2)]) (g := gName 2) (tt := tYes) rfl sc_l_state.nd rfl rfl (sw_true rfl rfl rfl (by decide +kernel)) (pi_list (pe_slice sl_list (pv 0) po_none (po_some pe_int))) (blkOk_by (N := N_l_state) (sc := defScope s_l_state) (by decide +kernel)) (fun _ _ _ _ _ => pg_name (i := 2) sc_l_state.nd rfl (Or.inl rfl)) (fun _ _ _ _ _ => pts_nil) (fun _ _ _ _ _ => (pe_callB kAbs (by rfl) T.n_abs (by decide +kernel) (pa_cons (pe_callTy kInt1 (by rfl) T.n_int (by decide +kernel) (pa_cons (pv 2) pa_nil)) pa_nil))))
      (pss_cons (ps_if (pt_cmpR (op_eqD hr.units) (pv 1) (pe_lst pa_nil) (nomark _))
      (pss_one (ps_set (i := 1) sc_l_state.nd rfl (Or.inl rfl) (pe_lst (pa_cons pe_int pa_nil))))
      pss_nil)
      (pss_one (ps_ret (pe_lst (pa_cons (pv 1) (pa_cons pe_int (pa_cons pe_int pa_nil))))))))
theorem ok_law (T : Fs K mg fd) : FnOk P w K mg base (L2.CX P w) 10 (He.ga K "law") (fd 53) ["_law_script"] (sp_law K) := by
  have G_House_eq := ok_House_eq (P := P) (w := w) (base := base) T
  have b_House_eq : Binds K (fd 1) ["self", "other"] [] := T.fd_House_eq.bindsN fun _ _ _ _ _ _ us hl => match us, hl with | [_, _], _ => rfl
  have G_l_built := ok_l_built (P := P) (w := w) (base := base) T
  have b_l_built : Binds K (fd 26) ["_law_house_here"] [] := T.fd_l_built.bindsN fun _ _ _ _ _ _ us hl => match us, hl with | [_], _ => rfl
  have G_l_draw := ok_l_draw (P := P) (w := w) (base := base) T
  have b_l_draw : Binds K (fd 27) ["_law_state_here", "_law_many"] [] := T.fd_l_draw.bindsN fun _ _ _ _ _ _ us hl => match us, hl with | [_, _], _ => rfl
  have G_l_refuses := ok_l_refuses (P := P) (w := w) (base := base) T
  have b_l_refuses : Binds K (fd 33) ["_law_told", "_law_value_here"] [] := T.fd_l_refuses.bindsN fun _ _ _ _ _ _ us hl => match us, hl with | [_, _], _ => rfl
  have G_l_no_kind := ok_l_no_kind (P := P) (w := w) (base := base) T
  have b_l_no_kind : Binds K (fd 34) ["_law_told", "_law_name"] [] := T.fd_l_no_kind.bindsN fun _ _ _ _ _ _ us hl => match us, hl with | [_, _], _ => rfl
  have G_l_word := ok_l_word (P := P) (w := w) (base := base) T
  have b_l_word : Binds K (fd 35) ["_law_state_here", "_law_taken"] [] := T.fd_l_word.bindsN fun _ _ _ _ _ _ us hl => match us, hl with | [_, _], _ => rfl
  have G_l_kind_told := ok_l_kind_told (P := P) (w := w) (base := base) T
  have b_l_kind_told : Binds K (fd 36) ["_law_told", "_law_kind_here"] [] := T.fd_l_kind_told.bindsN fun _ _ _ _ _ _ us hl => match us, hl with | [_, _], _ => rfl
  have G_House_getitem := ok_House_getitem (P := P) (w := w) (base := base) T
  have b_House_getitem : Binds K (fd 29) ["self", "name"] [] := T.fd_House_getitem.bindsN fun _ _ _ _ _ _ us hl => match us, hl with | [_, _], _ => rfl
  have G_l_like := ok_l_like (P := P) (w := w) (base := base) T 6
  have b_l_like : Binds K (fd 32) ["_law_told", "_law_due"] [] := T.fd_l_like.bindsN fun _ _ _ _ _ _ us hl => match us, hl with | [_, _], _ => rfl
  have G_House_column_of := ok_House_column_of (P := P) (w := w) (base := base) T
  have b_House_column_of : Binds K (fd 31) ["self", "name"] [] := T.fd_House_column_of.bindsN fun _ _ _ _ _ _ us hl => match us, hl with | [_, _], _ => rfl
  have G_l_names := ok_l_names (P := P) (w := w) (base := base) T
  have b_l_names : Binds K (fd 37) ["_law_house_here"] [] := T.fd_l_names.bindsN fun _ _ _ _ _ _ us hl => match us, hl with | [_], _ => rfl
  have G_l_tells := ok_l_tells (P := P) (w := w) (base := base) T
  have b_l_tells : Binds K (fd 41) ["_law_told", "_law_house_here"] [] := T.fd_l_tells.bindsN fun _ _ _ _ _ _ us hl => match us, hl with | [_, _], _ => rfl
  have G_House_init := ok_House_init (P := P) (w := w) (base := base) T
  have b_House_init : Binds K (fd 10) ["self", "kinds"] [] := T.fd_House_init.bindsN fun _ _ _ _ _ _ us hl => match us, hl with | [_, _], _ => rfl
  have G_l_kind := ok_l_kind (P := P) (w := w) (base := base) T
  have b_l_kind : Binds K (fd 25) ["_law_kind_here"] [] := T.fd_l_kind.bindsN fun _ _ _ _ _ _ us hl => match us, hl with | [_], _ => rfl
  have G_l_shuffled := ok_l_shuffled (P := P) (w := w) (base := base) T
  have b_l_shuffled : Binds K (fd 42) ["_law_state_here", "_law_row"] [] := T.fd_l_shuffled.bindsN fun _ _ _ _ _ _ us hl => match us, hl with | [_, _], _ => rfl
  have G_l_house := ok_l_house (P := P) (w := w) (base := base) T
  have b_l_house : Binds K (fd 51) ["_law_state_here", "_law_kinds", "_law_links", "_law_names_here", "_law_rules"] [] := T.fd_l_house.bindsN fun _ _ _ _ _ _ us hl => match us, hl with | [_, _, _, _, _], _ => rfl
  have G_l_state := ok_l_state (P := P) (w := w) (base := base) T
  have b_l_state : Binds K (fd 52) ["_law_script"] [] := T.fd_l_state.bindsN fun _ _ _ _ _ _ us hl => match us, hl with | [_], _ => rfl
  refine FunD.ok T.fd_law sc_law (fun vs H Q E h => len_law h) (fun cdv A outer s H vs Q E hr h => ⟨t_law K, ?_, pure_law vs H Q E h⟩)
  have hu := hu_of hr
  exact (pss_cons (ps_set (i := 1) sc_law.nd rfl (Or.inr rfl) (pe_call G_l_state (hr.mono (by decide)) rfl T.g_l_state T.fd_l_state.kp b_l_state .nil passL (pa_cons (pv 0) pa_nil)))
      (pss_cons (ps_set (i := 2) sc_law.nd rfl (Or.inl rfl) (pe_call G_l_house (hr.mono (by decide)) rfl T.g_l_house T.fd_l_house.kp b_l_house .nil passL (pa_cons (pv 1) (pa_cons pe_int (pa_cons pe_int (pa_cons pe_int (pa_cons pe_int pa_nil)))))))
      (pss_cons (ps_set (i := 3) sc_law.nd rfl (Or.inl rfl) (pe_call G_l_shuffled (hr.mono (by decide)) rfl T.g_l_shuffled T.fd_l_shuffled.kp b_l_shuffled .nil passL (pa_cons (pv 1) (pa_cons (pe_lc (own := [("_law_kind_here", 13)]) (g := gName 13) (tt := tYes) rfl sc_law.nd (pi_list (pv 2)) (blkOk_by (N := N_law) (sc := defScope s_law) (by decide +kernel)) (fun _ _ _ _ _ => pg_name (i := 13) sc_law.nd rfl (Or.inl rfl)) (fun _ _ _ _ _ => pts_nil) (fun _ _ _ _ _ => (pe_call G_l_kind (hr.mono (by decide)) rfl T.g_l_kind T.fd_l_kind.kp b_l_kind .nil passL (pa_cons (pv 13) pa_nil)))) pa_nil))))
      (pss_cons (ps_set (i := 4) sc_law.nd rfl (Or.inr rfl) (pe_make T.mk_House G_House_init (hr.mono (by decide)) rfl T.g_House b_House_init .nil passL (pa_cons (pv 3) pa_nil)))
      (pss_cons (ps_set (i := 5) sc_law.nd rfl (Or.inl rfl) (pe_make T.mk_House G_House_init (hr.mono (by decide)) rfl T.g_House b_House_init .nil passL (pa_cons (pe_callTy kTupOf (by rfl) T.n_tuple (by decide +kernel) (pa_cons (pe_lc (own := [("_law_kind_here", 13)]) (g := gName 13) (tt := tYes) rfl sc_law.nd (pi_list (pv 2)) (blkOk_by (N := N_law) (sc := defScope s_law) (by decide +kernel)) (fun _ _ _ _ _ => pg_name (i := 13) sc_law.nd rfl (Or.inl rfl)) (fun _ _ _ _ _ => pts_nil) (fun _ _ _ _ _ => (pe_call G_l_kind (hr.mono (by decide)) rfl T.g_l_kind T.fd_l_kind.kp b_l_kind .nil passL (pa_cons (pv 13) pa_nil)))) pa_nil)) pa_nil)))
      (pss_cons (ps_expr (pe_clrVar (pv 3)))
      (pss_cons (ps_if (PW.pt (pw_or (pt_not (pt_val (pe_call G_l_tells (hr.mono (by decide)) rfl T.g_l_tells T.fd_l_tells.kp b_l_tells .nil passL (pa_cons (pv 4) (pa_cons (pv 2) pa_nil))))) (pw_or (pt_not (pt_val (pe_call G_l_tells (hr.mono (by decide)) rfl T.g_l_tells T.fd_l_tells.kp b_l_tells .nil passL (pa_cons (pv 4) (pa_cons (pv 2) pa_nil))))) (pw_or1 (pt_not (pt_cmpR (op_eqK T.m_House_eq.at_ T.m_House_eq.fn G_House_eq (hr.mono (by decide)) b_House_eq passL) (pv 4) (pv 5) (nomark _)))))))
      (pss_one (ps_ret pe_bl))
      pss_nil)
      (pss_cons (ps_set (i := 6) sc_law.nd rfl (Or.inl rfl) (pe_call G_l_names (hr.mono (by decide)) rfl T.g_l_names T.fd_l_names.kp b_l_names .nil passL (pa_cons (pv 2) pa_nil)))
      (pss_cons (ps_for (passes_of rfl) rfl (pi_list (pe_op op_cat (pe_op op_cat (pv 6) (pe_lc (own := [("_law_k", 14)]) (g := gName 14) (tt := tYes) rfl sc_law.nd (pi_range1 rfl T.n_range (pa_cons pe_int pa_nil)) (blkOk_by (N := N_law) (sc := defScope s_law) (by decide +kernel)) (fun _ _ _ _ _ => pg_name (i := 14) sc_law.nd rfl (Or.inl rfl)) (fun _ _ _ _ _ => pts_nil) (fun _ _ _ _ _ => (pe_call G_l_word (hr.mono (by decide)) rfl T.g_l_word T.fd_l_word.kp b_l_word .nil passL (pa_cons (pv 1) (pa_cons (pe_lst pa_nil) pa_nil)))))) (pe_lst (pa_cons pe_str pa_nil)))) (pg_name (i := 7) sc_law.nd rfl (Or.inl rfl))
      (pss_cons (ps_set (i := 8) sc_law.nd rfl (Or.inl rfl) pe_str)
      (pss_cons (ps_if (pt_cmpR op_in_seq (pv 7) (pv 6) (by rfl))
      (pss_one (ps_set (i := 8) sc_law.nd rfl (Or.inl rfl) (pv 7)))
      pss_nil)
      (pss_one (ps_if (pt_not (pt_val (pe_call G_l_like (hr.mono (by omega)) rfl T.g_l_like T.fd_l_like.kp b_l_like .nil passL (pa_cons (pe_meth (pv 4) T.c_House T.m_House_column_of G_House_column_of (hr.mono (by decide)) b_House_column_of .nil passN (pa_cons (pv 7) pa_nil)) (pa_cons (pv 8) pa_nil)))))
      (pss_one (ps_ret pe_bl))
      pss_nil)))))
      (pss_cons (ps_if (pt_cmpR (op_neD hr.units) (pe_lc (own := [("_law_kind_here", 13)]) (g := gName 13) (tt := (tNot (tB (tCall (sp_l_kind_told K) [] E0 (tCons (tOp (rIxK (He.ga K "House") (sp_House_getitem K) E0) (tVar 4) (tOp (rIxL K) (tVar 13) (tC (.int 0)))) (tCons (tVar 13) tNil)))))) rfl sc_law.nd (pi_list (pv 2)) (blkOk_by (N := N_law) (sc := defScope s_law) (by decide +kernel)) (fun _ _ _ _ _ => pg_name (i := 13) sc_law.nd rfl (Or.inl rfl)) (fun _ _ _ _ _ => (pts_one (pt_not (pt_val (pe_call G_l_kind_told (hr.mono (by decide)) rfl T.g_l_kind_told T.fd_l_kind_told.kp b_l_kind_told .nil passL (pa_cons (pe_ixK T.m_House_getitem.at_ T.m_House_getitem.fn T.f_House_getitem G_House_getitem (hr.mono (by decide)) b_House_getitem passN (pv 4) (pe_ix ix_list (pv 13) pe_int (fun _ _ => rfl))) (pa_cons (pv 13) pa_nil))))))) (fun _ _ _ _ _ => (pv 13))) (pe_lst pa_nil) (nomark _))
      (pss_one (ps_ret pe_bl))
      pss_nil)
      (pss_cons (ps_setLc (i := 9) (own := [("_law_kind_here", 13)]) (g := gName 13) (tt := tYes) rfl sc_law.nd rfl rfl (sw_true rfl rfl rfl (by decide +kernel)) (pi_list (pv 2)) (blkOk_by (N := N_law) (sc := defScope s_law) (by decide +kernel)) (fun _ _ _ _ _ => pg_name (i := 13) sc_law.nd rfl (Or.inl rfl)) (fun _ _ _ _ _ => pts_nil) (fun _ _ _ _ _ => (pe_ix ix_list (pv 13) pe_int (fun _ _ => rfl))))
      (pss_cons (ps_if (PW.pt (pw_or (pt_not (pt_val (pe_call G_l_no_kind (hr.mono (by decide)) rfl T.g_l_no_kind T.fd_l_no_kind.kp b_l_no_kind .nil passL (pa_cons (pv 4) (pa_cons (pe_call G_l_word (hr.mono (by decide)) rfl T.g_l_word T.fd_l_word.kp b_l_word .nil passL (pa_cons (pv 1) (pa_cons (pv 9) pa_nil))) pa_nil))))) (pw_or1 (pt_not (pt_val (pe_call G_l_no_kind (hr.mono (by decide)) rfl T.g_l_no_kind T.fd_l_no_kind.kp b_l_no_kind .nil passL (pa_cons (pv 4) (pa_cons pe_str pa_nil))))))))
      (pss_one (ps_ret pe_bl))
      pss_nil)
      (pss_cons (ps_for (passes_of rfl) rfl (pi_list (pe_lst (pa_cons pe_non (pa_cons pe_int (pa_cons pe_bl (pa_cons (pe_tup (pa_cons pe_str pa_nil)) (pa_cons (pe_lst (pa_cons pe_str pa_nil)) (pa_cons pe_str (pa_cons pe_str (pa_cons pe_dnewK pa_nil)))))))))) (pg_name (i := 10) sc_law.nd rfl (Or.inl rfl))
      (pss_one (ps_if (pt_not (pt_val (pe_call G_l_refuses (hr.mono (by decide)) rfl T.g_l_refuses T.fd_l_refuses.kp b_l_refuses .nil passL (pa_cons (pv 4) (pa_cons (pv 10) pa_nil)))))
      (pss_one (ps_ret pe_bl))
      pss_nil)))
      (pss_cons (ps_set (i := 11) sc_law.nd rfl (Or.inl rfl) (pe_call G_l_draw (hr.mono (by decide)) rfl T.g_l_draw T.fd_l_draw.kp b_l_draw .nil passL (pa_cons (pv 1) (pa_cons (pe_callB kLenA (by rfl) T.n_len (by decide +kernel) (pa_cons (pv 2) pa_nil)) pa_nil))))
      (pss_cons (ps_setLc (i := 12) (own := [("_law_kind_here", 13)]) (g := gName 13) (tt := tYes) rfl sc_law.nd rfl rfl (sw_true rfl rfl rfl (by decide +kernel)) (pi_list (pv 2)) (blkOk_by (N := N_law) (sc := defScope s_law) (by decide +kernel)) (fun _ _ _ _ _ => pg_name (i := 13) sc_law.nd rfl (Or.inl rfl)) (fun _ _ _ _ _ => pts_nil) (fun _ _ _ _ _ => (pe_callTy kListOf (by rfl) T.n_list (by decide +kernel) (pa_cons (pv 13) pa_nil))))
      (pss_cons (ps_asg (pe_not (pe_ix ix_list (pe_ix ix_list (pv 12) (pv 11) (fun _ _ => rfl)) pe_int (fun _ _ => rfl))) (pg_sub (pe_ix ix_list (pv 12) (pv 11) (fun _ _ => rfl)) pe_int set_list))
      (pss_one (ps_ret (pe_and (pe_not (pe_cmpR (op_eqK T.m_House_eq.at_ T.m_House_eq.fn G_House_eq (hr.mono (by decide)) b_House_eq passL) (pv 4) (pe_call G_l_built (hr.mono (by decide)) rfl T.g_l_built T.fd_l_built.kp b_l_built .nil passL (pa_cons (pv 12) pa_nil)) (nomark _))) (pe_one (pe_not (pe_cmpR (op_eqK T.m_House_eq.at_ T.m_House_eq.fn G_House_eq (hr.mono (by decide)) b_House_eq passL) (pe_call G_l_built (hr.mono (by decide)) rfl T.g_l_built T.fd_l_built.kp b_l_built .nil passL (pa_cons (pv 12) pa_nil)) (pv 4) (nomark _)))))))))))))))))))))))
end
end K03
end Kb

set_option Elab.async false
set_option linter.all false
set_option maxRecDepth 100000
set_option maxHeartbeats 1000000
/-! Kb, 53: what the head tells of own errors and of isinstance, besides. -/
namespace Kb
open PySem PySem.Spec PyProof.Rows L2

section
variable (K : PySem.W.Frag)
/-- the class object of an own error over ValueError -/
def clsB (C : Addr) : Bool := match K.lookup C with
  | some ⟨.type "type", _, .cls cd, sl⟩ => (match cd.mro, sl.toList with
    | .ref C' :: bm, [_, _, _, _, some (.builtin n), _] => C' == C && (n == "ValueError.__new__" && (cd.hasDict && (!cd.hasDel && PySem.HandSPX.refsVE bm)))
    | _, _ => false)
  | _ => false
def oexB (C : Addr) : Bool := clsB K C && (decide (PySem.W.findIn K (.ref C) "__setattr__" = some (some (.builtin "object.__setattr__"))) && (decide (PySem.W.subIn K (.ref C) (.type "BaseException") = some true) && (decide (PySem.W.typeIn K (.ref C) = some (.type "type")) && PySem.W.keepIn K (.ref C))))
def baseB (B : Addr) : Bool := PySem.W.readsIn K B (.type "type") && (decide (PySem.W.specialIn K (.ref B) "__getattribute__" = some (some (.builtin "type.__getattribute__"))) && match PySem.W.findCls K (.ref B) (.type "type") "__init__" with
  | some (.val (.builtin n)) => n == "ValueError.__init__"
  | _ => false)
def kindB (C : Addr) : Bool := decide (PySem.W.findIn K (.ref C) "__class__" = some (some (.builtin "object.__class__"))) && (decide (PySem.W.specialIn K (.builtin "object.__class__") "__get__" = some (some (.builtin "getset_descriptor.__get__"))) &&
  (decide (PySem.W.takesIn K (.builtin "object.__class__") = some true) && (decide (PySem.W.mroIn K C (.type "object") = some true) && decide (PySem.W.kitOne K (.ref C) (.ref C) = some true))))
end
theorem clsB_ok {K : PySem.W.Frag} {C : Addr} (h : clsB K C = true) : ∃ nm q N bs bm sn sub ab col dd k0 k1 k2 k3 k5, K.lookup C = some (excClassObj nm q C N bs bm true sn sub ab col dd k0 k1 k2 k3 k5 "ValueError.__new__") ∧ PySem.HandSPX.refsVE bm = true := by
  unfold clsB at h
  split at h
  · rename_i dd cd sl look
    split at h
    · rename_i C' bm k0 k1 k2 k3 n k5 hm hs
      obtain ⟨h1, h⟩ := He.ba h
      obtain ⟨h2, h⟩ := He.ba h
      obtain ⟨h3, h⟩ := He.ba h
      obtain ⟨h4, h5⟩ := He.ba h
      obtain rfl : C' = C := by simpa using h1
      obtain rfl : n = "ValueError.__new__" := by simpa using h2
      obtain ⟨nm, bs, mro, ns, qn, hd, sn, sub, ab, col, del⟩ := cd
      have g4 : del = false := by simpa using h4
      have g3 : hd = true := h3
      have gm : mro = _ := hm
      subst gm g4 g3
      have es : sl = #[k0, k1, k2, k3, some (.builtin "ValueError.__new__"), k5] := by
        obtain ⟨l⟩ := sl
        have gs : l = _ := hs
        rw [gs]
      subst es
      exact ⟨nm, qn, ns, bs, bm, sn, sub, ab, col, dd, k0, k1, k2, k3, k5, look, h5⟩
    · cases h
  · cases h
theorem oexB_ok {K : PySem.W.Frag} {C : Addr} (h : oexB K C = true) : OexC K C := by
  obtain ⟨h1, h⟩ := He.ba h
  obtain ⟨h2, h⟩ := He.ba h
  obtain ⟨h3, h⟩ := He.ba h
  obtain ⟨h4, h5⟩ := He.ba h
  exact ⟨clsB_ok h1, of_decide_eq_true h2, of_decide_eq_true h3, of_decide_eq_true h4, h5⟩
theorem baseB_ok {K : PySem.W.Frag} {B : Addr} (h : baseB K B = true) : BaseC K B := by
  obtain ⟨h1, h⟩ := He.ba h
  obtain ⟨h2, h3⟩ := He.ba h
  refine ⟨h1, of_decide_eq_true h2, ?_⟩
  split at h3
  · rename_i n e
    obtain rfl : n = "ValueError.__init__" := by simpa using h3
    exact e
  · cases h3
theorem kindB_ok {K : PySem.W.Frag} (C : KindC K) (h : kindB K (KC K) = true) : KindI K := by
  obtain ⟨h1, h⟩ := He.ba h
  obtain ⟨h2, h⟩ := He.ba h
  obtain ⟨h3, h⟩ := He.ba h
  obtain ⟨h4, h5⟩ := He.ba h
  exact ⟨C, of_decide_eq_true h1, of_decide_eq_true h2, of_decide_eq_true h3, of_decide_eq_true h4, of_decide_eq_true h5⟩
/-- the Hook with a further question, over the statics besides -/
abbrev AlX : Type := AlK × Bool
def frX (n : Nat) (g : Addr → Option Obj) : PySem.W.Frag := He.frG g (cStatics :: He.asD g n)
def obX (n : Nat) (fa : List He.Fa) (fn : List He.DefD) (pr : List Pr) (ex : PySem.W.Frag → Bool) (g : Addr → Option Obj) : AlX := (obK fa fn pr (frX n g), ex (frX n g))
def hookX (n : Nat) (fa : List He.Fa) (fn : List He.DefD) (pr : List Pr) (ex : PySem.W.Frag → Bool) : PySem.W.Hook where
  α := AlX
  obs := fun s => obX n fa fn pr ex s.heap.get?
  val := fun _ => (vaK fn pr, true)
  says := fun _ h => ∃ K : PySem.W.Frag, K.In h ∧ Says fa fn pr K ∧ ex K = true
  of := fun _ _ e => ⟨_, He.frG_in, congrArg (fun z : AlX => z.1) e, congrArg (fun z : AlX => z.2) e⟩
  keeps := fun _ _ _ ⟨K, hK, c⟩ k => ⟨K, PySem.W.Frag.In.keeps hK k, c⟩
theorem obX_eq {n : Nat} {fa : List He.Fa} {fn : List He.DefD} {pr : List Pr} {ex : PySem.W.Frag → Bool} {g : Addr → Option Obj} {s : Shared} (h : ∀ a, g a = s.heap.get? a) : obX n fa fn pr ex g = (hookX n fa fn pr ex).obs s := by
  have e : g = s.heap.get? := funext h
  rw [e] <;> rfl
/-- a def that lets nothing out -/
theorem calmFn {P : Program} {w : World} {K : PySem.W.Frag} {mg : Str → Option Value} {base : Heap} {k : Nat} {f : Addr} {fd : FuncData} {ps : List Str} {sp : Sp} (F : FnOk P w K mg base (L2.CX P w) k f fd ps sp) (h : ∀ vs H Q E, sp vs H Q E → sp vs H Q E0) : FnOk P w K mg base CX0 k f fd ps sp := by
  refine ⟨F.len, fun A outer s H args us vs Q E hr e0 hb r hs => codeAny_mono (F.run A outer s H args us vs Q E0 hr e0 hb r (h _ _ _ _ hs)) fun r s' q => ?_⟩
  cases r with
  | error e =>
    obtain ⟨_, _, _, _, _, _, _, _, _, _, _, _, z⟩ := q
    exact z.elim
  | ok fl =>
    cases fl with
    | ret u => exact q
    | next => exact False.elim q
    | brk => exact False.elim q
    | cont => exact False.elim q
end Kb

set_option Elab.async false
set_option linter.all false
set_option maxRecDepth 100000
/-! Kb, 71: what the head tells of the class House. -/
namespace Kb
open PySem PySem.Spec PyProof.Rows L2
theorem houseB_ok {K : PySem.W.Frag} (C : HouseC K) (h : kindB K (HC K) = true) : HouseI K := by
  obtain ⟨h1, h⟩ := He.ba h
  obtain ⟨h2, h⟩ := He.ba h
  obtain ⟨h3, h⟩ := He.ba h
  obtain ⟨h4, h5⟩ := He.ba h
  exact ⟨C, of_decide_eq_true h1, of_decide_eq_true h2, of_decide_eq_true h3, of_decide_eq_true h4, of_decide_eq_true h5⟩
end Kb

set_option Elab.async false
set_option linter.all false
set_option maxRecDepth 100000
set_option maxHeartbeats 0
namespace Kb
namespace K03
open PySem PySem.Spec PyProof.Rows L2
def d_Kind_eq : He.DefD := ⟨("Kind", some "__eq__"), "__eq__", "Kind.__eq__", defArgs (s_Kind_eq), defBody (s_Kind_eq), defScope (s_Kind_eq), [], []⟩
def d_House_eq : He.DefD := ⟨("House", some "__eq__"), "__eq__", "House.__eq__", defArgs (s_House_eq), defBody (s_House_eq), defScope (s_House_eq), [], []⟩
def d_Kind_rules : He.DefD := ⟨("Kind", some "rules"), "rules", "Kind.rules", defArgs (s_Kind_rules), defBody (s_Kind_rules), defScope (s_Kind_rules), [], []⟩
def d_Kind_own : He.DefD := ⟨("Kind", some "own"), "own", "Kind.own", defArgs (s_Kind_own), defBody (s_Kind_own), defScope (s_Kind_own), [], []⟩
def d_named_by : He.DefD := ⟨("named_by", none), "named_by", "named_by", defArgs (s_named_by), defBody (s_named_by), defScope (s_named_by), [], []⟩
def d_Kind_links : He.DefD := ⟨("Kind", some "links"), "links", "Kind.links", defArgs (s_Kind_links), defBody (s_Kind_links), defScope (s_Kind_links), [], []⟩
def d_leads_only_to : He.DefD := ⟨("leads_only_to", none), "leads_only_to", "leads_only_to", defArgs (s_leads_only_to), defBody (s_leads_only_to), defScope (s_leads_only_to), [], []⟩
def d_Kind_name : He.DefD := ⟨("Kind", some "name"), "name", "Kind.name", defArgs (s_Kind_name), defBody (s_Kind_name), defScope (s_Kind_name), [], []⟩
def d_is_list : He.DefD := ⟨("is_list", none), "is_list", "is_list", defArgs (s_is_list), defBody (s_is_list), defScope (s_is_list), [], []⟩
def d_kinds_by_name : He.DefD := ⟨("kinds_by_name", none), "kinds_by_name", "kinds_by_name", defArgs (s_kinds_by_name), defBody (s_kinds_by_name), defScope (s_kinds_by_name), [], []⟩
def d_House_init : He.DefD := ⟨("House", some "__init__"), "__init__", "House.__init__", defArgs (s_House_init), defBody (s_House_init), defScope (s_House_init), [], []⟩
def d_is_flag : He.DefD := ⟨("is_flag", none), "is_flag", "is_flag", defArgs (s_is_flag), defBody (s_is_flag), defScope (s_is_flag), [], []⟩
def d_is_link : He.DefD := ⟨("is_link", none), "is_link", "is_link", defArgs (s_is_link), defBody (s_is_link), defScope (s_is_link), [], []⟩
def d_is_name : He.DefD := ⟨("is_name", none), "is_name", "is_name", defArgs (s_is_name), defBody (s_is_name), defScope (s_is_name), [], []⟩
def d_is_name_or_empty : He.DefD := ⟨("is_name_or_empty", none), "is_name_or_empty", "is_name_or_empty", defArgs (s_is_name_or_empty), defBody (s_is_name_or_empty), defScope (s_is_name_or_empty), [], []⟩
def d_is_manner : He.DefD := ⟨("is_manner", none), "is_manner", "is_manner", defArgs (s_is_manner), defBody (s_is_manner), defScope (s_is_manner), [], []⟩
def d_is_send : He.DefD := ⟨("is_send", none), "is_send", "is_send", defArgs (s_is_send), defBody (s_is_send), defScope (s_is_send), [], []⟩
def d_is_name_list : He.DefD := ⟨("is_name_list", none), "is_name_list", "is_name_list", defArgs (s_is_name_list), defBody (s_is_name_list), defScope (s_is_name_list), [], []⟩
def d_is_rule : He.DefD := ⟨("is_rule", none), "is_rule", "is_rule", defArgs (s_is_rule), defBody (s_is_rule), defScope (s_is_rule), [], []⟩
def d_copied_rules : He.DefD := ⟨("copied_rules", none), "copied_rules", "copied_rules", defArgs (s_copied_rules), defBody (s_copied_rules), defScope (s_copied_rules), [], []⟩
def d_is_own_answer : He.DefD := ⟨("is_own_answer", none), "is_own_answer", "is_own_answer", defArgs (s_is_own_answer), defBody (s_is_own_answer), defScope (s_is_own_answer), [], []⟩
def d_copied_own : He.DefD := ⟨("copied_own", none), "copied_own", "copied_own", defArgs (s_copied_own), defBody (s_copied_own), defScope (s_copied_own), [], []⟩
def d_is_choice_list : He.DefD := ⟨("is_choice_list", none), "is_choice_list", "is_choice_list", defArgs (s_is_choice_list), defBody (s_is_choice_list), defScope (s_is_choice_list), [], []⟩
def d_copied_links : He.DefD := ⟨("copied_links", none), "copied_links", "copied_links", defArgs (s_copied_links), defBody (s_copied_links), defScope (s_copied_links), [], []⟩
def d_Kind_init : He.DefD := ⟨("Kind", some "__init__"), "__init__", "Kind.__init__", defArgs (s_Kind_init), defBody (s_Kind_init), defScope (s_Kind_init), [], [("hidden", .bl false)]⟩
def d_l_kind : He.DefD := ⟨("_law_kind", none), "_law_kind", "_law_kind", defArgs (s_l_kind), defBody (s_l_kind), defScope (s_l_kind), [], []⟩
def d_l_built : He.DefD := ⟨("_law_built", none), "_law_built", "_law_built", defArgs (s_l_built), defBody (s_l_built), defScope (s_l_built), [], []⟩
def d_l_draw : He.DefD := ⟨("_law_draw", none), "_law_draw", "_law_draw", defArgs (s_l_draw), defBody (s_l_draw), defScope (s_l_draw), [], []⟩
def d_NoKind_init : He.DefD := ⟨("NoKind", some "__init__"), "__init__", "NoKind.__init__", defArgs (s_NoKind_init), defBody (s_NoKind_init), defScope (s_NoKind_init), [], []⟩
def d_House_getitem : He.DefD := ⟨("House", some "__getitem__"), "__getitem__", "House.__getitem__", defArgs (s_House_getitem), defBody (s_House_getitem), defScope (s_House_getitem), [], []⟩
def d_NoName_init : He.DefD := ⟨("NoName", some "__init__"), "__init__", "NoName.__init__", defArgs (s_NoName_init), defBody (s_NoName_init), defScope (s_NoName_init), [], []⟩
def d_House_column_of : He.DefD := ⟨("House", some "column_of"), "column_of", "House.column_of", defArgs (s_House_column_of), defBody (s_House_column_of), defScope (s_House_column_of), [], []⟩
def d_l_like : He.DefD := ⟨("_law_like", none), "_law_like", "_law_like", defArgs (s_l_like), defBody (s_l_like), defScope (s_l_like), [], []⟩
def d_l_refuses : He.DefD := ⟨("_law_refuses", none), "_law_refuses", "_law_refuses", defArgs (s_l_refuses), defBody (s_l_refuses), defScope (s_l_refuses), [], []⟩
def d_l_no_kind : He.DefD := ⟨("_law_no_kind", none), "_law_no_kind", "_law_no_kind", defArgs (s_l_no_kind), defBody (s_l_no_kind), defScope (s_l_no_kind), [], []⟩
def d_l_word : He.DefD := ⟨("_law_word", none), "_law_word", "_law_word", defArgs (s_l_word), defBody (s_l_word), defScope (s_l_word), [], []⟩
def d_l_kind_told : He.DefD := ⟨("_law_kind_told", none), "_law_kind_told", "_law_kind_told", defArgs (s_l_kind_told), defBody (s_l_kind_told), defScope (s_l_kind_told), [], []⟩
def d_l_names : He.DefD := ⟨("_law_names", none), "_law_names", "_law_names", defArgs (s_l_names), defBody (s_l_names), defScope (s_l_names), [], []⟩
def d_House_names : He.DefD := ⟨("House", some "names"), "names", "House.names", defArgs (s_House_names), defBody (s_House_names), defScope (s_House_names), [], []⟩
def d_House_columns : He.DefD := ⟨("House", some "columns"), "columns", "House.columns", defArgs (s_House_columns), defBody (s_House_columns), defScope (s_House_columns), [], []⟩
def d_House_kinds : He.DefD := ⟨("House", some "kinds"), "kinds", "House.kinds", defArgs (s_House_kinds), defBody (s_House_kinds), defScope (s_House_kinds), [], []⟩
def d_l_tells : He.DefD := ⟨("_law_tells", none), "_law_tells", "_law_tells", defArgs (s_l_tells), defBody (s_l_tells), defScope (s_l_tells), [], []⟩
def d_l_shuffled : He.DefD := ⟨("_law_shuffled", none), "_law_shuffled", "_law_shuffled", defArgs (s_l_shuffled), defBody (s_l_shuffled), defScope (s_l_shuffled), [], []⟩
def d_l_pick : He.DefD := ⟨("_law_pick", none), "_law_pick", "_law_pick", defArgs (s_l_pick), defBody (s_l_pick), defScope (s_l_pick), [], []⟩
def d_l_value : He.DefD := ⟨("_law_value", none), "_law_value", "_law_value", defArgs (s_l_value), defBody (s_l_value), defScope (s_l_value), [], []⟩
def d_l_own : He.DefD := ⟨("_law_own", none), "_law_own", "_law_own", defArgs (s_l_own), defBody (s_l_own), defScope (s_l_own), [], []⟩
def d_l_some : He.DefD := ⟨("_law_some", none), "_law_some", "_law_some", defArgs (s_l_some), defBody (s_l_some), defScope (s_l_some), [], []⟩
def d_l_rule : He.DefD := ⟨("_law_rule", none), "_law_rule", "_law_rule", defArgs (s_l_rule), defBody (s_l_rule), defScope (s_l_rule), [], []⟩
def d_l_choices : He.DefD := ⟨("_law_choices", none), "_law_choices", "_law_choices", defArgs (s_l_choices), defBody (s_l_choices), defScope (s_l_choices), [], []⟩
def d_l_words : He.DefD := ⟨("_law_words", none), "_law_words", "_law_words", defArgs (s_l_words), defBody (s_l_words), defScope (s_l_words), [], []⟩
def d_l_doors : He.DefD := ⟨("_law_doors", none), "_law_doors", "_law_doors", defArgs (s_l_doors), defBody (s_l_doors), defScope (s_l_doors), [], []⟩
def d_l_house : He.DefD := ⟨("_law_house", none), "_law_house", "_law_house", defArgs (s_l_house), defBody (s_l_house), defScope (s_l_house), [], []⟩
def d_l_state : He.DefD := ⟨("_law_state", none), "_law_state", "_law_state", defArgs (s_l_state), defBody (s_l_state), defScope (s_l_state), [], []⟩
def d_law : He.DefD := ⟨("law", none), "law", "law", defArgs (s_law), defBody (s_law), defScope (s_law), [], []⟩
def fn : List He.DefD := [d_Kind_eq, d_House_eq, d_Kind_rules, d_Kind_own, d_named_by, d_Kind_links, d_leads_only_to, d_is_list, d_kinds_by_name, d_House_init, d_is_flag, d_is_link, d_is_name, d_is_name_or_empty, d_is_manner, d_is_send, d_is_name_list, d_is_rule, d_copied_rules, d_is_own_answer, d_copied_own, d_is_choice_list, d_copied_links, d_Kind_init, d_l_kind, d_l_built, d_l_draw, d_NoKind_init, d_House_getitem, d_NoName_init, d_House_column_of, d_l_like, d_l_refuses, d_l_no_kind, d_l_word, d_l_kind_told, d_l_names, d_House_names, d_House_columns, d_House_kinds, d_l_tells, d_l_shuffled, d_l_pick, d_l_value, d_l_own, d_l_some, d_l_rule, d_l_choices, d_l_words, d_l_doors, d_l_house, d_l_state, d_law]
def pr : List Pr := [("Kind", "name", d_Kind_name)]
def fa0 : List He.Fa := [.free "abs", .free "all", .free "bool", .free "dict", .free "enumerate", .free "int", .free "isinstance", .free "len", .free "list", .free "min", .free "range", .free "set", .free "sorted", .free "str", .free "tuple", .int "MOST_KINDS" 4, .int "MOST_NAMED" 6, .str "LETTERS" "abcdefghijklmnopqrstuvwxyz", .int "LONGEST_NAME" 8, .int "MOST_NAMES" 4, .int "MOST_RULES" 300, .int "MOST_OWN" 5, .int "MOST_CHOICES" 4, .int "MOST_LINKS" 2, .glo "AskError", .glo "House", .glo "Kind", .glo "NoKind", .glo "NoName", .glo "named_by"]
def fa1 : List He.Fa := [.glo "leads_only_to", .glo "is_list", .glo "kinds_by_name", .glo "is_flag", .glo "is_link", .glo "is_name", .glo "is_name_or_empty", .glo "is_manner", .glo "is_send", .glo "is_name_list", .glo "is_rule", .glo "copied_rules", .glo "is_own_answer", .glo "copied_own", .glo "is_choice_list", .glo "copied_links", .glo "_law_kind", .glo "_law_built", .glo "_law_draw", .glo "_law_like", .glo "_law_refuses", .glo "_law_no_kind", .glo "_law_word", .glo "_law_kind_told", .glo "_law_names", .glo "_law_tells", .glo "_law_shuffled", .glo "_law_pick", .glo "_law_value", .glo "_law_own"]
def fa2 : List He.Fa := [.glo "_law_some", .glo "_law_rule", .glo "_law_choices", .glo "_law_words", .glo "_law_doors", .glo "_law_house", .glo "_law_state", .glo "law", .cls "Kind", .mkr "Kind", .noat "Kind" "kind_name", .noat "Kind" "link_table", .noat "Kind" "own_table", .noat "Kind" "rule_list", .noat "Kind" "is_hidden", .cls "House", .mkr "House", .noat "House" "kind_table", .noat "House" "name_list", .meth "Kind" "__eq__", .meth "House" "__eq__", .meth "Kind" "rules", .meth "Kind" "own", .meth "Kind" "links", .meth "House" "__getitem__", .meth "House" "column_of", .meth "House" "names", .meth "House" "columns", .meth "House" "kinds", .exm "NoKind" "NoKind" true]
def fa3 : List He.Fa := [.exm "NoName" "NoName" true]
def fa : List He.Fa := fa0 ++ fa1 ++ fa2 ++ fa3
def exq (K : PySem.W.Frag) : Bool := oexB K (He.ga K "NoKind") && (decide (PySem.W.findIn K (.ref (He.ga K "NoKind")) "what" = some none) && (decide (PySem.W.findIn K (.ref (He.ga K "NoKind")) "__init__" = some (some (.ref (He.ma K (He.ga K "NoKind") "__init__")))) && (decide (PySem.W.typeIn K (.ref (He.ma K (He.ga K "NoKind") "__init__")) = some (.type "function")) && (xfB K (He.ga K "NoKind") && (oexB K (He.ga K "NoName") && (decide (PySem.W.findIn K (.ref (He.ga K "NoName")) "what" = some none) && (decide (PySem.W.findIn K (.ref (He.ga K "NoName")) "__init__" = some (some (.ref (He.ma K (He.ga K "NoName") "__init__")))) && (decide (PySem.W.typeIn K (.ref (He.ma K (He.ga K "NoName") "__init__")) = some (.type "function")) && (xfB K (He.ga K "NoName") && (baseB K (He.ga K "AskError") && (kindB K (He.ga K "Kind") && (kindB K (He.ga K "House") && (PySem.W.fnIn K (He.ma K (He.ga K "House") "__getitem__"))))))))))))))
def nm0 : List Str := ["_wall", "AskError", "BadKind", "BadHouse", "NoKind", "NoName", "LETTERS", "LONGEST_NAME", "is_name", "is_name_or_empty", "is_flag", "is_list", "MOST_LINKS", "MOST_CHOICES", "MOST_OWN", "MOST_RULES", "MOST_NAMES", "is_choice_list", "is_name_list", "is_link", "is_manner", "is_own_answer", "is_send", "is_rule", "copied_links", "copied_own", "copied_rules", "Kind", "MOST_KINDS", "MOST_NAMED"]
def nm1 : List Str := ["kinds_by_name", "leads_only_to", "named_by", "House", "_law_state", "_law_draw", "_law_pick", "_law_word", "_law_words", "_law_some", "_law_shuffled", "_law_choices", "_law_value", "_law_rule", "_law_own", "_law_doors", "_law_house", "_law_kind", "_law_built", "_law_names", "_law_like", "_law_tells", "_law_kind_told", "_law_refuses", "_law_no_kind"]
abbrev RW : PySem.W.OpenRow := PySem.W.OpenLaw.row PySem.Challenge.rw_onwardasks_k03_house_told
abbrev hkx : PySem.W.Hook := hookX 5 fa fn pr exq
def obx (s : PySem.W.SharedT) : AlX := obX 5 fa fn pr exq (HandSHeadRun.getT s)
theorem obx_eq (s : PySem.W.SharedT) : obx s = hkx.obs s.abs := obX_eq (HandSHeadRun.getT_eq s)
theorem runX (w : World) : HandSHeadRun.RunEq RW (PySem.W.view RW.prog [60]) hkx obx 6000 (nm0 ++ nm1) w := by
  intro os
  kernel_rfl
theorem facts {P : Program} {w : World} {K : PySem.W.Frag} {h : Heap} {mg : Str → Option Value} {f : Addr} (X : K.In h) (G : h.Ns mainGlobals mg) (hfa : mg ("law" : Str) = some (.ref f)) (c : Says fa fn pr K) (e : exq K = true) :
    ∃ fd : FuncData, (∀ (s : Shared) (v : Value), BindsTo s fd ⟨[v], []⟩ [("_law_script", v)]) ∧ (Top K) ∧ ∀ base : Heap, K.In base → base.Ns mainGlobals mg → FnOk P w K mg base CX0 10 f fd ["_law_script"] (sp_law K) := by
  obtain ⟨x0, e⟩ := He.ba e
  obtain ⟨x1, e⟩ := He.ba e
  obtain ⟨x2, e⟩ := He.ba e
  obtain ⟨x3, e⟩ := He.ba e
  obtain ⟨x4, e⟩ := He.ba e
  obtain ⟨x5, e⟩ := He.ba e
  obtain ⟨x6, e⟩ := He.ba e
  obtain ⟨x7, e⟩ := He.ba e
  obtain ⟨x8, e⟩ := He.ba e
  obtain ⟨x9, e⟩ := He.ba e
  obtain ⟨x10, e⟩ := He.ba e
  obtain ⟨x11, e⟩ := He.ba e
  obtain ⟨x12, x13⟩ := He.ba e
  obtain ⟨f0, F0⟩ := c.d.def_ 0 (d := d_Kind_eq) rfl
  obtain ⟨f1, F1⟩ := c.d.def_ 1 (d := d_House_eq) rfl
  obtain ⟨f2, F2⟩ := c.d.def_ 2 (d := d_Kind_rules) rfl
  obtain ⟨f3, F3⟩ := c.d.def_ 3 (d := d_Kind_own) rfl
  obtain ⟨f4, F4⟩ := c.d.def_ 4 (d := d_named_by) rfl
  obtain ⟨f5, F5⟩ := c.d.def_ 5 (d := d_Kind_links) rfl
  obtain ⟨f6, F6⟩ := c.d.def_ 6 (d := d_leads_only_to) rfl
  obtain ⟨f7, F7⟩ := (c.prop 0 (p := ("Kind", "name", d_Kind_name)) rfl).2
  obtain ⟨f8, F8⟩ := c.d.def_ 7 (d := d_is_list) rfl
  obtain ⟨f9, F9⟩ := c.d.def_ 8 (d := d_kinds_by_name) rfl
  obtain ⟨f10, F10⟩ := c.d.def_ 9 (d := d_House_init) rfl
  obtain ⟨f11, F11⟩ := c.d.def_ 10 (d := d_is_flag) rfl
  obtain ⟨f12, F12⟩ := c.d.def_ 11 (d := d_is_link) rfl
  obtain ⟨f13, F13⟩ := c.d.def_ 12 (d := d_is_name) rfl
  obtain ⟨f14, F14⟩ := c.d.def_ 13 (d := d_is_name_or_empty) rfl
  obtain ⟨f15, F15⟩ := c.d.def_ 14 (d := d_is_manner) rfl
  obtain ⟨f16, F16⟩ := c.d.def_ 15 (d := d_is_send) rfl
  obtain ⟨f17, F17⟩ := c.d.def_ 16 (d := d_is_name_list) rfl
  obtain ⟨f18, F18⟩ := c.d.def_ 17 (d := d_is_rule) rfl
  obtain ⟨f19, F19⟩ := c.d.def_ 18 (d := d_copied_rules) rfl
  obtain ⟨f20, F20⟩ := c.d.def_ 19 (d := d_is_own_answer) rfl
  obtain ⟨f21, F21⟩ := c.d.def_ 20 (d := d_copied_own) rfl
  obtain ⟨f22, F22⟩ := c.d.def_ 21 (d := d_is_choice_list) rfl
  obtain ⟨f23, F23⟩ := c.d.def_ 22 (d := d_copied_links) rfl
  obtain ⟨f24, F24⟩ := c.d.def_ 23 (d := d_Kind_init) rfl
  obtain ⟨f25, F25⟩ := c.d.def_ 24 (d := d_l_kind) rfl
  obtain ⟨f26, F26⟩ := c.d.def_ 25 (d := d_l_built) rfl
  obtain ⟨f27, F27⟩ := c.d.def_ 26 (d := d_l_draw) rfl
  obtain ⟨f28, F28⟩ := c.d.def_ 27 (d := d_NoKind_init) rfl
  obtain ⟨f29, F29⟩ := c.d.def_ 28 (d := d_House_getitem) rfl
  obtain ⟨f30, F30⟩ := c.d.def_ 29 (d := d_NoName_init) rfl
  obtain ⟨f31, F31⟩ := c.d.def_ 30 (d := d_House_column_of) rfl
  obtain ⟨f32, F32⟩ := c.d.def_ 31 (d := d_l_like) rfl
  obtain ⟨f33, F33⟩ := c.d.def_ 32 (d := d_l_refuses) rfl
  obtain ⟨f34, F34⟩ := c.d.def_ 33 (d := d_l_no_kind) rfl
  obtain ⟨f35, F35⟩ := c.d.def_ 34 (d := d_l_word) rfl
  obtain ⟨f36, F36⟩ := c.d.def_ 35 (d := d_l_kind_told) rfl
  obtain ⟨f37, F37⟩ := c.d.def_ 36 (d := d_l_names) rfl
  obtain ⟨f38, F38⟩ := c.d.def_ 37 (d := d_House_names) rfl
  obtain ⟨f39, F39⟩ := c.d.def_ 38 (d := d_House_columns) rfl
  obtain ⟨f40, F40⟩ := c.d.def_ 39 (d := d_House_kinds) rfl
  obtain ⟨f41, F41⟩ := c.d.def_ 40 (d := d_l_tells) rfl
  obtain ⟨f42, F42⟩ := c.d.def_ 41 (d := d_l_shuffled) rfl
  obtain ⟨f43, F43⟩ := c.d.def_ 42 (d := d_l_pick) rfl
  obtain ⟨f44, F44⟩ := c.d.def_ 43 (d := d_l_value) rfl
  obtain ⟨f45, F45⟩ := c.d.def_ 44 (d := d_l_own) rfl
  obtain ⟨f46, F46⟩ := c.d.def_ 45 (d := d_l_some) rfl
  obtain ⟨f47, F47⟩ := c.d.def_ 46 (d := d_l_rule) rfl
  obtain ⟨f48, F48⟩ := c.d.def_ 47 (d := d_l_choices) rfl
  obtain ⟨f49, F49⟩ := c.d.def_ 48 (d := d_l_words) rfl
  obtain ⟨f50, F50⟩ := c.d.def_ 49 (d := d_l_doors) rfl
  obtain ⟨f51, F51⟩ := c.d.def_ 50 (d := d_l_house) rfl
  obtain ⟨f52, F52⟩ := c.d.def_ 51 (d := d_l_state) rfl
  obtain ⟨f53, F53⟩ := c.d.def_ 52 (d := d_law) rfl
  have ef := hfa.symm.trans (He.glo_ok X G (c.d.fact 67 (f := .glo "law") rfl))
  cases ef
  have b := FunD.bindsA (ps := ["_law_script"]) F53 fun _ _ _ _ _ _ us hl => match us, hl with | [_], _ => rfl
  have cl_Kind : Cls K (He.ga K "Kind") := He.cls_ok (c.d.fact 68 (f := .cls "Kind") rfl)
  have cc_Kind : KindC K := ⟨cl_Kind, He.noat_ok (c.d.fact 70 (f := .noat "Kind" "kind_name") rfl), He.noat_ok (c.d.fact 71 (f := .noat "Kind" "link_table") rfl), He.noat_ok (c.d.fact 72 (f := .noat "Kind" "own_table") rfl), He.noat_ok (c.d.fact 73 (f := .noat "Kind" "rule_list") rfl), He.noat_ok (c.d.fact 74 (f := .noat "Kind" "is_hidden") rfl)⟩
  have cl_House : Cls K (He.ga K "House") := He.cls_ok (c.d.fact 75 (f := .cls "House") rfl)
  have cc_House : HouseC K := ⟨cl_House, He.noat_ok (c.d.fact 77 (f := .noat "House" "kind_table") rfl), He.noat_ok (c.d.fact 78 (f := .noat "House" "name_list") rfl)⟩
  have T : Fs K mg (fun i => ([f0, f1, f2, f3, f4, f5, f6, f7, f8, f9, f10, f11, f12, f13, f14, f15, f16, f17, f18, f19, f20, f21, f22, f23, f24, f25, f26, f27, f28, f29, f30, f31, f32, f33, f34, f35, f36, f37, f38, f39, f40, f41, f42, f43, f44, f45, f46, f47, f48, f49, f50, f51, f52, f53] : List FuncData).getD i f0) := ⟨He.free_ok X G (c.d.fact 0 (f := .free "abs") rfl),
    He.free_ok X G (c.d.fact 1 (f := .free "all") rfl),
    He.free_ok X G (c.d.fact 2 (f := .free "bool") rfl),
    He.free_ok X G (c.d.fact 3 (f := .free "dict") rfl),
    He.free_ok X G (c.d.fact 4 (f := .free "enumerate") rfl),
    He.free_ok X G (c.d.fact 5 (f := .free "int") rfl),
    He.free_ok X G (c.d.fact 6 (f := .free "isinstance") rfl),
    He.free_ok X G (c.d.fact 7 (f := .free "len") rfl),
    He.free_ok X G (c.d.fact 8 (f := .free "list") rfl),
    He.free_ok X G (c.d.fact 9 (f := .free "min") rfl),
    He.free_ok X G (c.d.fact 10 (f := .free "range") rfl),
    He.free_ok X G (c.d.fact 11 (f := .free "set") rfl),
    He.free_ok X G (c.d.fact 12 (f := .free "sorted") rfl),
    He.free_ok X G (c.d.fact 13 (f := .free "str") rfl),
    He.free_ok X G (c.d.fact 14 (f := .free "tuple") rfl),
    He.int_ok X G (c.d.fact 15 (f := .int "MOST_KINDS" 4) rfl),
    He.int_ok X G (c.d.fact 16 (f := .int "MOST_NAMED" 6) rfl),
    He.str_ok X G (c.d.fact 17 (f := .str "LETTERS" "abcdefghijklmnopqrstuvwxyz") rfl),
    He.int_ok X G (c.d.fact 18 (f := .int "LONGEST_NAME" 8) rfl),
    He.int_ok X G (c.d.fact 19 (f := .int "MOST_NAMES" 4) rfl),
    He.int_ok X G (c.d.fact 20 (f := .int "MOST_RULES" 300) rfl),
    He.int_ok X G (c.d.fact 21 (f := .int "MOST_OWN" 5) rfl),
    He.int_ok X G (c.d.fact 22 (f := .int "MOST_CHOICES" 4) rfl),
    He.int_ok X G (c.d.fact 23 (f := .int "MOST_LINKS" 2) rfl),
    He.glo_ok X G (c.d.fact 24 (f := .glo "AskError") rfl),
    He.glo_ok X G (c.d.fact 25 (f := .glo "House") rfl),
    He.glo_ok X G (c.d.fact 26 (f := .glo "Kind") rfl),
    He.glo_ok X G (c.d.fact 27 (f := .glo "NoKind") rfl),
    He.glo_ok X G (c.d.fact 28 (f := .glo "NoName") rfl),
    cl_House,
    cl_Kind,
    F0,
    He.meth_ok (c.d.fact 79 (f := .meth "Kind" "__eq__") rfl),
    F1,
    He.meth_ok (c.d.fact 80 (f := .meth "House" "__eq__") rfl),
    F2,
    He.meth_ok (c.d.fact 81 (f := .meth "Kind" "rules") rfl),
    F3,
    He.meth_ok (c.d.fact 82 (f := .meth "Kind" "own") rfl),
    He.glo_ok X G (c.d.fact 29 (f := .glo "named_by") rfl),
    F4,
    F5,
    He.meth_ok (c.d.fact 83 (f := .meth "Kind" "links") rfl),
    He.glo_ok X G (c.d.fact 30 (f := .glo "leads_only_to") rfl),
    F6,
    F7,
    (c.prop 0).1,
    He.glo_ok X G (c.d.fact 31 (f := .glo "is_list") rfl),
    F8,
    He.glo_ok X G (c.d.fact 32 (f := .glo "kinds_by_name") rfl),
    F9,
    F10,
    He.mkr_ok (c.d.fact 76 (f := .mkr "House") rfl),
    He.glo_ok X G (c.d.fact 33 (f := .glo "is_flag") rfl),
    F11,
    He.glo_ok X G (c.d.fact 34 (f := .glo "is_link") rfl),
    F12,
    He.glo_ok X G (c.d.fact 35 (f := .glo "is_name") rfl),
    F13,
    He.glo_ok X G (c.d.fact 36 (f := .glo "is_name_or_empty") rfl),
    F14,
    He.glo_ok X G (c.d.fact 37 (f := .glo "is_manner") rfl),
    F15,
    He.glo_ok X G (c.d.fact 38 (f := .glo "is_send") rfl),
    F16,
    He.glo_ok X G (c.d.fact 39 (f := .glo "is_name_list") rfl),
    F17,
    He.glo_ok X G (c.d.fact 40 (f := .glo "is_rule") rfl),
    F18,
    He.glo_ok X G (c.d.fact 41 (f := .glo "copied_rules") rfl),
    F19,
    He.glo_ok X G (c.d.fact 42 (f := .glo "is_own_answer") rfl),
    F20,
    He.glo_ok X G (c.d.fact 43 (f := .glo "copied_own") rfl),
    F21,
    He.glo_ok X G (c.d.fact 44 (f := .glo "is_choice_list") rfl),
    F22,
    He.glo_ok X G (c.d.fact 45 (f := .glo "copied_links") rfl),
    F23,
    F24,
    He.mkr_ok (c.d.fact 69 (f := .mkr "Kind") rfl),
    He.glo_ok X G (c.d.fact 46 (f := .glo "_law_kind") rfl),
    F25,
    He.glo_ok X G (c.d.fact 47 (f := .glo "_law_built") rfl),
    F26,
    He.glo_ok X G (c.d.fact 48 (f := .glo "_law_draw") rfl),
    F27,
    F28,
    oexB_ok x0,
    of_decide_eq_true x2,
    of_decide_eq_true x3,
    F29,
    He.meth_ok (c.d.fact 84 (f := .meth "House" "__getitem__") rfl),
    x13,
    F30,
    oexB_ok x5,
    of_decide_eq_true x7,
    of_decide_eq_true x8,
    F31,
    He.meth_ok (c.d.fact 85 (f := .meth "House" "column_of") rfl),
    He.glo_ok X G (c.d.fact 49 (f := .glo "_law_like") rfl),
    F32,
    He.glo_ok X G (c.d.fact 50 (f := .glo "_law_refuses") rfl),
    F33,
    He.glo_ok X G (c.d.fact 51 (f := .glo "_law_no_kind") rfl),
    F34,
    He.glo_ok X G (c.d.fact 52 (f := .glo "_law_word") rfl),
    F35,
    He.glo_ok X G (c.d.fact 53 (f := .glo "_law_kind_told") rfl),
    F36,
    He.glo_ok X G (c.d.fact 54 (f := .glo "_law_names") rfl),
    F37,
    F38,
    He.meth_ok (c.d.fact 86 (f := .meth "House" "names") rfl),
    F39,
    He.meth_ok (c.d.fact 87 (f := .meth "House" "columns") rfl),
    F40,
    He.meth_ok (c.d.fact 88 (f := .meth "House" "kinds") rfl),
    He.glo_ok X G (c.d.fact 55 (f := .glo "_law_tells") rfl),
    F41,
    He.glo_ok X G (c.d.fact 56 (f := .glo "_law_shuffled") rfl),
    F42,
    He.glo_ok X G (c.d.fact 57 (f := .glo "_law_pick") rfl),
    F43,
    He.glo_ok X G (c.d.fact 58 (f := .glo "_law_value") rfl),
    F44,
    He.glo_ok X G (c.d.fact 59 (f := .glo "_law_own") rfl),
    F45,
    He.glo_ok X G (c.d.fact 60 (f := .glo "_law_some") rfl),
    F46,
    He.glo_ok X G (c.d.fact 61 (f := .glo "_law_rule") rfl),
    F47,
    He.glo_ok X G (c.d.fact 62 (f := .glo "_law_choices") rfl),
    F48,
    He.glo_ok X G (c.d.fact 63 (f := .glo "_law_words") rfl),
    F49,
    He.glo_ok X G (c.d.fact 64 (f := .glo "_law_doors") rfl),
    F50,
    He.glo_ok X G (c.d.fact 65 (f := .glo "_law_house") rfl),
    F51,
    He.glo_ok X G (c.d.fact 66 (f := .glo "_law_state") rfl),
    F52,
    He.glo_ok X G (c.d.fact 67 (f := .glo "law") rfl),
    F53,
    baseB_ok x10,
    ⟨⟨oexB_ok x0, of_decide_eq_true x1⟩, xfB_ok x4, He.exm_ok (c.d.fact 89 (f := .exm "NoKind" "NoKind" true) rfl)⟩,
    ⟨⟨oexB_ok x5, of_decide_eq_true x6⟩, xfB_ok x9, He.exm_ok (c.d.fact 90 (f := .exm "NoName" "NoName" true) rfl)⟩⟩
  refine ⟨f53, fun s v => b s [v] rfl, ⟨houseB_ok cc_House x12, kindB_ok cc_Kind x11, T.nx_NoName, T.nx_NoKind⟩, fun base _ _ => calmFn (ok_law T) fun vs H Q E h => h⟩
end K03
end Kb
open PySem PySem.W PySem.Calls PyProof.Rows
theorem PySem.Challenge.cw_onwardasks_k03_house_told_holds : PySem.Challenge.rw_onwardasks_k03_house_told.Holds := by
  w_on; o_law
  refine HandSHeadRun.head_any (r := OpenLaw.row PySem.Challenge.rw_onwardasks_k03_house_told) (q := view (OpenLaw.row PySem.Challenge.rw_onwardasks_k03_house_told).prog [60]) (H := Kb.K03.hkx) (ob := Kb.K03.obx) (M := 6000) (loose := Kb.K03.nm0 ++ Kb.K03.nm1) (d := HandSHeadRun.topDef (OpenLaw.row PySem.Challenge.rw_onwardasks_k03_house_told).prog 60) (kwd := []) Kb.K03.obx_eq
    (by kernel_rfl) (fun s => by kernel_rfl) Kb.K03.runX (by kernel_rfl) (by kernel_rfl) (by kernel_rfl) (by rfl) (by first | assumption | decide +kernel) (by decide +kernel) ⟨rfl, rfl, rfl, rfl, rfl, by decide +kernel⟩ ?hw ?hc
  case hw => w_witness2
  case hc =>
    refine L2.walk_ofE (l := PySem.Challenge.rw_onwardasks_k03_house_told) (n := 63) (k := 10) (x := "_law_script") (CX := L2.CX0) rfl (by decide) (by kernel_rfl) ⟨rfl, by decide, by decide⟩ ?F (fun _ _ _ _ z => z)
    intro w mg fa h Y G hmg0
    obtain ⟨K, KX, c, e⟩ := Y
    have hmg : mg ("law" : PySem.Str) = some (.ref fa) := by
      have e : (HandSHeadRun.topDef (OpenLaw.row PySem.Challenge.rw_onwardasks_k03_house_told).prog 60).name = ("law" : PySem.Str) := by kernel_rfl
      rw [← e]
      exact hmg0
    obtain ⟨fd, hb, top, hF⟩ := Kb.K03.facts (P := (PySem.Challenge.rw_onwardasks_k03_house_told).prog) (w := w) KX G hmg c e
    exact ⟨K, fd, Kb.K03.sp_law K, KX, hb, fun H a ns hl _ hS => ⟨a, ns, rfl, hS, top, fun _ => rfl⟩, hF⟩

