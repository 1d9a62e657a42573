import PyProof.Rows.All
import HandS.Words
import HandS.Ends
import HandS.Head0
import HandS.Head1
import HandS.Head2
import HandS.Head3
import HandS.HeadEnd
import HandS.HeadHook1
import HandS.HeadHook2
import HandS.HeadHook3
import HandS.HeadHook4
import HandS.HeadNt
import KE.KStateDown
import Lean
import Wide.All
import OpenK.AllK
import Wide.FinOn
import PyProof.EqAt
import PyProof.EqKinds
import PyProof.TupleCall
import PyProof.ReprNest
import PyProof.ReprDict
import HandS.ForMost
import HandS.Exc
import HandS.Defaults
import HandS.ExcInit
import KE.KExcInit
import KE.KExcIs
import KE.KExcMake
import HandS.IsInst
import HandS.Wide
import HandS.WideBits
import HandS.Walk
import HandS.Flow
import HandS.Codes
import HandS.ExcOwn
import HandS.TryMany
import HandS.WordsExc
import KE.KOpsOwn
import HandS.Property
import HandS.Gcd
import HandS.More
import HandS.Slots
import HandS.SlotsOwn
import HandS.OwnEq
import KE.KCallOwn
import HandS.ClsMeth
import HandS.FStr
import HandS.StrMore
import KE.KIntText
import HandS.MakeKwOnly
import PyProof.StrOps2
import HandS.Style
import PyProof.InstNe
import HandS.ExcField
import HandS.Lambda
import HandS.EndBits
import HandS.MakeKw
import PySem.Challenge.RW_keptlast_k12_comparisons
set_option Elab.async false
set_option linter.all false
set_option maxRecDepth 100000
set_option maxHeartbeats 0
namespace Gd
open PySem PySem.Spec L2
/-- built-ins that no text of ours hides -/
def frees : List Str := ["abs", "max", "min", "len", "int", "divmod", "range", "tuple", "isinstance", "repr", "all", "any", "str", "bool", "list", "dict", "sorted", "enumerate", "zip", "sum", "ValueError", "LookupError", "RuntimeError", "ArithmeticError"]
end Gd
namespace KA
open PySem PySem.Spec PyProof.Rows L2 Gd
def top (i : Nat) : Stmt := PySem.Challenge.pw_keptlast_k12_comparisons.main.body.getD i (.Pass ⟨0, 0, 0, 0⟩)
abbrev am (j : Nat) : Stmt := inClass (top 16) j
end KA
namespace KB
open PySem PySem.Spec PyProof.Rows L2 Gd KA
/-! ### what the head's look says -/
abbrev kC (K : W.Frag) : Addr := He.ga K "Amount"
abbrev kZ (K : W.Frag) : Addr := He.ga K "DividedByZero"
abbrev kZA (K : W.Frag) : Addr := He.ga K "AmountError"
abbrev kZF (K : W.Frag) : Addr := He.ga K "FormError"
abbrev kWA (K : W.Frag) : Addr := He.ga K "InvalidAmount"
abbrev kWC (K : W.Frag) : Addr := He.ga K "InvalidCount"
def unaB (K : W.Frag) (C : Addr) (m : Str) : Bool := He.eqO (W.findIn K (.ref C) m) (some (some (.ref (He.ma K C m)))) && W.isFn K (.ref (He.ma K C m))
def binB (K : W.Frag) (C : Addr) (nm : String) (r : Bool) : Bool := W.selfFirst K C && (unaB K C (PySem.dunder nm) && ((match r with
    | true => unaB K C (dunderR nm)
    | false => He.eqO (W.findIn K (.ref C) (dunderR nm)) (some none)) && ((W.findIn K (.type "int") (PySem.dunder nm)).isSome && ((W.findIn K (.type "int") (dunderR nm)).isSome &&
  (decide (W.subIn K (.type "int") (.ref C) = some false) && decide (W.subIn K (.ref C) (.type "int") = some false))))))
def mroB (K : W.Frag) (C : Addr) (bm : List Value) : Bool := match W.clsIn K C with
  | some cd => decide (cd.mro = .ref C :: bm)
  | none => false
def noB (K : W.Frag) (C : Addr) (nm : String) : Bool := He.eqO (W.findIn K (.ref C) (dunderI nm)) (some none) && (He.eqO (W.findIn K (.type "object") (dunderI nm)) (some none) && He.eqO (W.findIn K (.type "int") (dunderI nm)) (some none))
def propB (K : W.Frag) (C : Addr) (m : Str) : Bool := He.eqO (W.findIn K (.ref C) m) (some (some (.ref (He.ma K C m)))) && (He.eqO (W.specialIn K (.ref (He.ma K C m)) "__get__") (some (some (.builtin "property.__get__"))) &&
  (decide (W.takesIn K (.ref (He.ma K C m)) = some true) && (match W.recIn K (He.ma K C m) "property" with
    | some (.ref _ :: _) => true
    | _ => false)))
def statB (K : W.Frag) (C : Addr) (m : Str) : Bool := He5.wrapB K C "staticmethod" "staticmethod.__get__" m && (decide (W.typeIn K (.ref C) = some (.type "type")) && (W.keepIn K (.ref (He5.wf K C "staticmethod" m)) && (W.readsIn K C (.type "type") &&
  He.eqO (W.specialIn K (.ref C) "__getattribute__") (some (some (.builtin "type.__getattribute__"))))))
/-- an own == and no own != -/
def eqcB (K : W.Frag) (C : Addr) : Bool := match K.lookup C with
  | some ⟨.type t, _, .cls cd, sl⟩ => decide (t = "type") && (decide (cd.mro = [.ref C, .type "object"]) && (!cd.hasDel && ((match sl.toList with
      | [_, _, _, _, some (.builtin _), _] => true
      | _ => false) && (He.eqO (W.nsIn K cd.ns "__eq__") (some (some (.ref (He.ma K C "__eq__")))) && (He.eqO (W.nsIn K cd.ns "__ne__") (some none) && (match K.lookup cd.ns with
      | some ⟨_, _, .dict es _, _⟩ => es.toList.all fun e => match e.key with
        | .str _ _ => true
        | _ => false
      | _ => false))))))
  | _ => false
def bmZ : List Value := [.type "ArithmeticError", .type "Exception", .type "BaseException", .type "object"]
def bmV : List Value := [.type "ValueError", .type "Exception", .type "BaseException", .type "object"]
def errB (K : W.Frag) (Z U : Addr) (bm : List Value) (nw : String) (fld : Str) : Bool := mroB K Z (.ref U :: bm) && (W.excInitIn K Z bm nw && (W.excOver K Z bm && (W.keepIn K (.ref Z) && (W.hasDictIn K Z && (decide (W.typeIn K (.ref Z) = some (.type "type")) &&
  (He.eqO (W.findIn K (.ref Z) "__init__") (some (some (.ref (He.ma K Z "__init__")))) && (decide (W.typeIn K (.ref (He.ma K Z "__init__")) = some (.type "function")) &&
  (He.eqO (W.findIn K (.ref Z) "__setattr__") (some (some (.builtin "object.__setattr__"))) && (He.eqO (W.findIn K (.ref Z) "__getattribute__") (some (some (.builtin "BaseException.__getattribute__"))) && (He.eqO (W.findIn K (.ref Z) "__getattr__") (some none) &&
  (He.eqO (W.findIn K (.ref Z) "__class__") (some (some (.builtin "object.__class__"))) && (He.eqO (W.takerIn K Z fld) (some none) && (He.eqO (W.findIn K (.ref Z) fld) (some none) && (decide (W.subIn K (.ref Z) (.type "BaseException") = some true) &&
  decide (W.mroIn K Z (.type "object") = some true)))))))))))))))
def tqB (K : W.Frag) (Z A F WA WC : Addr) : Bool := decide (W.exmOne K (.ref Z) (.ref A) = some true) && (decide (W.exmOne K (.ref WA) (.ref A) = some false) && (decide (W.exmOne K (.ref WA) (.ref F) = some true) && (decide (W.exmOne K (.ref WC) (.ref A) = some false) && (decide (W.exmOne K (.ref WC) (.ref F) = some true) &&
  (decide (W.kitOne K (.ref Z) (.ref Z) = some true) && (decide (W.kitOne K (.ref WA) (.ref WA) = some true) && (decide (W.kitOne K (.ref WC) (.ref WA) = some false) && decide (W.kitOne K (.ref WC) (.ref WC) = some true))))))))
def clsB (K : W.Frag) (C : Addr) : Bool := He.eqO (W.findIn K (.ref C) "__class__") (some (some (.builtin "object.__class__"))) && (He.eqO (W.specialIn K (.builtin "object.__class__") "__get__") (some (some (.builtin "getset_descriptor.__get__"))) && (decide (W.takesIn K (.builtin "object.__class__") = some true) &&
  (decide (W.mroIn K C (.type "object") = some true) && (decide (W.kitOne K (.ref C) (.ref C) = some true) && decide (W.kitOne K (.type "int") (.ref C) = some false)))))
def op5 : List String := ["add", "sub", "mul", "floordiv", "mod"]
def six : List String := ["__neg__", "__abs__", "__bool__", "__eq__", "__lt__", "__le__", "__gt__", "__ge__", "__str__", "__repr__"]
def exB (K : W.Frag) : Bool := (op5.all fun nm => binB K (kC K) nm true && noB K (kC K) nm) && (binB K (kC K) "pow" false && (mroB K (kC K) [.type "object"] && (six.all (fun m => unaB K (kC K) (Str.ofString m)) &&
  ((["top", "bottom", "sign"] : List String).all (fun m => propB K (kC K) (Str.ofString m)) && (statB K (kC K) "of" && (eqcB K (kC K) && (clsB K (kC K) && (errB K (kZ K) (kZA K) bmZ "ArithmeticError.__new__" "rule" &&
  (errB K (kWA K) (kZF K) bmV "ValueError.__new__" "value" && (errB K (kWC K) (kZF K) bmV "ValueError.__new__" "value" && (tqB K (kZ K) (kZA K) (kZF K) (kWA K) (kWC K) && He.eqO (W.nsIn K mainGlobals "gcd") (some (some (.builtin "math.gcd"))))))))))))))
/-! ### the defs -/
def dOf (x : Str) (i : Nat) : He5.DefA := ⟨fun K => He.ga K x, x, x, defArgs (top i), defBody (top i), defScope (top i), [], []⟩
def mOf (m q : Str) (j : Nat) : He5.DefA := ⟨fun K => He.ma K (kC K) m, m, q, defArgs (am j), defBody (am j), defScope (am j), [], []⟩
def pOf (T : String) (m q : Str) (j : Nat) : He5.DefA := ⟨fun K => He5.wf K (kC K) T m, m, q, defArgs (am j), defBody (am j), defScope (am j), [], []⟩
abbrev ze : Stmt := inClass (top 7) 0
abbrev wa : Stmt := inClass (top 3) 0
abbrev wc : Stmt := inClass (top 4) 0
def fn : List He5.DefA := [dOf "is_whole" 9, dOf "is_count" 10, dOf "_law_pot" 19, dOf "_law_draw" 20, dOf "_law_pick" 21, dOf "_law_lowest" 22, dOf "_law_great" 23, dOf "_law_beside" 24, dOf "_law_is_less" 25, dOf "_law_amount" 26, dOf "_law_shape" 27, dOf "_law_told" 28, dOf "_law_pair_right" 29, dOf "_law_rest_right" 30, dOf "_law_by_zero_right" 31, dOf "_law_power" 32, dOf "_law_decimal" 33, dOf "_law_shown_right" 34, dOf "_law_odd_right" 35, dOf "_law_least" 36, dOf "_law_right" 37, dOf "law" 38] ++
  [⟨fun K => He.ma K (kC K) "__init__", "__init__", "Amount.__init__", defArgs (am 0), defBody (am 0), defScope (am 0), [.int 1], []⟩, pOf "staticmethod" "of" "Amount.of" 1, pOf "property" "top" "Amount.top" 3, pOf "property" "bottom" "Amount.bottom" 4, pOf "property" "sign" "Amount.sign" 5,
  mOf "__add__" "Amount.__add__" 6, mOf "__radd__" "Amount.__radd__" 7, mOf "__sub__" "Amount.__sub__" 8, mOf "__rsub__" "Amount.__rsub__" 9, mOf "__mul__" "Amount.__mul__" 10, mOf "__rmul__" "Amount.__rmul__" 11, mOf "over" "Amount.over" 12, mOf "__floordiv__" "Amount.__floordiv__" 13, mOf "__rfloordiv__" "Amount.__rfloordiv__" 14, mOf "__mod__" "Amount.__mod__" 15, mOf "__rmod__" "Amount.__rmod__" 16, mOf "__pow__" "Amount.__pow__" 17, mOf "__neg__" "Amount.__neg__" 18, mOf "__abs__" "Amount.__abs__" 19, mOf "__bool__" "Amount.__bool__" 20, mOf "__eq__" "Amount.__eq__" 21, mOf "__lt__" "Amount.__lt__" 22, mOf "__le__" "Amount.__le__" 23, mOf "__gt__" "Amount.__gt__" 24, mOf "__ge__" "Amount.__ge__" 25, mOf "__str__" "Amount.__str__" 26, mOf "__repr__" "Amount.__repr__" 27, mOf "rounded" "Amount.rounded" 28,
  ⟨fun K => He.ma K (kZ K) "__init__", "__init__", "DividedByZero.__init__", defArgs ze, defBody ze, defScope ze, [], []⟩,
  ⟨fun K => He.ma K (kWA K) "__init__", "__init__", "InvalidAmount.__init__", defArgs wa, defBody wa, defScope wa, [], []⟩,
  ⟨fun K => He.ma K (kWC K) "__init__", "__init__", "InvalidCount.__init__", defArgs wc, defBody wc, defScope wc, [], []⟩]
def lawNames : List Str := (["_law_pot", "_law_draw", "_law_pick", "_law_lowest", "_law_great", "_law_beside", "_law_is_less", "_law_amount", "_law_shape", "_law_told", "_law_pair_right", "_law_rest_right", "_law_by_zero_right", "_law_power", "_law_decimal", "_law_shown_right", "_law_odd_right", "_law_least", "_law_right"] : List String).map Str.ofString
def ownNames : List Str := (["Amount", "DividedByZero", "AmountError", "FormError", "InvalidAmount", "InvalidCount", "is_whole", "is_count"] : List String).map Str.ofString
def restNames : List Str := (["InvalidText", "DIGITS", "MOST_DIGITS", "MOST_POWER", "MOST_PLACES", "_are_digits"] : List String).map Str.ofString
def fa : List He.Fa := (ownNames ++ lawNames ++ [("law" : Str)]).map He.Fa.glo ++ (frees.map He.Fa.free ++ [.int "MOST_POWER" 12, .int "MOST_PLACES" 12, .cls "Amount", .noat "Amount" "_top", .noat "Amount" "_bottom", .meth "Amount" "over", .meth "Amount" "rounded", .mkr "Amount"])
abbrev R : PySem.W.OpenRow := PySem.W.OpenLaw.row PySem.Challenge.rw_keptlast_k12_comparisons
def loose : List Str := ownNames ++ lawNames ++ restNames
/-! ### the objects that are looked at -/
def kids (g : Addr → Option Obj) (a : Addr) : List Addr := match g a with
  | some ⟨_, _, .cls cd, _⟩ => [cd.ns]
  | some ⟨_, _, .func fd, _⟩ => He.refV fd.code ++ (He.refV fd.defaults ++ He.refV fd.kwdefaults)
  | some ⟨_, _, .dict es _, _⟩ => es.toList.flatMap fun e => He.refV e.val
  | some ⟨.type t, _, .fields vs, _⟩ => if t = "property" ∨ t = "staticmethod" then vs.toList.flatMap He.refV else []
  | _ => []
def as1 (g : Addr → Option Obj) : List Addr := kids g mainGlobals
def as2 (g : Addr → Option Obj) : List Addr := (as1 g).flatMap (kids g)
def as3 (g : Addr → Option Obj) : List Addr := (as2 g).flatMap (kids g)
def as4 (g : Addr → Option Obj) : List Addr := (as3 g).flatMap (kids g)
def as5 (g : Addr → Option Obj) : List Addr := (as4 g).flatMap (kids g)
def frK (g : Addr → Option Obj) : W.Frag := He.frT g (mainGlobals :: cStatics :: (as1 g ++ (as2 g ++ (as3 g ++ (as4 g ++ as5 g)))))
def tf : List He.Defn := [("_law_by_zero_right", none), ("_law_odd_right", none), ("_law_right", none)]
abbrev pZ (K : W.Frag) : Addr := (He.cT K ("_law_by_zero_right", none)).2
abbrev pO (K : W.Frag) : Addr := (He.cT K ("_law_odd_right", none)).2
abbrev pR (K : W.Frag) : Addr := (He.cT K ("_law_right", none)).2
abbrev TT3 (K : W.Frag) : List (Addr × Str) := [(pZ K, "_law_by_zero_right.<locals>.<lambda>"), (pO K, "_law_odd_right.<locals>.<lambda>"), (pR K, "_law_right.<locals>.<lambda>")]
def cf (K : W.Frag) (p : Addr) : Addr := if p = pZ K then (He.cT K ("_law_by_zero_right", none)).1 else if p = pO K then (He.cT K ("_law_odd_right", none)).1 else (He.cT K ("_law_right", none)).1
def diB (K : W.Frag) : Bool := decide (pZ K ≠ pO K) && (decide (pZ K ≠ pR K) && decide (pO K ≠ pR K))
abbrev AlK : Type := He.AlD × Bool
def seeK (g : Addr → Option Obj) (K : W.Frag) : AlK := (He5.obsA fa fn K, exB K && (diB K && He.tabsB g tf K))
structure SayK (h : Heap) (K : W.Frag) : Prop where
  a : He5.SaysA fa fn K
  ex : exB K = true
  di : diB K = true
  hd : ∀ r ∈ tf, W.codeHdIn K (He.cT K r).1 (He.cT K r).2 = true
  out : ∀ r ∈ tf, K.lookup (He.cT K r).2 = none
  emp : ∀ r ∈ tf, h.get? (He.cT K r).2 = some { cls := .none, data := .fields #[] }
theorem sayK_of {h : Heap} (e : seeK h.get? (frK h.get?) = (He5.valA fn, true)) : SayK h (frK h.get?) := by
  obtain ⟨h1, h2⟩ := He.ba (congrArg (fun z : AlK => z.2) e)
  obtain ⟨h2, h3⟩ := He.ba h2
  have e1 : He5.SaysA fa fn (frK h.get?) := congrArg (fun z : AlK => z.1) e
  have key : ∀ r ∈ tf, W.codeHdIn (frK h.get?) (He.cT (frK h.get?) r).1 (He.cT (frK h.get?) r).2 = true ∧ (frK h.get?).lookup (He.cT (frK h.get?) r).2 = none ∧ h.get? (He.cT (frK h.get?) r).2 = some { cls := .none, data := .fields #[] } := fun r hr => by
    obtain ⟨h4, h5⟩ := He.ba (List.all_eq_true.mp h3 r hr)
    cases q : h.get? (He.cT (frK h.get?) r).2 with
    | none =>
      rw [q] at h5
      cases h5
    | some o =>
      rw [q] at h5
      exact ⟨h4, He.frT_none q h5, by rw [He.emptyTab_eq h5]⟩
  exact ⟨e1, h1, h2, fun r hr => (key r hr).1, fun r hr => (key r hr).2.1, fun r hr => (key r hr).2.2⟩
def hk : PySem.W.Hook where
  α := AlK
  obs := fun s => seeK s.heap.get? (frK s.heap.get?)
  val := fun w => (He5.valA fn, true)
  says := fun w h => ∃ K : W.Frag, K.In h ∧ SayK h K
  of := fun _ _ e => ⟨_, He.frT_in, sayK_of e⟩
  keeps := fun _ _ _ ⟨K, hK, c⟩ k => ⟨K, W.Frag.In.keeps hK k, ⟨c.a, c.ex, c.di, c.hd, c.out, fun r hr => k _ _ (c.emp r hr)⟩⟩
def ob (s : PySem.W.SharedT) : AlK := seeK (HandSHeadRun.getT s) (frK (HandSHeadRun.getT s))
theorem ob_eq (s : PySem.W.SharedT) : ob s = hk.obs s.abs := by
  have e : HandSHeadRun.getT s = s.abs.heap.get? := funext (HandSHeadRun.getT_eq s)
  show seeK (HandSHeadRun.getT s) (frK (HandSHeadRun.getT s)) = seeK s.abs.heap.get? (frK s.abs.heap.get?)
  rw [e]
theorem run (w : World) : HandSHeadRun.RunEqI R (PySem.W.view R.prog [0, 38]) hk ob 20000 loose w := by
  unfold HandSHeadRun.RunEqI
  kernel_rfl
end KB

set_option Elab.async false
set_option linter.all false
set_option maxRecDepth 100000
set_option maxHeartbeats 4000000
/-! Defs that must know that no repr is under way around them. -/
namespace Gd
open PySem PySem.Spec PyProof.Rows L2

/-- nothing that guards a repr runs around -/
abbrev Bare (A : Around) : Prop := A.guards = some []

/-- a def's promise, kept wherever no repr is under way -/
structure FnG (P : Program) (w : World) (K : PySem.W.Frag) (mg : Str → Option Value) (base : Heap) (CX : CXT) (k : Nat) (f : Addr) (fd : FuncData) (ps : List Str) (sp : Sp) : Prop where
  len : ∀ vs H Q E, sp vs H Q E → vs.length = ps.length
  go : ∀ (A : Around) (outer : List Env) (s : Shared) (H : Hp) (args : Args) (us : List Value) (vs : List V) (Q : VK) (E : XK),
    Bare A → Room k A → Env0 P w K mg base A outer s H → BindsTo s fd args (ps.zip us) → Vals vs us → sp vs H Q E →
    codeAny (model P w) A (.call (.ref f) args) (CR CX outer P w H s Q E) s

theorem FnG.of {P : Program} {w : World} {K : PySem.W.Frag} {mg : Str → Option Value} {base : Heap} {CX : CXT} {k : Nat} {f : Addr} {fd : FuncData} {ps : List Str} {sp : Sp}
    (F : FnOk P w K mg base CX k f fd ps sp) : FnG P w K mg base CX k f fd ps sp :=
  ⟨F.len, fun A outer s H args us vs Q E _ hr e0 hb r h => F.run A outer s H args us vs Q E hr e0 hb r h⟩

section
variable {CX : CXT} {P : Program} {w : World} {K : PySem.W.Frag} {mg : Str → Option Value} {base : Heap} {k : Nat} {f : Addr}

/-- such a def by its body -/
theorem fnG_of {name qual : Str} {params : Arguments} {body : List Stmt} {sc : Scope} {dV kV doc pm cdv ct oc : Value} {an od : Option Addr} {osl : Array (Option Value)} {N ps : List Str} {sp : Sp}
    (at_ : K.lookup f = some ⟨oc, od, .func (PySem.W.fnOf name qual params body sc dV kV doc pm an cdv ct), osl⟩)
    (code : PySem.W.codeIn K cdv qual = true) (S : FnScope N ps sc) (len : ∀ vs H Q E, sp vs H Q E → vs.length = ps.length)
    (walk : ∀ (A : Around) (outer : List Env) (s : Shared) (H : Hp) (vs : List V) (Q : VK) (E : XK),
      Bare (A.deeper (envOfC qual sc s.heap.objs.size f cdv)) → Room k (A.deeper (envOfC qual sc s.heap.objs.size f cdv)) → sp vs H Q E →
      ∃ t, PSs (cxOf CX P w K mg base N qual sc f cdv A outer s H E) body t ∧ t { nx := fun _ H' => Q .non H', rt := Q } (start N vs) H) :
    FnG P w K mg base CX (k + 1) f (PySem.W.fnOf name qual params body sc dV kV doc pm an cdv ct) ps sp := by
  refine ⟨len, fun A outer s H args us vs Q E hg room e0 bd rv want => ?_⟩
  have nvs := len _ _ _ _ want
  have inK : K.In s.heap := e0.mod.kin.keeps (fun b o z => (e0.bs b o z).1)
  have noLim : s.heap.NoLimit := e0.mod.nolimit.keeps (fun b o z => (e0.bs b o z).1)
  have kinds : ∀ y ∈ ps.zip us, sc.names.lookup y.1 = some .local ∨
      (sc.names.lookup y.1 = some .cell ∧ ((cellsFrom (s.heap.objs.size + 1) sc.names []).lookup y.1).isSome = true) := by
    rintro ⟨n, v⟩ hy
    cases S.par n (List.of_mem_zip hy).1 with
    | inl z => exact .inl z
    | inr z => exact .inr ⟨z, PySem.W.cellsFrom_some _ _ _ (.inl z)⟩
  refine codeAny_call_function room.depth (inK _ _ at_) rfl S.co S.gen rfl (PySem.W.codeRec_of inK code) (bd _ _ _ _ ?_)
  refine wpAny_newFunctionEnv_cells S.kind kinds (fun env ee s1 ic => ?_)
  subst ee
  refine ⟨noLim.keeps ic.toInCall.keep, codeAny_func ?_⟩
  obtain ⟨t, der, rd⟩ := walk A outer s H vs Q E hg (room.deeper _) want
  have J : Inv (cxOf CX P w K mg base N qual sc f cdv A outer s H E) [] (start N vs) H s1 := inv_start S room.hd e0 nvs rv ic
  refine wpAny_mono (der.run [] s1 (start N vs) H _ J rd) (fun fl s2 hs => ?_) (fun e s2 hs => hs)
  cases fl with
  | ret u =>
    obtain ⟨v, σ2, H2, J2, rv2, q⟩ := hs
    exact ⟨v, H2, J2.os, J2.bare, J2.base, J2.hok, rv2, q⟩
  | next =>
    obtain ⟨σ2, H2, J2, q⟩ := hs
    exact ⟨V.non, H2, J2.os, J2.bare, J2.base, J2.hok, rfl, q⟩
  | brk =>
    obtain ⟨_, _, _, q⟩ := hs
    exact q.elim
  | cont =>
    obtain ⟨_, _, _, q⟩ := hs
    exact q.elim
end

section
variable {P : Program} {w : World} {K : PySem.W.Frag} {mg : Str → Option Value} {base : Heap}
theorem okG {x qual : Str} {st : Stmt} {f : Addr} {fd : FuncData} {N ps : List Str} {k : Nat} {sp : Sp} (F : Fun K x qual st f fd) (S : FnScope N ps (defScope st)) (len : ∀ vs H Q E, sp vs H Q E → vs.length = ps.length)
    (walk : ∀ (cdv : Value) (A : Around) (outer : List Env) (s : Shared) (H : Hp) (vs : List V) (Q : VK) (E : XK), Bare (A.deeper (envOfC qual (defScope st) s.heap.objs.size f cdv)) →
      Room k (A.deeper (envOfC qual (defScope st) s.heap.objs.size f cdv)) → sp vs H Q E →
      ∃ t, PSs (cxOf CX0 P w K mg base N qual (defScope st) f cdv A outer s H E).nox (defBody st) t ∧ t { nx := fun _ H' => Q .non H', rt := Q } (start N vs) H) :
    FnG P w K mg base CX0 (k + 1) f fd ps sp := by
  obtain ⟨oc, od, kV, doc, pm, an, cdv, ct, osl, rfl, at_, code⟩ := F.ex
  refine fnG_of at_ code S len (fun A outer s H vs Q E hg hr want => ?_)
  obtain ⟨t, h, q⟩ := walk cdv A outer s H vs Q E hg hr want
  exact ⟨t, h.nox, q⟩
end

section
variable {X : Cx} {CX : CXT} {k : Nat} {f : Addr} {fd : FuncData} {ps : List Str} {sp : Sp} {dvs : List V} {ds : List Value} {E : XK} {x : Str} {p pos : Pos} {e : Expr} {es : List Expr} {t : TA}
theorem runG {pins : List (Addr × Obj)} {σ : L2.St} {H : Hp} {s : Shared} {Q : VK} {us : List Value} {vs : List V} (hG : Bare X.A) (F : FnG X.prog X.w X.K X.mg X.base CX k f fd ps sp) (hr : Room k X.A) (hb : Binds X.K fd ps ds) (hd : Vals dvs ds)
    (hx : Passes CX X E) (I : Inv X pins σ H s) (r : Vals vs us) (want : sp (vs ++ dvs) H Q E) : wpAny (model X.prog X.w) X.A (call (.ref f) us) (EP X pins σ Q) X.xe s := by
  have all : Vals (vs ++ dvs) (us ++ ds) := r.append hd
  have nl : (us ++ ds).length = ps.length := by
    rw [← all.length]
    exact F.len _ _ _ _ want
  refine wpAny_call (codeAny_mono (F.go X.A X.stack s H ⟨us, []⟩ (us ++ ds) (vs ++ dvs) Q E hG hr I.env0 (hb s us I.kIn nl) all want) (fun res s2 z => ?_))
  cases res with
  | error er => exact hx pins σ H s er s2 I z
  | ok fl =>
    cases fl with
    | ret u => exact I.after z
    | next => exact z.elim
    | brk => exact z.elim
    | cont => exact z.elim
/-- f(e, ..), f a def that wants no repr around -/
theorem pe_callG (hG : Bare X.A) (F : FnG X.prog X.w X.K X.mg X.base CX k f fd ps sp) (hr : Room k X.A) (hg : Gl X x) (hm : X.mg x = some (.ref f)) (hk : PySem.W.keepIn X.K (.ref f) = true) (hb : Binds X.K fd ps ds) (hd : Vals dvs ds)
    (hx : Passes CX X E) (ha : PA X (e :: es) t) (hdb : (x == ("__debug__" : Str)) = false := by decide)
    (he : starEach (e :: es) X.env = (false, eval e X.env) :: starEach es X.env := by rfl) (hpl : (backTo pos (starEach es X.env)).any (·.1) = false := by rfl) :
    PE X (.Call (.Name x p) (e :: es) [] pos) (tCall sp dvs E t) := by
  refine ⟨fun pins s σ H Q I want => wpAny_Call_Name_kw (ld_glob I hg hm ?_ hdb)⟩
  refine PySem.W.callWith_K (h₀ := X.base) I.ok.mod.kin hk (thn (ha.run pos pins s σ H _ I want) fun us s1 ⟨vs, H1, I1, r, q⟩ => ⟨I1.kIn, ?_⟩) he hpl
  exact runG hG F hr hb hd hx I1 r q
end

/-! ### the end of a law -/
theorem lawG {P : Program} {w : World} {K : PySem.W.Frag} {mg mb : Str → Option Value} {k : Nat} {fa a : Addr} {fd : FuncData} {x : Str} {sp : Sp} {s₁ : Shared} {vs : List Value} {ns : List Int}
    (inK : K.In s₁.heap) (hmg : s₁.heap.Ns mainGlobals mg) (hmb : s₁.heap.Ns builtinsNs mb) (hbt : ∀ x : Str, x ≠ "__name__" → mb x = bootBuiltins x) (lim : s₁.heap.NoLimit) (hgen : s₁.gens = #[])
    (hobj : s₁.heap.get? a = some { cls := .type "list", data := .seq vs.toArray }) (hints : IntsAre vs ns) (hlen : ns.length ≤ sizeLine) (room : Room k callerA)
    (F : ∀ base : Heap, K.In base → base.Ns mainGlobals mg → FnG P w K mg base CX0 k fa fd [x] sp) (hbd : ∀ (s : Shared) (u : Value), BindsTo s fd ⟨[u], []⟩ [(x, u)])
    (hsp : ∀ H : Hp, Only H → SqL K H a (ns.map V.int) → sp [.ref a] H (fun v _ => v = .bl true) fun _ _ _ => False) :
    codeAny (model P w) callerA (.call (.ref fa) ⟨[.ref a], []⟩) (fun r s' => r = .ok (.ret (.bool true)) ∧ OldK s₁.heap s'.heap ∧ s'.os = s₁.os ∧ AllBare s'.gens) s₁ := by
  have key : ∀ T : Params → True, True := fun _ => trivial
  -- what the layer's own end proves for defs that run anywhere, at a def that answers at once: its shape is used for ours
  have rv := vals_ints hints
  have nvs := hints.length
  have core : ∀ H : Hp, Only H → SqL K H a (ns.map V.int) → HOk P w H s₁.heap → (∀ b, H b ≠ none → b = a) → (H a ≠ none → K.lookup a = none) →
      codeAny (model P w) callerA (.call (.ref fa) ⟨[.ref a], []⟩) (fun r s' => r = .ok (.ret (.bool true)) ∧ OldK s₁.heap s'.heap ∧ s'.os = s₁.os ∧ AllBare s'.gens) s₁ := by
    intro H only sq hok onlyA notK
    have free_of : ∀ {b : Addr} {o : Obj} {es : Array DictEntry} {ep : Nat}, s₁.heap.get? b = some o → o.data = .dict es ep → H b = none := by
      intro b o es ep e d
      cases q : H b with
      | none => rfl
      | some u =>
        have eb : b = a := onlyA b (by rw [q]; simp)
        rw [eb, hobj] at e
        cases e
        cases (show Data.seq vs.toArray _ = Data.dict es ep from d)
    have ns_of : ∀ {b : Addr} {m : Str → Option Value}, s₁.heap.Ns b m → (hidT s₁.heap H).Ns b m := by
      rintro b m ⟨o, es, ep, e, d, r⟩
      exact ⟨o, es, ep, hidT_get e (free_of e d), d, r⟩
    have inB : K.In (hidT s₁.heap H) := by
      intro b o e
      refine hidT_get (inK b o e) ?_
      cases q : H b with
      | none => rfl
      | some u =>
        have eb : b = a := onlyA b (by rw [q]; simp)
        subst eb
        have z := notK (by rw [q]; simp)
        rw [z] at e
        exact nomatch e
    obtain ⟨mc, l1, l2⟩ := lim
    have md : Mod K mg (hidT s₁.heap H) := ⟨inB, ns_of hmg, ⟨mb, ns_of hmb, hbt⟩, ⟨mc, ns_of l1, l2⟩⟩
    have nil : ∀ b : Addr, b ∉ ([] : List Addr) := fun b z => nomatch z
    have e0 : Env0 P w K mg (hidT s₁.heap H) callerA [] s₁ H :=
      ⟨rfl, md, fun b o e => of_hidT e, Nat.le_of_eq (hidT_size _ _), trivial, fun b hb => absurd (show b ∈ ([] : List Addr) from hb) (nil b), hok, .of_eq hgen⟩
    refine codeAny_mono ((F _ inB (ns_of hmg)).go callerA [] s₁ H ⟨[.ref a], []⟩ [.ref a] [.ref a] _ _ rfl room e0 (hbd s₁ (.ref a)) (.cons rfl .nil) (hsp H only sq)) (fun r s2 z => ?_)
    cases r with
    | error er => exact z.elim
    | ok fl =>
      cases fl with
      | next => exact z.elim
      | brk => exact z.elim
      | cont => exact z.elim
      | ret u =>
        obtain ⟨v, H2, os, bare, un, hok2, rr, q⟩ := z
        have ev : v = .bl true := q
        subst ev
        obtain rfl : u = Value.bool true := rr
        refine ⟨rfl, OldK.of_keep (fun b o e => ?_), os, bare⟩
        cases q2 : H b with
        | none => exact un.keep b o e q2 (nil b) (nil b)
        | some u =>
          cases only b with
          | inl z => rw [q2] at z; cases z
          | inr z =>
            obtain ⟨ob, xs, z⟩ := z
            obtain ⟨e1, _⟩ := hok b _ z
            obtain ⟨e2, _⟩ := hok2 b _ (un.frzs b ob _ z)
            rw [e] at e1
            cases e1
            exact e2
  cases hk : K.lookup a with
  | some o =>
    have e := inK a o hk
    rw [hobj] at e
    cases e
    exact core (fun _ => none) (fun _ => .inl rfl) (.inr ⟨_, vs.toArray, _, hk, rfl, rfl, rfl, by rw [List.size_toArray, nvs]; exact hlen, by simpa using rv⟩)
      (fun b u z => nomatch (show (none : Option HO) = some u from z)) (fun b z => absurd rfl z) (fun z => absurd rfl z)
  | none =>
    refine core (fun b => if b = a then some (.frz { cls := .type "list", data := .seq vs.toArray } (.lst (ns.map V.int))) else none) (fun b => ?_) (.inl (.inr ⟨_, if_pos rfl⟩)) (fun b u z => ?_) (fun b z => ?_) (fun _ => hk)
    · rcases Decidable.em (b = a) with hb | hb
      · exact .inr ⟨_, _, if_pos hb⟩
      · exact .inl (if_neg hb)
    · rcases Decidable.em (b = a) with hb | hb
      · have z2 := (if_pos hb).symm.trans z
        cases z2
        subst hb
        exact ⟨hobj, by rw [List.length_map]; exact hlen, vs, _, rv, hobj⟩
      · have z2 := (if_neg hb).symm.trans z
        cases z2
    · rcases Decidable.em (b = a) with hb | hb
      · exact hb
      · exact absurd (if_neg hb) z
/-- a law over a head by facts -/
theorem walkG {l : PySem.W.OpenLaw} {n k : Nat} {q : Program} {loose : List Str} {XP : (Str → Option Value) → Heap → Prop} {YP : World → Heap → Prop} {d : DefRec} {x : Str}
    (hn : l.most = some n) (hn2 : n ≤ sizeLine) (hdf : d.params.defaults = []) (room : Room k callerA)
    (F : ∀ (w : World) (mg : Str → Option Value) (fa : Addr) (h : Heap), YP w h → h.Ns mainGlobals mg → mg d.name = some (.ref fa) →
      ∃ (K : PySem.W.Frag) (fd : FuncData) (sp : Sp), K.In h ∧ (∀ (s : Shared) (u : Value), BindsTo s fd ⟨[u], []⟩ [(x, u)]) ∧
        (∀ (H : Hp) (a : Addr) (ns : List Int), ns.length ≤ n → Only H → SqL K H a (ns.map V.int) → sp [.ref a] H (fun v _ => v = .bl true) fun _ _ _ => False) ∧
        ∀ base : Heap, K.In base → base.Ns mainGlobals mg → FnG l.prog w K mg base CX0 k fa fd [x] sp) :
    PySem.W.WalkO q loose XP YP l.row.toRowW d [] (fun f vs => PySem.call f vs) := by
  refine Att.attach_call hn hdf (fun w s₀ s₁ mg mb fa o pm cd doc a vs ns G Y ho hd hcd hmg hobj hints hlen hg => ?_)
  obtain ⟨K, fd, sp, inK, hbd, hsp, hF⟩ := F w mg fa _ Y G.T.g hmg
  exact lawG inK G.T.g G.T.b G.T.builtins G.T.nolimit hg hobj hints (Nat.le_trans hlen hn2) room hF hbd (fun H only sq => hsp H a ns hlen only sq)
end Gd

set_option Elab.async false
set_option linter.all false
set_option maxRecDepth 100000
set_option maxHeartbeats 4000000
/-! repr of data at any depth. -/
namespace Gd
open PySem PySem.Spec PyProof.Rows L2

/-- the repr of a key -/
inductive KeyT : Key → Str → Prop
  | int (i : Int) (h : i.natAbs.log2 < 1920) : KeyT (.inl i) (toString i)
  | str (x : Str) (h : (reprText x).length ≤ sizeLine) : KeyT (.inr x) (reprText x)
/-- x is data of depth d at the addresses as, its repr is t -/
inductive Rp (H : Hp) : List Addr → Nat → V → Str → Prop
  | non {as d} : Rp H as d .non "None"
  | bl {as d} (b : Bool) : Rp H as d (.bl b) (if b then "True" else "False")
  | int {as d} (i : Int) (h : i.natAbs.log2 < 1920) : Rp H as d (.int i) (toString i)
  | str {as d} (x : Str) (h : (reprText x).length ≤ sizeLine) : Rp H as d (.str x) (reprText x)
  | lst {as as0 d a xs ts} (h : H a = some (.lst xs)) (na : a ∉ as0) (sub : ∀ b ∈ a :: as0, b ∈ as) (nl : ts.length = xs.length)
      (it : ∀ (i : Nat) (x : V) (t : Str), xs[i]? = some x → ts[i]? = some t → Rp H as0 d x t) : Rp H as (d + 1) (.ref a) (listText ts)
  | tup {as as0 d a xs ts} (h : H a = some (.tup xs)) (na : a ∉ as0) (sub : ∀ b ∈ a :: as0, b ∈ as) (nl : ts.length = xs.length)
      (it : ∀ (i : Nat) (x : V) (t : Str), xs[i]? = some x → ts[i]? = some t → Rp H as0 d x t) : Rp H as (d + 1) (.ref a) (tupleText ts)
  | dic {as as0 d a} {kvs : List (Key × V)} {ps : List (Str × Str)} (h : H a = some (.dK kvs)) (na : a ∉ as0) (sub : ∀ b ∈ a :: as0, b ∈ as) (nl : ps.length = kvs.length)
      (ke : ∀ (i : Nat) (q : Key × V) (p : Str × Str), kvs[i]? = some q → ps[i]? = some p → KeyT q.1 p.1)
      (it : ∀ (i : Nat) (q : Key × V) (p : Str × Str), kvs[i]? = some q → ps[i]? = some p → Rp H as0 d q.2 p.2) : Rp H as (d + 1) (.ref a) (dictText (ps.map fun p => p.1 ++ ": " ++ p.2))

theorem Rp.more {H : Hp} {as as' : List Addr} {d : Nat} {x : V} {t : Str} (r : Rp H as d x t) (h : ∀ b ∈ as, b ∈ as') : Rp H as' d x t := by
  cases r with
  | non => exact .non
  | bl b => exact .bl b
  | int i z => exact .int i z
  | str y z => exact .str y z
  | lst a na sub nl it => exact .lst a na (fun b hb => h b (sub b hb)) nl it
  | tup a na sub nl it => exact .tup a na (fun b hb => h b (sub b hb)) nl it
  | dic a na sub nl ke it => exact .dic a na (fun b hb => h b (sub b hb)) nl ke it
theorem Rp.deep {H : Hp} {as : List Addr} {d : Nat} {x : V} {t : Str} (r : Rp H as d x t) : ∀ d', d ≤ d' → Rp H as d' x t := by
  induction r with
  | non => exact fun _ _ => .non
  | bl b => exact fun _ _ => .bl b
  | int i z => exact fun _ _ => .int i z
  | str y z => exact fun _ _ => .str y z
  | lst a na sub nl it ih =>
    intro d' hd
    obtain ⟨e, rfl⟩ : ∃ e, d' = e + 1 := ⟨d' - 1, by omega⟩
    exact .lst a na sub nl fun i x t h1 h2 => ih i x t h1 h2 e (by omega)
  | tup a na sub nl it ih =>
    intro d' hd
    obtain ⟨e, rfl⟩ : ∃ e, d' = e + 1 := ⟨d' - 1, by omega⟩
    exact .tup a na sub nl fun i x t h1 h2 => ih i x t h1 h2 e (by omega)
  | dic a na sub nl ke it ih =>
    intro d' hd
    obtain ⟨e, rfl⟩ : ∃ e, d' = e + 1 := ⟨d' - 1, by omega⟩
    exact .dic a na sub nl ke fun i q p h1 h2 => ih i q p h1 h2 e (by omega)
/-- what it hangs on stands -/
theorem Rp.keep {H H' : Hp} {as : List Addr} {d : Nat} {x : V} {t : Str} (r : Rp H as d x t) : (∀ b ∈ as, ∀ o, H b = some o → H' b = some o) → Rp H' as d x t := by
  induction r with
  | non => exact fun _ => .non
  | bl b => exact fun _ => .bl b
  | int i z => exact fun _ => .int i z
  | str y z => exact fun _ => .str y z
  | lst a na sub nl it ih => exact fun k => .lst (k _ (sub _ List.mem_cons_self) _ a) na sub nl fun i x t h1 h2 => ih i x t h1 h2 fun b hb => k b (sub b (List.mem_cons_of_mem _ hb))
  | tup a na sub nl it ih => exact fun k => .tup (k _ (sub _ List.mem_cons_self) _ a) na sub nl fun i x t h1 h2 => ih i x t h1 h2 fun b hb => k b (sub b (List.mem_cons_of_mem _ hb))
  | dic a na sub nl ke it ih => exact fun k => .dic (k _ (sub _ List.mem_cons_self) _ a) na sub nl ke fun i q p h1 h2 => ih i q p h1 h2 fun b hb => k b (sub b (List.mem_cons_of_mem _ hb))

section
variable {P : Program} {w : World} {H : Hp} {h : Heap}
theorem keyT_repr {k : Key} {t : Str} {v : Value} (hk : KeyT k t) (e : keyIs k v = true) {as : List Addr} {d : Nat} : ReprK P w as h d v t := by
  cases hk with
  | int i z =>
    obtain ⟨tk, rfl⟩ := Value.isInt_shape (k := i) (v := v) e
    exact .of_is (.int tk z) _ _ _
  | str x z =>
    obtain ⟨tk, rfl⟩ := Value.isStrOf_shape (x := x) (v := v) e
    exact .of_is (.str x tk z) _ _ _
theorem kv_pairs : ∀ {kvs : List (Key × V)} {vs : List (Key × Value)} {es : List DictEntry}, KV kvs vs → Pairs (mixKind P w) es vs →
    es.length = kvs.length ∧ ∀ (i : Nat) (e : DictEntry), es[i]? = some e → ∃ q, kvs[i]? = some q ∧ keyIs q.1 e.key = true ∧ RelV q.2 e.val
  | _, _, _, .nil, .nil => ⟨rfl, fun i e z => nomatch (show none = some e by simpa using z)⟩
  | _, _, _, .cons (a := a) (b := b) r k, .cons (e := e0) hk hv pr => by
    obtain ⟨h1, h2⟩ := kv_pairs k pr
    refine ⟨by simp [h1], fun i e z => ?_⟩
    cases i with
    | zero =>
      have z' : e0 = e := by simpa using z
      subst z'
      refine ⟨a, rfl, ?_, ?_⟩
      · rw [r.1]; exact hk
      · rw [hv]; exact r.2
    | succ i => exact h2 i e (by simpa using z)
theorem Rp.repr (hok : HOk P w H h) {as : List Addr} {d : Nat} {x : V} {t : Str} (r : Rp H as d x t) : ∀ u, RelV x u → ReprK P w as h d u t := by
  induction r with
  | non =>
    rintro u rfl
    exact .of_is .none _ _ _
  | bl b =>
    rintro u rfl
    exact .of_is (.bool b) _ _ _
  | int i z =>
    rintro u ⟨tk, rfl⟩
    exact .of_is (.int tk z) _ _ _
  | str y z =>
    rintro u ⟨tk, rfl⟩
    exact .of_is (.str y tk z) _ _ _
  | @lst as as0 d a xs ts ha na sub nl it ih =>
    intro u ru
    obtain rfl : u = Value.ref a := ru
    obtain ⟨_, its, n, rv, ho⟩ := (show ObjOk P w H h a (.lst xs) from hok a _ ha)
    have nits := rv.length
    cases its with
    | nil =>
      have e1 : ts = [] := List.length_eq_zero_iff.mp (by rw [nl]; simpa using nits)
      subst e1
      exact (ReprK.listEmpty (d := d + 1) ho rfl rfl).more fun b hb => hb
    | cons y l =>
      refine (ReprK.list (as := as0) (d := d) ho rfl rfl na (by rw [nl, nits]; simp) fun i z hz => ?_).more sub
      have hz' : (y :: l)[i]? = some z := by simpa using hz
      have hi : i < xs.length := by
        rw [nits]
        exact (List.getElem?_eq_some_iff.mp hz').1
      obtain ⟨u2, hu2, r2⟩ := rv.get (List.getElem?_eq_getElem hi)
      rw [hz'] at hu2
      cases hu2
      refine ⟨ts[i]'(by omega), List.getElem?_eq_getElem _, ih i _ _ (List.getElem?_eq_getElem hi) (List.getElem?_eq_getElem _) z r2⟩
  | @tup as as0 d a xs ts ha na sub nl it ih =>
    intro u ru
    obtain rfl : u = Value.ref a := ru
    obtain ⟨_, its, rv, o, ho, hc, n, hd⟩ := (show ObjOk P w H h a (.tup xs) from hok a _ ha)
    refine (ReprK.tuple (as := as0) (d := d) ho hc hd na ?_).more sub
    have all : ∀ (xs : List V) (its : List Value) (ts : List Str), Vals xs its → ts.length = xs.length → (∀ (i : Nat) (x : V) (t : Str), xs[i]? = some x → ts[i]? = some t → ∀ u, RelV x u → ReprK P w as0 h d u t) → ReprAllK P w as0 h d its ts := by
      intro xs its ts rv
      induction rv generalizing ts with
      | nil =>
        intro e _
        have e1 : ts = [] := List.length_eq_zero_iff.mp (by simpa using e)
        subst e1
        exact .nil
      | cons r1 _ ihh =>
        intro e k
        cases ts with
        | nil => simp at e
        | cons t ts =>
          exact .cons (k 0 _ _ rfl rfl _ r1) (ihh ts (by simpa using e) fun i x t h1 h2 => k (i + 1) x t (by simpa using h1) (by simpa using h2))
    simpa using all xs its ts rv nl ih
  | @dic as as0 d a kvs ps ha na sub nl ke it ih =>
    intro u ru
    obtain rfl : u = Value.ref a := ru
    obtain ⟨_, hsys, vs, kv, o, es, ep, ho, hx, hd, _, pr, _⟩ := (show ObjOk P w H h a (.dK kvs) from hok a _ ha)
    refine (ReprK.dict (as := as0) (d := d) ho hx.1 hd hsys na ?_).more sub
    obtain ⟨n1, n2⟩ := kv_pairs kv pr
    have all : ∀ (l : List DictEntry) (qs : List (Str × Str)), qs.length = l.length → (∀ (i : Nat) (e : DictEntry) (p : Str × Str), l[i]? = some e → qs[i]? = some p → ReprK P w as0 h d e.key p.1 ∧ ReprK P w as0 h d e.val p.2) →
        ReprEntriesK P w as0 h d l (qs.map fun p => p.1 ++ ": " ++ p.2) := by
      intro l
      induction l with
      | nil =>
        intro qs e _
        have e1 : qs = [] := List.length_eq_zero_iff.mp (by simpa using e)
        subst e1
        exact .nil
      | cons e l ihh =>
        intro qs n k
        cases qs with
        | nil => simp at n
        | cons q qs =>
          obtain ⟨k1, k2⟩ := k 0 e q rfl rfl
          exact .cons k1 k2 (ihh qs (by simpa using n) fun i e p h1 h2 => k (i + 1) e p (by simpa using h1) (by simpa using h2))
    refine all es.toList ps (by rw [nl, n1]) fun i e p h1 h2 => ?_
    obtain ⟨q, hq, hk, hv⟩ := n2 i e h1
    exact ⟨keyT_repr (ke i q p hq h2) hk, ih i q p hq h2 _ hv⟩
end

section
variable {prog : Program} {w : World} {A : Around} {E : Value → Shared → Prop} {s : Shared}
/-- repr(v), by the type's own method -/
theorem repr_slot {T id : String} {v : Value} {Q : Value → Shared → Prop} (hT : s.TypeIs v T) (slot : SlotG T (Str.ofString "__repr__") id) (hu : A.units + 1 < cLine)
    (hc : wpAny (model prog w) A.in1 (call (.builtin id) [v]) (fun r s' => (∃ x u, r = .str x u) ∧ Q r s') E s) : wpAny (model prog w) A (call (.builtin "repr") [v]) Q E s := by
  refine Calls.call_function_entry F.kind_repr F.plain_repr F.entry_repr (F.args_repr1 _) ?_
  unfold Builtin.«repr»
  refine wpAny_bind (m := oneArg "repr" _) (wpAny_pure ?_)
  refine wpAny_bind (wpAny_cRoomFor (by show A.units + 1 < cLine; exact hu) ?_)
  refine wpAny_bind (wpAny_specialOf (name := Str.ofString "__repr__") hT slot.lookup ?_)
  refine wpAny_bind (m := callSpecialIfBound? v (Str.ofString "__repr__")) (wpAny_callSpecialIfBound?_slotG (name := Str.ofString "__repr__") hT slot (wpAny_mono hc (fun r s' hr => ?_) fun _ _ y => y))
  obtain ⟨⟨x, u, rfl⟩, q⟩ := hr
  refine wpAny_bind (wpAny_isInstance (T := "str") (b := true) rfl isSubtype_str_str ?_)
  exact wpAny_pure ⟨_, rfl, q⟩
end

/-- repr(x), x data -/
def rRepr : List V → Hp → VK → Prop := fun vs H Q => ∃ (x : V) (as : List Addr) (d : Nat) (t : Str), vs = [x] ∧ Rp H as d x t ∧ d ≤ 40 ∧ t.length ≤ sizeLine ∧ Q (.str t) H
theorem call_repr {X : Cx} {k : Nat} (hG : Bare X.A) (hr : Room k X.A) : CallR X (.builtin "repr") rRepr := by
  intro pins s σ H vs us Q I r want
  obtain ⟨x, as, d, t, rfl, rp, hd, hz, q⟩ := want
  obtain ⟨u, rfl, ru⟩ := vals1 r
  have hu := hr.units
  have fin : ∀ h' u2 tk, (∀ b o, s.heap.get? b = some o → h'.get? b = some o) → EP X pins σ Q (.str t u2) { s with heap := h', toks := tk } := fun h' u2 tk k => ⟨.str t, H, I.kept k, ⟨u2, rfl⟩, q⟩
  cases rp with
  | non =>
    cases ru
    exact PySem.P.repr_of_none (fin s.heap _ _ fun _ _ e => e)
  | bl b =>
    cases ru
    exact PySem.P.repr_of_bool (fin s.heap _ _ fun _ _ e => e)
  | int i z =>
    obtain ⟨tk, rfl⟩ := ru
    exact PySem.P.repr_of_int z (fin s.heap _ _ fun _ _ e => e)
  | str y z =>
    obtain ⟨tk, rfl⟩ := ru
    exact PySem.P.repr_of_str (fin s.heap _ _ fun _ _ e => e) z
  | @lst _ as0 d a xs ts ha na sub nl it =>
    obtain rfl : u = Value.ref a := ru
    obtain ⟨_, its, n, rv, ho⟩ := (show ObjOk X.prog X.w H s.heap a (.lst xs) from I.hok a _ ha)
    have nits := rv.length
    refine repr_slot ⟨_, ho, rfl⟩ F.slot_list_repr.toG (by omega) ?_
    cases its with
    | nil =>
      have e1 : ts = [] := List.length_eq_zero_iff.mp (by rw [nl]; simpa using nits)
      subst e1
      exact PySem.call_list_repr_empty ⟨_, ho, rfl⟩ ho rfl ⟨⟨_, _, rfl⟩, fin s.heap _ _ fun _ _ e => e⟩
    | cons y l =>
      refine PySem.call_list_reprK (g := []) (as := as0) (d := d) (h₀ := s.heap) ho rfl rfl na (by rw [nl, nits]; simp) (fun i z hz => ?_) hG (fun b _ => Clear.nil b) (by show X.A.units + 1 + (d + 1) < cLine; omega) (fun _ _ e => e)
        (fun h' u2 tk k => ⟨⟨_, _, rfl⟩, fin h' u2 tk k⟩) hz
      have hz' : (y :: l)[i]? = some z := by simpa using hz
      have hi : i < xs.length := by
        rw [nits]
        exact (List.getElem?_eq_some_iff.mp hz').1
      obtain ⟨u2, hu2, r2⟩ := rv.get (List.getElem?_eq_getElem hi)
      rw [hz'] at hu2
      cases hu2
      exact ⟨ts[i]'(by omega), List.getElem?_eq_getElem _, (it i _ _ (List.getElem?_eq_getElem hi) (List.getElem?_eq_getElem _)).repr I.hok z r2⟩
  | @tup _ as0 d a xs ts ha na sub nl it =>
    obtain rfl : u = Value.ref a := ru
    have rk := (Rp.tup ha na sub nl it).repr I.hok (.ref a) rfl
    obtain ⟨_, its, rv, o, ho, hc, n, hdt⟩ := (show ObjOk X.prog X.w H s.heap a (.tup xs) from I.hok a _ ha)
    refine repr_slot ⟨_, ho, hc⟩ F.slot_tuple_repr (by omega) ?_
    refine PySem.call_tuple_reprK (g := []) (as := as0) (d := d) (h₀ := s.heap) ho hc hdt na ?_ hG (fun b _ => Clear.nil b) (by show X.A.units + 1 + (d + 1) < cLine; omega) (fun _ _ e => e)
        (fun h' u2 tk k => ⟨⟨_, _, rfl⟩, fin h' u2 tk k⟩) hz
    have all : ∀ (xs : List V) (its : List Value) (ts : List Str), Vals xs its → ts.length = xs.length → (∀ (i : Nat) (x : V) (t : Str), xs[i]? = some x → ts[i]? = some t → ∀ u, RelV x u → ReprK X.prog X.w as0 s.heap d u t) → ReprAllK X.prog X.w as0 s.heap d its ts := by
      intro xs its ts rv
      induction rv generalizing ts with
      | nil =>
        intro e _
        have e1 : ts = [] := List.length_eq_zero_iff.mp (by simpa using e)
        subst e1
        exact .nil
      | cons r1 _ ihh =>
        intro e k
        cases ts with
        | nil => simp at e
        | cons t ts =>
          exact .cons (k 0 _ _ rfl rfl _ r1) (ihh ts (by simpa using e) fun i x t h1 h2 => k (i + 1) x t (by simpa using h1) (by simpa using h2))
    simpa using all xs its ts rv nl fun i x t h1 h2 => (it i x t h1 h2).repr I.hok
  | @dic _ as0 d a kvs ps ha na sub nl ke it =>
    obtain rfl : u = Value.ref a := ru
    obtain ⟨_, hsys, vs, kv, o, es, ep, ho, hx, hdt, _, pr, _⟩ := (show ObjOk X.prog X.w H s.heap a (.dK kvs) from I.hok a _ ha)
    refine repr_slot ⟨_, ho, hx.1⟩ F.slot_dict_repr (by omega) ?_
    refine PySem.call_dict_reprK (g := []) (as := as0) (d := d) (h₀ := s.heap) ho hx.1 hdt hsys na ?_ hG (fun b _ => Clear.nil b) (by show X.A.units + 1 + (d + 1) < cLine; omega) (fun _ _ e => e)
        (fun h' u2 tk k => ⟨⟨_, _, rfl⟩, fin h' u2 tk k⟩) hz
    obtain ⟨n1, n2⟩ := kv_pairs kv pr
    have all : ∀ (l : List DictEntry) (qs : List (Str × Str)), qs.length = l.length → (∀ (i : Nat) (e : DictEntry) (p : Str × Str), l[i]? = some e → qs[i]? = some p → ReprK X.prog X.w as0 s.heap d e.key p.1 ∧ ReprK X.prog X.w as0 s.heap d e.val p.2) →
        ReprEntriesK X.prog X.w as0 s.heap d l (qs.map fun p => p.1 ++ ": " ++ p.2) := by
      intro l
      induction l with
      | nil =>
        intro qs e _
        have e1 : qs = [] := List.length_eq_zero_iff.mp (by simpa using e)
        subst e1
        exact .nil
      | cons e l ihh =>
        intro qs n k
        cases qs with
        | nil => simp at n
        | cons q qs =>
          obtain ⟨k1, k2⟩ := k 0 e q rfl rfl
          exact .cons k1 k2 (ihh qs (by simpa using n) fun i e p h1 h2 => k (i + 1) e p (by simpa using h1) (by simpa using h2))
    refine all es.toList ps (by rw [nl, n1]) fun i e p h1 h2 => ?_
    obtain ⟨q, hq, hk, hv⟩ := n2 i e h1
    exact ⟨keyT_repr (ke i q p hq h2) hk, (it i q p hq h2).repr I.hok _ hv⟩
end Gd

set_option Elab.async false
set_option linter.all false
set_option maxRecDepth 100000
set_option maxHeartbeats 4000000
/-! Own exceptions made with keywords, over any of the built-in bases. -/
namespace Ge
open PySem
open PySem.Builtin PySem.Builtin.ObjectAttr PySem.HandSPX
section
variable {M : Model} {A : Around} {E : Value → Shared → Prop} {h : Heap} {g : Array GenState} {d : Drawn} {t : Nat} {os : OsState}
variable {nm q : Str} {C N : Addr} {bs bm bmB : List Value} {hdct : Bool} {sn : List Str} {sub : List Value} {ab : Bool} {col : Option Bool} {dd : Option Addr} {k0 k1 k2 k3 k5 : Option Value} {B newId initId : String}
theorem chk_new (F : ExcBaseFacts B newId initId bmB) (hT : ∀ X : String, bm.contains (.type X) = bmB.contains (.type X)) {rest : List Value} {kw : List (Str × Value)} {Q : Unit → Shared → Prop}
    (hC : h.get? C = some (excClassObj nm q C N bs bm hdct sn sub ab col dd k0 k1 k2 k3 k5 newId)) (hq : Q () ⟨h, g, d, t, os⟩) : wpAny M A (checkBuiltinCall newId ⟨.ref C :: rest, kw⟩) Q E ⟨h, g, d, t, os⟩ := by
  have has : (Value.ref C :: bm).contains (.type B) = true := by (rw [List.contains_cons, hT, F.hasB]; exact Bool.or_true _)
  have star := F.noStar
  simp only [checkBuiltinCall, F.newKind, F.newSplit, F.newRow, Bind.checkArgs, Bind.check]
  repeat (first | refine wpAny_loadPart_at hC ?_ | (refine wpAny_isSubtype_exc hC ?_; rw [has]) | refine wpAny_staticBase_exc hC ?_ | refine wpAny_madeBy_exc hC ?_ | simp only [bne_self_eq_false, Bool.false_eq_true, if_false] | wp_step)
  all_goals exact hq
end

section
variable {prog : Program} {w : World} {A : Around} {E : Value → Shared → Prop} {R : Result → Shared → Prop} {h : Heap} {g : Array GenState} {d : Drawn} {t : Nat} {os : OsState}
variable {nm q : Str} {C N : Addr} {bs bm bmB : List Value} {hdct : Bool} {sn : List Str} {sub : List Value} {ab : Bool} {col : Option Bool} {dd : Option Addr} {k0 k1 k2 k3 k5 : Option Value} {B newId initId : String}
/-- what lies behind a class's __new__ -/
abbrev newHeap (h : Heap) (C : Addr) (rest : List Value) : Heap := (h.push (W.kdv_tup rest)).push (excO C h.objs.size)
theorem new_any (F : ExcBaseFacts B newId initId bmB) (hT : ∀ X : String, bm.contains (.type X) = bmB.contains (.type X)) {rest : List Value} {kw : List (Str × Value)}
    (hC : h.get? C = some (excClassObj nm q C N bs bm hdct sn sub ab col dd k0 k1 k2 k3 k5 newId)) (hz : rest.length ≤ sizeLine) (hq : R (.ok (.ret (.ref (h.objs.size + 1)))) ⟨newHeap h C rest, g, d, t, os⟩) :
    codeAny (model prog w) A (.builtin newId ⟨.ref C :: rest, kw⟩) R ⟨h, g, d, t, os⟩ := by
  have ends := F.ends
  have isB : (Value.ref C :: bm).contains (.type B) = true := by (rw [List.contains_cons, hT, F.hasB]; exact Bool.or_true _)
  have noA : (Value.ref C :: bm).contains (.type "AttributeError") = false := by (rw [List.contains_cons, hT, F.noAttr]; exact rfl)
  have noN : (Value.ref C :: bm).contains (.type "NameError") = false := by (rw [List.contains_cons, hT, F.noName]; exact rfl)
  refine codeAny_builtinAt F.entry ?_
  (unfold Builtin.«BaseException.__new__»; refine wpAt_bind ?_)
  show wpAt _ _ _ (stack >>= _) _ _ _
  (refine wpAt_bind (wpAt_stack fun p below => wpAt_of_wpAny ?_); wp_walk; refine wpAt_of_wpAny ?_; rw [F.owner])
  repeat (first | with_reducible refine wpAny_madeHere_exc F.canon hC ?_ | with_reducible refine wpAny_loadPart_at hC ?_ | (with_reducible refine wpAny_isSubtype_exc hC ?_; first | rw [isB] | rw [noA] | rw [noN]) | wp_step)
  show R _ _
  rw [Heap.size_push]
  exact hq
theorem type_call_any (F : ExcBaseFacts B newId initId bmB) (hT : ∀ X : String, bm.contains (.type X) = bmB.contains (.type X)) {rest : List Value} {kw : List (Str × Value)} {fI : Addr} {Q : Fin → Shared → Prop}
    (hC : h.get? C = some (excClassObj nm q C N bs bm hdct sn sub ab col dd k0 k1 k2 k3 k5 newId)) (hi : W.Looks (model prog w) h (typeLookup (.ref C) "__init__") (some (.ref fI)))
    (hb : ∀ self, W.Looks (model prog w) h (bindSpecial (.ref fI) self) (.ref fI, [self])) (hz : rest.length ≤ sizeLine)
    (hq : codeAny (model prog w) A (.call (.ref fI) ⟨.ref (h.objs.size + 1) :: rest, kw⟩)
      (fun r s' => match r with | .ok (.ret v) => v = .none ∧ Q (.done (.ret (.ref (h.objs.size + 1)))) s' | .ok _ => False | .error e => E e s') ⟨newHeap h C rest, g, d, t, os⟩) :
    wpAny (model prog w) A (Builtin.«type.__call__» ⟨.ref C :: rest, kw⟩) Q E ⟨h, g, d, t, os⟩ := by
  repeat (first | with_reducible refine wpAny_loadPart_at hC ?_ | with_reducible refine wpAny_madeBy_exc hC ?_ | wp_step)
  refine codeAny_call_builtin_code (Code.quiet_builtin _ F.quiet) (chk_new F hT hC (new_any F hT hC hz ?_))
  show wpAny _ _ _ _ _ _
  have k : ∀ b o, h.get? b = some o → (newHeap h C rest).get? b = some o := fun b o z => Heap.get?_push_of_some _ (Heap.get?_push_of_some _ z)
  have c1 := k _ _ hC
  have x1 : (newHeap h C rest).get? (h.objs.size + 1) = some (excO C h.objs.size) := by (show ((h.push (W.kdv_tup rest)).push (excO C h.objs.size)).get? (h.objs.size + 1) = _; heap_get)
  have self : (Value.ref C :: bm).contains (.ref C) = true := by simp only [List.contains_cons, beq_self_eq_true, Bool.true_or]
  have i1 := hi.keeps k
  have b1 := (hb (.ref (h.objs.size + 1))).keeps k
  unfold isInstance
  repeat (first | with_reducible refine wpAny_loadPart_at x1 ?_ | (with_reducible refine wpAny_isSubtype_exc c1 ?_; rw [self]) | wp_step)
  show wpAny _ _ (typeLookup (.ref C) _) _ _ _
  refine i1.at (wpAny_holding (wpAny_bind (b1.at ?_)))
  refine wpAny_bind (wpAny_call (codeAny_mono hq fun r s' z => ?_))
  cases r with
  | error e => exact z
  | ok fl =>
    cases fl with
    | ret v =>
      obtain ⟨rfl, z⟩ := z
      first
        | exact wpAny_pure (wpAny_pure z)
        | (wp_walk; exact z)
    | next => exact z.elim
    | brk => exact z.elim
    | cont => exact z.elim
theorem call_any (F : ExcBaseFacts B newId initId bmB) (hT : ∀ X : String, bm.contains (.type X) = bmB.contains (.type X)) {rest : List Value} {kw : List (Str × Value)} {fI : Addr}
    (hC : h.get? C = some (excClassObj nm q C N bs bm hdct sn sub ab col dd k0 k1 k2 k3 k5 newId)) (hi : W.Looks (model prog w) h (typeLookup (.ref C) "__init__") (some (.ref fI)))
    (hb : ∀ self, W.Looks (model prog w) h (bindSpecial (.ref fI) self) (.ref fI, [self])) (hz : rest.length ≤ sizeLine)
    (hq : codeAny (model prog w) (A.under (.builtin "type.__call__" ⟨.ref C :: rest, kw⟩)) (.call (.ref fI) ⟨.ref (h.objs.size + 1) :: rest, kw⟩) (W.InitBack (h.objs.size + 1) R) ⟨newHeap h C rest, g, d, t, os⟩) :
    codeAny (model prog w) A (.call (.ref C) ⟨rest, kw⟩) R ⟨h, g, d, t, os⟩ := by
  have f1 := tc_lookup
  have f2 := tc_bind (.ref C)
  have isT : (⟨h, g, d, t, os⟩ : Shared).TypeIs (.ref C) "type" := ⟨_, hC, rfl⟩
  refine codeAny_of_tree ?_
  show wpAny _ _ (callAny (.ref C) _) _ _ _
  repeat (any_goals (first | assumption | with_reducible refine wpAny_loadPart_at hC ?_ | wp_step))
  refine ⟨rfl, codeAny_call_builtin_at (Code.quiet_builtin _ (by decide +kernel)) entry_typeCall (wpAny_check_type_call_sub hC (type_call_any F hT hC hi hb hz ?_))⟩
  refine codeAny_mono hq fun r s' z => ?_
  cases r with
  | error e => exact z
  | ok fl => cases fl <;> exact z
end
end Ge

set_option Elab.async false
set_option linter.all false
set_option maxRecDepth 100000
set_option maxHeartbeats 4000000
/-! An own error class whose __init__ stores its parameters: made, held, read. -/
namespace Ge
open PySem PySem.Spec L2
open PySem.Builtin PySem.Builtin.ObjectAttr PySem.HandSPX

/-- what the written part says of such a class at C, its __init__ at fI, its fields fs -/
structure EC (K : W.Frag) (C fI : Addr) (B newId initId : String) (bmB : List Value) (fs : List Str) : Prop where
  base : ExcBaseFacts B newId initId bmB
  sto : StoreFacts B bmB "object.__setattr__" "object"
  init : W.excInitIn K C bmB newId = true
  over : W.excOver K C bmB = true
  keep : W.keepIn K (.ref C) = true
  iC : W.findIn K (.ref C) "__init__" = some (some (.ref fI))
  tI : W.typeIn K (.ref fI) = some (.type "function")
  sa : W.findIn K (.ref C) "__setattr__" = some (some (.builtin "object.__setattr__"))
  hd : W.hasDictIn K C = true
  tak : ∀ f ∈ fs, W.takerIn K C f = some none

section
variable {prog : Program} {w : World} {A : Around} {E : Value → Shared → Prop} {R : Result → Shared → Prop} {hp : Heap} {g : Array GenState} {d : Drawn} {t : Nat} {os : OsState}
variable {K : W.Frag} {C fI : Addr} {B newId initId : String} {bmB : List Value} {fs : List Str} {name : Str} {v : Value}
/-- x.name = v, the first one -/
theorem put_new (T : EC K C fI B newId initId bmB fs) {tk : Tok} {x : Addr} {fv : Array Value} (X : K.In hp) (hx : hp.get? x = some { cls := .ref C, data := .fields fv }) (ht : name ∈ fs)
    (hq : ∀ h' tk' dx, (∀ b o, b ≠ x → hp.get? b = some o → h'.get? b = some o) → hp.objs.size ≤ dx → dx ≠ x → h'.get? x = some { cls := .ref C, dict := some dx, data := .fields fv } →
      h'.Ns1 dx (fun y => if y = name then some v else none) → R (.ok (.ret .none)) ⟨h', g, d, tk', os⟩) :
    codeAny (model prog w) A (.call (.builtin "object.__setattr__") ⟨[.ref x, .str name tk, v], []⟩) R ⟨hp, g, d, t, os⟩ := by
  obtain ⟨cd, hc, hdct⟩ := W.any_some T.hd
  have xs : x ≠ hp.objs.size := Nat.ne_of_lt (Heap.lt_size hx)
  have cls : W.Looks (model prog w) hp (classData C) cd := W.looks_clsIn X hc
  refine W.osa_openX (od := none) T.sto X ⟨hx, rfl, rfl, trivial⟩ T.over (T.tak _ ht) (fun b => ?_)
  show wpAny _ _ (storeInOwnDict (.ref x) (.ref C) (.str name tk) name v b) _ _ _
  obtain ⟨nm, bs, mro, ns, qn, has, sn, sb, ab, col, del⟩ := cd
  (dsimp only at hdct; subst hdct)
  (unfold storeInOwnDict ownDictForStores)
  repeat (first | with_reducible refine store_in_new ?_ ?_ | with_reducible refine wpAny_loadPart_at hx ?_ | with_reducible refine cls.at ?_ | wp_step)
  · exact ⟨_, #[], _, (Heap.get?_update_ne _ _ _ _ xs.symm).trans (Heap.get?_push_at rfl rfl), rfl, fun e he => absurd he (by simp), fun _ => rfl⟩
  · intro h' tk' hn' hs
    have hx1 : (hp.push { cls := .type "dict", data := .dict #[] }).get? x = some { cls := .ref C, data := .fields fv } := Heap.get?_push_of_some _ hx
    refine hq h' tk' hp.objs.size (fun b o hb ho => ?_) (Nat.le_refl _) xs.symm ((hs.2 x xs).trans (Heap.get?_update_self _ hx1 rfl)) hn'
    exact (hs.2 b (Nat.ne_of_lt (Heap.lt_size ho))).trans ((Heap.get?_update_ne _ _ _ _ hb).trans (Heap.get?_push_of_some _ ho))
/-- .. a further one -/
theorem put_old (T : EC K C fI B newId initId bmB fs) {tk : Tok} {x dx : Addr} {fv : Array Value} {m0 : Str → Option Value} {nl : List Str} (X : K.In hp) (hx : hp.get? x = some { cls := .ref C, dict := some dx, data := .fields fv }) (hn : hp.Ns1 dx m0)
    (hw : Within m0 nl) (hz : nl.length ≤ 1000) (ht : name ∈ fs)
    (hq : ∀ h' tk', (∀ b o, b ≠ dx → hp.get? b = some o → h'.get? b = some o) → h'.Ns1 dx (fun y => if y = name then some v else m0 y) → R (.ok (.ret .none)) ⟨h', g, d, tk', os⟩) :
    codeAny (model prog w) A (.call (.builtin "object.__setattr__") ⟨[.ref x, .str name tk, v], []⟩) R ⟨hp, g, d, t, os⟩ := by
  obtain ⟨cd, hc, hdct⟩ := W.any_some T.hd
  obtain ⟨oD, esD, epD, hoD, hdD, _⟩ := hn.count hw
  have cls : W.Looks (model prog w) hp (classData C) cd := W.looks_clsIn X hc
  refine W.osa_openX (od := some oD) T.sto X ⟨hx, rfl, rfl, hoD⟩ T.over (T.tak _ ht) (fun b => ?_)
  show wpAny _ _ (storeInOwnDict (.ref x) (.ref C) (.str name tk) name v b) _ _ _
  obtain ⟨nm, bs, mro, ns, qn, has, sn, sb, ab, col, del⟩ := cd
  (dsimp only at hdct; subst hdct)
  (unfold storeInOwnDict ownDictForStores)
  repeat (first | with_reducible refine OEX.store_in_old hn hw hz ?_ | with_reducible refine wpAny_loadPart_at hx ?_ | with_reducible refine cls.at ?_ | wp_step)
  intro h' tk' hn' hs
  exact hq h' tk' (fun b o hb ho => (hs.2 b hb).trans ho) hn'
end

/-- a made error: e, its dict d with the fields m -/
structure Made (h h' : Heap) (e C d : Addr) (m : Str → Option Value) : Prop where
  keep : ∀ b o, h.get? b = some o → h'.get? b = some o
  new : h.objs.size ≤ e
  obj : ∃ t1 : Addr, h'.get? e = some { cls := .ref C, dict := some d, data := .fields #[.ref t1, .none, .none, .none, .bool false, .none] }
  dbig : h.objs.size ≤ d
  dne : d ≠ e
  ns : h'.Ns1 d m
def iBody1 (f : Str) (q1 q2 q3 q4 : Pos) : List Stmt := [.Assign [.Attribute (.Name "self" q1) f q2] (.Name f q3) q4]
def iBody2 (f f2 : Str) (q1 q2 q3 q4 r1 r2 r3 r4 : Pos) : List Stmt := [.Assign [.Attribute (.Name "self" q1) f q2] (.Name f q3) q4, .Assign [.Attribute (.Name "self" r1) f2 r2] (.Name f2 r3) r4]
def iScope (names : List Str) : Scope := { kind := .function, names := names.map fun n => (n, .local), isGenerator := false, isCoroutine := false, more := [] }
section
variable {prog : Program} {w : World} {A : Around} {E : Value → Shared → Prop} {R : Result → Shared → Prop} {s : Shared}
variable {K : W.Frag} {C fI : Addr} {B newId initId : String} {bmB : List Value} {fs : List Str}
variable {qual : Str} {params : Arguments} {oc dV kV doc pm cdv ct : Value} {an od : Option Addr} {osl : Array (Option Value)}
/-- a local read -/
theorem ld {M : Model} {s : Shared} {nm : Str} {sc : Scope} {L a : Addr} {cd : Value} {m : Str → Option Value} {x : Str} {pos : Pos} {v : Value} {Q : Value → Shared → Prop} {A : Around} {E : Value → Shared → Prop} (hn : s.heap.Ns L m) (hv : m x = some v) (h : Q v s)
    (hk : sc.kind = .function) (hl : (PyProof.Rows.envOfC nm sc L a cd).kindOf x = some .local) (hd : (x == ("__debug__" : Str)) = false) : wpAny M A (eval (.Name x pos) (PyProof.Rows.envOfC nm sc L a cd)) Q E s :=
  wpAny_Name (wpAny_loadName_local hk hl hn hv h) hd
theorem init1 (T : EC K C fI B newId initId bmB fs) {f : Str} {q1 q2 q3 q4 : Pos} {x t0 : Addr} {v : Value} {args : Args} (X : K.In s.heap) (lim : s.heap.NoLimit) (hx : s.heap.get? x = some (excO C t0)) (room : A.depth < recursionLimit)
    (at_ : K.lookup fI = some ⟨oc, od, .func (W.fnOf "__init__" qual params (iBody1 f q1 q2 q3 q4) (iScope ["self", f]) dV kV doc pm an cdv ct), osl⟩) (code : W.codeIn K cdv qual = true)
    (bd : BindsTo s (W.fnOf "__init__" qual params (iBody1 f q1 q2 q3 q4) (iScope ["self", f]) dV kV doc pm an cdv ct) args [("self", .ref x), (f, v)])
    (ht : f ∈ fs) (h1 : ("self" == f) = false) (h2 : (f == ("__debug__" : Str)) = false) (h3 : (f == ("self" : Str)) = false)
    (hq : ∀ h' tk dx, (∀ b o, b ≠ x → s.heap.get? b = some o → h'.get? b = some o) → h'.get? x = some { cls := .ref C, dict := some dx, data := .fields #[.ref t0, .none, .none, .none, .bool false, .none] } → s.heap.objs.size ≤ dx → dx ≠ x →
      h'.Ns1 dx (fun y => if y = f then some v else none) → R (.ok (.ret .none)) { s with heap := h', toks := tk }) :
    codeAny (model prog w) A (.call (.ref fI) args) R s := by
  have e1 : ("self" : Str) ≠ f := by simpa using h1
  have look : ∀ y : Str, (y = "self" ∨ y = f) → (iScope ["self", f]).names.lookup y = some .local := by
    intro y hy
    rcases hy with rfl | rfl
    · simp [iScope, List.lookup]
    · simp [iScope, List.lookup, h3]
  refine Att.call_fn (binds := [("self", .ref x), (f, v)]) X lim at_ code room bd (by simp [look]) (fun s₁ IC => ?_) rfl rfl rfl
  obtain ⟨hh, tk1, rfl⟩ := IC.toInCall.same
  have k : ∀ b o, s.heap.get? b = some o → hh.get? b = some o := IC.toInCall.keep
  have hn := IC.toInCall.ns
  have X1 : K.In hh := X.keeps k
  have x1 := k _ _ hx
  have k1 : (PyProof.Rows.envOfC qual (iScope ["self", f]) s.heap.objs.size fI cdv).kindOf "self" = some .local := look _ (.inl rfl)
  have k2 : (PyProof.Rows.envOfC qual (iScope ["self", f]) s.heap.objs.size fI cdv).kindOf f = some .local := look _ (.inr rfl)
  have m1 : bindL (PyProof.Rows.envOfC qual (iScope ["self", f]) s.heap.objs.size fI cdv).kindOf [("self", .ref x), (f, v)] (fun _ => none) "self" = some (.ref x) := by
    simp [bindL, k1, k2, e1]
  have m2 : bindL (PyProof.Rows.envOfC qual (iScope ["self", f]) s.heap.objs.size fI cdv).kindOf [("self", .ref x), (f, v)] (fun _ => none) f = some v := by
    simp [bindL, k1, k2]
  have z : s.heap.objs.size < hh.objs.size := hn.lt
  show wpAny _ _ (execs [.Assign [.Attribute (.Name "self" q1) f q2] (.Name f q3) q4] _) _ _ _
  refine wpAny_execs_cons (plainObj_wpAny_Assign_Attribute ?_)
  refine ld (v := v) hn m2 (ld (v := .ref x) hn m1 ?_ rfl k1 (by decide)) rfl k2 h2
  refine W.set_plain X1 (ox := excO C t0) (od := none) ⟨x1, rfl, rfl, trivial⟩ T.sa (put_new T X1 x1 ht (fun h3 tk3 dx k3 dn dne hx3 hn3 => ?_))
  show wpAny _ _ (execs [] _) _ _ _
  exact wpAny_execs_nil (hq h3 tk3 dx (fun b o hb e => k3 b o hb (k b o e)) hx3 (Nat.le_of_lt (Nat.lt_of_lt_of_le z dn)) dne hn3)
theorem init2 (T : EC K C fI B newId initId bmB fs) {f f2 : Str} {q1 q2 q3 q4 r1 r2 r3 r4 : Pos} {x t0 : Addr} {v v2 : Value} {args : Args} (X : K.In s.heap) (lim : s.heap.NoLimit) (hx : s.heap.get? x = some (excO C t0)) (room : A.depth < recursionLimit)
    (hnx : K.lookup x = none) (at_ : K.lookup fI = some ⟨oc, od, .func (W.fnOf "__init__" qual params (iBody2 f f2 q1 q2 q3 q4 r1 r2 r3 r4) (iScope ["self", f, f2]) dV kV doc pm an cdv ct), osl⟩) (code : W.codeIn K cdv qual = true)
    (bd : BindsTo s (W.fnOf "__init__" qual params (iBody2 f f2 q1 q2 q3 q4 r1 r2 r3 r4) (iScope ["self", f, f2]) dV kV doc pm an cdv ct) args [("self", .ref x), (f, v), (f2, v2)])
    (ht : f ∈ fs) (ht2 : f2 ∈ fs) (h1 : ("self" == f) = false) (h2 : (f == ("__debug__" : Str)) = false) (h3 : (f == ("self" : Str)) = false) (h4 : ("self" == f2) = false) (h5 : (f2 == ("__debug__" : Str)) = false) (h6 : (f2 == ("self" : Str)) = false) (h7 : (f2 == f) = false)
    (hq : ∀ h' tk dx, (∀ b o, b ≠ x → s.heap.get? b = some o → h'.get? b = some o) → h'.get? x = some { cls := .ref C, dict := some dx, data := .fields #[.ref t0, .none, .none, .none, .bool false, .none] } → s.heap.objs.size ≤ dx → dx ≠ x →
      h'.Ns1 dx (fun y => if y = f2 then some v2 else if y = f then some v else none) → R (.ok (.ret .none)) { s with heap := h', toks := tk }) :
    codeAny (model prog w) A (.call (.ref fI) args) R s := by
  have e1 : ("self" : Str) ≠ f := by simpa using h1
  have e4 : ("self" : Str) ≠ f2 := by simpa using h4
  have e7 : f2 ≠ f := by simpa using h7
  have look : ∀ y : Str, (y = "self" ∨ y = f ∨ y = f2) → (iScope ["self", f, f2]).names.lookup y = some .local := by
    intro y hy
    rcases hy with rfl | rfl | rfl
    · simp [iScope, List.lookup]
    · simp [iScope, List.lookup, h3]
    · simp [iScope, List.lookup, h6, h7]
  refine Att.call_fn (binds := [("self", .ref x), (f, v), (f2, v2)]) X lim at_ code room bd (by simp [look]) (fun s₁ IC => ?_) rfl rfl rfl
  obtain ⟨hh, tk1, rfl⟩ := IC.toInCall.same
  have k : ∀ b o, s.heap.get? b = some o → hh.get? b = some o := IC.toInCall.keep
  have hn := IC.toInCall.ns
  have X1 : K.In hh := X.keeps k
  have x1 := k _ _ hx
  have k1 : (PyProof.Rows.envOfC qual (iScope ["self", f, f2]) s.heap.objs.size fI cdv).kindOf "self" = some .local := look _ (.inl rfl)
  have k2 : (PyProof.Rows.envOfC qual (iScope ["self", f, f2]) s.heap.objs.size fI cdv).kindOf f = some .local := look _ (.inr (.inl rfl))
  have k3 : (PyProof.Rows.envOfC qual (iScope ["self", f, f2]) s.heap.objs.size fI cdv).kindOf f2 = some .local := look _ (.inr (.inr rfl))
  have m1 : bindL (PyProof.Rows.envOfC qual (iScope ["self", f, f2]) s.heap.objs.size fI cdv).kindOf [("self", .ref x), (f, v), (f2, v2)] (fun _ => none) "self" = some (.ref x) := by
    simp [bindL, k1, k2, k3, e1, e4]
  have m2 : bindL (PyProof.Rows.envOfC qual (iScope ["self", f, f2]) s.heap.objs.size fI cdv).kindOf [("self", .ref x), (f, v), (f2, v2)] (fun _ => none) f = some v := by
    simp [bindL, k1, k2, k3, Ne.symm e7]
  have m3 : bindL (PyProof.Rows.envOfC qual (iScope ["self", f, f2]) s.heap.objs.size fI cdv).kindOf [("self", .ref x), (f, v), (f2, v2)] (fun _ => none) f2 = some v2 := by
    simp [bindL, k1, k2, k3]
  have z : s.heap.objs.size < hh.objs.size := hn.lt
  have xL : x ≠ s.heap.objs.size := Nat.ne_of_lt (Heap.lt_size hx)
  show wpAny _ _ (execs [.Assign [.Attribute (.Name "self" q1) f q2] (.Name f q3) q4, .Assign [.Attribute (.Name "self" r1) f2 r2] (.Name f2 r3) r4] _) _ _ _
  refine wpAny_execs_cons (plainObj_wpAny_Assign_Attribute ?_)
  refine ld (v := v) hn m2 (ld (v := .ref x) hn m1 ?_ rfl k1 (by decide)) rfl k2 h2
  refine W.set_plain X1 (ox := excO C t0) (od := none) ⟨x1, rfl, rfl, trivial⟩ T.sa (put_new T X1 x1 ht (fun hA tkA dx kA dn dne hxA hnA => ?_))
  obtain ⟨oD, esD, epD, hoD, hdD, _⟩ := hnA.count (Within.cons f v Within.nil)
  have hnL : hA.Ns s.heap.objs.size _ := hn.at fun o q => kA _ o xL.symm q
  have XA : K.In hA := fun b o q => kA b o (fun e => by rw [e, hnx] at q; cases q) (X1 b o q)
  refine wpAny_execs_cons (plainObj_wpAny_Assign_Attribute ?_)
  refine ld (v := v2) hnL m3 (ld (v := .ref x) hnL m1 ?_ rfl k1 (by decide)) rfl k3 h5
  refine W.set_plain XA (ox := { cls := .ref C, dict := some dx, data := .fields #[.ref t0, .none, .none, .none, .bool false, .none] }) (od := some oD) ⟨hxA, rfl, rfl, hoD⟩ T.sa
    (put_old T XA hxA hnA (Within.cons f v Within.nil) (by simp) ht2 (fun hB tkB kB hnB => ?_))
  show wpAny _ _ (execs [] _) _ _ _
  refine wpAny_execs_nil (hq hB tkB dx (fun b o hb e => kB b o ?_ (kA b o hb (k b o e))) (kB x _ (Ne.symm dne) hxA) (Nat.le_of_lt (Nat.lt_of_lt_of_le z dn)) dne hnB)
  exact Nat.ne_of_lt (Nat.lt_of_lt_of_le (Heap.lt_size (k b o e)) dn)
/-- C(..), from what its __init__ does -/
theorem made_by (T : EC K C fI B newId initId bmB fs) {us : List Value} {kw : List (Str × Value)} {m : Str → Option Value} (X : K.In s.heap) (hz : us.length ≤ sizeLine) (room : A.depth + 1 < recursionLimit)
    (hi : ∀ (A' : Around) (s' : Shared) (x t0 : Addr) (R' : Result → Shared → Prop), (∀ b o, s.heap.get? b = some o → s'.heap.get? b = some o) → s'.heap.get? x = some (excO C t0) → K.lookup x = none → A'.depth < recursionLimit →
      (∀ h' tk dx, (∀ b o, b ≠ x → s'.heap.get? b = some o → h'.get? b = some o) → h'.get? x = some { cls := .ref C, dict := some dx, data := .fields #[.ref t0, .none, .none, .none, .bool false, .none] } → s'.heap.objs.size ≤ dx → dx ≠ x →
        h'.Ns1 dx m → R' (.ok (.ret .none)) { s' with heap := h', toks := tk }) → codeAny (model prog w) A' (.call (.ref fI) ⟨.ref x :: us, kw⟩) R' s')
    (hq : ∀ h' tk e d, Made s.heap h' e C d m → R (.ok (.ret (.ref e))) { s with heap := h', toks := tk }) :
    codeAny (model prog w) A (.call (.ref C) ⟨us, kw⟩) R s := by
  obtain ⟨nm, N, qn, bs, bm, hdct, sn, sub, ab, col, dd, k0, k1, k2, k3, k5, hC, hT⟩ := W.excInit_of X T.init
  obtain ⟨hp, g, dr, tk, os⟩ := s
  have k : ∀ b o, hp.get? b = some o → (newHeap hp C us).get? b = some o := fun b o e => Heap.get?_push_of_some _ (Heap.get?_push_of_some _ e)
  have x1 : (newHeap hp C us).get? (hp.objs.size + 1) = some (excO C hp.objs.size) := by (show ((hp.push (W.kdv_tup us)).push (excO C hp.objs.size)).get? (hp.objs.size + 1) = _; heap_get)
  have nx : K.lookup (hp.objs.size + 1) = none := by
    cases e : K.lookup (hp.objs.size + 1) with
    | none => rfl
    | some o => exact absurd (Nat.lt_of_succ_lt (Heap.lt_size (X _ _ e))) (Nat.lt_irrefl _)
  refine call_any T.base hT hC (W.looks_findIn X T.iC) (fun self => W.bind_fn X self T.tI) hz ?_
  refine hi _ ⟨newHeap hp C us, g, dr, tk, os⟩ (hp.objs.size + 1) hp.objs.size _ k x1 nx (by rw [make_depth]; exact room) (fun h' tk' dx k' hx dn dne hns => ?_)
  have z : hp.objs.size + 1 + 1 ≤ dx := by
    have q : (newHeap hp C us).objs.size ≤ dx := dn
    rw [Heap.size_push, Heap.size_push] at q
    exact q
  exact ⟨rfl, hq h' tk' (hp.objs.size + 1) dx ⟨fun b o e => k' b o (Nat.ne_of_lt (Nat.lt_succ_of_lt (Heap.lt_size e))) (k b o e), Nat.le_succ _, ⟨_, hx⟩, (by show hp.objs.size ≤ dx; omega), dne, hns⟩⟩
end

section
variable {X : Cx} {pins : List (Addr × Obj)} {σ : L2.St} {H : Hp} {s : Shared} {C : Addr}
theorem relO_one {v : V} {u : Value} (r : RelV v u) (f y : Str) : RelO (List.lookup y [(f, v)]) (if y = f then some u else none) := relO_put (fs := []) (mA := fun _ => none) r (fun _ => trivial) y
theorem relO_two {v v2 : V} {u u2 : Value} (r : RelV v u) (r2 : RelV v2 u2) (f f2 y : Str) : RelO (List.lookup y [(f2, v2), (f, v)]) (if y = f2 then some u2 else if y = f then some u else none) :=
  relO_put (fs := [(f, v)]) (mA := fun y => if y = f then some u else none) r2 (fun g => relO_one r f g) y
/-- a made error, tracked -/
theorem Inv.err (I : Inv X pins σ H s) {h' : Heap} {tk : Nat} {e d : Addr} {m : Str → Option Value} {fs : List (Str × V)} (M : Made s.heap h' e C d m) (r : ∀ y, RelO (fs.lookup y) (m y)) :
    H e = none ∧ H d = none ∧ Inv X pins σ (upd (upd H d (exd d fs)) e (exo e C (some d))) { s with heap := h', toks := tk } := by
  have ne := I.hok.fresh M.new
  have nd := I.hok.fresh M.dbig
  have be : ∀ {b : Addr} {o : Obj}, s.heap.get? b = some o → b ≠ e := fun q => Nat.ne_of_lt (Nat.lt_of_lt_of_le (Heap.lt_size q) M.new)
  have bd : ∀ {b : Addr} {o : Obj}, s.heap.get? b = some o → b ≠ d := fun q => Nat.ne_of_lt (Nat.lt_of_lt_of_le (Heap.lt_size q) M.dbig)
  have keepH : ∀ {b : Addr} {o : HO}, H b = some o → upd (upd H d (exd d fs)) e (exo e C (some d)) b = some o := fun q => by
    rw [upd_ne (ne_of_none q ne), upd_ne (ne_of_none q nd)]
    exact q
  refine ⟨ne, nd, I.un (t' := tk) { keep := fun b o q _ _ _ => M.keep b o q, slot := fun b o q _ _ _ => ⟨o.slots, M.keep b o q⟩, free := fun b o q n _ => ?_, there := fun b o q _ => ⟨o, M.keep b o q⟩, tups := fun b xs q => keepH q, frzs := fun b o u q => keepH q, tbls := fun b ps q => ⟨#[], by rw [keepH q]; simp⟩ } (fun b o q => ?_)⟩
  · rw [upd_ne (be q), upd_ne (bd q)]
    exact n
  · by_cases hb : b = e
    · subst hb
      rw [upd_same] at q
      cases q
      obtain ⟨t1, ht⟩ := M.obj
      exact exo_ok ht
    · rw [upd_ne hb] at q
      by_cases hd : b = d
      · subst hd
        rw [upd_same] at q
        cases q
        exact exd_ok M.ns r
      · rw [upd_ne hd] at q
        exact (I.hok b o q).stay (fun c v _ z => M.keep c v z) (fun c z => keepH z) fun c xs z => keepH z
end
end Ge

set_option Elab.async false
set_option linter.all false
set_option maxRecDepth 100000
set_option maxHeartbeats 4000000
/-! Rules: an own error made, its field read, isinstance of it. -/
namespace Ge
open PySem PySem.Spec L2 PySem.HandSPX

/-- an error class of one parameter | of two | without an own __init__: what its call makes -/
structure E1 (K : W.Frag) (C : Addr) (f : Str) : Prop where
  keep : W.keepIn K (.ref C) = true
  does : ∀ {prog : Program} {w : World} {A : Around} {R : Result → Shared → Prop} {s : Shared} {us : List Value} {kw : List (Str × Value)} {v : Value}, (us = [v] ∧ kw = []) ∨ (us = [] ∧ kw = [(f, v)]) → K.In s.heap → s.heap.NoLimit → A.depth + 1 < recursionLimit →
    (∀ h' tk e d, Made s.heap h' e C d (fun y => if y = f then some v else none) → R (.ok (.ret (.ref e))) { s with heap := h', toks := tk }) → codeAny (model prog w) A (.call (.ref C) ⟨us, kw⟩) R s
structure E2 (K : W.Frag) (C : Addr) (f f2 : Str) : Prop where
  keep : W.keepIn K (.ref C) = true
  does : ∀ {prog : Program} {w : World} {A : Around} {R : Result → Shared → Prop} {s : Shared} {us : List Value} {kw : List (Str × Value)} {v v2 : Value}, (us = [v, v2] ∧ kw = []) ∨ (us = [] ∧ kw = [(f2, v2), (f, v)]) → K.In s.heap → s.heap.NoLimit → A.depth + 1 < recursionLimit →
    (∀ h' tk e d, Made s.heap h' e C d (fun y => if y = f2 then some v2 else if y = f then some v else none) → R (.ok (.ret (.ref e))) { s with heap := h', toks := tk }) → codeAny (model prog w) A (.call (.ref C) ⟨us, kw⟩) R s
structure E0c (K : W.Frag) (C : Addr) : Prop where
  keep : W.keepIn K (.ref C) = true
  does : ∀ {prog : Program} {w : World} {A : Around} {E : Value → Shared → Prop} {Q : Value → Shared → Prop} {s : Shared}, K.In s.heap →
    (∀ h' e t, (∀ b o, s.heap.get? b = some o → h'.get? b = some o) → s.heap.objs.size ≤ e → h'.get? e = some (W.excObj C t none .none) → Q (.ref e) { s with heap := h' }) → wpAny (model prog w) A (call (.ref C) []) Q E s

section
variable {X : Cx} {C : Addr} {x f f2 : Str} {e e2 : Expr} {es : List Expr} {kws : List Keyword} {te te2 : TE} {ta tk : TA} {p pos kp kp2 : Pos} {k : Nat} {pins : List (Addr × Obj)} {σ : L2.St} {H : Hp} {s : Shared} {Q : VK}
/-- the heap with a new error at e, its dict at d -/
abbrev withErr (H : Hp) (C e d : Addr) (fs : List (Str × V)) : Hp := upd (upd H d (exd d fs)) e (exo e C (some d))
def tMk1 (C : Addr) (f : Str) (ta : TA) : TE := fun σ H Q => ta σ H fun vs H1 => ∃ v, vs = [v] ∧ ∀ e d, H1 e = none → H1 d = none → d ≠ e → Q (.ref e) (withErr H1 C e d [(f, v)])
def tMk2 (C : Addr) (f f2 : Str) (ta : TA) : TE := fun σ H Q => ta σ H fun vs H1 => ∃ v v2, vs = [v, v2] ∧ ∀ e d, H1 e = none → H1 d = none → d ≠ e → Q (.ref e) (withErr H1 C e d [(f2, v2), (f, v)])
def tMk2k (C : Addr) (f f2 : Str) (ta : TA) : TE := fun σ H Q => ta σ H fun vs H1 => ∃ v v2, vs = [v2, v] ∧ ∀ e d, H1 e = none → H1 d = none → d ≠ e → Q (.ref e) (withErr H1 C e d [(f2, v2), (f, v)])
def tMk0 (C : Addr) : TE := fun _ H Q => ∀ e, H e = none → Q (.ref e) (upd H e (exo e C none))
theorem run1 (T : E1 X.K C f) (hr : Room k X.A) (I : Inv X pins σ H s) {us : List Value} {kw : List (Str × Value)} {v : V} {u : Value} (ru : RelV v u) (h : (us = [u] ∧ kw = []) ∨ (us = [] ∧ kw = [(f, u)]))
    (q : ∀ e d, H e = none → H d = none → d ≠ e → Q (.ref e) (withErr H C e d [(f, v)])) : wpAny (model X.prog X.w) X.A (call (.ref C) us kw) (EP X pins σ Q) X.xe s := by
  refine wpAny_call (T.does h I.kIn I.nolimit (by have := hr.dp; omega) (fun h' tk e d M => ?_))
  obtain ⟨ne, nd, J⟩ := Inv.err (tk := tk) I M (relO_one ru f)
  exact ⟨.ref e, _, J, rfl, q e d ne nd M.dne⟩
theorem run2 (T : E2 X.K C f f2) (hr : Room k X.A) (I : Inv X pins σ H s) {us : List Value} {kw : List (Str × Value)} {v v2 : V} {u u2 : Value} (ru : RelV v u) (ru2 : RelV v2 u2) (h : (us = [u, u2] ∧ kw = []) ∨ (us = [] ∧ kw = [(f2, u2), (f, u)]))
    (q : ∀ e d, H e = none → H d = none → d ≠ e → Q (.ref e) (withErr H C e d [(f2, v2), (f, v)])) : wpAny (model X.prog X.w) X.A (call (.ref C) us kw) (EP X pins σ Q) X.xe s := by
  refine wpAny_call (T.does h I.kIn I.nolimit (by have := hr.dp; omega) (fun h' tk e d M => ?_))
  obtain ⟨ne, nd, J⟩ := Inv.err (tk := tk) I M (relO_two ru ru2 f f2)
  exact ⟨.ref e, _, J, rfl, q e d ne nd M.dne⟩
/-- X(e) | X(e, e2) | X() -/
theorem pe_mk1 (T : E1 X.K C f) (hr : Room k X.A) (hg : Gl X x) (hm : X.mg x = some (.ref C)) (ha : PA X (e :: es) ta) (hdb : (x == ("__debug__" : Str)) = false := by decide)
    (hs : starEach (e :: es) X.env = (false, eval e X.env) :: starEach es X.env := by rfl) (hpl : (backTo pos (starEach es X.env)).any (·.1) = false := by rfl) : PE X (.Call (.Name x p) (e :: es) [] pos) (tMk1 C f ta) := by
  refine ⟨fun pins s σ H Q I h => wpAny_Call_Name_kw (ld_glob I hg hm ?_ hdb)⟩
  refine PySem.W.callWith_K (h₀ := X.base) I.ok.mod.kin T.keep (thn (ha.run pos pins s σ H _ I h) fun us s1 ⟨vs, H1, I1, r, v, ev, q⟩ => ⟨I1.kIn, ?_⟩) hs hpl
  subst ev
  obtain ⟨u, rfl, ru⟩ := vals1 r
  exact run1 T hr I1 ru (.inl ⟨rfl, rfl⟩) q
theorem pe_mk2 (T : E2 X.K C f f2) (hr : Room k X.A) (hg : Gl X x) (hm : X.mg x = some (.ref C)) (ha : PA X (e :: es) ta) (hdb : (x == ("__debug__" : Str)) = false := by decide)
    (hs : starEach (e :: es) X.env = (false, eval e X.env) :: starEach es X.env := by rfl) (hpl : (backTo pos (starEach es X.env)).any (·.1) = false := by rfl) : PE X (.Call (.Name x p) (e :: es) [] pos) (tMk2 C f f2 ta) := by
  refine ⟨fun pins s σ H Q I h => wpAny_Call_Name_kw (ld_glob I hg hm ?_ hdb)⟩
  refine PySem.W.callWith_K (h₀ := X.base) I.ok.mod.kin T.keep (thn (ha.run pos pins s σ H _ I h) fun us s1 ⟨vs, H1, I1, r, v, v2, ev, q⟩ => ⟨I1.kIn, ?_⟩) hs hpl
  subst ev
  obtain ⟨u, u2, rfl, ru, ru2⟩ := vals2 r
  exact run2 T hr I1 ru ru2 (.inl ⟨rfl, rfl⟩) q
theorem pe_mk0 (T : E0c X.K C) (hg : Gl X x) (hm : X.mg x = some (.ref C)) (hdb : (x == ("__debug__" : Str)) = false := by decide) : PE X (.Call (.Name x p) [] [] pos) (tMk0 C) := by
  refine ⟨fun pins s σ H Q I h => wpAny_Call_Name_kw (ld_glob I hg hm ?_ hdb)⟩
  refine PySem.W.callWith_K0 I.kIn T.keep ?_
  refine T.does I.kIn (fun h' e t kp new he => ?_)
  obtain ⟨hp, g, dr, tk, os⟩ := s
  exact ⟨.ref e, _, I.laid (t' := tk) kp new (exo_ok he), rfl, h e (I.hok.fresh new)⟩
/-- X(f = e) | X(f2 = e2, f = e) -/
theorem pe_mk1k (T : E1 X.K C f) (hr : Room k X.A) (hg : Gl X x) (hm : X.mg x = some (.ref C)) (hk : PK X kws tk) (hall : (backToKw pos (keywordEach kws X.env)).all (·.1.isSome) = true := by rfl) (hks : (backToKw pos (keywordEach kws X.env)).filterMap (·.1) = [f] := by rfl)
    (hdb : (x == ("__debug__" : Str)) = false := by decide) (hpl : ((backTo pos (starEach [] X.env)).any (·.1) || (backToKw pos (keywordEach kws X.env)).any (·.1.isNone)) = false := by rfl) : PE X (.Call (.Name x p) [] kws pos) (tMk1 C f tk) := by
  refine ⟨fun pins s σ H Q I h => wpAny_Call_Name_kw (ld_glob I hg hm ?_ hdb)⟩
  refine PySem.W.callWith_KW0 (h₀ := X.base) I.ok.mod.kin T.keep hall (thn (hk.run pos pins s σ H _ I h) fun us s1 ⟨vs, H1, I1, r, v, ev, q⟩ => ⟨I1.kIn, ?_⟩) hpl
  subst ev
  obtain ⟨u, rfl, ru⟩ := vals1 r
  rw [hks]
  exact run1 T hr I1 ru (.inr ⟨rfl, rfl⟩) q
theorem pe_mk2k (T : E2 X.K C f f2) (hr : Room k X.A) (hg : Gl X x) (hm : X.mg x = some (.ref C)) (hk : PK X kws tk) (hall : (backToKw pos (keywordEach kws X.env)).all (·.1.isSome) = true := by rfl) (hks : (backToKw pos (keywordEach kws X.env)).filterMap (·.1) = [f2, f] := by rfl)
    (hdb : (x == ("__debug__" : Str)) = false := by decide) (hpl : ((backTo pos (starEach [] X.env)).any (·.1) || (backToKw pos (keywordEach kws X.env)).any (·.1.isNone)) = false := by rfl) : PE X (.Call (.Name x p) [] kws pos) (tMk2k C f f2 tk) := by
  refine ⟨fun pins s σ H Q I h => wpAny_Call_Name_kw (ld_glob I hg hm ?_ hdb)⟩
  refine PySem.W.callWith_KW0 (h₀ := X.base) I.ok.mod.kin T.keep hall (thn (hk.run pos pins s σ H _ I h) fun us s1 ⟨vs, H1, I1, r, v, v2, ev, q⟩ => ⟨I1.kIn, ?_⟩) hpl
  subst ev
  obtain ⟨u2, u, rfl, ru2, ru⟩ := vals2 r
  rw [hks]
  exact run2 T hr I1 ru ru2 (.inr ⟨rfl, rfl⟩) q
end

/-- what a class says, so that its errors are read and asked rightly -/
structure EA (K : W.Frag) (C : Addr) : Prop where
  ga : W.findIn K (.ref C) "__getattribute__" = some (some (.builtin "BaseException.__getattribute__"))
  gg : W.findIn K (.ref C) "__getattr__" = some none
  exC : W.subIn K (.ref C) (.type "BaseException") = some true
  hd : W.hasDictIn K C = true
  cl : W.findIn K (.ref C) "__class__" = some (some (.builtin "object.__class__"))
  ob : W.mroIn K C (.type "object") = some true
  gt : W.specialIn K (.builtin "object.__class__") "__get__" = some (some (.builtin "getset_descriptor.__get__"))
  tk : W.takesIn K (.builtin "object.__class__") = some true
section
variable {X : Cx} {o : Expr} {to : TE} {f : Str} {pos : Pos}
/-- o.f, o an own error -/
def tEf (K : W.Frag) (f : Str) (to : TE) : TE := fun σ H Q => to σ H fun x H1 => ∃ (e C d : Addr) (fs : List (Str × V)) (v : V), x = .ref e ∧ EA K C ∧ W.findIn K (.ref C) f = some none ∧ H1 e = some (exo e C (some d)) ∧ H1 d = some (exd d fs) ∧ fs.lookup f = some v ∧ Q v H1
theorem pe_ef (he : PE X o to) (hb : attributeBase o f X.env (eval o X.env) = eval o X.env := by rfl) : PE X (.Attribute o f pos) (tEf X.K f to) := by
  refine ⟨fun pins s σ H Q I h => ?_⟩
  refine attr_of hb (thn (he.run pins s σ H _ I h) fun u s1 ⟨x, H1, I1, rx, e, C, d, fs, v, ex, T, nf, h1, h2, l, q⟩ => ?_)
  subst ex
  obtain rfl : u = Value.ref e := rx
  obtain ⟨t1, ho⟩ := exo_at I1.hok h1
  obtain ⟨mA, hn, rel⟩ := exd_at I1.hok h2
  obtain ⟨od, hod, lk⟩ := lookIn_ns hn
  obtain ⟨u, hu, ru⟩ := RelO.some_of (v := v) (o := mA f) (by rw [← l]; exact rel f)
  have J : PySem.W.InstAt s1.heap e { cls := .ref C, dict := some d, data := .fields #[.ref t1, .none, .none, .none, .bool false, .none] } C (some od) := ⟨ho, rfl, rfl, hod⟩
  exact HandSPX.exc_get I1.kIn J T.ga T.gg T.exC (PySem.W.findObj_own T.hd nf rfl (by rw [lk, hu])) (handed_of ru) ⟨v, H1, I1.tok _, ru, q⟩
/-- isinstance(e, c), e an own error that is tracked -/
def rIsX (K : W.Frag) : List V → Hp → VK → Prop := fun xs H Q => ∃ (e C : Addr) (d : Option Addr) (c : V) (u : Value) (b : Bool), xs = [.ref e, c] ∧ H e = some (exo e C d) ∧ (∀ dx, d = some dx → ∃ fs, H dx = some (exd dx fs)) ∧ EA K C ∧ ClsV c u ∧ W.kitOne K (.ref C) u = some b ∧ Q (.bl b) H
theorem call_isX : CallR X (.builtin "isinstance") (rIsX X.K) := by
  intro pins s σ H xs us Q I r h
  obtain ⟨e, C, d, c, cu, b, rfl, h1, h2, T, hc, hk, q⟩ := h
  obtain ⟨u1, u2, rfl, r1, r2⟩ := vals2 r
  have e2 := hc.eq r2
  subst e2
  obtain rfl : u1 = Value.ref e := r1
  obtain ⟨t1, ho⟩ := exo_at I.hok h1
  have cl : (PySem.W.clsIn X.K C).isSome = true := by
    obtain ⟨cd, z, _⟩ := PySem.W.any_some T.hd
    rw [z]
    rfl
  have go : ∀ od, PySem.W.InstAt s.heap e { cls := .ref C, dict := d, data := .fields #[.ref t1, .none, .none, .none, .bool false, .none] } C od → wpAny (model X.prog X.w) X.A (call (.builtin "isinstance") [.ref e, u2]) (EP X pins σ Q) X.xe s := fun od J =>
    PySem.W.kia_one (PySem.W.kitx_exc cl T.ga T.gg T.exC T.cl T.gt T.tk T.ob) I.kIn J hk (fun z => nomatch z) fun tk => ⟨.bl b, H, I.tok tk, rfl, q⟩
  cases d with
  | none => exact go none ⟨ho, rfl, rfl, trivial⟩
  | some dx =>
    obtain ⟨fs, hx⟩ := h2 dx rfl
    obtain ⟨mA, hn, _⟩ := exd_at I.hok hx
    obtain ⟨od, hod, _⟩ := lookIn_ns hn
    exact go (some od) ⟨ho, rfl, rfl, hod⟩
end

/-! ### from the text's facts -/
section
variable {K : W.Frag} {C fI : Addr} {B newId initId : String} {bmB : List Value} {fs : List Str} {f f2 qual : Str} {params : Arguments} {oc dV kV doc pm cdv ct : Value} {an od : Option Addr} {osl : Array (Option Value)} {q1 q2 q3 q4 r1 r2 r3 r4 : Pos}
theorem e1_of (T : EC K C fI B newId initId bmB fs) (ht : f ∈ fs) (code : W.codeIn K cdv qual = true)
    (at_ : K.lookup fI = some ⟨oc, od, .func (W.fnOf "__init__" qual params (iBody1 f q1 q2 q3 q4) (iScope ["self", f]) dV kV doc pm an cdv ct), osl⟩)
    (bp : ∀ x v, bindArgs (W.fnOf "__init__" qual params (iBody1 f q1 q2 q3 q4) (iScope ["self", f]) dV kV doc pm an cdv ct) ⟨[x, v], []⟩ = pure [(("self" : Str), x), (f, v)])
    (bk : ∀ x v, bindArgs (W.fnOf "__init__" qual params (iBody1 f q1 q2 q3 q4) (iScope ["self", f]) dV kV doc pm an cdv ct) ⟨[x], [(f, v)]⟩ = pure [(("self" : Str), x), (f, v)])
    (h1 : ("self" == f) = false := by decide) (h2 : (f == ("__debug__" : Str)) = false := by decide) (h3 : (f == ("self" : Str)) = false := by decide) : E1 K C f where
  keep := T.keep
  does := by
    intro prog w A R s us kw v h X lim room hq
    have hz : us.length ≤ sizeLine := by
      rcases h with ⟨rfl, _⟩ | ⟨rfl, _⟩
      · show 1 ≤ sizeLine
        decide
      · exact Nat.zero_le _
    refine made_by T X hz room (fun A' s' x t0 R' kp hx nx room' fin => ?_) hq
    refine init1 T (X.keeps kp) (lim.keeps kp) hx room' at_ code ?_ ht h1 h2 h3 fin
    rcases h with ⟨rfl, rfl⟩ | ⟨rfl, rfl⟩
    · exact .of_eq (bp _ _)
    · exact .of_eq (bk _ _)
theorem e2_of (T : EC K C fI B newId initId bmB fs) (ht : f ∈ fs) (ht2 : f2 ∈ fs) (code : W.codeIn K cdv qual = true)
    (at_ : K.lookup fI = some ⟨oc, od, .func (W.fnOf "__init__" qual params (iBody2 f f2 q1 q2 q3 q4 r1 r2 r3 r4) (iScope ["self", f, f2]) dV kV doc pm an cdv ct), osl⟩)
    (bp : ∀ x v v2, bindArgs (W.fnOf "__init__" qual params (iBody2 f f2 q1 q2 q3 q4 r1 r2 r3 r4) (iScope ["self", f, f2]) dV kV doc pm an cdv ct) ⟨[x, v, v2], []⟩ = pure [(("self" : Str), x), (f, v), (f2, v2)])
    (bk : ∀ x v v2, bindArgs (W.fnOf "__init__" qual params (iBody2 f f2 q1 q2 q3 q4 r1 r2 r3 r4) (iScope ["self", f, f2]) dV kV doc pm an cdv ct) ⟨[x], [(f2, v2), (f, v)]⟩ = pure [(("self" : Str), x), (f, v), (f2, v2)])
    (h1 : ("self" == f) = false := by decide) (h2 : (f == ("__debug__" : Str)) = false := by decide) (h3 : (f == ("self" : Str)) = false := by decide) (h4 : ("self" == f2) = false := by decide) (h5 : (f2 == ("__debug__" : Str)) = false := by decide)
    (h6 : (f2 == ("self" : Str)) = false := by decide) (h7 : (f2 == f) = false := by decide) : E2 K C f f2 where
  keep := T.keep
  does := by
    intro prog w A R s us kw v v2 h X lim room hq
    have hz : us.length ≤ sizeLine := by
      rcases h with ⟨rfl, _⟩ | ⟨rfl, _⟩
      · show 2 ≤ sizeLine
        decide
      · exact Nat.zero_le _
    refine made_by T X hz room (fun A' s' x t0 R' kp hx nx room' fin => ?_) hq
    refine init2 T (X.keeps kp) (lim.keeps kp) hx room' nx at_ code ?_ ht ht2 h1 h2 h3 h4 h5 h6 h7 fin
    rcases h with ⟨rfl, rfl⟩ | ⟨rfl, rfl⟩
    · exact .of_eq (bp _ _ _)
    · exact .of_eq (bk _ _ _)
theorem e0_of (F : ExcBaseFacts B newId initId bmB) (hi : W.findIn K (.ref C) "__init__" = some (some (.builtin initId))) (q : W.excInitIn K C bmB newId = true) (kp : W.keepIn K (.ref C) = true) : E0c K C where
  keep := kp
  does := by
    intro prog w A E Q s X hq
    obtain ⟨nm, N, qn, bs, bm, hdct, sn, sub, ab, col, dd, k0, k1, k2, k3, k5, hC, hT⟩ := W.excInit_of X q
    obtain ⟨hp, g, dr, tk, os⟩ := s
    exact W.call_B F hT hC (W.looks_findIn X hi) (Nat.zero_le _) (fun h' k he _ => hq h' _ _ k (Nat.le_succ _) he)
end
end Ge

set_option Elab.async false
set_option linter.all false
set_option maxRecDepth 100000
set_option maxHeartbeats 4000000
/-! Rules that want no types told; a def by its name. -/
namespace Gd
open PySem PySem.Spec L2
section
variable {X : Cx}
theorem op_addA : OpR X (binaryOp .Add) (fun x y H Q => (rI0 (fun i j => .int (i + j)) x y H Q) ∨ (∃ i j, x = .str i ∧ y = .str j ∧ i.length + j.length ≤ sizeLine ∧ Q (.str (i ++ j)) H) ∨ rCat x y H Q) := op_add.or (op_add_str.or op_cat)
theorem op_mulA : OpR X (binaryOp .Mult) (fun x y H Q => (rI CMulW (fun i j => .int (i * j)) x y H Q) ∨ rRep x y H Q) := op_mulW.or op_rep
theorem op_eqA {k : Nat} (hr : Room k X.A) : OpR X (compareOp .Eq) (fun x y H Q => rEq x y H Q ∨ rEqD X.K x y H Q) := op_eq.or (op_eqD hr.units)
theorem op_neA {k : Nat} (hr : Room k X.A) : OpR X (compareOp .NotEq) (fun x y H Q => rNe x y H Q ∨ rNeD X.K x y H Q) := op_ne.or (op_neD hr.units)
theorem call_lenA : CallR X (.builtin "len") (fun xs H Q => (∃ p ys, xs = [.ref p] ∧ (SqL X.K H p ys ∨ SqT X.K H p ys) ∧ Q (.int ys.length) H) ∨ (∃ z, xs = [.str z] ∧ z.length ≤ sizeLine ∧ Q (.int z.length) H)) := call_len_seq.or call_len_str
end
/-- the written part, told by a letter of its own -/
structure IsK (K : W.Frag) : Prop where
  t : True
section
variable {X : Cx} {K : W.Frag}
theorem ixK (_ : IsK K) (h : X.K = K := by rfl) : IxR X (rIx K) := h ▸ ix_seq
theorem inK (_ : IsK K) (h : X.K = K := by rfl) : OpR X (compareOp .In) (rIn K false) := h ▸ op_in_seq
theorem niK (_ : IsK K) (h : X.K = K := by rfl) : OpR X (compareOp .NotIn) (rIn K true) := h ▸ op_notIn_seq
theorem eqK (_ : IsK K) {k : Nat} (hr : Room k X.A) (h : X.K = K := by rfl) : OpR X (compareOp .Eq) (fun x y H Q => rEq x y H Q ∨ rEqD K x y H Q) := h ▸ op_eqA hr
theorem neK (_ : IsK K) {k : Nat} (hr : Room k X.A) (h : X.K = K := by rfl) : OpR X (compareOp .NotEq) (fun x y H Q => rNe x y H Q ∨ rNeD K x y H Q) := h ▸ op_neA hr
def rLenK (K : W.Frag) : List V → Hp → VK → Prop := fun xs H Q => (∃ p ys, xs = [.ref p] ∧ (SqL K H p ys ∨ SqT K H p ys) ∧ Q (.int ys.length) H) ∨ (∃ z, xs = [.str z] ∧ z.length ≤ sizeLine ∧ Q (.int z.length) H)
theorem lenK (_ : IsK K) (h : X.K = K := by rfl) : CallR X (.builtin "len") (rLenK K) := h ▸ call_lenA
theorem allK (_ : IsK K) (hc : X.calm = true) (h : X.K = K := by rfl) : CallR X (.builtin "all") (rAll K) := h ▸ cr_all hc
def rTupK (K : W.Frag) : List V → Hp → VK → Prop := fun xs H Q => ∃ p ys, xs = [.ref p] ∧ ((SqL K H p ys ∧ ∀ l, H l = none → Q (.ref l) (upd H l (.tup ys))) ∨ (SqT K H p ys ∧ Q (.ref p) H))
theorem tupK (_ : IsK K) (h : X.K = K := by rfl) : CallR X (.type "tuple") (rTupK K) := h ▸ call_tuple_of
theorem isXK (_ : IsK K) (h : X.K = K := by rfl) : CallR X (.builtin "isinstance") (Ge.rIsX K) := h ▸ Ge.call_isX
theorem efK (_ : IsK K) {o : Expr} {to : TE} {f : Str} {pos : Pos} (he : PE X o to) (hb : attributeBase o f X.env (eval o X.env) = eval o X.env := by rfl) (h : X.K = K := by rfl) : PE X (.Attribute o f pos) (Ge.tEf K f to) := h ▸ Ge.pe_ef he hb
theorem listK (_ : IsK K) {tg l : Expr} {tl : TE} (hl : PE X l tl) (h : X.K = K := by rfl) : PI X tg l (iList K tl) := h ▸ pi_list hl
theorem tupiK (_ : IsK K) {tg l : Expr} {tl : TE} (hl : PE X l tl) (h : X.K = K := by rfl) : PI X tg l (iTup K tl) := h ▸ pi_tup hl
def rJoinK (K : W.Frag) : V → List V → Hp → VK → Prop := fun x xs H Q => ∃ a p, ∃ ys : List Str, x = .str a ∧ xs = [.ref p] ∧ (SqL K H p (ys.map V.str) ∨ SqT K H p (ys.map V.str)) ∧ (ys.map (·.length)).sum + ys.length * a.length ≤ 16777216 ∧ Q (.str (Txt.join a ys)) H
theorem joinK (_ : IsK K) {o e : Expr} {to te : TE} {apos pos : Pos} (ho : PE X o to) (he : PE X e te) (hs : starEach [e] X.env = [(false, eval e X.env)] := by rfl) (hbase : attributeBase o "join" X.env (eval o X.env) = eval o X.env := by rfl) (hline : (apos.endLine == pos.line) = true := by rfl) (h : X.K = K := by rfl) :
    PE X (.Call (.Attribute o "join" apos) [e] [] pos) (tM1 (rJoinK K) to te) := h ▸ pe_join ho he hs hbase hline
end
structure Frees (mg : Str → Option Value) : Prop where
  h : ∀ x, frees.contains x = true → mg x = none
/-- names of the module's own objects -/
structure Globs (K : W.Frag) (names : List Str) (mg : Str → Option Value) : Prop where
  h : ∀ x, names.contains x = true → mg x = some (.ref (He.ga K x))
/-- a def by its name: somewhere, keeping sp at level k, wherever it is called | where no repr is under way -/
def Dn (P : Program) (w : World) (K : W.Frag) (mg : Str → Option Value) (base : Heap) (CX : CXT) (k : Nat) (x : Str) (ps : List Str) (sp : Sp) : Prop :=
  ∃ f fd, FnOk P w K mg base CX k f fd ps sp ∧ mg x = some (.ref f) ∧ W.keepIn K (.ref f) = true ∧ Binds K fd ps []
def DnG (P : Program) (w : World) (K : W.Frag) (mg : Str → Option Value) (base : Heap) (k : Nat) (x : Str) (ps : List Str) (sp : Sp) : Prop :=
  ∃ f fd, FnG P w K mg base CX0 k f fd ps sp ∧ mg x = some (.ref f) ∧ W.keepIn K (.ref f) = true ∧ Binds K fd ps []
section
variable {X : Cx} {j k : Nat} {x : Str} {ps : List Str} {sp : Sp} {p pos : Pos} {e : Expr} {es : List Expr} {t : TA}
theorem pe_dn (D : Dn X.prog X.w X.K X.mg X.base CX0 j x ps sp) (hr : Room k X.A) (hg : Gl X x) (hj : j ≤ k) (ha : PA X (e :: es) t) (hdb : (x == ("__debug__" : Str)) = false := by decide)
    (he : starEach (e :: es) X.env = (false, eval e X.env) :: starEach es X.env := by rfl) (hpl : (backTo pos (starEach es X.env)).any (·.1) = false := by rfl) : PE X (.Call (.Name x p) (e :: es) [] pos) (tCall sp [] E0 t) := by
  obtain ⟨f, fd, F, hm, hk, hb⟩ := D
  exact pe_call F (hr.mono hj) hg hm hk hb .nil pass0 ha hdb he hpl
theorem pe_dnG (D : DnG X.prog X.w X.K X.mg X.base j x ps sp) (hG : Bare X.A) (hr : Room k X.A) (hg : Gl X x) (hj : j ≤ k) (ha : PA X (e :: es) t) (hdb : (x == ("__debug__" : Str)) = false := by decide)
    (he : starEach (e :: es) X.env = (false, eval e X.env) :: starEach es X.env := by rfl) (hpl : (backTo pos (starEach es X.env)).any (·.1) = false := by rfl) : PE X (.Call (.Name x p) (e :: es) [] pos) (tCall sp [] E0 t) := by
  obtain ⟨f, fd, F, hm, hk, hb⟩ := D
  exact pe_callG hG F (hr.mono hj) hg hm hk hb .nil pass0 ha hdb he hpl
end

/-! ### the pot -/
/-- at p the pot: what is left of the cell, and the mixed number -/
def Pot (H : Hp) (p : Addr) : Prop := ∃ a b : Int, H p = some (.lst [.int a, .int b]) ∧ 0 ≤ a ∧ 0 ≤ b ∧ b < 2147483648
/-- all but p stands, at p the pot -/
def Kp (p : Addr) (H H' : Hp) : Prop := (∀ b o, b ≠ p → H b = some o → H' b = some o) ∧ Pot H' p
theorem Kp.refl {p : Addr} {H : Hp} (h : Pot H p) : Kp p H H := ⟨fun _ _ _ h => h, h⟩
theorem Kp.trans {p : Addr} {H H1 H2 : Hp} (a : Kp p H H1) (b : Kp p H1 H2) : Kp p H H2 := ⟨fun c o n h => b.1 c o n (a.1 c o n h), b.2⟩
theorem Pot.there {p : Addr} {H : Hp} (h : Pot H p) : ∃ o, H p = some o := let ⟨_, _, e, _⟩ := h; ⟨_, e⟩
theorem Pot.new {p q : Addr} {H : Hp} {o : HO} (h : Pot H p) (n : H q = none) : Pot (upd H q o) p := by
  obtain ⟨a, b, e, r⟩ := h
  exact ⟨a, b, by rw [upd_ne (ne_of_none e n)]; exact e, r⟩
theorem Kp.new {p q : Addr} {H : Hp} {o : HO} (h : Pot H p) (n : H q = none) : Kp p H (upd H q o) := ⟨fun b u _ e => by rw [upd_ne (ne_of_none e n)]; exact e, h.new n⟩
theorem Kp.put {p : Addr} {H : Hp} {a b : Int} (h0 : 0 ≤ a) (h2 : 0 ≤ b) (h3 : b < 2147483648) : Kp p H (upd H p (.lst [.int a, .int b])) := ⟨fun c o n e => by rw [upd_ne n]; exact e, a, b, upd_same, h0, h2, h3⟩
theorem Kp.at {p q : Addr} {H H' : Hp} {o : HO} (k : Kp p H H') (n : q ≠ p) (h : H q = some o) : H' q = some o := k.1 q o n h
theorem Kp.seq {K : W.Frag} {p q : Addr} {H H' : Hp} {xs : List V} (k : Kp p H H') (n : q ≠ p) (h : SqL K H q xs) : SqL K H' q xs := by
  rcases h with (h | ⟨o, h⟩) | h
  · exact .inl (.inl (k.1 _ _ n h))
  · exact .inl (.inr ⟨o, k.1 _ _ n h⟩)
  · exact .inr h
theorem Kp.gone {p q : Addr} {H H' : Hp} (k : Kp p H H') (n : q ≠ p) (h : H' q = none) : H q = none := by
  cases z : H q with
  | none => rfl
  | some o => rw [k.1 q o n z] at h; cases h
theorem Kp.over {p q : Addr} {H H' : Hp} {o : HO} (k : Kp p H H') (n : q ≠ p) (h : H q = none) : Kp p H (upd H' q o) := by
  refine ⟨fun b u nb e => ?_, ?_⟩
  · rw [upd_ne (ne_of_none e h)]
    exact k.1 b u nb e
  · obtain ⟨a, b, e, r⟩ := k.2
    exact ⟨a, b, by rw [upd_ne (Ne.symm n)]; exact e, r⟩
theorem Kp.pot {p : Addr} {H H' : Hp} (k : Kp p H H') : Pot H' p := k.2
theorem ne_pot {p q : Addr} {H : Hp} (h : Pot H p) (n : H q = none) : q ≠ p := fun e => by
  obtain ⟨o, z⟩ := h.there
  rw [← e, n] at z
  cases z
theorem ix0 {K : W.Frag} {H : Hp} {p : Addr} {a b : Int} {Q : VK} (h : H p = some (.lst [.int a, .int b])) (q : Q (.int a) H) : rIx K (.ref p) (.int 0) H Q := .inl ⟨p, _, 0, _, rfl, rfl, SqL.of h, rfl, q⟩
theorem ix1 {K : W.Frag} {H : Hp} {p : Addr} {a b : Int} {Q : VK} (h : H p = some (.lst [.int a, .int b])) (q : Q (.int b) H) : rIx K (.ref p) (.int 1) H Q := .inl ⟨p, _, 1, _, rfl, rfl, SqL.of h, rfl, q⟩
theorem log_lt {n : Int} (h : n.natAbs < 2 ^ 80) : n.natAbs.log2 < 80 := by
  by_cases z : n.natAbs = 0
  · rw [z]
    decide
  · exact (Nat.log2_lt z).mpr h
theorem mulW {i j : Int} (hi : i.natAbs < 2 ^ 80) (hj : j.natAbs < 2 ^ 80) : CMulW i j := by
  have a := log_lt hi
  have b := log_lt hj
  show i.natAbs.log2 + j.natAbs.log2 < 1000000
  omega
theorem divW {i j : Int} (h0 : 0 < j) (h : j.natAbs < 2 ^ 80) : CDivW i j := ⟨h0, by have := log_lt h; omega⟩
theorem ne_of_none' {H : Hp} {a b : Addr} {o : HO} (h : H a = some o) (h' : H b = none) : b ≠ a := fun e => ne_of_none h h' e.symm
theorem atI_int {α : Type} {xs : List α} {i : Int} {x : α} (h0 : 0 ≤ i) (h : xs[i.toNat]? = some x) : atI xs i = some x := by
  have e : ((i.toNat : Nat) : Int) = i := Int.toNat_of_nonneg h0
  have z := atI_nat h
  rw [e] at z
  exact z
/-- draw(pot, sides) -/
def spDraw : Sp := fun vs H Q _ => ∃ (p : Addr) (n : Int), vs = [.ref p, .int n] ∧ Pot H p ∧ 0 < n ∧ n ≤ 1000000000 ∧ ∀ (d : Int) (H' : Hp), 0 ≤ d → d < n → Kp p H H' → Q (.int d) H'
/-- pick(pot, some) -/
def spPick (K : W.Frag) : Sp := fun vs H Q _ => ∃ (p l : Addr) (xs : List V), vs = [.ref p, .ref l] ∧ Pot H p ∧ l ≠ p ∧ SqL K H l xs ∧ xs ≠ [] ∧ xs.length ≤ 1000000 ∧ ∀ (x : V) (H' : Hp), x ∈ xs → Kp p H H' → Q x H'
/-- pot(script, k) -/
def spPot (K : W.Frag) : Sp := fun vs H Q _ => ∃ (a : Addr) (ns : List Int) (k : Int), vs = [.ref a, .int k] ∧ SqL K H a (ns.map V.int) ∧ 0 ≤ k ∧ k < 100 ∧ ∀ (p : Addr) (H' : Hp), H p = none → Same H H' → Pot H' p → Q (.ref p) H'
/-- a short plain text -/
def Sm (n : Nat) (x : Str) : Prop := x.length ≤ n ∧ ∀ c ∈ x.cps.toList, c < 1000
theorem Sm.repr {n : Nat} {x : Str} (h : Sm n x) : (reprText x).length ≤ 10 * n + 2 := by
  have z := StrLaws.reprText_len x (fun c hc => Nat.lt_of_lt_of_le (h.2 c hc) (by decide))
  have := h.1
  omega
/-- named(pot, 1, []) -/
def spNamed (K : W.Frag) : Sp := fun vs H Q _ => ∃ (p t : Addr), vs = [.ref p, .int 1, .ref t] ∧ Pot H p ∧ t ≠ p ∧ SqL K H t [] ∧ ∀ (r : Addr) (x : Str) (H' : Hp), H' r = some (.lst [.str x]) → Sm 8 x → Kp p H H' → Q (.ref r) H'
/-- far(pot) -/
def spFar : Sp := fun vs H Q _ => ∃ p : Addr, vs = [.ref p] ∧ Pot H p ∧ ∀ (n : Int) (H' : Hp), n.natAbs < 2 ^ 200 → Kp p H H' → Q (.int n) H'
end Gd

set_option Elab.async false
set_option linter.all false
set_option maxRecDepth 100000
set_option maxHeartbeats 4000000
/-! Own errors raised; a try of several clauses with a name; what is asked of the held error. -/
namespace Gx
open PySem PySem.Spec PyProof.Rows L2 Ge
section
variable {X : Cx} {pins : List (Addr × Obj)} {σ : L2.St} {H : Hp} {s : Shared} {Q : XK} {C e d : Addr} {fs : List (Str × V)} {h' : Heap} {tk : Nat} {m : Str → Option Value}
/-- the heap without the error, its dict told -/
abbrev leftH (H : Hp) (C e d : Addr) (fs : List (Str × V)) : Hp := upd (del (withErr H C e d fs) e) d (.xd fs)
theorem mkp_made (T : Raises X (.ref C)) (I : Inv X pins σ H s) (M : Made s.heap h' e C d m) (r : ∀ y, RelO (fs.lookup y) (m y)) (q : Q (.ref C) (some d) (leftH H C e d fs)) : L2.MkP X pins σ Q (.ref e) { s with heap := h', toks := tk } := by
  obtain ⟨ne, nd, J⟩ := Inv.err (tk := tk) I M r
  have be : ∀ {b : Addr} {o : Obj}, s.heap.get? b = some o → b ≠ e := fun q => Nat.ne_of_lt (Nat.lt_of_lt_of_le (Heap.lt_size q) M.new)
  have bd : ∀ {b : Addr} {o : Obj}, s.heap.get? b = some o → b ≠ d := fun q => Nat.ne_of_lt (Nat.lt_of_lt_of_le (Heap.lt_size q) M.dbig)
  have keepH : ∀ {b : Addr} {o : HO}, H b = some o → withErr H C e d fs b = some o := fun q => by
    show upd (upd H d _) e _ _ = _
    rw [upd_ne (ne_of_none q ne), upd_ne (ne_of_none q nd)]
    exact q
  have offH : ∀ {b : Addr} {o u : HO}, upd H e o b = some u → b ≠ e → H b = some u := fun z n => by rwa [upd_ne n] at z
  obtain ⟨hp, g, dr, t0, os⟩ := s
  refine mk_end T I M.new (fun _ _ q => q) { keep := fun b o q _ _ _ => M.keep b o q, slot := fun b o q _ _ _ => ⟨o.slots, M.keep b o q⟩, free := fun b o q n _ => ?_, there := fun b o q _ => ⟨o, M.keep b o q⟩, tups := fun b xs q => ?_, frzs := fun b o u q => ?_, tbls := fun b ps q => ?_ } J.hok rfl I.bare upd_same ?_ nd q
  · show upd (upd H d _) e _ b = none
    rw [upd_ne (be q)] at n
    rw [upd_ne (be q), upd_ne (bd q)]
    exact n
  · have n : b ≠ e := fun z => by
      rw [z, upd_same] at q
      exact exo_tup (Option.some.inj q)
    exact keepH (offH q n)
  · have n : b ≠ e := fun z => by
      rw [z, upd_same] at q
      exact exo_frz (Option.some.inj q)
    exact keepH (offH q n)
  · have n : b ≠ e := fun z => by
      rw [z, upd_same] at q
      exact exo_tbl (Option.some.inj q)
    exact ⟨#[], (keepH (offH q n)).trans (by simp)⟩
  · show upd (upd H d _) e _ d = _
    rw [upd_ne M.dne]
    exact upd_same
end
section
variable {X : Cx} {C : Addr} {x f f2 : Str} {e : Expr} {es : List Expr} {ta : TA} {p pos : Pos} {k : Nat}
theorem pmk1 (T : E1 X.K C f) (rs : Raises X (.ref C)) (hr : Room k X.A) (hg : Gl X x) (hm : X.mg x = some (.ref C)) (ha : PA X (e :: es) ta) (hdb : (x == ("__debug__" : Str)) = false := by decide)
    (hs : starEach (e :: es) X.env = (false, eval e X.env) :: starEach es X.env := by rfl) (hpl : (backTo pos (starEach es X.env)).any (·.1) = false := by rfl) :
    L2.PMk X (.Call (.Name x p) (e :: es) [] pos) (fun σ H Q => ta σ H fun vs H1 => ∃ v, vs = [v] ∧ ∀ a d, H1 a = none → H1 d = none → d ≠ a → Q (.ref C) (some d) (leftH H1 C a d [(f, v)])) := by
  intro pins s σ H Q I h
  refine wpAny_Call_Name_kw (ld_glob I hg hm ?_ hdb)
  refine PySem.W.callWith_K (h₀ := X.base) I.ok.mod.kin T.keep (thn (ha.run pos pins s σ H _ I h) fun us s1 ⟨vs, H1, I1, r, v, ev, q⟩ => ⟨I1.kIn, ?_⟩) hs hpl
  subst ev
  obtain ⟨u, rfl, ru⟩ := vals1 r
  refine wpAny_call (T.does (.inl ⟨rfl, rfl⟩) I1.kIn I1.nolimit (by have := hr.dp; omega) (fun h' tk a d M => ?_))
  have z := Inv.err (tk := tk) I1 M (relO_one ru f)
  exact mkp_made rs I1 M (relO_one ru f) (q a d z.1 z.2.1 M.dne)
theorem pmk2 (T : E2 X.K C f f2) (rs : Raises X (.ref C)) (hr : Room k X.A) (hg : Gl X x) (hm : X.mg x = some (.ref C)) (ha : PA X (e :: es) ta) (hdb : (x == ("__debug__" : Str)) = false := by decide)
    (hs : starEach (e :: es) X.env = (false, eval e X.env) :: starEach es X.env := by rfl) (hpl : (backTo pos (starEach es X.env)).any (·.1) = false := by rfl) :
    L2.PMk X (.Call (.Name x p) (e :: es) [] pos) (fun σ H Q => ta σ H fun vs H1 => ∃ v v2, vs = [v, v2] ∧ ∀ a d, H1 a = none → H1 d = none → d ≠ a → Q (.ref C) (some d) (leftH H1 C a d [(f2, v2), (f, v)])) := by
  intro pins s σ H Q I h
  refine wpAny_Call_Name_kw (ld_glob I hg hm ?_ hdb)
  refine PySem.W.callWith_K (h₀ := X.base) I.ok.mod.kin T.keep (thn (ha.run pos pins s σ H _ I h) fun us s1 ⟨vs, H1, I1, r, v, v2, ev, q⟩ => ⟨I1.kIn, ?_⟩) hs hpl
  subst ev
  obtain ⟨u, u2, rfl, ru, ru2⟩ := vals2 r
  refine wpAny_call (T.does (.inl ⟨rfl, rfl⟩) I1.kIn I1.nolimit (by have := hr.dp; omega) (fun h' tk a d M => ?_))
  have z := Inv.err (tk := tk) I1 M (relO_two ru ru2 f f2)
  exact mkp_made rs I1 M (relO_two ru ru2 f f2) (q a d z.1 z.2.1 M.dne)
theorem pmk0 (T : E0c X.K C) (rs : Raises X (.ref C)) (hg : Gl X x) (hm : X.mg x = some (.ref C)) (hdb : (x == ("__debug__" : Str)) = false := by decide) :
    L2.PMk X (.Call (.Name x p) [] [] pos) (fun _ H Q => Q (.ref C) none H) := by
  intro pins s σ H Q I h
  refine wpAny_Call_Name_kw (ld_glob I hg hm ?_ hdb)
  refine PySem.W.callWith_K0 I.kIn T.keep ?_
  refine T.does I.kIn (fun h' a t kp new he => ?_)
  obtain ⟨hp, g, dr, tk, os⟩ := s
  have gone : hp.get? a = none := by
    cases z : hp.get? a with
    | none => rfl
    | some o => exact absurd (Heap.lt_size z) (Nat.not_lt.mpr new)
  exact ⟨a, _, _, ⟨hp, g, dr, tk, os⟩, H, .ref C, none, rfl, I, kp, gone, he, ⟨rfl, rfl⟩, rfl, rfl, I.hok.fresh new, rfl, I.bare, rs, h⟩
end

/-! ### try: body, several clauses 'except x as n' -/
/-- what the clauses wish, one after the other -/
def wMAs (K : PySem.W.Frag) (i : Nat) (Wout : WX) (D : Ends) : List (Value × (Addr → Value → Option Addr → TS)) → WX
  | [] => Wout
  | (c, ts) :: r => wAs K c i ts (wMAs K i Wout D r) D
inductive HdsAs (X : Cx) (n : Str) : List ExceptHandler → List (Value × (Addr → Value → Option Addr → TS)) → Prop
  | nil : HdsAs X n [] []
  | cons {x : Str} {c : Value} {ts : Addr → Value → Option Addr → TS} {b₀ : Stmt} {suite : List Stmt} {np pos' : Pos} {hds : List ExceptHandler} {l : List (Value × (Addr → Value → Option Addr → TS))} (hc : Names X x c)
      (hsu : ∀ (a : Addr) (oe : Obj) (cls : Value) (d : Option Addr) (pn : List (Addr × Obj)), Zc cls d oe → (∃ vs, oe.data = .fields vs) → PSs (X.suite a ((a, oe) :: pn)) (b₀ :: suite) (ts a cls d)) (r : HdsAs X n hds l) :
      HdsAs X n (.ExceptHandler (some (.Name x np)) (some n) (b₀ :: suite) pos' :: hds) ((c, ts) :: l)
section
variable {X : Cx} {n : Str} {i : Nat} {body : List Stmt} {pos : Pos} {tb : WX → TS} {Wout : WX} {pins : List (Addr × Obj)} {D : Ends}
/-- the clauses are gone through with the error at a on the ground -/
theorem hands_go {a : Addr} {B : Heap} {sI s' : Shared} {σ' : L2.St} {H' : Hp} {cls : Value} {d : Option Addr} {h3 : Heap} (hs : X.stack = X.env :: X.outer) (hf : X.env.frame = some X.env.locals) (hN : X.N.Nodup) (hi : X.N[i]? = some n) (hln : X.env.kindOf n = some .local)
    (tk : Takes X Wout) (ok : X.Ok) (J : Inv X pins σ' H' sI) (nb : ∀ b o, sI.heap.get? b = some o → b ∉ frs X.stack → B.get? b = some o) (up : sI.heap.UpToSlots h3) (fl : HandSPX.FlyingZ B (X.env :: X.outer) a (Zc cls d) h3) (na : H' a = none) (os : s'.os = sI.os) (ag : AllBare s'.gens) :
    ∀ {hds : List ExceptHandler} {l : List (Value × (Addr → Value → Option Addr → TS))}, HdsAs X n hds l → wMAs X.K i Wout D l cls d σ' H' → wpAny (model X.prog X.w) X.A (handleBy (.ref a) X.env hds) (SP X pins D) X.xe { s' with heap := h3 } := by
  have J3 : Inv X pins σ' H' { s' with heap := h3 } := J.landed nb fl.1 up os ag
  obtain ⟨oe, vs, he, hz, hd⟩ := fl.there
  have off : a ∉ frs (X.env :: X.outer) := fun hm => by
    obtain ⟨_, o, e, hnf⟩ := fl.2.2.1.mem hm
    rw [he] at e
    cases e
    exact hnf _ hd
  have nL : a ≠ X.env.locals := fun z => off (List.mem_filterMap.mpr ⟨X.env, List.mem_cons_self, by rw [hf, z]⟩)
  have nF : a ∉ X.fs := fun hm => by
    obtain ⟨e, q, z⟩ := List.mem_filterMap.mp hm
    exact off (List.mem_filterMap.mpr ⟨e, List.mem_cons_of_mem _ q, z⟩)
  intro hds l hk
  induction hk with
  | nil =>
    intro w
    refine wpAny_handleBy_nil ?_
    obtain ⟨_, _, _, o1, v1, T, _, _, e1, _, d1, f1, _⟩ := id fl
    unfold PySem.passOn
    refine wpAny_bind (wpAny_field e1 d1 f1 ?_)
    rw [if_neg (show ¬((Value.ref T == Value.none) = true) from by simp)]
    have out : wpAny (model X.prog X.w) X.A (setFlight (.ref a) X.env.frame) (fun _ s4 => wpAny (model X.prog X.w) X.A (throw (.ref a) : Sem Flow) (SP X pins D) X.xe s4) X.xe { s' with heap := h3 } := by
      rw [hf]
      exact HandSPX.setFlight_upZ fl fun h4 held up4 => wpAny_throw (tk _ _ ⟨a, B, sI, pins, σ', H', cls, d, rfl, J, nb, up.trans up4, .inr (.inr (by rw [hs]; exact held)), na, os, ag, w⟩)
    first
      | exact wpAny_bind (wpAny_pure (wpAny_bind out))
      | exact wpAny_bind out
  | @cons x c ts b₀ suite np pos' hds2 l2 hc hsu r ih =>
    rintro ⟨b, isB, yes, no⟩
    have S3 := J3.suite he hd na nL nF
    refine wpAny_handleBy_cons (codeAny_handlers_test ?_) (by intro q; cases q)
    have LM := PySem.W.exm_one (M := model X.prog X.w) J3.kIn (fun A Q E s k q => wpAny_typeOf_ref (k _ _ he) (by rw [hz.1]; exact q)) isB
    have name : ∀ {Q : Value → Shared → Prop} {E : Value → Shared → Prop}, Q c { s' with heap := h3 } → wpAny (model X.prog X.w) (X.A.mark (some (.ref a))) (eval (.Name x np) X.env) Q E { s' with heap := h3 } := fun {Q E} q => by
      obtain ⟨g, gd, m | ⟨m, v, nn⟩⟩ := hc
      · exact ld_glob (X := X.suite a ((a, oe) :: (X.pn ++ pins))) S3 g m q gd
      · exact ld_blt (X := X.suite a ((a, oe) :: (X.pn ++ pins))) S3 g m v q nn gd
    refine name (LM.here ?_)
    cases b with
    | false =>
      show wpAny _ X.A (handleBy (.ref a) X.env hds2) _ _ _
      exact ih (no rfl)
    | true =>
      refine codeAny_handlers_suite_as (HandSPX.lands_againZ fl fun h4 fl4 up4 => ?_)
      obtain ⟨oe4, vs4, he4, hz4, hd4⟩ := fl4.there
      have J4 : Inv X pins σ' H' { s' with heap := h4 } := J.landed nb fl4.1 (up.trans up4) os ag
      refine store_ok (X := X.suite a ((a, oe4) :: (X.pn ++ pins))) (v := .ref a) (J4.suite he4 hd4 na nL nF) hN hi (.inl hln) rfl (fun s5 S5 => ?_) (.inr hln)
      refine wpAny_mono ((hsu a oe4 cls d (X.pn ++ pins) hz4 ⟨_, hd4⟩).run [] s5 _ H' _ S5 (yes rfl a na)) (fun fl6 s6 hsp => ?_) (fun _ _ z => z.elim)
      have over : ∀ {σ6 : L2.St} {H6 : Hp} {Q : Shared → Prop}, Inv (X.suite a ((a, oe4) :: (X.pn ++ pins))) [] σ6 H6 s6 → (∀ s7, Inv X pins (σ6.set i none) H6 s7 → Q s7) →
          wpAny (model X.prog X.w) X.A (do bindName X.env n .none; unbindBehindTheSuite X.env n pos') (fun _ s7 => Q s7) X.xe s6 := fun S6 q => gone_ok (S6.unsuite ok) hN hi hln q
      cases fl6 with
      | ret u =>
        obtain ⟨v6, σ6, H6, S6, r6, q6⟩ := hsp
        exact over S6 fun s7 J7 => ⟨_, _, _, J7, r6, q6⟩
      | next =>
        obtain ⟨σ6, H6, S6, q6⟩ := hsp
        exact over S6 fun s7 J7 => ⟨_, _, J7, q6⟩
      | brk =>
        obtain ⟨σ6, H6, S6, q6⟩ := hsp
        exact over S6 fun s7 J7 => ⟨_, _, J7, q6⟩
      | cont =>
        obtain ⟨σ6, H6, S6, q6⟩ := hsp
        exact over S6 fun s7 J7 => ⟨_, _, J7, q6⟩
theorem ps_tryAs {h₀ : ExceptHandler} {hds : List ExceptHandler} {l : List (Value × (Addr → Value → Option Addr → TS))} (hs : X.stack = X.env :: X.outer) (hf : X.env.frame = some X.env.locals) (hN : X.N.Nodup) (hi : X.N[i]? = some n) (hln : X.env.kindOf n = some .local) (tk : Takes X Wout)
    (hb : ∀ (W : WX) (pn : List (Addr × Obj)) (xe : Value → Shared → Prop), Takes (X.tr pn xe) W → PSs (X.tr pn xe) body (tb W)) (hh : HdsAs X n (h₀ :: hds) l) :
    PS X (.Try body (h₀ :: hds) [] [] pos) (fun D σ H => tb (wMAs X.K i Wout D l) D σ H) := by
  refine ⟨fun pins s σ H D I h => wpAny_Try_except ?_⟩
  have ok := I.ok
  have hfr : X.A.frames = some (X.env :: X.outer) := by rw [ok.frames, hs]
  have run := (hb (wMAs X.K i Wout D l) (X.pn ++ pins) (fun e s₁ => wpAny (model X.prog X.w) X.A (noteFrame e X.env) (fun _ s₂ => wpAny (model X.prog X.w) X.A (setFlight e none) (fun _ s₃ =>
    wpAny (model X.prog X.w) X.A (handleBy e X.env (h₀ :: hds)) (SP X pins D) X.xe s₃) X.xe s₂) X.xe s₁) (fun u s' xx => by
      obtain ⟨a, B, sI, pins', σ', H', cls, d, rfl, J', nb, up, sky, na, os, ag, w⟩ := xx
      refine Sky.land Zc.steady hfr hf (by rw [← hs]; exact sky) fun h3 fl3 up3 => ?_
      exact hands_go hs hf hN hi hln tk ok (J'.ofTry ok) nb (up.trans up3) fl3 na os ag hh w)).run [] s σ H D (I.toTry _) h
  refine wpAny_mono run (fun f s1 hsp => ?_) (fun e s1 he => he)
  cases f with
  | ret u =>
    obtain ⟨v, σ', H', J', r, q⟩ := hsp
    exact ⟨v, σ', H', J'.ofTry ok, r, q⟩
  | next =>
    obtain ⟨σ', H', J', q⟩ := hsp
    exact wpAny_execs_nil ⟨σ', H', J'.ofTry ok, q⟩
  | brk =>
    obtain ⟨σ', H', J', q⟩ := hsp
    exact ⟨σ', H', J'.ofTry ok, q⟩
  | cont =>
    obtain ⟨σ', H', J', q⟩ := hsp
    exact ⟨σ', H', J'.ofTry ok, q⟩
end

/-! ### the held error -/
/-- isinstance(e, c) | isinstance(e, (c, ..)), e the held one of the class at C -/
def rHeld (K : PySem.W.Frag) (a : Addr) (cls : Value) (d : Option Addr) : List V → Hp → VK → Prop := fun xs H Q => ∃ (C : Addr) (c : V) (b : Bool), xs = [.ref a, c] ∧ cls = .ref C ∧ EA K C ∧ (∀ dx, d = some dx → ∃ fs, H dx = some (.xd fs)) ∧
  ((∃ u, ClsV c u ∧ PySem.W.kitOne K (.ref C) u = some b) ∨ (∃ tp cs us, c = .ref tp ∧ H tp = some (.tup cs) ∧ Paired ClsV cs us ∧ PySem.W.kitAny K (.ref C) us = some b)) ∧ Q (.bl b) H
theorem call_held {X : Cx} {a : Addr} {oe : Obj} {cls : Value} {d : Option Addr} (hp : (a, oe) ∈ X.pn) (z : Zc cls d oe) (hf : ∃ vs, oe.data = .fields vs) : CallR X (.builtin "isinstance") (rHeld X.K a cls d) := by
  intro pins s σ H xs us Q I r h
  obtain ⟨C, c, b, rfl, rfl, T, hd, hc, q⟩ := h
  obtain ⟨u1, u2, rfl, r1, r2⟩ := vals2 r
  obtain rfl : u1 = Value.ref a := r1
  have ho := (I.pin (a, oe) (List.mem_append_left _ hp)).1
  obtain ⟨z1, z2⟩ := z
  have cl : (PySem.W.clsIn X.K C).isSome = true := by
    obtain ⟨cd, z, _⟩ := PySem.W.any_some T.hd
    rw [z]
    rfl
  have go : ∀ od, PySem.W.InstAt s.heap a oe C od → wpAny (model X.prog X.w) X.A (call (.builtin "isinstance") [.ref a, u2]) (EP X pins σ Q) X.xe s := fun od J => by
    rcases hc with ⟨u, hu, hk⟩ | ⟨tp, cs, ws, rfl, ht, k, hk⟩
    · have e2 := hu.eq r2
      subst e2
      exact PySem.W.kia_one (PySem.W.kitx_exc cl T.ga T.gg T.exC T.cl T.gt T.tk T.ob) I.kIn J hk (fun z => nomatch z) fun tk => ⟨.bl b, H, I.tok tk, rfl, q⟩
    · obtain rfl : u2 = Value.ref tp := r2
      obtain ⟨_, its, rv, o, h1, h2, n, h3⟩ := (show ObjOk X.prog X.w H s.heap tp (.tup cs) from I.hok tp _ ht)
      have e3 := ClsV.all k rv
      subst e3
      obtain ⟨oc, od2, dt, sl⟩ := o
      simp only at h2 h3
      subst h2 h3
      exact PySem.W.kia_tup (PySem.W.kitx_exc cl T.ga T.gg T.exC T.cl T.gt T.tk T.ob) I.kIn J h1 hk (fun z => nomatch z) fun tk => ⟨.bl b, H, I.tok tk, rfl, q⟩
  obtain ⟨vs, hv⟩ := hf
  obtain ⟨oc, dd, dt, sl⟩ := oe
  simp only at z1 z2 hv
  subst z1 z2 hv
  cases dd with
  | none => exact go none ⟨ho, rfl, rfl, trivial⟩
  | some dx =>
    obtain ⟨fs, hx⟩ := hd dx rfl
    obtain ⟨mA, hn, _⟩ := (show ObjOk X.prog X.w H s.heap dx (.xd fs) from I.hok dx _ hx)
    obtain ⟨od, hod, _⟩ := lookIn_ns hn
    exact go (some od) ⟨ho, rfl, rfl, hod⟩
/-- repr of a truth -/
def rReprB : List V → Hp → VK → Prop := fun xs H Q => ∃ b : Bool, xs = [.bl b] ∧ Q (.str (if b then "True" else "False")) H
theorem call_reprB {X : Cx} : CallR X (.builtin "repr") rReprB := by
  intro pins s σ H xs us Q I r h
  obtain ⟨b, rfl, q⟩ := h
  obtain ⟨u, rfl, ru⟩ := vals1 r
  obtain rfl : u = Value.bool b := ru
  exact PySem.P.repr_of_bool ⟨.str _, H, I.tok _, ⟨_, rfl⟩, q⟩
end Gx

set_option Elab.async false
set_option linter.all false
set_option maxRecDepth 100000
set_option maxHeartbeats 4000000
/-! New data of bounded size. -/
namespace Gd
open PySem PySem.Spec PyProof.Rows L2
def bdT (k : Nat) : Nat := 250 * 4 ^ k
theorem bdT_pos (k : Nat) : 250 ≤ bdT k := by
  have : 0 < 4 ^ k := Nat.pow_pos (by decide)
  unfold bdT
  omega
theorem bdT_succ (k : Nat) : bdT (k + 1) = 4 * bdT k := by
  unfold bdT
  rw [Nat.pow_succ]
  omega
/-- at H' x is data of depth k, made of what was not there at H -/
def Fr (H H' : Hp) (k : Nat) (x : V) : Prop := ∃ as t, Rp H' as (2 * k + 1) x t ∧ t.length ≤ bdT k ∧ ∀ b ∈ as, H b = none ∧ ∃ o, H' b = some o
/-- so are all of xs -/
def Frs (H H' : Hp) (k : Nat) (xs : List V) : Prop := ∃ as, ∃ ts : List Str, ts.length = xs.length ∧ (∀ (i : Nat) (x : V) (t : Str), xs[i]? = some x → ts[i]? = some t → Rp H' as (2 * k + 1) x t) ∧ piled ts ≤ xs.length * (bdT k + 2) ∧ ∀ b ∈ as, H b = none ∧ ∃ o, H' b = some o
/-- nothing went -/
def Dom (H H' : Hp) : Prop := ∀ b, H' b = none → H b = none
theorem Kp.dom {p : Addr} {H H' : Hp} (k : Kp p H H') : Dom H H' := by
  intro b hb
  by_cases e : b = p
  · subst e
    obtain ⟨o, z⟩ := k.2.there
    rw [z] at hb
    cases hb
  · exact k.gone e hb
theorem Dom.trans {H H1 H2 : Hp} (a : Dom H H1) (b : Dom H1 H2) : Dom H H2 := fun c h => a c (b c h)
theorem Dom.upd {H : Hp} {a : Addr} {o : HO} : Dom H (upd H a o) := by
  intro b hb
  by_cases e : b = a
  · subst e
    rw [upd_same] at hb
    cases hb
  · rwa [upd_ne e] at hb
section
variable {H H0 H' H2 : Hp} {k : Nat} {x : V} {xs : List V} {p : Addr}
theorem Fr.flat {t : Str} (r : ∀ d, Rp H' [] d x t) (l : t.length ≤ 250) : Fr H H' k x := ⟨[], t, r _, Nat.le_trans l (bdT_pos k), fun _ h => nomatch h⟩
theorem Fr.int {n : Int} (h : n.natAbs < 2 ^ 200) : Fr H H' k (.int n) := by
  have l : n.natAbs.log2 < 200 := by
    by_cases z : n.natAbs = 0
    · rw [z]
      decide
    · exact (Nat.log2_lt z).mpr h
  refine .flat (fun d => .int n (by omega)) ?_
  have e := int_text_length_le (a := n) (k := 200) (by decide) l
  have e2 : (Str.ofString (toString n)).length = (toString n).length := PySem.ofString_length _
  show (Str.ofString (toString n)).length ≤ 250
  omega
theorem Fr.str {z : Str} {n : Nat} (h : Sm n z) (hn : n ≤ 20) : Fr H H' k (.str z) := by
  have l := h.repr
  have b : (1000 : Nat) < sizeLine := by decide
  exact .flat (fun d => .str z (by omega)) (by omega)
/-- what was there at H stands on -/
theorem Fr.on (f : Fr H H' k x) (s : ∀ b o, H b = none → H' b = some o → H2 b = some o) : Fr H H2 k x := by
  obtain ⟨as, t, r, l, n⟩ := f
  refine ⟨as, t, r.keep fun b hb o ho => s b o (n b hb).1 ho, l, fun b hb => ⟨(n b hb).1, ?_⟩⟩
  obtain ⟨o, ho⟩ := (n b hb).2
  exact ⟨o, s b o (n b hb).1 ho⟩
theorem Frs.on (f : Frs H H' k xs) (s : ∀ b o, H b = none → H' b = some o → H2 b = some o) : Frs H H2 k xs := by
  obtain ⟨as, ts, e, r, l, n⟩ := f
  refine ⟨as, ts, e, fun i x t h1 h2 => (r i x t h1 h2).keep fun b hb o ho => s b o (n b hb).1 ho, l, fun b hb => ⟨(n b hb).1, ?_⟩⟩
  obtain ⟨o, ho⟩ := (n b hb).2
  exact ⟨o, s b o (n b hb).1 ho⟩
theorem Fr.ahead (f : Fr H H' k x) (d : Dom H0 H) : Fr H0 H' k x := by
  obtain ⟨as, t, r, l, n⟩ := f
  exact ⟨as, t, r, l, fun b hb => ⟨d b (n b hb).1, (n b hb).2⟩⟩
theorem Frs.ahead (f : Frs H H' k xs) (d : Dom H0 H) : Frs H0 H' k xs := by
  obtain ⟨as, t, e, r, l, n⟩ := f
  exact ⟨as, t, e, r, l, fun b hb => ⟨d b (n b hb).1, (n b hb).2⟩⟩
theorem Fr.kp (f : Fr H H' k x) (kp : Kp p H' H2) (hp : Pot H p) : Fr H H2 k x := f.on fun b o e h => kp.1 b o (fun z => by
  obtain ⟨u, hu⟩ := hp.there
  rw [← z, e] at hu
  cases hu) h
theorem Frs.kp (f : Frs H H' k xs) (kp : Kp p H' H2) (hp : Pot H p) : Frs H H2 k xs := f.on fun b o e h => kp.1 b o (fun z => by
  obtain ⟨u, hu⟩ := hp.there
  rw [← z, e] at hu
  cases hu) h
theorem Frs.put {a : Addr} {o u : HO} (f : Frs H H' k xs) (h : H a = some u) : Frs H (upd H' a o) k xs := f.on fun b w e hb => by
  rw [upd_ne (fun z => by rw [z, h] at e; cases e)]
  exact hb
theorem Fr.put {a : Addr} {o u : HO} (f : Fr H H' k x) (h : H a = some u) : Fr H (upd H' a o) k x := f.on fun b w e hb => by
  rw [upd_ne (fun z => by rw [z, h] at e; cases e)]
  exact hb
theorem Fr.new {a : Addr} {o : HO} (f : Fr H H' k x) (h : H' a = none) : Fr H (upd H' a o) k x := f.on fun b w e hb => by
  rw [upd_ne (ne_of_none hb h)]
  exact hb
theorem Frs.nil : Frs H H' k [] := ⟨[], [], rfl, fun i x t h _ => (by simp at h), Nat.zero_le _, fun _ h => nomatch h⟩
theorem Frs.snoc (f : Frs H H' k xs) (g : Fr H H' k x) : Frs H H' k (xs ++ [x]) := by
  obtain ⟨as, ts, e, r, l, n⟩ := f
  obtain ⟨bs, t, r1, l1, n1⟩ := g
  refine ⟨as ++ bs, ts ++ [t], by simp [e], fun i y u h1 h2 => ?_, ?_, fun b hb => (List.mem_append.mp hb).elim (n b) (n1 b)⟩
  · by_cases c : i < xs.length
    · rw [List.getElem?_append_left c] at h1
      rw [List.getElem?_append_left (by omega)] at h2
      exact (r i y u h1 h2).more fun b hb => List.mem_append_left _ hb
    · rw [List.getElem?_append_right (by omega)] at h1
      rw [List.getElem?_append_right (by omega)] at h2
      have c1 := (List.getElem?_eq_some_iff.mp h1).1
      have c0 : i - xs.length = 0 := by simp at c1; omega
      rw [c0] at h1
      rw [show i - ts.length = 0 by omega] at h2
      cases h1
      cases h2
      exact r1.more fun b hb => List.mem_append_right _ hb
  · rw [piled_append, List.length_append, Nat.add_mul]
    have : piled [t] = t.length + 2 := by simp [piled]
    simp only [List.length_singleton, Nat.one_mul]
    omega
theorem listText_le : ∀ ts : List Str, (listText ts).length ≤ piled ts + 2
  | [] => by decide
  | t :: r => by
    have h := textFrom_length_pos r 1 (("[" : Str) ++ (if (0 : Nat) > 0 then ", " else "" : String) ++ t) (Nat.succ_pos 0)
    have e : (listText (t :: r)).length = (textFrom 1 (("[" : Str) ++ (if (0 : Nat) > 0 then ", " else "" : String) ++ t) r).length + 1 := strLen_append _ _
    have e2 : (("[" : Str) ++ (if (0 : Nat) > 0 then ", " else "" : String) ++ t).length = 1 + t.length := by
      rw [strLen_append, strLen_append]
      rfl
    rw [e, h, e2, piled_cons]
    omega
theorem tupleText_le (ts : List Str) : (tupleText ts).length ≤ piled ts + 3 := by
  unfold tupleText
  rw [strLen_append, strLen_append]
  have e1 : ((("(" : String) : Str)).length = 1 := rfl
  have e3 : (((if ts.length == 1 then ",)" else ")" : String) : Str)).length ≤ 2 := by split <;> decide
  by_cases z : ts = []
  · subst z
    have : (Str.join (", " : String) ([] : List Str)).length = 0 := rfl
    omega
  · have := join_length_add ts z
    omega
theorem Frs.bound {k : Nat} {n : Nat} (hn : n ≤ 3) : n * (bdT k + 2) + 20 ≤ bdT (k + 1) := by
  rw [bdT_succ]
  have := bdT_pos k
  have : n * (bdT k + 2) ≤ 3 * (bdT k + 2) := Nat.mul_le_mul_right _ hn
  omega
theorem Frs.list {a : Addr} (f : Frs H H' k xs) (n3 : xs.length ≤ 3) (h : H' a = some (.lst xs)) (d : Dom H0 H) (h0 : H0 a = none) {u : HO} (ha : H a = some u) : Fr H0 H' (k + 1) (.ref a) := by
  obtain ⟨as, ts, e, r, l, n⟩ := f
  refine ⟨a :: as, _, (Rp.lst (as0 := as) h (fun z => by rw [(n a z).1] at ha; cases ha) (fun _ h => h) e r).deep _ (by omega), ?_, fun b hb => ?_⟩
  · have := listText_le ts
    have := Frs.bound (k := k) n3
    omega
  · rcases List.mem_cons.mp hb with rfl | hb
    · exact ⟨h0, _, h⟩
    · exact ⟨d b (n b hb).1, (n b hb).2⟩
theorem Frs.tuple {a : Addr} (f : Frs H H' k xs) (n3 : xs.length ≤ 3) (h : H' a = none) (d : Dom H0 H') (d' : Dom H0 H) : Fr H0 (upd H' a (.tup xs)) (k + 1) (.ref a) := by
  obtain ⟨as, ts, e, r, l, n⟩ := f
  have r' : ∀ (i : Nat) (x : V) (t : Str), xs[i]? = some x → ts[i]? = some t → Rp (upd H' a (.tup xs)) as (2 * k + 1) x t := fun i x t h1 h2 => (r i x t h1 h2).keep fun b _ o hb => by rw [upd_ne (ne_of_none hb h)]; exact hb
  have na : a ∉ as := fun z => by
    obtain ⟨o, ho⟩ := (n a z).2
    rw [h] at ho
    cases ho
  refine ⟨a :: as, _, (Rp.tup (as0 := as) upd_same na (fun _ h => h) e r').deep _ (by omega), ?_, fun b hb => ?_⟩
  · have := tupleText_le ts
    have := Frs.bound (k := k) n3
    omega
  · rcases List.mem_cons.mp hb with rfl | hb
    · exact ⟨d _ h, _, upd_same⟩
    · obtain ⟨o, ho⟩ := (n b hb).2
      exact ⟨d' b (n b hb).1, o, by rw [upd_ne (ne_of_none ho h)]; exact ho⟩
/-- {"a": xs} -/
theorem Frs.dict {a c : Addr} (f : Frs H H' k xs) (n3 : xs.length ≤ 3) (h : H' a = some (.lst xs)) (d' : Dom H0 H) (h0 : H0 a = none) {u : HO} (ha : H a = some u) (hc : H' c = none) (d : Dom H0 H') (H3 : Hp) (hs : ∀ b o, H' b = some o → H3 b = some o)
    (h3 : H3 c = some (.dK [(.inr "a", .ref a)])) : Fr H0 H3 (k + 1) (.ref c) := by
  obtain ⟨as, ts, e, r, l, n⟩ := f
  have r' : ∀ (i : Nat) (x : V) (t : Str), xs[i]? = some x → ts[i]? = some t → Rp H3 as (2 * k + 1) x t := fun i x t h1 h2 => (r i x t h1 h2).keep fun b _ o hb => hs b o hb
  have na : a ∉ as := fun z => by
    rw [(n a z).1] at ha
    cases ha
  have in1 := Rp.lst (as := a :: as) (as0 := as) (hs a _ h) na (fun _ h => h) e r'
  have nc : c ∉ a :: as := fun z => by
    rcases List.mem_cons.mp z with rfl | z
    · rw [h] at hc; cases hc
    · obtain ⟨o, ho⟩ := (n c z).2
      rw [hc] at ho
      cases ho
  have sa : Sm 1 "a" := ⟨by decide, by decide⟩
  have la := sa.repr
  have big : (1000 : Nat) < sizeLine := by decide
  refine ⟨c :: a :: as, _, Rp.dic (as0 := a :: as) (ps := [(reprText "a", listText ts)]) h3 nc (fun _ h => h) rfl (fun i q p h1 h2 => ?_) (fun i q p h1 h2 => ?_), ?_, fun b hb => ?_⟩
  · cases i with
    | zero => cases h1; cases h2; exact .str _ (by omega)
    | succ i => simp at h1
  · cases i with
    | zero => cases h1; cases h2; exact in1
    | succ i => simp at h1
  · have := listText_le ts
    have := Frs.bound (k := k) n3
    have e : (dictText [reprText "a" ++ ": " ++ listText ts]).length = 1 + ((reprText "a").length + 2 + (listText ts).length) + 1 := by
      unfold dictText
      rw [strLen_append, strLen_append]
      show 1 + (reprText "a" ++ ": " ++ listText ts).length + 1 = _
      rw [strLen_append, strLen_append]
      rfl
    show (dictText [reprText "a" ++ ": " ++ listText ts]).length ≤ _
    omega
  · rcases List.mem_cons.mp hb with rfl | hb
    · exact ⟨d _ hc, _, h3⟩
    · rcases List.mem_cons.mp hb with rfl | hb
      · exact ⟨h0, _, hs _ _ h⟩
      · obtain ⟨o, ho⟩ := (n b hb).2
        exact ⟨d' b (n b hb).1, o, hs _ _ ho⟩
theorem Fr.emptyT {a : Addr} (h : H' a = some (.tup [])) (h0 : H a = none) : Fr H H' k (.ref a) :=
  ⟨[a], _, Rp.tup (as0 := []) (ts := []) h (by simp) (fun _ h => h) rfl (fun i x t h _ => by simp at h), Nat.le_trans (show _ ≤ 250 by decide) (bdT_pos k), fun b hb => by rw [List.mem_singleton.mp hb]; exact ⟨h0, _, h⟩⟩
theorem Fr.emptyL {a : Addr} (h : H' a = some (.lst [])) (h0 : H a = none) : Fr H H' k (.ref a) :=
  ⟨[a], _, Rp.lst (as0 := []) (ts := []) h (by simp) (fun _ h => h) rfl (fun i x t h _ => by simp at h), Nat.le_trans (show _ ≤ 250 by decide) (bdT_pos k), fun b hb => by rw [List.mem_singleton.mp hb]; exact ⟨h0, _, h⟩⟩
theorem Fr.emptyD {a : Addr} (h : H' a = some (.dK [])) (h0 : H a = none) : Fr H H' k (.ref a) :=
  ⟨[a], _, Rp.dic (as0 := []) (ps := []) h (by simp) (fun _ h => h) rfl (fun i x t h _ => by simp at h) (fun i x t h _ => by simp at h), Nat.le_trans (show _ ≤ 250 by decide) (bdT_pos k), fun b hb => by rw [List.mem_singleton.mp hb]; exact ⟨h0, _, h⟩⟩
end
end Gd

set_option Elab.async false
set_option linter.all false
set_option maxRecDepth 100000
set_option maxHeartbeats 1000000
/-! Operators by own methods: an own instance on the left, on the right, on both sides. -/
namespace Oo
open PySem PySem.Spec PySem.W PyProof.Rows
section
variable {prog : Program} {w : World} {A : Around} {E : Value → Shared → Prop} {s : Shared} {K : Frag} {x y C f g : Addr} {ox oy : Obj} {od oe : Option Obj} {nm T : String}

theorem b1_same {Q : Value → Shared → Prop} (X : K.In s.heap) (I : InstAt s.heap x ox C od) (J : InstAt s.heap y oy C oe) (hc : selfFirst K C = true) (hs : findIn K (.ref C) (PySem.dunder nm) = some (some (.ref f))) (hf : isFn K (.ref f) = true)
    (h : wpAny (model prog w) A (call (.ref f) [.ref x, .ref y]) (W.CmpBack Q) E s) : wpAny (model prog w) A (binaryOp1 nm (.ref x) (.ref y)) (fun r s' => ∃ v, r = some v ∧ Q v s') E s := by
  obtain ⟨cd, rest, hcd, hm⟩ := ksp_first hc
  have one := ksp_try X I hs hf h
  obtain ⟨hh, gg, d, tt, os⟩ := s
  have L1 : Looks (model prog w) hh (typeOf (.ref x)) (.ref C) := I.type
  have L2 : Looks (model prog w) hh (typeOf (.ref y)) (.ref C) := J.type
  have L3 : Looks (model prog w) hh (fillsNumberSlot (.ref C) nm) true := fills_K X hcd hm hs
  unfold binaryOp1
  refine wpAny_bind (L1.at (wpAny_bind (L2.at (wpAny_bind (L3.at ?_)))))
  have he : (Value.ref C == Value.ref C) = true := beq_self_eq_true _
  simp only [he, if_true]
  ksp_lk
  refine wpAny_mono one (fun r s' hr' => ?_) fun _ _ e => e
  obtain ⟨v, rfl, hq⟩ := hr'
  ksp_lk
  exact ⟨v, rfl, hq⟩

theorem b1_left {b : Value} {fo ro rc : Option Value} {Q : Value → Shared → Prop} (X : K.In s.heap) (I : InstAt s.heap x ox C od) (hb : typeOf b = pure (.type T)) (hc : selfFirst K C = true)
    (hs : findIn K (.ref C) (PySem.dunder nm) = some (some (.ref f))) (hf : isFn K (.ref f) = true) (hr : findIn K (.ref C) (dunderR nm) = some rc) (hp : rc = none ∨ ∃ g : Addr, rc = some (.ref g))
    (h1 : findIn K (.type T) (PySem.dunder nm) = some fo) (h2 : findIn K (.type T) (dunderR nm) = some ro) (hsub : subIn K (.type T) (.ref C) = some false)
    (h : wpAny (model prog w) A (call (.ref f) [.ref x, b]) (W.CmpBack Q) E s) : wpAny (model prog w) A (binaryOp1 nm (.ref x) b) (fun r s' => ∃ v, r = some v ∧ Q v s') E s := by
  obtain ⟨cd, rest, hcd, hm⟩ := ksp_first hc
  have one := ksp_try X I hs hf h
  obtain ⟨hh, gg, d, tt, os⟩ := s
  have L1 : Looks (model prog w) hh (typeOf (.ref x)) (.ref C) := I.type
  have L2 : Looks (model prog w) hh (typeOf b) (.type T) := Looks.of_pure hb
  have L3 : Looks (model prog w) hh (fillsNumberSlot (.ref C) nm) true := fills_K X hcd hm hs
  have L4 : Looks (model prog w) hh (fillsNumberSlot (.type T) nm) ((fo.isSome && !isSeqSlot fo) || (ro.isSome && !isSeqSlot ro)) := ksp_fillsT X h1 h2
  have L5 : Looks (model prog w) hh (isSubtype (.type T) (.ref C)) false := looks_subIn X hsub
  have L6 : Looks (model prog w) hh (numberSlotInPython (.ref C) nm) true := ksp_inPy X hs hr hp
  have L7 : Looks (model prog w) hh (numberSlotInPython (.type T) nm) false := Looks.of_pure rfl
  have L8 : Looks (model prog w) hh (typeLookup (.type T) (dunderR nm)) ro := looks_findIn X h2
  generalize ((fo.isSome && !isSeqSlot fo) || (ro.isSome && !isSeqSlot ro)) = right at L4
  have hne : (Value.ref C == Value.type T) = false := Bool.eq_false_iff.mpr fun q => by cases beq_iff_eq.mp q
  unfold binaryOp1
  refine wpAny_bind (L1.at (wpAny_bind (L2.at (wpAny_bind (L3.at ?_)))))
  simp only [hne, Bool.false_eq_true, if_false]
  cases right with
  | false =>
    ksp_lk
    refine wpAny_mono one (fun r s' hr' => ?_) fun _ _ e => e
    obtain ⟨v, rfl, hq⟩ := hr'
    ksp_lk
    exact ⟨v, rfl, hq⟩
  | true =>
    ksp_lk
    refine wpAny_mono one (fun r s' hr' => ?_) fun _ _ e => e
    obtain ⟨v, rfl, hq⟩ := hr'
    ksp_lk
    exact ⟨v, rfl, hq⟩

/-- a's own method for it declines -/
def Declines (prog : Program) (w : World) (A : Around) (E : Value → Shared → Prop) (s : Shared) (nm : String) (a : Value) (y : Addr) : Prop :=
  ∀ R : Option Value → Shared → Prop, (∀ t, R none { s with toks := t }) → wpAny (model prog w) A (tryMethod a (PySem.dunder nm) (.ref y)) R E s

theorem b1_right {a : Value} {fo ro : Option Value} {Q : Value → Shared → Prop} (X : K.In s.heap) (J : InstAt s.heap y oy C oe) (ha : typeOf a = pure (.type T)) (hc : selfFirst K C = true)
    (hs : findIn K (.ref C) (PySem.dunder nm) = some (some (.ref f))) (hr : findIn K (.ref C) (dunderR nm) = some (some (.ref g))) (hg : isFn K (.ref g) = true)
    (h1 : findIn K (.type T) (PySem.dunder nm) = some fo) (h2 : findIn K (.type T) (dunderR nm) = some ro) (hsub : subIn K (.ref C) (.type T) = some false)
    (no : ((fo.isSome && !isSeqSlot fo) || (ro.isSome && !isSeqSlot ro)) = true → Declines prog w A E s nm a y)
    (h : ∀ t, wpAny (model prog w) A (call (.ref g) [.ref y, a]) (W.CmpBack Q) E { s with toks := t }) : wpAny (model prog w) A (binaryOp1 nm a (.ref y)) (fun r s' => ∃ v, r = some v ∧ Q v s') E s := by
  obtain ⟨cd, rest, hcd, hm⟩ := ksp_first hc
  have one : ∀ t, wpAny (model prog w) A (tryMethod (.ref y) (dunderR nm) a) (fun r s' => ∃ v, r = some v ∧ Q v s') E { s with toks := t } := fun t => ksp_try (s := { s with toks := t }) X J hr hg (h t)
  obtain ⟨hh, gg, d, tt, os⟩ := s
  have L1 : Looks (model prog w) hh (typeOf a) (.type T) := Looks.of_pure ha
  have L2 : Looks (model prog w) hh (typeOf (.ref y)) (.ref C) := J.type
  have L3 : Looks (model prog w) hh (fillsNumberSlot (.ref C) nm) true := fills_K X hcd hm hs
  have L4 : Looks (model prog w) hh (fillsNumberSlot (.type T) nm) ((fo.isSome && !isSeqSlot fo) || (ro.isSome && !isSeqSlot ro)) := ksp_fillsT X h1 h2
  have L5 : Looks (model prog w) hh (isSubtype (.ref C) (.type T)) false := looks_subIn X hsub
  have L7 : Looks (model prog w) hh (numberSlotInPython (.type T) nm) false := Looks.of_pure rfl
  have hne : (Value.type T == Value.ref C) = false := Bool.eq_false_iff.mpr fun q => by cases beq_iff_eq.mp q
  generalize hl : ((fo.isSome && !isSeqSlot fo) || (ro.isSome && !isSeqSlot ro)) = left at L4 no
  unfold binaryOp1
  refine wpAny_bind (L1.at (wpAny_bind (L2.at (wpAny_bind (L4.at ?_)))))
  simp only [hne, Bool.false_eq_true, if_false]
  cases left with
  | false =>
    ksp_lk
    refine wpAny_mono (one tt) (fun r s' hr' => ?_) fun _ _ e => e
    obtain ⟨v, rfl, hq⟩ := hr'
    ksp_lk
    exact ⟨v, rfl, hq⟩
  | true =>
    ksp_lk
    refine no rfl _ fun t => ?_
    ksp_lk
    refine wpAny_mono (one t) (fun r s' hr' => ?_) fun _ _ e => e
    obtain ⟨v, rfl, hq⟩ := hr'
    ksp_lk
    exact ⟨v, rfl, hq⟩

/-- an operator by its first look -/
theorem bin_of {op : Operator} {a b : Value} {Q : Value → Shared → Prop} (h : wpAny (model prog w) A (binaryOp1 op.info.2 a b) (fun r s' => ∃ v, r = some v ∧ Q v s') E s) : wpAny (model prog w) A (binaryOp op a b) Q E s := by
  rcases hi : op.info with ⟨sym, nm'⟩
  rw [hi] at h
  simp only [binaryOp, hi]
  refine wpAny_holding (wpAny_bind (wpAny_mono h (fun r s' hr' => ?_) fun _ _ e => e))
  obtain ⟨v, rfl, hq⟩ := hr'
  obtain ⟨hh, gg, d, tt, os⟩ := s'
  ksp_lk
  exact hq

theorem nofi_T {h : Heap} {add : Bool} (X : K.In h) (h1 : findIn K (.type T) (dunderI nm) = some none) : Looks (model prog w) h (fillsInplaceSlot (.type T) nm add) false := by
  intro A Q E s k q
  obtain ⟨hh, g, d, tt, os⟩ := s
  have X' : K.In hh := X.keeps k
  have L1 : Looks (model prog w) hh (typeLookup (.type T) (dunderI nm)) none := looks_findIn X' h1
  unfold fillsInplaceSlot
  repeat lk
  exact q
theorem nofi_C {h : Heap} {add : Bool} {cd : ClassData} (X : K.In h) (hc : clsIn K C = some cd) (hm : cd.mro = [.ref C, .type "object"]) (h1 : findIn K (.ref C) (dunderI nm) = some none) (h2 : findIn K (.type "object") (dunderI nm) = some none) :
    Looks (model prog w) h (fillsInplaceSlot (.ref C) nm add) false := by
  intro A Q E s k q
  have Lm : Looks (model prog w) h (mroOf (.ref C)) cd.mro := (looks_clsIn X hc).andThen (f := fun cd => pure cd.mro) .now
  have Lm' := Lm.keeps k
  obtain ⟨hh, g, d, tt, os⟩ := s
  have X' : K.In hh := X.keeps k
  have L1 : Looks (model prog w) hh (typeLookup (.ref C) (dunderI nm)) none := looks_findIn X' h1
  have L2 : Looks (model prog w) hh (typeLookup (.type "object") (dunderI nm)) none := looks_findIn X' h2
  unfold fillsInplaceSlot
  refine wpAny_bind (Lm'.at ?_)
  rw [hm, List.anyM_cons]
  refine wpAny_bind ?_
  repeat lk
  exact q
/-- x op= e by the operator, where nothing has an own op= -/
theorem iop_of {op : Operator} {a b ta : Value} {Q : Value → Shared → Prop} (ht : Looks (model prog w) s.heap (typeOf a) ta) (hfi : Looks (model prog w) s.heap (fillsInplaceSlot ta op.info.2 (op == .Add)) false)
    (h : wpAny (model prog w) A (binaryOp1 op.info.2 a b) (fun r s' => ∃ v, r = some v ∧ Q v s') E s) : wpAny (model prog w) A (inplaceOp op a b) Q E s := by
  unfold inplaceOp
  obtain ⟨hh, gg, d, tt, os⟩ := s
  refine wpAny_holding (wpAny_bind (ht.at ?_))
  refine wpAny_bind (hfi.at ?_)
  simp only [Bool.false_eq_true, if_false]
  refine wpAny_bind (wpAny_mono h (fun r s' hr' => ?_) fun _ _ e => e)
  obtain ⟨v, rfl, hq⟩ := hr'
  obtain ⟨hh, gg, d, tt, os⟩ := s'
  ksp_lk
  exact hq
/-- int's own method declines what is no int -/
theorem decl_of {id : String} {B : Builtin} {i : Int} {u : Tok} (slot : Slot "int" (PySem.dunder nm) id) (entry : entryFor table id = some B) (args : argsOk id ⟨[.int i u, .ref y], []⟩)
    (body : ∀ (E' : Value → Shared → Prop) (R : Fin → Shared → Prop), (∀ t, R (.done (.ret .notImplemented)) { s with toks := t }) → wpAny (model prog w) A.in1 (B ⟨[.int i u, .ref y], []⟩) R E' s) : Declines prog w A E s nm (.int i u) y := by
  intro R hR
  unfold tryMethod
  refine wpAny_bind (wpAny_callSpecial?_slot (typeIs_int _ _ _) slot (GQ.call_here slot (typeIs_int _ _ _) entry args (body _ _ fun t => ?_)))
  exact wpAny_pure (hR t)
end
end Oo

set_option Elab.async false
set_option linter.all false
set_option maxRecDepth 100000
set_option maxHeartbeats 400000
namespace Oo
open PySem PySem.Spec PySem.W PyProof.Rows
section
variable {prog : Program} {w : World} {A : Around} {E : Value → Shared → Prop} {s : Shared} {K : Frag} {x y C f g : Addr} {ox oy : Obj} {od oe : Option Obj} {nm T : String}
variable {i : Int} {u : Tok} {dx : Addr}
theorem asInt_inst {R : Option Int → Shared → Prop} {M : Model} (hy : s.heap.get? y = some (instObj C dx)) (h : R none s) : wpAny M A (asInt? (.ref y)) R E s := by
  unfold asInt?
  refine wpAny_bind (wpAny_load hy ?_)
  exact wpAny_pure h
theorem bin_no {name : String} {f : Int → Int → Sem Fin} (hy : s.heap.get? y = some (instObj C dx))
    {R : Fin → Shared → Prop} (hR : ∀ t, R (.done (.ret .notImplemented)) { s with toks := t }) : wpAny (model prog w) A (Builtin.Int.intBinary name f false ⟨[Value.int i u, Value.ref y], []⟩) R E s := by
  unfold Builtin.Int.intBinary
  have hs : PySem.slotArgs name 1 ⟨[Value.int i u, Value.ref y], []⟩ = pure (Value.int i u, [Value.ref y]) := rfl
  refine wpAny_bind (wpAny_of_eq hs ?_)
  dsimp only
  refine wpAny_bind (wpAny_of_eq (a := i) rfl ?_)
  refine wpAny_bind (asInt_inst hy ?_)
  exact wpAny_bind (wpAny_rule (wpAny_pure (hR _)))
theorem pylong_no {R : Unit → Shared → Prop} {M : Model} (hy : s.heap.get? y = some (instObj C dx)) (h : R () s) : wpAny M A (Builtin.exactOperandsForPylong false ⟨[Value.int i u, Value.ref y], []⟩) R E s := by
  unfold Builtin.exactOperandsForPylong
  refine wpAny_ite_true rfl ?_
  refine wpAny_bind (wpAny_of_eq (a := some i) rfl ?_)
  refine wpAny_bind (asInt_inst hy ?_)
  exact wpAny_pure h
theorem fdiv_no {R : Fin → Shared → Prop} (hy : s.heap.get? y = some (instObj C dx)) (hR : ∀ t, R (.done (.ret .notImplemented)) { s with toks := t }) : wpAny (model prog w) A (Builtin.«int.__floordiv__» ⟨[Value.int i u, Value.ref y], []⟩) R E s := by
  unfold Builtin.«int.__floordiv__»
  exact wpAny_bind (pylong_no hy (bin_no hy hR))
theorem fd1 : Slot "int" (PySem.dunder "floordiv") "int.__floordiv__" := F.slot_int_floordiv
theorem fd2 : entryFor table "int.__floordiv__" = some Builtin.«int.__floordiv__» := F.entry_int_floordiv
theorem fd3 : argsOk "int.__floordiv__" ⟨[Value.int i u, Value.ref y], []⟩ := F.args_int_floordiv_2 _ _
theorem decl_fd {B : Builtin} (hB : Builtin.«int.__floordiv__» = B) (h2 : entryFor table "int.__floordiv__" = some B) (hy : s.heap.get? y = some (instObj C dx)) : Declines prog w A E s "floordiv" (Value.int i u) y :=
  decl_of (nm := "floordiv") (id := "int.__floordiv__") (B := B) (i := i) (u := u) fd1 h2 fd3 (hB ▸ fun E' R hR => fdiv_no hy hR)
theorem decl_floordiv (hy : s.heap.get? y = some (instObj C dx)) : Declines prog w A E s "floordiv" (Value.int i u) y := decl_fd rfl fd2 hy
theorem add_no {R : Fin → Shared → Prop} (hy : s.heap.get? y = some (instObj C dx)) (hR : ∀ t, R (.done (.ret .notImplemented)) { s with toks := t }) : wpAny (model prog w) A (Builtin.«int.__add__» ⟨[Value.int i u, Value.ref y], []⟩) R E s := by
  unfold Builtin.«int.__add__»
  exact bin_no hy hR
theorem add2 : entryFor table "int.__add__" = some Builtin.«int.__add__» := F.entry_int_add
theorem add3 : argsOk "int.__add__" ⟨[Value.int i u, Value.ref y], []⟩ := F.args_int_add_2 _ _
theorem decl_add' {B : Builtin} (hB : Builtin.«int.__add__» = B) (h2 : entryFor table "int.__add__" = some B) (hy : s.heap.get? y = some (instObj C dx)) : Declines prog w A E s "add" (Value.int i u) y :=
  decl_of (nm := "add") (id := "int.__add__") (B := B) (i := i) (u := u) F.slot_int_add h2 add3 (hB ▸ fun E' R hR => add_no hy hR)
theorem decl_add (hy : s.heap.get? y = some (instObj C dx)) : Declines prog w A E s "add" (Value.int i u) y := decl_add' rfl add2 hy
theorem sub_no {R : Fin → Shared → Prop} (hy : s.heap.get? y = some (instObj C dx)) (hR : ∀ t, R (.done (.ret .notImplemented)) { s with toks := t }) : wpAny (model prog w) A (Builtin.«int.__sub__» ⟨[Value.int i u, Value.ref y], []⟩) R E s := by
  unfold Builtin.«int.__sub__»
  exact bin_no hy hR
theorem sub2 : entryFor table "int.__sub__" = some Builtin.«int.__sub__» := F.entry_int_sub
theorem sub3 : argsOk "int.__sub__" ⟨[Value.int i u, Value.ref y], []⟩ := F.args_int_sub_2 _ _
theorem decl_sub' {B : Builtin} (hB : Builtin.«int.__sub__» = B) (h2 : entryFor table "int.__sub__" = some B) (hy : s.heap.get? y = some (instObj C dx)) : Declines prog w A E s "sub" (Value.int i u) y :=
  decl_of (nm := "sub") (id := "int.__sub__") (B := B) (i := i) (u := u) F.slot_int_sub h2 sub3 (hB ▸ fun E' R hR => sub_no hy hR)
theorem decl_sub (hy : s.heap.get? y = some (instObj C dx)) : Declines prog w A E s "sub" (Value.int i u) y := decl_sub' rfl sub2 hy
theorem mul_no {R : Fin → Shared → Prop} (hy : s.heap.get? y = some (instObj C dx)) (hR : ∀ t, R (.done (.ret .notImplemented)) { s with toks := t }) : wpAny (model prog w) A (Builtin.«int.__mul__» ⟨[Value.int i u, Value.ref y], []⟩) R E s := by
  unfold Builtin.«int.__mul__»
  exact bin_no hy hR
theorem mul2 : entryFor table "int.__mul__" = some Builtin.«int.__mul__» := F.entry_int_mul
theorem mul3 : argsOk "int.__mul__" ⟨[Value.int i u, Value.ref y], []⟩ := F.args_int_mul_2 _ _
theorem decl_mul' {B : Builtin} (hB : Builtin.«int.__mul__» = B) (h2 : entryFor table "int.__mul__" = some B) (hy : s.heap.get? y = some (instObj C dx)) : Declines prog w A E s "mul" (Value.int i u) y :=
  decl_of (nm := "mul") (id := "int.__mul__") (B := B) (i := i) (u := u) F.slot_int_mul h2 mul3 (hB ▸ fun E' R hR => mul_no hy hR)
theorem decl_mul (hy : s.heap.get? y = some (instObj C dx)) : Declines prog w A E s "mul" (Value.int i u) y := decl_mul' rfl mul2 hy
theorem mod_no {R : Fin → Shared → Prop} (hy : s.heap.get? y = some (instObj C dx)) (hR : ∀ t, R (.done (.ret .notImplemented)) { s with toks := t }) : wpAny (model prog w) A (Builtin.«int.__mod__» ⟨[Value.int i u, Value.ref y], []⟩) R E s := by
  unfold Builtin.«int.__mod__»
  exact bin_no hy hR
theorem mod2 : entryFor table "int.__mod__" = some Builtin.«int.__mod__» := F.entry_int_mod
theorem mod3 : argsOk "int.__mod__" ⟨[Value.int i u, Value.ref y], []⟩ := F.args_int_mod_2 _ _
theorem decl_mod' {B : Builtin} (hB : Builtin.«int.__mod__» = B) (h2 : entryFor table "int.__mod__" = some B) (hy : s.heap.get? y = some (instObj C dx)) : Declines prog w A E s "mod" (Value.int i u) y :=
  decl_of (nm := "mod") (id := "int.__mod__") (B := B) (i := i) (u := u) F.slot_int_mod h2 mod3 (hB ▸ fun E' R hR => mod_no hy hR)
theorem decl_mod (hy : s.heap.get? y = some (instObj C dx)) : Declines prog w A E s "mod" (Value.int i u) y := decl_mod' rfl mod2 hy
/-- the five operators of which int declines an own instance -/
def Five (op : Operator) : Prop := op = .Add ∨ op = .Sub ∨ op = .Mult ∨ op = .Mod ∨ op = .FloorDiv
theorem decl_five {op : Operator} (h : Five op) (hy : s.heap.get? y = some (instObj C dx)) : Declines prog w A E s op.info.2 (Value.int i u) y := by
  rcases h with rfl | rfl | rfl | rfl | rfl
  · exact decl_add hy
  · exact decl_sub hy
  · exact decl_mul hy
  · exact decl_mod hy
  · exact decl_floordiv hy
end
end Oo

set_option Elab.async false
set_option linter.all false
set_option maxRecDepth 100000
set_option maxHeartbeats 400000
/-! ### over the layer -/
namespace Oo
open PySem PySem.Spec PyProof.Rows L2
/-- what the text says of a class's operator: its own def f, the turned one g (or none); int has the slot -/
structure OwnBin (K : W.Frag) (C : Addr) (nm : String) (f : Addr) (g : Option Addr) : Prop where
  sf : W.selfFirst K C = true
  hs : W.findIn K (.ref C) (PySem.dunder nm) = some (some (.ref f))
  hf : W.isFn K (.ref f) = true
  hr : W.findIn K (.ref C) (dunderR nm) = some (g.map Value.ref)
  hg : ∀ a, g = some a → W.isFn K (.ref a) = true
  i1 : ∃ fo, W.findIn K (.type "int") (PySem.dunder nm) = some fo
  i2 : ∃ ro, W.findIn K (.type "int") (dunderR nm) = some ro
  s1 : W.subIn K (.type "int") (.ref C) = some false
  s2 : W.subIn K (.ref C) (.type "int") = some false
/-- .. and that nothing has an own op= -/
structure NoIn (K : W.Frag) (C : Addr) (nm : String) : Prop where
  mro : ∃ cd, W.clsIn K C = some cd ∧ cd.mro = [.ref C, .type "object"]
  n1 : W.findIn K (.ref C) (dunderI nm) = some none
  n2 : W.findIn K (.type "object") (dunderI nm) = some none
  n3 : W.findIn K (.type "int") (dunderI nm) = some none
/-- x op y of own instances and ints, by the defs at f and g with the promises sp and sq -/
def Third (C : Addr) (sq : Sp) (E : XK) (x y : V) (H : Hp) (Q : VK) : Prop := ∃ b dy gs i, x = .int i ∧ y = .ref b ∧ H b = some (.ins C dy gs) ∧ sq [y, x] H Q E
def rBin (C : Addr) (sp sq : Sp) (E : XK) : R2 := fun x y H Q =>
  (∃ a dx fs b dy gs, x = .ref a ∧ y = .ref b ∧ H a = some (.ins C dx fs) ∧ H b = some (.ins C dy gs) ∧ sp [x, y] H Q E) ∨
  (∃ a dx fs i, x = .ref a ∧ y = .int i ∧ H a = some (.ins C dx fs) ∧ sp [x, y] H Q E) ∨
  (∃ b dy gs i, x = .int i ∧ y = .ref b ∧ H b = some (.ins C dy gs) ∧ sq [y, x] H Q E)
section
variable {X : Cx} {CX : CXT} {pins : List (Addr × Obj)} {σ : L2.St} {H : Hp} {s : Shared} {C f : Addr} {g : Option Addr} {k : Nat} {sp sq : Sp} {E : XK} {op : Operator} {fd gd : FuncData} {ps qs : List Str}
theorem inst_at (I : Inv X pins σ H s) {a dx : Addr} {fs : List (Str × V)} (e : H a = some (.ins C dx fs)) : ∃ od, W.InstAt s.heap a (W.instObj C dx) C (some od) ∧ s.heap.get? a = some (W.instObj C dx) := by
  obtain ⟨mA, O, _, _, _, _⟩ := ins_get I.hok e
  obtain ⟨od, J, _⟩ := O.look
  exact ⟨od, J, O.obj⟩
theorem b1_own {nm : String} {x y : V} {v u : Value} {Q : VK} (B : OwnBin X.K C nm f g) (F : FnOk X.prog X.w X.K X.mg X.base CX k f fd ps sp) (hb : Binds X.K fd ps []) (hx : Passes CX X E) (hr : Room k X.A)
    (G : Third C sq E x y H Q → ∃ (a : Addr) (gd : FuncData) (qs : List Str), g = some a ∧ FnOk X.prog X.w X.K X.mg X.base CX k a gd qs sq ∧ Binds X.K gd qs [])
    (hd : Third C sq E x y H Q → ∀ (y dx : Addr) (i : Int) (u : Tok) (s : Shared) (E : Value → Shared → Prop), s.heap.get? y = some (W.instObj C dx) → Declines X.prog X.w X.A E s nm (Value.int i u) y)
    (I : Inv X pins σ H s) (rx : RelV x v) (ry : RelV y u) (h : rBin C sp sq E x y H Q) :
    wpAny (model X.prog X.w) X.A (binaryOp1 nm v u) (fun r s' => ∃ z, r = some z ∧ EP X pins σ Q z s') X.xe s := by
  have fin : ∀ (z : Value) (s' : Shared), EP X pins σ Q z s' → W.CmpBack (EP X pins σ Q) z s' := fun z s' ⟨z', H', I', rz, q⟩ => SlX.cmpback rz ⟨z', H', I', rz, q⟩
  rcases h with ⟨a, dx, fs, b, dy, gs, rfl, rfl, ha, hb2, q⟩ | ⟨a, dx, fs, i, rfl, rfl, ha, q⟩ | ⟨b, dy, gs, i, rfl, rfl, hb2, q⟩
  · cases (show v = Value.ref a from rx)
    cases (show u = Value.ref b from ry)
    obtain ⟨od, J, _⟩ := inst_at I ha
    obtain ⟨oe, J2, _⟩ := inst_at I hb2
    exact b1_same I.kIn J J2 B.sf B.hs B.hf (wpAny_mono (run_fn (us := [.ref a, .ref b]) (vs := [.ref a, .ref b]) F hr hb .nil hx I (.cons rfl (.cons rfl .nil)) (by simpa using q)) fin fun _ _ z => z)
  · cases (show v = Value.ref a from rx)
    obtain ⟨t, rfl⟩ := (show ∃ t, u = Value.int i t from ry)
    obtain ⟨od, J, _⟩ := inst_at I ha
    obtain ⟨fo, h1⟩ := B.i1
    obtain ⟨ro, h2⟩ := B.i2
    refine b1_left I.kIn J (T := "int") rfl B.sf B.hs B.hf B.hr ?_ h1 h2 B.s1 (wpAny_mono (run_fn (us := [.ref a, .int i t]) (vs := [.ref a, .int i]) F hr hb .nil hx I (.cons rfl (.cons ⟨t, rfl⟩ .nil)) (by simpa using q)) fin fun _ _ z => z)
    cases g with
    | none => exact .inl rfl
    | some a => exact .inr ⟨a, rfl⟩
  · obtain ⟨t, rfl⟩ := (show ∃ t, v = Value.int i t from rx)
    cases (show u = Value.ref b from ry)
    obtain ⟨oe, J2, e2⟩ := inst_at I hb2
    obtain ⟨fo, h1⟩ := B.i1
    obtain ⟨ro, h2⟩ := B.i2
    have th : Third C sq E (.int i) (.ref b) H Q := ⟨b, dy, gs, i, rfl, rfl, hb2, q⟩
    obtain ⟨ga, gd, qs, eg, G1, G2⟩ := G th
    have hr2 : W.findIn X.K (.ref C) (dunderR nm) = some (some (.ref ga)) := by rw [B.hr, eg]; rfl
    refine b1_right I.kIn J2 (T := "int") rfl B.sf B.hs hr2 (B.hg ga eg) h1 h2 B.s2 (fun _ => hd th b dy i t s _ e2) fun t2 => ?_
    have I2 : Inv X pins σ H { s with toks := t2 } := I.tok t2
    exact wpAny_mono (run_fn (us := [.ref b, .int i t]) (vs := [.ref b, .int i]) G1 hr G2 .nil hx I2 (.cons rfl (.cons ⟨t, rfl⟩ .nil)) (by simpa using q)) fin fun _ _ z => z
theorem op_bin (h5 : Five op) {g : Addr} (B : OwnBin X.K C op.info.2 f (some g)) (F : FnOk X.prog X.w X.K X.mg X.base CX k f fd ps sp) (hb : Binds X.K fd ps []) (G : FnOk X.prog X.w X.K X.mg X.base CX k g gd qs sq) (hb2 : Binds X.K gd qs [])
    (hx : Passes CX X E) (hr : Room k X.A) : OpR X (binaryOp op) (rBin C sp sq E) := fun pins s σ H x y v u Q I rx ry h =>
  bin_of (b1_own B F hb hx hr (fun _ => ⟨g, gd, qs, rfl, G, hb2⟩) (fun _ y dx i u s E hy => decl_five h5 hy) I rx ry h)
theorem iop_bin (h5 : Five op) {g : Addr} (B : OwnBin X.K C op.info.2 f (some g)) (N : NoIn X.K C op.info.2) (F : FnOk X.prog X.w X.K X.mg X.base CX k f fd ps sp) (hb : Binds X.K fd ps []) (G : FnOk X.prog X.w X.K X.mg X.base CX k g gd qs sq) (hb2 : Binds X.K gd qs [])
    (hx : Passes CX X E) (hr : Room k X.A) : OpR X (inplaceOp op) (rBin C sp sq E) := fun pins s σ H x y v u Q I rx ry h => by
  have one := b1_own B F hb hx hr (fun _ => ⟨g, gd, qs, rfl, G, hb2⟩) (fun _ y dx i u s E hy => decl_five h5 hy) I rx ry h
  have left : (∃ a dx fs, x = .ref a ∧ H a = some (.ins C dx fs)) ∨ ∃ i, x = .int i := by
    rcases h with ⟨a, dx, fs, _, _, _, rfl, _, ha, _⟩ | ⟨a, dx, fs, _, rfl, _, ha, _⟩ | ⟨_, _, _, i, rfl, _⟩
    · exact .inl ⟨a, dx, fs, rfl, ha⟩
    · exact .inl ⟨a, dx, fs, rfl, ha⟩
    · exact .inr ⟨i, rfl⟩
  rcases left with ⟨a, dx, fs, rfl, ha⟩ | ⟨i, rfl⟩
  · cases (show v = Value.ref a from rx)
    obtain ⟨od, J, _⟩ := inst_at I ha
    obtain ⟨cd, hc, hm⟩ := N.mro
    exact iop_of (ta := .ref C) J.type (nofi_C I.kIn hc hm N.n1 N.n2) one
  · obtain ⟨t, rfl⟩ := (show ∃ t, v = Value.int i t from rx)
    exact iop_of (ta := .type "int") (W.Looks.of_pure rfl) (nofi_T I.kIn N.n3) one
/-- an instance on the left: the turned def does not matter -/
theorem op_left (B : OwnBin X.K C op.info.2 f g) (F : FnOk X.prog X.w X.K X.mg X.base CX k f fd ps sp) (hb : Binds X.K fd ps []) (hx : Passes CX X E) (hr : Room k X.A) : OpR X (binaryOp op) (rBin C sp (fun _ _ _ _ => False) E) :=
  fun pins s σ H x y v u Q I rx ry h => bin_of (b1_own B F hb hx hr (fun ⟨_, _, _, _, _, _, _, z⟩ => z.elim) (fun ⟨_, _, _, _, _, _, _, z⟩ => z.elim) I rx ry h)
/-- -x -/
theorem un_own (hs : W.findIn X.K (.ref C) "__neg__" = some (some (.ref f))) (hf : W.isFn X.K (.ref f) = true) (F : FnOk X.prog X.w X.K X.mg X.base CX k f fd ps sp) (hb : Binds X.K fd ps []) (hx : Passes CX X E) (hr : Room k X.A) :
    UnR X (unaryOp .USub) (fun x H Q => ∃ a dx fs, x = .ref a ∧ H a = some (.ins C dx fs) ∧ sp [x] H Q E) := fun pins s σ H x v Q I rx h => by
  obtain ⟨a, dx, fs, rfl, ha, q⟩ := h
  cases (show v = Value.ref a from rx)
  obtain ⟨od, J, _⟩ := inst_at I ha
  obtain ⟨m, hF⟩ := I.fr
  exact W.ksp_neg hF I.ok.mod.kin J hs hf (run_fn (us := [.ref a]) (vs := [.ref a]) F hr hb .nil hx I (.cons rfl .nil) (by simpa using q))
end
end Oo

set_option Elab.async false
set_option linter.all false
set_option maxRecDepth 100000
set_option maxHeartbeats 1000000
/-! abs, bool, str, repr of own instances; a staticmethod called by its class; // of great numbers of either sign. -/
namespace Oo
open PySem PySem.Spec PySem.W PyProof.Rows
section
variable {prog : Program} {w : World} {A : Around} {E : Value → Shared → Prop} {s : Shared} {K : Frag} {x y C f g : Addr} {ox oy : Obj} {od oe : Option Obj} {nm T : String}
theorem abs_own {Q : Value → Shared → Prop} (X : K.In s.heap) (I : InstAt s.heap x ox C od) (hs : findIn K (.ref C) "__abs__" = some (some (.ref f))) (hf : isFn K (.ref f) = true)
    (h : wpAny (model prog w) A.in1 (call (.ref f) [.ref x]) Q E s) : wpAny (model prog w) A (call (.builtin "abs") [.ref x]) Q E s := by
  refine Calls.call_function_entry kind_abs plain_abs entry_abs (args_abs _) ?_
  unfold Builtin.«abs»
  refine wpAny_bind (m := oneArg "abs" _) (wpAny_pure ?_)
  refine wpAny_bind (m := callSpecial? (.ref x) (Str.ofString "__abs__")) (special_fn X I hs (beq_iff_eq.mp hf) (wpAny_mono h (fun r s' hr => ?_) fun _ _ y => y))
  exact wpAny_pure ⟨_, rfl, hr⟩
theorem bool_own {Q : Value → Shared → Prop} (h : wpAny (model prog w) A.in1.in1 (truthy (.ref x)) (fun b s' => Q (.bool b) s') E s) : wpAny (model prog w) A (call (.type "bool") [.ref x]) Q E s := by
  refine callType_codes (T := "bool") (Bi := Builtin.«object.__init__») (Q₁ := fun r s₁ => ∃ b, r = Value.bool b ∧ Q r s₁) PySem.F.called_bool (PySem.F.typeCall_bool_1 _) PySem.F.entry_object_init ?_ ?_
  · refine codeAny_of_tree ?_
    show wpAny _ A.in1.in1 (do checkBuiltinCall "bool.__new__" ⟨[.type "bool", .ref x], []⟩; again (.builtin "bool.__new__" ⟨[.type "bool", .ref x], []⟩)) _ _ s
    refine wpAny_bind (wpAny_of_eq (PySem.F.newCall_bool_1 _) (wpAny_pure ⟨plainId_quiet (by decide +kernel) _, codeAny_builtin PySem.F.entry_bool_new ?_⟩))
    rw [Around.under_plainId (by decide +kernel) _]
    unfold Builtin.«bool.__new__»
    refine wpAny_bind (wpAny_of_eq (a := true) rfl ?_)
    refine PySem.W.KFB.if_not rfl ?_
    refine wpAny_bind (wpAny_of_eq (a := true) PySem.F.conv_sub_bool ?_)
    refine PySem.W.KFB.if_not rfl ?_
    refine wpAny_bind (wpAny_of_eq (a := [Value.ref x]) rfl ?_)
    refine wpAny_bind (wpAny_mono h (fun b s₁ hb => ?_) fun _ _ y => y)
    exact wpAny_pure ⟨_, rfl, hb⟩
  · rintro obj s₁ ⟨b, rfl, hq⟩
    exact ⟨PySem.typeIs_bool _ _, PySem.F.args_object_init_2 _ _, object_init_meets PySem.F.called_bool.init.lookup PySem.F.called_bool.made (by decide) prog w A.in1 _ s₁ ⟨PySem.typeIs_bool _ _, rfl, hq⟩⟩
end
end Oo
namespace Oo
open PySem PySem.Spec PyProof.Rows L2
section
variable {X : Cx} {CX : CXT} {pins : List (Addr × Obj)} {σ : L2.St} {H : Hp} {s : Shared} {C f : Addr} {k : Nat} {sp : Sp} {E : XK} {fd : FuncData} {ps : List Str}
/-- a def called below the running body -/
theorem run_atO {A : Around} {Q : VK} {us : List Value} {ws : List V} (F : FnOk X.prog X.w X.K X.mg X.base CX k f fd ps sp) (hb : Binds X.K fd ps []) (hr : Room k A) (e0 : Env0 X.prog X.w X.K X.mg X.base A X.stack s H) (hx : Passes CX X E) (I : Inv X pins σ H s)
    (r : Vals ws us) (h : sp ws H Q E) : wpAny (model X.prog X.w) A (call (.ref f) us) (EP X pins σ Q) X.xe s := by
  have hl : (us ++ []).length = ps.length := by rw [List.append_nil, ← r.length]; exact F.len _ _ _ _ h
  refine wpAny_call (codeAny_mono (F.run A X.stack s H ⟨us, []⟩ us ws Q E hr e0 (by simpa using hb s us I.kIn hl) r h) fun r s' hq => ?_)
  cases r with
  | error e => exact hx pins σ H s e s' I hq
  | ok fl =>
    cases fl with
    | ret u => exact I.after hq
    | next => exact False.elim hq
    | brk => exact False.elim hq
    | cont => exact False.elim hq
def rOne (C : Addr) (sp : Sp) (E : XK) (ok : V → Prop) : List V → Hp → VK → Prop := fun xs H Q => ∃ a dx fs, xs = [V.ref a] ∧ H a = some (.ins C dx fs) ∧ sp [.ref a] H (fun z H' => ok z ∧ Q z H') E
theorem call_absO (hs : W.findIn X.K (.ref C) "__abs__" = some (some (.ref f))) (hf : W.isFn X.K (.ref f) = true) (F : FnOk X.prog X.w X.K X.mg X.base CX k f fd ps sp) (hb : Binds X.K fd ps []) (hr : Room (k + 1) X.A) (hx : Passes CX X E) :
    CallR X (.builtin "abs") (rOne C sp E fun _ => True) := by
  intro pins s σ H xs us Q I r h
  obtain ⟨a, dx, fs, rfl, ha, q⟩ := h
  obtain ⟨u, rfl, ru⟩ := r.one
  cases (show u = Value.ref a from ru)
  obtain ⟨od, J, _⟩ := inst_at I ha
  exact abs_own I.kIn J hs hf (wpAny_mono (run_atO (us := [.ref a]) (ws := [.ref a]) F hb hr.in1 I.env0.in1 hx I (.cons rfl .nil) q) (fun v s' ⟨z, H', I', rz, _, qz⟩ => ⟨z, H', I', rz, qz⟩) fun _ _ z => z)
theorem call_reprO (hs : W.findIn X.K (.ref C) "__repr__" = some (some (.ref f))) (hf : W.isFn X.K (.ref f) = true) (F : FnOk X.prog X.w X.K X.mg X.base CX k f fd ps sp) (hb : Binds X.K fd ps []) (hr : Room (k + 1) X.A) (hx : Passes CX X E) :
    CallR X (.builtin "repr") (rOne C sp E fun z => ∃ t, z = .str t) := by
  intro pins s σ H xs us Q I r h
  obtain ⟨a, dx, fs, rfl, ha, q⟩ := h
  obtain ⟨u, rfl, ru⟩ := r.one
  cases (show u = Value.ref a from ru)
  obtain ⟨od, J, _⟩ := inst_at I ha
  obtain ⟨m, hF⟩ := I.fr
  refine W.repr_K (Room.in1 hr).units0 hF I.ok.mod.kin J hs hf (wpAny_mono (run_atO (us := [.ref a]) (ws := [.ref a]) F hb hr.in1 I.env0.in1 hx I (.cons rfl .nil) q) (fun v s' ⟨z, H', I', rz, ⟨t, ez⟩, qz⟩ => ?_) fun _ _ z => z)
  subst ez
  obtain ⟨t', rfl⟩ := (show ∃ t', v = Value.str t t' from rz)
  exact ⟨.str t, H', I', ⟨t', rfl⟩, qz⟩
theorem call_strO (hs : W.findIn X.K (.ref C) "__str__" = some (some (.ref f))) (hf : W.isFn X.K (.ref f) = true) (F : FnOk X.prog X.w X.K X.mg X.base CX k f fd ps sp) (hb : Binds X.K fd ps []) (hr : Room (k + 2) X.A) (hx : Passes CX X E) :
    CallR X (.type "str") (rOne C sp E fun z => ∃ t, z = .str t) := by
  intro pins s σ H xs us Q I r h
  obtain ⟨a, dx, fs, rfl, ha, q⟩ := h
  obtain ⟨u, rfl, ru⟩ := r.one
  cases (show u = Value.ref a from ru)
  obtain ⟨od, J, _⟩ := inst_at I ha
  have hr2 : Room k X.A.in1.in1 := (show Room (k + 1) X.A.in1 from Room.in1 hr).in1
  refine W.kso_call hr2.units0 I.kIn J hs hf (wpAny_mono (run_atO (us := [.ref a]) (ws := [.ref a]) F hb hr2 I.env0.in1.in1 hx I (.cons rfl .nil) q) (fun v s' ⟨z, H', I', rz, ⟨t, ez⟩, qz⟩ => ?_) fun _ _ z => z)
  subst ez
  obtain ⟨t', rfl⟩ := (show ∃ t', v = Value.str t t' from rz)
  exact ⟨.str t, H', I', ⟨t', rfl⟩, qz⟩
theorem call_boolO (hs : W.findIn X.K (.ref C) "__bool__" = some (some (.ref f))) (hf : W.isFn X.K (.ref f) = true) (F : FnOk X.prog X.w X.K X.mg X.base CX k f fd ps sp) (hb : Binds X.K fd ps []) (hr : Room (k + 2) X.A) (hx : Passes CX X E) :
    CallR X (.type "bool") (rOne C sp E fun z => ∃ t, z = .bl t) := by
  intro pins s σ H xs us Q I r h
  obtain ⟨a, dx, fs, rfl, ha, q⟩ := h
  obtain ⟨u, rfl, ru⟩ := r.one
  cases (show u = Value.ref a from ru)
  obtain ⟨od, J, _⟩ := inst_at I ha
  obtain ⟨m, hF⟩ := I.fr
  have hr2 : Room k X.A.in1.in1 := (show Room (k + 1) X.A.in1 from Room.in1 hr).in1
  refine bool_own (W.truthy_K hF I.ok.mod.kin J hs hf (wpAny_mono (run_atO (us := [.ref a]) (ws := [.ref a]) F hb hr2 I.env0.in1.in1 hx I (.cons rfl .nil) q) (fun v s' ⟨z, H', I', rz, ⟨t, ez⟩, qz⟩ => ?_) fun _ _ z => z))
  subst ez
  cases (show v = Value.bool t from rz)
  exact ⟨.bl t, H', I', rfl, qz⟩
/-- a // b, b not 0, of any sign -/
def CDivX (_ j : Int) : Prop := j ≠ 0 ∧ j.natAbs.log2 < 9000
theorem op_fdivX : OpR X (binaryOp .FloorDiv) (rI CDivX fun i j => .int (i.fdiv j)) := opI fun i j _ _ _ _ _ hc q => by
  exact floordiv_int hc.1 q (.inl (PyProof.noPylong_of_log2 hc.2))
/-- C.m(..), m a staticmethod: its record at p, its def at g -/
structure SMet (K : W.Frag) (C : Addr) (mc : Value) (m : Str) (p g : Addr) : Prop where
  at_ : W.findCls K (.ref C) mc m = some (.get (.builtin "staticmethod.__get__") (.ref p) .none (.ref C))
  ty : W.typeIn K (.ref C) = some mc
  rc : ∃ rest, W.recIn K p "staticmethod" = some (.ref g :: rest)
  kp : W.keepIn K (.ref g) = true
def tSMeth (C : Addr) (sp : Sp) (E : XK) (ta : TE) (t : TA) : TE := fun σ H Q => ta σ H fun x H1 => x = .ref C ∧ t σ H1 fun vs H2 => sp vs H2 Q E
theorem pe_smeth {o e : Expr} {es : List Expr} {m : Str} {pos apos : Pos} {ta : TE} {t : TA} {pl : Sem Bool} {p : Addr} {mc : Value} (he : PE X o ta) (r : ClX.CRead X.K C mc) (c : SMet X.K C mc m p f) (F : FnOk X.prog X.w X.K X.mg X.base CX k f fd ps sp) (hb : Binds X.K fd ps [])
    (hr : Room k X.A) (hx : Passes CX X E) (ha : PA X (e :: es) t)
    (hst : starEach (e :: es) X.env = (false, eval e X.env) :: starEach es X.env := by rfl) (hpl : (backTo pos (starEach es X.env)).any (·.1) = false := by rfl)
    (ht : eval (.Call (.Attribute o m apos) (e :: es) [] pos) X.env = (do
      let ov ← eval o X.env
      standAt apos.atName
      let (f, first) ← holding [ov] (getMethod ov m pl)
      callWith pos f first (backTo pos (starEach (e :: es) X.env)) (backToKw pos (keywordEach [] X.env))) := by rfl) :
    PE X (.Call (.Attribute o m apos) (e :: es) [] pos) (tSMeth C sp E ta t) := by
  refine ⟨fun pins s σ H Q I h => ?_⟩
  refine PySem.W.methodCall_KW (pl := pl) (thn (he.run pins s σ H _ I h) fun u s1 ⟨x, H1, I1, rx, ex, q⟩ => ?_) ht
  subst ex
  obtain rfl : u = Value.ref C := rx
  obtain ⟨rest, hp⟩ := c.rc
  obtain ⟨m1, hF⟩ := I1.fr
  refine PySem.W.method_cls I1.kIn r.ga (PySem.W.cls_sm hF I1.ok.mod.kin c.ty r.rd c.at_ hp rfl ?_)
  have I2 : Inv X pins σ H1 { s1 with toks := s1.toks + 1 } := I1.tok _
  refine PySem.W.callWith_K (first := []) (h₀ := X.base) I2.ok.mod.kin c.kp (thn (ha.run pos pins _ σ H1 _ I2 q) fun us s2 ⟨vs, H2, I3, rv, q2⟩ => ⟨I3.kIn, ?_⟩) hst hpl
  exact run_fn F hr hb .nil hx I3 rv (by simpa using q2)
end
end Oo

set_option Elab.async false
set_option linter.all false
set_option maxRecDepth 100000
set_option maxHeartbeats 1000000
/-! Amounts: instances that hold a rational number in lowest terms. -/
namespace Am
open PySem PySem.Spec PyProof.Rows L2 Oo
/-- all that stands, stands on -/
def Ext (H H' : Hp) : Prop := ∀ b o, H b = some o → H' b = some o
theorem Ext.refl (H : Hp) : Ext H H := fun _ _ h => h
theorem Ext.trans {H H1 H2 : Hp} (a : Ext H H1) (b : Ext H1 H2) : Ext H H2 := fun c o h => b c o (a c o h)
theorem Ext.new {H : Hp} {a : Addr} {o : HO} (n : H a = none) : Ext H (upd H a o) := fun b u e => by rw [upd_ne (ne_of_none e n)]; exact e
theorem Ext.then {H H' : Hp} {a : Addr} {o : HO} (x : Ext H H') (n : H' a = none) : Ext H (upd H' a o) := x.trans (Ext.new n)
theorem Ext.seq {K : W.Frag} {H H' : Hp} {p : Addr} {xs : List V} (e : Ext H H') (h : SqL K H p xs) : SqL K H' p xs := by
  rcases h with (h | ⟨o, h⟩) | h
  · exact .inl (.inl (e _ _ h))
  · exact .inl (.inr ⟨o, e _ _ h⟩)
  · exact .inr h
theorem Ext.gone {H H' : Hp} {p : Addr} (e : Ext H H') (h : H' p = none) : H p = none := by
  cases z : H p with
  | none => rfl
  | some o => rw [e p o z] at h; cases h
def flds (q : Rat) : List (Str × V) := [("_top", .int q.num), ("_bottom", .int q.den)]
theorem ntb : ("_bottom" : Str) ≠ "_top" := by decide +kernel
theorem lk_top (q : Rat) : (flds q).lookup ("_top" : Str) = some (.int q.num) := by
  show List.lookup ("_top" : Str) (("_top", V.int q.num) :: _) = _
  rw [List.lookup_cons_self]
theorem lk_bot (q : Rat) : (flds q).lookup ("_bottom" : Str) = some (.int q.den) := by
  show List.lookup ("_bottom" : Str) [("_top", V.int q.num), ("_bottom", V.int q.den)] = _
  rw [List.lookup_cons, beq_eq_false_iff_ne.mpr ntb, List.lookup_cons_self]
theorem flds_of (n d : Int) (q : Rat) (hn : n = q.num) (hd : d = q.den) : putF "_bottom" (.int d) (putF "_top" (.int n) []) = flds q := by
  subst hn hd
  show (if ("_top" : Str) = "_bottom" then _ else (("_top" : Str), V.int q.num) :: [(("_bottom" : Str), V.int q.den)]) = _
  rw [if_neg (Ne.symm ntb)]
  rfl
/-- an Amount of the class at C stands at a: the number q -/
def Is (C : Addr) (H : Hp) (a : Addr) (q : Rat) : Prop := ∃ dx, H a = some (.ins C dx (flds q))
theorem Is.ext {C a : Addr} {H H' : Hp} {q : Rat} (h : Is C H a q) (e : Ext H H') : Is C H' a q := let ⟨dx, z⟩ := h; ⟨dx, e _ _ z⟩
theorem Is.ins {C a : Addr} {H : Hp} {q : Rat} (h : Is C H a q) : ∃ dx fs, H a = some (.ins C dx fs) := let ⟨dx, z⟩ := h; ⟨dx, _, z⟩
/-- v is a NUMBER: q -/
def Num (C : Addr) (H : Hp) (v : V) (q : Rat) : Prop := (∃ i : Int, v = .int i ∧ q = (i : Rat)) ∨ ∃ a, v = .ref a ∧ Is C H a q
theorem Num.ext {C : Addr} {H H' : Hp} {v : V} {q : Rat} (h : Num C H v q) (e : Ext H H') : Num C H' v q := h.imp (fun z => z) fun ⟨a, z, i⟩ => ⟨a, z, i.ext e⟩
theorem Num.is {C a : Addr} {H : Hp} {q : Rat} (h : Is C H a q) : Num C H (.ref a) q := .inr ⟨a, rfl, h⟩
theorem Num.int {C : Addr} {H : Hp} (i : Int) : Num C H (.int i) (i : Rat) := .inl ⟨i, rfl, rfl⟩
/-- no larger than the machine takes -/
def Sz (q : Rat) : Prop := q.num.natAbs < 2 ^ 4000 ∧ q.den < 2 ^ 4000
/-- a new Amount -/
def New (C : Addr) (H : Hp) (Q : VK) (q : Rat) : Prop := ∀ (r : Addr) (H' : Hp), Ext H H' → H r = none → Is C H' r q → Q (.ref r) H'
/-- what the text says of the class -/
structure Cl (K : W.Frag) (C : Addr) : Prop where
  cl : Cls K C
  nT : NoAttr K C "_top"
  nB : NoAttr K C "_bottom"
/-! ### promises -/
def spGet (C : Addr) (g : Rat → V) : Sp := fun vs H Q _ => ∃ a q, vs = [.ref a] ∧ Is C H a q ∧ Q (g q) H
def spInit (C : Addr) : Sp := fun vs H Q _ => ∃ (x dx : Addr) (n d : Int), vs = [.ref x, .int n, .int d] ∧ H x = some (.ins C dx []) ∧ d ≠ 0 ∧ n.natAbs < 2 ^ 8999 ∧ d.natAbs < 2 ^ 8999 ∧
  Q .non (upd H x (.ins C dx (flds (Rat.divInt n d))))
def spOf (C : Addr) : Sp := fun vs H Q _ => ∃ v q, vs = [v] ∧ Num C H v q ∧ Sz q ∧ ∀ (r : Addr) (H' : Hp), Ext H H' → Is C H' r q → Q (.ref r) H'
def spOp (C : Addr) (f : Rat → Rat → Rat) : Sp := fun vs H Q _ => ∃ a y q p, vs = [.ref a, y] ∧ Is C H a q ∧ Num C H y p ∧ Sz q ∧ Sz p ∧ New C H Q (f q p)
def spUn (C : Addr) (f : Rat → Rat) : Sp := fun vs H Q _ => ∃ a q, vs = [.ref a] ∧ Is C H a q ∧ Sz q ∧ New C H Q (f q)
/-- .. of a divisor: 0 is refused by the error of the class at Z, which tells None -/
def Zero (Z : Addr) (H : Hp) (E : XK) : Prop := ∀ e d : Addr, H e = none → H d = none → d ≠ e → E (.ref Z) (some d) (Gx.leftH H Z e d [("rule", .non)])
/-! ### rules -/
def tGet (C : Addr) (g : Rat → V) (ta : TE) : TE := fun σ H Q => ta σ H fun x H1 => ∃ a q, x = .ref a ∧ Is C H1 a q ∧ Q (g q) H1
section
variable {X : Cx} {CX : CXT} {C : Addr} {e : Expr} {pos : Pos} {ta : TE} {k : Nat} {sp : Sp} {E : XK}
theorem pe_top (T : Cl X.K C) (he : PE X e ta) (hb : attributeBase e "_top" X.env (eval e X.env) = eval e X.env := by rfl) : PE X (.Attribute e "_top" pos) (tGet C (fun q => .int q.num) ta) := by
  refine ⟨fun pins s σ H Q I h => ?_⟩
  refine attr_of hb (thn (he.run pins s σ H _ I h) fun u s1 ⟨x, H1, I1, rx, a, q, ex, ⟨dx, ea⟩, z⟩ => ?_)
  subst ex
  obtain rfl : u = Value.ref a := rx
  exact getattr_ok I1 ea T.cl T.nT (lk_top q) fun u' s2 I2 ru => ⟨_, H1, I2, ru, z⟩
theorem pe_bot (T : Cl X.K C) (he : PE X e ta) (hb : attributeBase e "_bottom" X.env (eval e X.env) = eval e X.env := by rfl) : PE X (.Attribute e "_bottom" pos) (tGet C (fun q => .int q.den) ta) := by
  refine ⟨fun pins s σ H Q I h => ?_⟩
  refine attr_of hb (thn (he.run pins s σ H _ I h) fun u s1 ⟨x, H1, I1, rx, a, q, ex, ⟨dx, ea⟩, z⟩ => ?_)
  subst ex
  obtain rfl : u = Value.ref a := rx
  exact getattr_ok I1 ea T.cl T.nB (lk_bot q) fun u' s2 I2 ru => ⟨_, H1, I2, ru, z⟩
theorem pe_pr {f : Str} {p g : Addr} {gv : Rat → V} {fd : FuncData} {ps : List Str} (T : Cl X.K C) (hp : PropOf X.K C f p g) (F : FnOk X.prog X.w X.K X.mg X.base CX0 k g fd ps (spGet C gv)) (hb2 : Binds X.K fd ps []) (hr : Room (k + 1) X.A) (he : PE X e ta)
    (hb : attributeBase e f X.env (eval e X.env) = eval e X.env := by rfl) : PE X (.Attribute e f pos) (tGet C gv ta) := by
  refine ⟨fun pins s σ H Q I h => ?_⟩
  refine attr_of hb (thn (he.run pins s σ H _ I h) fun u s1 ⟨x, H1, I1, rx, a, q, ex, ia, z⟩ => ?_)
  subst ex
  obtain rfl : u = Value.ref a := rx
  obtain ⟨dx, ea⟩ := id ia
  exact getprop_ok (E := E0) I1 ea T.cl hp F hr hb2 .nil pass0 ⟨a, q, rfl, ia, z⟩
end
/-! ### arithmetic -/
theorem bits {n : Nat} {i : Int} (h : i.natAbs < 2 ^ n) (hn : n ≤ 8999) : i.natAbs.log2 < 9000 := by
  by_cases z : i.natAbs = 0
  · rw [z]; decide
  · exact Nat.lt_of_lt_of_le ((Nat.log2_lt z).mpr h) (by omega)
theorem mul_bits {n m : Nat} {i j : Int} (hi : i.natAbs < 2 ^ n) (hj : j.natAbs < 2 ^ m) : (i * j).natAbs < 2 ^ (n + m) := wide_lt hi hj
theorem mulOk {n m : Nat} {i j : Int} (hi : i.natAbs < 2 ^ n) (hj : j.natAbs < 2 ^ m) (hn : n ≤ 8999) (hm : m ≤ 8999) : CMulW i j := by
  have a := bits hi hn
  have b := bits hj hm
  show i.natAbs.log2 + j.natAbs.log2 < 1000000
  omega
theorem add_bits {n : Nat} {i j : Int} (hi : i.natAbs < 2 ^ n) (hj : j.natAbs < 2 ^ n) : (i + j).natAbs < 2 ^ (n + 1) := by
  have h2 : (2 : Nat) ^ (n + 1) = 2 ^ n + 2 ^ n := by rw [Nat.pow_succ]; omega
  rw [h2]
  omega
theorem more_bits {n m : Nat} {i : Int} (hi : i.natAbs < 2 ^ n) (h : n ≤ m) : i.natAbs < 2 ^ m := Nat.lt_of_lt_of_le hi (Nat.pow_le_pow_right (by decide) h)
/-- what the class's two divisions give -/
theorem low_num (n d : Int) (h : d ≠ 0) : n.fdiv (if d < 0 then -((n.natAbs.gcd d.natAbs : Nat) : Int) else ((n.natAbs.gcd d.natAbs : Nat) : Int)) = (Rat.divInt n d).num := by
  rw [Rat.num_divInt]
  have e : d.gcd n = n.natAbs.gcd d.natAbs := by
    show d.natAbs.gcd n.natAbs = _
    exact Nat.gcd_comm _ _
  have dv : ((n.natAbs.gcd d.natAbs : Nat) : Int) ∣ n := Int.ofNat_dvd_left.mpr (Nat.gcd_dvd_left _ _)
  have g0 : ((n.natAbs.gcd d.natAbs : Nat) : Int) ≠ 0 := by
    have : 0 < n.natAbs.gcd d.natAbs := Nat.gcd_pos_of_pos_right _ (by omega)
    omega
  rw [e]
  generalize ((n.natAbs.gcd d.natAbs : Nat) : Int) = g at dv g0 ⊢
  obtain ⟨k, rfl⟩ := dv
  by_cases hd : d < 0
  · rw [if_pos hd, Int.sign_eq_neg_one_of_neg hd]
    have e1 : g * k = (-g) * (-k) := by rw [Int.neg_mul_neg]
    have e2 : -1 * (g * k) = g * (-k) := by rw [Int.neg_one_mul, Int.mul_neg]
    rw [e2, Int.mul_ediv_cancel_left _ g0, e1, Int.mul_fdiv_cancel_left _ (by omega)]
  · rw [if_neg hd, Int.sign_eq_one_of_pos (by omega), Int.one_mul, Int.mul_ediv_cancel_left _ g0, Int.mul_fdiv_cancel_left _ g0]
theorem low_den (n d : Int) (h : d ≠ 0) : d.fdiv (if d < 0 then -((n.natAbs.gcd d.natAbs : Nat) : Int) else ((n.natAbs.gcd d.natAbs : Nat) : Int)) = ((Rat.divInt n d).den : Int) := by
  rw [Rat.den_divInt, if_neg h]
  have e : d.gcd n = n.natAbs.gcd d.natAbs := by
    show d.natAbs.gcd n.natAbs = _
    exact Nat.gcd_comm _ _
  have g0 : 0 < n.natAbs.gcd d.natAbs := Nat.gcd_pos_of_pos_right _ (by omega)
  obtain ⟨k, hk⟩ : n.natAbs.gcd d.natAbs ∣ d.natAbs := Nat.gcd_dvd_right _ _
  rw [e]
  have key : ∀ g k : Nat, 0 < g → d.natAbs = g * k → d.fdiv (if d < 0 then -(g : Int) else (g : Int)) = ((d.natAbs / g : Nat) : Int) := by
    intro g k g0 hk
    rw [hk, Nat.mul_div_cancel_left _ g0]
    have gz : (g : Int) ≠ 0 := by omega
    have this : ((d.natAbs : Nat) : Int) = ((g * k : Nat) : Int) := by rw [hk]
    rw [Int.natCast_mul] at this
    by_cases hd : d < 0
    · rw [if_pos hd]
      have ed : d = (-(g : Int)) * (k : Int) := by
        rw [Int.neg_mul]
        omega
      rw [ed, Int.mul_fdiv_cancel_left _ (by omega)]
    · rw [if_neg hd]
      have ed : d = (g : Int) * (k : Int) := by omega
      rw [ed, Int.mul_fdiv_cancel_left _ gz]
  exact key _ k g0 hk
theorem add_rat (q p : Rat) : Rat.divInt (q.num * (p.den : Int) + p.num * (q.den : Int)) ((q.den : Int) * (p.den : Int)) = q + p := by
  conv => rhs; rw [← Rat.num_divInt_den q, ← Rat.num_divInt_den p]
  rw [Rat.divInt_add_divInt _ _ (by have := q.den_pos; omega) (by have := p.den_pos; omega)]
theorem mul_rat (q p : Rat) : Rat.divInt (q.num * p.num) ((q.den : Int) * (p.den : Int)) = q * p := by
  conv => rhs; rw [← Rat.num_divInt_den q, ← Rat.num_divInt_den p]
  rw [Rat.divInt_mul_divInt]
theorem neg_rat (q : Rat) : Rat.divInt (-q.num) (q.den : Int) = -q := by
  conv => rhs; rw [← Rat.num_divInt_den q]
  rw [Rat.neg_divInt]
theorem div_rat (q p : Rat) : Rat.divInt (q.num * (p.den : Int)) ((q.den : Int) * p.num) = q / p := by
  rw [Rat.div_def, Rat.inv_def]
  conv => rhs; rw [← Rat.num_divInt_den q]
  rw [Rat.divInt_mul_divInt]
theorem int_rat (i : Int) : Rat.divInt i 1 = (i : Rat) := by
  rw [show (1 : Int) = ((1 : Nat) : Int) from rfl, Rat.divInt_ofNat]
  exact Rat.ext (by simp [Rat.num_mkRat]) (by simp [Rat.den_mkRat])

/-! ### the class's own call -/
/-- what a body asks of the class's making -/
structure Base (P : Program) (w : World) (K : W.Frag) (mg : Str → Option Value) (base : Heap) (C : Addr) : Prop where
  T : Cl K C
  mgA : mg "Amount" = some (.ref C)
  make : ∃ fI fd, Mk K C fI ∧ FnOk P w K mg base CX0 2 fI fd ["self", "top", "bottom"] (spInit C) ∧ Binds K fd ["self", "top", "bottom"] [] ∧ ∃ ds, Vals [V.int 1] ds ∧ Binds K fd ["self", "top", "bottom"] ds
  top : ∃ p g fd, PropOf K C "top" p g ∧ FnOk P w K mg base CX0 1 g fd ["self"] (spGet C fun q => .int q.num) ∧ Binds K fd ["self"] []
  bot : ∃ p g fd, PropOf K C "bottom" p g ∧ FnOk P w K mg base CX0 1 g fd ["self"] (spGet C fun q => .int q.den) ∧ Binds K fd ["self"] []
  sgn : ∃ p g fd, PropOf K C "sign" p g ∧ FnOk P w K mg base CX0 1 g fd ["self"] (spGet C fun q => .int q.num.sign) ∧ Binds K fd ["self"] []
structure Of (P : Program) (w : World) (K : W.Frag) (mg : Str → Option Value) (base : Heap) (C : Addr) : Prop where
  of : ∃ mc p g fd, ClX.CRead K C mc ∧ SMet K C mc "of" p g ∧ FnOk P w K mg base CX0 4 g fd ["number"] (spOf C) ∧ Binds K fd ["number"] []
def tMk2 (C : Addr) (t : TA) : TE := fun σ H Q => t σ H fun vs H1 => ∃ n d : Int, vs = [.int n, .int d] ∧ d ≠ 0 ∧ n.natAbs < 2 ^ 8999 ∧ d.natAbs < 2 ^ 8999 ∧ New C H1 Q (Rat.divInt n d)
def tMk1 (C : Addr) (t : TA) : TE := fun σ H Q => t σ H fun vs H1 => ∃ n : Int, vs = [.int n] ∧ n.natAbs < 2 ^ 8999 ∧ New C H1 Q (n : Rat)
def tOf (C : Addr) (ta : TE) (t : TA) : TE := tSMeth C (spOf C) E0 ta t
section
variable {X : Cx} {C : Addr} {p pos apos : Pos} {e e2 o : Expr} {es : List Expr} {t : TA} {ta : TE} {k : Nat}
theorem new_made {H : Hp} {Q : VK} {q : Rat} {n d : Int} (hd : d ≠ 0) (hq : q = Rat.divInt n d) (h1 : n.natAbs < 2 ^ 8999) (h2 : d.natAbs < 2 ^ 8999) (h : New C H Q q) :
    ∀ x dx, H x = none → H dx = none → dx ≠ x → spInit C (V.ref x :: ([V.int n, V.int d])) (upd (upd H dx (.own x)) x (.ins C dx [])) (fun v H2 => v = .non ∧ Q (.ref x) H2) E0 := by
  intro x dx hx hdx ne
  refine ⟨x, dx, n, d, rfl, upd_same, hd, h1, h2, rfl, h x _ ?_ hx ⟨dx, ?_⟩⟩
  · intro b u e
    have nx := ne_of_none e hx
    rw [upd_ne nx, upd_ne nx, upd_ne (ne_of_none e hdx)]
    exact e
  · rw [upd_same, hq]
theorem pe_mk2 (B : Base X.prog X.w X.K X.mg X.base C) (hr : Room 3 X.A) (hg : Gl X "Amount") (ha : PA X (e :: es) t) (he : starEach (e :: es) X.env = (false, eval e X.env) :: starEach es X.env := by rfl) (hpl : (backTo pos (starEach es X.env)).any (·.1) = false := by rfl) :
    PE X (.Call (.Name "Amount" p) (e :: es) [] pos) (tMk2 C t) := by
  obtain ⟨fI, fd, M, F, b2, _⟩ := B.make
  refine ⟨fun pins s σ H Q I h => ?_⟩
  refine wpAny_Call_Name_kw (ld_glob I hg B.mgA ?_ (by decide))
  refine PySem.W.callWith_K (h₀ := X.base) I.ok.mod.kin M.kp (thn (ha.run pos pins s σ H _ I h) fun us s1 ⟨vs, H1, I1, r, n, d, ev, hd, h1, h2, q⟩ => ⟨I1.kIn, ?_⟩) he hpl
  subst ev
  exact run_make (E := E0) M F hr b2 .nil pass0 I1 r (by simpa using new_made hd rfl h1 h2 q)
theorem pe_mk1 (B : Base X.prog X.w X.K X.mg X.base C) (hr : Room 3 X.A) (hg : Gl X "Amount") (ha : PA X (e :: es) t) (he : starEach (e :: es) X.env = (false, eval e X.env) :: starEach es X.env := by rfl) (hpl : (backTo pos (starEach es X.env)).any (·.1) = false := by rfl) :
    PE X (.Call (.Name "Amount" p) (e :: es) [] pos) (tMk1 C t) := by
  obtain ⟨fI, fd, M, F, _, ds, hv, b1⟩ := B.make
  refine ⟨fun pins s σ H Q I h => ?_⟩
  refine wpAny_Call_Name_kw (ld_glob I hg B.mgA ?_ (by decide))
  refine PySem.W.callWith_K (h₀ := X.base) I.ok.mod.kin M.kp (thn (ha.run pos pins s σ H _ I h) fun us s1 ⟨vs, H1, I1, r, n, ev, h1, q⟩ => ⟨I1.kIn, ?_⟩) he hpl
  subst ev
  exact run_make (E := E0) M F hr b1 hv pass0 I1 r (by simpa using new_made (d := 1) (by decide) (int_rat n).symm h1 (by decide) q)
theorem pe_of (O : Of X.prog X.w X.K X.mg X.base C) (hr : Room 4 X.A) (ho : PE X o ta) (ha : PA X [e] t) {pl : Sem Bool}
    (hst : starEach [e] X.env = (false, eval e X.env) :: starEach [] X.env := by rfl) (hpl : (backTo pos (starEach [] X.env)).any (·.1) = false := by rfl)
    (ht : eval (.Call (.Attribute o "of" apos) [e] [] pos) X.env = (do
      let ov ← eval o X.env
      standAt apos.atName
      let (f, first) ← holding [ov] (getMethod ov "of" pl)
      callWith pos f first (backTo pos (starEach [e] X.env)) (backToKw pos (keywordEach [] X.env))) := by rfl) : PE X (.Call (.Attribute o "of" apos) [e] [] pos) (tOf C ta t) := by
  obtain ⟨mc, p, g, fd, R, S, F, b⟩ := O.of
  exact pe_smeth (pl := pl) ho R S F b hr pass0 ha hst hpl ht
theorem pe_pTop (B : Base X.prog X.w X.K X.mg X.base C) (hr : Room 2 X.A) (he : PE X e ta) (hb : attributeBase e "top" X.env (eval e X.env) = eval e X.env := by rfl) : PE X (.Attribute e "top" pos) (tGet C (fun q => .int q.num) ta) := by
  obtain ⟨p, g, fd, hp, F, b⟩ := B.top
  exact pe_pr B.T hp F b hr he hb
theorem pe_pBot (B : Base X.prog X.w X.K X.mg X.base C) (hr : Room 2 X.A) (he : PE X e ta) (hb : attributeBase e "bottom" X.env (eval e X.env) = eval e X.env := by rfl) : PE X (.Attribute e "bottom" pos) (tGet C (fun q => .int q.den) ta) := by
  obtain ⟨p, g, fd, hp, F, b⟩ := B.bot
  exact pe_pr B.T hp F b hr he hb
theorem pe_pSgn (B : Base X.prog X.w X.K X.mg X.base C) (hr : Room 2 X.A) (he : PE X e ta) (hb : attributeBase e "sign" X.env (eval e X.env) = eval e X.env := by rfl) : PE X (.Attribute e "sign" pos) (tGet C (fun q => .int q.num.sign) ta) := by
  obtain ⟨p, g, fd, hp, F, b⟩ := B.sgn
  exact pe_pr B.T hp F b hr he hb
end
/-! ### operators by values -/
/-- x op y, x an Amount, y a NUMBER -/
def rL (C : Addr) (f : Rat → Rat → Rat) : R2 := fun x y H Q => ∃ a q p, x = .ref a ∧ Is C H a q ∧ Num C H y p ∧ Sz q ∧ Sz p ∧ New C H Q (f q p)
/-- x op y, both NUMBERS, one an Amount -/
def rN (C : Addr) (f : Rat → Rat → Rat) : R2 := fun x y H Q => ∃ q p, Num C H x q ∧ Num C H y p ∧ ((∃ a, x = .ref a) ∨ ∃ a, y = .ref a) ∧ Sz q ∧ Sz p ∧ New C H Q (f q p)
section
variable {X : Cx} {C f g : Addr} {k : Nat} {op : Operator} {fd gd : FuncData} {ps qs : List Str} {h : Rat → Rat → Rat}
theorem op_L {go : Option Addr} (B : OwnBin X.K C op.info.2 f go) (F : FnOk X.prog X.w X.K X.mg X.base CX0 k f fd ps (spOp C h)) (hb : Binds X.K fd ps []) (hr : Room k X.A) : OpR X (binaryOp op) (rL C h) := fun pins s σ H x y v u Q I rx ry hh => by
  obtain ⟨a, q, p, rfl, ia, ny, sq, sp, nw⟩ := hh
  obtain ⟨dx, ea⟩ := id ia
  have prom : spOp C h [V.ref a, y] H Q E0 := ⟨a, y, q, p, rfl, ia, ny, sq, sp, nw⟩
  have one : rBin C (spOp C h) (fun _ _ _ _ => False) E0 (.ref a) y H Q := by
    rcases id ny with ⟨i, rfl, _⟩ | ⟨b, rfl, dy, eb⟩
    · exact .inr (.inl ⟨a, dx, _, i, rfl, rfl, ea, prom⟩)
    · exact .inl ⟨a, dx, _, b, dy, _, rfl, rfl, ea, eb, prom⟩
  exact op_left B F hb pass0 hr pins s σ H _ _ v u Q I rx ry one
theorem conv_bin {H : Hp} {x y : V} {Q : VK} {sp sq : Sp} {E : XK} (hsp : ∀ a y q p, Is C H a q → Num C H y p → Sz q → Sz p → New C H Q (h q p) → sp [V.ref a, y] H Q E) (hsq : ∀ a y q p, Is C H a q → Num C H y p → Sz q → Sz p → New C H Q (h p q) → sq [V.ref a, y] H Q E)
    (hh : rN C h x y H Q) : rBin C sp sq E x y H Q := by
  obtain ⟨q, p, nx, ny, one, sq', sp', nw⟩ := hh
  rcases id nx with ⟨i, rfl, _⟩ | ⟨a, rfl, ia⟩
  · rcases id ny with ⟨j, rfl, _⟩ | ⟨b, rfl, ib⟩
    · rcases one with ⟨_, z⟩ | ⟨_, z⟩ <;> cases z
    · obtain ⟨dy, eb⟩ := id ib
      exact .inr (.inr ⟨b, dy, _, i, rfl, rfl, eb, hsq b _ p q ib nx sp' sq' nw⟩)
  · obtain ⟨dx, ea⟩ := id ia
    have z := hsp a y q p ia ny sq' sp' nw
    rcases id ny with ⟨j, rfl, _⟩ | ⟨b, rfl, dy, eb⟩
    · exact .inr (.inl ⟨a, dx, _, j, rfl, rfl, ea, z⟩)
    · exact .inl ⟨a, dx, _, b, dy, _, rfl, rfl, ea, eb, z⟩
theorem op_N (h5 : Five op) (B : OwnBin X.K C op.info.2 f (some g)) (F : FnOk X.prog X.w X.K X.mg X.base CX0 k f fd ps (spOp C h)) (hb : Binds X.K fd ps []) (G : FnOk X.prog X.w X.K X.mg X.base CX0 k g gd qs (spOp C fun q p => h p q)) (hb2 : Binds X.K gd qs []) (hr : Room k X.A) :
    OpR X (binaryOp op) (rN C h) := fun pins s σ H x y v u Q I rx ry hh =>
  op_bin (E := E0) h5 B F hb G hb2 pass0 hr pins s σ H x y v u Q I rx ry (conv_bin (fun a y q p i n z z' w => ⟨a, y, q, p, rfl, i, n, z, z', w⟩) (fun a y q p i n z z' w => ⟨a, y, q, p, rfl, i, n, z, z', w⟩) hh)
theorem iop_N (h5 : Five op) (B : OwnBin X.K C op.info.2 f (some g)) (N : NoIn X.K C op.info.2) (F : FnOk X.prog X.w X.K X.mg X.base CX0 k f fd ps (spOp C h)) (hb : Binds X.K fd ps []) (G : FnOk X.prog X.w X.K X.mg X.base CX0 k g gd qs (spOp C fun q p => h p q)) (hb2 : Binds X.K gd qs []) (hr : Room k X.A) :
    OpR X (inplaceOp op) (rN C h) := fun pins s σ H x y v u Q I rx ry hh =>
  iop_bin (E := E0) h5 B N F hb G hb2 pass0 hr pins s σ H x y v u Q I rx ry (conv_bin (fun a y q p i n z z' w => ⟨a, y, q, p, rfl, i, n, z, z', w⟩) (fun a y q p i n z z' w => ⟨a, y, q, p, rfl, i, n, z, z', w⟩) hh)
end
end Am

set_option Elab.async false
set_option linter.all false
set_option maxRecDepth 100000
set_option maxHeartbeats 1000000
/-! The methods of Amount. -/
namespace KA
open PySem PySem.Spec PyProof.Rows L2 Oo Gd Am
section
variable {P : Program} {w : World} {K : W.Frag} {mg : Str → Option Value} {base : Heap} {C f : Addr} {fd : FuncData}
/-! ### is_whole -/
def spWhole : Sp := fun vs H Q _ => ∃ i : Int, vs = [.int i] ∧ Q (.bl true) H
theorem scWhole : FnScope ["value"] ["value"] (defScope (top 9)) := ⟨rfl, rfl, rfl, by decide +kernel, rfl, by decide +kernel, by decide +kernel⟩
theorem ok_whole (fr : Frees mg) (F : Fun K "is_whole" "is_whole" (top 9) f fd) : FnOk P w K mg base CX0 1 f fd ["value"] spWhole := by
  refine F.ok scWhole (fun vs H Q E h => ?_) (fun cdv A outer s H vs Q E hr h => ?_)
  · obtain ⟨i, rfl, _⟩ := h
    rfl
  · obtain ⟨i, rfl, q⟩ := h
    refine ⟨_, pss_one (ps_ret (pe_and (pe_callB call_isi rfl (fr.h _ (by decide +kernel)) (by decide +kernel) (pa_cons (pv 0) (pa_cons (pe_bltn (v := V.ty "int") rfl (fr.h _ (by decide +kernel)) (by rfl) rfl) pa_nil)))
      (pe_one (pe_not (pe_callB call_isi rfl (fr.h _ (by decide +kernel)) (by decide +kernel) (pa_cons (pv 0) (pa_cons (pe_bltn (v := V.ty "bool") rfl (fr.h _ (by decide +kernel)) (by rfl) rfl) pa_nil))))))), ?_⟩
    refine ⟨_, rfl, _, _, _, _, true, rfl, ClsV.ty "int", TyX.base (TyOf.int i), kit_ty (by decide +kernel), true, rfl, ?_⟩
    refine ⟨_, rfl, _, _, _, _, false, rfl, ClsV.ty "bool", TyX.base (TyOf.int i), kit_ty (by decide +kernel), false, rfl, q⟩
/-! ### __init__ -/
theorem scInit : FnScope ["self", "top", "bottom", "shared"] ["self", "top", "bottom"] (defScope (am 0)) := ⟨rfl, rfl, rfl, by decide +kernel, rfl, by decide +kernel, by decide +kernel⟩
abbrev FunI (K : W.Frag) (f : Addr) (fd : FuncData) : Prop := FunD K "__init__" "Amount.__init__" (defArgs (am 0)) (defBody (am 0)) (defScope (am 0)) [V.int 1] [] f fd
theorem ok_init (T : Cl K C) (DW : Dn P w K mg base CX0 1 "is_whole" ["value"] spWhole) (mgG : mg "gcd" = some (.builtin "math.gcd")) (F : FunI K f fd) :
    FnOk P w K mg base CX0 2 f fd ["self", "top", "bottom"] (spInit C) := by
  refine F.ok scInit (fun vs H Q E h => ?_) (fun cdv A outer s H vs Q E hr h => ?_)
  · obtain ⟨x, dx, n, d, rfl, _⟩ := h
    rfl
  · obtain ⟨x, dx, n, d, rfl, hx, d0, hn, hd, q⟩ := h
    have nd := scInit.nd
    refine ⟨_, PSs.nox (pss_cons (ps_if (pt_not (pt_val (pe_dn DW hr (by rfl) (by decide) (pa_cons (pv 1) pa_nil)))) (pss_one ps_never) pss_nil)
      (pss_cons (ps_if (PW.pt (pw_or (pt_not (pt_val (pe_dn DW hr (by rfl) (by decide) (pa_cons (pv 2) pa_nil)))) (pw_or1 (pt_cmpR op_eq (pv 2) pe_int (nomark _))))) (pss_one ps_never) pss_nil)
      (pss_cons (ps_set (i := 3) nd rfl (.inl rfl) (pe_callBfun cr_gcd rfl mgG (pa_cons (pv 1) (pa_cons (pv 2) pa_nil))))
      (C8.pss_cut (ps_if (pt_cmpR op_lt (pv 2) pe_int (nomark _)) (pss_one (ps_set (i := 3) nd rfl (.inl rfl) (pe_un un_neg (pv 3)))) pss_nil)
      (pss_cons (ps_fld (pv 0) (pe_op op_fdivX (pv 1) (pv 3)) rfl)
      (pss_one (ps_fld (pv 0) (pe_op op_fdivX (pv 2) (pv 3)) rfl))))))), ?_⟩
    refine ⟨_, rfl, n, rfl, _, rfl, iteF ?_⟩
    refine ⟨_, rfl, d, rfl, _, rfl, iteF ⟨_, rfl, rfl, _, rfl, ?_⟩⟩
    refine ite2 (fun h => absurd h (by simpa using d0)) (fun _ => ?_)
    refine ⟨_, rfl, _, rfl, n, d, rfl, ?_⟩
    refine ⟨fun σ H' => H' = H ∧ σ = (L2.start ["self", "top", "bottom", "shared"] [V.ref x, V.int n, V.int d]).set 3 (some (.int (if d < 0 then -((n.natAbs.gcd d.natAbs : Nat) : Int) else ((n.natAbs.gcd d.natAbs : Nat) : Int)))), ?_, ?_⟩
    · refine ⟨_, rfl, _, _, rfl, rfl, _, rfl, ite2 (fun h => ?_) (fun h => ?_)⟩
      · have h' : d < 0 := by simpa using h
        refine ⟨_, rfl, _, rfl, rfl, ?_⟩
        rw [if_pos h']
        rfl
      · have h' : ¬ d < 0 := by simpa using h
        refine ⟨rfl, ?_⟩
        rw [if_neg h']
    · rintro σ H' ⟨rfl, rfl⟩
      have gl : ∀ {g : Int}, g = (if d < 0 then -((n.natAbs.gcd d.natAbs : Nat) : Int) else ((n.natAbs.gcd d.natAbs : Nat) : Int)) → g ≠ 0 ∧ g.natAbs.log2 < 9000 := by
        intro g hg
        have g1 : n.natAbs.gcd d.natAbs ≤ d.natAbs := Nat.gcd_le_right _ (by omega)
        have g0 : 0 < n.natAbs.gcd d.natAbs := Nat.gcd_pos_of_pos_right _ (by omega)
        have e : g.natAbs = n.natAbs.gcd d.natAbs := by
          rw [hg]
          split <;> omega
        refine ⟨by omega, bits (n := 8999) (by omega) (by omega)⟩
      obtain ⟨z0, zl⟩ := gl rfl
      have e1 := low_num n d d0
      have e2 := low_den n d d0
      generalize (if d < 0 then -((n.natAbs.gcd d.natAbs : Nat) : Int) else ((n.natAbs.gcd d.natAbs : Nat) : Int)) = g at z0 zl e1 e2 ⊢
      refine ⟨_, rfl, _, rfl, n, g, rfl, rfl, ⟨z0, zl⟩, _, rfl, x, C, dx, [], rfl, hx, T.cl, T.nT, (by decide), ?_⟩
      refine ⟨_, rfl, _, rfl, d, g, rfl, rfl, ⟨z0, zl⟩, _, rfl, x, C, dx, _, rfl, upd_same, T.cl, T.nB, (by show 1 < 1000; decide), ?_⟩
      show Q .non (upd (upd H' x _) x (HO.ins C dx (putF "_bottom" (V.int (d.fdiv g)) (putF "_top" (V.int (n.fdiv g)) []))))
      rw [upd_upd, e1, e2, flds_of _ _ (Rat.divInt n d) rfl rfl]
      exact q
/-! ### properties -/
theorem sc1 (j : Nat) (h : FnScope ["self"] ["self"] (defScope (am j))) : FnScope ["self"] ["self"] (defScope (am j)) := h
theorem scTop : FnScope ["self"] ["self"] (defScope (am 3)) := ⟨rfl, rfl, rfl, by decide +kernel, rfl, by decide +kernel, by decide +kernel⟩
theorem scBot : FnScope ["self"] ["self"] (defScope (am 4)) := ⟨rfl, rfl, rfl, by decide +kernel, rfl, by decide +kernel, by decide +kernel⟩
theorem scSgn : FnScope ["self"] ["self"] (defScope (am 5)) := ⟨rfl, rfl, rfl, by decide +kernel, rfl, by decide +kernel, by decide +kernel⟩
theorem ok_top (T : Cl K C) (F : Fun K "top" "Amount.top" (am 3) f fd) : FnOk P w K mg base CX0 1 f fd ["self"] (spGet C fun q => .int q.num) := by
  refine F.ok scTop (fun vs H Q E h => ?_) (fun cdv A outer s H vs Q E hr h => ?_)
  · obtain ⟨a, q, rfl, _⟩ := h
    rfl
  · obtain ⟨a, q, rfl, ia, z⟩ := h
    exact ⟨_, pss_one (ps_ret (pe_top T (pv 0))), ⟨_, rfl, a, q, rfl, ia, z⟩⟩
theorem ok_bot (T : Cl K C) (F : Fun K "bottom" "Amount.bottom" (am 4) f fd) : FnOk P w K mg base CX0 1 f fd ["self"] (spGet C fun q => .int q.den) := by
  refine F.ok scBot (fun vs H Q E h => ?_) (fun cdv A outer s H vs Q E hr h => ?_)
  · obtain ⟨a, q, rfl, _⟩ := h
    rfl
  · obtain ⟨a, q, rfl, ia, z⟩ := h
    exact ⟨_, pss_one (ps_ret (pe_bot T (pv 0))), ⟨_, rfl, a, q, rfl, ia, z⟩⟩
theorem ok_sgn (T : Cl K C) (F : Fun K "sign" "Amount.sign" (am 5) f fd) : FnOk P w K mg base CX0 1 f fd ["self"] (spGet C fun q => .int q.num.sign) := by
  refine F.ok scSgn (fun vs H Q E h => ?_) (fun cdv A outer s H vs Q E hr h => ?_)
  · obtain ⟨a, q, rfl, _⟩ := h
    rfl
  · obtain ⟨a, q, rfl, ia, z⟩ := h
    refine ⟨_, pss_cons (ps_if (pt_cmpR op_lt (pe_top T (pv 0)) pe_int (nomark _)) (pss_one (ps_ret (pe_un un_neg pe_int))) pss_nil)
      (pss_one (ps_ret (pe_ifExp (pt_cmpR op_gt (pe_top T (pv 0)) pe_int (nomark _)) pe_int pe_int))), ?_⟩
    replace z : Q (.int q.num.sign) H := z
    refine ⟨_, rfl, a, q, rfl, ia, _, _, rfl, rfl, _, rfl, ite2 (fun h => ?_) (fun h => ?_)⟩
    · have h' : q.num < 0 := by simpa using h
      rw [Int.sign_eq_neg_one_of_neg h'] at z
      exact ⟨_, rfl, z⟩
    · have h' : ¬ q.num < 0 := by simpa using h
      refine ⟨_, rfl, a, q, rfl, ia, _, _, rfl, rfl, _, rfl, ite2 (fun h2 => ?_) (fun h2 => ?_)⟩
      · have h3 : 0 < q.num := by simpa using h2
        rw [Int.sign_eq_one_of_pos h3] at z
        exact z
      · have h3 : ¬ 0 < q.num := by simpa using h2
        have e : q.num = 0 := by omega
        rw [e] at z
        exact z
/-! ### of -/
structure Cl2 (K : W.Frag) (C : Addr) : Prop where
  ins : C8.InsC K C
  kI : W.kitOne K (.type "int") (.ref C) = some false
theorem is_inst (T2 : Cl2 K C) {H : Hp} {Q : VK} {a : Addr} {q : Rat} (ia : Is C H a q) (z : Q (.bl true) H) : rIsi K [.ref a, .ref C] H Q := by
  obtain ⟨dx, ea⟩ := ia
  exact ⟨_, _, _, _, true, rfl, ClsV.own C, TyX.base (TyOf.ins ea T2.ins.cl T2.ins.ha T2.ins.hn T2.ins.htk T2.ins.hm), T2.ins.me, z⟩
theorem is_int (T2 : Cl2 K C) {H : Hp} {Q : VK} {i : Int} (z : Q (.bl false) H) : rIsi K [.int i, .ref C] H Q := ⟨_, _, _, _, false, rfl, ClsV.own C, TyX.base (TyOf.int i), T2.kI, z⟩
theorem scOf : FnScope ["number"] ["number"] (defScope (am 1)) := ⟨rfl, rfl, rfl, by decide +kernel, rfl, by decide +kernel, by decide +kernel⟩
theorem sz_num {q : Rat} (h : Sz q) : q.num.natAbs < 2 ^ 8999 := more_bits h.1 (by decide)
theorem sz_den {q : Rat} (h : Sz q) : (q.den : Int).natAbs < 2 ^ 4000 := by
  rw [Int.natAbs_natCast]
  exact h.2
theorem den0 (q : Rat) : (q.den : Int) ≠ 0 := by
  have := q.den_pos
  omega
theorem ok_of (fr : Frees mg) (B : Base P w K mg base C) (T2 : Cl2 K C) (F : Fun K "of" "Amount.of" (am 1) f fd) : FnOk P w K mg base CX0 4 f fd ["number"] (spOf C) := by
  refine F.ok scOf (fun vs H Q E h => ?_) (fun cdv A outer s H vs Q E hr h => ?_)
  · obtain ⟨v, q, rfl, _⟩ := h
    rfl
  · obtain ⟨v, q, rfl, nv, sz, nw⟩ := h
    refine ⟨_, pss_cons (ps_if (pt_val (pe_callB call_isi rfl (fr.h _ (by decide +kernel)) (by decide +kernel) (pa_cons (pv 0) (pa_cons (pe_glob (v := V.ref C) rfl B.mgA rfl) pa_nil)))) (pss_one (ps_ret (pv 0))) pss_nil)
      (pss_one (ps_ret (pe_mk1 B hr rfl (pa_cons (pv 0) pa_nil)))), ?_⟩
    rcases nv with ⟨i, rfl, rfl⟩ | ⟨a, rfl, ia⟩
    · refine ⟨_, rfl, ?_⟩
      exact ⟨_, _, _, _, false, rfl, ClsV.own C, TyX.base (TyOf.int i), T2.kI, _, rfl, iteF ⟨_, rfl, i, rfl, sz_num sz, fun r H' e n z => nw r H' e z⟩⟩
    · refine ⟨_, rfl, ?_⟩
      obtain ⟨dx, ea⟩ := id ia
      exact ⟨_, _, _, _, true, rfl, ClsV.own C, TyX.base (TyOf.ins ea T2.ins.cl T2.ins.ha T2.ins.hn T2.ins.htk T2.ins.hm), T2.ins.me, _, rfl, iteT ⟨_, rfl, nw a H (Ext.refl H) ia⟩⟩
/-! ### -x, abs, bool -/
theorem scNeg : FnScope ["self"] ["self"] (defScope (am 18)) := ⟨rfl, rfl, rfl, by decide +kernel, rfl, by decide +kernel, by decide +kernel⟩
theorem ok_neg (T : Cl K C) (B : Base P w K mg base C) (F : Fun K "__neg__" "Amount.__neg__" (am 18) f fd) : FnOk P w K mg base CX0 4 f fd ["self"] (spUn C fun q => -q) := by
  refine F.ok scNeg (fun vs H Q E h => ?_) (fun cdv A outer s H vs Q E hr h => ?_)
  · obtain ⟨a, q, rfl, _⟩ := h
    rfl
  · obtain ⟨a, q, rfl, ia, sz, nw⟩ := h
    refine ⟨_, pss_one (ps_ret (pe_mk2 B hr rfl (pa_cons (pe_un un_neg (pe_top T (pv 0))) (pa_cons (pe_bot T (pv 0)) pa_nil)))), ?_⟩
    refine ⟨_, rfl, a, q, rfl, ia, _, rfl, _, rfl, a, q, rfl, ia, _, _, rfl, den0 q, (by rw [Int.natAbs_neg]; exact sz_num sz), more_bits (sz_den sz) (by decide), ?_⟩
    rw [neg_rat]
    exact nw
def aq (q : Rat) : Rat := if q.num < 0 then -q else q
theorem abs_rat (q : Rat) : Rat.divInt (if q.num < 0 then -q.num else q.num) (q.den : Int) = aq q := by
  unfold aq
  split
  · exact neg_rat q
  · exact Rat.num_divInt_den q
theorem scAbs : FnScope ["self"] ["self"] (defScope (am 19)) := ⟨rfl, rfl, rfl, by decide +kernel, rfl, by decide +kernel, by decide +kernel⟩
theorem ok_abs (fr : Frees mg) (T : Cl K C) (B : Base P w K mg base C) (F : Fun K "__abs__" "Amount.__abs__" (am 19) f fd) : FnOk P w K mg base CX0 4 f fd ["self"] (spUn C aq) := by
  refine F.ok scAbs (fun vs H Q E h => ?_) (fun cdv A outer s H vs Q E hr h => ?_)
  · obtain ⟨a, q, rfl, _⟩ := h
    rfl
  · obtain ⟨a, q, rfl, ia, sz, nw⟩ := h
    refine ⟨_, pss_one (ps_ret (pe_mk2 B hr rfl (pa_cons (pe_callB call_abs rfl (fr.h _ (by decide +kernel)) (by decide +kernel) (pa_cons (pe_top T (pv 0)) pa_nil)) (pa_cons (pe_bot T (pv 0)) pa_nil)))), ?_⟩
    refine ⟨_, rfl, a, q, rfl, ia, _, rfl, _, rfl, a, q, rfl, ia, _, _, rfl, den0 q, (by have := sz_num sz; split <;> omega), more_bits (sz_den sz) (by decide), ?_⟩
    rw [abs_rat]
    exact nw
def spBool (C : Addr) : Sp := fun vs H Q _ => ∃ a q, vs = [.ref a] ∧ Is C H a q ∧ Q (.bl (decide (q.num ≠ 0))) H
theorem scBool : FnScope ["self"] ["self"] (defScope (am 20)) := ⟨rfl, rfl, rfl, by decide +kernel, rfl, by decide +kernel, by decide +kernel⟩
theorem ok_bool (fr : Frees mg) (T : Cl K C) (F : Fun K "__bool__" "Amount.__bool__" (am 20) f fd) : FnOk P w K mg base CX0 1 f fd ["self"] (spBool C) := by
  refine F.ok scBool (fun vs H Q E h => ?_) (fun cdv A outer s H vs Q E hr h => ?_)
  · obtain ⟨a, q, rfl, _⟩ := h
    rfl
  · obtain ⟨a, q, rfl, ia, z⟩ := h
    refine ⟨_, pss_one (ps_ret (pe_callTy call_bool1 rfl (fr.h _ (by decide +kernel)) (by decide +kernel) (pa_cons (pe_cmpR op_ne (pe_top T (pv 0)) pe_int (nomark _)) pa_nil))), ?_⟩
    refine ⟨_, rfl, a, q, rfl, ia, rfl, .inr ⟨_, rfl, ?_⟩⟩
    have e : (!decide (V.int q.num = V.int 0)) = decide (q.num ≠ 0) := by simp
    rw [e]
    exact z
end
end KA

set_option Elab.async false
set_option linter.all false
set_option maxRecDepth 100000
set_option maxHeartbeats 1000000
set_option exponentiation.threshold 9000
/-! The arithmetic of Amount. -/
namespace KA
open PySem PySem.Spec PyProof.Rows L2 Oo Gd Am
section
variable {P : Program} {w : World} {K : W.Frag} {mg : Str → Option Value} {base : Heap} {C f : Addr} {fd : FuncData}
theorem num_bits {q : Rat} (h : Sz q) : q.num.natAbs < 2 ^ 4000 := h.1
theorem top_bits {q p : Rat} (h : Sz q) (h' : Sz p) : (q.num * (p.den : Int)).natAbs < 2 ^ 8000 := mul_bits h.1 (sz_den h')
theorem den_bits {q p : Rat} (h : Sz q) (h' : Sz p) : ((q.den : Int) * (p.den : Int)).natAbs < 2 ^ 8000 := mul_bits (sz_den h) (sz_den h')
theorem den_den (q p : Rat) : (q.den : Int) * (p.den : Int) ≠ 0 := Int.mul_ne_zero (den0 q) (den0 p)
theorem neg_sz {q : Rat} (h : Sz q) : Sz (-q) := by
  have e1 : (-q).num = -q.num := rfl
  have e2 : (-q).den = q.den := rfl
  exact ⟨by rw [e1, Int.natAbs_neg]; exact h.1, by rw [e2]; exact h.2⟩
/-- an operator's def, with its promise -/
structure Op (P : Program) (w : World) (K : W.Frag) (mg : Str → Option Value) (base : Heap) (C : Addr) (nm : String) (k : Nat) (h : Rat → Rat → Rat) : Prop where
  of : ∃ f g fd ps, OwnBin K C nm f g ∧ FnOk P w K mg base CX0 k f fd ps (spOp C h) ∧ Binds K fd ps []
theorem op_O {X : Cx} {op : Operator} {k : Nat} {h : Rat → Rat → Rat} (O : Op X.prog X.w X.K X.mg X.base C op.info.2 k h) (hr : Room k X.A) : OpR X (binaryOp op) (rL C h) := by
  obtain ⟨f, g, fd, ps, B, F, b⟩ := O.of
  exact op_L B F b hr
structure Neg (P : Program) (w : World) (K : W.Frag) (mg : Str → Option Value) (base : Heap) (C : Addr) : Prop where
  of : ∃ f fd, W.findIn K (.ref C) "__neg__" = some (some (.ref f)) ∧ W.isFn K (.ref f) = true ∧ FnOk P w K mg base CX0 4 f fd ["self"] (spUn C fun q => -q) ∧ Binds K fd ["self"] []
theorem un_N {X : Cx} (O : Neg X.prog X.w X.K X.mg X.base C) (hr : Room 4 X.A) : UnR X (unaryOp .USub) (fun x H Q => ∃ a q, x = .ref a ∧ Is C H a q ∧ Sz q ∧ New C H Q (-q)) := fun pins s σ H x v Q I rx h => by
  obtain ⟨f, fd, hs, hf, F, b⟩ := O.of
  obtain ⟨a, q, rfl, ia, sz, nw⟩ := h
  obtain ⟨dx, ea⟩ := id ia
  exact un_own (E := E0) hs hf F b pass0 hr pins s σ H _ v Q I rx ⟨a, dx, _, rfl, ea, a, q, rfl, ia, sz, nw⟩
/-! ### + and * -/
theorem scAdd : FnScope ["self", "other", "number"] ["self", "other"] (defScope (am 6)) := ⟨rfl, rfl, rfl, by decide +kernel, rfl, by decide +kernel, by decide +kernel⟩
theorem ok_add (B : Base P w K mg base C) (O : Of P w K mg base C) (F : Fun K "__add__" "Amount.__add__" (am 6) f fd) : FnOk P w K mg base CX0 5 f fd ["self", "other"] (spOp C fun q p => q + p) := by
  refine F.ok scAdd (fun vs H Q E h => ?_) (fun cdv A outer s H vs Q E hr h => ?_)
  · obtain ⟨a, y, q, p, rfl, _⟩ := h
    rfl
  · obtain ⟨a, y, q, p, rfl, ia, ny, sq, sp, nw⟩ := h
    have nd := scAdd.nd
    have T := B.T
    have h2 := hr.mono (show 2 ≤ 4 by decide)
    have h3 := hr.mono (show 3 ≤ 4 by decide)
    refine ⟨_, pss_cons (ps_set (i := 2) nd rfl (.inl rfl) (pe_of O hr (pe_glob (v := V.ref C) rfl B.mgA rfl) (pa_cons (pv 1) pa_nil)))
      (pss_one (ps_ret (pe_mk2 B h3 rfl (pa_cons (pe_op op_add (pe_op op_mulW (pe_top T (pv 0)) (pe_pBot B h2 (pv 2))) (pe_op op_mulW (pe_pTop B h2 (pv 2)) (pe_bot T (pv 0))))
        (pa_cons (pe_op op_mulW (pe_bot T (pv 0)) (pe_pBot B h2 (pv 2))) pa_nil))))), ?_⟩
    refine ⟨rfl, _, rfl, y, p, rfl, ny, sp, fun r H1 e1 ir => ?_⟩
    have ia1 := ia.ext e1
    have cm : ∀ {i j : Int}, i.natAbs < 2 ^ 4000 → j.natAbs < 2 ^ 4000 → CMulW i j := fun h h' => mulOk h h' (by decide) (by decide)
    refine ⟨_, rfl, a, q, rfl, ia1, _, rfl, r, p, rfl, ir, _, _, rfl, rfl, cm sq.1 (sz_den sp), _, rfl, r, p, rfl, ir, _, rfl, a, q, rfl, ia1, _, _, rfl, rfl, cm sp.1 (sz_den sq), _, _, rfl, rfl, ?_⟩
    refine ⟨_, rfl, a, q, rfl, ia1, _, rfl, r, p, rfl, ir, _, _, rfl, rfl, cm (sz_den sq) (sz_den sp), _, _, rfl, den_den q p, more_bits (add_bits (top_bits sq sp) (top_bits sp sq)) (by decide), more_bits (den_bits sq sp) (by decide), ?_⟩
    rw [add_rat]
    exact fun r2 H2 e2 n2 i2 => nw r2 H2 (e1.trans e2) (e1.gone n2) i2
theorem scMul : FnScope ["self", "other", "number"] ["self", "other"] (defScope (am 10)) := ⟨rfl, rfl, rfl, by decide +kernel, rfl, by decide +kernel, by decide +kernel⟩
theorem ok_mul (B : Base P w K mg base C) (O : Of P w K mg base C) (F : Fun K "__mul__" "Amount.__mul__" (am 10) f fd) : FnOk P w K mg base CX0 5 f fd ["self", "other"] (spOp C fun q p => q * p) := by
  refine F.ok scMul (fun vs H Q E h => ?_) (fun cdv A outer s H vs Q E hr h => ?_)
  · obtain ⟨a, y, q, p, rfl, _⟩ := h
    rfl
  · obtain ⟨a, y, q, p, rfl, ia, ny, sq, sp, nw⟩ := h
    have nd := scMul.nd
    have T := B.T
    have h2 := hr.mono (show 2 ≤ 4 by decide)
    have h3 := hr.mono (show 3 ≤ 4 by decide)
    refine ⟨_, pss_cons (ps_set (i := 2) nd rfl (.inl rfl) (pe_of O hr (pe_glob (v := V.ref C) rfl B.mgA rfl) (pa_cons (pv 1) pa_nil)))
      (pss_one (ps_ret (pe_mk2 B h3 rfl (pa_cons (pe_op op_mulW (pe_top T (pv 0)) (pe_pTop B h2 (pv 2)))
        (pa_cons (pe_op op_mulW (pe_bot T (pv 0)) (pe_pBot B h2 (pv 2))) pa_nil))))), ?_⟩
    refine ⟨rfl, _, rfl, y, p, rfl, ny, sp, fun r H1 e1 ir => ?_⟩
    have ia1 := ia.ext e1
    have cm : ∀ {i j : Int}, i.natAbs < 2 ^ 4000 → j.natAbs < 2 ^ 4000 → CMulW i j := fun h h' => mulOk h h' (by decide) (by decide)
    refine ⟨_, rfl, a, q, rfl, ia1, _, rfl, r, p, rfl, ir, _, _, rfl, rfl, cm sq.1 sp.1, ?_⟩
    refine ⟨_, rfl, a, q, rfl, ia1, _, rfl, r, p, rfl, ir, _, _, rfl, rfl, cm (sz_den sq) (sz_den sp), _, _, rfl, den_den q p, more_bits (mul_bits sq.1 sp.1) (by decide), more_bits (den_bits sq sp) (by decide), ?_⟩
    rw [mul_rat]
    exact fun r2 H2 e2 n2 i2 => nw r2 H2 (e1.trans e2) (e1.gone n2) i2
/-! ### - -/
theorem scSub : FnScope ["self", "other"] ["self", "other"] (defScope (am 8)) := ⟨rfl, rfl, rfl, by decide +kernel, rfl, by decide +kernel, by decide +kernel⟩
theorem ok_sub (B : Base P w K mg base C) (O : Of P w K mg base C) (N : Neg P w K mg base C) (A1 : Op P w K mg base C (Operator.Add).info.2 5 fun q p => q + p) (F : Fun K "__sub__" "Amount.__sub__" (am 8) f fd) :
    FnOk P w K mg base CX0 6 f fd ["self", "other"] (spOp C fun q p => q - p) := by
  refine F.ok scSub (fun vs H Q E h => ?_) (fun cdv A outer s H vs Q E hr h => ?_)
  · obtain ⟨a, y, q, p, rfl, _⟩ := h
    rfl
  · obtain ⟨a, y, q, p, rfl, ia, ny, sq, sp, nw⟩ := h
    have h4 := hr.mono (show 4 ≤ 5 by decide)
    refine ⟨_, pss_one (ps_ret (pe_op (op_O A1 hr) (pv 0) (pe_un (un_N N h4) (pe_of O h4 (pe_glob (v := V.ref C) rfl B.mgA rfl) (pa_cons (pv 1) pa_nil))))), ?_⟩
    refine ⟨_, rfl, rfl, _, rfl, y, p, rfl, ny, sp, fun r H1 e1 ir => ⟨r, p, rfl, ir, sp, fun r2 H2 e2 n2 ir2 => ⟨a, q, -p, rfl, (ia.ext e1).ext e2, Num.is ir2, sq, neg_sz sp, ?_⟩⟩⟩
    show New C H2 Q (q + -p)
    rw [← Rat.sub_eq_add_neg]
    exact fun r3 H3 e3 n3 i3 => nw r3 H3 ((e1.trans e2).trans e3) ((e1.trans e2).gone n3) i3
/-! ### the turned ones -/
end
end KA

set_option Elab.async false
set_option linter.all false
set_option maxRecDepth 100000
set_option maxHeartbeats 1000000
set_option exponentiation.threshold 9000
/-! Turned operators, powers, ==. -/
namespace KA
open PySem PySem.Spec PyProof.Rows L2 Oo Gd Am
section
variable {P : Program} {w : World} {K : W.Frag} {mg : Str → Option Value} {base : Heap} {C f : Addr} {fd : FuncData}
theorem scRadd : FnScope ["self", "other"] ["self", "other"] (defScope (am 7)) := ⟨rfl, rfl, rfl, by decide +kernel, rfl, by decide +kernel, by decide +kernel⟩
theorem scRsub : FnScope ["self", "other"] ["self", "other"] (defScope (am 9)) := ⟨rfl, rfl, rfl, by decide +kernel, rfl, by decide +kernel, by decide +kernel⟩
theorem scRmul : FnScope ["self", "other"] ["self", "other"] (defScope (am 11)) := ⟨rfl, rfl, rfl, by decide +kernel, rfl, by decide +kernel, by decide +kernel⟩
theorem ok_radd (B : Base P w K mg base C) (O : Of P w K mg base C) (A : Op P w K mg base C (Operator.Add).info.2 5 fun q p => q + p) (F : Fun K "__radd__" "Amount.__radd__" (am 7) f fd) : FnOk P w K mg base CX0 6 f fd ["self", "other"] (spOp C fun q p => p + q) := by
  refine F.ok scRadd (fun vs H Q E h => ?_) (fun cdv A' outer s H vs Q E hr hh => ?_)
  · obtain ⟨a, y, q, p, rfl, _⟩ := h
    rfl
  · obtain ⟨a, y, q, p, rfl, ia, ny, sq, sp, nw⟩ := hh
    refine ⟨_, pss_one (ps_ret (pe_op (op_O A hr) (pe_of O (hr.mono (by decide)) (pe_glob (v := V.ref C) rfl B.mgA rfl) (pa_cons (pv 1) pa_nil)) (pv 0))), ?_⟩
    exact ⟨rfl, _, rfl, y, p, rfl, ny, sp, fun r H1 e1 ir => ⟨_, rfl, r, p, q, rfl, ir, Num.is (ia.ext e1), sp, sq, fun r2 H2 e2 n2 i2 => nw r2 H2 (e1.trans e2) (e1.gone n2) i2⟩⟩
theorem ok_rsub (B : Base P w K mg base C) (O : Of P w K mg base C) (A : Op P w K mg base C (Operator.Sub).info.2 6 fun q p => q - p) (F : Fun K "__rsub__" "Amount.__rsub__" (am 9) f fd) : FnOk P w K mg base CX0 7 f fd ["self", "other"] (spOp C fun q p => p - q) := by
  refine F.ok scRsub (fun vs H Q E h => ?_) (fun cdv A' outer s H vs Q E hr hh => ?_)
  · obtain ⟨a, y, q, p, rfl, _⟩ := h
    rfl
  · obtain ⟨a, y, q, p, rfl, ia, ny, sq, sp, nw⟩ := hh
    refine ⟨_, pss_one (ps_ret (pe_op (op_O A hr) (pe_of O (hr.mono (by decide)) (pe_glob (v := V.ref C) rfl B.mgA rfl) (pa_cons (pv 1) pa_nil)) (pv 0))), ?_⟩
    exact ⟨rfl, _, rfl, y, p, rfl, ny, sp, fun r H1 e1 ir => ⟨_, rfl, r, p, q, rfl, ir, Num.is (ia.ext e1), sp, sq, fun r2 H2 e2 n2 i2 => nw r2 H2 (e1.trans e2) (e1.gone n2) i2⟩⟩
theorem ok_rmul (B : Base P w K mg base C) (O : Of P w K mg base C) (A : Op P w K mg base C (Operator.Mult).info.2 5 fun q p => q * p) (F : Fun K "__rmul__" "Amount.__rmul__" (am 11) f fd) : FnOk P w K mg base CX0 6 f fd ["self", "other"] (spOp C fun q p => p * q) := by
  refine F.ok scRmul (fun vs H Q E h => ?_) (fun cdv A' outer s H vs Q E hr hh => ?_)
  · obtain ⟨a, y, q, p, rfl, _⟩ := h
    rfl
  · obtain ⟨a, y, q, p, rfl, ia, ny, sq, sp, nw⟩ := hh
    refine ⟨_, pss_one (ps_ret (pe_op (op_O A hr) (pe_of O (hr.mono (by decide)) (pe_glob (v := V.ref C) rfl B.mgA rfl) (pa_cons (pv 1) pa_nil)) (pv 0))), ?_⟩
    exact ⟨rfl, _, rfl, y, p, rfl, ny, sp, fun r H1 e1 ir => ⟨_, rfl, r, p, q, rfl, ir, Num.is (ia.ext e1), sp, sq, fun r2 H2 e2 n2 i2 => nw r2 H2 (e1.trans e2) (e1.gone n2) i2⟩⟩
/-! ### is_count, ** -/
def spCount : Sp := fun vs H Q _ => ∃ i : Int, vs = [.int i] ∧ Q (.bl (decide (0 ≤ i))) H
theorem scCount : FnScope ["value"] ["value"] (defScope (top 10)) := ⟨rfl, rfl, rfl, by decide +kernel, rfl, by decide +kernel, by decide +kernel⟩
theorem ok_count (DW : Dn P w K mg base CX0 1 "is_whole" ["value"] spWhole) (F : Fun K "is_count" "is_count" (top 10) f fd) : FnOk P w K mg base CX0 2 f fd ["value"] spCount := by
  refine F.ok scCount (fun vs H Q E h => ?_) (fun cdv A outer s H vs Q E hr h => ?_)
  · obtain ⟨i, rfl, _⟩ := h
    rfl
  · obtain ⟨i, rfl, q⟩ := h
    refine ⟨_, pss_one (ps_ret (pe_and (pe_dn DW hr (by rfl) (by decide) (pa_cons (pv 0) pa_nil)) (pe_one (pe_cmpR op_ge (pv 0) pe_int (nomark _))))), ?_⟩
    exact ⟨_, rfl, i, rfl, true, rfl, _, rfl, _, _, rfl, rfl, q⟩
def Low (n : Nat) (q : Rat) : Prop := q.num.natAbs < 2 ^ n ∧ q.den < 2 ^ n
def spPow (C : Addr) : Sp := fun vs H Q _ => ∃ a q i, vs = [.ref a, .int i] ∧ Is C H a q ∧ Low 330 q ∧ 0 ≤ i ∧ i ≤ 12 ∧ New C H Q (q ^ i.toNat)
theorem pow_low {q : Rat} (h : Low 330 q) {i : Nat} (hi : i ≤ 12) : Sz (q ^ i) := by
  have e : 330 * i ≤ 3960 := by omega
  have pw : ∀ {n : Nat}, n < 2 ^ 330 → n ^ i ≤ 2 ^ (330 * i) := fun {n} hn => by
    rw [Nat.pow_mul]
    exact Nat.pow_le_pow_left (Nat.le_of_lt hn) i
  have big : (2 : Nat) ^ (330 * i) < 2 ^ 4000 := Nat.pow_lt_pow_right (by decide) (by omega)
  refine ⟨?_, ?_⟩
  · rw [Rat.num_pow, Int.natAbs_pow]
    exact Nat.lt_of_le_of_lt (pw h.1) big
  · rw [Rat.den_pow]
    exact Nat.lt_of_le_of_lt (pw h.2) big
theorem scPow : FnScope ["self", "other", "result", "_"] ["self", "other"] (defScope (am 17)) := ⟨rfl, rfl, rfl, by decide +kernel, rfl, by decide +kernel, by decide +kernel⟩
theorem ok_pow {t : Tok} (fr : Frees mg) (B : Base P w K mg base C) (DC : Dn P w K mg base CX0 2 "is_count" ["value"] spCount) (mgP : mg "MOST_POWER" = some (.int 12 t)) (A : Op P w K mg base C (Operator.Mult).info.2 5 fun q p => q * p) (F : Fun K "__pow__" "Amount.__pow__" (am 17) f fd) :
    FnOk P w K mg base CX0 6 f fd ["self", "other"] (spPow C) := by
  refine F.ok scPow (fun vs H Q E h => ?_) (fun cdv A' outer s H vs Q E hr h => ?_)
  · obtain ⟨a, q, i, rfl, _⟩ := h
    rfl
  · obtain ⟨a, q, i, rfl, ia, lw, i0, i12, nw⟩ := h
    have nd := scPow.nd
    have h3 := hr.mono (show 3 ≤ 5 by decide)
    have h2 := hr.mono (show 2 ≤ 5 by decide)
    refine ⟨_, pss_cons (ps_if (PW.pt (pw_or (pt_not (pt_val (pe_dn DC h2 (by rfl) (by decide) (pa_cons (pv 1) pa_nil)))) (pw_or1 (pt_cmpR op_gt (pv 1) (pe_glob (v := V.int 12) rfl mgP ⟨t, rfl⟩) (nomark _))))) (pss_one ps_never) pss_nil)
      (pss_cons (ps_set (i := 2) nd rfl (.inl rfl) (pe_mk1 B h3 rfl (pa_cons pe_int pa_nil)))
      (pss_cons (ps_for PassesOwn.never rfl (pi_range1 rfl (fr.h _ (by decide +kernel)) (pa_cons (pv 1) pa_nil)) (pg_name (i := 3) nd rfl (.inl rfl))
        (pss_one (ps_set (i := 2) nd rfl (.inl rfl) (pe_op (op_O A hr) (pv 2) (pv 0)))))
      (pss_one (ps_ret (pv 2))))), ?_⟩
    refine ⟨_, rfl, i, rfl, _, rfl, ?_⟩
    rw [decide_eq_true i0]
    refine iteF ⟨_, rfl, _, _, rfl, rfl, _, rfl, ite2 (fun h => absurd h (by simpa using i12)) (fun _ => ?_)⟩
    refine ⟨1, rfl, (by decide), fun r H1 e1 n1 i1 => ⟨_, rfl, i, rfl, (by omega), (by omega), ?_⟩⟩
    refine for_range (lo := 0) (n := i.toNat) (fun j σ H' => ∃ r, σ[0]? = some (some (.ref a)) ∧ σ[2]? = some (some (.ref r)) ∧ σ.length = 4 ∧ Am.Ext H H' ∧ H r = none ∧ Is C H' r (q ^ j)) ?_ ?_ ?_
    · exact ⟨r, rfl, rfl, rfl, e1, n1, by rw [Rat.pow_zero]; exact i1⟩
    · rintro j σ H' hj ⟨r, s0, s2, sl, e, nr, ir⟩
      have hj' : j < 12 := by omega
      refine ⟨_, ?_, _, ?_, r, q ^ j, q, rfl, ir, Num.is (ia.ext e), pow_low lw (by omega), ⟨Nat.lt_trans lw.1 (by decide), Nat.lt_trans lw.2 (by decide)⟩, fun r2 H2 e2 n2 ir2 => ?_⟩
      · rw [List.getElem?_set_ne (by decide)]
        exact s2
      · rw [List.getElem?_set_ne (by decide)]
        exact s0
      · refine ⟨r2, ?_, ?_, ?_, e.trans e2, e.gone n2, ?_⟩
        · rw [List.getElem?_set_ne (by decide), List.getElem?_set_ne (by decide)]
          exact s0
        · rw [List.getElem?_set_self (by rw [List.length_set]; omega)]
        · rw [List.length_set, List.length_set]
          exact sl
        · rw [Rat.pow_succ]
          exact ir2
    · rintro σ H' ⟨r, s0, s2, sl, e, nr, ir⟩
      exact ⟨_, s2, nw r H' e nr ir⟩
/-! ### == -/
def spEq (C : Addr) : Sp := fun vs H Q _ => ∃ a b q p, vs = [.ref a, .ref b] ∧ Is C H a q ∧ Is C H b p ∧ Q (.bl (decide (q = p))) H
theorem scEq : FnScope ["self", "other"] ["self", "other"] (defScope (am 21)) := ⟨rfl, rfl, rfl, by decide +kernel, rfl, by decide +kernel, by decide +kernel⟩
theorem ok_eq (fr : Frees mg) (B : Base P w K mg base C) (T2 : Cl2 K C) (F : Fun K "__eq__" "Amount.__eq__" (am 21) f fd) : FnOk P w K mg base CX0 1 f fd ["self", "other"] (spEq C) := by
  refine F.ok scEq (fun vs H Q E h => ?_) (fun cdv A' outer s H vs Q E hr h => ?_)
  · obtain ⟨a, b, q, p, rfl, _⟩ := h
    rfl
  · obtain ⟨a, b, q, p, rfl, ia, ib, z⟩ := h
    have T := B.T
    refine ⟨_, pss_one (ps_ret (pe_and (pe_callB call_isi rfl (fr.h _ (by decide +kernel)) (by decide +kernel) (pa_cons (pv 1) (pa_cons (pe_glob (v := V.ref C) rfl B.mgA rfl) pa_nil)))
      (pe_and (pe_cmpR op_eq (pe_top T (pv 0)) (pe_top T (pv 1)) (nomark _)) (pe_one (pe_cmpR op_eq (pe_bot T (pv 0)) (pe_bot T (pv 1)) (nomark _)))))), ?_⟩
    obtain ⟨dx, eb⟩ := id ib
    refine ⟨_, rfl, _, _, _, _, true, rfl, ClsV.own C, TyX.base (TyOf.ins eb T2.ins.cl T2.ins.ha T2.ins.hn T2.ins.htk T2.ins.hm), T2.ins.me, true, rfl, ?_⟩
    refine ⟨_, rfl, a, q, rfl, ia, _, rfl, b, p, rfl, ib, rfl, ?_⟩
    have key : (decide (q = p)) = (decide (V.int q.num = V.int p.num) && decide (V.int (q.den : Int) = V.int (p.den : Int))) := by
      by_cases e1 : q.num = p.num
      · by_cases e2 : q.den = p.den
        · have e := Rat.ext e1 e2
          subst e
          simp
        · have ne : q ≠ p := fun e => e2 (by rw [e])
          simp [ne, e1]
          omega
      · have ne : q ≠ p := fun e => e1 (by rw [e])
        simp [ne, e1]
    rw [key] at z
    refine ⟨_, rfl, ?_⟩
    cases h1 : decide (V.int q.num = V.int p.num) with
    | true =>
      rw [h1, Bool.true_and] at z
      exact ⟨_, rfl, a, q, rfl, ia, _, rfl, b, p, rfl, ib, rfl, z⟩
    | false =>
      rw [h1, Bool.false_and] at z
      exact z
end
end KA

set_option Elab.async false
set_option linter.all false
set_option maxRecDepth 100000
set_option maxHeartbeats 1000000
set_option exponentiation.threshold 9000
/-! over, //, % of Amounts: 0 is refused. -/
namespace KA
open PySem PySem.Spec PyProof.Rows L2 Oo Gd Am
theorem divInt_le (n d : Int) (h : d ≠ 0) : (Rat.divInt n d).num.natAbs ≤ n.natAbs ∧ (Rat.divInt n d).den ≤ d.natAbs := by
  obtain ⟨m, m0, e1, e2⟩ := Rat.divInt_num_den (n' := (Rat.divInt n d).num) (d' := (Rat.divInt n d).den) (z' := (Rat.divInt n d).den_nz) (c := (Rat.divInt n d).reduced) h rfl
  have m1 : 1 ≤ m.natAbs := by omega
  refine ⟨?_, ?_⟩
  · conv => rhs; rw [e1]
    rw [Int.natAbs_mul]
    exact Nat.le_mul_of_pos_right _ m1
  · conv => rhs; rw [e2]
    rw [Int.natAbs_mul, Int.natAbs_natCast]
    exact Nat.le_mul_of_pos_right _ m1
/-- 0 is refused: the error of the class at Z, which tells None, lies in a heap where all stands on -/
def Refuse (Z : Addr) (H : Hp) (E : XK) : Prop := ∀ (d : Addr) (H' : Hp), Am.Ext H H' → H d = none → H' d = some (.xd [("rule", .non)]) → E (.ref Z) (some d) H'
theorem Refuse.on {Z : Addr} {H H1 : Hp} {E : XK} (r : Refuse Z H E) (e : Am.Ext H H1) : Refuse Z H1 E := fun d H' x n h => r d H' (e.trans x) (e.gone n) h
theorem left_ext {H : Hp} {Z e d : Addr} {fs : List (Str × V)} (he : H e = none) (hd : H d = none) : Am.Ext H (Gx.leftH H Z e d fs) ∧ Gx.leftH H Z e d fs d = some (.xd fs) := by
  refine ⟨fun b o h => ?_, upd_same⟩
  have n1 := ne_of_none h hd
  have n2 := ne_of_none h he
  show upd (L2.del (Ge.withErr H Z e d fs) e) d (.xd fs) b = some o
  rw [upd_ne n1]
  unfold L2.del
  rw [if_neg n2]
  show upd (upd H d _) e _ b = some o
  rw [upd_ne n2, upd_ne n1]
  exact h
section
variable {P : Program} {w : World} {K : W.Frag} {mg : Str → Option Value} {base : Heap} {C Z f : Addr} {fd : FuncData}
/-- what the text says of DividedByZero -/
structure Zr (K : W.Frag) (mg : Str → Option Value) (Z : Addr) : Prop where
  e1 : Ge.E1 K Z "rule"
  mgZ : mg "DividedByZero" = some (.ref Z)
  rs : ∀ {X : Cx}, X.K = K → Raises X (.ref Z)
def spDiv (n : Nat) (C Z : Addr) (R : Rat → Rat → Hp → VK → Prop) : Sp := fun vs H Q E => ∃ a y q p, vs = [.ref a, y] ∧ Is C H a q ∧ Num C H y p ∧ Low n q ∧ Low n p ∧ (p ≠ 0 → R q p H Q) ∧ (p = 0 → Refuse Z H E)
def Whole (q : Rat) (H : Hp) (Q : VK) : Prop := ∀ H', Am.Ext H H' → Q (.int q.floor) H'
theorem low_sz {n : Nat} {q : Rat} (h : Low n q) (hn : n ≤ 4000) : Sz q := ⟨Nat.lt_of_lt_of_le h.1 (Nat.pow_le_pow_right (by decide) hn), Nat.lt_of_lt_of_le h.2 (Nat.pow_le_pow_right (by decide) hn)⟩
theorem scOver : FnScope ["self", "other", "number"] ["self", "other"] (defScope (am 12)) := ⟨rfl, rfl, rfl, by decide +kernel, rfl, by decide +kernel, by decide +kernel⟩
theorem ok_over (B : Base P w K mg base C) (O : Of P w K mg base C) (ZR : Zr K mg Z) (F : Fun K "over" "Amount.over" (am 12) f fd) : FnOk P w K mg base (L2.CX P w) 5 f fd ["self", "other"] (spDiv 4000 C Z fun q p H Q => New C H Q (q / p)) := by
  refine F.okX scOver (fun vs H Q E h => ?_) (fun cdv A outer s H vs Q E hr h => ?_)
  · obtain ⟨a, y, q, p, rfl, _⟩ := h
    rfl
  · obtain ⟨a, y, q, p, rfl, ia, ny, sq, sp, hn, hz⟩ := h
    have nd := scOver.nd
    have T := B.T
    have h2 := hr.mono (show 2 ≤ 4 by decide)
    have h3 := hr.mono (show 3 ≤ 4 by decide)
    refine ⟨_, pss_cons (ps_set (i := 2) nd rfl (.inl rfl) (pe_of O hr (pe_glob (v := V.ref C) rfl B.mgA rfl) (pa_cons (pv 1) pa_nil)))
      (pss_cons (ps_if (pt_cmpR op_eq (pe_pTop B h2 (pv 2)) pe_int (nomark _)) (pss_one (ps_raise rfl (takes_of rfl rfl rfl rfl) (Gx.pmk1 ZR.e1 (ZR.rs rfl) hr rfl ZR.mgZ (pa_cons pe_non pa_nil)))) pss_nil)
      (pss_one (ps_ret (pe_mk2 B h3 rfl (pa_cons (pe_op op_mulW (pe_top T (pv 0)) (pe_pBot B h2 (pv 2)))
        (pa_cons (pe_op op_mulW (pe_bot T (pv 0)) (pe_pTop B h2 (pv 2))) pa_nil)))))), ?_⟩
    refine ⟨rfl, _, rfl, y, p, rfl, ny, sp, fun r H1 e1 ir => ?_⟩
    have ia1 := ia.ext e1
    refine ⟨_, rfl, r, p, rfl, ir, rfl, _, rfl, ite2 (fun h => ?_) (fun h => ?_)⟩
    · have p0 : p = 0 := Rat.num_eq_zero.mp (by simpa using h)
      refine ⟨_, rfl, fun e d he hd ne => ?_⟩
      obtain ⟨x1, x2⟩ := left_ext (Z := Z) (fs := [("rule", V.non)]) he hd
      exact (hz p0).on e1 d _ x1 hd x2
    · have p0 : p ≠ 0 := fun e => h (by rw [e]; rfl)
      have pn : p.num ≠ 0 := fun e => p0 (Rat.num_eq_zero.mp e)
      have cm : ∀ {i j : Int}, i.natAbs < 2 ^ 4000 → j.natAbs < 2 ^ 4000 → CMulW i j := fun h h' => mulOk h h' (by decide) (by decide)
      refine ⟨_, rfl, a, q, rfl, ia1, _, rfl, r, p, rfl, ir, _, _, rfl, rfl, cm sq.1 (sz_den sp), ?_⟩
      refine ⟨_, rfl, a, q, rfl, ia1, _, rfl, r, p, rfl, ir, _, _, rfl, rfl, cm (sz_den sq) sp.1, _, _, rfl, Int.mul_ne_zero (den0 q) pn, more_bits (top_bits sq sp) (by decide), more_bits (mul_bits (sz_den sq) sp.1) (by decide), ?_⟩
      rw [div_rat]
      exact fun r2 H2 e2 n2 i2 => hn p0 r2 H2 (e1.trans e2) (e1.gone n2) i2
/-! ### // and % -/
structure Over (P : Program) (w : World) (K : W.Frag) (mg : Str → Option Value) (base : Heap) (C Z : Addr) : Prop where
  of : ∃ f fd, Meth K C "over" f ∧ FnOk P w K mg base (L2.CX P w) 5 f fd ["self", "other"] (spDiv 4000 C Z fun q p H Q => New C H Q (q / p)) ∧ Binds K fd ["self", "other"] []
theorem no_over (q : Rat) : (flds q).lookup ("over" : Str) = none := by
  show List.lookup ("over" : Str) [("_top", V.int q.num), ("_bottom", V.int q.den)] = _
  have n1 : ("over" : Str) ≠ "_top" := by decide +kernel
  have n2 : ("over" : Str) ≠ "_bottom" := by decide +kernel
  rw [List.lookup_cons, beq_eq_false_iff_ne.mpr n1, List.lookup_cons, beq_eq_false_iff_ne.mpr n2]
  rfl
theorem div_low {q p : Rat} (sq : Sz q) (sp : Sz p) (p0 : p ≠ 0) : (q / p).num.natAbs < 2 ^ 8000 ∧ (q / p).den < 2 ^ 8000 := by
  rw [← div_rat]
  have pn : p.num ≠ 0 := fun e => p0 (Rat.num_eq_zero.mp e)
  obtain ⟨h1, h2⟩ := divInt_le (q.num * (p.den : Int)) ((q.den : Int) * p.num) (Int.mul_ne_zero (den0 q) pn)
  exact ⟨Nat.lt_of_le_of_lt h1 (top_bits sq sp), Nat.lt_of_le_of_lt h2 (mul_bits (sz_den sq) sp.1)⟩
theorem floor_eq (q : Rat) : q.num.fdiv (q.den : Int) = q.floor := by
  rw [Rat.floor_def, Int.fdiv_eq_ediv_of_nonneg _ (by omega)]
theorem scFd : FnScope ["self", "other", "quotient"] ["self", "other"] (defScope (am 13)) := ⟨rfl, rfl, rfl, by decide +kernel, rfl, by decide +kernel, by decide +kernel⟩
theorem ok_fdiv (B : Base P w K mg base C) (V1 : Over P w K mg base C Z) (F : Fun K "__floordiv__" "Amount.__floordiv__" (am 13) f fd) : FnOk P w K mg base (L2.CX P w) 6 f fd ["self", "other"] (spDiv 4000 C Z fun q p H Q => Whole (q / p) H Q) := by
  refine F.okX scFd (fun vs H Q E h => ?_) (fun cdv A outer s H vs Q E hr h => ?_)
  · obtain ⟨a, y, q, p, rfl, _⟩ := h
    rfl
  · obtain ⟨a, y, q, p, rfl, ia, ny, sq, sp, hn, hz⟩ := h
    have nd := scFd.nd
    have h2 := hr.mono (show 2 ≤ 5 by decide)
    obtain ⟨fo, fdo, hm, G, b⟩ := V1.of
    refine ⟨_, pss_cons (ps_set (i := 2) nd rfl (.inl rfl) (pe_meth (pv 0) B.T.cl hm G hr b .nil (passes_call (takes_of rfl rfl rfl rfl) fun _ _ _ _ h => h) (pa_cons (pv 1) pa_nil)))
      (pss_one (ps_ret (pe_op op_fdivX (pe_pTop B h2 (pv 2)) (pe_pBot B h2 (pv 2))))), ?_⟩
    obtain ⟨dx, ea⟩ := id ia
    refine ⟨_, rfl, a, dx, _, rfl, ea, no_over q, _, rfl, a, y, q, p, rfl, ia, ny, sq, sp, fun p0 => ?_, hz⟩
    obtain ⟨b1, b2⟩ := div_low sq sp p0
    intro r H1 e1 n1 ir
    refine ⟨_, rfl, r, q / p, rfl, ir, _, rfl, r, q / p, rfl, ir, _, _, rfl, rfl, ⟨den0 _, bits (n := 8000) (by rw [Int.natAbs_natCast]; exact b2) (by decide)⟩, ?_⟩
    show Q (.int ((q / p).num.fdiv ((q / p).den : Int))) H1
    rw [floor_eq]
    exact hn p0 H1 e1
/-- the def of // (of %), with its promise -/
structure Dv (P : Program) (w : World) (K : W.Frag) (mg : Str → Option Value) (base : Heap) (C Z : Addr) (nm : String) (n k : Nat) (R : Rat → Rat → Hp → VK → Prop) : Prop where
  of : ∃ f g fd ps, OwnBin K C nm f g ∧ FnOk P w K mg base (L2.CX P w) k f fd ps (spDiv n C Z R) ∧ Binds K fd ps []
def rD (n : Nat) (C Z : Addr) (R : Rat → Rat → Hp → VK → Prop) (E : XK) : R2 := fun x y H Q => ∃ a q p, x = .ref a ∧ Is C H a q ∧ Num C H y p ∧ Low n q ∧ Low n p ∧ (p ≠ 0 → R q p H Q) ∧ (p = 0 → Refuse Z H E)
theorem op_D {X : Cx} {op : Operator} {n k : Nat} {R : Rat → Rat → Hp → VK → Prop} {E : XK} (D : Dv X.prog X.w X.K X.mg X.base C Z op.info.2 n k R) (hx : Passes (L2.CX X.prog X.w) X E) (hr : Room k X.A) : OpR X (binaryOp op) (rD n C Z R E) := fun pins s σ H x y v u Q I rx ry hh => by
  obtain ⟨f, g, fd, ps, B, F, b⟩ := D.of
  obtain ⟨a, q, p, rfl, ia, ny, sq, sp, hn, hz⟩ := hh
  obtain ⟨dx, ea⟩ := id ia
  have prom : spDiv n C Z R [V.ref a, y] H Q E := ⟨a, y, q, p, rfl, ia, ny, sq, sp, hn, hz⟩
  have one : rBin C (spDiv n C Z R) (fun _ _ _ _ => False) E (.ref a) y H Q := by
    rcases id ny with ⟨i, rfl, _⟩ | ⟨b, rfl, dy, eb⟩
    · exact .inr (.inl ⟨a, dx, _, i, rfl, rfl, ea, prom⟩)
    · exact .inl ⟨a, dx, _, b, dy, _, rfl, rfl, ea, eb, prom⟩
  exact op_left B F b hx hr pins s σ H _ _ v u Q I rx ry one
theorem scMod : FnScope ["self", "other", "number"] ["self", "other"] (defScope (am 15)) := ⟨rfl, rfl, rfl, by decide +kernel, rfl, by decide +kernel, by decide +kernel⟩
theorem floor_bits {q p : Rat} (sq : Low 900 q) (sp : Low 900 p) (p0 : p ≠ 0) : (q / p).floor.natAbs < 2 ^ 1801 := by
  have pn : p.num ≠ 0 := fun e => p0 (Rat.num_eq_zero.mp e)
  have h1 : (q / p).num.natAbs ≤ (q.num * (p.den : Int)).natAbs := by
    rw [← div_rat]
    exact (divInt_le _ _ (Int.mul_ne_zero (den0 q) pn)).1
  have h2 : (q.num * (p.den : Int)).natAbs < 2 ^ 1800 := mul_bits sq.1 (show ((p.den : Int)).natAbs < 2 ^ 900 by rw [Int.natAbs_natCast]; exact sp.2)
  rw [Rat.floor_def]
  have h3 : ((q / p).num / ((q / p).den : Int)).natAbs ≤ (q / p).num.natAbs + 1 := by
    have := (q / p).den_pos
    generalize (q / p).num = n
    generalize hd : ((q / p).den : Int) = d
    have d1 : 1 ≤ d := by omega
    have a1 := Int.ediv_mul_le n (show d ≠ 0 by omega)
    have a2 := Int.lt_ediv_add_one_mul_self n (show 0 < d by omega)
    rcases Int.lt_or_le n 0 with hn | hn
    · have u : n / d < 0 := Int.ediv_neg_of_neg_of_pos hn (by omega)
      have l : n ≤ n / d := by
        rcases Int.lt_or_le (n / d) n with z | z
        · exfalso
          have : (n / d + 1) * d ≤ (n / d + 1) * 1 := by
            have w1 : n / d + 1 ≤ 0 := by omega
            exact Int.mul_le_mul_of_nonpos_left w1 d1
          omega
        · exact z
      omega
    · have l : 0 ≤ n / d := Int.ediv_nonneg hn (by omega)
      have u : n / d ≤ n := Int.ediv_le_self d hn
      omega
  have e : (2 : Nat) ^ 1801 = 2 ^ 1800 + 2 ^ 1800 := Nat.two_pow_succ 1800
  have big : (1 : Nat) ≤ 2 ^ 1800 := Nat.one_le_two_pow
  rw [e]
  omega
theorem ok_mod (B : Base P w K mg base C) (O : Of P w K mg base C) (M : Op P w K mg base C (Operator.Mult).info.2 5 fun q p => q * p) (S : Op P w K mg base C (Operator.Sub).info.2 6 fun q p => q - p)
    (D : Dv P w K mg base C Z (Operator.FloorDiv).info.2 4000 6 fun q p H Q => Whole (q / p) H Q) (F : Fun K "__mod__" "Amount.__mod__" (am 15) f fd) :
    FnOk P w K mg base (L2.CX P w) 7 f fd ["self", "other"] (spDiv 900 C Z fun q p H Q => New C H Q (q - p * ((q / p).floor : Rat))) := by
  refine F.okX scMod (fun vs H Q E h => ?_) (fun cdv A outer s H vs Q E hr h => ?_)
  · obtain ⟨a, y, q, p, rfl, _⟩ := h
    rfl
  · obtain ⟨a, y, q, p, rfl, ia, ny, sq, sp, hn, hz⟩ := h
    have nd := scMod.nd
    have h5 := hr.mono (show 5 ≤ 6 by decide)
    have h4 := hr.mono (show 4 ≤ 6 by decide)
    have zq := low_sz sq (by decide)
    have zp := low_sz sp (by decide)
    refine ⟨_, pss_cons (ps_set (i := 2) nd rfl (.inl rfl) (pe_of O h4 (pe_glob (v := V.ref C) rfl B.mgA rfl) (pa_cons (pv 1) pa_nil)))
      (pss_one (ps_ret (pe_op (op_O S hr) (pv 0) (pe_op (op_O M h5) (pv 2) (pe_op (op_D (E := E) D (passes_call (takes_of rfl rfl rfl rfl) fun _ _ _ _ h => h) hr) (pv 0) (pv 2)))))), ?_⟩
    refine ⟨rfl, _, rfl, y, p, rfl, ny, zp, fun r H1 e1 ir => ?_⟩
    refine ⟨_, rfl, _, rfl, _, rfl, _, rfl, a, q, p, rfl, ia.ext e1, Num.is ir, zq, zp, fun p0 => ?_, fun p0 => (hz p0).on e1⟩
    intro H2 e2
    have fb := floor_bits sq sp p0
    have fz : Sz (((q / p).floor : Int) : Rat) := ⟨Nat.lt_trans fb (by decide), (by show 1 < 2 ^ 4000; decide)⟩
    refine ⟨r, p, _, rfl, ir.ext e2, Num.int _, zp, fz, fun r3 H3 e3 n3 i3 => ?_⟩
    have mz : Sz (p * (((q / p).floor : Int) : Rat)) := by
      rw [← mul_rat]
      have dd : (p.den : Int) * ((((q / p).floor : Int) : Rat).den : Int) ≠ 0 := den_den _ _
      obtain ⟨h1, h2⟩ := divInt_le (p.num * (((q / p).floor : Int) : Rat).num) ((p.den : Int) * ((((q / p).floor : Int) : Rat).den : Int)) dd
      refine ⟨Nat.lt_of_le_of_lt h1 (more_bits (mul_bits sp.1 fb) (by decide)), Nat.lt_of_le_of_lt h2 ?_⟩
      rw [show (((((q / p).floor : Int) : Rat).den : Nat) : Int) = 1 from rfl, Int.mul_one, Int.natAbs_natCast]
      exact zp.2
    refine ⟨a, q, _, rfl, ((ia.ext e1).ext e2).ext e3, Num.is i3, zq, mz, fun r4 H4 e4 n4 i4 => hn p0 r4 H4 (((e1.trans e2).trans e3).trans e4) (((e1.trans e2).trans e3).gone n4) i4⟩
/-! ### the turned ones -/
theorem scRfd : FnScope ["self", "other"] ["self", "other"] (defScope (am 14)) := ⟨rfl, rfl, rfl, by decide +kernel, rfl, by decide +kernel, by decide +kernel⟩
theorem scRmod : FnScope ["self", "other"] ["self", "other"] (defScope (am 16)) := ⟨rfl, rfl, rfl, by decide +kernel, rfl, by decide +kernel, by decide +kernel⟩
def spDivR (n : Nat) (C Z : Addr) (R : Rat → Rat → Hp → VK → Prop) : Sp := fun vs H Q E => ∃ a y q p, vs = [.ref a, y] ∧ Is C H a p ∧ Num C H y q ∧ Low n q ∧ Low n p ∧ (p ≠ 0 → R q p H Q) ∧ (p = 0 → Refuse Z H E)
theorem ok_rfdiv (B : Base P w K mg base C) (O : Of P w K mg base C) (D : Dv P w K mg base C Z (Operator.FloorDiv).info.2 4000 6 fun q p H Q => Whole (q / p) H Q) (F : Fun K "__rfloordiv__" "Amount.__rfloordiv__" (am 14) f fd) :
    FnOk P w K mg base (L2.CX P w) 7 f fd ["self", "other"] (spDivR 4000 C Z fun q p H Q => Whole (q / p) H Q) := by
  refine F.okX scRfd (fun vs H Q E h => ?_) (fun cdv A outer s H vs Q E hr h => ?_)
  · obtain ⟨a, y, q, p, rfl, _⟩ := h
    rfl
  · obtain ⟨a, y, q, p, rfl, ia, ny, sq, sp, hn, hz⟩ := h
    refine ⟨_, pss_one (ps_ret (pe_op (op_D (E := E) D (passes_call (takes_of rfl rfl rfl rfl) fun _ _ _ _ h => h) hr) (pe_of O (hr.mono (by decide)) (pe_glob (v := V.ref C) rfl B.mgA rfl) (pa_cons (pv 1) pa_nil)) (pv 0))), ?_⟩
    exact ⟨rfl, _, rfl, y, q, rfl, ny, sq, fun r H1 e1 ir => ⟨_, rfl, r, q, p, rfl, ir, Num.is (ia.ext e1), sq, sp, fun p0 H2 e2 => hn p0 H2 (e1.trans e2), fun p0 => (hz p0).on e1⟩⟩
theorem ok_rmod (B : Base P w K mg base C) (O : Of P w K mg base C) (D : Dv P w K mg base C Z (Operator.Mod).info.2 900 7 fun q p H Q => New C H Q (q - p * ((q / p).floor : Rat))) (F : Fun K "__rmod__" "Amount.__rmod__" (am 16) f fd) :
    FnOk P w K mg base (L2.CX P w) 8 f fd ["self", "other"] (spDivR 900 C Z fun q p H Q => New C H Q (q - p * ((q / p).floor : Rat))) := by
  refine F.okX scRmod (fun vs H Q E h => ?_) (fun cdv A outer s H vs Q E hr h => ?_)
  · obtain ⟨a, y, q, p, rfl, _⟩ := h
    rfl
  · obtain ⟨a, y, q, p, rfl, ia, ny, sq, sp, hn, hz⟩ := h
    refine ⟨_, pss_one (ps_ret (pe_op (op_D (E := E) D (passes_call (takes_of rfl rfl rfl rfl) fun _ _ _ _ h => h) hr) (pe_of O (hr.mono (by decide)) (pe_glob (v := V.ref C) rfl B.mgA rfl) (pa_cons (pv 1) pa_nil)) (pv 0))), ?_⟩
    exact ⟨rfl, _, rfl, y, q, rfl, ny, low_sz sq (by decide), fun r H1 e1 ir => ⟨_, rfl, r, q, p, rfl, ir, Num.is (ia.ext e1), sq, sp, fun p0 r2 H2 e2 n2 i2 => hn p0 r2 H2 (e1.trans e2) (e1.gone n2) i2, fun p0 => (hz p0).on e1⟩⟩
end
end KA

set_option Elab.async false
set_option linter.all false
set_option maxRecDepth 100000
set_option maxHeartbeats 1000000
set_option exponentiation.threshold 20000
/-! Texts of great numbers; str, repr of Amounts. -/
namespace Am
open PySem PySem.Spec PyProof.Rows L2 Oo
theorem lim10 : (2 : Nat) ^ 8000 < 10 ^ 4300 := by
  have h : ((2 : Nat) ^ 80) ^ 100 < (10 ^ 43) ^ 100 := Nat.pow_lt_pow_left (by decide) (by decide)
  rw [← Nat.pow_mul, ← Nat.pow_mul] at h
  exact h
theorem big_len {i : Int} (h : i.natAbs < 2 ^ 8000) : (Str.ofString (toString i)).length ≤ 8001 := by
  have l : i.natAbs.log2 < 8000 := by
    by_cases z : i.natAbs = 0
    · rw [z]; decide
    · exact (Nat.log2_lt z).mpr h
  have e := int_text_length_le (a := i) (k := 8000) (by decide) l
  rw [PySem.ofString_length]
  exact e
section
variable {X : Cx}
theorem nd_at {pins : List (Addr × Obj)} {σ : L2.St} {H : Hp} {s : Shared} (I : Inv X pins σ H s) (nb : X.base.NoDigits) : s.heap.NoDigits := nb.keeps I.bk
/-- str(n) -/
def rStrI : List V → Hp → VK → Prop := fun xs H Q => ∃ i : Int, xs = [.int i] ∧ i.natAbs < 2 ^ 8000 ∧ Q (.str (toString i)) H
theorem call_strI (nb : X.base.NoDigits) (hc : X.calm = true) : CallR X (.type "str") rStrI := by
  intro pins s σ H xs us Q I r h
  obtain ⟨i, rfl, hz, q⟩ := h
  obtain ⟨u, rfl, t, rfl⟩ := vals1 r
  exact str_of_int_or (I.ok.hd hc) (nd_at I nb) (fun _ => ⟨.str _, H, I.tok _, ⟨_, rfl⟩, q⟩) fun hge => absurd (Nat.lt_trans hz lim10) (Nat.not_lt.mpr hge)
/-- {n} in an f-string -/
def tFmtI (te : TE) : TE := fun σ H Q => te σ H fun x H1 => ∃ i : Int, x = .int i ∧ i.natAbs < 2 ^ 8000 ∧ Q (.str (toString i)) H1
theorem pe_fmtI (nb : X.base.NoDigits) (hc : X.calm = true) {e : Expr} {te : TE} {pos : Pos} (he : PE X e te) : PE X (.FormattedValue e (-1) none pos) (tFmtI te) := by
  refine ⟨fun pins s σ H Q I h => ?_⟩
  refine wpAny_FormattedValue_plain (thn (he.run pins s σ H _ I h) fun v s1 hv => ?_)
  obtain ⟨x, H1, I1, r1, i, rfl, hz, q⟩ := hv
  obtain ⟨t, rfl⟩ := r1
  exact formatField_int (I1.ok.hd hc) (nd_at I1 nb) (fun _ => ⟨.str (toString i), H1, I1.tok _, ⟨_, rfl⟩, q⟩) fun hge => absurd (Nat.lt_trans hz lim10) (Nat.not_lt.mpr hge)
end
/-! ### the texts -/
/-- 'Amount(t, b)' -/
def shown (q : Rat) : Str := Str.empty ++ "Amount(" ++ (toString q.num : String) ++ ", " ++ (toString (q.den : Int) : String) ++ ")"
def written (q : Rat) : Str := if (q.den : Int) = 1 then (toString q.num : String) else Str.empty ++ (toString q.num : String) ++ "/" ++ (toString (q.den : Int) : String)
end Am
namespace KA
open PySem PySem.Spec PyProof.Rows L2 Oo Gd Am
section
variable {P : Program} {w : World} {K : W.Frag} {mg : Str → Option Value} {base : Heap} {C f : Addr} {fd : FuncData}
def spText (C : Addr) (g : Rat → Str) : Sp := fun vs H Q _ => ∃ a q, vs = [.ref a] ∧ Is C H a q ∧ Low 8000 q ∧ Q (.str (g q)) H
theorem scStr : FnScope ["self"] ["self"] (defScope (am 26)) := ⟨rfl, rfl, rfl, by decide +kernel, rfl, by decide +kernel, by decide +kernel⟩
theorem scRepr : FnScope ["self"] ["self"] (defScope (am 27)) := ⟨rfl, rfl, rfl, by decide +kernel, rfl, by decide +kernel, by decide +kernel⟩
theorem low_den {n : Nat} {q : Rat} (h : Low n q) : ((q.den : Int)).natAbs < 2 ^ n := by
  rw [Int.natAbs_natCast]
  exact h.2
theorem line_ge : (20000 : Nat) ≤ sizeLine := by decide
theorem ok_str (nb : base.NoDigits) (fr : Frees mg) (T : Cl K C) (F : Fun K "__str__" "Amount.__str__" (am 26) f fd) : FnOk P w K mg base CX0 1 f fd ["self"] (spText C written) := by
  refine F.ok scStr (fun vs H Q E h => ?_) (fun cdv A outer s H vs Q E hr h => ?_)
  · obtain ⟨a, q, rfl, _⟩ := h
    rfl
  · obtain ⟨a, q, rfl, ia, lw, z⟩ := h
    refine ⟨_, pss_cons (ps_if (pt_cmpR op_eq (pe_bot T (pv 0)) pe_int (nomark _)) (pss_one (ps_ret (pe_callTy (call_strI nb rfl) rfl (fr.h _ (by decide +kernel)) (by decide +kernel) (pa_cons (pe_top T (pv 0)) pa_nil)))) pss_nil)
      (pss_one (ps_ret (pe_joined (.cons (pe_fmtI nb rfl (pe_top T (pv 0))) (.cons pe_str (.cons (pe_fmtI nb rfl (pe_bot T (pv 0))) .nil)))))), ?_⟩
    have l1 := big_len lw.1
    have l2 := big_len (low_den lw)
    refine ⟨_, rfl, a, q, rfl, ia, rfl, _, rfl, ite2 (fun h => ?_) (fun h => ?_)⟩
    · have e : (q.den : Int) = 1 := by simpa using h
      unfold written at z
      rw [if_pos e] at z
      exact ⟨_, rfl, a, q, rfl, ia, _, rfl, lw.1, z⟩
    · have e : ¬ (q.den : Int) = 1 := fun e => h (by simpa using e)
      unfold written at z
      rw [if_neg e] at z
      have k1 : (Str.ofString "/").length = 1 := by decide
      have k0 : (Str.empty).length = 0 := by decide
      refine ⟨_, rfl, a, q, rfl, ia, _, rfl, lw.1, _, rfl, ?_, _, rfl, ?_, _, rfl, a, q, rfl, ia, _, rfl, low_den lw, _, rfl, ?_, z⟩ <;> (simp only [strLen_append, k1, k0]; have := line_ge; omega)
theorem ok_repr (nb : base.NoDigits) (fr : Frees mg) (T : Cl K C) (F : Fun K "__repr__" "Amount.__repr__" (am 27) f fd) : FnOk P w K mg base CX0 1 f fd ["self"] (spText C shown) := by
  refine F.ok scRepr (fun vs H Q E h => ?_) (fun cdv A outer s H vs Q E hr h => ?_)
  · obtain ⟨a, q, rfl, _⟩ := h
    rfl
  · obtain ⟨a, q, rfl, ia, lw, z⟩ := h
    refine ⟨_, pss_one (ps_ret (pe_joined (.cons pe_str (.cons (pe_fmtI nb rfl (pe_top T (pv 0))) (.cons pe_str (.cons (pe_fmtI nb rfl (pe_bot T (pv 0))) (.cons pe_str .nil))))))), ?_⟩
    have l1 := big_len lw.1
    have l2 := big_len (low_den lw)
    have k1 : (Str.ofString "Amount(").length = 7 := by decide
    have k2 : (Str.ofString ", ").length = 2 := by decide
    have k3 : (Str.ofString ")").length = 1 := by decide
    have k0 : (Str.empty).length = 0 := by decide
    refine ⟨_, rfl, ?_, _, rfl, a, q, rfl, ia, _, rfl, lw.1, _, rfl, ?_, _, rfl, ?_, _, rfl, a, q, rfl, ia, _, rfl, low_den lw, _, rfl, ?_, _, rfl, ?_, z⟩ <;> (simp only [strLen_append, k1, k2, k3, k0]; have := line_ge; omega)
end
end KA

set_option Elab.async false
set_option linter.all false
set_option maxRecDepth 100000
set_option maxHeartbeats 1000000
set_option exponentiation.threshold 20000
/-! rounded. -/
namespace Am
open PySem PySem.Spec PyProof.Rows L2 Oo
theorem emp (x : Str) : Str.empty ++ x = x := by
  cases x with
  | mk a =>
    show Str.mk (#[] ++ a) = Str.mk a
    rw [Array.empty_append]
/-- filled up with zeros to m signs -/
def zf (x : Str) (m : Nat) : Str := ⟨Array.replicate (m - x.length) 48 ++ x.cps⟩
theorem zf_len (x : Str) (m : Nat) : (zf x m).length = (m - x.length) + x.length := by
  show (Array.replicate (m - x.length) 48 ++ x.cps).size = _
  rw [Array.size_append, Array.size_replicate]
  rfl
theorem zfill_nat (n m : Nat) : Txt.zfill (Str.ofString (toString (n : Int))) (m : Int) = zf (Str.ofString (toString (n : Int))) m := by
  have hs := PySem.W.KIN.signs_num n
  have hd : ∀ c ∈ (Str.ofString (toString (n : Int))).cps.toList, 48 ≤ c ∧ c ≤ 57 := by
    intro c hc
    rw [hs] at hc
    obtain ⟨ch, hch, e⟩ := List.mem_map.mp hc
    have r := digit_range (Nat.isDigit_of_mem_toDigits (by decide) (by decide) hch)
    rw [← e]
    exact r
  generalize Str.ofString (toString (n : Int)) = x at hd
  clear hs
  unfold Txt.zfill zf
  by_cases h : (m : Int) ≤ x.length
  · rw [if_pos h, show m - x.length = 0 by omega]
    cases x with
    | mk a =>
      show Str.mk a = Str.mk (Array.replicate 0 48 ++ a)
      simp
  · rw [if_neg h, Int.toNat_natCast]
    unfold zfilled
    split
    · rename_i e
      have := hd 43 (by rw [← Array.getElem?_toList] at e; exact List.mem_of_getElem? e)
      omega
    · rename_i e
      have := hd 45 (by rw [← Array.getElem?_toList] at e; exact List.mem_of_getElem? e)
      omega
    · show Str.mk (Array.replicate (m - x.length) 48 ++ x.cps ++ Array.replicate 0 48) = _
      simp
def steps (q : Rat) (k : Nat) : Int := (q.num * 10 ^ k) / (q.den : Int)
def mark (n : Int) : Str := if n < 0 then "-" else ""
def digs (n : Int) (k : Nat) : Str := zf (toString (if n < 0 then -n else n)) (k + 1)
def dec (q : Rat) (k : Nat) : Str :=
  if k = 0 then mark (steps q k) ++ digs (steps q k) k
  else mark (steps q k) ++ cutS (digs (steps q k) k) none (some (((digs (steps q k) k).length : Int) - k)) ++ "." ++ cutS (digs (steps q k) k) (some (((digs (steps q k) k).length : Int) - k)) none
theorem steps_bits {q : Rat} {k : Nat} (h : q.num.natAbs < 2 ^ 4000) (hk : k ≤ 12) : (steps q k).natAbs < 2 ^ 4042 := by
  have p : ((10 : Int) ^ k).natAbs < 2 ^ 40 := by
    rw [Int.natAbs_pow]
    exact Nat.lt_of_le_of_lt (Nat.pow_le_pow_right (by decide) hk) (by decide)
  have m := mul_bits h p
  have d1 := q.den_pos
  unfold steps
  generalize q.num * 10 ^ k = n at m ⊢
  generalize hd : (q.den : Int) = d
  have dp : 1 ≤ d := by omega
  have e : (n / d).natAbs ≤ n.natAbs + 1 := by
    have a1 := Int.ediv_mul_le n (show d ≠ 0 by omega)
    have a2 := Int.lt_ediv_add_one_mul_self n (show 0 < d by omega)
    rcases Int.lt_or_le n 0 with hn | hn
    · have u : n / d < 0 := Int.ediv_neg_of_neg_of_pos hn (by omega)
      have l : n ≤ n / d := by
        rcases Int.lt_or_le (n / d) n with z | z
        · exfalso
          have : (n / d + 1) * d ≤ (n / d + 1) * 1 := Int.mul_le_mul_of_nonpos_left (by omega) dp
          omega
        · exact z
      omega
    · have l : 0 ≤ n / d := Int.ediv_nonneg hn (by omega)
      have u : n / d ≤ n := Int.ediv_le_self d hn
      omega
  have b1 : (2 : Nat) ^ 4041 = 2 ^ 4040 + 2 ^ 4040 := Nat.two_pow_succ 4040
  have b2 : (2 : Nat) ^ 4042 = 2 ^ 4041 + 2 ^ 4041 := Nat.two_pow_succ 4041
  have b3 : (1 : Nat) ≤ 2 ^ 4040 := Nat.one_le_two_pow
  omega
theorem digs_eq (n : Int) (k : Nat) : Txt.zfill (Str.ofString (toString (if n < 0 then -n else n))) ((k : Int) + 1) = digs n k := by
  have e : (if n < 0 then -n else n) = ((n.natAbs : Nat) : Int) := by split <;> omega
  unfold digs
  rw [e]
  exact zfill_nat n.natAbs (k + 1)
theorem digs_len {n : Int} {k : Nat} (h : n.natAbs < 2 ^ 4042) (hk : k ≤ 12) : (digs n k).length ≤ 9000 ∧ k < (digs n k).length := by
  have e : (if n < 0 then -n else n).natAbs = n.natAbs := by split <;> omega
  have l := big_len (i := if n < 0 then -n else n) (by rw [e]; exact Nat.lt_trans h (by decide))
  unfold digs
  rw [zf_len]
  omega
theorem cut_len (x : Str) (lo hi : Option Int) : (cutS x lo hi).length ≤ x.length := by
  show ((x.cps.toList.drop _).take _).toArray.size ≤ _
  rw [List.size_toArray, List.length_take, List.length_drop]
  have : x.cps.toList.length = x.length := rfl
  omega
end Am
namespace KA
open PySem PySem.Spec PyProof.Rows L2 Oo Gd Am
section
variable {P : Program} {w : World} {K : W.Frag} {mg : Str → Option Value} {base : Heap} {C f : Addr} {fd : FuncData}
def spRound (C : Addr) : Sp := fun vs H Q _ => ∃ a q, ∃ k : Nat, vs = [.ref a, .int k] ∧ Is C H a q ∧ Low 4000 q ∧ k ≤ 12 ∧ Q (.str (dec q k)) H
abbrev nRnd : List Str := ["self", "places", "scale", "_", "steps", "sign", "digits", "point"]
theorem scRnd : FnScope nRnd ["self", "places"] (defScope (am 28)) := ⟨rfl, rfl, rfl, by decide +kernel, rfl, by decide +kernel, by decide +kernel⟩
theorem ok_round {t : Tok} (nb : base.NoDigits) (fr : Frees mg) (T : Cl K C) (DC : Dn P w K mg base CX0 2 "is_count" ["value"] spCount) (mgP : mg "MOST_PLACES" = some (.int 12 t)) (F : Fun K "rounded" "Amount.rounded" (am 28) f fd) :
    FnOk P w K mg base CX0 3 f fd ["self", "places"] (spRound C) := by
  refine F.ok scRnd (fun vs H Q E h => ?_) (fun cdv A' outer s H vs Q E hr h => ?_)
  · obtain ⟨a, q, k, rfl, _⟩ := h
    rfl
  · obtain ⟨a, q, k, rfl, ia, lw, k12, z⟩ := h
    have nd := scRnd.nd
    have isk : IsK K := ⟨trivial⟩
    refine ⟨_, pss_cons (ps_if (PW.pt (pw_or (pt_not (pt_val (pe_dn DC hr (by rfl) (by decide) (pa_cons (pv 1) pa_nil)))) (pw_or1 (pt_cmpR op_gt (pv 1) (pe_glob (v := V.int 12) rfl mgP ⟨t, rfl⟩) (nomark _))))) (pss_one ps_never) pss_nil)
      (pss_cons (ps_set (i := 2) nd rfl (.inl rfl) pe_int)
      (pss_cons (ps_for PassesOwn.never rfl (pi_range1 rfl (fr.h _ (by decide +kernel)) (pa_cons (pv 1) pa_nil)) (pg_name (i := 3) nd rfl (.inl rfl))
        (pss_one (ps_set (i := 2) nd rfl (.inl rfl) (pe_op op_mulW (pv 2) pe_int))))
      (pss_cons (ps_set (i := 4) nd rfl (.inl rfl) (pe_op op_fdivX (pe_op op_mulW (pe_top T (pv 0)) (pv 2)) (pe_bot T (pv 0))))
      (C8.pss_cut (ps_set (i := 5) nd rfl (.inl rfl) (pe_ifExp (pt_cmpR op_lt (pv 4) pe_int (nomark _)) pe_str pe_str))
      (pss_cons (ps_set (i := 6) nd rfl (.inl rfl) (pe_bm PySem.F.plainAttrs_str PySem.F.slot_str_zfill PySem.F.type_str_zfill mt_zfill
        (pe_callTy (call_strI nb rfl) rfl (fr.h _ (by decide +kernel)) (by decide +kernel) (pa_cons (pe_callB call_abs rfl (fr.h _ (by decide +kernel)) (by decide +kernel) (pa_cons (pv 4) pa_nil)) pa_nil)) (pa_cons (pe_op op_add (pv 1) pe_int) pa_nil)))
      (pss_cons (ps_if (pt_cmpR op_eq (pv 1) pe_int (nomark _)) (pss_one (ps_ret (pe_joined (.cons (pe_fmt (pv 5)) (.cons (pe_fmt (pv 6)) .nil))))) pss_nil)
      (pss_cons (ps_set (i := 7) nd rfl (.inl rfl) (pe_op op_sub (pe_callB (lenK isk) rfl (fr.h _ (by decide +kernel)) (by decide +kernel) (pa_cons (pv 6) pa_nil)) (pv 1)))
      (pss_one (ps_ret (pe_joined (.cons (pe_fmt (pv 5)) (.cons (pe_fmt (pe_slice sl_str (pv 6) po_none (po_some (pv 7)))) (.cons pe_str (.cons (pe_fmt (pe_slice sl_str (pv 6) (po_some (pv 7)) po_none)) .nil)))))))))))))), ?_⟩
    refine ⟨_, rfl, k, rfl, _, rfl, ?_⟩
    rw [decide_eq_true (show (0 : Int) ≤ k by omega)]
    refine iteF ⟨_, rfl, _, _, rfl, rfl, _, rfl, ite2 (fun h => absurd h (by simp; omega)) (fun _ => ?_)⟩
    refine ⟨_, rfl, k, rfl, (by omega), (by omega), ?_⟩
    refine for_range (lo := 0) (n := ((k : Int)).toNat) (fun j σ H' => H' = H ∧ σ[0]? = some (some (.ref a)) ∧ σ[1]? = some (some (.int k)) ∧ σ[2]? = some (some (.int (10 ^ j))) ∧ σ.length = 8) ?_ ?_ ?_
    · exact ⟨rfl, rfl, rfl, rfl, rfl⟩
    · rintro j σ H' hj ⟨rfl, s0, s1, s2, sl⟩
      have hj' : j < 12 := by omega
      have b10 : ((10 : Int) ^ j).natAbs < 2 ^ 40 := by
        rw [Int.natAbs_pow]
        exact Nat.lt_of_le_of_lt (Nat.pow_le_pow_right (by decide) (Nat.le_of_lt hj')) (by decide)
      refine ⟨_, by rw [List.getElem?_set_ne (by decide)]; exact s2, _, _, rfl, rfl, mulOk b10 (show ((10 : Int)).natAbs < 2 ^ 4 by decide) (by decide) (by decide), rfl, ?_, ?_, ?_, ?_⟩
      · rw [List.getElem?_set_ne (by decide), List.getElem?_set_ne (by decide)]; exact s0
      · rw [List.getElem?_set_ne (by decide), List.getElem?_set_ne (by decide)]; exact s1
      · rw [List.getElem?_set_self (by rw [List.length_set]; omega), Int.pow_succ]
      · rw [List.length_set, List.length_set]; exact sl
    · rintro σ H' ⟨rfl, s0, s1, s2, sl⟩
      rw [Int.toNat_natCast] at s2
      obtain ⟨x0, x1, x2, x3, x4, x5, x6, x7, rfl⟩ : ∃ x0 x1 x2 x3 x4 x5 x6 x7, σ = [x0, x1, x2, x3, x4, x5, x6, x7] := by
        match σ, sl with
        | [x0, x1, x2, x3, x4, x5, x6, x7], _ => exact ⟨x0, x1, x2, x3, x4, x5, x6, x7, rfl⟩
      injection s0 with s0
      injection s1 with s1
      injection s2 with s2
      subst s0 s1 s2
      have b10 : ((10 : Int) ^ k).natAbs < 2 ^ 40 := by
        rw [Int.natAbs_pow]
        exact Nat.lt_of_le_of_lt (Nat.pow_le_pow_right (by decide) k12) (by decide)
      refine ⟨_, rfl, a, q, rfl, ia, _, rfl, _, _, rfl, rfl, mulOk lw.1 b10 (by decide) (by decide), _, rfl, a, q, rfl, ia, _, _, rfl, rfl, ⟨den0 q, bits (low_den lw) (by decide)⟩, ?_⟩
      have fe : (q.num * 10 ^ k).fdiv (q.den : Int) = steps q k := Int.fdiv_eq_ediv_of_nonneg _ (by omega)
      have sb := steps_bits lw.1 k12
      obtain ⟨dl1, dl2⟩ := digs_len sb k12
      have de := digs_eq (steps q k) k
      have zz : Q (.str (dec q k)) H' := z
      unfold dec at zz
      have e1 : (Str.ofString "").length = 0 := by decide
      have e2 : (Str.ofString "-").length = 1 := by decide
      have e3 : (Str.ofString ".").length = 1 := by decide
      have e0 : (Str.empty).length = 0 := by decide
      have ml : (mark (steps q k)).length ≤ 1 := by
        unfold mark
        split
        · rw [e2]; exact Nat.le_refl _
        · rw [e1]; exact Nat.zero_le _
      have nb8 : (if steps q k < 0 then -steps q k else steps q k).natAbs < 2 ^ 8000 := by
        have : (if steps q k < 0 then -steps q k else steps q k).natAbs = (steps q k).natAbs := by split <;> omega
        rw [this]
        exact Nat.lt_trans sb (by decide)
      refine ⟨fun σ H2 => H2 = H' ∧ σ = [some (V.ref a), some (V.int k), some (V.int (10 ^ k)), x3, some (V.int (steps q k)), some (V.str (mark (steps q k))), x6, x7], ?_, ?_⟩
      · refine ⟨_, rfl, _, _, rfl, rfl, _, rfl, ite2 (fun h => ?_) (fun h => ?_)⟩
        · have h' : steps q k < 0 := by simpa [fe] using h
          refine ⟨rfl, ?_⟩
          unfold mark
          rw [if_pos h']
          show ((_ : L2.St).set 4 (some (V.int ((q.num * 10 ^ k).fdiv (q.den : Int))))).set 5 _ = _
          rw [fe]
          rfl
        · have h' : ¬ steps q k < 0 := by simpa [fe] using h
          refine ⟨rfl, ?_⟩
          unfold mark
          rw [if_neg h']
          show ((_ : L2.St).set 4 (some (V.int ((q.num * 10 ^ k).fdiv (q.den : Int))))).set 5 _ = _
          rw [fe]
          rfl
      · rintro σ H2 ⟨rfl, rfl⟩
        have pad : PadOk ((k : Int) + 1) = true := by
          have : ∀ j : Nat, j ≤ 12 → PadOk ((j : Int) + 1) = true := by decide +kernel
          exact this k k12
        refine ⟨_, rfl, _, rfl, _, rfl, nb8, rfl, _, rfl, _, _, rfl, rfl, _, _, rfl, rfl, pad, ?_⟩
        rw [de]
        generalize digs (steps q k) k = dg at zz dl1 dl2
        have big := line_ge
        refine ⟨_, rfl, rfl, _, rfl, ite2 (fun h => ?_) (fun h => ?_)⟩
        · have k0 : k = 0 := by simpa using h
          rw [if_pos k0] at zz
          rw [← emp (mark (steps q k))] at zz
          refine ⟨_, rfl, .inl ⟨_, rfl, (by omega), _, rfl, ?_, _, rfl, .inl ⟨_, rfl, (by omega), _, rfl, ?_, zz⟩⟩⟩ <;> (simp only [strLen_append, e0]; omega)
        · have k0 : ¬ k = 0 := by simpa using h
          rw [if_neg k0] at zz
          rw [← emp (mark (steps q k))] at zz
          have c1 := cut_len dg none (some ((dg.length : Int) - k))
          have c2 := cut_len dg (some ((dg.length : Int) - k)) none
          refine ⟨_, rfl, .inr ⟨_, rfl, (by omega), _, rfl, _, _, rfl, rfl, ?_⟩⟩
          refine ⟨_, rfl, .inl ⟨_, rfl, (by omega), _, rfl, ?_, _, rfl, _, rfl, _, rfl, _, rfl, (by omega), .inl ⟨_, rfl, (by omega), _, rfl, ?_, _, rfl, ?_, _, rfl, _, rfl, _, rfl, _, rfl, (by omega), .inl ⟨_, rfl, (by omega), _, rfl, ?_, zz⟩⟩⟩⟩ <;> (simp only [strLen_append, e0, e3]; omega)
end
end KA

set_option Elab.async false
set_option linter.all false
set_option maxRecDepth 100000
set_option maxHeartbeats 1000000
set_option exponentiation.threshold 20000
/-! The law's own small defs. -/
namespace KA
open PySem PySem.Spec PyProof.Rows L2 Oo Gd Am

/-! ### derivations by the text's shape -/
local macro_rules | `(tactic| walk_at "gd nd") => `(tactic| assumption)
local macro_rules | `(tactic| walk_at "gd lo") => `(tactic| first | exact Or.inl rfl | exact Or.inr rfl)
local macro_rules | `(tactic| walk_at "gd var") => `(tactic| first | exact pv 0 | exact pv 1 | exact pv 2 | exact pv 3 | exact pv 4 | exact pv 5 | exact pv 6 | exact pv 7 | exact pv 8 | exact pv 9 | exact pv 10 | exact pv 11 | exact pv 12 | exact pv 13 | exact pe_glob rfl (by assumption) rfl | exact pe_glob (v := V.ref (He.ga _ _)) rfl (Globs.h (by assumption) _ (by decide +kernel)) rfl | exact pe_bltn (v := V.ty _) rfl (Frees.h (by assumption) _ (by decide +kernel)) (by rfl) rfl | exact pe_bltn rfl (Frees.h (by assumption) _ (by decide +kernel)) (by decide +kernel) rfl)
local macro_rules | `(tactic| walk_at "gd a") => `(tactic| first | exact pa_nil | (refine' pa_cons ?k1 ?k2; (case k1 => walk_at "gd e"); (case k2 => walk_at "gd a")))
local macro_rules | `(tactic| walk_at "gd blt") => `(tactic| first
  | ((with_reducible show PE _ (Expr.Call (Expr.Name "abs" _) _ _ _) _); refine' pe_callB call_abs rfl (Frees.h (by assumption) _ (by decide +kernel)) (by decide +kernel) ?k1; (case k1 => walk_at "gd a"))
  | ((with_reducible show PE _ (Expr.Call (Expr.Name "max" _) _ _ _) _); refine' pe_callB (call_max2 rfl) rfl (Frees.h (by assumption) _ (by decide +kernel)) (by decide +kernel) ?k1; (case k1 => walk_at "gd a"))
  | ((with_reducible show PE _ (Expr.Call (Expr.Name "min" _) _ _ _) _); refine' pe_callB (call_min2 rfl) rfl (Frees.h (by assumption) _ (by decide +kernel)) (by decide +kernel) ?k1; (case k1 => walk_at "gd a"))
  | ((with_reducible show PE _ (Expr.Call (Expr.Name "len" _) _ _ _) _); refine' pe_callB (lenK (by assumption)) rfl (Frees.h (by assumption) _ (by decide +kernel)) (by decide +kernel) ?k1; (case k1 => walk_at "gd a"))
  | ((with_reducible show PE _ (Expr.Call (Expr.Name "divmod" _) _ _ _) _); refine' pe_callB call_divmodW rfl (Frees.h (by assumption) _ (by decide +kernel)) (by decide +kernel) ?k1; (case k1 => walk_at "gd a"))
  | ((with_reducible show PE _ (Expr.Call (Expr.Name "all" _) _ _ _) _); refine' pe_callB (allK (by assumption) rfl) rfl (Frees.h (by assumption) _ (by decide +kernel)) (by decide +kernel) ?k1; (case k1 => walk_at "gd a"))
  | ((with_reducible show PE _ (Expr.Call (Expr.Name "isinstance" _) _ _ _) _); refine' pe_callB (isXK (by assumption)) rfl (Frees.h (by assumption) _ (by decide +kernel)) (by decide +kernel) ?k1; (case k1 => walk_at "gd a"))
  | ((with_reducible show PE _ (Expr.Call (Expr.Name "repr" _) _ _ _) _); refine' pe_callB (call_repr (by assumption) (by assumption)) rfl (Frees.h (by assumption) _ (by decide +kernel)) (by decide +kernel) ?k1; (case k1 => walk_at "gd a"))
  | ((with_reducible show PE _ (Expr.Call (Expr.Name "int" _) _ _ _) _); refine' pe_callTy call_int1 rfl (Frees.h (by assumption) _ (by decide +kernel)) (by decide +kernel) ?k1; (case k1 => walk_at "gd a"))
  | ((with_reducible show PE _ (Expr.Call (Expr.Name "str" _) _ _ _) _); refine' pe_callTy (call_strI (by assumption) rfl) rfl (Frees.h (by assumption) _ (by decide +kernel)) (by decide +kernel) ?k1; (case k1 => walk_at "gd a"))
  | ((with_reducible show PE _ (Expr.Call (Expr.Name "bool" _) _ _ _) _); refine' pe_callTy call_bool1 rfl (Frees.h (by assumption) _ (by decide +kernel)) (by decide +kernel) ?k1; (case k1 => walk_at "gd a"))
  | ((with_reducible show PE _ (Expr.Call (Expr.Name "tuple" _) _ _ _) _); refine' pe_callTy (tupK (by assumption)) rfl (Frees.h (by assumption) _ (by decide +kernel)) (by decide +kernel) ?k1; (case k1 => walk_at "gd a")))
local macro_rules | `(tactic| walk_at "gd call") => `(tactic| first
  | walk_at "gd blt"
  | (refine' pe_dn (by assumption) (by assumption) rfl (by first | decide | omega) ?k1; (case k1 => walk_at "gd a"))
  | (refine' pe_dnG (by assumption) (by assumption) (by assumption) rfl (by first | decide | omega) ?k1; (case k1 => walk_at "gd a"))
  | walk_at "gd own")
local macro_rules | `(tactic| walk_at "gd own") => `(tactic| fail)
local macro_rules | `(tactic| walk_at "gd it") => `(tactic| fail)
local macro_rules | `(tactic| walk_at "gd i") => `(tactic| first
  | ((with_reducible show PI _ _ (Expr.Call (Expr.Name "range" _) [_] _ _) _); refine' pi_range1 rfl (Frees.h (by assumption) _ (by decide +kernel)) ?k1; (case k1 => walk_at "gd a"))
  | walk_at "gd it")
local macro_rules | `(tactic| walk_at "gd cv") => `(tactic| fail)
local macro_rules | `(tactic| walk_at "gd lc") => `(tactic| walk_at "gd cv")
local macro_rules | `(tactic| walk_at "gd e") => `(tactic| first
  | ((with_reducible show PE _ (Expr.Constant _ _ _) _); first | exact pe_int | exact pe_str | exact pe_bl | exact pe_non)
  | ((with_reducible show PE _ (Expr.Name _ _) _); walk_at "gd var")
  | ((with_reducible show PE _ (Expr.BinOp _ Operator.Add _ _) _); refine' pe_op op_addA ?k1 ?k2; (case k1 => walk_at "gd e"); (case k2 => walk_at "gd e"))
  | ((with_reducible show PE _ (Expr.BinOp _ Operator.Sub _ _) _); refine' pe_op op_sub ?k1 ?k2; (case k1 => walk_at "gd e"); (case k2 => walk_at "gd e"))
  | ((with_reducible show PE _ (Expr.BinOp _ Operator.Mult _ _) _); refine' pe_op op_mulA ?k1 ?k2; (case k1 => walk_at "gd e"); (case k2 => walk_at "gd e"))
  | ((with_reducible show PE _ (Expr.BinOp _ Operator.Mod _ _) _); refine' pe_op op_mod ?k1 ?k2; (case k1 => walk_at "gd e"); (case k2 => walk_at "gd e"))
  | ((with_reducible show PE _ (Expr.BinOp _ Operator.FloorDiv _ _) _); refine' pe_op op_fdivW ?k1 ?k2; (case k1 => walk_at "gd e"); (case k2 => walk_at "gd e"))
  | ((with_reducible show PE _ (Expr.BinOp _ Operator.Pow _ _) _); refine' pe_op op_pow ?k1 ?k2; (case k1 => walk_at "gd e"); (case k2 => walk_at "gd e"))
  | ((with_reducible show PE _ (Expr.UnaryOp UnaryOp.USub _ _) _); refine' pe_un un_neg ?k1; (case k1 => walk_at "gd e"))
  | ((with_reducible show PE _ (Expr.UnaryOp UnaryOp.Not _ _) _); refine' pe_not ?k1; (case k1 => walk_at "gd e"))
  | ((with_reducible show PE _ (Expr.Compare _ [CmpOp.Lt] _ _) _); refine' pe_cmpR op_lt ?k1 ?k2 (by rfl); (case k1 => walk_at "gd e"); (case k2 => walk_at "gd e"))
  | ((with_reducible show PE _ (Expr.Compare _ [CmpOp.LtE] _ _) _); refine' pe_cmpR op_le ?k1 ?k2 (by rfl); (case k1 => walk_at "gd e"); (case k2 => walk_at "gd e"))
  | ((with_reducible show PE _ (Expr.Compare _ [CmpOp.Gt] _ _) _); refine' pe_cmpR op_gt ?k1 ?k2 (by rfl); (case k1 => walk_at "gd e"); (case k2 => walk_at "gd e"))
  | ((with_reducible show PE _ (Expr.Compare _ [CmpOp.GtE] _ _) _); refine' pe_cmpR op_ge ?k1 ?k2 (by rfl); (case k1 => walk_at "gd e"); (case k2 => walk_at "gd e"))
  | ((with_reducible show PE _ (Expr.Compare _ [CmpOp.Eq] _ _) _); refine' pe_cmpR (eqK (by assumption) (by assumption)) ?k1 ?k2 (by rfl); (case k1 => walk_at "gd e"); (case k2 => walk_at "gd e"))
  | ((with_reducible show PE _ (Expr.Compare _ [CmpOp.NotEq] _ _) _); refine' pe_cmpR (neK (by assumption) (by assumption)) ?k1 ?k2 (by rfl); (case k1 => walk_at "gd e"); (case k2 => walk_at "gd e"))
  | ((with_reducible show PE _ (Expr.Compare _ [CmpOp.In] _ _) _); refine' pe_cmpR (inK (by assumption)) ?k1 ?k2 (by rfl); (case k1 => walk_at "gd e"); (case k2 => walk_at "gd e"))
  | ((with_reducible show PE _ (Expr.Compare _ [CmpOp.NotIn] _ _) _); refine' pe_cmpR (niK (by assumption)) ?k1 ?k2 (by rfl); (case k1 => walk_at "gd e"); (case k2 => walk_at "gd e"))
  | ((with_reducible show PE _ (Expr.IfExp _ _ _ _) _); refine' pe_ifExp ?k1 ?k2 ?k3; (case k1 => walk_at "gd t"); (case k2 => walk_at "gd e"); (case k3 => walk_at "gd e"))
  | ((with_reducible show PE _ (Expr.Subscript _ (Expr.Slice none (some _) none _) _) _); refine' pe_slice sl_str ?k1 po_none (po_some ?k2); (case k1 => walk_at "gd e"); (case k2 => walk_at "gd e"))
  | ((with_reducible show PE _ (Expr.Subscript _ _ _) _); refine' pe_ix (ixK (by assumption)) ?k1 ?k2 (fun _ _ => rfl); (case k1 => walk_at "gd e"); (case k2 => walk_at "gd e"))
  | ((with_reducible show PE _ (Expr.List _ _) _); refine' pe_lst ?k1; (case k1 => walk_at "gd a"))
  | ((with_reducible show PE _ (Expr.Tuple _ _ _) _); refine' pe_tup ?k1; (case k1 => walk_at "gd a"))
  | ((with_reducible show PE _ (Expr.Dict [] [] _) _); exact pe_dnewK)
  | ((with_reducible show PE _ (Expr.Dict [_] [_] _) _); refine' pe_disp (pps_cons ?k1 ?k2 pps_nil) rfl rfl (fun z => by cases z) (by decide); (case k1 => walk_at "gd e"); (case k2 => walk_at "gd e"))
  | ((with_reducible show PE _ (Expr.Call (Expr.Attribute _ "join" _) _ _ _) _); refine' joinK (by assumption) ?k1 ?k2; (case k1 => walk_at "gd e"); (case k2 => walk_at "gd e"))
  | ((with_reducible show PE _ (Expr.Call (Expr.Attribute _ "append" _) _ _ _) _); refine' pe_bm PySem.F.plainAttrs_list PySem.F.slot_list_append PySem.F.type_list_append mt_append ?k1 ?k2; (case k1 => walk_at "gd e"); (case k2 => walk_at "gd a"))
  | ((with_reducible show PE _ (Expr.Attribute _ _ _) _); refine' efK (by assumption) ?k1; (case k1 => walk_at "gd e"))
  | ((with_reducible show PE _ (Expr.ListComp _ _ _ _) _); walk_at "gd lc")
  | walk_at "gd call")
local macro_rules | `(tactic| walk_at "gd t") => `(tactic| first
  | ((with_reducible show PT _ (Expr.UnaryOp UnaryOp.Not _ _) _); refine' pt_not ?k1; (case k1 => walk_at "gd t"))
  | ((with_reducible show PT _ (Expr.BoolOp BoolOp.And [_, _] _) _); refine' PW.pt (pw_and ?k1 (pw_and1 ?k2)); (case k1 => walk_at "gd t"); (case k2 => walk_at "gd t"))
  | ((with_reducible show PT _ (Expr.BoolOp BoolOp.Or [_, _] _) _); refine' PW.pt (pw_or ?k1 (pw_or1 ?k2)); (case k1 => walk_at "gd t"); (case k2 => walk_at "gd t"))
  | ((with_reducible show PT _ (Expr.Compare _ [CmpOp.Lt] _ _) _); refine' pt_cmpR op_lt ?k1 ?k2 (by rfl); (case k1 => walk_at "gd e"); (case k2 => walk_at "gd e"))
  | ((with_reducible show PT _ (Expr.Compare _ [CmpOp.LtE] _ _) _); refine' pt_cmpR op_le ?k1 ?k2 (by rfl); (case k1 => walk_at "gd e"); (case k2 => walk_at "gd e"))
  | ((with_reducible show PT _ (Expr.Compare _ [CmpOp.Gt] _ _) _); refine' pt_cmpR op_gt ?k1 ?k2 (by rfl); (case k1 => walk_at "gd e"); (case k2 => walk_at "gd e"))
  | ((with_reducible show PT _ (Expr.Compare _ [CmpOp.GtE] _ _) _); refine' pt_cmpR op_ge ?k1 ?k2 (by rfl); (case k1 => walk_at "gd e"); (case k2 => walk_at "gd e"))
  | ((with_reducible show PT _ (Expr.Compare _ [CmpOp.Eq] _ _) _); refine' pt_cmpR (eqK (by assumption) (by assumption)) ?k1 ?k2 (by rfl); (case k1 => walk_at "gd e"); (case k2 => walk_at "gd e"))
  | ((with_reducible show PT _ (Expr.Compare _ [CmpOp.NotEq] _ _) _); refine' pt_cmpR (neK (by assumption) (by assumption)) ?k1 ?k2 (by rfl); (case k1 => walk_at "gd e"); (case k2 => walk_at "gd e"))
  | ((with_reducible show PT _ (Expr.Compare _ [CmpOp.In] _ _) _); refine' pt_cmpR (inK (by assumption)) ?k1 ?k2 (by rfl); (case k1 => walk_at "gd e"); (case k2 => walk_at "gd e"))
  | ((with_reducible show PT _ (Expr.Compare _ [CmpOp.NotIn] _ _) _); refine' pt_cmpR (niK (by assumption)) ?k1 ?k2 (by rfl); (case k1 => walk_at "gd e"); (case k2 => walk_at "gd e"))
  | (refine' pt_val ?k1; (case k1 => walk_at "gd e")))
local macro_rules | `(tactic| walk_at "gd g") => `(tactic| first
  | ((with_reducible show PG _ (Expr.Name _ _) _); first | exact pg_name (i := 0) (by walk_at "gd nd") rfl (by walk_at "gd lo") | exact pg_name (i := 1) (by walk_at "gd nd") rfl (by walk_at "gd lo") | exact pg_name (i := 2) (by walk_at "gd nd") rfl (by walk_at "gd lo") | exact pg_name (i := 3) (by walk_at "gd nd") rfl (by walk_at "gd lo") | exact pg_name (i := 4) (by walk_at "gd nd") rfl (by walk_at "gd lo") | exact pg_name (i := 5) (by walk_at "gd nd") rfl (by walk_at "gd lo") | exact pg_name (i := 6) (by walk_at "gd nd") rfl (by walk_at "gd lo") | exact pg_name (i := 7) (by walk_at "gd nd") rfl (by walk_at "gd lo") | exact pg_name (i := 8) (by walk_at "gd nd") rfl (by walk_at "gd lo") | exact pg_name (i := 9) (by walk_at "gd nd") rfl (by walk_at "gd lo") | exact pg_name (i := 10) (by walk_at "gd nd") rfl (by walk_at "gd lo") | exact pg_name (i := 11) (by walk_at "gd nd") rfl (by walk_at "gd lo") | exact pg_name (i := 12) (by walk_at "gd nd") rfl (by walk_at "gd lo") | exact pg_name (i := 13) (by walk_at "gd nd") rfl (by walk_at "gd lo"))
  | ((with_reducible show PG _ (Expr.Subscript _ _ _) _); refine' pg_sub ?k1 ?k2 set_list; (case k1 => walk_at "gd e"); (case k2 => walk_at "gd e"))
  | ((with_reducible show PG _ (Expr.Tuple _ _ _) _); refine' pg_tup rfl ?k1; (case k1 => walk_at "gd gs")))
local macro_rules | `(tactic| walk_at "gd gs") => `(tactic| first | exact pgs_nil | (refine' pgs_cons ?k1 ?k2; (case k1 => walk_at "gd g"); (case k2 => walk_at "gd gs")))
local macro_rules | `(tactic| walk_at "gd set") => `(tactic| first | (refine' ps_set (i := 0) (by walk_at "gd nd") rfl (by walk_at "gd lo") ?k1; (case k1 => walk_at "gd e")) | (refine' ps_set (i := 1) (by walk_at "gd nd") rfl (by walk_at "gd lo") ?k1; (case k1 => walk_at "gd e")) | (refine' ps_set (i := 2) (by walk_at "gd nd") rfl (by walk_at "gd lo") ?k1; (case k1 => walk_at "gd e")) | (refine' ps_set (i := 3) (by walk_at "gd nd") rfl (by walk_at "gd lo") ?k1; (case k1 => walk_at "gd e")) | (refine' ps_set (i := 4) (by walk_at "gd nd") rfl (by walk_at "gd lo") ?k1; (case k1 => walk_at "gd e")) | (refine' ps_set (i := 5) (by walk_at "gd nd") rfl (by walk_at "gd lo") ?k1; (case k1 => walk_at "gd e")) | (refine' ps_set (i := 6) (by walk_at "gd nd") rfl (by walk_at "gd lo") ?k1; (case k1 => walk_at "gd e")) | (refine' ps_set (i := 7) (by walk_at "gd nd") rfl (by walk_at "gd lo") ?k1; (case k1 => walk_at "gd e")) | (refine' ps_set (i := 8) (by walk_at "gd nd") rfl (by walk_at "gd lo") ?k1; (case k1 => walk_at "gd e")) | (refine' ps_set (i := 9) (by walk_at "gd nd") rfl (by walk_at "gd lo") ?k1; (case k1 => walk_at "gd e")) | (refine' ps_set (i := 10) (by walk_at "gd nd") rfl (by walk_at "gd lo") ?k1; (case k1 => walk_at "gd e")) | (refine' ps_set (i := 11) (by walk_at "gd nd") rfl (by walk_at "gd lo") ?k1; (case k1 => walk_at "gd e")) | (refine' ps_set (i := 12) (by walk_at "gd nd") rfl (by walk_at "gd lo") ?k1; (case k1 => walk_at "gd e")) | (refine' ps_set (i := 13) (by walk_at "gd nd") rfl (by walk_at "gd lo") ?k1; (case k1 => walk_at "gd e")))
local macro_rules | `(tactic| walk_at "gd os") => `(tactic| fail)
local macro_rules | `(tactic| walk_at "gd slc") => `(tactic| fail)
local macro_rules | `(tactic| walk_at "gd par") => `(tactic| fail)
local macro_rules | `(tactic| walk_at "gd s") => `(tactic| first
  | ((with_reducible show PS _ (Stmt.Return (some _) _) _); refine' ps_ret ?k1; (case k1 => walk_at "gd e"))
  | ((with_reducible show PS _ (Stmt.If _ _ _ _) _); refine' ps_if ?k1 ?k2 ?k3; (case k1 => walk_at "gd t"); (case k2 => walk_at "gd ss"); (case k3 => walk_at "gd ss"))
  | ((with_reducible show PS _ (Stmt.Assign [Expr.Name _ _] (Expr.ListComp _ _ _ _) _) _); walk_at "gd slc")
  | ((with_reducible show PS _ (Stmt.Assign [Expr.Name _ _] _ _) _); walk_at "gd set")
  | ((with_reducible show PS _ (Stmt.Assign [_] _ _) _); refine' ps_asg ?k1 ?k2; (case k1 => walk_at "gd e"); (case k2 => walk_at "gd g"))
  | ((with_reducible show PS _ (Stmt.Assign [_] _ _) _); walk_at "gd par")
  | ((with_reducible show PS _ (Stmt.For _ _ _ _ _) _); refine' ps_for PassesOwn.never rfl ?k1 ?k2 ?k3; (case k1 => walk_at "gd i"); (case k2 => walk_at "gd g"); (case k3 => walk_at "gd ss"))
  | ((with_reducible show PS _ (Stmt.Expr _ _) _); refine' ps_expr ?k1; (case k1 => walk_at "gd e"))
  | walk_at "gd os")
local macro_rules | `(tactic| walk_at "gd ss") => `(tactic| first | exact pss_nil | (refine' pss_one ?k1; (case k1 => walk_at "gd s")) | (refine' pss_cons ?k1 ?k2; (case k1 => walk_at "gd s"); (case k2 => walk_at "gd ss")))
abbrev sPot : Stmt := top 19
abbrev sDraw : Stmt := top 20
abbrev sPick : Stmt := top 21
theorem scPot : FnScope ["_law_script", "_law_k", "_law_cell"] ["_law_script", "_law_k"] (defScope sPot) := ⟨rfl, rfl, rfl, by decide +kernel, rfl, by decide +kernel, by decide +kernel⟩
theorem scDraw : FnScope ["_law_pot_here", "_law_sides", "_law_digit"] ["_law_pot_here", "_law_sides"] (defScope sDraw) := ⟨rfl, rfl, rfl, by decide +kernel, rfl, by decide +kernel, by decide +kernel⟩
theorem scPick : FnScope ["_law_pot_here", "_law_some"] ["_law_pot_here", "_law_some"] (defScope sPick) := ⟨rfl, rfl, rfl, by decide +kernel, rfl, by decide +kernel, by decide +kernel⟩
/-- draw(pot, sides), of more sides -/
def spDraw11 : Sp := fun vs H Q _ => ∃ (p : Addr) (n : Int), vs = [.ref p, .int n] ∧ Pot H p ∧ 0 < n ∧ n ≤ 10000000000000 ∧ ∀ (d : Int) (H' : Hp), 0 ≤ d → d < n → Kp p H H' → Q (.int d) H'
section
variable {P : Program} {w : World} {K : W.Frag} {mg : Str → Option Value} {base : Heap} {f : Addr} {fd : FuncData}
theorem ok_draw (fr : Frees mg) (F : Fun K "_law_draw" "_law_draw" sDraw f fd) : FnOk P w K mg base CX0 1 f fd ["_law_pot_here", "_law_sides"] spDraw11 := by
  refine F.ok scDraw (fun vs H Q E h => ?_) (fun cdv A outer s H vs Q E hr h => ⟨?t, ?d, ?r⟩)
  · obtain ⟨p, n, rfl, _⟩ := h
    rfl
  case d =>
    have nd := scDraw.nd
    have isk : IsK K := ⟨trivial⟩
    walk_at "gd ss"
  case r =>
    obtain ⟨p, n, rfl, ⟨a, b, hp, ha, hb0, hb1⟩, hn0, hn1, k⟩ := h
    refine ⟨_, rfl, ix0 hp ⟨a, 0, rfl, rfl, _, rfl, ite2 (fun c => ?_) (fun c => ?_)⟩⟩
    · refine ⟨_, rfl, ix0 hp ⟨_, rfl, a, n, rfl, ⟨hn0, PyProof.noPylong_of_log2 (bits (n := 80) (by omega) (by decide))⟩, fun t ht => ?_⟩⟩
      have tp : t ≠ p := ne_of_none' hp ht
      refine ⟨t, _, rfl, SqT.of upd_same, rfl, _, _, rfl, _, rfl, p, _, 0, 0, rfl, rfl, (upd_ne (Ne.symm tp)).trans hp, rfl, _, _, rfl, rfl, _, rfl, ?_⟩
      refine k (a % n) _ (Int.emod_nonneg _ (by omega)) (Int.emod_lt_of_pos _ hn0) ⟨fun c o nc hc => ?_, a / n, b, upd_same, Int.ediv_nonneg ha (by omega), hb0, hb1⟩
      rw [upd_ne nc, upd_ne (ne_of_none hc ht)]
      exact hc
    · refine ⟨_, rfl, ix1 hp (.inl ⟨b, 40009, rfl, rfl, mulW (by omega) (by decide), .inl ⟨_, 15013, rfl, rfl, .inl ⟨_, rfl, _, 2147483587, rfl, rfl, (by show (0 : Int) < _; decide), ?_⟩⟩⟩)⟩
      refine ⟨_, rfl, p, _, 1, 1, rfl, rfl, hp, rfl, ?_⟩
      have m0 : 0 ≤ (b * 40009 + 15013) % 2147483587 := Int.emod_nonneg _ (by decide)
      have m1 : (b * 40009 + 15013) % 2147483587 < 2147483587 := Int.emod_lt_of_pos _ (by decide)
      refine ⟨_, rfl, ix1 upd_same ⟨_, rfl, ix1 upd_same (.inl ⟨_, _, rfl, rfl, mulW (by omega) (by omega), .inl ⟨_, rfl, _, 2147483549, rfl, rfl, (by show (0 : Int) < _; decide), _, 13, rfl, rfl, divW (by decide) (by decide), .inl ⟨_, rfl, _, rfl, _, n, rfl, rfl, hn0, ?_⟩⟩⟩)⟩⟩
      exact k _ _ (Int.emod_nonneg _ (by omega)) (Int.emod_lt_of_pos _ hn0) (Kp.put ha m0 (by omega))
theorem ok_pick (fr : Frees mg) (D1 : Dn P w K mg base CX0 1 "_law_draw" ["_law_pot_here", "_law_sides"] spDraw11) (F : Fun K "_law_pick" "_law_pick" sPick f fd) : FnOk P w K mg base CX0 2 f fd ["_law_pot_here", "_law_some"] (spPick K) := by
  refine F.ok scPick (fun vs H Q E h => ?_) (fun cdv A outer s H vs Q E hr h => ⟨?t, ?d, ?r⟩)
  · obtain ⟨p, l, xs, rfl, _⟩ := h
    rfl
  case d =>
    have nd := scPick.nd
    have isk : IsK K := ⟨trivial⟩
    walk_at "gd ss"
  case r =>
    obtain ⟨p, l, xs, rfl, hp, ne, hl, h0, h1, k⟩ := h
    have pos : 0 < xs.length := List.length_pos_iff.mpr h0
    refine ⟨_, rfl, _, rfl, _, rfl, .inl ⟨l, xs, rfl, .inl hl, p, xs.length, rfl, hp, by omega, by omega, fun d H' d0 d1 kp => ?_⟩⟩
    have hd : d.toNat < xs.length := by omega
    refine .inl ⟨l, xs, d, xs[d.toNat], rfl, rfl, kp.seq ne hl, ?_, k _ _ (List.getElem_mem _) kp⟩
    exact atI_int d0 (List.getElem?_eq_getElem hd)
theorem cube {z : Int} (h0 : 0 ≤ z) (h1 : z ≤ 300) : (z ^ 3).natAbs < 2 ^ 80 := by
  rw [Int.natAbs_pow]
  exact Nat.lt_of_le_of_lt (Nat.pow_le_pow_left (show z.natAbs ≤ 300 by omega) 3) (by decide)
theorem ok_pot (fr : Frees mg) (F : Fun K "_law_pot" "_law_pot" sPot f fd) : FnOk P w K mg base CX0 1 f fd ["_law_script", "_law_k"] (spPot K) := by
  refine F.ok scPot (fun vs H Q E h => ?_) (fun cdv A outer s H vs Q E hr h => ⟨?t, ?d, ?r⟩)
  · obtain ⟨a, ns, k, rfl, _⟩ := h
    rfl
  case d =>
    have nd := scPot.nd
    have isk : IsK K := ⟨trivial⟩
    walk_at "gd ss"
  case r =>
    obtain ⟨a, ns, k, rfl, hs, k0, k1, q⟩ := h
    have tail : ∀ (c : Int) (p : Addr), H p = none → Q (.ref p) (upd H p (.lst [.int (if c - 10 ^ (18 : Int).toNat > 0 then c - 10 ^ (18 : Int).toNat else 0), .int ((c % 2147483549 + 3) * (2 * k + 5) ^ (3 : Int).toNat % 2147483477 + 1)])) := by
      intro c p hp
      have m0 := Int.emod_nonneg ((c % 2147483549 + 3) * (2 * k + 5) ^ (3 : Int).toNat) (b := 2147483477) (by decide)
      have m1 := Int.emod_lt_of_pos ((c % 2147483549 + 3) * (2 * k + 5) ^ (3 : Int).toNat) (b := 2147483477) (by decide)
      refine q p _ hp (fun b o e => by rw [upd_ne (ne_of_none e hp)]; exact e) ⟨_, _, upd_same, ?_, by omega, by omega⟩
      split <;> omega
    have rest : ∀ c : Int, CMulW (c % 2147483549 + 3) ((2 * k + 5) ^ (3 : Int).toNat) := fun c => by
      have m0 := Int.emod_nonneg c (b := 2147483549) (by decide)
      have m1 := Int.emod_lt_of_pos c (b := 2147483549) (by decide)
      exact mulW (by omega) (cube (by omega) (by omega))
    refine ⟨_, rfl, .inl ⟨13, k, rfl, rfl, mulW (by decide) (by omega), .inl ⟨_, 7, rfl, rfl, _, rfl, _, rfl, .inl ⟨a, _, rfl, .inl hs, k, _, rfl, rfl, _, rfl, ite2 (fun c => ?_) (fun c => ?_)⟩⟩⟩⟩
    · have hk : k.toNat < ns.length := by
        have c' := of_decide_eq_true c
        rw [List.length_map] at c'
        omega
      refine ⟨_, rfl, _, rfl, .inl ⟨a, _, k, .int (ns[k.toNat]), rfl, rfl, hs, ?_, _, rfl, ?_⟩⟩
      · exact atI_int k0 (by rw [List.getElem?_map, List.getElem?_eq_getElem hk]; rfl)
      · refine ⟨_, rfl, 10, 18, rfl, rfl, ⟨by decide, by decide, by decide⟩, _, _, rfl, rfl, 0, _, rfl, _, rfl, .inl ⟨_, rfl, _, 2147483549, rfl, rfl, (by show (0 : Int) < _; decide), .inl ⟨_, 3, rfl, rfl, .inl ⟨_, rfl, _, rfl, .inl ⟨2, k, rfl, rfl, mulW (by decide) (by omega), .inl ⟨_, 5, rfl, rfl, _, 3, rfl, rfl, ⟨by decide, by decide, by omega⟩, .inl ⟨_, _, rfl, rfl, rest _, _, 2147483477, rfl, rfl, (by show (0 : Int) < _; decide), .inl ⟨_, 1, rfl, rfl, (by show 2 ≤ sizeLine; decide), fun p hp => tail _ p hp⟩⟩⟩⟩⟩⟩⟩⟩
    · refine ⟨_, rfl, 10, 18, rfl, rfl, ⟨by decide, by decide, by decide⟩, _, _, rfl, rfl, 0, _, rfl, _, rfl, .inl ⟨_, rfl, _, 2147483549, rfl, rfl, (by show (0 : Int) < _; decide), .inl ⟨_, 3, rfl, rfl, .inl ⟨_, rfl, _, rfl, .inl ⟨2, k, rfl, rfl, mulW (by decide) (by omega), .inl ⟨_, 5, rfl, rfl, _, 3, rfl, rfl, ⟨by decide, by decide, by omega⟩, .inl ⟨_, _, rfl, rfl, rest _, _, 2147483477, rfl, rfl, (by show (0 : Int) < _; decide), .inl ⟨_, 1, rfl, rfl, (by show 2 ≤ sizeLine; decide), fun p hp => tail _ p hp⟩⟩⟩⟩⟩⟩⟩⟩
/-! ### lowest -/
theorem low_num' {n d : Int} (h : 0 < d) : n / ((n.natAbs.gcd d.natAbs : Nat) : Int) = (Rat.divInt n d).num := by
  have e := low_num n d (by omega)
  rw [if_neg (by omega)] at e
  rw [← e, Int.fdiv_eq_ediv_of_nonneg _ (by omega)]
theorem low_den' {n d : Int} (h : 0 < d) : d / ((n.natAbs.gcd d.natAbs : Nat) : Int) = ((Rat.divInt n d).den : Int) := by
  have e := Am.low_den n d (by omega)
  rw [if_neg (by omega)] at e
  rw [← e, Int.fdiv_eq_ediv_of_nonneg _ (by omega)]
/-- at t the pair of q -/
def Pt (K : W.Frag) (H : Hp) (t : Addr) (q : Rat) : Prop := SqT K H t [.int q.num, .int q.den]
/-- a new pair -/
def NewP (H : Hp) (Q : VK) (q : Rat) : Prop := ∀ (t : Addr) (H' : Hp), Am.Ext H H' → H t = none → H' t = some (.tup [.int q.num, .int q.den]) → Q (.ref t) H'
theorem NewP.here {H : Hp} {Q : VK} {q : Rat} (h : NewP H Q q) {n d : Int} (hn : n = q.num) (hd : d = q.den) : ∀ t, H t = none → Q (.ref t) (upd H t (.tup [.int n, .int d])) := by
  intro t ht
  subst hn hd
  exact h t _ (Am.Ext.new ht) ht upd_same
def spLow : Sp := fun vs H Q _ => ∃ n d : Int, vs = [.int n, .int d] ∧ 0 < d ∧ n.natAbs < 2 ^ 8000 ∧ d.natAbs < 2 ^ 8000 ∧ NewP H Q (Rat.divInt n d)
abbrev nLow : List Str := ["_law_high", "_law_low", "_law_big", "_law_small"]
theorem scLow : FnScope nLow ["_law_high", "_law_low"] (defScope (top 22)) := ⟨rfl, rfl, rfl, by decide +kernel, rfl, by decide +kernel, by decide +kernel⟩
def msr (σ : L2.St) : Nat := match σ[3]? with
  | some (some (V.int s)) => s.toNat
  | _ => 0
theorem ok_low (fr : Frees mg) (F : Fun K "_law_lowest" "_law_lowest" (top 22) f fd) : FnOk P w K mg base CX0 1 f fd ["_law_high", "_law_low"] spLow := by
  refine F.ok scLow (fun vs H Q E h => ?_) (fun cdv A outer s H vs Q E hr h => ?_)
  · obtain ⟨n, d, rfl, _⟩ := h
    rfl
  · obtain ⟨n, d, rfl, d0, hn, hd, q⟩ := h
    have nd := scLow.nd
    refine ⟨_, pss_cons (ps_par (i := 2) (j := 3) rfl nd rfl rfl (by decide) rfl rfl (pa_cons (pe_callB call_abs rfl (fr.h _ (by decide +kernel)) (by decide +kernel) (pa_cons (pv 0) pa_nil)) (pa_cons (pv 1) pa_nil)) (by rfl))
      (pss_cons (ps_while PassesOwn.never (pt_cmpR op_gt (pv 3) pe_int (nomark _)) (pss_one (ps_par (i := 2) (j := 3) rfl nd rfl rfl (by decide) rfl rfl (pa_cons (pv 3) (pa_cons (pe_op op_mod (pv 2) (pv 3)) pa_nil)) (by rfl))))
      (pss_one (ps_ret (pe_tup (pa_cons (pe_op op_fdivW (pv 0) (pv 2)) (pa_cons (pe_op op_fdivW (pv 1) (pv 2)) pa_nil)))))), ?_⟩
    refine ⟨_, rfl, n, rfl, _, rfl, _, _, rfl, ?_⟩
    refine while_by (fun σ H' => H' = H ∧ ∃ B S : Nat, σ = [some (.int n), some (.int d), some (.int B), some (.int S)] ∧ B.gcd S = n.natAbs.gcd d.natAbs) (fun σ _ => msr σ) ?_ ?_ ?_
    · refine ⟨rfl, n.natAbs, d.natAbs, ?_, rfl⟩
      have e1 : (if n < 0 then -n else n) = ((n.natAbs : Nat) : Int) := by split <;> omega
      have e2 : d = ((d.natAbs : Nat) : Int) := by omega
      show [some (V.int n), some (V.int d), some (V.int (if n < 0 then -n else n)), some (V.int d)] = _
      rw [e1, ← e2]
    · rintro σ H' ⟨rfl, B, S, rfl, hg⟩
      refine ⟨_, rfl, _, _, rfl, rfl, _, rfl, ite2 (fun h => ?_) (fun h => ?_)⟩
      · have s0 : (0 : Int) < S := by simpa using h
        refine ⟨_, rfl, _, rfl, _, rfl, _, _, rfl, rfl, s0, _, _, rfl, ⟨rfl, S, B % S, ?_, ?_⟩, ?_⟩
        · show [some (V.int n), some (V.int d), some (V.int S), some (V.int ((B : Int) % (S : Int)))] = _
          rw [Int.natCast_emod]
        · rw [← hg, Nat.gcd_comm S, ← Nat.gcd_rec, Nat.gcd_comm]
        · show ((B : Int) % (S : Int)).toNat < (S : Int).toNat
          have := Int.emod_lt_of_pos (B : Int) s0
          have := Int.emod_nonneg (B : Int) (show (S : Int) ≠ 0 by omega)
          omega
      · have s0 : S = 0 := by
          have : ¬ (0 : Int) < S := by simpa using h
          omega
        subst s0
        have hB : B = n.natAbs.gcd d.natAbs := by rw [← hg, Nat.gcd_zero_right]
        have B1 : 0 < B := by
          rw [hB]
          exact Nat.gcd_pos_of_pos_right _ (by omega)
        have B2 : B ≤ d.natAbs := by
          rw [hB]
          exact Nat.gcd_le_right _ (by omega)
        have cw : ∀ x : Int, CDivW x (B : Int) := fun x => ⟨by omega, bits (n := 8000) (by rw [Int.natAbs_natCast]; omega) (by decide)⟩
        refine ⟨_, rfl, _, rfl, _, _, rfl, rfl, cw _, _, rfl, _, rfl, _, _, rfl, rfl, cw _, (by show 2 ≤ sizeLine; decide), ?_⟩
        exact q.here (by rw [hB]; exact low_num' d0) (by rw [hB]; exact low_den' d0)
    · rintro σ H Q Q' h ⟨v, e, i, j, e1, e2, b, e3, z⟩
      exact ⟨v, e, i, j, e1, e2, b, e3, h _ _ z⟩
end
end KA

set_option Elab.async false
set_option linter.all false
set_option maxRecDepth 100000
set_option maxHeartbeats 1000000
set_option exponentiation.threshold 20000
namespace KA
open PySem PySem.Spec PyProof.Rows L2 Oo Gd Am
section
variable {P : Program} {w : World} {K : W.Frag} {mg : Str → Option Value} {base : Heap} {f : Addr} {fd : FuncData}
theorem rd0 {H : Hp} {Q : VK} {t : Addr} {a b : V} (h : SqT K H t [a, b]) (z : Q a H) : rIxT K (.ref t) (.int 0) H Q := ⟨t, _, 0, _, rfl, rfl, h, rfl, z⟩
theorem rd1 {H : Hp} {Q : VK} {t : Addr} {a b : V} (h : SqT K H t [a, b]) (z : Q b H) : rIxT K (.ref t) (.int 1) H Q := ⟨t, _, 1, _, rfl, rfl, h, rfl, z⟩
theorem Pt.ext {H H' : Hp} {t : Addr} {q : Rat} (h : Pt K H t q) (e : Am.Ext H H') : Pt K H' t q := by
  rcases h with (h | ⟨o, h⟩) | h
  · exact .inl (.inl (e _ _ h))
  · exact .inl (.inr ⟨o, e _ _ h⟩)
  · exact .inr h
theorem Pt.of {H : Hp} {t : Addr} {q : Rat} (h : H t = some (.tup [.int q.num, .int q.den])) : Pt K H t q := SqT.of h
theorem Kp.pt {p : Addr} {H H' : Hp} {t : Addr} {q : Rat} (k : Kp p H H') (n : t ≠ p) (h : Pt K H t q) : Pt K H' t q := by
  rcases h with (h | ⟨o, h⟩) | h
  · exact .inl (.inl (k.1 _ _ n h))
  · exact .inl (.inr ⟨o, k.1 _ _ n h⟩)
  · exact .inr h
abbrev DnD (P : Program) (w : World) (K : W.Frag) (mg : Str → Option Value) (base : Heap) : Prop := Dn P w K mg base CX0 1 "_law_draw" ["_law_pot_here", "_law_sides"] spDraw11
abbrev DnP (P : Program) (w : World) (K : W.Frag) (mg : Str → Option Value) (base : Heap) : Prop := Dn P w K mg base CX0 2 "_law_pick" ["_law_pot_here", "_law_some"] (spPick K)
abbrev DnL (P : Program) (w : World) (K : W.Frag) (mg : Str → Option Value) (base : Heap) : Prop := Dn P w K mg base CX0 1 "_law_lowest" ["_law_high", "_law_low"] spLow
/-! ### great -/
def spGreat : Sp := fun vs H Q _ => ∃ p : Addr, vs = [.ref p] ∧ Pot H p ∧ ∀ (n : Int) (H' : Hp), 0 < n → n < 2 ^ 112 → Kp p H H' → Q (.int n) H'
/-! ### part -/
def spPart (K : W.Frag) : Sp := fun vs H Q _ => ∃ p : Addr, vs = [.ref p] ∧ Pot H p ∧ ∀ (t : Addr) (q : Rat) (H' : Hp), H t = none → t ≠ p → H' t = some (.tup [.int q.num, .int q.den]) → Low 112 q → Kp p H H' → Q (.ref t) H'
/-! ### sum, less, times, parted -/
def spPair (K : W.Frag) (g : Rat → Rat → Rat) : Sp := fun vs H Q _ => ∃ t u q p, vs = [.ref t, .ref u] ∧ Pt K H t q ∧ Pt K H u p ∧ Low 3900 q ∧ Low 3900 p ∧ NewP H Q (g q p)
theorem low39 {q p : Rat} (h : Low 3900 q) (h' : Low 3900 p) : (q.num * (p.den : Int)).natAbs < 2 ^ 7800 := mul_bits h.1 (KA.low_den h')
theorem den39 {q p : Rat} (h : Low 3900 q) (h' : Low 3900 p) : ((q.den : Int) * (p.den : Int)).natAbs < 2 ^ 7800 := mul_bits (KA.low_den h) (KA.low_den h')
theorem den_pos (q : Rat) : (0 : Int) < q.den := by
  have := q.den_pos
  omega
end
end KA

set_option Elab.async false
set_option linter.all false
set_option maxRecDepth 100000
set_option maxHeartbeats 1000000
set_option exponentiation.threshold 20000
/-! repr of a pair of NUMBERS. -/
namespace Am
open PySem PySem.Spec PyProof.Rows L2 Oo
section
variable {prog : Program} {w : World} {A : Around} {E : Value → Shared → Prop} {s : Shared} {K : W.Frag} {x C f : Addr} {ox : Obj} {od : Option Obj}
/-- an own __repr__, under a repr -/
theorem own_under {b : Nat} {Q : Str → Shared → Prop} (hb : b ≤ sizeLine) (hu : A.units < cLine) (X : K.In s.heap) (I : W.InstAt s.heap x ox C od) (hs : W.findIn K (.ref C) "__repr__" = some (some (.ref f))) (hf : W.isFn K (.ref f) = true)
    (h : wpAny (model prog w) A (call (.ref f) [.ref x]) (fun v s' => ∃ y u, v = .str y u ∧ Q y s') E s) : wpAny (model prog w) A (pyReprUnder b (.ref x)) Q E s := by
  refine wpAny_pyReprUnder_ref hb ?_
  unfold pyReprObjUnder pyReprObjBy
  refine wpAny_bind (wpAny_cRoomFor hu ?_)
  have L1 : W.Looks (model prog w) s.heap (specialOf (.ref x) (Str.ofString "__repr__")) (some (.ref f)) := by
    unfold specialOf
    exact I.type.andThen (f := fun t => typeLookup t (Str.ofString "__repr__")) (W.looks_findIn X hs)
  refine wpAny_bind (L1.here ?_)
  refine W.KFB.if_not rfl ?_
  refine wpAny_bind ?_
  have back : ∀ (v : Value) (s' : Shared), (∃ y u, v = .str y u ∧ Q y s') → wpAny (model prog w) A (do if ← isInstance v (.type "str") then pure v else raiseError "TypeError" s!"__repr__ returned non-string (type {← typeNameOf v})") (fun v s' => ∃ y u, v = .str y u ∧ Q y s') E s' := by
    rintro v s' ⟨y, u, rfl, q⟩
    exact wpAny_bind (wpAny_isInstance (T := "str") (b := true) rfl isSubtype_str_str (wpAny_pure ⟨y, u, rfl, q⟩))
  have fin : wpAny (model prog w) A (call (.ref f) [.ref x] >>= fun v => pure (some v)) (fun r s' => ∃ v, r = some v ∧ ∃ y u, v = .str y u ∧ Q y s') E s :=
    wpAny_bind (wpAny_mono h (fun v s' hv => wpAny_pure ⟨v, rfl, hv⟩) fun _ _ z => z)
  simp only [callSpecialIfBoundBy?, bindSpecialIfBound?]
  refine wpAny_holding (wpAny_bind (wpAny_bind (wpAny_bind (I.type.here ((W.looks_findIn X hs).here ?_)))))
  refine wpAny_bind (wpAny_askSetting (wpAny_ite ?_))
  split
  · exact wpAny_bind ((W.bind_fn X _ (beq_iff_eq.mp hf)).here (wpAny_pure (wpAny_mono fin (fun r s' ⟨v, er, hv⟩ => by subst er; exact back v s' hv) fun _ _ z => z)))
  · exact wpAny_tryCatch (wpAny_bind ((W.bind_fn X _ (beq_iff_eq.mp hf)).here (wpAny_pure (wpAny_mono fin (fun r s' ⟨v, er, hv⟩ => by subst er; exact back v s' hv) fun _ _ z => z))))
/-- where the items of a tuple are written -/
abbrev inTup (A : Around) (a : Addr) : Around := A.in1.under (.builtin "tuple.__repr__" ⟨[.ref a], []⟩)
theorem tup2 {a : Addr} {o : Obj} {u v : Value} {n : Nat} {t1 t2 : Str} {Q : Value → Shared → Prop} (ho : s.heap.get? a = some o) (hc : o.cls = .type "tuple") (hd : o.data = .seq #[u, v] n) (hg : A.guards = some []) (hu : A.units + 1 < cLine)
    (hz : (tupleText [t1, t2]).length ≤ sizeLine)
    (h : wpAny (model prog w) (inTup A a) (pyReprUnder 1 u) (fun r s1 => r = t1 ∧ wpAny (model prog w) (inTup A a) (pyReprUnder (0 + (t1.length + 2) + 1) v) (fun r s2 => r = t2 ∧ ∀ y, Q (.str (tupleText [t1, t2]) y) { s2 with toks := s2.toks + 1 }) E s1) E s) :
    wpAny (model prog w) A (call (.builtin "repr") [.ref a]) Q E s := by
  refine Gd.repr_slot (T := "tuple") ⟨o, ho, hc⟩ F.slot_tuple_repr hu ?_
  have body : wpOwn (model prog w) A.in1 (.builtin "tuple.__repr__" ⟨[Value.ref a], []⟩) (Builtin.tupleReprAt 0 ⟨[Value.ref a], []⟩) (fun fin s' => match fin with
      | .done fl => callEnd (fun r s' => (∃ x u, r = Value.str x u) ∧ Q r s') E (.ok fl) s'
      | .again c' => c'.quiet = true ∧ codeAny (model prog w) A.in1 c' (callEnd (fun r s' => (∃ x u, r = Value.str x u) ∧ Q r s') E) s') (fun e s' => callEnd (fun r s' => (∃ x u, r = Value.str x u) ∧ Q r s') E (.error e) s') s := by
    rw [tuple_repr_tree, tupleReprUnderWay_eq]
    refine wpOwn_bind (wpOwn_stackTailAny (g := []) hg (tupGuardF_off _) (tupGuardF_pos _) ?_)
    refine wpOwn_of_wpAny (show wpAny _ _ (tupleReprRest 0 (.ref a)) _ _ s from ?_)
    unfold tupleReprRest Builtin.Tuple.tupleItemsOf
    refine wpAny_bind (wpAny_bind (wpAny_seqItems ho hd (wpAny_pure ?_)))
    rw [← Array.forIn_toList, show (#[u, v] : Array Value).toList = [u, v] from rfl]
    refine wpAny_bind ?_
    rw [List.forIn_cons]
    refine wpAny_bind (wpAny_bind (wpAny_mono h (fun r s1 hr => wpAny_pure ?_) fun _ _ z => z))
    obtain ⟨e1, h2⟩ := hr
    subst e1
    show wpAny _ _ (forIn [v] _ _) _ _ s1
    rw [List.forIn_cons]
    refine wpAny_bind (wpAny_bind (wpAny_mono h2 (fun r s2 hr => wpAny_pure ?_) fun _ _ z => z))
    obtain ⟨e2, h3⟩ := hr
    subst e2
    show wpAny _ _ (forIn [] _ _) _ _ s2
    rw [List.forIn_nil]
    refine wpAny_pure ?_
    exact wpAny_bind (wpAny_mkStr (wpAny_pure ⟨⟨_, _, rfl⟩, h3 _⟩) hz)
  exact wpAny_call (codeAny_call_builtin_own (Code.quiet_builtin _ (by decide +kernel)) F.entry_tuple_repr (F.slot_tuple_repr.check _ _ _ _ _ _ _ _ ⟨o, ho, hc⟩ (F.args_tuple_repr_1 _) body))
end
/-! ### over the layer -/
theorem inTup_room {k : Nat} {A : Around} {a : Addr} (r : Room (k + 2) A) : Room k (inTup A a) :=
  ⟨r.hd, by
    have := r.dp
    have e : (inTup A a).depth = A.depth + 1 := by first | rfl | simp [inTup, Around.under, Code.weight, Code.isCreation, Code.isGuard, Code.isCaller, Code.frames, Code.isFrame, guardIds]
    rw [e]; omega, by
    have := r.un
    have e : (inTup A a).units ≤ A.units + 2 := by
      show A.in1.units + _ ≤ _
      first | exact Nat.le_refl _ | (simp [Code.cUnits, Code.frames, Code.isFrame])
    omega⟩
theorem inTup_env {P : Program} {w : World} {K : W.Frag} {mg : Str → Option Value} {base : Heap} {A : Around} {outer : List Env} {s : Shared} {H : Hp} {a : Addr} (e : Env0 P w K mg base A outer s H) : Env0 P w K mg base (inTup A a) outer s H :=
  ⟨by first | exact e.frames | (simpa [inTup, Around.under, Code.envs, Code.isFrame, pushEnvs] using e.frames), e.mod, e.bs, e.bsz, e.funs, e.frf, e.hok, e.bare⟩
theorem inTup_guards {A : Around} {a : Addr} (hg : A.guards = some []) : ∃ g, (inTup A a).guards = some g := by
  have e : A.in1.guards = some [] := hg
  exact ⟨_, guards_under_guard (isGuard_tuple_repr _) e⟩
/-- the text of a NUMBER's repr -/
def numText (v : V) (q : Rat) : Str := match v with
  | .int i => (toString i : String)
  | _ => shown q
/-- what the class's own repr promises -/
structure Rep (P : Program) (w : World) (K : W.Frag) (mg : Str → Option Value) (base : Heap) (C : Addr) : Prop where
  of : ∃ f fd, W.findIn K (.ref C) "__repr__" = some (some (.ref f)) ∧ W.isFn K (.ref f) = true ∧ FnOk P w K mg base CX0 1 f fd ["self"] (KA.spText C shown) ∧ Binds K fd ["self"] []
section
variable {X : Cx} {C : Addr} {pins : List (Addr × Obj)} {σ : L2.St} {H : Hp} {s : Shared} {k : Nat}
/-- small enough for a repr -/
def SmN (v : V) (q : Rat) : Prop := match v with
  | .int i => i.natAbs.log2 < 1920
  | _ => KA.Low 3000 q
theorem len_of {i : Int} {n : Nat} (hn : 0 < n) (h : i.natAbs < 2 ^ n) : (Str.ofString (toString i)).length ≤ n + 1 := by
  have l : i.natAbs.log2 < n := by
    by_cases z : i.natAbs = 0
    · rw [z]; exact hn
    · exact (Nat.log2_lt z).mpr h
  have e := int_text_length_le (a := i) (k := n) hn l
  rw [PySem.ofString_length]
  exact e
theorem num_len {v : V} {q : Rat} (h : SmN v q) : (numText v q).length ≤ 6100 := by
  have sh : KA.Low 3000 q → (shown q).length ≤ 6100 := fun h => by
    have l1 := len_of (by decide) h.1
    have l2 := len_of (n := 3000) (i := (q.den : Int)) (by decide) (by rw [Int.natAbs_natCast]; exact h.2)
    have k1 : (Str.ofString "Amount(").length = 7 := by decide
    have k2 : (Str.ofString ", ").length = 2 := by decide
    have k3 : (Str.ofString ")").length = 1 := by decide
    rw [shown, emp]
    simp only [strLen_append, k1, k2, k3]
    omega
  cases v with
  | int i =>
    have := int_text_len_1921 (i := i) h
    show (Str.ofString (toString i)).length ≤ 6100
    omega
  | _ => exact sh h
theorem num_under (R : Rep X.prog X.w X.K X.mg X.base C) {a : Addr} {b : Nat} {v : V} {u : Value} {q : Rat} (hr : Room (k + 3) X.A) (hG : Gd.Bare X.A) (I : Inv X pins σ H s) (nv : Num C H v q) (sm : SmN v q) (rv : RelV v u) (hb : b ≤ 10000) :
    wpAny (model X.prog X.w) (inTup X.A a) (pyReprUnder b u) (fun r s1 => r = numText v q ∧ Inv X pins σ H s1) X.xe s := by
  have hR : Room 1 (inTup X.A a) := inTup_room (hr.mono (by omega))
  rcases nv with ⟨i, rfl, _⟩ | ⟨x, rfl, ix⟩
  · obtain ⟨g, hg⟩ := inTup_guards (a := a) hG
    have rk : ReprK X.prog X.w [] s.heap 1 u (toString i : String) := (Gd.Rp.int (H := H) (as := []) (d := 1) i sm).repr I.hok u rv
    have l := num_len (v := .int i) (q := q) sm
    exact rk b (by have := KA.line_ge; show b + (numText (.int i) q).length ≤ sizeLine; omega) _ g _ s _ hg (fun b h => nomatch h) (by have := hR.units; omega) (fun _ _ e => e) fun h' tk kp => ⟨rfl, I.kept kp⟩
  · obtain rfl : u = Value.ref x := rv
    obtain ⟨f, fd, hs, hf, F, bd⟩ := R.of
    obtain ⟨dx, ex⟩ := id ix
    obtain ⟨od, J, _⟩ := inst_at I ex
    refine own_under (by have := KA.line_ge; omega) hR.units0 I.kIn J hs hf ?_
    have lw : KA.Low 8000 q := ⟨Nat.lt_trans sm.1 (by decide), Nat.lt_trans sm.2 (by decide)⟩
    refine wpAny_mono (run_atO (Q := fun z H' => z = .str (shown q) ∧ H' = H) (us := [.ref x]) (ws := [.ref x]) F bd hR (inTup_env I.env0) pass0 I (.cons rfl .nil) ⟨x, q, rfl, ix, lw, rfl, rfl⟩) (fun v s' ⟨z, H', I', rz, ez, eh⟩ => ?_) fun _ _ z => z
    subst ez eh
    obtain ⟨t, rfl⟩ := (show ∃ t, v = Value.str (shown q) t from rz)
    exact ⟨_, _, rfl, rfl, I'⟩
/-- repr of a pair of NUMBERS -/
def rPair (C : Addr) : List V → Hp → VK → Prop := fun vs H Q => ∃ (a : Addr) (x y : V) (q p : Rat), vs = [.ref a] ∧ H a = some (.tup [x, y]) ∧ Num C H x q ∧ Num C H y p ∧ SmN x q ∧ SmN y p ∧ Q (.str (tupleText [numText x q, numText y p])) H
theorem call_reprPair (R : Rep X.prog X.w X.K X.mg X.base C) (hG : Gd.Bare X.A) (hr : Room (k + 3) X.A) : CallR X (.builtin "repr") (rPair C) := by
  intro pins s σ H vs us Q I r h
  obtain ⟨a, x, y, q, p, rfl, ha, nx, ny, sx, sy, z⟩ := h
  obtain ⟨u, rfl, ru⟩ := r.one
  cases (show u = Value.ref a from ru)
  obtain ⟨_, its, rv, o, h1, h2, n, h3⟩ := (show ObjOk X.prog X.w H s.heap a (.tup [x, y]) from I.hok a _ ha)
  obtain ⟨v1, v2, rfl, r1, r2⟩ := vals2 rv
  have l1 := num_len sx
  have l2 := num_len sy
  refine tup2 (t1 := numText x q) (t2 := numText y p) h1 h2 h3 hG (by have := hr.units; omega) ?_ ?_
  · have e := Gd.tupleText_le [numText x q, numText y p]
    have e2 : piled [numText x q, numText y p] = (numText x q).length + 2 + ((numText y p).length + 2 + 0) := by
      rw [piled_cons, piled_cons]
      rfl
    have := KA.line_ge
    omega
  · refine wpAny_mono (num_under R hr hG I nx sx r1 (by decide)) (fun t s1 ⟨e1, I1⟩ => ⟨e1, ?_⟩) fun _ _ z => z
    refine wpAny_mono (num_under R hr hG I1 ny sy r2 (by omega)) (fun t s2 ⟨e2, I2⟩ => ⟨e2, fun tk => ?_⟩) fun _ _ z => z
    exact ⟨.str (tupleText [numText x q, numText y p]), H, I2.tok _, ⟨_, rfl⟩, z⟩
end
end Am

set_option Elab.async false
set_option linter.all false
set_option maxRecDepth 100000
set_option maxHeartbeats 1000000
/-! Methods and staticmethods called by keywords alone. -/
namespace Oo
open PySem PySem.Spec PyProof.Rows L2
def tMethK (C : Addr) (m : Str) (n : Nat) (sp : Sp) (gV : List V → List V → List V) (E : XK) (ta : TE) (tk : TA) : TE := fun σ H Q => ta σ H fun x H1 => ∃ a dx fs, x = .ref a ∧ H1 a = some (.ins C dx fs) ∧ fs.lookup m = none ∧
  tk σ H1 fun zs H2 => zs.length = n ∧ sp (gV [x] zs) H2 Q E
def tSMethK (C : Addr) (n : Nat) (sp : Sp) (gV : List V → List V → List V) (E : XK) (ta : TE) (tk : TA) : TE := fun σ H Q => ta σ H fun x H1 => x = .ref C ∧ tk σ H1 fun zs H2 => zs.length = n ∧ sp (gV [] zs) H2 Q E
section
variable {X : Cx} {CX : CXT} {C f p : Addr} {k : Nat} {sp : Sp} {E : XK} {fd : FuncData} {ps ks : List Str} {o : Expr} {m : Str} {apos pos : Pos} {kws : List Keyword} {ta : TE} {tk : TA} {pl : Sem Bool} {mc : Value} {g : List Value → List Value → List Value} {gV : List V → List V → List V}
theorem pe_methK (he : PE X o ta) (c : Cls X.K C) (hm : Meth X.K C m f) (F : FnOk X.prog X.w X.K X.mg X.base CX k f fd ps sp) (hr : Room k X.A) (hb : KBn X.K fd ps 1 ks g gV) (hx : Passes CX X E) (hkw : PK X kws tk)
    (hall : (backToKw pos (keywordEach kws X.env)).all (·.1.isSome) = true := by rfl) (hks : (backToKw pos (keywordEach kws X.env)).filterMap (·.1) = ks := by rfl)
    (hpl : ((backTo pos (starEach [] X.env)).any (·.1) || (backToKw pos (keywordEach kws X.env)).any (·.1.isNone)) = false := by rfl)
    (ht : eval (.Call (.Attribute o m apos) [] kws pos) X.env = (do
      let ov ← eval o X.env
      standAt apos.atName
      let (f, first) ← holding [ov] (getMethod ov m pl)
      callWith pos f first (backTo pos (starEach [] X.env)) (backToKw pos (keywordEach kws X.env))) := by rfl) : PE X (.Call (.Attribute o m apos) [] kws pos) (tMethK C m ks.length sp gV E ta tk) := by
  refine ⟨fun pins s σ H Q I h => ?_⟩
  refine PySem.W.methodCall_KW (pl := pl) (thn (he.run pins s σ H _ I h) fun u s1 ⟨x, H1, I1, rx, a, dx, fs, ex, ea, l, q⟩ => ?_) ht
  subst ex
  obtain rfl : u = Value.ref a := rx
  refine getmeth_ok I1 ea c hm l ?_
  refine PySem.W.callWith_KW0 (first := [.ref a]) (h₀ := X.base) I1.ok.mod.kin hm.kp hall ?_ hpl
  refine thn (hkw.run pos pins s1 σ H1 _ I1 q) fun ws s2 ⟨zs, H2, I2, rz, l2, q2⟩ => ⟨I2.kIn, ?_⟩
  rw [hks]
  exact run_fnN (us := [.ref a]) (vs := [.ref a]) F hr hb hx I2 (.cons rfl .nil) rz rfl l2 q2
theorem pe_smethK (he : PE X o ta) (r : ClX.CRead X.K C mc) (c : SMet X.K C mc m p f) (F : FnOk X.prog X.w X.K X.mg X.base CX k f fd ps sp) (hr : Room k X.A) (hb : KBn X.K fd ps 0 ks g gV) (hx : Passes CX X E) (hkw : PK X kws tk)
    (hall : (backToKw pos (keywordEach kws X.env)).all (·.1.isSome) = true := by rfl) (hks : (backToKw pos (keywordEach kws X.env)).filterMap (·.1) = ks := by rfl)
    (hpl : ((backTo pos (starEach [] X.env)).any (·.1) || (backToKw pos (keywordEach kws X.env)).any (·.1.isNone)) = false := by rfl)
    (ht : eval (.Call (.Attribute o m apos) [] kws pos) X.env = (do
      let ov ← eval o X.env
      standAt apos.atName
      let (f, first) ← holding [ov] (getMethod ov m pl)
      callWith pos f first (backTo pos (starEach [] X.env)) (backToKw pos (keywordEach kws X.env))) := by rfl) : PE X (.Call (.Attribute o m apos) [] kws pos) (tSMethK C ks.length sp gV E ta tk) := by
  refine ⟨fun pins s σ H Q I h => ?_⟩
  refine PySem.W.methodCall_KW (pl := pl) (thn (he.run pins s σ H _ I h) fun u s1 ⟨x, H1, I1, rx, ex, q⟩ => ?_) ht
  subst ex
  obtain rfl : u = Value.ref C := rx
  obtain ⟨rest, hp⟩ := c.rc
  obtain ⟨m1, hF⟩ := I1.fr
  refine PySem.W.method_cls I1.kIn r.ga (PySem.W.cls_sm hF I1.ok.mod.kin c.ty r.rd c.at_ hp rfl ?_)
  have I2 : Inv X pins σ H1 { s1 with toks := s1.toks + 1 } := I1.tok _
  refine PySem.W.callWith_KW0 (first := []) (h₀ := X.base) I2.ok.mod.kin c.kp hall ?_ hpl
  refine thn (hkw.run pos pins _ σ H1 _ I2 q) fun ws s2 ⟨zs, H2, I3, rz, l2, q2⟩ => ⟨I3.kIn, ?_⟩
  rw [hks]
  exact run_fnN (us := []) F hr hb hx I3 .nil rz rfl l2 q2
end
end Oo

set_option Elab.async false
set_option linter.all false
set_option maxRecDepth 100000
set_option maxHeartbeats 1000000
set_option exponentiation.threshold 20000
namespace Am
open PySem PySem.Spec PyProof.Rows L2 Oo
/-- '0' * n -/
def rZero : R2 := fun x y H Q => ∃ n : Int, x = .str "0" ∧ y = .int n ∧ -100000 ≤ n ∧ n ≤ 20 ∧ Q (.str ⟨Array.replicate n.toNat 48⟩) H
theorem zeros : ∀ m : Nat, m ≤ 20 → (List.replicate m (Str.ofString "0").cps).foldl (· ++ ·) #[] = Array.replicate m 48 := by decide +kernel
theorem op_zero {X : Cx} : OpR X (binaryOp .Mult) rZero := fun pins s σ H x y v u Q I rx ry h => by
  obtain ⟨n, rfl, rfl, n0, n1, q⟩ := h
  obtain ⟨t, rfl⟩ := (show ∃ t, v = Value.str "0" t from rx)
  obtain ⟨t', rfl⟩ := (show ∃ t', u = Value.int n t' from ry)
  have l1 : (Str.ofString "0").length = 1 := by decide
  have hn : n.toNat ≤ 20 := by omega
  refine PySem.P.mul_str ?_ ?_ ?_ ?_
  · have h1 : ¬ n < -(2 ^ 63 : Int) := by omega
    have h2 : ¬ n ≥ 2 ^ 63 := by omega
    rw [decide_eq_false h1, decide_eq_false h2]
    rfl
  · intro h1 _
    rw [l1]
    have : (1 : Int) ≤ (2 ^ 63 - 1) / n := by
      rw [Int.le_ediv_iff_mul_le (by omega)]
      omega
    omega
  · intro _ _
    rw [l1, Nat.one_mul]
    show decide (n.toNat > sizeLine) = false
    exact decide_eq_false (by have := KA.line_ge; omega)
  · by_cases h1 : n < 1
    · rw [if_pos h1]
      have e : n.toNat = 0 := by omega
      rw [e] at q
      exact ⟨by decide, .str _, H, I.tok _, ⟨_, rfl⟩, q⟩
    · rw [if_neg h1]
      by_cases h2 : (n == 1 || (Str.ofString "0").length == 0) = true
      · rw [if_pos h2]
        have e : n = 1 := by
          rw [l1] at h2
          simpa using h2
        subst e
        exact ⟨.str _, H, I, ⟨_, rfl⟩, q⟩
      · rw [if_neg h2]
        rw [← zeros _ hn] at q
        refine ⟨?_, .str _, H, I.tok _, ⟨_, rfl⟩, q⟩
        rw [zeros _ hn]
        show (Array.replicate n.toNat 48).size ≤ sizeLine
        rw [Array.size_replicate]
        have := KA.line_ge
        omega
theorem zf_app (k : Nat) (x : Str) : (⟨Array.replicate ((k : Int) + 1 - (x.length : Int)).toNat 48⟩ : Str) ++ x = zf x (k + 1) := by
  have e : ((k : Int) + 1 - (x.length : Int)).toNat = k + 1 - x.length := by omega
  rw [e]
  rfl
/-- Amount(bottom = .., top = ..) -/
structure BaseK (P : Program) (w : World) (K : W.Frag) (mg : Str → Option Value) (base : Heap) (C : Addr) : Prop where
  mgA : mg "Amount" = some (.ref C)
  make : ∃ fI fd, Mk K C fI ∧ FnOk P w K mg base CX0 2 fI fd ["self", "top", "bottom"] (spInit C) ∧ KBn K fd ["self", "top", "bottom"] 1 [("bottom" : Str), "top"] (fun us ws => us ++ ws.reverse) (fun us ws => us ++ ws.reverse)
def tMkK (C : Addr) (t : TA) : TE := fun σ H Q => t σ H fun vs H1 => ∃ n d : Int, vs = [.int d, .int n] ∧ d ≠ 0 ∧ n.natAbs < 2 ^ 8999 ∧ d.natAbs < 2 ^ 8999 ∧ New C H1 Q (Rat.divInt n d)
section
variable {X : Cx} {C : Addr} {p pos : Pos} {t : TA} {kws : List Keyword}
theorem pe_mkK (B : BaseK X.prog X.w X.K X.mg X.base C) (hr : Room 3 X.A) (hg : Gl X "Amount") (hkw : PK X kws t) (hall : (backToKw pos (keywordEach kws X.env)).all (·.1.isSome) = true := by rfl) (hks : (backToKw pos (keywordEach kws X.env)).filterMap (·.1) = [("bottom" : Str), "top"] := by rfl)
    (hpl : ((backTo pos (starEach [] X.env)).any (·.1) || (backToKw pos (keywordEach kws X.env)).any (·.1.isNone)) = false := by rfl) : PE X (.Call (.Name "Amount" p) [] kws pos) (tMkK C t) := by
  obtain ⟨fI, fd, M, F, kb⟩ := B.make
  refine ⟨fun pins s σ H Q I h => ?_⟩
  refine wpAny_Call_Name_kw (ld_glob I hg B.mgA ?_ (by decide))
  refine PySem.W.callWith_KW0 (h₀ := X.base) I.ok.mod.kin M.kp hall ?_ hpl
  refine thn (hkw.run pos pins s σ H _ I h) fun ws s2 ⟨zs, H2, I2, rz, n, d, ez, hd, h1, h2, q⟩ => ⟨I2.kIn, ?_⟩
  subst ez
  rw [hks]
  exact run_makeK (n := 0) (us := []) (vs := []) (E := E0) M F hr kb pass0 I2 .nil rz rfl rfl (by simpa using new_made hd rfl h1 h2 q)
end
theorem shown_eq (q : Rat) : shown q = "Amount(" ++ (toString q.num : String) ++ ", " ++ (toString (q.den : Int) : String) ++ (")" : Str) := by
  unfold shown
  rw [emp]
end Am
namespace KA
open PySem PySem.Spec PyProof.Rows L2 Oo Gd Am
section
variable {P : Program} {w : World} {K : W.Frag} {mg : Str → Option Value} {base : Heap} {f C : Addr} {fd : FuncData}
/-! ### floor, shown, written, tens -/
def spFloor (K : W.Frag) : Sp := fun vs H Q _ => ∃ (t : Addr) (n d : Int), vs = [.ref t] ∧ SqT K H t [.int n, .int d] ∧ 0 < d ∧ d.natAbs < 2 ^ 8000 ∧ Q (.int (n / d)) H
def spTxt (K : W.Frag) (g : Rat → Str) : Sp := fun vs H Q _ => ∃ t q, vs = [.ref t] ∧ Pt K H t q ∧ Low 8000 q ∧ Q (.str (g q)) H
def spTens : Sp := fun vs H Q _ => ∃ k : Nat, vs = [.int k] ∧ k ≤ 12 ∧ Q (.int (10 ^ k)) H
/-! ### decimal -/
abbrev nDec : List Str := ["_law_part_here", "_law_size", "_law_count", "_law_digits", "_law_mark", "_law_cut"]
def spDec (K : W.Frag) : Sp := fun vs H Q _ => ∃ (t : Addr) (q : Rat) (k : Nat), vs = [.ref t, .int k] ∧ Pt K H t q ∧ Low 3900 q ∧ k ≤ 12 ∧ ∀ H', Am.Ext H H' → Q (.str (dec q k)) H'
end
end KA

set_option Elab.async false
set_option linter.all false
set_option maxRecDepth 100000
set_option maxHeartbeats 1000000
set_option exponentiation.threshold 20000
namespace KA
open PySem PySem.Spec PyProof.Rows L2 Oo Gd Am
section
variable {P : Program} {w : World} {K : W.Frag} {mg : Str → Option Value} {base : Heap} {f C : Addr} {fd : FuncData}
theorem Kp.ext {p : Addr} {H H' : Hp} (hp : Pot H p) (e : Am.Ext H H') : Kp p H H' := ⟨fun b o _ h => e b o h, by
  obtain ⟨a, b, h, r⟩ := hp
  exact ⟨a, b, e _ _ h, r⟩⟩
theorem Is.kp {p a : Addr} {H H' : Hp} {q : Rat} (k : Kp p H H') (hp : Pot H p) (h : Is C H a q) : Is C H' a q := by
  obtain ⟨dx, e⟩ := h
  obtain ⟨x, y, hl, _⟩ := hp
  exact ⟨dx, k.1 _ _ (fun z => by subst z; rw [hl] at e; cases e) e⟩
theorem Num.kp {p : Addr} {H H' : Hp} {v : V} {q : Rat} (k : Kp p H H') (hp : Pot H p) (h : Num C H v q) : Num C H' v q := h.imp (fun z => z) fun ⟨a, e, i⟩ => ⟨a, e, Is.kp k hp i⟩
theorem scale (q : Rat) {m : Int} (h : m ≠ 0) : Rat.divInt (q.num * m) ((q.den : Int) * m) = q := by
  rw [Rat.divInt_mul_right h, Rat.num_divInt_den]
theorem int_of {q : Rat} (h : (q.den : Int) = 1) : q = (q.num : Rat) := Rat.ext rfl (by
  show q.den = 1
  omega)
def spMade (K : W.Frag) (C : Addr) : Sp := fun vs H Q _ => ∃ p t q b, vs = [.ref p, .ref t, .bl b] ∧ Pot H p ∧ t ≠ p ∧ Pt K H t q ∧ Low 112 q ∧ ∀ v H', Num C H' v q → (b = false → ∃ a, v = .ref a) → Kp p H H' → Q v H'
abbrev nMade : List Str := ["_law_pot_here", "_law_part_here", "_law_is_plain", "_law_by"]
end
end KA

set_option Elab.async false
set_option linter.all false
set_option maxRecDepth 100000
set_option maxHeartbeats 1000000
/-! == and != of Amounts. -/
namespace Am
open PySem PySem.Spec PyProof.Rows L2 Oo
/-- the class's own ==; != is that of object -/
structure EqF (P : Program) (w : World) (K : W.Frag) (mg : Str → Option Value) (base : Heap) (C : Addr) : Prop where
  of : ∃ f fd, W.findIn K (.ref C) "__eq__" = some (some (.ref f)) ∧ W.isFn K (.ref f) = true ∧ FnOk P w K mg base CX0 1 f fd ["self", "other"] (KA.spEq C) ∧ Binds K fd ["self", "other"] [] ∧
    ∃ B bm, CmpFacts B bm ∧ ∀ (h : Heap) (x dx : Addr), K.In h → h.get? x = some (W.instObj C dx) → h.OwnEqNoNe x C f B bm
def rEqO (C : Addr) (g : Bool → Bool) : R2 := fun x y H Q => ∃ a b q p, x = .ref a ∧ y = .ref b ∧ Is C H a q ∧ Is C H b p ∧ Q (.bl (g (decide (q = p)))) H
section
variable {X : Cx} {C : Addr} {k : Nat}
theorem op_eqO (T : EqF X.prog X.w X.K X.mg X.base C) (hr : Room (k + 2) X.A) : OpR X (compareOp .Eq) (rEqO C fun b => b) := fun pins s σ H x y v u Q I rx ry h => by
  obtain ⟨a, b, q, p, rfl, rfl, ia, ib, z⟩ := h
  cases (show v = Value.ref a from rx)
  cases (show u = Value.ref b from ry)
  obtain ⟨f, fd, hs, hf, F, bd, _⟩ := T.of
  obtain ⟨dx, ea⟩ := id ia
  obtain ⟨dy, eb⟩ := id ib
  obtain ⟨od, J, _⟩ := inst_at I ea
  obtain ⟨oe, J2, _⟩ := inst_at I eb
  obtain ⟨m, hF⟩ := I.fr
  refine W.cmp_ofEq (W.cmp_K (op := .Eq) (tb := .ref C) hr.units0 hF I.ok.mod.kin J J2.type ?_ hs hf ?_)
  · unfold W.notFirst
    rw [beq_self_eq_true]
    rfl
  refine wpAny_mono (run_fn (E := E0) (us := [.ref a, .ref b]) (vs := [.ref a, .ref b]) F (hr.mono (by omega)) bd .nil pass0 I (.cons rfl (.cons rfl .nil)) (show KA.spEq C ([V.ref a, V.ref b] ++ []) H Q E0 from ⟨a, b, q, p, rfl, ia, ib, z⟩)) (fun v' s' ⟨z', H', I', rz, qz⟩ => SlX.cmpback rz ⟨z', H', I', rz, qz⟩) fun _ _ z => z
theorem op_neO (T : EqF X.prog X.w X.K X.mg X.base C) (hr : Room (k + 2) X.A) : OpR X (compareOp .NotEq) (rEqO C fun b => !b) := fun pins s σ H x y v u Q I rx ry h => by
  obtain ⟨a, b, q, p, rfl, rfl, ia, ib, z⟩ := h
  cases (show v = Value.ref a from rx)
  cases (show u = Value.ref b from ry)
  obtain ⟨f, fd, hs, hf, F, bd, B, bm, FB, ne⟩ := T.of
  obtain ⟨dx, ea⟩ := id ia
  obtain ⟨dy, eb⟩ := id ib
  obtain ⟨od, J, e1⟩ := inst_at I ea
  obtain ⟨oe, J2, e2⟩ := inst_at I eb
  obtain ⟨hh, gg, d, tt, os⟩ := s
  refine compareOp_ne_ownEq FB (ne hh a dx I.kIn e1) e2 rfl (by have := hr.units; omega) ?_
  refine wpAny_mono (run_atO (Q := fun w' H' => w' = .bl (decide (q = p)) ∧ H' = H) (us := [.ref a, .ref b]) (ws := [.ref a, .ref b]) F bd ((hr.mono (show 2 ≤ k + 2 by omega)).in1) I.env0.in1 pass0 I (.cons rfl (.cons rfl .nil)) ⟨a, b, q, p, rfl, ia, ib, rfl, rfl⟩) (fun v' s' ⟨z', H', I', rz, ez, eh⟩ => ?_) fun _ _ z => z
  subst ez eh
  cases (show v' = Value.bool (decide (q = p)) from rz)
  exact ⟨_, rfl, .bl (!decide (q = p)), _, I', rfl, z⟩
end
end Am

set_option Elab.async false
set_option linter.all false
set_option maxRecDepth 100000
set_option maxHeartbeats 1000000
set_option exponentiation.threshold 20000
namespace KA
open PySem PySem.Spec PyProof.Rows L2 Oo Gd Am
/-! ### sums -/
theorem Low.more {n m : Nat} {q : Rat} (h : Low n q) (l : n ≤ m) : Low m q := ⟨Nat.lt_of_lt_of_le h.1 (Nat.pow_le_pow_right (by decide) l), Nat.lt_of_lt_of_le h.2 (Nat.pow_le_pow_right (by decide) l)⟩
theorem Low.add {n m : Nat} {q p : Rat} (h : Low n q) (h' : Low m p) : Low (n + m + 1) (q + p) := by
  rw [← add_rat]
  obtain ⟨b1, b2⟩ := divInt_le (q.num * (p.den : Int) + p.num * (q.den : Int)) ((q.den : Int) * (p.den : Int)) (den_den q p)
  have t1 : (q.num * (p.den : Int)).natAbs < 2 ^ (n + m) := mul_bits h.1 (KA.low_den h')
  have t2 : (p.num * (q.den : Int)).natAbs < 2 ^ (n + m) := by
    have := mul_bits h'.1 (KA.low_den h)
    rw [Nat.add_comm m n] at this
    exact this
  refine ⟨Nat.lt_of_le_of_lt b1 (add_bits t1 t2), Nat.lt_of_le_of_lt b2 (more_bits (mul_bits (KA.low_den h) (KA.low_den h')) (by omega))⟩
theorem Low.zero (n : Nat) : Low n (0 : Rat) ↔ 1 < 2 ^ n ∨ False := by
  constructor
  · intro h; exact .inl h.2
  · rintro (h | h)
    · exact ⟨by show 0 < _; omega, h⟩
    · exact h.elim
def total (qs : List Rat) : Rat := qs.foldl (· + ·) 0
theorem foldl_add : ∀ (qs : List Rat) (a b : Rat), qs.foldl (· + ·) (a + b) = a + qs.foldl (· + ·) b
  | [], _, _ => rfl
  | q :: r, a, b => by
    show r.foldl (· + ·) (a + b + q) = a + r.foldl (· + ·) (b + q)
    rw [Rat.add_assoc]
    exact foldl_add r a (b + q)
theorem total_cons (q : Rat) (r : List Rat) : total (q :: r) = q + total r := by
  show r.foldl (· + ·) (0 + q) = q + r.foldl (· + ·) 0
  rw [Rat.zero_add]
  have := foldl_add r q 0
  rw [Rat.add_zero] at this
  exact this
theorem total_snoc (r : List Rat) (q : Rat) : total (r ++ [q]) = total r + q := by
  unfold total
  rw [List.foldl_append]
  rfl
theorem total_low : ∀ (qs : List Rat), (∀ q ∈ qs, Low 112 q) → Low (113 * qs.length + 1) (total qs)
  | [], _ => (Low.zero _).mpr (.inl (by decide))
  | q :: r, h => by
    rw [total_cons]
    have a := h q List.mem_cons_self
    have b := total_low r fun x hx => h x (List.mem_cons_of_mem _ hx)
    exact (a.add b).more (by rw [List.length_cons]; omega)
end KA

set_option Elab.async false
set_option linter.all false
set_option maxRecDepth 100000
set_option maxHeartbeats 1000000
set_option exponentiation.threshold 20000
namespace KA
open PySem PySem.Spec PyProof.Rows L2 Oo Gd Am
section
variable {P : Program} {w : World} {K : W.Frag} {mg : Str → Option Value} {base : Heap} {f C : Addr} {fd : FuncData}
/-- the in-place sum, with its promise -/
structure OpI (P : Program) (w : World) (K : W.Frag) (mg : Str → Option Value) (base : Heap) (C : Addr) (nm : String) (k : Nat) (h : Rat → Rat → Rat) : Prop where
  of : ∃ f g fd gd ps qs, OwnBin K C nm f (some g) ∧ NoIn K C nm ∧ FnOk P w K mg base CX0 k f fd ps (spOp C h) ∧ Binds K fd ps [] ∧ FnOk P w K mg base CX0 k g gd qs (spOp C fun q p => h p q) ∧ Binds K gd qs []
theorem op_NN {X : Cx} {op : Operator} {k : Nat} {h : Rat → Rat → Rat} (h5 : Five op) (O : OpI X.prog X.w X.K X.mg X.base C op.info.2 k h) (hr : Room k X.A) : OpR X (binaryOp op) (rN C h) := by
  obtain ⟨f, g, fd, gd, ps, qs, B, N, F, b, G, b2⟩ := O.of
  exact op_N h5 B F b G b2 hr
theorem ip_NN {X : Cx} {op : Operator} {k : Nat} {h : Rat → Rat → Rat} (h5 : Five op) (O : OpI X.prog X.w X.K X.mg X.base C op.info.2 k h) (hr : Room k X.A) : PIp X op (rN C h) := by
  obtain ⟨f, g, fd, gd, ps, qs, B, N, F, b, G, b2⟩ := O.of
  exact fun pins s σ H x y v u Q I rx ry hh => iop_N h5 B N F b G b2 hr pins s σ H x y v u Q I rx ry hh
/-- repr of a NUMBER -/
def rReprN (C : Addr) : List V → Hp → VK → Prop := fun vs H Q => ∃ v q, vs = [v] ∧ Num C H v q ∧ SmN v q ∧ Q (.str (numText v q)) H
theorem call_reprN {X : Cx} {k : Nat} (R : Rep X.prog X.w X.K X.mg X.base C) (hG : Bare X.A) (hr : Room (k + 3) X.A) : CallR X (.builtin "repr") (rReprN C) := fun pins s σ H vs us Q I r h => by
  obtain ⟨v, q, rfl, nv, sm, z⟩ := h
  rcases id nv with ⟨i, rfl, _⟩ | ⟨a, rfl, ia⟩
  · refine call_repr hG hr pins s σ H _ us Q I r ⟨_, [], 1, _, rfl, Gd.Rp.int i sm, by decide, ?_, z⟩
    have := num_len (v := .int i) (q := q) sm
    have := KA.line_ge
    show (numText (.int i) q).length ≤ sizeLine
    omega
  · obtain ⟨f, fd, hs, hf, F, bd⟩ := R.of
    obtain ⟨dx, ea⟩ := id ia
    have lw : Low 8000 q := ⟨Nat.lt_trans sm.1 (by decide), Nat.lt_trans sm.2 (by decide)⟩
    exact call_reprO (E := E0) hs hf F bd (hr.mono (by omega)) pass0 pins s σ H _ us Q I r ⟨a, dx, _, rfl, ea, a, q, rfl, ia, lw, ⟨_, rfl⟩, z⟩
/-! ### lists of values, lists of fractions -/
inductive A2 (R : V → Rat → Prop) : List V → List Rat → Prop
  | nil : A2 R [] []
  | cons {x : V} {q : Rat} {xs : List V} {qs : List Rat} : R x q → A2 R xs qs → A2 R (x :: xs) (q :: qs)
theorem A2.imp {R S : V → Rat → Prop} (f : ∀ x q, R x q → S x q) : ∀ {xs : List V} {qs : List Rat}, A2 R xs qs → A2 S xs qs
  | _, _, .nil => .nil
  | _, _, .cons h t => .cons (f _ _ h) (t.imp f)
theorem A2.len {R : V → Rat → Prop} : ∀ {xs : List V} {qs : List Rat}, A2 R xs qs → xs.length = qs.length
  | _, _, .nil => rfl
  | _, _, .cons _ t => by rw [List.length_cons, List.length_cons, t.len]
theorem A2.app {R : V → Rat → Prop} {ys : List V} {rs : List Rat} (b : A2 R ys rs) : ∀ {xs : List V} {qs : List Rat}, A2 R xs qs → A2 R (xs ++ ys) (qs ++ rs)
  | _, _, .nil => b
  | _, _, .cons h t => .cons h (A2.app b t)
theorem A2.snoc {R : V → Rat → Prop} {xs : List V} {qs : List Rat} {x : V} {q : Rat} (a : A2 R xs qs) (h : R x q) : A2 R (xs ++ [x]) (qs ++ [q]) := A2.app (.cons h .nil) a
theorem A2.rev {R : V → Rat → Prop} : ∀ {xs : List V} {qs : List Rat}, A2 R xs qs → A2 R xs.reverse qs.reverse
  | _, _, .nil => .nil
  | _, _, .cons h t => by
    rw [List.reverse_cons, List.reverse_cons]
    exact A2.snoc t.rev h
theorem A2.get {R : V → Rat → Prop} : ∀ {xs : List V} {qs : List Rat} {i : Nat} {x : V}, A2 R xs qs → xs[i]? = some x → ∃ q, qs[i]? = some q ∧ R x q
  | _, _, i, x, .nil, h => by simp at h
  | _, _, 0, x, .cons h t, e => by
    cases (show some _ = some x from e)
    exact ⟨_, rfl, h⟩
  | _, _, i + 1, x, .cons h t, e => A2.get (i := i) t e
theorem take_get {qs : List Rat} {i : Nat} {q : Rat} (h : qs[i]? = some q) : qs.take (i + 1) = qs.take i ++ [q] := by
  rw [List.take_add_one, h]
  rfl
theorem A2.all {R : V → Rat → Prop} {p : Rat → Prop} (f : ∀ x q, R x q → p q) : ∀ {xs : List V} {qs : List Rat}, A2 R xs qs → ∀ q ∈ qs, p q
  | _, _, .nil, q, h => nomatch h
  | _, _, .cons h t, q, m => by
    rcases List.mem_cons.mp m with rfl | m
    · exact f _ _ h
    · exact A2.all f t q m
theorem total_rev : ∀ (qs : List Rat), total qs.reverse = total qs
  | [] => rfl
  | q :: r => by rw [List.reverse_cons, total_snoc, total_rev r, total_cons, Rat.add_comm]
/-- all but lists stand -/
def Ns (H H' : Hp) : Prop := ∀ b o, (∀ l, o ≠ .lst l) → H b = some o → H' b = some o
theorem Ns.refl (H : Hp) : Ns H H := fun _ _ _ h => h
theorem Ns.trans {H H1 H2 : Hp} (a : Ns H H1) (b : Ns H1 H2) : Ns H H2 := fun c o n h => b c o n (a c o n h)
theorem Kp.ns {p : Addr} {H H' : Hp} (k : Kp p H H') (hp : Pot H p) : Ns H H' := fun b o n h => k.1 b o (fun e => by
  subst e
  obtain ⟨x, y, hl, _⟩ := hp
  rw [hl] at h
  exact n _ (Option.some.inj h).symm) h
theorem Ns.ext {H H' : Hp} (e : Am.Ext H H') : Ns H H' := fun b o _ h => e b o h
theorem Ns.put {H : Hp} {D : Addr} {l : List V} {o : HO} (h : H D = some (.lst l)) : Ns H (upd H D o) := fun b u n e => by
  rw [upd_ne (fun z => by
    subst z
    rw [h] at e
    exact n _ (Option.some.inj e).symm)]
  exact e
def PtR (p : Addr) (H : Hp) (x : V) (q : Rat) : Prop := ∃ t, x = .ref t ∧ t ≠ p ∧ H t = some (.tup [.int q.num, .int q.den]) ∧ Low 112 q
theorem PtR.ns {p : Addr} {H H' : Hp} {x : V} {q : Rat} (h : PtR p H x q) (n : Ns H H') : PtR p H' x q := let ⟨t, e, np, ht, l⟩ := h; ⟨t, e, np, n _ _ (fun _ => HO.noConfusion) ht, l⟩
def NmR (C : Addr) (H : Hp) (x : V) (q : Rat) : Prop := Num C H x q ∧ Low 112 q
theorem Is.ns {H H' : Hp} {a : Addr} {q : Rat} (h : Is C H a q) (n : Ns H H') : Is C H' a q := let ⟨dx, z⟩ := h; ⟨dx, n _ _ (fun _ => HO.noConfusion) z⟩
theorem NmR.ns {H H' : Hp} {x : V} {q : Rat} (h : NmR C H x q) (n : Ns H H') : NmR C H' x q := ⟨h.1.imp (fun z => z) fun ⟨a, e, i⟩ => ⟨a, e, Is.ns i n⟩, h.2⟩
theorem eqd_same {K : W.Frag} {H : Hp} {a b : Addr} {xs : List V} {ds : List PyData} {Q : VK} (ha : SqL K H a xs) (hb : SqL K H b xs) (d : DpAll K H xs ds) (hs : SeqAt.shaped (.list ds) = true) (q : Q (.bl true) H) : rEqD K (.ref a) (.ref b) H Q :=
  ⟨.list ds, .list ds, .lst ha d, .lst hb d, hs, hs, by rw [SeqAt.eqv_refl _ (SeqAt.canLay_of_shaped hs)]; exact q⟩
theorem tl20 {qs : List Rat} (h : ∀ q ∈ qs, Low 112 q) (l : qs.length ≤ 20) : Low 2261 (total qs) := (total_low qs h).more (by omega)
theorem tl_take {qs : List Rat} (h : ∀ q ∈ qs, Low 112 q) (l : qs.length ≤ 20) (i : Nat) : Low 2261 (total (qs.take i)) := tl20 (fun q m => h q (List.mem_of_mem_take m)) (Nat.le_trans (by rw [List.length_take]; exact Nat.min_le_right _ _) l)
/-! ### texts that can be laid -/
theorem sok_of (s : String) : PyData.strOk (Str.ofString s) = true := by
  unfold PyData.strOk
  rw [Str.ofString_eq_toList, Array.all_eq_true_iff_forall_mem]
  intro c hc
  obtain ⟨x, _, rfl⟩ := List.mem_map.mp (List.mem_toArray.mp hc)
  refine decide_eq_true ?_
  have h := x.valid
  show x.val.toNat < 0x110000
  rcases h with h | ⟨_, h⟩
  · have : x.val.toNat < 0xd800 := h
    omega
  · exact h
theorem sok_app {a b : Str} (h : PyData.strOk a = true) (h' : PyData.strOk b = true) : PyData.strOk (a ++ b) = true := by
  unfold PyData.strOk at *
  rw [show (a ++ b).cps = a.cps ++ b.cps from rfl, Array.all_append, h, h']
  rfl
theorem sok_emp : PyData.strOk Str.empty = true := by
  unfold PyData.strOk Str.empty
  rw [Array.all_eq_true_iff_forall_mem]
  intro c hc
  exact absurd hc (Array.not_mem_empty c)
theorem sok_shown (q : Rat) : PyData.strOk (Am.shown q) = true := sok_app (sok_app (sok_app (sok_app (sok_app sok_emp (sok_of _)) (sok_of _)) (sok_of _)) (sok_of _)) (sok_of _)
theorem shaped_strs {xs : List Str} (h : ∀ x ∈ xs, PyData.strOk x = true) : SeqAt.shaped (.list (xs.map .str)) = true := by
  have c : ∀ xs : List Str, (∀ x ∈ xs, PyData.strOk x = true) → PyData.canLayAll0 (xs.map .str) = true := by
    intro xs
    induction xs with
    | nil => intro _; simp only [List.map_nil, PyData.canLayAll0]
    | cons x r ih => intro h; simp only [List.map_cons, PyData.canLayAll0, PyData.canLay0, h x List.mem_cons_self, ih fun y m => h y (List.mem_cons_of_mem _ m), Bool.and_self]
  have d : ∀ xs : List Str, PyData.depthAll (xs.map .str) = 0 := by
    intro xs
    induction xs with
    | nil => simp only [List.map_nil, PyData.depthAll]
    | cons x r ih => simp only [List.map_cons, PyData.depthAll, PyData.depth, ih, Nat.max_self]
  unfold SeqAt.shaped
  simp only [PyData.canLay0, PyData.depth, c xs h, d xs, Bool.true_and]
  decide
theorem dp_strs {K : W.Frag} {H : Hp} : ∀ xs : List Str, DpAll K H (xs.map V.str) (xs.map PyData.str)
  | [] => .nil
  | x :: r => .cons (.str x) (dp_strs r)
abbrev nRow : List Str := ["_law_pot_here", "_law_parts", "_law_made_here", "_law_there", "_law_back", "_law_each", "_law_due", "_law_part_here", "_law_turn"]
abbrev DnS (P : Program) (w : World) (K : W.Frag) (mg : Str → Option Value) (base : Heap) : Prop := Dn P w K mg base CX0 2 "_law_sum" ["_law_left", "_law_right_here"] (spPair K fun q p => q + p)
def spTrue1 : Sp := fun vs H Q _ => ∃ p : Addr, vs = [.ref p] ∧ Pot H p ∧ ∀ H', Kp p H H' → Q (.bl true) H'
end
end KA

set_option Elab.async false
set_option linter.all false
set_option maxRecDepth 100000
set_option maxHeartbeats 4000000
/-! repr of data, told by the units alone (in a suite of except, an error is handled). -/
namespace Gd
open PySem PySem.Spec PyProof.Rows L2
theorem call_reprU {X : Cx} (hG : Bare X.A) (hu : X.A.units + 64 < cLine) : CallR X (.builtin "repr") rRepr := by
  intro pins s σ H vs us Q I r want
  obtain ⟨x, as, d, t, rfl, rp, hd, hz, q⟩ := want
  obtain ⟨u, rfl, ru⟩ := vals1 r

  have fin : ∀ h' u2 tk, (∀ b o, s.heap.get? b = some o → h'.get? b = some o) → EP X pins σ Q (.str t u2) { s with heap := h', toks := tk } := fun h' u2 tk k => ⟨.str t, H, I.kept k, ⟨u2, rfl⟩, q⟩
  cases rp with
  | non =>
    cases ru
    exact PySem.P.repr_of_none (fin s.heap _ _ fun _ _ e => e)
  | bl b =>
    cases ru
    exact PySem.P.repr_of_bool (fin s.heap _ _ fun _ _ e => e)
  | int i z =>
    obtain ⟨tk, rfl⟩ := ru
    exact PySem.P.repr_of_int z (fin s.heap _ _ fun _ _ e => e)
  | str y z =>
    obtain ⟨tk, rfl⟩ := ru
    exact PySem.P.repr_of_str (fin s.heap _ _ fun _ _ e => e) z
  | @lst _ as0 d a xs ts ha na sub nl it =>
    obtain rfl : u = Value.ref a := ru
    obtain ⟨_, its, n, rv, ho⟩ := (show ObjOk X.prog X.w H s.heap a (.lst xs) from I.hok a _ ha)
    have nits := rv.length
    refine repr_slot ⟨_, ho, rfl⟩ F.slot_list_repr.toG (by omega) ?_
    cases its with
    | nil =>
      have e1 : ts = [] := List.length_eq_zero_iff.mp (by rw [nl]; simpa using nits)
      subst e1
      exact PySem.call_list_repr_empty ⟨_, ho, rfl⟩ ho rfl ⟨⟨_, _, rfl⟩, fin s.heap _ _ fun _ _ e => e⟩
    | cons y l =>
      refine PySem.call_list_reprK (g := []) (as := as0) (d := d) (h₀ := s.heap) ho rfl rfl na (by rw [nl, nits]; simp) (fun i z hz => ?_) hG (fun b _ => Clear.nil b) (by show X.A.units + 1 + (d + 1) < cLine; omega) (fun _ _ e => e)
        (fun h' u2 tk k => ⟨⟨_, _, rfl⟩, fin h' u2 tk k⟩) hz
      have hz' : (y :: l)[i]? = some z := by simpa using hz
      have hi : i < xs.length := by
        rw [nits]
        exact (List.getElem?_eq_some_iff.mp hz').1
      obtain ⟨u2, hu2, r2⟩ := rv.get (List.getElem?_eq_getElem hi)
      rw [hz'] at hu2
      cases hu2
      exact ⟨ts[i]'(by omega), List.getElem?_eq_getElem _, (it i _ _ (List.getElem?_eq_getElem hi) (List.getElem?_eq_getElem _)).repr I.hok z r2⟩
  | @tup _ as0 d a xs ts ha na sub nl it =>
    obtain rfl : u = Value.ref a := ru
    have rk := (Rp.tup ha na sub nl it).repr I.hok (.ref a) rfl
    obtain ⟨_, its, rv, o, ho, hc, n, hdt⟩ := (show ObjOk X.prog X.w H s.heap a (.tup xs) from I.hok a _ ha)
    refine repr_slot ⟨_, ho, hc⟩ F.slot_tuple_repr (by omega) ?_
    refine PySem.call_tuple_reprK (g := []) (as := as0) (d := d) (h₀ := s.heap) ho hc hdt na ?_ hG (fun b _ => Clear.nil b) (by show X.A.units + 1 + (d + 1) < cLine; omega) (fun _ _ e => e)
        (fun h' u2 tk k => ⟨⟨_, _, rfl⟩, fin h' u2 tk k⟩) hz
    have all : ∀ (xs : List V) (its : List Value) (ts : List Str), Vals xs its → ts.length = xs.length → (∀ (i : Nat) (x : V) (t : Str), xs[i]? = some x → ts[i]? = some t → ∀ u, RelV x u → ReprK X.prog X.w as0 s.heap d u t) → ReprAllK X.prog X.w as0 s.heap d its ts := by
      intro xs its ts rv
      induction rv generalizing ts with
      | nil =>
        intro e _
        have e1 : ts = [] := List.length_eq_zero_iff.mp (by simpa using e)
        subst e1
        exact .nil
      | cons r1 _ ihh =>
        intro e k
        cases ts with
        | nil => simp at e
        | cons t ts =>
          exact .cons (k 0 _ _ rfl rfl _ r1) (ihh ts (by simpa using e) fun i x t h1 h2 => k (i + 1) x t (by simpa using h1) (by simpa using h2))
    simpa using all xs its ts rv nl fun i x t h1 h2 => (it i x t h1 h2).repr I.hok
  | @dic _ as0 d a kvs ps ha na sub nl ke it =>
    obtain rfl : u = Value.ref a := ru
    obtain ⟨_, hsys, vs, kv, o, es, ep, ho, hx, hdt, _, pr, _⟩ := (show ObjOk X.prog X.w H s.heap a (.dK kvs) from I.hok a _ ha)
    refine repr_slot ⟨_, ho, hx.1⟩ F.slot_dict_repr (by omega) ?_
    refine PySem.call_dict_reprK (g := []) (as := as0) (d := d) (h₀ := s.heap) ho hx.1 hdt hsys na ?_ hG (fun b _ => Clear.nil b) (by show X.A.units + 1 + (d + 1) < cLine; omega) (fun _ _ e => e)
        (fun h' u2 tk k => ⟨⟨_, _, rfl⟩, fin h' u2 tk k⟩) hz
    obtain ⟨n1, n2⟩ := kv_pairs kv pr
    have all : ∀ (l : List DictEntry) (qs : List (Str × Str)), qs.length = l.length → (∀ (i : Nat) (e : DictEntry) (p : Str × Str), l[i]? = some e → qs[i]? = some p → ReprK X.prog X.w as0 s.heap d e.key p.1 ∧ ReprK X.prog X.w as0 s.heap d e.val p.2) →
        ReprEntriesK X.prog X.w as0 s.heap d l (qs.map fun p => p.1 ++ ": " ++ p.2) := by
      intro l
      induction l with
      | nil =>
        intro qs e _
        have e1 : qs = [] := List.length_eq_zero_iff.mp (by simpa using e)
        subst e1
        exact .nil
      | cons e l ihh =>
        intro qs n k
        cases qs with
        | nil => simp at n
        | cons q qs =>
          obtain ⟨k1, k2⟩ := k 0 e q rfl rfl
          exact .cons k1 k2 (ihh qs (by simpa using n) fun i e p h1 h2 => k (i + 1) e p (by simpa using h1) (by simpa using h2))
    refine all es.toList ps (by rw [nl, n1]) fun i e p h1 h2 => ?_
    obtain ⟨q, hq, hk, hv⟩ := n2 i e h1
    exact ⟨keyT_repr (ke i q p hq h2) hk, (it i q p hq h2).repr I.hok _ hv⟩
end Gd

set_option Elab.async false
set_option linter.all false
set_option maxRecDepth 100000
set_option maxHeartbeats 1000000
set_option exponentiation.threshold 20000
namespace KA
open PySem PySem.Spec PyProof.Rows L2 Oo Gd Am
/-- what the text says of the class of DividedByZero, once more -/
structure Zq (K : W.Frag) (mg : Str → Option Value) (Z ZA : Addr) : Prop where
  mgZ : mg "DividedByZero" = some (.ref Z)
  mgA : mg "AmountError" = some (.ref ZA)
  xf : XfC K Z
  no : W.findIn K (.ref Z) "rule" = some none
  ea : Ge.EA K Z
  exm : W.exmOne K (.ref Z) (.ref Z) = some true
  kA : W.kitOne K (.ref Z) (.ref ZA) = some true
  kR : W.kitOne K (.ref Z) (.type "ArithmeticError") = some true
  kV : W.kitOne K (.ref Z) (.type "ValueError") = some false
abbrev nRef : List Str := ["_law_call", "_law_told", "e"]
theorem heldK {X : Cx} {K : W.Frag} {a : Addr} {oe : Obj} {cls : Value} {d : Option Addr} (_ : IsK K) (hp : (a, oe) ∈ X.pn) (z : Zc cls d oe) (hf : ∃ vs, oe.data = .fields vs) (h : X.K = K := by rfl) : CallR X (.builtin "isinstance") (Gx.rHeld K a cls d) := h ▸ Gx.call_held hp z hf
/-- the text of the refusal -/
def toldZ : Str := tupleText ["None", "True", "True", "False"]
/-- told: the error of the class at Z, which tells None -/
def TTref (Z : Addr) : (XK → Hp → VK → Prop) → Hp → VK → Prop := fun tl H Q =>
  ∀ Q', tl (fun cls d H' => cls = .ref Z ∧ ∃ dx, d = some dx ∧ H' dx = some (.xd [("rule", .non)]) ∧ ∀ H2, Am.Ext H' H2 → Q (.str toldZ) H2) H Q'
/-- the state of the frame has its length -/
theorem takes_len {X : Cx} {W : WX} (tk : Takes X W) : Takes X fun cls d σ H => σ.length = X.N.length → W cls d σ H := fun e s' x => by
  obtain ⟨a, B, sI, pins, σ, H, cls, d, he, J, nb, up, sky, na, os, ag, w⟩ := x
  exact tk e s' ⟨a, B, sI, pins, σ, H, cls, d, he, J, nb, up, sky, na, os, ag, w J.len⟩
end KA

set_option Elab.async false
set_option linter.all false
set_option maxRecDepth 100000
set_option maxHeartbeats 1000000
set_option exponentiation.threshold 20000
/-! a fraction rounded to no places is its floor's text. -/
namespace KA
open PySem PySem.Spec PyProof.Rows L2 Oo Gd Am
theorem nat_text_pos (n : Nat) : 1 ≤ (Str.ofString (toString ((n : Nat) : Int))).length := by
  rw [PySem.ofString_length]
  show 1 ≤ (Nat.repr n).length
  rw [Nat.repr, String.length_ofList]
  exact Nat.length_toDigits_pos
theorem zf_one {x : Str} (h : 1 ≤ x.length) : zf x 1 = x := by
  unfold zf
  rw [show 1 - x.length = 0 by omega]
  simp
theorem of_app (a b : String) : Str.ofString (a ++ b) = Str.ofString a ++ Str.ofString b := by
  rw [Str.ofString_eq_toList, Str.ofString_eq_toList, Str.ofString_eq_toList]
  show _ = Str.mk (_ ++ _)
  simp
theorem dec0 (q : Rat) : dec q 0 = Str.ofString (toString (q.num / (q.den : Int))) := by
  unfold dec
  rw [if_pos rfl]
  have e : steps q 0 = q.num / (q.den : Int) := by
    unfold steps
    rw [Int.pow_zero, Int.mul_one]
  rw [e]
  generalize q.num / (q.den : Int) = n
  unfold mark digs
  by_cases h : n < 0
  · rw [if_pos h, if_pos h]
    obtain ⟨m, rfl⟩ : ∃ m : Nat, n = Int.negSucc m := by
      cases n with
      | ofNat m => exact absurd h (Int.not_lt.mpr (Int.natCast_nonneg m))
      | negSucc m => exact ⟨m, rfl⟩
    rw [show -(Int.negSucc m) = ((m + 1 : Nat) : Int) from rfl, zf_one (nat_text_pos (m + 1))]
    rw [← of_app]
    rfl
  · rw [if_neg h, if_neg h]
    obtain ⟨m, rfl⟩ : ∃ m : Nat, n = (m : Int) := ⟨n.toNat, by omega⟩
    rw [zf_one (nat_text_pos m)]
    have e0 : Str.ofString "" = Str.empty := by decide
    rw [e0]
    exact emp _
theorem sign_eq (n : Int) : ((if decide (0 < n) = true then (1 : Int) else 0) - (if decide (n < 0) = true then 1 else 0)) = n.sign := by
  rcases Int.lt_trichotomy n 0 with h | h | h
  · rw [Int.sign_eq_neg_one_of_neg h, if_neg (by simp; omega), if_pos (by simpa using h)]
    rfl
  · subst h
    rfl
  · rw [Int.sign_eq_one_of_pos h, if_pos (by simpa using h), if_neg (by simp; omega)]
    rfl
theorem no_rnd (q : Rat) : (flds q).lookup ("rounded" : Str) = none := by
  show List.lookup ("rounded" : Str) [("_top", V.int q.num), ("_bottom", V.int q.den)] = _
  have n1 : ("rounded" : Str) ≠ "_top" := by decide +kernel
  have n2 : ("rounded" : Str) ≠ "_bottom" := by decide +kernel
  rw [List.lookup_cons, beq_eq_false_iff_ne.mpr n1, List.lookup_cons, beq_eq_false_iff_ne.mpr n2]
  rfl
end KA

set_option Elab.async false
set_option linter.all false
set_option maxRecDepth 100000
set_option maxHeartbeats 1000000
set_option exponentiation.threshold 20000
namespace KA
open PySem PySem.Spec PyProof.Rows L2 Oo Gd Am
/-- a special method of one operand, with its promise -/
structure Una (P : Program) (w : World) (K : W.Frag) (mg : Str → Option Value) (base : Heap) (C : Addr) (nm : Str) (k : Nat) (sp : Sp) : Prop where
  of : ∃ f fd, W.findIn K (.ref C) nm = some (some (.ref f)) ∧ W.isFn K (.ref f) = true ∧ FnOk P w K mg base CX0 k f fd ["self"] sp ∧ Binds K fd ["self"] []
structure Pow (P : Program) (w : World) (K : W.Frag) (mg : Str → Option Value) (base : Heap) (C : Addr) : Prop where
  of : ∃ f g fd ps, OwnBin K C (Operator.Pow).info.2 f g ∧ FnOk P w K mg base CX0 6 f fd ps (spPow C) ∧ Binds K fd ps []
structure Rnd (P : Program) (w : World) (K : W.Frag) (mg : Str → Option Value) (base : Heap) (C : Addr) : Prop where
  of : ∃ f fd, Meth K C "rounded" f ∧ FnOk P w K mg base CX0 3 f fd ["self", "places"] (spRound C) ∧ Binds K fd ["self", "places"] [] ∧ KBn K fd ["self", "places"] 1 [("places" : Str)] (fun us ws => us ++ ws) (fun us ws => us ++ ws)
structure OfK (P : Program) (w : World) (K : W.Frag) (mg : Str → Option Value) (base : Heap) (C : Addr) : Prop where
  of : ∃ mc p g fd, ClX.CRead K C mc ∧ SMet K C mc "of" p g ∧ FnOk P w K mg base CX0 4 g fd ["number"] (spOf C) ∧ KBn K fd ["number"] 0 [("number" : Str)] (fun us ws => us ++ ws) (fun us ws => us ++ ws)
section
variable {X : Cx} {C : Addr} {k : Nat}
def rP (C : Addr) : R2 := fun x y H Q => ∃ a q i, x = .ref a ∧ y = .int i ∧ Is C H a q ∧ Low 330 q ∧ 0 ≤ i ∧ i ≤ 12 ∧ New C H Q (q ^ i.toNat)
theorem op_P (D : Pow X.prog X.w X.K X.mg X.base C) (hr : Room 6 X.A) : OpR X (binaryOp .Pow) (rP C) := fun pins s σ H x y v u Q I rx ry hh => by
  obtain ⟨f, g, fd, ps, B, F, b⟩ := D.of
  obtain ⟨a, q, i, rfl, rfl, ia, lw, h0, h12, z⟩ := hh
  obtain ⟨dx, ea⟩ := id ia
  exact op_left (E := E0) B F b pass0 hr pins s σ H _ _ v u Q I rx ry (.inr (.inl ⟨a, dx, _, i, rfl, rfl, ea, a, q, i, rfl, ia, lw, h0, h12, z⟩))
def rAbs (C : Addr) : List V → Hp → VK → Prop := fun xs H Q => ∃ a q, xs = [V.ref a] ∧ Is C H a q ∧ Sz q ∧ New C H Q (aq q)
theorem call_absN (U : Una X.prog X.w X.K X.mg X.base C "__abs__" 4 (spUn C aq)) (hr : Room 5 X.A) : CallR X (.builtin "abs") (rAbs C) := fun pins s σ H xs us Q I r h => by
  obtain ⟨f, fd, hs, hf, F, b⟩ := U.of
  obtain ⟨a, q, rfl, ia, sz, z⟩ := h
  obtain ⟨dx, ea⟩ := id ia
  exact call_absO (E := E0) hs hf F b hr pass0 pins s σ H _ us Q I r ⟨a, dx, _, rfl, ea, a, q, rfl, ia, sz, fun r' H' e n i => ⟨trivial, z r' H' e n i⟩⟩
def rBool (C : Addr) : List V → Hp → VK → Prop := fun xs H Q => ∃ a q, xs = [V.ref a] ∧ Is C H a q ∧ Q (.bl (decide (q.num ≠ 0))) H
theorem call_boolN (U : Una X.prog X.w X.K X.mg X.base C "__bool__" 1 (spBool C)) (hr : Room 3 X.A) : CallR X (.type "bool") (rBool C) := fun pins s σ H xs us Q I r h => by
  obtain ⟨f, fd, hs, hf, F, b⟩ := U.of
  obtain ⟨a, q, rfl, ia, z⟩ := h
  obtain ⟨dx, ea⟩ := id ia
  exact call_boolO (E := E0) hs hf F b hr pass0 pins s σ H _ us Q I r ⟨a, dx, _, rfl, ea, a, q, rfl, ia, ⟨_, rfl⟩, z⟩
def rStrN (C : Addr) : List V → Hp → VK → Prop := fun xs H Q => ∃ a q, xs = [V.ref a] ∧ Is C H a q ∧ Low 8000 q ∧ Q (.str (written q)) H
theorem call_strN (U : Una X.prog X.w X.K X.mg X.base C "__str__" 1 (spText C written)) (hr : Room 3 X.A) : CallR X (.type "str") (rStrN C) := fun pins s σ H xs us Q I r h => by
  obtain ⟨f, fd, hs, hf, F, b⟩ := U.of
  obtain ⟨a, q, rfl, ia, lw, z⟩ := h
  obtain ⟨dx, ea⟩ := id ia
  exact call_strO (E := E0) hs hf F b hr pass0 pins s σ H _ us Q I r ⟨a, dx, _, rfl, ea, a, q, rfl, ia, lw, ⟨_, rfl⟩, z⟩
end
/-! ### repr of a list of short data -/
inductive RpAll (H : Hp) : List V → List Str → Prop
  | nil : RpAll H [] []
  | cons {x : V} {t : Str} {xs : List V} {ts : List Str} : Rp H [] 0 x t → t.length ≤ 3000 → RpAll H xs ts → RpAll H (x :: xs) (t :: ts)
theorem RpAll.len {H : Hp} : ∀ {xs : List V} {ts : List Str}, RpAll H xs ts → ts.length = xs.length
  | _, _, .nil => rfl
  | _, _, .cons _ _ r => by rw [List.length_cons, List.length_cons, r.len]
theorem RpAll.it {H : Hp} : ∀ {xs : List V} {ts : List Str}, RpAll H xs ts → ∀ (i : Nat) (x : V) (t : Str), xs[i]? = some x → ts[i]? = some t → Rp H [] 0 x t
  | _, _, .nil, i, x, t, h, _ => by simp at h
  | _, _, .cons a _ r, 0, x, t, h1, h2 => by
    cases (show some _ = some x from h1)
    cases (show some _ = some t from h2)
    exact a
  | _, _, .cons a _ r, i + 1, x, t, h1, h2 => RpAll.it r i x t h1 h2
theorem RpAll.piled {H : Hp} : ∀ {xs : List V} {ts : List Str}, RpAll H xs ts → piled ts ≤ 3002 * ts.length
  | _, _, .nil => Nat.zero_le _
  | _, _, .cons _ h r => by
    have := r.piled
    rw [piled_cons, List.length_cons]
    omega
theorem rp_list {H : Hp} {a : Addr} {xs : List V} {ts : List Str} {Q : VK} (h : H a = some (.lst xs)) (r : RpAll H xs ts) (hn : xs.length ≤ 30) (z : Q (.str (listText ts)) H) : rRepr [.ref a] H Q :=
  ⟨.ref a, [a], 1, _, rfl, .lst (as0 := []) h (by simp) (fun b hb => hb) r.len r.it, by decide, by
    have h1 := listText_le ts
    have h2 := r.piled
    have h3 := r.len
    have h4 : (1000000 : Nat) ≤ sizeLine := by decide
    omega, z⟩
theorem rpL {H : Hp} {a : Addr} {xs : List V} {ts : List Str} (h : H a = some (.lst xs)) (r : RpAll H xs ts) : Rp H [a] 1 (.ref a) (listText ts) := .lst (as0 := []) h (by simp) (fun b hb => hb) r.len r.it
theorem rpz {H : Hp} {xs : List V} {ts : List Str} (r : RpAll H xs ts) (hn : xs.length ≤ 30) : (listText ts).length ≤ sizeLine := by
  have h1 := listText_le ts
  have h2 := r.piled
  have h3 := r.len
  have h4 : (1000000 : Nat) ≤ sizeLine := by decide
  omega
theorem rp_str {H : Hp} {x : Str} (h : PyData.strOk x = true) (l : x.length ≤ 240) : Rp H [] 0 (.str x) (reprText x) ∧ (reprText x).length ≤ 3000 := by
  have z := StrLaws.reprText_len x fun c hc => by
    have h' := h
    unfold PyData.strOk at h'
    rw [Array.all_eq_true_iff_forall_mem] at h'
    exact Nat.lt_trans (of_decide_eq_true (h' c (Array.mem_toList_iff.mp hc))) (by decide)
  have h4 : (1000000 : Nat) ≤ sizeLine := by decide
  exact ⟨.str x (by omega), by omega⟩
theorem rp_int {H : Hp} {i : Int} (h : i.natAbs < 2 ^ 112) : Rp H [] 0 (.int i) (toString i) ∧ (Str.ofString (toString i)).length ≤ 3000 := by
  have l := len_of (n := 112) (by decide) h
  refine ⟨.int i ?_, by omega⟩
  by_cases z : i.natAbs = 0
  · rw [z]; decide
  · exact (Nat.log2_lt z).mpr (Nat.lt_of_lt_of_le h (Nat.pow_le_pow_right (by decide) (by decide)))
theorem shown_len {q : Rat} (h : Low 112 q) : (Am.shown q).length ≤ 240 := by
  have l1 := len_of (by decide) h.1
  have l2 := len_of (n := 112) (i := (q.den : Int)) (by decide) (by rw [Int.natAbs_natCast]; exact h.2)
  have k1 : (Str.ofString "Amount(").length = 7 := by decide
  have k2 : (Str.ofString ", ").length = 2 := by decide
  have k3 : (Str.ofString ")").length = 1 := by decide
  rw [Am.shown, emp]
  simp only [strLen_append, k1, k2, k3]
  omega
theorem written_len {q : Rat} (h : Low 112 q) : (written q).length ≤ 240 := by
  have l1 := len_of (by decide) h.1
  have l2 := len_of (n := 112) (i := (q.den : Int)) (by decide) (by rw [Int.natAbs_natCast]; exact h.2)
  have k1 : (Str.ofString "/").length = 1 := by decide
  unfold written
  split
  · omega
  · rw [emp]
    simp only [strLen_append, k1]
    omega
theorem sok_written (q : Rat) : PyData.strOk (written q) = true := by
  unfold written
  split
  · exact sok_of _
  · exact sok_app (sok_app (sok_app sok_emp (sok_of _)) (sok_of _)) (sok_of _)
theorem low_neg {n : Nat} {q : Rat} (h : Low n q) : Low n (-q) := ⟨by show (-q.num).natAbs < _; rw [Int.natAbs_neg]; exact h.1, h.2⟩
theorem low_aq {n : Nat} {q : Rat} (h : Low n q) : Low n (aq q) := by
  unfold aq
  split
  · exact low_neg h
  · exact h
theorem aq_num (q : Rat) : (aq q).num = if q.num < 0 then -q.num else q.num := by
  unfold aq
  by_cases h : q.num < 0
  · rw [if_pos h, if_pos h]; rfl
  · rw [if_neg h, if_neg h]
theorem aq_den (q : Rat) : (aq q).den = q.den := by
  unfold aq
  split <;> rfl
theorem tyL {K : W.Frag} {H : Hp} {a : Addr} {xs : List V} (h : H a = some (.lst xs)) : tyV K "list" (.ref a) H := .inl ⟨rfl, xs, SqL.of h⟩
/-- what both of alone_right's lists hold -/
def eight (q : Rat) : List V := [.int q.num, .int q.den, .int q.num.sign, .bl (decide (q.num ≠ 0)), .str (written q), .str (Am.shown q), .str (Am.shown (-q)), .str (Am.shown (aq q))]
def eightT (q : Rat) : List Str := [(toString q.num : String), (toString (q.den : Int) : String), (toString q.num.sign : String), (if decide (q.num ≠ 0) = true then Str.ofString "True" else Str.ofString "False"), reprText (written q), reprText (Am.shown q), reprText (Am.shown (-q)), reprText (Am.shown (aq q))]
theorem eight_rp {H : Hp} {q : Rat} (h : Low 112 q) : RpAll H (eight q) (eightT q) := by
  have a1 := rp_int (H := H) h.1
  have a2 := rp_int (H := H) (i := (q.den : Int)) (by rw [Int.natAbs_natCast]; exact h.2)
  have a3 := rp_int (H := H) (i := q.num.sign) (Nat.lt_of_le_of_lt (by rw [Int.natAbs_sign]; split <;> decide) (show 1 < 2 ^ 112 by decide))
  have a5 := rp_str (H := H) (sok_written q) (written_len h)
  have a6 := rp_str (H := H) (sok_shown q) (shown_len h)
  have a7 := rp_str (H := H) (sok_shown (-q)) (shown_len (low_neg h))
  have a8 := rp_str (H := H) (sok_shown (aq q)) (shown_len (low_aq h))
  exact .cons a1.1 a1.2 (.cons a2.1 a2.2 (.cons a3.1 a3.2 (.cons (.bl _) (by split <;> decide) (.cons a5.1 a5.2 (.cons a6.1 a6.2 (.cons a7.1 a7.2 (.cons a8.1 a8.2 .nil)))))))
/-! ### powers -/
theorem Low.mul {n m : Nat} {q p : Rat} (h : Low n q) (h' : Low m p) : Low (n + m) (q * p) := by
  rw [← mul_rat]
  obtain ⟨b1, b2⟩ := divInt_le (q.num * p.num) ((q.den : Int) * (p.den : Int)) (den_den q p)
  exact ⟨Nat.lt_of_le_of_lt b1 (mul_bits h.1 h'.1), Nat.lt_of_le_of_lt b2 (mul_bits (KA.low_den h) (KA.low_den h'))⟩
theorem pow_lows {q : Rat} (h : Low 112 q) : ∀ i : Nat, Low (112 * i + 1) (q ^ i)
  | 0 => by
    rw [Rat.pow_zero]
    exact ⟨by decide, by decide⟩
  | i + 1 => by
    rw [Rat.pow_succ]
    exact ((pow_lows h i).mul h).more (by omega)
def pows (q : Rat) (n : Nat) : List Rat := (List.range n).map fun i => q ^ i
theorem pows_succ (q : Rat) (n : Nat) : pows q (n + 1) = pows q n ++ [q ^ n] := by
  unfold pows
  rw [List.range_succ, List.map_append]
  rfl
def TpR (H : Hp) (x : V) (r : Rat) : Prop := ∃ t, x = .ref t ∧ H t = some (.tup [.int r.num, .int r.den])
theorem TpR.ns {H H' : Hp} {x : V} {r : Rat} (h : TpR H x r) (n : Ns H H') : TpR H' x r := let ⟨t, e, z⟩ := h; ⟨t, e, n _ _ (fun _ => HO.noConfusion) z⟩
def IsR (C : Addr) (H : Hp) (x : V) (r : Rat) : Prop := ∃ a, x = .ref a ∧ Is C H a r
theorem IsR.ext {C : Addr} {H H' : Hp} {x : V} {r : Rat} (h : IsR C H x r) (e : Am.Ext H H') : IsR C H' x r := let ⟨a, x, i⟩ := h; ⟨a, x, i.ext e⟩
theorem A2.uncons {R : V → Rat → Prop} {xs : List V} {q : Rat} {qs : List Rat} (h : A2 R xs (q :: qs)) : ∃ x ys, xs = x :: ys ∧ R x q ∧ A2 R ys qs := by
  cases h with
  | cons a b => exact ⟨_, _, rfl, a, b⟩
theorem cut1 (x : V) (ys : List V) : cutV (x :: ys) (some 1) none = ys := by
  have e : HT.sIx (x :: ys).length 0 (some 1) = 1 := by
    have := HT.sIx_nat (x :: ys).length 0 1
    rw [List.length_cons] at this ⊢
    rw [show (some (1 : Int)) = some ((1 : Nat) : Int) from rfl, this]
    omega
  unfold cutV
  rw [e, HT.sIx_none]
  simp
theorem ned_same {K : W.Frag} {H : Hp} {a b : Addr} {xs : List V} {ds : List PyData} {Q : VK} (ha : SqL K H a xs) (hb : SqL K H b xs) (d : DpAll K H xs ds) (hs : SeqAt.shaped (.list ds) = true) (q : Q (.bl false) H) : rNeD K (.ref a) (.ref b) H Q :=
  ⟨.list ds, .list ds, .lst ha d, .lst hb d, hs, hs, by rw [SeqAt.eqv_refl _ (SeqAt.canLay_of_shaped hs)]; exact q⟩
def shs (rs : List Rat) : List V := rs.map fun r => V.str (Am.shown r)
theorem shs_snoc (rs : List Rat) (r : Rat) : shs (rs ++ [r]) = shs rs ++ [.str (Am.shown r)] := by
  unfold shs
  rw [List.map_append]
  rfl
theorem shs_len (rs : List Rat) : (shs rs).length = rs.length := List.length_map _
theorem shs_dp {K : W.Frag} {H : Hp} (rs : List Rat) : DpAll K H (shs rs) ((rs.map Am.shown).map PyData.str) := by
  have := dp_strs (K := K) (H := H) (rs.map Am.shown)
  rw [List.map_map] at this
  exact this
theorem shs_ok (rs : List Rat) : SeqAt.shaped (.list ((rs.map Am.shown).map PyData.str)) = true := shaped_strs fun x m => by
  obtain ⟨r, _, rfl⟩ := List.mem_map.mp m
  exact sok_shown r
/-- what alone_right asks -/
structure Al (P : Program) (w : World) (K : W.Frag) (mg : Str → Option Value) (base : Heap) (C : Addr) : Prop where
  nb : base.NoDigits
  fr : Frees mg
  B : Base P w K mg base C
  O : Of P w K mg base C
  OK : OfK P w K mg base C
  R : Rep P w K mg base C
  N : Neg P w K mg base C
  ab : Una P w K mg base C "__abs__" 4 (spUn C aq)
  bo : Una P w K mg base C "__bool__" 1 (spBool C)
  st : Una P w K mg base C "__str__" 1 (spText C written)
  pw : Pow P w K mg base C
  rn : Rnd P w K mg base C
  DD : DnD P w K mg base
  DM : Dn P w K mg base CX0 4 "_law_made" ["_law_pot_here", "_law_part_here", "_law_is_plain"] (spMade K C)
  DH : Dn P w K mg base CX0 1 "_law_shown" ["_law_part_here"] (spTxt K shown)
  DW : Dn P w K mg base CX0 1 "_law_written" ["_law_part_here"] (spTxt K written)
  DF : Dn P w K mg base CX0 1 "_law_floor" ["_law_part_here"] (spFloor K)
  DC : Dn P w K mg base CX0 2 "_law_decimal" ["_law_part_here", "_law_size"] (spDec K)
  DT : Dn P w K mg base CX0 2 "_law_times" ["_law_left", "_law_right_here"] (spPair K fun q p => q * p)
abbrev nAl : List Str := ["_law_pot_here", "_law_part_here", "_law_made_here", "_law_told", "_law_due", "_law_size", "_law_powers", "_law_turn", "_law_some", "_law_each"]
def spTrue2 (K : W.Frag) : Sp := fun vs H Q _ => ∃ (p t : Addr) (q : Rat), vs = [.ref p, .ref t] ∧ Pot H p ∧ t ≠ p ∧ H t = some (.tup [.int q.num, .int q.den]) ∧ Low 112 q ∧ ∀ H', Kp p H H' → Q (.bl true) H'
section
variable {P : Program} {w : World} {K : W.Frag} {mg : Str → Option Value} {base : Heap} {f C : Addr} {fd : FuncData}
end
end KA

set_option Elab.async false
set_option linter.all false
set_option maxRecDepth 100000
set_option maxHeartbeats 1000000
set_option exponentiation.threshold 20000
namespace KA
open PySem PySem.Spec PyProof.Rows L2 Oo Gd Am
/-- a def whose code object stands at c -/
structure FunC (K : W.Frag) (x qual : Str) (st : Stmt) (f c : Addr) (fd : FuncData) : Prop where
  ex : ∃ (oc : Value) (od : Option Addr) (kV doc pm : Value) (an : Option Addr) (ct : Value) (osl : Array (Option Value)),
    fd = W.fnOf x qual (defArgs st) (defBody st) (defScope st) .none kV doc pm an (.ref c) ct ∧ K.lookup f = some ⟨oc, od, .func fd, osl⟩ ∧ W.codeIn K (.ref c) qual = true
  kp : W.keepIn K (.ref f) = true
section
variable {P : Program} {w : World} {K : W.Frag} {mg : Str → Option Value} {base : Heap}
theorem okGc {x qual : Str} {st : Stmt} {f c : Addr} {fd : FuncData} {N ps : List Str} {k : Nat} {sp : Sp} (F : FunC K x qual st f c fd) (S : FnScope N ps (defScope st)) (len : ∀ vs H Q E, sp vs H Q E → vs.length = ps.length)
    (walk : ∀ (A : Around) (outer : List Env) (s : Shared) (H : Hp) (vs : List V) (Q : VK) (E : XK), Bare (A.deeper (envOfC qual (defScope st) s.heap.objs.size f (.ref c))) →
      Room k (A.deeper (envOfC qual (defScope st) s.heap.objs.size f (.ref c))) → sp vs H Q E →
      ∃ t, PSs (cxOf CX0 P w K mg base N qual (defScope st) f (.ref c) A outer s H E).nox (defBody st) t ∧ t { nx := fun _ H' => Q .non H', rt := Q } (start N vs) H) :
    FnG P w K mg base CX0 (k + 1) f fd ps sp := by
  obtain ⟨oc, od, kV, doc, pm, an, ct, osl, rfl, at_, code⟩ := F.ex
  refine fnG_of at_ code S len (fun A outer s H vs Q E hg hr want => ?_)
  obtain ⟨t, h, q⟩ := walk A outer s H vs Q E hg hr want
  exact ⟨t, h.nox, q⟩
end
/-! ### // and % of NUMBERS, one an Amount -/
structure DvI (P : Program) (w : World) (K : W.Frag) (mg : Str → Option Value) (base : Heap) (C Z : Addr) (nm : String) (n k : Nat) (R : Rat → Rat → Hp → VK → Prop) : Prop where
  of : ∃ f g fd gd ps qs, OwnBin K C nm f (some g) ∧ NoIn K C nm ∧ FnOk P w K mg base (L2.CX P w) k f fd ps (spDiv n C Z R) ∧ Binds K fd ps [] ∧ FnOk P w K mg base (L2.CX P w) k g gd qs (spDivR n C Z R) ∧ Binds K gd qs []
def rDN (n : Nat) (C Z : Addr) (R : Rat → Rat → Hp → VK → Prop) (E : XK) : R2 := fun x y H Q => ∃ q p, Num C H x q ∧ Num C H y p ∧ ((∃ a, x = .ref a) ∨ ∃ a, y = .ref a) ∧ Low n q ∧ Low n p ∧ (p ≠ 0 → R q p H Q) ∧ (p = 0 → Refuse Z H E)
theorem conv_div {n : Nat} {C Z : Addr} {R : Rat → Rat → Hp → VK → Prop} {E : XK} {H : Hp} {x y : V} {Q : VK} (hh : rDN n C Z R E x y H Q) : rBin C (spDiv n C Z R) (spDivR n C Z R) E x y H Q := by
  obtain ⟨q, p, nx, ny, one, lq, lp, h1, h2⟩ := hh
  rcases id nx with ⟨i, rfl, _⟩ | ⟨a, rfl, ia⟩
  · rcases id ny with ⟨j, rfl, _⟩ | ⟨b, rfl, ib⟩
    · rcases one with ⟨_, z⟩ | ⟨_, z⟩ <;> cases z
    · obtain ⟨dy, eb⟩ := id ib
      exact .inr (.inr ⟨b, dy, _, i, rfl, rfl, eb, b, _, q, p, rfl, ib, nx, lq, lp, h1, h2⟩)
  · obtain ⟨dx, ea⟩ := id ia
    have z : spDiv n C Z R [V.ref a, y] H Q E := ⟨a, y, q, p, rfl, ia, ny, lq, lp, h1, h2⟩
    rcases id ny with ⟨j, rfl, _⟩ | ⟨b, rfl, dy, eb⟩
    · exact .inr (.inl ⟨a, dx, _, j, rfl, rfl, ea, z⟩)
    · exact .inl ⟨a, dx, _, b, dy, _, rfl, rfl, ea, eb, z⟩
section
variable {X : Cx} {C Z : Addr} {op : Operator} {n k : Nat} {R : Rat → Rat → Hp → VK → Prop} {E : XK}
theorem op_DN (h5 : Five op) (D : DvI X.prog X.w X.K X.mg X.base C Z op.info.2 n k R) (hx : Passes (L2.CX X.prog X.w) X E) (hr : Room k X.A) : OpR X (binaryOp op) (rDN n C Z R E) := fun pins s σ H x y v u Q I rx ry hh => by
  obtain ⟨f, g, fd, gd, ps, qs, B, N, F, b, G, b2⟩ := D.of
  exact op_bin h5 B F b G b2 hx hr pins s σ H x y v u Q I rx ry (conv_div hh)
theorem ip_DN (h5 : Five op) (D : DvI X.prog X.w X.K X.mg X.base C Z op.info.2 n k R) (hx : Passes (L2.CX X.prog X.w) X E) (hr : Room k X.A) : PIp X op (rDN n C Z R E) := fun pins s σ H x y v u Q I rx ry hh => by
  obtain ⟨f, g, fd, gd, ps, qs, B, N, F, b, G, b2⟩ := D.of
  exact iop_bin h5 B N F b G b2 hx hr pins s σ H x y v u Q I rx ry (conv_div hh)
end
end KA

set_option Elab.async false
set_option linter.all false
set_option maxRecDepth 100000
set_option maxHeartbeats 2000000
set_option exponentiation.threshold 20000
namespace KA
open PySem PySem.Spec PyProof.Rows L2 Oo Gd Am
structure OverK (P : Program) (w : World) (K : W.Frag) (mg : Str → Option Value) (base : Heap) (C Z : Addr) : Prop where
  of : ∃ f fd, Meth K C "over" f ∧ FnOk P w K mg base (L2.CX P w) 5 f fd ["self", "other"] (spDiv 4000 C Z fun q p H Q => New C H Q (q / p)) ∧ Binds K fd ["self", "other"] [] ∧ KBn K fd ["self", "other"] 1 [("other" : Str)] (fun us ws => us ++ ws) (fun us ws => us ++ ws)
abbrev nTw : List Str := ["_law_x", "_law_y", "_law_left", "_law_right_here", "_law_shown_here", "_law_held", "_law_told", "_law_due", "_law_kinds", "_law_whole", "_law_rest", "_law_part_here"]
theorem smN_of {C : Addr} {H : Hp} {v : V} {q : Rat} (h : Num C H v q) (l : Low 1900 q) : SmN v q := by
  rcases h with ⟨i, rfl, rfl⟩ | ⟨a, rfl, _⟩
  · have b : i.natAbs < 2 ^ 1900 := l.1
    show i.natAbs.log2 < 1920
    by_cases z : i.natAbs = 0
    · rw [z]; decide
    · exact (Nat.log2_lt z).mpr (Nat.lt_of_lt_of_le b (Nat.pow_le_pow_right (by decide) (by decide)))
  · exact l.more (by decide)
theorem Pt.ns {K : W.Frag} {H H' : Hp} {t : Addr} {q : Rat} (h : Pt K H t q) (n : Ns H H') : Pt K H' t q := by
  rcases h with (h | ⟨o, h⟩) | h
  · exact .inl (.inl (n _ _ (fun _ => HO.noConfusion) h))
  · exact .inl (.inr ⟨o, n _ _ (fun _ => HO.noConfusion) h⟩)
  · exact .inr h
theorem Num.ns {C : Addr} {H H' : Hp} {v : V} {q : Rat} (h : Num C H v q) (n : Ns H H') : Num C H' v q := h.imp (fun z => z) fun ⟨a, e, i⟩ => ⟨a, e, Is.ns i n⟩
theorem Low.sub {n m : Nat} {q p : Rat} (h : Low n q) (h' : Low m p) : Low (n + m + 1) (q - p) := by
  rw [Rat.sub_eq_add_neg]
  exact h.add (low_neg h')
theorem add_sub_self (q r : Rat) : q + r - q = r := by
  rw [Rat.add_comm q r, Rat.sub_eq_add_neg, Rat.add_assoc, Rat.add_neg_cancel, Rat.add_zero]
def PtK (K : W.Frag) (H : Hp) (x : V) (r : Rat) : Prop := ∃ t, x = .ref t ∧ Pt K H t r
theorem ne_str (T : Str) {H : Hp} {Q : VK} (z : Q (.bl false) H) : rNe (.str T) (.str T) H Q := ⟨rfl, by
  rw [decide_eq_true (rfl : V.str T = V.str T)]
  exact z⟩
theorem told_rp {H : Hp} {t : Addr} (h : H t = some (.tup [.non, .bl true, .bl true, .bl false])) : Rp H [t] 1 (.ref t) toldZ := by
  refine .tup (as0 := []) h (by simp) (fun b hb => hb) rfl ?_
  intro i x tt h1 h2
  match i, h1, h2 with
  | 0, h1, h2 => cases h1; cases h2; exact .non
  | 1, h1, h2 => cases h1; cases h2; exact .bl true
  | 2, h1, h2 => cases h1; cases h2; exact .bl true
  | 3, h1, h2 => cases h1; cases h2; exact .bl false
  | i + 4, h1, _ => simp at h1
theorem told_len : toldZ.length ≤ sizeLine := by decide +kernel
theorem told_ok : PyData.strOk toldZ = true := by decide +kernel
theorem Num.xn {C : Addr} {H H' : Hp} {v : V} {q : Rat} (h : Num C H v q) (n : LamX.ExtN H H') : Num C H' v q := h.imp (fun z => z) fun ⟨a, e, dx, i⟩ => ⟨a, e, dx, n _ _ i fun _ => HO.noConfusion⟩
theorem xn_put {H H' : Hp} {a : Addr} {o : HO} (n : LamX.ExtN H H') (z : ∀ u, (∀ ps, u ≠ .tbl ps) → H a ≠ some u) : LamX.ExtN H (upd H' a o) := fun b u h k => by
  rw [upd_ne (fun e => z u k (by rw [← e]; exact h))]
  exact n b u h k
theorem tabs_put {T : List (Addr × Str)} {H : Hp} {a : Addr} {l : List V} {o : HO} (t : LamX.Tabs T H) (h : H a = some (.lst l)) : LamX.Tabs T (upd H a o) := fun p hp => by
  obtain ⟨ps, h1, h2, h3⟩ := t p hp
  refine ⟨ps, ?_, h2, fun pos cv hc => ?_⟩
  · rw [upd_ne (fun z => by rw [z, h] at h1; cases h1)]
    exact h1
  · obtain ⟨c, e1, e2⟩ := h3 pos cv hc
    refine ⟨c, e1, ?_⟩
    rw [upd_ne (fun z => by
      rw [z, h] at e2
      unfold LamX.CodeO at e2
      cases e2)]
    exact e2
theorem low_div {n m : Nat} {q p : Rat} (h : Low n q) (h' : Low m p) (p0 : p ≠ 0) : Low (n + m) (q / p) := by
  rw [← div_rat]
  have pn : p.num ≠ 0 := fun e => p0 (Rat.num_eq_zero.mp e)
  obtain ⟨b1, b2⟩ := divInt_le (q.num * (p.den : Int)) ((q.den : Int) * p.num) (Int.mul_ne_zero (den0 q) pn)
  exact ⟨Nat.lt_of_le_of_lt b1 (mul_bits h.1 (KA.low_den h')), Nat.lt_of_le_of_lt b2 (mul_bits (KA.low_den h) h'.1)⟩
theorem low_int {n : Nat} {i : Int} (h : i.natAbs < 2 ^ n) (hn : 0 < n) : Low n (i : Rat) := ⟨h, by
  show 1 < 2 ^ n
  exact Nat.one_lt_two_pow (by omega)⟩
theorem add_sub_all (q r : Rat) : r + (q - r) = q := by
  rw [Rat.sub_eq_add_neg, Rat.add_comm q, ← Rat.add_assoc, Rat.add_neg_cancel, Rat.zero_add]
theorem eq_str (T : Str) {H : Hp} {Q : VK} (z : Q (.bl true) H) : rEq (.str T) (.str T) H Q := ⟨rfl, by
  rw [decide_eq_true (rfl : V.str T = V.str T)]
  exact z⟩
def tabs (p : Addr) : List (Addr × Str) := [(p, "_law_two_right.<locals>.<lambda>")]
def spTwo (K : W.Frag) (C p : Addr) : Sp := fun vs H Q _ => ∃ x y t u q r, vs = [x, y, .ref t, .ref u] ∧ Num C H x q ∧ Num C H y r ∧ ((∃ a, x = .ref a) ∨ ∃ a, y = .ref a) ∧ Pt K H t q ∧ Pt K H u r ∧ Low 112 q ∧ Low 112 r ∧ LamX.Tabs (tabs p) H ∧
  ∀ H', LamX.ExtN H H' → LamX.Tabs (tabs p) H' → Q (.bl true) H'
section
variable {P : Program} {w : World} {K : W.Frag} {mg : Str → Option Value} {base : Heap} {f C Z ZA c p : Addr} {fd : FuncData}
end
end KA

set_option Elab.async false
set_option linter.all false
set_option maxRecDepth 100000
set_option maxHeartbeats 1000000
set_option exponentiation.threshold 20000
namespace KA
open PySem PySem.Spec PyProof.Rows L2 Oo Gd Am
/-- all but p and the tables stand, at p the pot -/
def KT (p : Addr) (H H' : Hp) : Prop := (∀ b o, b ≠ p → H b = some o → (∀ ps, o ≠ .tbl ps) → H' b = some o) ∧ Pot H' p
theorem KT.trans {p : Addr} {H H1 H2 : Hp} (a : KT p H H1) (b : KT p H1 H2) : KT p H H2 := ⟨fun c o n h k => b.1 c o n (a.1 c o n h k) k, b.2⟩
theorem Kp.kt {p : Addr} {H H' : Hp} (k : Kp p H H') : KT p H H' := ⟨fun b o n h _ => k.1 b o n h, k.2⟩
theorem pot_xn {p : Addr} {H H' : Hp} (hp : Pot H p) (n : LamX.ExtN H H') : KT p H H' := ⟨fun b o _ h k => n b o h k, by
  obtain ⟨a, b, h, r⟩ := hp
  exact ⟨a, b, n _ _ h (fun _ => HO.noConfusion), r⟩⟩
theorem tabs_kp {T : List (Addr × Str)} {p : Addr} {H H' : Hp} (t : LamX.Tabs T H) (hp : Pot H p) (k : Kp p H H') : LamX.Tabs T H' := fun a ha => by
  obtain ⟨x, y, hl, _⟩ := hp
  obtain ⟨ps, h1, h2, h3⟩ := t a ha
  refine ⟨ps, k.1 _ _ (fun e => by rw [e, hl] at h1; cases h1) h1, h2, fun pos cv hc => ?_⟩
  obtain ⟨c, e1, e2⟩ := h3 pos cv hc
  exact ⟨c, e1, k.1 _ _ (fun e => by
    rw [e, hl] at e2
    unfold LamX.CodeO at e2
    cases e2) e2⟩
/-- what right asks -/
structure Ri (P : Program) (w : World) (K : W.Frag) (mg : Str → Option Value) (base : Heap) (C p0 : Addr) : Prop where
  DP : DnP P w K mg base
  DR : Dn P w K mg base CX0 3 "_law_part" ["_law_pot_here"] (spPart K)
  DM : Dn P w K mg base CX0 4 "_law_made" ["_law_pot_here", "_law_part_here", "_law_is_plain"] (spMade K C)
  T2 : DnG P w K mg base 11 "_law_two_right" ["_law_x", "_law_y", "_law_left", "_law_right_here"] (spTwo K C p0)
  T1 : DnG P w K mg base 8 "_law_alone_right" ["_law_pot_here", "_law_part_here"] (spTrue2 K)
  T3 : DnG P w K mg base 7 "_law_row_right" ["_law_pot_here"] spTrue1
abbrev nRi : List Str := ["_law_pot_here", "_law_left", "_law_right_here", "_law_plain", "_law_x", "_law_y"]
/-- all but the pot and the tables stand; the tables tell right -/
def spRi (p0 : Addr) : Sp := fun vs H Q _ => ∃ p : Addr, vs = [.ref p] ∧ Pot H p ∧ LamX.Tabs (tabs p0) H ∧
  ∀ H', (∀ b o, b ≠ p → H b = some o → (∀ ps, o ≠ .tbl ps) → H' b = some o) → Pot H' p → LamX.Tabs (tabs p0) H' → Q (.bl true) H'
section
variable {P : Program} {w : World} {K : W.Frag} {mg : Str → Option Value} {base : Heap} {f C p0 : Addr} {fd : FuncData}
end
end KA

set_option Elab.async false
set_option linter.all false
set_option maxRecDepth 100000
set_option maxHeartbeats 1000000
namespace KA
open PySem PySem.Spec PyProof.Rows L2 Oo Gd Am
abbrev nLaw : List Str := ["_law_script", "_law_k", "_law_pot_here", "_law_turn"]
def spLaw (K : W.Frag) (p0 : Addr) : Sp := fun vs H Q _ => ∃ (a : Addr) (ns : List Int), vs = [.ref a] ∧ ns.length ≤ 63 ∧ SqL K H a (ns.map V.int) ∧ LamX.Tabs (tabs p0) H ∧ ∀ H', Q (.bl true) H'
section
variable {P : Program} {w : World} {K : W.Frag} {mg : Str → Option Value} {base : Heap} {f p0 : Addr} {fd : FuncData}
end
end KA

set_option Elab.async false
set_option linter.all false
set_option maxRecDepth 100000
set_option maxHeartbeats 1000000
/-! Comparisons by own methods: an own instance on the left, or on the right of a built-in value. -/
namespace Oo
open PySem PySem.Spec PySem.W PyProof.Rows
section
variable {prog : Program} {w : World} {A : Around} {E : Value → Shared → Prop} {s : Shared} {K : Frag} {x y C f g : Addr} {ox oy : Obj} {od oe : Option Obj} {T : String} {i : Int} {u : Tok} {dx : Addr}
/-- a's own comparison declines -/
def DeclinesC (prog : Program) (w : World) (A : Around) (E : Value → Shared → Prop) (s : Shared) (nm : Str) (a : Value) (y : Addr) : Prop :=
  ∀ R : Option Value → Shared → Prop, (∀ t, R none { s with toks := t }) → wpAny (model prog w) A (tryCompare a nm (.ref y)) R E s
theorem declC_of {nm : Str} {id : String} {B : Builtin} {a : Value} (hT : s.TypeIs a T) (slot : Slot T nm id) (entry : entryFor table id = some B) (args : argsOk id ⟨[a, .ref y], []⟩)
    (body : ∀ (E' : Value → Shared → Prop) (R : Fin → Shared → Prop), (∀ t, R (.done (.ret .notImplemented)) { s with toks := t }) → wpAny (model prog w) A.in1 (B ⟨[a, .ref y], []⟩) R E' s) : DeclinesC prog w A E s nm a y := by
  intro R hR
  refine wpAny_tryCompare_declines hT slot (GQ.call_here slot hT entry args (body _ _ fun t => ?_))
  exact ⟨rfl, hR t⟩
theorem bin_noB {b : Bool} {name : String} {f : Int → Int → Sem Fin} (hy : s.heap.get? y = some (instObj C dx))
    {R : Fin → Shared → Prop} (hR : ∀ t, R (.done (.ret .notImplemented)) { s with toks := t }) : wpAny (model prog w) A (Builtin.Int.intBinary name f false ⟨[Value.bool b, Value.ref y], []⟩) R E s := by
  unfold Builtin.Int.intBinary
  have hs : PySem.slotArgs name 1 ⟨[Value.bool b, Value.ref y], []⟩ = pure (Value.bool b, [Value.ref y]) := rfl
  refine wpAny_bind (wpAny_of_eq hs ?_)
  dsimp only
  cases b
  · refine wpAny_bind (wpAny_of_eq (a := 0) rfl ?_)
    refine wpAny_bind (asInt_inst hy ?_)
    exact wpAny_bind (wpAny_rule (wpAny_pure (hR _)))
  · refine wpAny_bind (wpAny_of_eq (a := 1) rfl ?_)
    refine wpAny_bind (asInt_inst hy ?_)
    exact wpAny_bind (wpAny_rule (wpAny_pure (hR _)))
theorem asStr_inst {R : Option Str → Shared → Prop} {M : Model} (hy : s.heap.get? y = some (instObj C dx)) (h : R none s) : wpAny M A (asStr? (.ref y)) R E s := by
  unfold asStr?
  refine wpAny_bind (wpAny_load hy ?_)
  exact wpAny_pure h
theorem str_no {m : String} {f : List Nat → List Nat → Bool} {z : Str} (hy : s.heap.get? y = some (instObj C dx)) {R : Fin → Shared → Prop} (hR : ∀ t, R (.done (.ret .notImplemented)) { s with toks := t }) :
    wpAny (model prog w) A (Builtin.Str.strCompare m f ⟨[Value.str z u, Value.ref y], []⟩) R E s := by
  unfold Builtin.Str.strCompare
  refine wpAny_bind (wpAny_of_eq (a := (Value.str z u, z, [Value.ref y])) rfl ?_)
  dsimp only
  refine wpAny_bind (asStr_inst hy ?_)
  exact wpAny_bind (wpAny_rule (wpAny_pure (hR _)))
theorem inst_no {T : String} {R : Bool → Shared → Prop} (X : K.In s.heap) (J : InstAt s.heap y oy C oe) (hs : subIn K (.ref C) (.type T) = some false) (h : R false s) : wpAny (model prog w) A (isInstance (.ref y) (.type T)) R E s := by
  unfold isInstance
  exact wpAny_bind (J.type.here ((looks_subIn X hs).here h))

theorem c_int_lt (hy : s.heap.get? y = some (instObj C dx)) : DeclinesC prog w A E s (cmpInfo .Lt).2.1 (Value.int i u) y :=
  declC_of (typeIs_int _ _ _) F.slot_int_lt F.entry_int_lt (F.args_int_lt_2 _ _) fun E' R hR => by
    unfold Builtin.«int.__lt__»
    exact bin_no hy hR
theorem c_bool_lt {b : Bool} (hy : s.heap.get? y = some (instObj C dx)) : DeclinesC prog w A E s (cmpInfo .Lt).2.1 (Value.bool b) y :=
  declC_of (T := "bool") rfl F.slot_bool_lt F.entry_int_lt (F.args_int_lt_2 _ _) fun E' R hR => by
    unfold Builtin.«int.__lt__»
    exact bin_noB hy hR
theorem c_none_lt : DeclinesC prog w A E s (cmpInfo .Lt).2.1 Value.none y :=
  declC_of (T := "NoneType") rfl F.slot_NoneType_lt F.entry_NoneType_lt (F.args_NoneType_lt_2 _ _) fun E' R hR => by
    unfold Builtin.«NoneType.__lt__»
    exact wpAny_bind (wpAny_of_eq (a := (Value.none, [Value.ref y])) rfl (wpAny_pure (hR _)))
theorem c_str_lt {z : Str} (hy : s.heap.get? y = some (instObj C dx)) : DeclinesC prog w A E s (cmpInfo .Lt).2.1 (Value.str z u) y :=
  declC_of (T := "str") rfl F.slot_str_lt F.entry_str_lt (F.args_str_lt_2 _ _) fun E' R hR => by
    unfold Builtin.«str.__lt__»
    exact str_no hy hR
theorem c_tup_lt {a : Addr} {oa : Obj} (X : K.In s.heap) (J : InstAt s.heap y oy C oe) (hs : subIn K (.ref C) (.type "tuple") = some false) (ha : s.heap.get? a = some oa) (hc : oa.cls = .type "tuple") : DeclinesC prog w A E s (cmpInfo .Lt).2.1 (Value.ref a) y :=
  declC_of (T := "tuple") ⟨_, ha, hc⟩ F.slot_tuple_lt F.entry_tuple_lt (F.args_tuple_lt_2 _ _) fun E' R hR => by
    unfold Builtin.«tuple.__lt__»
    refine wpAny_bind (wpAny_of_eq (a := (Value.ref a, [Value.ref y])) rfl ?_)
    dsimp only
    refine wpAny_bind (inst_no X J hs ?_)
    exact wpAny_pure (hR _)
theorem c_lst_lt {a : Addr} {oa : Obj} (X : K.In s.heap) (J : InstAt s.heap y oy C oe) (hs : subIn K (.ref C) (.type "list") = some false) (ha : s.heap.get? a = some oa) (hc : oa.cls = .type "list") : DeclinesC prog w A E s (cmpInfo .Lt).2.1 (Value.ref a) y :=
  declC_of (T := "list") ⟨_, ha, hc⟩ F.slot_list_lt F.entry_list_lt (F.args_list_lt_2 _ _) fun E' R hR => by
    unfold Builtin.«list.__lt__»
    refine wpAny_bind (wpAny_of_eq (a := (Value.ref a, [Value.ref y])) rfl ?_)
    dsimp only
    refine wpAny_bind (inst_no X J hs ?_)
    exact wpAny_pure (hR _)

theorem c_int_le (hy : s.heap.get? y = some (instObj C dx)) : DeclinesC prog w A E s (cmpInfo .LtE).2.1 (Value.int i u) y :=
  declC_of (typeIs_int _ _ _) F.slot_int_le F.entry_int_le (F.args_int_le_2 _ _) fun E' R hR => by
    unfold Builtin.«int.__le__»
    exact bin_no hy hR
theorem c_bool_le {b : Bool} (hy : s.heap.get? y = some (instObj C dx)) : DeclinesC prog w A E s (cmpInfo .LtE).2.1 (Value.bool b) y :=
  declC_of (T := "bool") rfl F.slot_bool_le F.entry_int_le (F.args_int_le_2 _ _) fun E' R hR => by
    unfold Builtin.«int.__le__»
    exact bin_noB hy hR
theorem c_none_le : DeclinesC prog w A E s (cmpInfo .LtE).2.1 Value.none y :=
  declC_of (T := "NoneType") rfl F.slot_NoneType_le F.entry_NoneType_le (F.args_NoneType_le_2 _ _) fun E' R hR => by
    unfold Builtin.«NoneType.__le__»
    exact wpAny_bind (wpAny_of_eq (a := (Value.none, [Value.ref y])) rfl (wpAny_pure (hR _)))
theorem c_str_le {z : Str} (hy : s.heap.get? y = some (instObj C dx)) : DeclinesC prog w A E s (cmpInfo .LtE).2.1 (Value.str z u) y :=
  declC_of (T := "str") rfl F.slot_str_le F.entry_str_le (F.args_str_le_2 _ _) fun E' R hR => by
    unfold Builtin.«str.__le__»
    exact str_no hy hR
theorem c_tup_le {a : Addr} {oa : Obj} (X : K.In s.heap) (J : InstAt s.heap y oy C oe) (hs : subIn K (.ref C) (.type "tuple") = some false) (ha : s.heap.get? a = some oa) (hc : oa.cls = .type "tuple") : DeclinesC prog w A E s (cmpInfo .LtE).2.1 (Value.ref a) y :=
  declC_of (T := "tuple") ⟨_, ha, hc⟩ F.slot_tuple_le F.entry_tuple_le (F.args_tuple_le_2 _ _) fun E' R hR => by
    unfold Builtin.«tuple.__le__»
    refine wpAny_bind (wpAny_of_eq (a := (Value.ref a, [Value.ref y])) rfl ?_)
    dsimp only
    refine wpAny_bind (inst_no X J hs ?_)
    exact wpAny_pure (hR _)
theorem c_lst_le {a : Addr} {oa : Obj} (X : K.In s.heap) (J : InstAt s.heap y oy C oe) (hs : subIn K (.ref C) (.type "list") = some false) (ha : s.heap.get? a = some oa) (hc : oa.cls = .type "list") : DeclinesC prog w A E s (cmpInfo .LtE).2.1 (Value.ref a) y :=
  declC_of (T := "list") ⟨_, ha, hc⟩ F.slot_list_le F.entry_list_le (F.args_list_le_2 _ _) fun E' R hR => by
    unfold Builtin.«list.__le__»
    refine wpAny_bind (wpAny_of_eq (a := (Value.ref a, [Value.ref y])) rfl ?_)
    dsimp only
    refine wpAny_bind (inst_no X J hs ?_)
    exact wpAny_pure (hR _)

theorem c_int_gt (hy : s.heap.get? y = some (instObj C dx)) : DeclinesC prog w A E s (cmpInfo .Gt).2.1 (Value.int i u) y :=
  declC_of (typeIs_int _ _ _) F.slot_int_gt F.entry_int_gt (F.args_int_gt_2 _ _) fun E' R hR => by
    unfold Builtin.«int.__gt__»
    exact bin_no hy hR
theorem c_bool_gt {b : Bool} (hy : s.heap.get? y = some (instObj C dx)) : DeclinesC prog w A E s (cmpInfo .Gt).2.1 (Value.bool b) y :=
  declC_of (T := "bool") rfl F.slot_bool_gt F.entry_int_gt (F.args_int_gt_2 _ _) fun E' R hR => by
    unfold Builtin.«int.__gt__»
    exact bin_noB hy hR
theorem c_none_gt : DeclinesC prog w A E s (cmpInfo .Gt).2.1 Value.none y :=
  declC_of (T := "NoneType") rfl F.slot_NoneType_gt F.entry_NoneType_gt (F.args_NoneType_gt_2 _ _) fun E' R hR => by
    unfold Builtin.«NoneType.__gt__»
    exact wpAny_bind (wpAny_of_eq (a := (Value.none, [Value.ref y])) rfl (wpAny_pure (hR _)))
theorem c_str_gt {z : Str} (hy : s.heap.get? y = some (instObj C dx)) : DeclinesC prog w A E s (cmpInfo .Gt).2.1 (Value.str z u) y :=
  declC_of (T := "str") rfl F.slot_str_gt F.entry_str_gt (F.args_str_gt_2 _ _) fun E' R hR => by
    unfold Builtin.«str.__gt__»
    exact str_no hy hR
theorem c_tup_gt {a : Addr} {oa : Obj} (X : K.In s.heap) (J : InstAt s.heap y oy C oe) (hs : subIn K (.ref C) (.type "tuple") = some false) (ha : s.heap.get? a = some oa) (hc : oa.cls = .type "tuple") : DeclinesC prog w A E s (cmpInfo .Gt).2.1 (Value.ref a) y :=
  declC_of (T := "tuple") ⟨_, ha, hc⟩ F.slot_tuple_gt F.entry_tuple_gt (F.args_tuple_gt_2 _ _) fun E' R hR => by
    unfold Builtin.«tuple.__gt__»
    refine wpAny_bind (wpAny_of_eq (a := (Value.ref a, [Value.ref y])) rfl ?_)
    dsimp only
    refine wpAny_bind (inst_no X J hs ?_)
    exact wpAny_pure (hR _)
theorem c_lst_gt {a : Addr} {oa : Obj} (X : K.In s.heap) (J : InstAt s.heap y oy C oe) (hs : subIn K (.ref C) (.type "list") = some false) (ha : s.heap.get? a = some oa) (hc : oa.cls = .type "list") : DeclinesC prog w A E s (cmpInfo .Gt).2.1 (Value.ref a) y :=
  declC_of (T := "list") ⟨_, ha, hc⟩ F.slot_list_gt F.entry_list_gt (F.args_list_gt_2 _ _) fun E' R hR => by
    unfold Builtin.«list.__gt__»
    refine wpAny_bind (wpAny_of_eq (a := (Value.ref a, [Value.ref y])) rfl ?_)
    dsimp only
    refine wpAny_bind (inst_no X J hs ?_)
    exact wpAny_pure (hR _)

theorem c_int_ge (hy : s.heap.get? y = some (instObj C dx)) : DeclinesC prog w A E s (cmpInfo .GtE).2.1 (Value.int i u) y :=
  declC_of (typeIs_int _ _ _) F.slot_int_ge F.entry_int_ge (F.args_int_ge_2 _ _) fun E' R hR => by
    unfold Builtin.«int.__ge__»
    exact bin_no hy hR
theorem c_bool_ge {b : Bool} (hy : s.heap.get? y = some (instObj C dx)) : DeclinesC prog w A E s (cmpInfo .GtE).2.1 (Value.bool b) y :=
  declC_of (T := "bool") rfl F.slot_bool_ge F.entry_int_ge (F.args_int_ge_2 _ _) fun E' R hR => by
    unfold Builtin.«int.__ge__»
    exact bin_noB hy hR
theorem c_none_ge : DeclinesC prog w A E s (cmpInfo .GtE).2.1 Value.none y :=
  declC_of (T := "NoneType") rfl F.slot_NoneType_ge F.entry_NoneType_ge (F.args_NoneType_ge_2 _ _) fun E' R hR => by
    unfold Builtin.«NoneType.__ge__»
    exact wpAny_bind (wpAny_of_eq (a := (Value.none, [Value.ref y])) rfl (wpAny_pure (hR _)))
theorem c_str_ge {z : Str} (hy : s.heap.get? y = some (instObj C dx)) : DeclinesC prog w A E s (cmpInfo .GtE).2.1 (Value.str z u) y :=
  declC_of (T := "str") rfl F.slot_str_ge F.entry_str_ge (F.args_str_ge_2 _ _) fun E' R hR => by
    unfold Builtin.«str.__ge__»
    exact str_no hy hR
theorem c_tup_ge {a : Addr} {oa : Obj} (X : K.In s.heap) (J : InstAt s.heap y oy C oe) (hs : subIn K (.ref C) (.type "tuple") = some false) (ha : s.heap.get? a = some oa) (hc : oa.cls = .type "tuple") : DeclinesC prog w A E s (cmpInfo .GtE).2.1 (Value.ref a) y :=
  declC_of (T := "tuple") ⟨_, ha, hc⟩ F.slot_tuple_ge F.entry_tuple_ge (F.args_tuple_ge_2 _ _) fun E' R hR => by
    unfold Builtin.«tuple.__ge__»
    refine wpAny_bind (wpAny_of_eq (a := (Value.ref a, [Value.ref y])) rfl ?_)
    dsimp only
    refine wpAny_bind (inst_no X J hs ?_)
    exact wpAny_pure (hR _)
theorem c_lst_ge {a : Addr} {oa : Obj} (X : K.In s.heap) (J : InstAt s.heap y oy C oe) (hs : subIn K (.ref C) (.type "list") = some false) (ha : s.heap.get? a = some oa) (hc : oa.cls = .type "list") : DeclinesC prog w A E s (cmpInfo .GtE).2.1 (Value.ref a) y :=
  declC_of (T := "list") ⟨_, ha, hc⟩ F.slot_list_ge F.entry_list_ge (F.args_list_ge_2 _ _) fun E' R hR => by
    unfold Builtin.«list.__ge__»
    refine wpAny_bind (wpAny_of_eq (a := (Value.ref a, [Value.ref y])) rfl ?_)
    dsimp only
    refine wpAny_bind (inst_no X J hs ?_)
    exact wpAny_pure (hR _)

theorem c_int_eq (hy : s.heap.get? y = some (instObj C dx)) : DeclinesC prog w A E s (cmpInfo .Eq).2.1 (Value.int i u) y :=
  declC_of (typeIs_int _ _ _) F.slot_int_eq F.entry_int_eq (F.args_int_eq_2 _ _) fun E' R hR => by
    unfold Builtin.«int.__eq__»
    exact bin_no hy hR
/-- a built-in value on the left, an own instance on the right -/
theorem cmp_right {op : CmpOp} {a : Value} {Q : Value → Shared → Prop} (hu : A.units < cLine) (X : K.In s.heap) (J : InstAt s.heap y oy C oe) (ha : s.TypeIs a T) (hsub : subIn K (.ref C) (.type T) = some false)
    (no : DeclinesC prog w A E s (cmpInfo op).2.1 a y) (hs : findIn K (.ref C) (cmpInfo op).2.2 = some (some (.ref g))) (hg : isFn K (.ref g) = true)
    (h : ∀ t, wpAny (model prog w) A (call (.ref g) [.ref y, a]) (W.CmpBack Q) E { s with toks := t }) : wpAny (model prog w) A (richCompare op a (.ref y)) Q E s := by
  have one : ∀ t, wpAny (model prog w) A (tryCompare (.ref y) (cmpInfo op).2.2 a) (fun r s' => ∃ v, r = some v ∧ Q v s') E { s with toks := t } := fun t => by
    unfold tryCompare
    refine wpAny_bind (ifBound_K (s := { s with toks := t }) X J hs hg (wpAny_mono (h t) (fun v s' hv => ?_) fun _ _ e => e))
    cases v <;> first | exact hv.elim | exact wpAny_pure ⟨_, rfl, hv⟩
  unfold richCompare
  simp only [ha.oneThing_none]
  refine wpAny_holding (wpAny_bind (wpAny_cRoomFor hu ?_))
  refine wpAny_bind (wpAny_typeOf ha (wpAny_bind (J.type.here ?_)))
  have hne : (Value.type T != Value.ref C) = true := rfl
  simp only [hne, if_true]
  refine wpAny_bind ((looks_subIn X hsub).here ?_)
  simp only [Bool.false_eq_true, if_false, Bool.not_false, if_true]
  refine wpAny_bind (no _ fun t => ?_)
  dsimp only
  refine wpAny_bind (wpAny_mono (one t) (fun r s' z => ?_) fun _ _ e => e)
  obtain ⟨v, rfl, hq⟩ := z
  exact wpAny_pure hq
end
end Oo

set_option Elab.async false
set_option linter.all false
set_option maxRecDepth 100000
set_option maxHeartbeats 1000000
namespace Oo
open PySem PySem.Spec PyProof.Rows L2
/-- a built-in value, its type -/
inductive Bt (H : Hp) : V → String → Prop where
  | non : Bt H .non "NoneType"
  | bl (b : Bool) : Bt H (.bl b) "bool"
  | int (i : Int) : Bt H (.int i) "int"
  | str (z : Str) : Bt H (.str z) "str"
  | lst {a : Addr} {xs : List V} (e : H a = some (.lst xs)) : Bt H (.ref a) "list"
  | tup {a : Addr} {xs : List V} (e : H a = some (.tup xs)) : Bt H (.ref a) "tuple"
  | dK {a : Addr} {kvs : List (Key × V)} (e : H a = some (.dK kvs)) : Bt H (.ref a) "dict"
def seven : List String := ["NoneType", "bool", "int", "str", "list", "tuple", "dict"]
theorem Bt.mem {H : Hp} {x : V} {T : String} (b : Bt H x T) : T ∈ seven := by cases b <;> decide
theorem Bt.ty {K : W.Frag} {H : Hp} {x : V} {T : String} (b : Bt H x T) : TyX K H x (.type T) := .base (by
  cases b with
  | non => exact .non
  | bl b => exact .bl b
  | int i => exact .int i
  | str z => exact .str z
  | lst e => exact .lst e
  | tup e => exact .tup e
  | dK e => exact .dK e)
theorem Bt.ext {H H' : Hp} {x : V} {T : String} (b : Bt H x T) (e : ∀ a o, H a = some o → H' a = some o) : Bt H' x T := by
  cases b with
  | non => exact .non
  | bl b => exact .bl b
  | int i => exact .int i
  | str z => exact .str z
  | lst h => exact .lst (e _ _ h)
  | tup h => exact .tup (e _ _ h)
  | dK h => exact .dK (e _ _ h)
section
variable {X : Cx} {CX : CXT} {pins : List (Addr × Obj)} {σ : L2.St} {H : Hp} {s : Shared} {C f g : Addr} {k : Nat} {sp sq : Sp} {E : XK} {fd gd : FuncData} {ps qs : List Str} {T : String} {K : W.Frag}
theorem Bt.is {x : V} {v : Value} (I : Inv X pins σ H s) (rx : RelV x v) (b : Bt H x T) : s.TypeIs v T := by
  cases b with
  | non => cases (show v = Value.none from rx); rfl
  | bl b => cases (show v = Value.bool b from rx); rfl
  | int i => obtain ⟨t, rfl⟩ := (show ∃ t, v = Value.int i t from rx); rfl
  | str z => obtain ⟨t, rfl⟩ := (show ∃ t, v = Value.str z t from rx); rfl
  | @lst a xs e =>
    cases (show v = Value.ref a from rx)
    obtain ⟨_, _, n, _, h1⟩ := (show ObjOk X.prog X.w H s.heap a (.lst xs) from I.hok a _ e)
    exact ⟨_, h1, rfl⟩
  | @tup a xs e =>
    cases (show v = Value.ref a from rx)
    obtain ⟨_, _, _, o, h1, h2, _⟩ := (show ObjOk X.prog X.w H s.heap a (.tup xs) from I.hok a _ e)
    exact ⟨o, h1, h2⟩
  | @dK a kvs e =>
    cases (show v = Value.ref a from rx)
    obtain ⟨_, _, vs, _, o, es, ep, h1, h2, _⟩ := (show ObjOk X.prog X.w H s.heap a (.dK kvs) from I.hok a _ e)
    exact ⟨o, h1, h2.1⟩
theorem is_keeps {s s' : Shared} {v : Value} (h : s.TypeIs v T) (kp : ∀ b o, s.heap.get? b = some o → s'.heap.get? b = some o) : s'.TypeIs v T := by
  cases v with
  | ref a =>
    obtain ⟨o, e, c⟩ := h
    exact ⟨o, kp _ _ e, c⟩
  | _ => exact h
/-- a class right below object -/
def Plain (K : W.Frag) (C : Addr) : Prop := ∃ cd, W.clsIn K C = some cd ∧ cd.mro = [.ref C, .type "object"]
theorem sub_C (p : Plain K C) (h : T ≠ "object") : W.subIn K (.ref C) (.type T) = some false := by
  obtain ⟨cd, e, m⟩ := p
  show W.mroIn K C (.type T) = _
  unfold W.mroIn
  rw [e]
  show (if cd.mro.isEmpty then none else some (cd.mro.contains (.type T))) = _
  rw [m]
  show some ([Value.ref C, Value.type "object"].contains (.type T)) = some false
  congr 1
  rw [Bool.eq_false_iff]
  intro z
  rw [List.contains_iff_mem] at z
  simp at z
  exact h z
theorem sub_T (h : T ∈ seven) : W.subIn K (.type T) (.ref C) = some false := by
  have key : ∀ l : List String, (l.map Value.type).contains (.ref C) = false := fun l => by
    rw [Bool.eq_false_iff]
    intro z
    rw [List.contains_iff_mem] at z
    obtain ⟨a, _, e⟩ := List.mem_map.mp z
    cases e
  have m : ∀ {T : String} {l : List String}, fastBuiltinMro T = some (l.map Value.type) → W.subIn K (.type T) (.ref C) = some false := fun {T l} e => by
    show (fastBuiltinMro T).map (·.contains (.ref C)) = _
    rw [e]
    exact congrArg some (key l)
  simp only [seven, List.mem_cons, List.not_mem_nil, or_false] at h
  rcases h with rfl | rfl | rfl | rfl | rfl | rfl | rfl
  · exact m (l := ["NoneType", "object"]) (by decide +kernel)
  · exact m (l := ["bool", "int", "object"]) (by decide +kernel)
  · exact m (l := ["int", "object"]) (by decide +kernel)
  · exact m (l := ["str", "object"]) (by decide +kernel)
  · exact m (l := ["list", "object"]) (by decide +kernel)
  · exact m (l := ["tuple", "object"]) (by decide +kernel)
  · exact m (l := ["dict", "object"]) (by decide +kernel)
theorem not_obj (h : T ∈ seven) : T ≠ "object" := fun e => by
  subst e
  revert h
  decide
theorem kit_no (h : T ∈ seven) (ks : (W.clsIn K C).isSome = true) (kt : W.typeIn K (.ref C) = some (.type "type")) : W.kitOne K (.type T) (.ref C) = some false := by
  unfold W.kitOne
  rw [if_neg (by simp)]
  unfold W.kitCls
  simp only [ks, kt, Bool.true_and, beq_self_eq_true, if_true]
  exact sub_T h
/-! ### comparisons -/
def Four (op : CmpOp) : Prop := op = .Lt ∨ op = .LtE ∨ op = .Gt ∨ op = .GtE
theorem four_rich {op : CmpOp} (h : Four op) {M : Model} {A : Around} {E : Value → Shared → Prop} {a b : Value} {Q : Value → Shared → Prop} (z : wpAny M A (richCompare op a b) Q E s) : wpAny M A (compareOp op a b) Q E s := by
  rcases h with rfl | rfl | rfl | rfl <;> exact z
/-- an own instance on the left -/
def rCmpL (C : Addr) (sp : Sp) (E : XK) : R2 := fun x y H Q => ∃ a dx fs, x = .ref a ∧ H a = some (.ins C dx fs) ∧ ((∃ b dy gs, y = .ref b ∧ H b = some (.ins C dy gs)) ∨ ∃ T, Bt H y T) ∧ sp [x, y] H Q E
theorem op_cmpL {op : CmpOp} (h6 : ∀ (M : Model) (A : Around) (E : Value → Shared → Prop) (s : Shared) (a b : Value) (Q : Value → Shared → Prop), wpAny M A (richCompare op a b) Q E s → wpAny M A (compareOp op a b) Q E s)
    (hs : W.findIn X.K (.ref C) (cmpInfo op).2.1 = some (some (.ref f))) (hf : W.isFn X.K (.ref f) = true) (F : FnOk X.prog X.w X.K X.mg X.base CX k f fd ps sp) (hb : Binds X.K fd ps []) (hx : Passes CX X E) (hr : Room k X.A) :
    OpR X (compareOp op) (rCmpL C sp E) := fun pins s σ H x y v u Q I rx ry h => by
  obtain ⟨a, dx, fs, rfl, ha, hy, z⟩ := h
  cases (show v = Value.ref a from rx)
  obtain ⟨od, J, _⟩ := inst_at I ha
  obtain ⟨m, hF⟩ := I.fr
  refine h6 _ _ _ _ _ _ _ ?_
  have go := wpAny_mono (run_fn (E := E) (us := [.ref a, u]) (vs := [.ref a, y]) F hr hb .nil hx I (.cons rfl (.cons ry .nil)) (by simpa using z)) (fun v' s' ⟨z', H', I', rz, qz⟩ => SlX.cmpback (P := EP X pins σ Q) rz ⟨z', H', I', rz, qz⟩) fun _ _ z => z
  rcases hy with ⟨b, dy, gs, rfl, hb2⟩ | ⟨T, bt⟩
  · cases (show u = Value.ref b from ry)
    obtain ⟨oe, J2, _⟩ := inst_at I hb2
    refine W.cmp_K (op := op) (tb := .ref C) hr.units0 hF I.ok.mod.kin J J2.type ?_ hs hf go
    unfold W.notFirst
    rw [beq_self_eq_true]
    rfl
  · refine W.cmp_K (op := op) (tb := .type T) hr.units0 hF I.ok.mod.kin J (fun A Q E s' kp q => wpAny_typeOf (is_keeps (bt.is I ry) kp) q) ?_ hs hf go
    unfold W.notFirst
    rw [sub_T bt.mem]
    simp
theorem decl_any {op : CmpOp} (h4 : Four op) {x : V} {v : Value} {b dy : Addr} {oe : Option Obj} (p : Plain X.K C) (I : Inv X pins σ H s) (rx : RelV x v) (bt : Bt H x T) (nd : T ≠ "dict") (J : W.InstAt s.heap b (W.instObj C dy) C oe) {E' : Value → Shared → Prop} :
    DeclinesC X.prog X.w X.A E' s (cmpInfo op).2.1 v b := by
  have hy := J.at_
  cases bt with
  | non =>
    cases (show v = Value.none from rx)
    rcases h4 with rfl | rfl | rfl | rfl
    · exact c_none_lt
    · exact c_none_le
    · exact c_none_gt
    · exact c_none_ge
  | bl c =>
    cases (show v = Value.bool c from rx)
    rcases h4 with rfl | rfl | rfl | rfl
    · exact c_bool_lt hy
    · exact c_bool_le hy
    · exact c_bool_gt hy
    · exact c_bool_ge hy
  | int i =>
    obtain ⟨t, rfl⟩ := (show ∃ t, v = Value.int i t from rx)
    rcases h4 with rfl | rfl | rfl | rfl
    · exact c_int_lt hy
    · exact c_int_le hy
    · exact c_int_gt hy
    · exact c_int_ge hy
  | str z =>
    obtain ⟨t, rfl⟩ := (show ∃ t, v = Value.str z t from rx)
    rcases h4 with rfl | rfl | rfl | rfl
    · exact c_str_lt hy
    · exact c_str_le hy
    · exact c_str_gt hy
    · exact c_str_ge hy
  | @lst a xs e =>
    cases (show v = Value.ref a from rx)
    obtain ⟨_, _, n, _, h1⟩ := (show ObjOk X.prog X.w H s.heap a (.lst xs) from I.hok a _ e)
    have hs := sub_C (K := X.K) (T := "list") p (by decide)
    rcases h4 with rfl | rfl | rfl | rfl
    · exact c_lst_lt I.kIn J hs h1 rfl
    · exact c_lst_le I.kIn J hs h1 rfl
    · exact c_lst_gt I.kIn J hs h1 rfl
    · exact c_lst_ge I.kIn J hs h1 rfl
  | @tup a xs e =>
    cases (show v = Value.ref a from rx)
    obtain ⟨_, _, _, o, h1, h2, _⟩ := (show ObjOk X.prog X.w H s.heap a (.tup xs) from I.hok a _ e)
    have hs := sub_C (K := X.K) (T := "tuple") p (by decide)
    rcases h4 with rfl | rfl | rfl | rfl
    · exact c_tup_lt I.kIn J hs h1 h2
    · exact c_tup_le I.kIn J hs h1 h2
    · exact c_tup_gt I.kIn J hs h1 h2
    · exact c_tup_ge I.kIn J hs h1 h2
  | dK e => exact absurd rfl nd
/-- a built-in value on the left, an own instance on the right -/
def rCmpR (C : Addr) (sq : Sp) (E : XK) : R2 := fun x y H Q => ∃ b dy gs T, y = .ref b ∧ H b = some (.ins C dy gs) ∧ Bt H x T ∧ T ≠ "dict" ∧ sq [y, x] H Q E
theorem op_cmpR {op : CmpOp} (h4 : Four op) (p : Plain X.K C) (hs : W.findIn X.K (.ref C) (cmpInfo op).2.2 = some (some (.ref g))) (hf : W.isFn X.K (.ref g) = true) (G : FnOk X.prog X.w X.K X.mg X.base CX k g gd qs sq) (hb : Binds X.K gd qs []) (hx : Passes CX X E) (hr : Room k X.A) :
    OpR X (compareOp op) (rCmpR C sq E) := fun pins s σ H x y v u Q I rx ry h => by
  obtain ⟨b, dy, gs, T, rfl, hb2, bt, nd, z⟩ := h
  cases (show u = Value.ref b from ry)
  obtain ⟨oe, J2, e2⟩ := inst_at I hb2
  refine four_rich h4 ?_
  refine cmp_right hr.units0 I.kIn J2 (bt.is I rx) (sub_C p (not_obj bt.mem)) (decl_any h4 p I rx bt nd J2) hs hf fun t => ?_
  have I2 : Inv X pins σ H { s with toks := t } := I.tok t
  exact wpAny_mono (run_fn (E := E) (us := [.ref b, v]) (vs := [.ref b, x]) G hr hb .nil hx I2 (.cons rfl (.cons rx .nil)) (by simpa using z)) (fun v' s' ⟨z', H', I', rz, qz⟩ => SlX.cmpback (P := EP X pins σ Q) rz ⟨z', H', I', rz, qz⟩) fun _ _ z => z
end
end Oo

set_option Elab.async false
set_option linter.all false
set_option maxRecDepth 100000
set_option maxHeartbeats 1000000
/-! Operators of an own instance and any built-in value. -/
namespace Oo
open PySem PySem.Spec PySem.W PyProof.Rows
section
variable {prog : Program} {w : World} {A : Around} {E : Value → Shared → Prop} {s : Shared} {K : Frag} {x y C f g : Addr} {ox oy : Obj} {od oe : Option Obj} {nm T : String}
theorem b1_leftL {b : Value} {fo ro rc : Option Value} {Q : Value → Shared → Prop} (X : K.In s.heap) (I : InstAt s.heap x ox C od) (hb : s.TypeIs b T) (hc : selfFirst K C = true)
    (hs : findIn K (.ref C) (PySem.dunder nm) = some (some (.ref f))) (hf : isFn K (.ref f) = true) (hr : findIn K (.ref C) (dunderR nm) = some rc) (hp : rc = none ∨ ∃ g : Addr, rc = some (.ref g))
    (h1 : findIn K (.type T) (PySem.dunder nm) = some fo) (h2 : findIn K (.type T) (dunderR nm) = some ro) (hsub : subIn K (.type T) (.ref C) = some false)
    (h : wpAny (model prog w) A (call (.ref f) [.ref x, b]) (W.CmpBack Q) E s) : wpAny (model prog w) A (binaryOp1 nm (.ref x) b) (fun r s' => ∃ v, r = some v ∧ Q v s') E s := by
  obtain ⟨cd, rest, hcd, hm⟩ := ksp_first hc
  have one := ksp_try X I hs hf h
  obtain ⟨hh, gg, d, tt, os⟩ := s
  have L1 : Looks (model prog w) hh (typeOf (.ref x)) (.ref C) := I.type
  have L2 : Looks (model prog w) hh (typeOf b) (.type T) := fun A Q E s' kp q => wpAny_typeOf (is_keeps hb kp) q
  have L3 : Looks (model prog w) hh (fillsNumberSlot (.ref C) nm) true := fills_K X hcd hm hs
  have L4 : Looks (model prog w) hh (fillsNumberSlot (.type T) nm) ((fo.isSome && !isSeqSlot fo) || (ro.isSome && !isSeqSlot ro)) := ksp_fillsT X h1 h2
  have L5 : Looks (model prog w) hh (isSubtype (.type T) (.ref C)) false := looks_subIn X hsub
  have L6 : Looks (model prog w) hh (numberSlotInPython (.ref C) nm) true := ksp_inPy X hs hr hp
  have L7 : Looks (model prog w) hh (numberSlotInPython (.type T) nm) false := Looks.of_pure rfl
  have L8 : Looks (model prog w) hh (typeLookup (.type T) (dunderR nm)) ro := looks_findIn X h2
  generalize ((fo.isSome && !isSeqSlot fo) || (ro.isSome && !isSeqSlot ro)) = right at L4
  have hne : (Value.ref C == Value.type T) = false := Bool.eq_false_iff.mpr fun q => by cases beq_iff_eq.mp q
  unfold binaryOp1
  refine wpAny_bind (L1.at (wpAny_bind (L2.at (wpAny_bind (L3.at ?_)))))
  simp only [hne, Bool.false_eq_true, if_false]
  cases right with
  | false =>
    ksp_lk
    refine wpAny_mono one (fun r s' hr' => ?_) fun _ _ e => e
    obtain ⟨v, rfl, hq⟩ := hr'
    ksp_lk
    exact ⟨v, rfl, hq⟩
  | true =>
    ksp_lk
    refine wpAny_mono one (fun r s' hr' => ?_) fun _ _ e => e
    obtain ⟨v, rfl, hq⟩ := hr'
    ksp_lk
    exact ⟨v, rfl, hq⟩

theorem b1_rightL {a : Value} {fo ro : Option Value} {Q : Value → Shared → Prop} (X : K.In s.heap) (J : InstAt s.heap y oy C oe) (ha : s.TypeIs a T) (hc : selfFirst K C = true)
    (hs : findIn K (.ref C) (PySem.dunder nm) = some (some (.ref f))) (hr : findIn K (.ref C) (dunderR nm) = some (some (.ref g))) (hg : isFn K (.ref g) = true)
    (h1 : findIn K (.type T) (PySem.dunder nm) = some fo) (h2 : findIn K (.type T) (dunderR nm) = some ro) (hsub : subIn K (.ref C) (.type T) = some false)
    (no : ((fo.isSome && !isSeqSlot fo) || (ro.isSome && !isSeqSlot ro)) = true → Declines prog w A E s nm a y)
    (h : ∀ t, wpAny (model prog w) A (call (.ref g) [.ref y, a]) (W.CmpBack Q) E { s with toks := t }) : wpAny (model prog w) A (binaryOp1 nm a (.ref y)) (fun r s' => ∃ v, r = some v ∧ Q v s') E s := by
  obtain ⟨cd, rest, hcd, hm⟩ := ksp_first hc
  have one : ∀ t, wpAny (model prog w) A (tryMethod (.ref y) (dunderR nm) a) (fun r s' => ∃ v, r = some v ∧ Q v s') E { s with toks := t } := fun t => ksp_try (s := { s with toks := t }) X J hr hg (h t)
  obtain ⟨hh, gg, d, tt, os⟩ := s
  have L1 : Looks (model prog w) hh (typeOf a) (.type T) := fun A Q E s' kp q => wpAny_typeOf (is_keeps ha kp) q
  have L2 : Looks (model prog w) hh (typeOf (.ref y)) (.ref C) := J.type
  have L3 : Looks (model prog w) hh (fillsNumberSlot (.ref C) nm) true := fills_K X hcd hm hs
  have L4 : Looks (model prog w) hh (fillsNumberSlot (.type T) nm) ((fo.isSome && !isSeqSlot fo) || (ro.isSome && !isSeqSlot ro)) := ksp_fillsT X h1 h2
  have L5 : Looks (model prog w) hh (isSubtype (.ref C) (.type T)) false := looks_subIn X hsub
  have L7 : Looks (model prog w) hh (numberSlotInPython (.type T) nm) false := Looks.of_pure rfl
  have hne : (Value.type T == Value.ref C) = false := Bool.eq_false_iff.mpr fun q => by cases beq_iff_eq.mp q
  generalize hl : ((fo.isSome && !isSeqSlot fo) || (ro.isSome && !isSeqSlot ro)) = left at L4 no
  unfold binaryOp1
  refine wpAny_bind (L1.at (wpAny_bind (L2.at (wpAny_bind (L4.at ?_)))))
  simp only [hne, Bool.false_eq_true, if_false]
  cases left with
  | false =>
    ksp_lk
    refine wpAny_mono (one tt) (fun r s' hr' => ?_) fun _ _ e => e
    obtain ⟨v, rfl, hq⟩ := hr'
    ksp_lk
    exact ⟨v, rfl, hq⟩
  | true =>
    ksp_lk
    refine no rfl _ fun t => ?_
    ksp_lk
    refine wpAny_mono (one t) (fun r s' hr' => ?_) fun _ _ e => e
    obtain ⟨v, rfl, hq⟩ := hr'
    ksp_lk
    exact ⟨v, rfl, hq⟩


variable {b : Bool} {dx : Addr}
theorem decl_ofB {id : String} {B : Builtin} (slot : Slot "bool" (PySem.dunder nm) id) (entry : entryFor table id = some B) (args : argsOk id ⟨[.bool b, .ref y], []⟩)
    (body : ∀ (E' : Value → Shared → Prop) (R : Fin → Shared → Prop), (∀ t, R (.done (.ret .notImplemented)) { s with toks := t }) → wpAny (model prog w) A.in1 (B ⟨[.bool b, .ref y], []⟩) R E' s) : Declines prog w A E s nm (.bool b) y := by
  intro R hR
  have hT : s.TypeIs (.bool b) "bool" := rfl
  unfold tryMethod
  refine wpAny_bind (wpAny_callSpecial?_slot hT slot (GQ.call_here slot hT entry args (body _ _ fun t => ?_)))
  exact wpAny_pure (hR t)
theorem pylong_noB {R : Unit → Shared → Prop} {M : Model} (hy : s.heap.get? y = some (instObj C dx)) (h : R () s) : wpAny M A (Builtin.exactOperandsForPylong false ⟨[Value.bool b, Value.ref y], []⟩) R E s := by
  unfold Builtin.exactOperandsForPylong
  refine wpAny_ite_true rfl ?_
  cases b
  · refine wpAny_bind (wpAny_of_eq (a := some 0) rfl ?_)
    refine wpAny_bind (asInt_inst hy ?_)
    exact wpAny_pure h
  · refine wpAny_bind (wpAny_of_eq (a := some 1) rfl ?_)
    refine wpAny_bind (asInt_inst hy ?_)
    exact wpAny_pure h
theorem add_noB {R : Fin → Shared → Prop} (hy : s.heap.get? y = some (instObj C dx)) (hR : ∀ t, R (.done (.ret .notImplemented)) { s with toks := t }) : wpAny (model prog w) A (Builtin.«int.__add__» ⟨[Value.bool b, Value.ref y], []⟩) R E s := by
  unfold Builtin.«int.__add__»
  exact bin_noB hy hR
theorem addB2 : entryFor table "int.__add__" = some Builtin.«int.__add__» := F.entry_int_add
theorem addB3 : argsOk "int.__add__" ⟨[Value.bool b, Value.ref y], []⟩ := F.args_int_add_2 _ _
theorem addBd' {B : Builtin} (hB : Builtin.«int.__add__» = B) (h2 : entryFor table "int.__add__" = some B) (hy : s.heap.get? y = some (instObj C dx)) : Declines prog w A E s "add" (Value.bool b) y :=
  decl_ofB (nm := "add") (id := "int.__add__") (B := B) (b := b) F.slot_bool_add h2 addB3 (hB ▸ fun E' R hR => add_noB hy hR)
theorem addBd (hy : s.heap.get? y = some (instObj C dx)) : Declines prog w A E s "add" (Value.bool b) y := addBd' rfl addB2 hy
theorem sub_noB {R : Fin → Shared → Prop} (hy : s.heap.get? y = some (instObj C dx)) (hR : ∀ t, R (.done (.ret .notImplemented)) { s with toks := t }) : wpAny (model prog w) A (Builtin.«int.__sub__» ⟨[Value.bool b, Value.ref y], []⟩) R E s := by
  unfold Builtin.«int.__sub__»
  exact bin_noB hy hR
theorem subB2 : entryFor table "int.__sub__" = some Builtin.«int.__sub__» := F.entry_int_sub
theorem subB3 : argsOk "int.__sub__" ⟨[Value.bool b, Value.ref y], []⟩ := F.args_int_sub_2 _ _
theorem subBd' {B : Builtin} (hB : Builtin.«int.__sub__» = B) (h2 : entryFor table "int.__sub__" = some B) (hy : s.heap.get? y = some (instObj C dx)) : Declines prog w A E s "sub" (Value.bool b) y :=
  decl_ofB (nm := "sub") (id := "int.__sub__") (B := B) (b := b) F.slot_bool_sub h2 subB3 (hB ▸ fun E' R hR => sub_noB hy hR)
theorem subBd (hy : s.heap.get? y = some (instObj C dx)) : Declines prog w A E s "sub" (Value.bool b) y := subBd' rfl subB2 hy
theorem mul_noB {R : Fin → Shared → Prop} (hy : s.heap.get? y = some (instObj C dx)) (hR : ∀ t, R (.done (.ret .notImplemented)) { s with toks := t }) : wpAny (model prog w) A (Builtin.«int.__mul__» ⟨[Value.bool b, Value.ref y], []⟩) R E s := by
  unfold Builtin.«int.__mul__»
  exact bin_noB hy hR
theorem mulB2 : entryFor table "int.__mul__" = some Builtin.«int.__mul__» := F.entry_int_mul
theorem mulB3 : argsOk "int.__mul__" ⟨[Value.bool b, Value.ref y], []⟩ := F.args_int_mul_2 _ _
theorem mulBd' {B : Builtin} (hB : Builtin.«int.__mul__» = B) (h2 : entryFor table "int.__mul__" = some B) (hy : s.heap.get? y = some (instObj C dx)) : Declines prog w A E s "mul" (Value.bool b) y :=
  decl_ofB (nm := "mul") (id := "int.__mul__") (B := B) (b := b) F.slot_bool_mul h2 mulB3 (hB ▸ fun E' R hR => mul_noB hy hR)
theorem mulBd (hy : s.heap.get? y = some (instObj C dx)) : Declines prog w A E s "mul" (Value.bool b) y := mulBd' rfl mulB2 hy
theorem mod_noB {R : Fin → Shared → Prop} (hy : s.heap.get? y = some (instObj C dx)) (hR : ∀ t, R (.done (.ret .notImplemented)) { s with toks := t }) : wpAny (model prog w) A (Builtin.«int.__mod__» ⟨[Value.bool b, Value.ref y], []⟩) R E s := by
  unfold Builtin.«int.__mod__»
  exact bin_noB hy hR
theorem modB2 : entryFor table "int.__mod__" = some Builtin.«int.__mod__» := F.entry_int_mod
theorem modB3 : argsOk "int.__mod__" ⟨[Value.bool b, Value.ref y], []⟩ := F.args_int_mod_2 _ _
theorem modBd' {B : Builtin} (hB : Builtin.«int.__mod__» = B) (h2 : entryFor table "int.__mod__" = some B) (hy : s.heap.get? y = some (instObj C dx)) : Declines prog w A E s "mod" (Value.bool b) y :=
  decl_ofB (nm := "mod") (id := "int.__mod__") (B := B) (b := b) F.slot_bool_mod h2 modB3 (hB ▸ fun E' R hR => mod_noB hy hR)
theorem modBd (hy : s.heap.get? y = some (instObj C dx)) : Declines prog w A E s "mod" (Value.bool b) y := modBd' rfl modB2 hy
theorem floordiv_noB {R : Fin → Shared → Prop} (hy : s.heap.get? y = some (instObj C dx)) (hR : ∀ t, R (.done (.ret .notImplemented)) { s with toks := t }) : wpAny (model prog w) A (Builtin.«int.__floordiv__» ⟨[Value.bool b, Value.ref y], []⟩) R E s := by
  unfold Builtin.«int.__floordiv__»
  exact wpAny_bind (pylong_noB hy (bin_noB hy hR))
theorem floordivB2 : entryFor table "int.__floordiv__" = some Builtin.«int.__floordiv__» := F.entry_int_floordiv
theorem floordivB3 : argsOk "int.__floordiv__" ⟨[Value.bool b, Value.ref y], []⟩ := F.args_int_floordiv_2 _ _
theorem floordivBd' {B : Builtin} (hB : Builtin.«int.__floordiv__» = B) (h2 : entryFor table "int.__floordiv__" = some B) (hy : s.heap.get? y = some (instObj C dx)) : Declines prog w A E s "floordiv" (Value.bool b) y :=
  decl_ofB (nm := "floordiv") (id := "int.__floordiv__") (B := B) (b := b) F.slot_bool_floordiv h2 floordivB3 (hB ▸ fun E' R hR => floordiv_noB hy hR)
theorem floordivBd (hy : s.heap.get? y = some (instObj C dx)) : Declines prog w A E s "floordiv" (Value.bool b) y := floordivBd' rfl floordivB2 hy
theorem decl_fiveB {op : Operator} (h : Five op) (hy : s.heap.get? y = some (instObj C dx)) : Declines prog w A E s op.info.2 (Value.bool b) y := by
  rcases h with rfl | rfl | rfl | rfl | rfl
  · exact addBd hy
  · exact subBd hy
  · exact mulBd hy
  · exact modBd hy
  · exact floordivBd hy
/-! ### what the built-in types have -/
def nm5 : List String := ["add", "sub", "mul", "mod", "floordiv"]
theorem seven_has : (seven.all fun T => nm5.all fun nm => (fastLookup T (PySem.dunder nm)).isSome && (fastLookup T (dunderR nm)).isSome) = true := by decide +kernel
/-- what no number slot of a type answers -/
def noSlot (T nm : String) : Bool := match fastLookup T (PySem.dunder nm), fastLookup T (dunderR nm) with
  | some fo, some ro => !((fo.isSome && !isSeqSlot fo) || (ro.isSome && !isSeqSlot ro))
  | _, _ => false
theorem seven_no : ((["NoneType", "list", "tuple", "dict"] : List String).all fun T => nm5.all fun nm => noSlot T nm) = true := by decide +kernel
theorem str_noS : ((["add", "sub", "mul", "floordiv"] : List String).all fun nm => noSlot "str" nm) = true := by decide +kernel
theorem five_mem {op : Operator} (h : Five op) : op.info.2 ∈ nm5 := by rcases h with rfl | rfl | rfl | rfl | rfl <;> decide
theorem has_of {op : Operator} (h5 : Five op) (h : T ∈ seven) : (∃ fo, findIn K (.type T) (PySem.dunder op.info.2) = some fo) ∧ ∃ ro, findIn K (.type T) (dunderR op.info.2) = some ro := by
  obtain ⟨a, b⟩ := Bool.and_eq_true_iff.mp (List.all_eq_true.mp (List.all_eq_true.mp seven_has T h) _ (five_mem h5))
  exact ⟨Option.isSome_iff_exists.mp a, Option.isSome_iff_exists.mp b⟩
end
end Oo
namespace Oo
open PySem PySem.Spec PyProof.Rows L2
section
variable {X : Cx} {CX : CXT} {pins : List (Addr × Obj)} {σ : L2.St} {H : Hp} {s : Shared} {C f : Addr} {g : Option Addr} {k : Nat} {sp sq : Sp} {E : XK} {fd gd : FuncData} {ps qs : List Str} {op : Operator}
/-- an own instance on the left, any built-in value on the right -/
def rBinL (C : Addr) (sp : Sp) (E : XK) : R2 := fun x y H Q => ∃ a dx fs T, x = .ref a ∧ H a = some (.ins C dx fs) ∧ Bt H y T ∧ sp [x, y] H Q E
theorem op_binL (h5 : Five op) (B : OwnBin X.K C op.info.2 f g) (F : FnOk X.prog X.w X.K X.mg X.base CX k f fd ps sp) (hb : Binds X.K fd ps []) (hx : Passes CX X E) (hr : Room k X.A) : OpR X (binaryOp op) (rBinL C sp E) := fun pins s σ H x y v u Q I rx ry h => by
  obtain ⟨a, dx, fs, T, rfl, ha, bt, q⟩ := h
  cases (show v = Value.ref a from rx)
  obtain ⟨od, J, _⟩ := inst_at I ha
  obtain ⟨⟨fo, h1⟩, ro, h2⟩ := has_of (K := X.K) h5 bt.mem
  refine bin_of (b1_leftL I.kIn J (bt.is I ry) B.sf B.hs B.hf B.hr ?_ h1 h2 (sub_T bt.mem) (wpAny_mono (run_fn (us := [.ref a, u]) (vs := [.ref a, y]) F hr hb .nil hx I (.cons rfl (.cons ry .nil)) (by simpa using q)) (fun z s' ⟨z', H', I', rz, q⟩ => SlX.cmpback rz ⟨z', H', I', rz, q⟩) fun _ _ z => z))
  cases g with
  | none => exact .inl rfl
  | some a => exact .inr ⟨a, rfl⟩
/-- any built-in value on the left, an own instance on the right; a text is not formatted -/
def rBinR (C : Addr) (sq : Sp) (E : XK) (nm : String) : R2 := fun x y H Q => ∃ b dy gs T, y = .ref b ∧ H b = some (.ins C dy gs) ∧ Bt H x T ∧ (T = "str" → nm ≠ "mod") ∧ sq [y, x] H Q E
theorem op_binR {g : Addr} (h5 : Five op) (B : OwnBin X.K C op.info.2 f (some g)) (G : FnOk X.prog X.w X.K X.mg X.base CX k g gd qs sq) (hb : Binds X.K gd qs []) (p : Plain X.K C) (hx : Passes CX X E) (hr : Room k X.A) : OpR X (binaryOp op) (rBinR C sq E op.info.2) := fun pins s σ H x y v u Q I rx ry h => by
  obtain ⟨b, dy, gs, T, rfl, hb2, bt, nm, q⟩ := h
  cases (show u = Value.ref b from ry)
  obtain ⟨oe, J2, e2⟩ := inst_at I hb2
  obtain ⟨⟨fo, h1⟩, ro, h2⟩ := has_of (K := X.K) h5 bt.mem
  have hr2 : W.findIn X.K (.ref C) (dunderR op.info.2) = some (some (.ref g)) := by rw [B.hr]; rfl
  have off : noSlot T op.info.2 = true → ((fo.isSome && !isSeqSlot fo) || (ro.isSome && !isSeqSlot ro)) = true → Declines X.prog X.w X.A X.xe s op.info.2 v b := fun n z => by
    unfold noSlot at n
    rw [show fastLookup T (PySem.dunder op.info.2) = some fo from h1, show fastLookup T (dunderR op.info.2) = some ro from h2] at n
    dsimp only at n
    rw [z] at n
    cases n
  refine bin_of (b1_rightL I.kIn J2 (bt.is I rx) B.sf B.hs hr2 (B.hg g rfl) h1 h2 (sub_C p (not_obj bt.mem)) ?_ fun t => ?_)
  · cases bt with
    | non => exact off (List.all_eq_true.mp (List.all_eq_true.mp seven_no "NoneType" (by decide)) _ (five_mem h5))
    | bl c =>
      cases (show v = Value.bool c from rx)
      exact fun _ => decl_fiveB h5 e2
    | int i =>
      obtain ⟨t, rfl⟩ := (show ∃ t, v = Value.int i t from rx)
      exact fun _ => decl_five h5 e2
    | str z =>
      refine off (List.all_eq_true.mp str_noS _ ?_)
      have := nm rfl
      rcases h5 with rfl | rfl | rfl | rfl | rfl
      · decide
      · decide
      · decide
      · exact absurd rfl this
      · decide
    | lst e => exact off (List.all_eq_true.mp (List.all_eq_true.mp seven_no "list" (by decide)) _ (five_mem h5))
    | tup e => exact off (List.all_eq_true.mp (List.all_eq_true.mp seven_no "tuple" (by decide)) _ (five_mem h5))
    | dK e => exact off (List.all_eq_true.mp (List.all_eq_true.mp seven_no "dict" (by decide)) _ (five_mem h5))
  · have I2 : Inv X pins σ H { s with toks := t } := I.tok t
    exact wpAny_mono (run_fn (us := [.ref b, v]) (vs := [.ref b, x]) G hr hb .nil hx I2 (.cons rfl (.cons rx .nil)) (by simpa using q)) (fun z s' ⟨z', H', I', rz, q⟩ => SlX.cmpback rz ⟨z', H', I', rz, q⟩) fun _ _ z => z
end
end Oo

set_option Elab.async false
set_option linter.all false
set_option maxRecDepth 100000
set_option maxHeartbeats 1000000
/-! == and != of an own instance and any value. -/
namespace Oo
open PySem PySem.Spec PySem.W PyProof.Rows
section
variable {prog : Program} {w : World} {A : Around} {E : Value → Shared → Prop} {s : Shared} {K : Frag} {x C f : Addr} {B : String} {bm : List Value} {b : Value} {T : String}
/-- what the own == says of b, turned -/
def Turned (prog : Program) (w : World) (A : Around) (E : Value → Shared → Prop) (f x : Addr) (b : Value) (R : Bool → Shared → Prop) (s : Shared) : Prop :=
  wpAny (model prog w) A (call (.ref f) [.ref x, b]) (fun v s' => ∃ c, v = .bool c ∧ R (!c) s') E s
theorem ne_entry {Q : Fin → Shared → Prop} (X : s.heap.OwnEqNoNe x C f B bm) (hu : A.units < cLine) (go : Turned prog w A E f x b (fun c s' => Q (.done (.ret (.bool c))) s') s) :
    wpAny (model prog w) A (Builtin.«object.__ne__» ⟨[.ref x, b], []⟩) Q E s := by
  obtain ⟨h, g, d, t, os⟩ := s
  have own := X.ownEq
  have first := wpAny_callSpecialIfBound?_own (A := A) (E := E) (M := model prog w) (args := [b]) (g := g) (d := d) (t := t) (os := os) own (Q := fun r s' => ∃ c, r = some (.bool c) ∧ Q (.done (.ret (.bool (!c)))) s')
    (wpAny_mono go (fun r s' hr => let ⟨c, e, q⟩ := hr; ⟨c, by rw [e], q⟩) fun _ _ e => e)
  unfold Builtin.«object.__ne__»
  repeat (first
    | with_reducible refine wpAny_cRoomFor hu ?_
    | (refine wpAny_bind (m := callSpecialIfBound? (.ref x) (Str.ofString "__eq__") [b]) (wpAny_mono first (fun r s' hr => by
        obtain ⟨c, rfl, hq⟩ := hr
        repeat (first | exact hq | exact wpAny_pure hq | exact wpAny_truthy_bool hq | (refine wpAny_bind (m := truthy (.bool _)) (wpAny_truthy_bool ?_)) | wp_step)) fun _ _ e => e))
    | wp_step)
theorem ne_try {Q : Option Value → Shared → Prop} (FB : CmpFacts B bm) (X : s.heap.OwnEqNoNe x C f B bm) (hu : A.units + 1 < cLine) (go : Turned prog w A.in1 E f x b (fun c s' => Q (some (.bool c)) s') s) :
    wpAny (model prog w) A (tryCompare (.ref x) "__ne__" b) Q E s := by
  obtain ⟨h, g, d, t, os⟩ := s
  obtain ⟨o, of, nm, q, N, bs, hdct, sn, sub, ab, col, dd, k0, k1, k2, k3, k5, nid, mN, yv, p1, p2, p3, p4, _, _, _, _, _, p5⟩ := id X
  simp only [tryCompare]
  have body : ∀ (R : Fin → Shared → Prop) (E' : Value → Shared → Prop), (∀ c s', Q (some (.bool c)) s' → R (.done (.ret (.bool c))) s') → (∀ e s', E e s' → E' e s') → wpAny (model prog w) A.in1 (Builtin.«object.__ne__» ⟨[.ref x, b], []⟩) R E' ⟨h, g, d, t, os⟩ := fun R E' hR hE =>
    ne_entry (A := A.in1) X hu (wpAny_mono go (fun v s' hv => let ⟨c, e, hq⟩ := hv; ⟨c, e, hR _ _ hq⟩) hE)
  refine wpAny_bind (wpAny_callSpecialIfBound?_inst p1 p2 p3 p4 p5 FB.mro FB.ne (wpAny_call (codeAny_call_builtin FB.ne.plain F.cmpEntry_ne
    (wpAny_check_slot_inst F.cmpKind_ne F.cmpSplit_ne (F.cmpArgs_ne _ _) FB.hasObject p1 p2 p3 (body _ _ (fun c s' hq => ?_) fun e s' z => z)))))
  first | exact wpAny_pure hq | exact wpAny_pure (wpAny_pure hq) | exact hq
theorem ne_rich {Q : Value → Shared → Prop} (FB : CmpFacts B bm) (X : s.heap.OwnEqNoNe x C f B bm) (hT : s.TypeIs b T) (sub : subIn K (.type T) (.ref C) = some false) (kin : K.In s.heap) (hu : A.units + 1 < cLine)
    (go : Turned prog w A.in1 E f x b (fun c s' => Q (.bool c) s') s) : wpAny (model prog w) A (richCompare .NotEq (.ref x) b) Q E s := by
  obtain ⟨h, g, d, t, os⟩ := s
  obtain ⟨o, of, nm, q, N, bs, hdct, sn, sb, ab, col, dd, k0, k1, k2, k3, k5, nid, mN, yv, p1, p2, _⟩ := id X
  unfold richCompare
  simp only [oneThing_ref]
  refine wpAny_holding (wpAny_bind (wpAny_cRoomFor (Nat.lt_of_succ_lt hu) ?_))
  rw [cmpInfo_NotEq]
  dsimp only
  refine wpAny_bind (wpAny_typeOf_ref p1 ?_)
  rw [p2]
  refine wpAny_bind (wpAny_typeOf hT ?_)
  have ne : (Value.ref C != Value.type T) = true := rfl
  simp only [ne, if_true]
  refine wpAny_bind ((looks_subIn kin sub).here ?_)
  simp only [Bool.false_eq_true, if_false]
  refine wpAny_bind (wpAny_mono (ne_try (Q := fun r s' => ∃ c, r = some (.bool c) ∧ Q (.bool c) s') FB X hu (wpAny_mono go (fun v s' hv => ?_) fun _ _ e => e)) (fun r s' hr => ?_) fun _ _ e => e)
  · obtain ⟨c, rfl, hq⟩ := hv
    exact ⟨c, rfl, _, rfl, hq⟩
  · obtain ⟨c, rfl, hq⟩ := hr
    exact wpAny_pure hq
end
end Oo

set_option Elab.async false
set_option linter.all false
set_option maxRecDepth 100000
set_option maxHeartbeats 1000000
set_option exponentiation.threshold 9000
/-! What is no number is refused. -/
namespace KA
open PySem PySem.Spec PyProof.Rows L2 Oo Gd Am
/-- refused: the error of the class at Wc, which tells v, lies in a heap where all stands on -/
def RefV (Wc : Addr) (v : V) (H : Hp) (E : XK) : Prop := ∀ (d : Addr) (H' : Hp), Am.Ext H H' → H d = none → H' d = some (.xd [("value", v)]) → E (.ref Wc) (some d) H'
theorem RefV.on {Wc : Addr} {v : V} {H H1 : Hp} {E : XK} (r : RefV Wc v H E) (e : Am.Ext H H1) : RefV Wc v H1 E := fun d H' x n h => r d H' (e.trans x) (e.gone n) h
theorem RefV.here {Wc : Addr} {v : V} {H : Hp} {E : XK} (r : RefV Wc v H E) : ∀ e d, H e = none → H d = none → d ≠ e → E (.ref Wc) (some d) (Gx.leftH H Wc e d [("value", v)]) := fun e d he hd ne => by
  obtain ⟨x1, x2⟩ := left_ext (Z := Wc) (fs := [("value", v)]) he hd
  exact r d _ x1 hd x2
/-- what the text says of an error that tells a value -/
structure Wr (K : W.Frag) (mg : Str → Option Value) (x : Str) (Wc : Addr) : Prop where
  e1 : Ge.E1 K Wc "value"
  mgW : mg x = some (.ref Wc)
  rs : ∀ {X : Cx}, X.K = K → Raises X (.ref Wc)
/-- no INTEGER, no Amount -/
def Odd (H : Hp) (v : V) : Prop := ∃ T, Bt H v T ∧ T ≠ "int"
theorem Odd.ext {H H' : Hp} {v : V} (o : Odd H v) (e : Am.Ext H H') : Odd H' v := let ⟨T, b, n⟩ := o; ⟨T, b.ext e, n⟩
/-- the class stands right below object -/
structure Kc (K : W.Frag) (C : Addr) : Prop where
  ks : (W.clsIn K C).isSome = true
  kt : W.typeIn K (.ref C) = some (.type "type")
  pl : Plain K C
theorem never_op {X : Cx} {f : Value → Value → Sem Value} : OpR X f (fun _ _ _ _ => False) := fun _ _ _ _ _ _ _ _ _ _ _ _ h => h.elim
theorem never_un {X : Cx} {f : Value → Sem Value} : UnR X f (fun _ _ _ => False) := fun _ _ _ _ _ _ _ _ _ h => h.elim
section
variable {P : Program} {w : World} {K : W.Frag} {mg : Str → Option Value} {base : Heap} {C Wc f : Addr} {fd : FuncData}
def spWholeO : Sp := fun vs H Q _ => ∃ v, vs = [v] ∧ Odd H v ∧ Q (.bl false) H
theorem ok_wholeO (fr : Frees mg) (F : Fun K "is_whole" "is_whole" (top 9) f fd) : FnOk P w K mg base CX0 1 f fd ["value"] spWholeO := by
  refine F.ok scWhole (fun vs H Q E h => ?_) (fun cdv A outer s H vs Q E hr h => ?_)
  · obtain ⟨v, rfl, _⟩ := h
    rfl
  · obtain ⟨v, rfl, ⟨T, bt, ni⟩, q⟩ := h
    refine ⟨_, pss_one (ps_ret (pe_and (pe_callB call_isi rfl (fr.h _ (by decide +kernel)) (by decide +kernel) (pa_cons (pv 0) (pa_cons (pe_bltn (v := V.ty "int") rfl (fr.h _ (by decide +kernel)) (by rfl) rfl) pa_nil)))
      (pe_one (pe_not (pe_callB call_isi rfl (fr.h _ (by decide +kernel)) (by decide +kernel) (pa_cons (pv 0) (pa_cons (pe_bltn (v := V.ty "bool") rfl (fr.h _ (by decide +kernel)) (by rfl) rfl) pa_nil))))))), ?_⟩
    cases bt with
    | int i => exact absurd rfl ni
    | bl b =>
      refine ⟨_, rfl, _, _, _, _, true, rfl, ClsV.ty "int", TyX.base (TyOf.bl b), kit_ty (by decide +kernel), true, rfl, ?_⟩
      exact ⟨_, rfl, _, _, _, _, true, rfl, ClsV.ty "bool", TyX.base (TyOf.bl b), kit_ty (by decide +kernel), true, rfl, q⟩
    | non => exact ⟨_, rfl, _, _, _, _, false, rfl, ClsV.ty "int", TyX.base TyOf.non, kit_ty (by decide +kernel), false, rfl, q⟩
    | str z => exact ⟨_, rfl, _, _, _, _, false, rfl, ClsV.ty "int", TyX.base (TyOf.str z), kit_ty (by decide +kernel), false, rfl, q⟩
    | lst e => exact ⟨_, rfl, _, _, _, _, false, rfl, ClsV.ty "int", TyX.base (TyOf.lst e), kit_ty (by decide +kernel), false, rfl, q⟩
    | tup e => exact ⟨_, rfl, _, _, _, _, false, rfl, ClsV.ty "int", TyX.base (TyOf.tup e), kit_ty (by decide +kernel), false, rfl, q⟩
    | dK e => exact ⟨_, rfl, _, _, _, _, false, rfl, ClsV.ty "int", TyX.base (TyOf.dK e), kit_ty (by decide +kernel), false, rfl, q⟩
theorem ok_countO (DW : Dn P w K mg base CX0 1 "is_whole" ["value"] spWholeO) (F : Fun K "is_count" "is_count" (top 10) f fd) : FnOk P w K mg base CX0 2 f fd ["value"] spWholeO := by
  refine F.ok scCount (fun vs H Q E h => ?_) (fun cdv A outer s H vs Q E hr h => ?_)
  · obtain ⟨v, rfl, _⟩ := h
    rfl
  · obtain ⟨v, rfl, od, q⟩ := h
    refine ⟨_, pss_one (ps_ret (pe_and (pe_dn DW hr (by rfl) (by decide) (pa_cons (pv 0) pa_nil)) (pe_one (pe_cmpR op_ge (pv 0) pe_int (nomark _))))), ?_⟩
    exact ⟨_, rfl, v, rfl, od, false, rfl, q⟩
/-! ### __init__, of -/
def spInitO (C Wc : Addr) : Sp := fun vs H Q E => ∃ x dx v d, vs = [.ref x, v, d] ∧ H x = some (.ins C dx []) ∧ Odd H v ∧ RefV Wc v H E
theorem ok_initO (DW : Dn P w K mg base CX0 1 "is_whole" ["value"] spWholeO) (WR : Wr K mg "InvalidAmount" Wc) (F : FunI K f fd) : FnOk P w K mg base (L2.CX P w) 2 f fd ["self", "top", "bottom"] (spInitO C Wc) := by
  refine F.ok (CX := L2.CX P w) scInit (fun vs H Q E h => ?_) (fun cdv A outer s H vs Q E hr h => ?_)
  · obtain ⟨x, dx, v, d, rfl, _⟩ := h
    rfl
  · obtain ⟨x, dx, v, d, rfl, hx, od, rv⟩ := h
    refine ⟨_, pss_cons (ps_if (pt_not (pt_val (pe_dn DW hr (by rfl) (by decide) (pa_cons (pv 1) pa_nil)))) (pss_one (ps_raise rfl (takes_of rfl rfl rfl rfl) (Gx.pmk1 WR.e1 (WR.rs rfl) hr rfl WR.mgW (pa_cons (pv 1) pa_nil)))) pss_nil) pss_never, ?_⟩
    exact ⟨_, rfl, v, rfl, od, _, rfl, iteT ⟨_, rfl, _, rfl, rv.here⟩⟩
structure BaseO (P : Program) (w : World) (K : W.Frag) (mg : Str → Option Value) (base : Heap) (C Wc : Addr) : Prop where
  mgA : mg "Amount" = some (.ref C)
  make : ∃ fI fd, Mk K C fI ∧ FnOk P w K mg base (L2.CX P w) 2 fI fd ["self", "top", "bottom"] (spInitO C Wc) ∧ ∃ ds, Vals [V.int 1] ds ∧ Binds K fd ["self", "top", "bottom"] ds
def tMkO (Wc : Addr) (E : XK) (t : TA) : TE := fun σ H Q => t σ H fun vs H1 => ∃ v, vs = [v] ∧ Odd H1 v ∧ RefV Wc v H1 E
end
section
variable {X : Cx} {C Wc : Addr} {p pos : Pos} {e : Expr} {es : List Expr} {t : TA} {E : XK}
theorem pe_mkO (B : BaseO X.prog X.w X.K X.mg X.base C Wc) (hr : Room 3 X.A) (hg : Gl X "Amount") (hx : Passes (L2.CX X.prog X.w) X E) (ha : PA X (e :: es) t) (he : starEach (e :: es) X.env = (false, eval e X.env) :: starEach es X.env := by rfl) (hpl : (backTo pos (starEach es X.env)).any (·.1) = false := by rfl) :
    PE X (.Call (.Name "Amount" p) (e :: es) [] pos) (tMkO Wc E t) := by
  obtain ⟨fI, fd, M, F, ds, hv, b1⟩ := B.make
  refine ⟨fun pins s σ H Q I h => ?_⟩
  refine wpAny_Call_Name_kw (ld_glob I hg B.mgA ?_ (by decide))
  refine PySem.W.callWith_K (h₀ := X.base) I.ok.mod.kin M.kp (thn (ha.run pos pins s σ H _ I h) fun us s1 ⟨vs, H1, I1, r, v, ev, od, rv⟩ => ⟨I1.kIn, ?_⟩) he hpl
  subst ev
  refine run_make (E := E) M F hr b1 hv hx I1 r fun x dx hx hdx ne => ?_
  have ex : Am.Ext H1 (upd (upd H1 dx (.own x)) x (.ins C dx [])) := fun b u e => by
    have nx := ne_of_none e hx
    rw [upd_ne nx, upd_ne (ne_of_none e hdx)]
    exact e
  exact ⟨x, dx, v, .int 1, rfl, upd_same, od.ext ex, rv.on ex⟩
end
section
variable {P : Program} {w : World} {K : W.Frag} {mg : Str → Option Value} {base : Heap} {C Wc f : Addr} {fd : FuncData}
def spOfO (Wc : Addr) : Sp := fun vs H Q E => ∃ v, vs = [v] ∧ Odd H v ∧ RefV Wc v H E
theorem ok_ofO (fr : Frees mg) (B : BaseO P w K mg base C Wc) (kc : Kc K C) (F : Fun K "of" "Amount.of" (am 1) f fd) : FnOk P w K mg base (L2.CX P w) 4 f fd ["number"] (spOfO Wc) := by
  refine F.okX scOf (fun vs H Q E h => ?_) (fun cdv A outer s H vs Q E hr h => ?_)
  · obtain ⟨v, rfl, _⟩ := h
    rfl
  · obtain ⟨v, rfl, od, rv⟩ := h
    refine ⟨_, pss_cons (ps_if (pt_val (pe_callB call_isi rfl (fr.h _ (by decide +kernel)) (by decide +kernel) (pa_cons (pv 0) (pa_cons (pe_glob (v := V.ref C) rfl B.mgA rfl) pa_nil)))) (pss_one (ps_ret (pv 0))) pss_nil)
      (pss_one (ps_ret (pe_mkO (E := E) B hr rfl (passes_call (takes_of rfl rfl rfl rfl) fun _ _ _ _ h => h) (pa_cons (pv 0) pa_nil)))), ?_⟩
    obtain ⟨T, bt, ni⟩ := id od
    exact ⟨_, rfl, _, _, _, _, false, rfl, ClsV.own C, bt.ty, kit_no bt.mem kc.ks kc.kt, _, rfl, iteF ⟨_, rfl, v, rfl, od, rv⟩⟩
structure OfO (P : Program) (w : World) (K : W.Frag) (mg : Str → Option Value) (base : Heap) (C Wc : Addr) : Prop where
  mgA : mg "Amount" = some (.ref C)
  of : ∃ mc p g fd, ClX.CRead K C mc ∧ SMet K C mc "of" p g ∧ FnOk P w K mg base (L2.CX P w) 4 g fd ["number"] (spOfO Wc) ∧ Binds K fd ["number"] []
end
section
variable {X : Cx} {C Wc : Addr} {p pos apos : Pos} {e o : Expr} {t : TA} {ta : TE} {E : XK}
theorem pe_ofO (O : OfO X.prog X.w X.K X.mg X.base C Wc) (hr : Room 4 X.A) (hx : Passes (L2.CX X.prog X.w) X E) (ho : PE X o ta) (ha : PA X [e] t) {pl : Sem Bool}
    (hst : starEach [e] X.env = (false, eval e X.env) :: starEach [] X.env := by rfl) (hpl : (backTo pos (starEach [] X.env)).any (·.1) = false := by rfl)
    (ht : eval (.Call (.Attribute o "of" apos) [e] [] pos) X.env = (do
      let ov ← eval o X.env
      standAt apos.atName
      let (f, first) ← holding [ov] (getMethod ov "of" pl)
      callWith pos f first (backTo pos (starEach [e] X.env)) (backToKw pos (keywordEach [] X.env))) := by rfl) : PE X (.Call (.Attribute o "of" apos) [e] [] pos) (tSMeth C (spOfO Wc) E ta t) := by
  obtain ⟨mc, p, g, fd, R, S, F, b⟩ := O.of
  exact pe_smeth (pl := pl) ho R S F b hr hx ha hst hpl ht
end
section
variable {P : Program} {w : World} {K : W.Frag} {mg : Str → Option Value} {base : Heap} {C Wc f : Addr} {fd : FuncData}
/-- a method of two, refused what is no number -/
def spOpO (C Wc : Addr) : Sp := fun vs H Q E => ∃ a y q, vs = [.ref a, y] ∧ Is C H a q ∧ Odd H y ∧ RefV Wc y H E
theorem ok_subO (O : OfO P w K mg base C Wc) (F : Fun K "__sub__" "Amount.__sub__" (am 8) f fd) : FnOk P w K mg base (L2.CX P w) 6 f fd ["self", "other"] (spOpO C Wc) := by
  refine F.okX scSub (fun vs H Q E h => ?_) (fun cdv A outer s H vs Q E hr h => ?_)
  · obtain ⟨a, y, q, rfl, _⟩ := h
    rfl
  · obtain ⟨a, y, q, rfl, ia, od, rv⟩ := h
    have h4 := hr.mono (show 4 ≤ 5 by decide)
    refine ⟨_, pss_one (ps_ret (pe_op never_op (pv 0) (pe_un never_un (pe_ofO (E := E) O h4 (passes_call (takes_of rfl rfl rfl rfl) fun _ _ _ _ h => h) (pe_glob (v := V.ref C) rfl O.mgA rfl) (pa_cons (pv 1) pa_nil))))), ?_⟩
    exact ⟨_, rfl, rfl, _, rfl, y, rfl, od, rv⟩
theorem ok_overO (O : OfO P w K mg base C Wc) (F : Fun K "over" "Amount.over" (am 12) f fd) : FnOk P w K mg base (L2.CX P w) 5 f fd ["self", "other"] (spOpO C Wc) := by
  refine F.okX scOver (fun vs H Q E h => ?_) (fun cdv A outer s H vs Q E hr h => ?_)
  · obtain ⟨a, y, q, rfl, _⟩ := h
    rfl
  · obtain ⟨a, y, q, rfl, ia, od, rv⟩ := h
    have nd := scOver.nd
    refine ⟨_, pss_cons (ps_set (i := 2) nd rfl (.inl rfl) (pe_ofO (E := E) O hr (passes_call (takes_of rfl rfl rfl rfl) fun _ _ _ _ h => h) (pe_glob (v := V.ref C) rfl O.mgA rfl) (pa_cons (pv 1) pa_nil))) pss_never, ?_⟩
    exact ⟨rfl, _, rfl, y, rfl, od, rv⟩
theorem ok_modO (O : OfO P w K mg base C Wc) (F : Fun K "__mod__" "Amount.__mod__" (am 15) f fd) : FnOk P w K mg base (L2.CX P w) 5 f fd ["self", "other"] (spOpO C Wc) := by
  refine F.okX scMod (fun vs H Q E h => ?_) (fun cdv A outer s H vs Q E hr h => ?_)
  · obtain ⟨a, y, q, rfl, _⟩ := h
    rfl
  · obtain ⟨a, y, q, rfl, ia, od, rv⟩ := h
    have nd := scMod.nd
    refine ⟨_, pss_cons (ps_set (i := 2) nd rfl (.inl rfl) (pe_ofO (E := E) O hr (passes_call (takes_of rfl rfl rfl rfl) fun _ _ _ _ h => h) (pe_glob (v := V.ref C) rfl O.mgA rfl) (pa_cons (pv 1) pa_nil))) pss_never, ?_⟩
    exact ⟨rfl, _, rfl, y, rfl, od, rv⟩
theorem ok_rfdO (O : OfO P w K mg base C Wc) (F : Fun K "__rfloordiv__" "Amount.__rfloordiv__" (am 14) f fd) : FnOk P w K mg base (L2.CX P w) 5 f fd ["self", "other"] (spOpO C Wc) := by
  refine F.okX scRfd (fun vs H Q E h => ?_) (fun cdv A outer s H vs Q E hr h => ?_)
  · obtain ⟨a, y, q, rfl, _⟩ := h
    rfl
  · obtain ⟨a, y, q, rfl, ia, od, rv⟩ := h
    refine ⟨_, pss_one (ps_ret (pe_op never_op (pe_ofO (E := E) O hr (passes_call (takes_of rfl rfl rfl rfl) fun _ _ _ _ h => h) (pe_glob (v := V.ref C) rfl O.mgA rfl) (pa_cons (pv 1) pa_nil)) (pv 0))), ?_⟩
    exact ⟨rfl, _, rfl, y, rfl, od, rv⟩
structure OverO (P : Program) (w : World) (K : W.Frag) (mg : Str → Option Value) (base : Heap) (C Wc : Addr) : Prop where
  of : ∃ f fd, Meth K C "over" f ∧ FnOk P w K mg base (L2.CX P w) 5 f fd ["self", "other"] (spOpO C Wc) ∧ Binds K fd ["self", "other"] []
theorem ok_fdO (cl : Cls K C) (V1 : OverO P w K mg base C Wc) (F : Fun K "__floordiv__" "Amount.__floordiv__" (am 13) f fd) : FnOk P w K mg base (L2.CX P w) 6 f fd ["self", "other"] (spOpO C Wc) := by
  refine F.okX scFd (fun vs H Q E h => ?_) (fun cdv A outer s H vs Q E hr h => ?_)
  · obtain ⟨a, y, q, rfl, _⟩ := h
    rfl
  · obtain ⟨a, y, q, rfl, ia, od, rv⟩ := h
    have nd := scFd.nd
    obtain ⟨fo, fdo, hm, G, b⟩ := V1.of
    refine ⟨_, pss_cons (ps_set (i := 2) nd rfl (.inl rfl) (pe_meth (pv 0) cl hm G hr b .nil (passes_call (takes_of rfl rfl rfl rfl) fun _ _ _ _ h => h) (pa_cons (pv 1) pa_nil))) pss_never, ?_⟩
    obtain ⟨dx, ea⟩ := id ia
    exact ⟨_, rfl, a, dx, _, rfl, ea, no_over q, _, rfl, a, y, q, rfl, ia, od, rv⟩
/-! ### **, rounded, == -/
def spPowO (C Wc : Addr) : Sp := fun vs H Q E => ∃ a q i, vs = [.ref a, .int i] ∧ Is C H a q ∧ 12 < i ∧ RefV Wc (.int i) H E
theorem ok_powO {t : Tok} (DC : Dn P w K mg base CX0 2 "is_count" ["value"] spCount) (WR : Wr K mg "InvalidAmount" Wc) (mgP : mg "MOST_POWER" = some (.int 12 t)) (F : Fun K "__pow__" "Amount.__pow__" (am 17) f fd) :
    FnOk P w K mg base (L2.CX P w) 3 f fd ["self", "other"] (spPowO C Wc) := by
  refine F.okX scPow (fun vs H Q E h => ?_) (fun cdv A' outer s H vs Q E hr h => ?_)
  · obtain ⟨a, q, i, rfl, _⟩ := h
    rfl
  · obtain ⟨a, q, i, rfl, ia, i12, rv⟩ := h
    refine ⟨_, pss_cons (ps_if (PW.pt (pw_or (pt_not (pt_val (pe_dn DC hr (by rfl) (by decide) (pa_cons (pv 1) pa_nil)))) (pw_or1 (pt_cmpR op_gt (pv 1) (pe_glob (v := V.int 12) rfl mgP ⟨t, rfl⟩) (nomark _))))) (pss_one (ps_raise rfl (takes_of rfl rfl rfl rfl) (Gx.pmk1 WR.e1 (WR.rs rfl) hr rfl WR.mgW (pa_cons (pv 1) pa_nil)))) pss_nil) pss_never, ?_⟩
    refine ⟨_, rfl, i, rfl, _, rfl, ?_⟩
    rw [decide_eq_true (show (0 : Int) ≤ i by omega)]
    exact iteF ⟨_, rfl, _, _, rfl, rfl, _, rfl, ite2 (fun _ => ⟨_, rfl, _, rfl, rv.here⟩) (fun h => absurd (decide_eq_true (show (12 : Int) < i from i12)) h)⟩
def spRndO (C Wc : Addr) : Sp := fun vs H Q E => ∃ a q v, vs = [.ref a, v] ∧ Is C H a q ∧ (Odd H v ∨ ∃ i, v = .int i ∧ (i < 0 ∨ 12 < i)) ∧ RefV Wc v H E
theorem ok_rndO {t : Tok} (DC : Dn P w K mg base CX0 2 "is_count" ["value"] spCount) (DO : Dn P w K mg base CX0 2 "is_count" ["value"] spWholeO) (WR : Wr K mg "InvalidCount" Wc) (mgP : mg "MOST_PLACES" = some (.int 12 t)) (F : Fun K "rounded" "Amount.rounded" (am 28) f fd) :
    FnOk P w K mg base (L2.CX P w) 3 f fd ["self", "places"] (spRndO C Wc) := by
  refine F.okX scRnd (fun vs H Q E h => ?_) (fun cdv A' outer s H vs Q E hr h => ?_)
  · obtain ⟨a, q, v, rfl, _⟩ := h
    rfl
  · obtain ⟨a, q, v, rfl, ia, od | ⟨i, rfl, hi⟩, rv⟩ := h
    · refine ⟨_, pss_cons (ps_if (PW.pt (pw_or (pt_not (pt_val (pe_dn DO hr (by rfl) (by decide) (pa_cons (pv 1) pa_nil)))) (pw_or1 (pt_cmpR op_gt (pv 1) (pe_glob (v := V.int 12) rfl mgP ⟨t, rfl⟩) (nomark _))))) (pss_one (ps_raise rfl (takes_of rfl rfl rfl rfl) (Gx.pmk1 WR.e1 (WR.rs rfl) hr rfl WR.mgW (pa_cons (pv 1) pa_nil)))) pss_nil) pss_never, ?_⟩
      exact ⟨_, rfl, v, rfl, od, _, rfl, iteT ⟨_, rfl, _, rfl, rv.here⟩⟩
    · refine ⟨_, pss_cons (ps_if (PW.pt (pw_or (pt_not (pt_val (pe_dn DC hr (by rfl) (by decide) (pa_cons (pv 1) pa_nil)))) (pw_or1 (pt_cmpR op_gt (pv 1) (pe_glob (v := V.int 12) rfl mgP ⟨t, rfl⟩) (nomark _))))) (pss_one (ps_raise rfl (takes_of rfl rfl rfl rfl) (Gx.pmk1 WR.e1 (WR.rs rfl) hr rfl WR.mgW (pa_cons (pv 1) pa_nil)))) pss_nil) pss_never, ?_⟩
      refine ⟨_, rfl, i, rfl, _, rfl, ?_⟩
      by_cases h0 : 0 ≤ i
      · rw [decide_eq_true h0]
        refine iteF ⟨_, rfl, _, _, rfl, rfl, _, rfl, ite2 (fun _ => ⟨_, rfl, _, rfl, rv.here⟩) (fun h => absurd (decide_eq_true (show (12 : Int) < i by omega)) h)⟩
      · rw [decide_eq_false h0]
        exact iteT ⟨_, rfl, _, rfl, rv.here⟩
def spEqO (C : Addr) : Sp := fun vs H Q _ => ∃ a y q T, vs = [.ref a, y] ∧ Is C H a q ∧ Bt H y T ∧ Q (.bl false) H
end
end KA

set_option Elab.async false
set_option linter.all false
set_option maxRecDepth 100000
set_option maxHeartbeats 1000000
set_option exponentiation.threshold 9000
/-! Comparisons of Amounts. -/
namespace KA
open PySem PySem.Spec PyProof.Rows L2 Oo Gd Am
theorem ltz (q p : Rat) : (q - p).num.sign < 0 ↔ q < p := by
  rw [Int.sign_neg_iff, ← Int.not_le, Rat.num_nonneg, ← Rat.le_iff_sub_nonneg, Rat.not_le]
theorem gtz (q p : Rat) : 0 < (q - p).num.sign ↔ p < q := by
  rw [Int.sign_pos_iff, ← ltz p q, Int.sign_neg_iff, ← Rat.neg_sub]
  show 0 < (-(p - q)).num ↔ _
  rw [show (-(p - q)).num = -(p - q).num from rfl]
  omega
theorem lez (q p : Rat) : (q - p).num.sign ≤ 0 ↔ q ≤ p := by
  rw [← Int.not_lt, gtz, Rat.not_lt]
theorem gez (q p : Rat) : 0 ≤ (q - p).num.sign ↔ p ≤ q := by
  rw [← Int.not_lt, ltz, Rat.not_lt]
/-- o.f of what is not reached -/
theorem pe_fld0 {X : Cx} {o : Expr} {to : TE} {f : Str} {pos : Pos} (he : PE X o to) (hb : attributeBase o f X.env (eval o X.env) = eval o X.env := by rfl) : PE X (.Attribute o f pos) (fun σ H Q => to σ H fun _ _ => False) :=
  ⟨fun pins s σ H Q I h => attr_of hb (thn (he.run pins s σ H _ I h) fun u s1 ⟨_, _, _, _, z⟩ => z.elim)⟩
section
variable {P : Program} {w : World} {K : W.Frag} {mg : Str → Option Value} {base : Heap} {C Wc f : Addr} {fd : FuncData}
def spCmp (C : Addr) (g : Rat → Rat → Bool) : Sp := fun vs H Q _ => ∃ a y q p, vs = [.ref a, y] ∧ Is C H a q ∧ Num C H y p ∧ Sz q ∧ Sz p ∧ ∀ H', Am.Ext H H' → Q (.bl (g q p)) H'
/-- x - y, y no number -/
structure SubO (P : Program) (w : World) (K : W.Frag) (mg : Str → Option Value) (base : Heap) (C Wc : Addr) : Prop where
  of : ∃ f g fd ps, OwnBin K C (Operator.Sub).info.2 f g ∧ FnOk P w K mg base (L2.CX P w) 6 f fd ps (spOpO C Wc) ∧ Binds K fd ps []
theorem op_sO {X : Cx} {E : XK} (S : SubO X.prog X.w X.K X.mg X.base C Wc) (hx : Passes (L2.CX X.prog X.w) X E) (hr : Room 6 X.A) : OpR X (binaryOp .Sub) (rBinL C (spOpO C Wc) E) := by
  obtain ⟨f, g, fd, ps, B, F, b⟩ := S.of
  exact op_binL (.inr (.inl rfl)) B F b hx hr
theorem sc_lt : FnScope ["self", "other"] ["self", "other"] (defScope (am 22)) := ⟨rfl, rfl, rfl, by decide +kernel, rfl, by decide +kernel, by decide +kernel⟩
theorem ok_lt (B : Base P w K mg base C) (S : Op P w K mg base C (Operator.Sub).info.2 6 fun q p => q - p) (F : Fun K "__lt__" "Amount.__lt__" (am 22) f fd) : FnOk P w K mg base CX0 7 f fd ["self", "other"] (spCmp C fun q p => decide (q < p)) := by
  refine F.ok sc_lt (fun vs H Q E h => ?_) (fun cdv A outer s H vs Q E hr h => ?_)
  · obtain ⟨a, y, q, p, rfl, _⟩ := h
    rfl
  · obtain ⟨a, y, q, p, rfl, ia, ny, sq, sp, z⟩ := h
    have h2 := hr.mono (show 2 ≤ 6 by decide)
    refine ⟨_, pss_one (ps_ret (pe_cmpR op_lt (pe_pSgn B h2 (pe_op (op_O S hr) (pv 0) (pv 1))) pe_int (nomark _))), ?_⟩
    refine ⟨_, rfl, _, rfl, a, q, p, rfl, ia, ny, sq, sp, fun r H1 e1 n1 i1 => ⟨r, q - p, rfl, i1, _, _, rfl, rfl, ?_⟩⟩
    show Q (.bl (decide ((q - p).num.sign < 0))) H1
    rw [show decide ((q - p).num.sign < 0) = decide (q < p) from decide_eq_decide.mpr (ltz q p)]
    exact z H1 e1
theorem ok_ltO (S : SubO P w K mg base C Wc) (F : Fun K "__lt__" "Amount.__lt__" (am 22) f fd) : FnOk P w K mg base (L2.CX P w) 7 f fd ["self", "other"] (spOpO C Wc) := by
  refine F.okX sc_lt (fun vs H Q E h => ?_) (fun cdv A outer s H vs Q E hr h => ?_)
  · obtain ⟨a, y, q, rfl, _⟩ := h
    rfl
  · obtain ⟨a, y, q, rfl, ia, od, rv⟩ := h
    refine ⟨_, pss_one (ps_ret (pe_cmpR op_lt (pe_fld0 (f := "sign") (pe_op (op_sO (E := E) S (passes_call (takes_of rfl rfl rfl rfl) fun _ _ _ _ h => h) hr) (pv 0) (pv 1))) pe_int (nomark _))), ?_⟩
    obtain ⟨T, bt, ni⟩ := id od
    obtain ⟨dx, ea⟩ := id ia
    exact ⟨_, rfl, _, rfl, a, dx, _, T, rfl, ea, bt, a, y, q, rfl, ia, od, rv⟩
theorem sc_le : FnScope ["self", "other"] ["self", "other"] (defScope (am 23)) := ⟨rfl, rfl, rfl, by decide +kernel, rfl, by decide +kernel, by decide +kernel⟩
theorem ok_le (B : Base P w K mg base C) (S : Op P w K mg base C (Operator.Sub).info.2 6 fun q p => q - p) (F : Fun K "__le__" "Amount.__le__" (am 23) f fd) : FnOk P w K mg base CX0 7 f fd ["self", "other"] (spCmp C fun q p => decide (q ≤ p)) := by
  refine F.ok sc_le (fun vs H Q E h => ?_) (fun cdv A outer s H vs Q E hr h => ?_)
  · obtain ⟨a, y, q, p, rfl, _⟩ := h
    rfl
  · obtain ⟨a, y, q, p, rfl, ia, ny, sq, sp, z⟩ := h
    have h2 := hr.mono (show 2 ≤ 6 by decide)
    refine ⟨_, pss_one (ps_ret (pe_cmpR op_le (pe_pSgn B h2 (pe_op (op_O S hr) (pv 0) (pv 1))) pe_int (nomark _))), ?_⟩
    refine ⟨_, rfl, _, rfl, a, q, p, rfl, ia, ny, sq, sp, fun r H1 e1 n1 i1 => ⟨r, q - p, rfl, i1, _, _, rfl, rfl, ?_⟩⟩
    show Q (.bl (decide ((q - p).num.sign ≤ 0))) H1
    rw [show decide ((q - p).num.sign ≤ 0) = decide (q ≤ p) from decide_eq_decide.mpr (lez q p)]
    exact z H1 e1
theorem ok_leO (S : SubO P w K mg base C Wc) (F : Fun K "__le__" "Amount.__le__" (am 23) f fd) : FnOk P w K mg base (L2.CX P w) 7 f fd ["self", "other"] (spOpO C Wc) := by
  refine F.okX sc_le (fun vs H Q E h => ?_) (fun cdv A outer s H vs Q E hr h => ?_)
  · obtain ⟨a, y, q, rfl, _⟩ := h
    rfl
  · obtain ⟨a, y, q, rfl, ia, od, rv⟩ := h
    refine ⟨_, pss_one (ps_ret (pe_cmpR op_le (pe_fld0 (f := "sign") (pe_op (op_sO (E := E) S (passes_call (takes_of rfl rfl rfl rfl) fun _ _ _ _ h => h) hr) (pv 0) (pv 1))) pe_int (nomark _))), ?_⟩
    obtain ⟨T, bt, ni⟩ := id od
    obtain ⟨dx, ea⟩ := id ia
    exact ⟨_, rfl, _, rfl, a, dx, _, T, rfl, ea, bt, a, y, q, rfl, ia, od, rv⟩
theorem sc_gt : FnScope ["self", "other"] ["self", "other"] (defScope (am 24)) := ⟨rfl, rfl, rfl, by decide +kernel, rfl, by decide +kernel, by decide +kernel⟩
theorem ok_gt (B : Base P w K mg base C) (S : Op P w K mg base C (Operator.Sub).info.2 6 fun q p => q - p) (F : Fun K "__gt__" "Amount.__gt__" (am 24) f fd) : FnOk P w K mg base CX0 7 f fd ["self", "other"] (spCmp C fun q p => decide (p < q)) := by
  refine F.ok sc_gt (fun vs H Q E h => ?_) (fun cdv A outer s H vs Q E hr h => ?_)
  · obtain ⟨a, y, q, p, rfl, _⟩ := h
    rfl
  · obtain ⟨a, y, q, p, rfl, ia, ny, sq, sp, z⟩ := h
    have h2 := hr.mono (show 2 ≤ 6 by decide)
    refine ⟨_, pss_one (ps_ret (pe_cmpR op_gt (pe_pSgn B h2 (pe_op (op_O S hr) (pv 0) (pv 1))) pe_int (nomark _))), ?_⟩
    refine ⟨_, rfl, _, rfl, a, q, p, rfl, ia, ny, sq, sp, fun r H1 e1 n1 i1 => ⟨r, q - p, rfl, i1, _, _, rfl, rfl, ?_⟩⟩
    show Q (.bl (decide (0 < (q - p).num.sign))) H1
    rw [show decide (0 < (q - p).num.sign) = decide (p < q) from decide_eq_decide.mpr (gtz q p)]
    exact z H1 e1
theorem ok_gtO (S : SubO P w K mg base C Wc) (F : Fun K "__gt__" "Amount.__gt__" (am 24) f fd) : FnOk P w K mg base (L2.CX P w) 7 f fd ["self", "other"] (spOpO C Wc) := by
  refine F.okX sc_gt (fun vs H Q E h => ?_) (fun cdv A outer s H vs Q E hr h => ?_)
  · obtain ⟨a, y, q, rfl, _⟩ := h
    rfl
  · obtain ⟨a, y, q, rfl, ia, od, rv⟩ := h
    refine ⟨_, pss_one (ps_ret (pe_cmpR op_gt (pe_fld0 (f := "sign") (pe_op (op_sO (E := E) S (passes_call (takes_of rfl rfl rfl rfl) fun _ _ _ _ h => h) hr) (pv 0) (pv 1))) pe_int (nomark _))), ?_⟩
    obtain ⟨T, bt, ni⟩ := id od
    obtain ⟨dx, ea⟩ := id ia
    exact ⟨_, rfl, _, rfl, a, dx, _, T, rfl, ea, bt, a, y, q, rfl, ia, od, rv⟩
theorem sc_ge : FnScope ["self", "other"] ["self", "other"] (defScope (am 25)) := ⟨rfl, rfl, rfl, by decide +kernel, rfl, by decide +kernel, by decide +kernel⟩
theorem ok_ge (B : Base P w K mg base C) (S : Op P w K mg base C (Operator.Sub).info.2 6 fun q p => q - p) (F : Fun K "__ge__" "Amount.__ge__" (am 25) f fd) : FnOk P w K mg base CX0 7 f fd ["self", "other"] (spCmp C fun q p => decide (p ≤ q)) := by
  refine F.ok sc_ge (fun vs H Q E h => ?_) (fun cdv A outer s H vs Q E hr h => ?_)
  · obtain ⟨a, y, q, p, rfl, _⟩ := h
    rfl
  · obtain ⟨a, y, q, p, rfl, ia, ny, sq, sp, z⟩ := h
    have h2 := hr.mono (show 2 ≤ 6 by decide)
    refine ⟨_, pss_one (ps_ret (pe_cmpR op_ge (pe_pSgn B h2 (pe_op (op_O S hr) (pv 0) (pv 1))) pe_int (nomark _))), ?_⟩
    refine ⟨_, rfl, _, rfl, a, q, p, rfl, ia, ny, sq, sp, fun r H1 e1 n1 i1 => ⟨r, q - p, rfl, i1, _, _, rfl, rfl, ?_⟩⟩
    show Q (.bl (decide (0 ≤ (q - p).num.sign))) H1
    rw [show decide (0 ≤ (q - p).num.sign) = decide (p ≤ q) from decide_eq_decide.mpr (gez q p)]
    exact z H1 e1
theorem ok_geO (S : SubO P w K mg base C Wc) (F : Fun K "__ge__" "Amount.__ge__" (am 25) f fd) : FnOk P w K mg base (L2.CX P w) 7 f fd ["self", "other"] (spOpO C Wc) := by
  refine F.okX sc_ge (fun vs H Q E h => ?_) (fun cdv A outer s H vs Q E hr h => ?_)
  · obtain ⟨a, y, q, rfl, _⟩ := h
    rfl
  · obtain ⟨a, y, q, rfl, ia, od, rv⟩ := h
    refine ⟨_, pss_one (ps_ret (pe_cmpR op_ge (pe_fld0 (f := "sign") (pe_op (op_sO (E := E) S (passes_call (takes_of rfl rfl rfl rfl) fun _ _ _ _ h => h) hr) (pv 0) (pv 1))) pe_int (nomark _))), ?_⟩
    obtain ⟨T, bt, ni⟩ := id od
    obtain ⟨dx, ea⟩ := id ia
    exact ⟨_, rfl, _, rfl, a, dx, _, T, rfl, ea, bt, a, y, q, rfl, ia, od, rv⟩
end
end KA

set_option Elab.async false
set_option linter.all false
set_option maxRecDepth 100000
set_option maxHeartbeats 1000000
set_option exponentiation.threshold 9000
/-! Comparisons by values. -/
namespace KA
open PySem PySem.Spec PyProof.Rows L2 Oo Gd Am
section
variable {P : Program} {w : World} {K : W.Frag} {mg : Str → Option Value} {base : Heap} {C Wc f : Addr} {fd : FuncData}
structure CmpD (P : Program) (w : World) (K : W.Frag) (mg : Str → Option Value) (base : Heap) (C Wc : Addr) (nm : Str) (g : Rat → Rat → Bool) : Prop where
  of : ∃ f fd, W.findIn K (.ref C) nm = some (some (.ref f)) ∧ W.isFn K (.ref f) = true ∧ FnOk P w K mg base CX0 7 f fd ["self", "other"] (spCmp C g) ∧ FnOk P w K mg base (L2.CX P w) 7 f fd ["self", "other"] (spOpO C Wc) ∧ Binds K fd ["self", "other"] []
/-- two NUMBERS, one an Amount -/
def rNC (C : Addr) (g : Rat → Rat → Bool) : R2 := fun x y H Q => ∃ q p, Num C H x q ∧ Num C H y p ∧ ((∃ a, x = .ref a) ∨ ∃ a, y = .ref a) ∧ Sz q ∧ Sz p ∧ ∀ H', Am.Ext H H' → Q (.bl (g q p)) H'
theorem op_NC {X : Cx} {op : CmpOp} {g g' : Rat → Rat → Bool} (h4 : Four op) (hg : ∀ q p, g' p q = g q p) (pl : Plain X.K C) (D : CmpD X.prog X.w X.K X.mg X.base C Wc (cmpInfo op).2.1 g) (D' : CmpD X.prog X.w X.K X.mg X.base C Wc (cmpInfo op).2.2 g') (hr : Room 7 X.A) :
    OpR X (compareOp op) (rNC C g) := fun pins s σ H x y v u Q I rx ry h => by
  obtain ⟨f, fd, hs, hf, F, _, b⟩ := D.of
  obtain ⟨f', fd', hs', hf', F', _, b'⟩ := D'.of
  obtain ⟨q, p, nx, ny, one, sq, sp, z⟩ := h
  rcases id nx with ⟨i, rfl, _⟩ | ⟨a, rfl, ia⟩
  · rcases id ny with ⟨j, rfl, _⟩ | ⟨c, rfl, ic⟩
    · rcases one with ⟨_, e⟩ | ⟨_, e⟩ <;> cases e
    · obtain ⟨dy, ec⟩ := id ic
      exact op_cmpR (E := E0) h4 pl hs' hf' F' b' pass0 hr pins s σ H _ _ v u Q I rx ry ⟨c, dy, _, "int", rfl, ec, .int i, by decide, c, .int i, p, q, rfl, ic, nx, sp, sq, fun H' e => by rw [hg]; exact z H' e⟩
  · obtain ⟨dx, ea⟩ := id ia
    refine op_cmpL (E := E0) (fun M A E s a b Q z => four_rich h4 z) hs hf F b pass0 hr pins s σ H _ _ v u Q I rx ry ⟨a, dx, _, rfl, ea, ?_, a, y, q, p, rfl, ia, ny, sq, sp, z⟩
    rcases id ny with ⟨j, rfl, _⟩ | ⟨c, rfl, dy, ec⟩
    · exact .inr ⟨_, .int j⟩
    · exact .inl ⟨c, dy, _, rfl, ec⟩
/-- an Amount and what is no number -/
def rXC (C Wc : Addr) (E : XK) : R2 := fun x y H Q => (∃ a q, x = .ref a ∧ Is C H a q ∧ Odd H y ∧ RefV Wc y H E) ∨ (∃ b p T, y = .ref b ∧ Is C H b p ∧ Bt H x T ∧ T ≠ "int" ∧ T ≠ "dict" ∧ RefV Wc x H E)
theorem op_XC {X : Cx} {op : CmpOp} {g g' : Rat → Rat → Bool} {E : XK} (h4 : Four op) (pl : Plain X.K C) (D : CmpD X.prog X.w X.K X.mg X.base C Wc (cmpInfo op).2.1 g) (D' : CmpD X.prog X.w X.K X.mg X.base C Wc (cmpInfo op).2.2 g') (hx : Passes (L2.CX X.prog X.w) X E) (hr : Room 7 X.A) :
    OpR X (compareOp op) (rXC C Wc E) := fun pins s σ H x y v u Q I rx ry h => by
  obtain ⟨f, fd, hs, hf, _, F, b⟩ := D.of
  obtain ⟨f', fd', hs', hf', _, F', b'⟩ := D'.of
  rcases h with ⟨a, q, rfl, ia, od, rv⟩ | ⟨c, p, T, rfl, ic, bt, n1, n2, rv⟩
  · obtain ⟨dx, ea⟩ := id ia
    obtain ⟨T, bt, _⟩ := id od
    exact op_cmpL (E := E) (fun M A E s a b Q z => four_rich h4 z) hs hf F b hx hr pins s σ H _ _ v u Q I rx ry ⟨a, dx, _, rfl, ea, .inr ⟨T, bt⟩, a, y, q, rfl, ia, od, rv⟩
  · obtain ⟨dy, ec⟩ := id ic
    exact op_cmpR (E := E) h4 pl hs' hf' F' b' hx hr pins s σ H _ _ v u Q I rx ry ⟨c, dy, _, T, rfl, ec, bt, n2, c, x, p, rfl, ic, ⟨T, bt, n1⟩, rv⟩
/-! ### == and != with what is no Amount -/
theorem ok_eqO (fr : Frees mg) (mgA : mg "Amount" = some (.ref C)) (kc : Kc K C) (F : Fun K "__eq__" "Amount.__eq__" (am 21) f fd) (T : Cl K C) : FnOk P w K mg base CX0 1 f fd ["self", "other"] (spEqO C) := by
  refine F.ok scEq (fun vs H Q E h => ?_) (fun cdv A' outer s H vs Q E hr h => ?_)
  · obtain ⟨a, y, q, T, rfl, _⟩ := h
    rfl
  · obtain ⟨a, y, q, Ty, rfl, ia, bt, z⟩ := h
    refine ⟨_, pss_one (ps_ret (pe_and (pe_callB call_isi rfl (fr.h _ (by decide +kernel)) (by decide +kernel) (pa_cons (pv 1) (pa_cons (pe_glob (v := V.ref C) rfl mgA rfl) pa_nil)))
      (pe_and (pe_cmpR op_eq (pe_top T (pv 0)) (pe_top T (pv 1)) (nomark _)) (pe_one (pe_cmpR op_eq (pe_bot T (pv 0)) (pe_bot T (pv 1)) (nomark _)))))), ?_⟩
    exact ⟨_, rfl, _, _, _, _, false, rfl, ClsV.own C, bt.ty, kit_no bt.mem kc.ks kc.kt, false, rfl, z⟩
structure EqO (P : Program) (w : World) (K : W.Frag) (mg : Str → Option Value) (base : Heap) (C : Addr) : Prop where
  of : ∃ f fd, W.findIn K (.ref C) "__eq__" = some (some (.ref f)) ∧ W.isFn K (.ref f) = true ∧ FnOk P w K mg base CX0 1 f fd ["self", "other"] (spEqO C) ∧ Binds K fd ["self", "other"] [] ∧
    ∃ B bm, CmpFacts B bm ∧ ∀ (h : Heap) (x dx : Addr), K.In h → h.get? x = some (W.instObj C dx) → h.OwnEqNoNe x C f B bm
def rEqX (C : Addr) (c : Bool) : R2 := fun x y H Q => ∃ a q T, x = .ref a ∧ Is C H a q ∧ Bt H y T ∧ Q (.bl c) H
theorem op_eqX {X : Cx} {k : Nat} (T : EqO X.prog X.w X.K X.mg X.base C) (hr : Room (k + 2) X.A) : OpR X (compareOp .Eq) (rEqX C false) := fun pins s σ H x y v u Q I rx ry h => by
  obtain ⟨f, fd, hs, hf, F, b, _⟩ := T.of
  obtain ⟨a, q, Ty, rfl, ia, bt, z⟩ := h
  obtain ⟨dx, ea⟩ := id ia
  exact op_cmpL (E := E0) (fun M A E s a b Q z => W.cmp_ofEq z) hs hf F b pass0 (hr.mono (by omega)) pins s σ H _ _ v u Q I rx ry ⟨a, dx, _, rfl, ea, .inr ⟨Ty, bt⟩, a, y, q, Ty, rfl, ia, bt, z⟩
theorem op_neX {X : Cx} {k : Nat} (T : EqO X.prog X.w X.K X.mg X.base C) (hr : Room (k + 2) X.A) : OpR X (compareOp .NotEq) (rEqX C true) := fun pins s σ H x y v u Q I rx ry h => by
  obtain ⟨f, fd, hs, hf, F, b, B, bm, FB, ne⟩ := T.of
  obtain ⟨a, q, Ty, rfl, ia, bt, z⟩ := h
  obtain ⟨dx, ea⟩ := id ia
  cases (show v = Value.ref a from rx)
  obtain ⟨od, J, e1⟩ := inst_at I ea
  refine W.cmp_ofNotEq (ne_rich FB (ne s.heap a dx I.kIn e1) (bt.is I ry) (sub_T bt.mem) I.kIn (by have := hr.units; omega) ?_)
  refine wpAny_mono (run_atO (Q := fun w' H' => w' = .bl false ∧ H' = H) (us := [.ref a, u]) (ws := [.ref a, y]) F b ((hr.mono (show 2 ≤ k + 2 by omega)).in1) I.env0.in1 pass0 I (.cons rfl (.cons ry .nil)) ⟨a, y, q, Ty, rfl, ia, bt, rfl, rfl⟩) (fun v' s' ⟨z', H', I', rz, ez, eh⟩ => ?_) fun _ _ z => z
  subst ez eh
  cases (show v' = Value.bool false from rz)
  exact ⟨false, rfl, .bl true, _, I', rfl, z⟩
/-- an INTEGER == an Amount -/
def rEqI (C : Addr) : R2 := fun x y H Q => ∃ i b q, x = .int i ∧ y = .ref b ∧ Is C H b q ∧ Q (.bl false) H
theorem op_eqI {X : Cx} {k : Nat} (pl : Plain X.K C) (T : EqO X.prog X.w X.K X.mg X.base C) (hr : Room (k + 2) X.A) : OpR X (compareOp .Eq) (rEqI C) := fun pins s σ H x y v u Q I rx ry h => by
  obtain ⟨f, fd, hs, hf, F, b, _⟩ := T.of
  obtain ⟨i, c, q, rfl, rfl, ic, z⟩ := h
  obtain ⟨dy, ec⟩ := id ic
  obtain ⟨t, rfl⟩ := (show ∃ t, v = Value.int i t from rx)
  cases (show u = Value.ref c from ry)
  obtain ⟨oe, J2, e2⟩ := inst_at I ec
  refine W.cmp_ofEq (cmp_right (op := .Eq) (T := "int") hr.units0 I.kIn J2 rfl (sub_C pl (by decide)) (c_int_eq e2) hs hf fun t' => ?_)
  have I2 : Inv X pins σ H { s with toks := t' } := I.tok t'
  exact wpAny_mono (run_fn (E := E0) (us := [.ref c, .int i t]) (vs := [.ref c, .int i]) F (hr.mono (by omega)) b .nil pass0 I2 (.cons rfl (.cons ⟨t, rfl⟩ .nil)) (show spEqO C ([V.ref c, V.int i] ++ []) H Q E0 from ⟨c, .int i, q, "int", rfl, ic, .int i, z⟩)) (fun v' s' ⟨z', H', I', rz, qz⟩ => SlX.cmpback (P := EP X pins σ Q) rz ⟨z', H', I', rz, qz⟩) fun _ _ z => z
end
end KA

set_option Elab.async false
set_option linter.all false
set_option maxRecDepth 100000
set_option maxHeartbeats 1000000
set_option exponentiation.threshold 20000
namespace KB
open PySem PySem.Spec PyProof.Rows L2 Oo Gd Am KA
section
variable {P : Program} {w : World} {K : W.Frag} {mg : Str → Option Value} {base : Heap} {f C : Addr} {fd : FuncData}
/-! ### great -/
def spGr (K : W.Frag) : Sp := fun vs H Q _ => ∃ p : Addr, vs = [.ref p] ∧ Pot H p ∧ ∀ (t : Addr) (q : Rat) (H' : Hp), H t = none → t ≠ p → H' t = some (.tup [.int q.num, .int q.den]) → Low 140 q → Kp p H H' → Q (.ref t) H'
theorem scGr : FnScope ["_law_pot_here", "_law_size", "_law_high"] ["_law_pot_here"] (defScope (top 23)) := ⟨rfl, rfl, rfl, by decide +kernel, rfl, by decide +kernel, by decide +kernel⟩
theorem low_end {p t : Addr} {H H5 H6 : Hp} {n d : Int} {b : Nat} {Q : VK} (k : Kp p H H5) (d0 : 0 < d) (hn : n.natAbs < 2 ^ b) (hd : d.natAbs < 2 ^ b)
    (q : ∀ (t : Addr) (q : Rat) (H' : Hp), H t = none → t ≠ p → H' t = some (.tup [.int q.num, .int q.den]) → Low b q → Kp p H H' → Q (.ref t) H') (e6 : Am.Ext H5 H6) (n6 : H5 t = none) (t6 : H6 t = some (.tup [.int (Rat.divInt n d).num, .int (Rat.divInt n d).den])) : Q (.ref t) H6 := by
  obtain ⟨b1, b2⟩ := divInt_le n d (by omega)
  have tp : t ≠ p := ne_pot k.pot n6
  refine q t _ H6 (k.gone tp n6) tp t6 ⟨Nat.lt_of_le_of_lt b1 hn, Nat.lt_of_le_of_lt b2 hd⟩ (k.trans (Kp.ext k.pot e6))
theorem ok_gr (D1 : DnD P w K mg base) (DP : DnP P w K mg base) (DL : DnL P w K mg base) (F : Fun K "_law_great" "_law_great" (top 23) f fd) : FnOk P w K mg base CX0 3 f fd ["_law_pot_here"] (spGr K) := by
  refine F.ok scGr (fun vs H Q E h => ?_) (fun cdv A outer s H vs Q E hr h => ?_)
  · obtain ⟨p, rfl, _⟩ := h
    rfl
  · obtain ⟨p, rfl, hp, q⟩ := h
    have nd := scGr.nd
    refine ⟨_, pss_cons (ps_set (i := 1) nd rfl (.inl rfl) (pe_dn DP hr (by rfl) (by decide) (pa_cons (pv 0) (pa_cons (pe_lst (pa_cons pe_int (pa_cons pe_int (pa_cons pe_int (pa_cons pe_int (pa_cons pe_int (pa_cons (pe_op op_pow pe_int pe_int) (pa_cons (pe_op op_pow pe_int pe_int) pa_nil)))))))) pa_nil))))
      (pss_cons (ps_set (i := 2) nd rfl (.inl rfl) (pe_op op_mulW (pe_dn DP hr (by rfl) (by decide) (pa_cons (pv 0) (pa_cons (pe_lst (pa_cons pe_int (pa_cons pe_int (pa_cons (pe_un un_neg pe_int) pa_nil)))) pa_nil)))
        (pe_op op_add (pe_op op_mulW (pe_dn D1 hr (by rfl) (by decide) (pa_cons (pv 0) (pa_cons (pe_op op_pow pe_int pe_int) pa_nil))) (pv 1)) (pe_dn D1 hr (by rfl) (by decide) (pa_cons (pv 0) (pa_cons pe_int pa_nil))))))
      (pss_one (ps_ret (pe_dn DL hr (by rfl) (by decide) (pa_cons (pv 2) (pa_cons (pe_op op_add pe_int (pe_op op_mulW (pe_dn D1 hr (by rfl) (by decide) (pa_cons (pv 0) (pa_cons (pe_op op_pow pe_int pe_int) pa_nil)))
        (pe_dn DP hr (by rfl) (by decide) (pa_cons (pv 0) (pa_cons (pe_lst (pa_cons pe_int (pa_cons pe_int (pa_cons pe_int (pa_cons (pe_op op_pow pe_int pe_int) pa_nil))))) pa_nil))))) pa_nil)))))), ?_⟩
    refine ⟨_, rfl, 10, 20, rfl, rfl, ⟨by decide, by decide, by decide⟩, 10, 30, rfl, rfl, ⟨by decide, by decide, by decide⟩, (by show 7 ≤ sizeLine; decide), fun l hl => ⟨p, l, _, rfl, hp.new hl, ne_pot hp hl, SqL.of upd_same, (fun z => by cases z), (by show 7 ≤ 1000000; decide), fun x H1 hx k1 => ?_⟩⟩
    have num : ∃ z : Int, x = .int z ∧ z.natAbs < 2 ^ 100 := by
      simp only [List.mem_cons, List.not_mem_nil, or_false] at hx
      rcases hx with rfl | rfl | rfl | rfl | rfl | rfl | rfl <;> exact ⟨_, rfl, by decide⟩
    obtain ⟨z, rfl, zb⟩ := num
    replace k1 := (Kp.new hp hl).trans k1
    clear hx
    refine ⟨_, rfl, 1, rfl, (by show 3 ≤ sizeLine; decide), fun m hm => ⟨p, m, _, rfl, k1.pot.new hm, ne_pot k1.pot hm, SqL.of upd_same, (fun z => by cases z), (by show 3 ≤ 1000000; decide), fun y H2 hy k2 => ?_⟩⟩
    have sgn : ∃ e : Int, y = .int e ∧ e.natAbs = 1 := by
      simp only [List.mem_cons, List.not_mem_nil, or_false] at hy
      rcases hy with rfl | rfl | rfl <;> exact ⟨_, rfl, by decide⟩
    obtain ⟨e, rfl, e1⟩ := sgn
    replace k2 := k1.trans ((Kp.new k1.pot hm).trans k2)
    clear hy
    refine ⟨_, rfl, 10, 9, rfl, rfl, ⟨by decide, by decide, by decide⟩, p, _, rfl, k2.pot, by decide, by decide, fun a H3 a0 a1 k3 => ?_⟩
    replace a1 : a < 1000000000 := a1
    replace k3 := k2.trans k3
    have ab : a.natAbs < 2 ^ 30 := by omega
    refine ⟨_, rfl, _, _, rfl, rfl, mulOk (n := 30) (m := 100) ab zb (by decide) (by decide), _, rfl, p, _, rfl, k3.pot, by decide, by decide, fun c H4 c0 c1 k4 => ?_⟩
    replace k4 := k3.trans k4
    have cb : c.natAbs < 2 ^ 130 := Nat.lt_trans (show c.natAbs < 2 ^ 4 by omega) (by decide)
    have sb := add_bits (mul_bits ab zb) cb
    refine ⟨_, _, rfl, rfl, _, _, rfl, rfl, mulOk (n := 1) (m := 131) (by omega) sb (by decide) (by decide), ?_⟩
    have tb : (e * (a * z + c)).natAbs < 2 ^ 140 := by
      rw [Int.natAbs_mul, e1, Nat.one_mul]
      exact Nat.lt_trans sb (by decide)
    refine ⟨_, rfl, _, rfl, 10, 9, rfl, rfl, ⟨by decide, by decide, by decide⟩, p, _, rfl, k4.pot, by decide, by decide, fun g H5 g0 g1 k5 => ?_⟩
    replace g1 : g < 1000000000 := g1
    replace k5 := k4.trans k5
    refine ⟨_, rfl, 10, 10, rfl, rfl, ⟨by decide, by decide, by decide⟩, (by show 4 ≤ sizeLine; decide), fun l2 hl2 => ⟨p, l2, _, rfl, k5.pot.new hl2, ne_pot k5.pot hl2, SqL.of upd_same, (fun z => by cases z), (by show 4 ≤ 1000000; decide), fun x2 H6 hx2 k6 => ?_⟩⟩
    have num2 : ∃ z2 : Int, x2 = .int z2 ∧ 0 ≤ z2 ∧ z2.natAbs < 2 ^ 40 := by
      simp only [List.mem_cons, List.not_mem_nil, or_false] at hx2
      rcases hx2 with rfl | rfl | rfl | rfl <;> exact ⟨_, rfl, by decide, by decide⟩
    obtain ⟨z2, rfl, z20, z2b⟩ := num2
    replace k6 := k5.trans ((Kp.new k5.pot hl2).trans k6)
    have gb : g.natAbs < 2 ^ 30 := by omega
    have mb := mul_bits gb z2b
    have m0 : 0 ≤ g * z2 := Int.mul_nonneg g0 z20
    have db : (1 + g * z2).natAbs < 2 ^ 71 := add_bits (n := 70) (show (1 : Int).natAbs < 2 ^ 70 by decide) mb
    refine ⟨_, _, rfl, rfl, mulOk (n := 30) (m := 40) gb z2b (by decide) (by decide), _, _, rfl, rfl, _, _, rfl, (by omega), Nat.lt_trans tb (by decide), Nat.lt_trans db (by decide), fun t H7 e7 n7 t7 => ?_⟩
    exact low_end k6 (by omega) tb (Nat.lt_trans db (by decide)) q e7 n7 t7
end
end KB

set_option Elab.async false
set_option linter.all false
set_option maxRecDepth 100000
set_option maxHeartbeats 1000000
set_option exponentiation.threshold 20000
namespace KB
open PySem PySem.Spec PyProof.Rows L2 Oo Gd Am KA
section
variable {P : Program} {w : World} {K : W.Frag} {mg : Str → Option Value} {base : Heap} {f C : Addr} {fd : FuncData}
/-! ### beside -/
def Tup (H : Hp) (t : Addr) (q : Rat) : Prop := H t = some (.tup [.int q.num, .int q.den])
def spBes : Sp := fun vs H Q _ => ∃ p t q, vs = [.ref p, .ref t] ∧ Pot H p ∧ t ≠ p ∧ Tup H t q ∧ Low 140 q ∧ ∀ (u : Addr) (r : Rat) (H' : Hp), u ≠ p → Tup H' u r → Low 142 r → Kp p H H' → Q (.ref u) H'
theorem scBes : FnScope ["_law_pot_here", "_law_near", "_law_way"] ["_law_pot_here", "_law_near"] (defScope (top 24)) := ⟨rfl, rfl, rfl, by decide +kernel, rfl, by decide +kernel, by decide +kernel⟩
theorem low_ratint {n : Nat} {i : Int} (h : i.natAbs < 2 ^ n) (hn : 0 < n) : Low n (i : Rat) := low_int h hn
theorem ok_bes (D1 : DnD P w K mg base) (DP : DnP P w K mg base) (DL : DnL P w K mg base) (DG : Dn P w K mg base CX0 3 "_law_great" ["_law_pot_here"] (spGr K)) (F : Fun K "_law_beside" "_law_beside" (top 24) f fd) : FnOk P w K mg base CX0 4 f fd ["_law_pot_here", "_law_near"] spBes := by
  refine F.ok scBes (fun vs H Q E h => ?_) (fun cdv A outer s H vs Q E hr h => ?_)
  · obtain ⟨p, t, q, rfl, _⟩ := h
    rfl
  · obtain ⟨p, t, q, rfl, hp, ntp, ht, lw, z⟩ := h
    have nd := scBes.nd
    refine ⟨_, pss_cons (ps_set (i := 2) nd rfl (.inl rfl) (pe_dn D1 hr (by rfl) (by decide) (pa_cons (pv 0) (pa_cons pe_int pa_nil))))
      (pss_cons (ps_if (pt_cmpR op_eq (pv 2) pe_int (nomark _)) (pss_one (ps_ret (pv 1))) pss_nil)
      (pss_cons (ps_if (pt_cmpR op_eq (pv 2) pe_int (nomark _)) (pss_one (ps_ret (pe_dn DL hr (by rfl) (by decide) (pa_cons (pe_op op_add (pe_ix ix_tup (pv 1) pe_int (fun _ _ => rfl)) (pe_dn DP hr (by rfl) (by decide) (pa_cons (pv 0) (pa_cons (pe_lst (pa_cons pe_int (pa_cons (pe_un un_neg pe_int) pa_nil))) pa_nil)))) (pa_cons (pe_ix ix_tup (pv 1) pe_int (fun _ _ => rfl)) pa_nil))))) pss_nil)
      (pss_cons (ps_if (pt_cmpR op_eq (pv 2) pe_int (nomark _)) (pss_one (ps_ret (pe_tup (pa_cons (pe_op op_sub (pe_op op_add (pe_op op_fdivW (pe_ix ix_tup (pv 1) pe_int (fun _ _ => rfl)) (pe_ix ix_tup (pv 1) pe_int (fun _ _ => rfl))) (pe_dn D1 hr (by rfl) (by decide) (pa_cons (pv 0) (pa_cons pe_int pa_nil)))) pe_int) (pa_cons pe_int pa_nil))))) pss_nil)
      (pss_one (ps_ret (pe_ifExp (pt_cmpR op_eq (pv 2) pe_int (nomark _)) (pe_dn DL hr (by rfl) (by decide) (pa_cons (pe_un un_neg (pe_ix ix_tup (pv 1) pe_int (fun _ _ => rfl))) (pa_cons (pe_ix ix_tup (pv 1) pe_int (fun _ _ => rfl)) pa_nil))) (pe_dn DG hr (by rfl) (by decide) (pa_cons (pv 0) pa_nil)))))))), ?_⟩
    have dp := den_pos q
    have d0 : ((q.den : Int)).natAbs < 2 ^ 140 := by rw [Int.natAbs_natCast]; exact lw.2
    have d2 : ((q.den : Int)).natAbs < 2 ^ 142 := Nat.lt_trans d0 (by decide)
    refine ⟨_, rfl, p, 6, rfl, hp, by decide, by decide, fun d H1 h0 h1 k1 => ?_⟩
    have ht1 := k1.at ntp ht
    have fin : ∀ {n : Int} {H5 : Hp}, Kp p H H5 → n.natAbs < 2 ^ 142 → NewP H5 Q (Rat.divInt n (q.den : Int)) := fun {n H5} k hn t' H6 e6 n6 t6 => low_end (b := 142) k dp hn d2 (fun t q H' _ => z t q H') e6 n6 t6
    refine ⟨_, rfl, rfl, _, rfl, ite2 (fun _ => ?_) (fun _ => ?_)⟩
    · exact ⟨_, rfl, z t q H1 ntp ht1 ⟨Nat.lt_trans lw.1 (by decide), Nat.lt_trans lw.2 (by decide)⟩ k1⟩
    refine ⟨_, rfl, rfl, _, rfl, ite2 (fun _ => ?_) (fun _ => ?_)⟩
    · refine ⟨_, rfl, _, _, 0, _, rfl, rfl, SqT.of ht1, rfl, _, rfl, 1, rfl, (by show 2 ≤ sizeLine; decide), fun m hm => ⟨p, m, _, rfl, k1.pot.new hm, ne_pot k1.pot hm, SqL.of upd_same, (fun z => by cases z), (by show 2 ≤ 1000000; decide), fun y H2 hy k2 => ?_⟩⟩
      have sgn : ∃ e : Int, y = .int e ∧ e.natAbs = 1 := by
        simp only [List.mem_cons, List.not_mem_nil, or_false] at hy
        rcases hy with rfl | rfl <;> exact ⟨_, rfl, by decide⟩
      obtain ⟨e, rfl, e1⟩ := sgn
      replace k2 := k1.trans ((Kp.new k1.pot hm).trans k2)
      have ht2 := k2.at ntp ht
      have nb : (q.num + e).natAbs < 2 ^ 141 := add_bits lw.1 (Nat.lt_of_le_of_lt (Nat.le_of_eq e1) (by decide))
      refine ⟨_, _, rfl, rfl, _, rfl, _, _, 1, _, rfl, rfl, SqT.of ht2, rfl, _, _, rfl, dp, Nat.lt_trans nb (by decide), Nat.lt_trans d0 (by decide), fin k2 (Nat.lt_trans nb (by decide))⟩
    refine ⟨_, rfl, rfl, _, rfl, ite2 (fun _ => ?_) (fun _ => ?_)⟩
    · refine ⟨_, rfl, _, _, 0, _, rfl, rfl, SqT.of ht1, rfl, _, rfl, _, _, 1, _, rfl, rfl, SqT.of ht1, rfl, _, _, rfl, rfl, ⟨dp, bits d0 (by decide)⟩, _, rfl, p, 3, rfl, k1.pot, by decide, by decide, fun g H2 g0 g1 k2 => ?_⟩
      replace k2 := k1.trans k2
      have fb : (q.num / (q.den : Int)).natAbs < 2 ^ 140 := Nat.lt_of_le_of_lt (by
        have a1 := Int.ediv_mul_le q.num (show (q.den : Int) ≠ 0 by omega)
        have a2 := Int.lt_ediv_add_one_mul_self q.num dp
        rcases Int.lt_or_le q.num 0 with hn | hn
        · have u : q.num / (q.den : Int) < 0 := Int.ediv_neg_of_neg_of_pos hn dp
          have l : q.num ≤ q.num / (q.den : Int) := by
            rcases Int.lt_or_le (q.num / (q.den : Int)) q.num with y | y
            · exfalso
              have : (q.num / (q.den : Int) + 1) * (q.den : Int) ≤ (q.num / (q.den : Int) + 1) * 1 := Int.mul_le_mul_of_nonpos_left (by omega) (by omega)
              omega
            · exact y
          omega
        · have l : 0 ≤ q.num / (q.den : Int) := Int.ediv_nonneg hn (by omega)
          have u : q.num / (q.den : Int) ≤ q.num := Int.ediv_le_self _ hn
          omega : (q.num / (q.den : Int)).natAbs ≤ q.num.natAbs) lw.1
      have ib : (q.num / (q.den : Int) + g - 1).natAbs < 2 ^ 142 := by
        have := add_bits (n := 140) fb (Nat.lt_trans (show (g - 1).natAbs < 4 by omega) (show 4 < 2 ^ 140 by decide))
        rw [show q.num / (q.den : Int) + g - 1 = q.num / (q.den : Int) + (g - 1) by omega]
        exact Nat.lt_trans this (by decide)
      refine ⟨_, _, rfl, rfl, _, _, rfl, rfl, (by show 2 ≤ sizeLine; decide), fun u hu => ?_⟩
      exact z u ((q.num / (q.den : Int) + g - 1 : Int) : Rat) _ (ne_pot k2.pot hu) upd_same (low_ratint ib (by decide)) (k2.trans (Kp.new k2.pot hu))
    refine ⟨_, rfl, rfl, _, rfl, ite2 (fun _ => ?_) (fun _ => ?_)⟩
    · have nb : (-q.num).natAbs < 2 ^ 142 := by rw [Int.natAbs_neg]; exact Nat.lt_trans lw.1 (by decide)
      refine ⟨_, rfl, _, _, 0, _, rfl, rfl, SqT.of ht1, rfl, _, rfl, _, rfl, _, _, 1, _, rfl, rfl, SqT.of ht1, rfl, _, _, rfl, dp, Nat.lt_trans nb (by decide), Nat.lt_trans d0 (by decide), fin k1 nb⟩
    · refine ⟨_, rfl, p, rfl, k1.pot, fun u r H2 nu nup hu lr k2 => ?_⟩
      exact z u r H2 nup hu ⟨Nat.lt_trans lr.1 (by decide), Nat.lt_trans lr.2 (by decide)⟩ (k1.trans k2)
/-! ### is_less, amount, shape, power -/
def spLess (K : W.Frag) : Sp := fun vs H Q _ => ∃ t u q p, vs = [.ref t, .ref u] ∧ Pt K H t q ∧ Pt K H u p ∧ Low 4000 q ∧ Low 4000 p ∧ Q (.bl (decide (q < p))) H
theorem scLess : FnScope ["_law_near", "_law_far"] ["_law_near", "_law_far"] (defScope (top 25)) := ⟨rfl, rfl, rfl, by decide +kernel, rfl, by decide +kernel, by decide +kernel⟩
theorem ok_less (F : Fun K "_law_is_less" "_law_is_less" (top 25) f fd) : FnOk P w K mg base CX0 1 f fd ["_law_near", "_law_far"] (spLess K) := by
  refine F.ok scLess (fun vs H Q E h => ?_) (fun cdv A outer s H vs Q E hr h => ?_)
  · obtain ⟨t, u, q, p, rfl, _⟩ := h
    rfl
  · obtain ⟨t, u, q, p, rfl, ht, hu, lq, lp, z⟩ := h
    refine ⟨_, pss_one (ps_ret (pe_cmpR op_lt (pe_op op_mulW (pe_ix ix_tup (pv 0) pe_int (fun _ _ => rfl)) (pe_ix ix_tup (pv 1) pe_int (fun _ _ => rfl))) (pe_op op_mulW (pe_ix ix_tup (pv 1) pe_int (fun _ _ => rfl)) (pe_ix ix_tup (pv 0) pe_int (fun _ _ => rfl))) (nomark _))), ?_⟩
    refine ⟨_, rfl, _, _, 0, _, rfl, rfl, ht, rfl, _, rfl, _, _, 1, _, rfl, rfl, hu, rfl, _, _, rfl, rfl, mulOk lq.1 (KA.low_den lp) (by decide) (by decide), _, rfl, _, _, 0, _, rfl, rfl, hu, rfl, _, rfl, _, _, 1, _, rfl, rfl, ht, rfl, _, _, rfl, rfl, mulOk lp.1 (KA.low_den lq) (by decide) (by decide), _, _, rfl, rfl, ?_⟩
    show Q (.bl (decide (q.num * (p.den : Int) < p.num * (q.den : Int)))) H
    rw [show decide (q.num * (p.den : Int) < p.num * (q.den : Int)) = decide (q < p) from decide_eq_decide.mpr (Rat.lt_iff q p).symm]
    exact z
def spAmt (K : W.Frag) (C : Addr) : Sp := fun vs H Q _ => ∃ t q, vs = [.ref t] ∧ Pt K H t q ∧ Low 4000 q ∧ New C H Q q
theorem scAmt : FnScope ["_law_part"] ["_law_part"] (defScope (top 26)) := ⟨rfl, rfl, rfl, by decide +kernel, rfl, by decide +kernel, by decide +kernel⟩
theorem ok_amt (B : Base P w K mg base C) (F : Fun K "_law_amount" "_law_amount" (top 26) f fd) : FnOk P w K mg base CX0 4 f fd ["_law_part"] (spAmt K C) := by
  refine F.ok scAmt (fun vs H Q E h => ?_) (fun cdv A outer s H vs Q E hr h => ?_)
  · obtain ⟨t, q, rfl, _⟩ := h
    rfl
  · obtain ⟨t, q, rfl, ht, lq, nw⟩ := h
    refine ⟨_, pss_one (ps_ret (pe_mk2 B hr rfl (pa_cons (pe_ix ix_tup (pv 0) pe_int (fun _ _ => rfl)) (pa_cons (pe_ix ix_tup (pv 0) pe_int (fun _ _ => rfl)) pa_nil)))), ?_⟩
    refine ⟨_, rfl, _, _, 0, _, rfl, rfl, ht, rfl, _, rfl, _, _, 1, _, rfl, rfl, ht, rfl, _, _, rfl, den0 q, Nat.lt_trans lq.1 (by decide), Nat.lt_trans (KA.low_den lq) (by decide), ?_⟩
    rw [Rat.num_divInt_den]
    exact nw
def shp (n d : Int) : Str := "Amount(" ++ (toString n : String) ++ ", " ++ (toString d : String) ++ (")" : Str)
theorem shp_shown (q : Rat) : shp q.num (q.den : Int) = Am.shown q := (shown_eq q).symm
def spShp : Sp := fun vs H Q _ => ∃ n d : Int, vs = [.int n, .int d] ∧ n.natAbs < 2 ^ 8000 ∧ d.natAbs < 2 ^ 8000 ∧ Q (.str (shp n d)) H
theorem scShp : FnScope ["_law_high", "_law_low"] ["_law_high", "_law_low"] (defScope (top 27)) := ⟨rfl, rfl, rfl, by decide +kernel, rfl, by decide +kernel, by decide +kernel⟩
theorem ok_shp (nb : base.NoDigits) (fr : Frees mg) (F : Fun K "_law_shape" "_law_shape" (top 27) f fd) : FnOk P w K mg base CX0 1 f fd ["_law_high", "_law_low"] spShp := by
  refine F.ok scShp (fun vs H Q E h => ?_) (fun cdv A outer s H vs Q E hr h => ?_)
  · obtain ⟨n, d, rfl, _⟩ := h
    rfl
  · obtain ⟨n, d, rfl, hn, hd, z⟩ := h
    refine ⟨_, pss_one (ps_ret (pe_op op_add_str (pe_op op_add_str (pe_op op_add_str (pe_op op_add_str pe_str (pe_callTy (call_strI nb rfl) rfl (fr.h _ (by decide +kernel)) (by decide +kernel) (pa_cons (pv 0) pa_nil))) pe_str) (pe_callTy (call_strI nb rfl) rfl (fr.h _ (by decide +kernel)) (by decide +kernel) (pa_cons (pv 1) pa_nil))) pe_str)), ?_⟩
    have l1 := big_len hn
    have l2 := big_len hd
    have k1 : (Str.ofString "Amount(").length = 7 := by decide
    have k2 : (Str.ofString ", ").length = 2 := by decide
    have k3 : (Str.ofString ")").length = 1 := by decide
    have big := line_ge
    refine ⟨_, rfl, _, rfl, hn, _, _, rfl, rfl, ?_, _, _, rfl, rfl, ?_, _, rfl, _, rfl, hd, _, _, rfl, rfl, ?_, _, _, rfl, rfl, ?_, z⟩ <;> (simp only [strLen_append, k1, k2, k3]; omega)
def spPw : Sp := fun vs H Q _ => ∃ (b : Int) (k : Nat), vs = [.int b, .int k] ∧ b.natAbs < 2 ^ 200 ∧ k ≤ 12 ∧ Q (.int (b ^ k)) H
theorem scPw : FnScope ["_law_base", "_law_size", "_law_found", "_law_turn"] ["_law_base", "_law_size"] (defScope (top 32)) := ⟨rfl, rfl, rfl, by decide +kernel, rfl, by decide +kernel, by decide +kernel⟩
theorem pw_bits {b : Int} (h : b.natAbs < 2 ^ 200) {j : Nat} (hj : j ≤ 12) : (b ^ j).natAbs < 2 ^ 2401 := by
  rw [Int.natAbs_pow]
  refine Nat.lt_of_le_of_lt (Nat.pow_le_pow_left (Nat.le_of_lt h) j) ?_
  rw [← Nat.pow_mul]
  exact Nat.pow_lt_pow_right (by decide) (by omega)
theorem ok_pw (fr : Frees mg) (F : Fun K "_law_power" "_law_power" (top 32) f fd) : FnOk P w K mg base CX0 1 f fd ["_law_base", "_law_size"] spPw := by
  refine F.ok scPw (fun vs H Q E h => ?_) (fun cdv A outer s H vs Q E hr h => ?_)
  · obtain ⟨b, k, rfl, _⟩ := h
    rfl
  · obtain ⟨b, k, rfl, hb, k12, q⟩ := h
    have nd := scPw.nd
    refine ⟨_, pss_cons (ps_set (i := 2) nd rfl (.inl rfl) pe_int) (pss_cons (ps_for PassesOwn.never rfl (pi_range1 rfl (fr.h _ (by decide +kernel)) (pa_cons (pv 1) pa_nil)) (pg_name (i := 3) nd rfl (.inl rfl)) (pss_one (ps_set (i := 2) nd rfl (.inl rfl) (pe_op op_mulW (pv 2) (pv 0)))))
      (pss_one (ps_ret (pv 2)))), ?_⟩
    refine ⟨_, rfl, k, rfl, (by omega), (by omega), ?_⟩
    refine for_range (lo := 0) (n := ((k : Int)).toNat) (fun j σ H' => H' = H ∧ ∃ e, σ = [some (.int b), some (.int k), some (.int (b ^ j)), e]) ⟨rfl, none, by rw [Int.pow_zero]; rfl⟩ ?_ ?_
    · rintro j σ H' hj ⟨rfl, e, rfl⟩
      refine ⟨_, rfl, _, rfl, _, _, rfl, rfl, mulOk (pw_bits hb (show j ≤ 12 by omega)) hb (by decide) (by decide), rfl, some (.int (0 + (j : Int))), ?_⟩
      rw [Int.pow_succ]
      rfl
    · rintro σ H' ⟨rfl, e, rfl⟩
      rw [Int.toNat_natCast]
      exact ⟨_, rfl, q⟩
end
end KB

set_option Elab.async false
set_option linter.all false
set_option maxRecDepth 100000
set_option maxHeartbeats 1000000
set_option exponentiation.threshold 20000
namespace KB
open PySem PySem.Spec PyProof.Rows L2 Oo Gd Am KA
theorem six_neg (n d k : Nat) (h0 : 0 < k) (h1 : k ≤ n) : HT.sIx n d (some (-(k : Int))) = HT.sIx n d (some ((n : Int) - k)) := by
  show (if -(k : Int) < 0 then (-(k : Int) + (n : Int)).toNat else min (-(k : Int)).toNat n) = (if (n : Int) - k < 0 then ((n : Int) - k + (n : Int)).toNat else min ((n : Int) - k).toNat n)
  rw [if_pos (by omega), if_neg (by omega)]
  omega
theorem cut_hi (x : Str) (k : Nat) (h0 : 0 < k) (h1 : k ≤ x.length) : cutS x none (some (-(k : Int))) = cutS x none (some ((x.length : Int) - k)) := by
  unfold cutS
  rw [six_neg _ _ _ h0 h1]
theorem cut_lo (x : Str) (k : Nat) (h0 : 0 < k) (h1 : k ≤ x.length) : cutS x (some (-(k : Int))) none = cutS x (some ((x.length : Int) - k)) none := by
  unfold cutS
  rw [six_neg _ _ _ h0 h1]
section
variable {P : Program} {w : World} {K : W.Frag} {mg : Str → Option Value} {base : Heap} {f C : Addr} {fd : FuncData}
abbrev nDe : List Str := ["_law_near", "_law_size", "_law_whole", "_law_digits", "_law_sign"]
theorem scDe : FnScope nDe ["_law_near", "_law_size"] (defScope (top 33)) := ⟨rfl, rfl, rfl, by decide +kernel, rfl, by decide +kernel, by decide +kernel⟩
def spDe (K : W.Frag) : Sp := fun vs H Q _ => ∃ (t : Addr) (q : Rat) (k : Nat), vs = [.ref t, .int k] ∧ Pt K H t q ∧ Low 2000 q ∧ k ≤ 12 ∧ Q (.str (dec q k)) H
theorem ok_de (nb : base.NoDigits) (fr : Frees mg) (DW : Dn P w K mg base CX0 1 "_law_power" ["_law_base", "_law_size"] spPw) (F : Fun K "_law_decimal" "_law_decimal" (top 33) f fd) : FnOk P w K mg base CX0 2 f fd ["_law_near", "_law_size"] (spDe K) := by
  refine F.ok scDe (fun vs H Q E h => ?_) (fun cdv A outer s H vs Q E hr h => ?_)
  · obtain ⟨t, q, k, rfl, _⟩ := h
    rfl
  · obtain ⟨t, q, k, rfl, ht, lw, k12, z⟩ := h
    have nd := scDe.nd
    have isk : IsK K := ⟨trivial⟩
    refine ⟨_, pss_cons (ps_set (i := 2) nd rfl (.inl rfl) (pe_op op_fdivW (pe_op op_mulW (pe_ix ix_tup (pv 0) pe_int (fun _ _ => rfl)) (pe_dn DW hr (by rfl) (by decide) (pa_cons pe_int (pa_cons (pv 1) pa_nil)))) (pe_ix ix_tup (pv 0) pe_int (fun _ _ => rfl))))
      (pss_cons (ps_set (i := 3) nd rfl (.inl rfl) (pe_bm PySem.F.plainAttrs_str PySem.F.slot_str_zfill PySem.F.type_str_zfill mt_zfill
        (pe_callTy (call_strI nb rfl) rfl (fr.h _ (by decide +kernel)) (by decide +kernel) (pa_cons (pe_callB call_abs rfl (fr.h _ (by decide +kernel)) (by decide +kernel) (pa_cons (pv 2) pa_nil)) pa_nil)) (pa_cons (pe_op op_add (pv 1) pe_int) pa_nil)))
      (C8.pss_cut (ps_set (i := 4) nd rfl (.inl rfl) (pe_ifExp (pt_cmpR op_lt (pv 2) pe_int (nomark _)) pe_str pe_str))
      (pss_one (ps_ret (pe_ifExp (pt_cmpR op_eq (pv 1) pe_int (nomark _)) (pe_op op_add_str (pv 4) (pv 3)) (pe_op op_add_str (pe_op op_add_str (pe_op op_add_str (pv 4) (pe_slice sl_str (pv 3) po_none (po_some (pe_un un_neg (pv 1))))) pe_str) (pe_slice sl_str (pv 3) (po_some (pe_un un_neg (pv 1))) po_none))))))), ?_⟩
    have b10 : ((10 : Int) ^ k).natAbs < 2 ^ 40 := by
      rw [Int.natAbs_pow]
      exact Nat.lt_of_le_of_lt (Nat.pow_le_pow_right (by decide) k12) (by decide)
    have lq4 : q.num.natAbs < 2 ^ 4000 := Nat.lt_trans lw.1 (by decide)
    have sb := steps_bits lq4 k12
    obtain ⟨dl1, dl2⟩ := digs_len sb k12
    have nb8 : (if steps q k < 0 then -steps q k else steps q k).natAbs < 2 ^ 8000 := by
      have : (if steps q k < 0 then -steps q k else steps q k).natAbs = (steps q k).natAbs := by split <;> omega
      rw [this]
      exact Nat.lt_trans sb (by decide)
    have de := digs_eq (steps q k) k
    have e0 : (Str.ofString "").length = 0 := by decide
    have e2 : (Str.ofString "-").length = 1 := by decide
    have e3 : (Str.ofString ".").length = 1 := by decide
    have ml : (mark (steps q k)).length ≤ 1 := by
      unfold mark
      split
      · rw [e2]; exact Nat.le_refl _
      · rw [e0]; exact Nat.zero_le _
    have big := line_ge
    have pad : PadOk ((k : Int) + 1) = true := by
      have : ∀ j : Nat, j ≤ 12 → PadOk ((j : Int) + 1) = true := by decide +kernel
      exact this k k12
    unfold dec at z
    refine ⟨_, rfl, _, _, 0, _, rfl, rfl, ht, rfl, _, rfl, 10, k, rfl, by decide, k12, _, _, rfl, rfl, mulOk lq4 b10 (by decide) (by decide), _, rfl, _, _, 1, _, rfl, rfl, ht, rfl, _, _, rfl, rfl, ⟨den_pos q, bits (KA.low_den lw) (by decide)⟩, ?_⟩
    show tSeq _ _ _ [some (V.ref t), some (V.int k), some (V.int (steps q k)), none, none] H
    refine ⟨_, rfl, _, rfl, _, rfl, nb8, rfl, _, rfl, _, _, rfl, rfl, _, _, rfl, rfl, pad, ?_⟩
    rw [de]
    generalize hdg : digs (steps q k) k = dg at z dl1 dl2
    refine ⟨fun σ H2 => H2 = H ∧ σ = [some (V.ref t), some (V.int k), some (V.int (steps q k)), some (V.str dg), some (V.str (mark (steps q k)))], ?_, ?_⟩
    · refine ⟨_, rfl, _, _, rfl, rfl, _, rfl, ite2 (fun h => ?_) (fun h => ?_)⟩
      · have h' : steps q k < 0 := by simpa using h
        refine ⟨rfl, ?_⟩
        unfold mark
        rw [if_pos h']
        rfl
      · have h' : ¬ steps q k < 0 := by simpa using h
        refine ⟨rfl, ?_⟩
        unfold mark
        rw [if_neg h']
        rfl
    · rintro σ H2 ⟨rfl, rfl⟩
      refine ⟨_, rfl, rfl, _, rfl, ite2 (fun h => ?_) (fun h => ?_)⟩
      · have k0 : k = 0 := by simpa using h
        rw [if_pos k0] at z
        exact ⟨_, rfl, _, rfl, _, _, rfl, rfl, (by omega), z⟩
      · have k0 : ¬ k = 0 := by simpa using h
        rw [if_neg k0] at z
        have c1 := cut_len dg none (some ((dg.length : Int) - k))
        have c2 := cut_len dg (some ((dg.length : Int) - k)) none
        rw [← cut_hi dg k (by omega) (by omega), ← cut_lo dg k (by omega) (by omega)] at z
        rw [← cut_hi dg k (by omega) (by omega)] at c1
        rw [← cut_lo dg k (by omega) (by omega)] at c2
        refine ⟨_, rfl, _, rfl, _, rfl, _, rfl, _, rfl, _, rfl, (by omega), _, _, rfl, rfl, ?_, _, _, rfl, rfl, ?_, _, rfl, _, rfl, _, rfl, _, rfl, _, rfl, (by omega), _, _, rfl, rfl, ?_, z⟩ <;> first | omega | (simp only [strLen_append, e3]; omega)
end
end KB

set_option Elab.async false
set_option linter.all false
set_option maxRecDepth 100000
set_option maxHeartbeats 1000000
set_option exponentiation.threshold 20000
namespace KB
open PySem PySem.Spec PyProof.Rows L2 Oo Gd Am KA
theorem never_call {X : Cx} {f : Value} : CallR X f (fun _ _ _ => False) := fun _ _ _ _ _ _ _ _ _ h => h.elim
theorem ps_exists {X : Cx} {st : Stmt} {α : Type _} {t : α → TS} (h : ∀ a, PS X st (t a)) : PS X st (fun D σ H => ∃ a, t a D σ H) := ⟨fun pins s σ H D I ⟨a, z⟩ => (h a).run pins s σ H D I z⟩
theorem ps_cond {X : Cx} {st : Stmt} {p : Prop} {t : TS} (h : p → PS X st t) : PS X st (fun D σ H => p ∧ t D σ H) := ⟨fun pins s σ H D I ⟨a, z⟩ => (h a).run pins s σ H D I z⟩
theorem ps_of {X : Cx} {st : Stmt} {t t' : TS} (h : PS X st t) (e : ∀ D σ H, t' D σ H → t D σ H) : PS X st t' := ⟨fun pins s σ H D I z => h.run pins s σ H D I (e D σ H z)⟩
structure Er (K : W.Frag) (C : Addr) (fld : Str) : Prop where
  xf : XfC K C
  no : W.findIn K (.ref C) fld = some none
  ea : Ge.EA K C
/-- the errors that told tells apart -/
structure Tq (K : W.Frag) (mg : Str → Option Value) (Z WA WC ZA ZF : Addr) : Prop where
  mZ : mg "DividedByZero" = some (.ref Z)
  mA : mg "InvalidAmount" = some (.ref WA)
  mC : mg "InvalidCount" = some (.ref WC)
  mZA : mg "AmountError" = some (.ref ZA)
  mZF : mg "FormError" = some (.ref ZF)
  eZ : Er K Z "rule"
  eA : Er K WA "value"
  eC : Er K WC "value"
  xZ : W.exmOne K (.ref Z) (.ref ZA) = some true
  xA0 : W.exmOne K (.ref WA) (.ref ZA) = some false
  xA : W.exmOne K (.ref WA) (.ref ZF) = some true
  xC0 : W.exmOne K (.ref WC) (.ref ZA) = some false
  xC : W.exmOne K (.ref WC) (.ref ZF) = some true
  kZ : W.kitOne K (.ref Z) (.ref Z) = some true
  kA : W.kitOne K (.ref WA) (.ref WA) = some true
  kCA : W.kitOne K (.ref WC) (.ref WA) = some false
  kC : W.kitOne K (.ref WC) (.ref WC) = some true
abbrev nTo : List Str := ["_law_call", "_law_told_here", "e"]
theorem scTo : FnScope nTo ["_law_call"] (defScope (top 28)) := ⟨rfl, rfl, rfl, by decide +kernel, rfl, by decide +kernel, by decide +kernel⟩
/-- told: the error of the class at C, which tells v -/
def TTo (C : Addr) (fld : Str) (v : V) (pre : Str) : (XK → Hp → VK → Prop) → Hp → VK → Prop := fun tl H Q =>
  ∀ Q', tl (fun cls d H' => cls = .ref C ∧ ∃ dx, d = some dx ∧ H' dx = some (.xd [(fld, v)]) ∧ ∃ as n T, Rp H' as n v T ∧ n ≤ 40 ∧ T.length ≤ 100000 ∧ Q (.str (pre ++ T)) H') H Q'
def TTt (Z WA WC : Addr) : (XK → Hp → VK → Prop) → Hp → VK → Prop := fun tl H Q => TTo Z "rule" .non "zero " tl H Q ∨ (∃ v, TTo WA "value" v "amount " tl H Q) ∨ ∃ v, TTo WC "value" v "count " tl H Q
theorem told_gives {X : Cx} {Z WA WC ZA ZF g : Addr} {cdg : Value} {q : Str} {k : Nat} (tq : Tq X.K X.mg Z WA WC ZA ZF) (fr : Frees X.mg) (hG : Bare X.A) (hr : Room (k + 1) X.A) :
    LamX.GivesTo X nTo "_law_told" (defScope (top 28)) g cdg (defBody (top 28)) "_law_call" q (TTt Z WA WC) := by
  intro f c' s H Q tl act hc h
  have nd := scTo.nd
  have isk : IsK X.K := ⟨trivial⟩
  have hr2 := hr.deeper (envOfC "_law_told" (defScope (top 28)) s.heap.objs.size g cdg)
  have gl : ∀ {x : Str} {a : Addr}, X.mg x = some (.ref a) → X.mg x = some (.ref a) := fun h => h
  refine ⟨_, pss_cons (ps_set (i := 1) nd rfl (.inl rfl) pe_str) (pss_cons
    (Gx.ps_tryAs (i := 2) (tb := fun W D σ H => ∃ Ech : XK, (∀ cls d σ' H', Ech cls d H' → σ'.length = 3 → W cls d σ' H') ∧ σ[0]? = some (some (.ref f)) ∧ H c' = some (LamX.CodeO c' q) ∧ tl Ech H fun _ _ => False) (Wout := fun _ _ _ _ => False) rfl rfl nd rfl rfl takes0 (fun W pn xe tk => ?b1)
      (.cons (c := .ref ZA) ⟨rfl, by decide, .inl tq.mZA⟩ (fun a oe cls d pn z hv => pss_one (ps_set (i := 1) nd rfl (.inl rfl)
        (pe_ifExp (pt_val (pe_callB (heldK isk List.mem_cons_self z hv) rfl (fr.h _ (by decide +kernel)) (by decide +kernel) (pa_cons (pv 2) (pa_cons (pe_glob (v := V.ref Z) rfl tq.mZ rfl) pa_nil))))
          (pe_op op_add_str pe_str (pe_callB (call_reprU ?g1 ?u1) rfl (fr.h _ (by decide +kernel)) (by decide +kernel) (pa_cons (pe_xf tq.eZ.xf tq.eZ.no z hv (pv 2)) pa_nil))) pe_str)))
      (.cons (c := .ref ZF) ⟨rfl, by decide, .inl tq.mZF⟩ (fun a oe cls d pn z hv => pss_cons (ps_set (i := 1) nd rfl (.inl rfl) pe_str)
        (pss_one (ps_if (pt_val (pe_callB (heldK isk List.mem_cons_self z hv) rfl (fr.h _ (by decide +kernel)) (by decide +kernel) (pa_cons (pv 2) (pa_cons (pe_glob (v := V.ref WA) rfl tq.mA rfl) pa_nil))))
          (pss_one (ps_set (i := 1) nd rfl (.inl rfl) (pe_op op_add_str pe_str (pe_callB (call_reprU ?g2 ?u2) rfl (fr.h _ (by decide +kernel)) (by decide +kernel) (pa_cons (pe_xf tq.eA.xf tq.eA.no z hv (pv 2)) pa_nil)))))
          (pss_one (ps_if (pt_val (pe_callB (heldK isk List.mem_cons_self z hv) rfl (fr.h _ (by decide +kernel)) (by decide +kernel) (pa_cons (pv 2) (pa_cons (pe_glob (v := V.ref WC) rfl tq.mC rfl) pa_nil))))
            (pss_one (ps_set (i := 1) nd rfl (.inl rfl) (pe_op op_add_str pe_str (pe_callB (call_reprU ?g3 ?u3) rfl (fr.h _ (by decide +kernel)) (by decide +kernel) (pa_cons (pe_xf tq.eC.xf tq.eC.no z hv (pv 2)) pa_nil)))))
            pss_nil))))) .nil))) (pss_one (ps_ret (pv 1)))), ?r⟩
  case b1 =>
    refine pss_one ?_
    refine ps_exists fun Ech => ?_
    refine ps_cond fun hW => ?_
    refine ps_of (ps_set (i := 1) nd rfl (.inl rfl) (pe_callB (never_call (f := .builtin "repr")) rfl (fr.h _ (by decide +kernel)) (by decide +kernel) (pa_cons (act (fun cls d σ' H' => σ'.length = 3 → W cls d σ' H') pn xe Ech _ _ (takes_len tk) hW) pa_nil))) (fun D σ H h => h)
  case g1 => exact hG
  case u1 => exact hr2.units
  case g2 => exact hG
  case u2 => exact hr2.units
  case g3 => exact hG
  case u3 => exact hr2.units
  case r =>
    have sz : (200000 : Nat) ≤ sizeLine := by decide
    rcases h with h | ⟨v, h⟩ | ⟨v, h⟩
    · refine ⟨_, ?_, rfl, hc, h _⟩
      rintro cls d σ' H' ⟨rfl, dx, rfl, hdx, as, n, T, rp, hn, hT, z⟩ hl
      obtain ⟨x0, x1, x2, rfl⟩ : ∃ x0 x1 x2, σ' = [x0, x1, x2] := by
        match σ', hl with
        | [x0, x1, x2], _ => exact ⟨x0, x1, x2, rfl⟩
      have hh : ∀ dy, some dx = some dy → ∃ fs, H' dy = some (.xd fs) := fun dy e => ⟨_, by cases e; exact hdx⟩
      have k1 : (Str.ofString "zero ").length = 5 := by decide
      refine ⟨true, tq.xZ, fun _ a na => ?_, fun e => absurd e (by decide)⟩
      exact ⟨_, rfl, Z, _, true, rfl, rfl, tq.eZ.ea, hh, .inl ⟨_, .own Z, tq.kZ⟩, _, rfl, iteT ⟨_, rfl, rfl, rfl, dx, _, .non, rfl, hdx, rfl, .non, as, n, T, rfl, rp, hn, by omega, _, _, rfl, rfl, (by rw [k1]; omega), _, rfl, z⟩⟩
    · refine ⟨_, ?_, rfl, hc, h _⟩
      rintro cls d σ' H' ⟨rfl, dx, rfl, hdx, as, n, T, rp, hn, hT, z⟩ hl
      obtain ⟨x0, x1, x2, rfl⟩ : ∃ x0 x1 x2, σ' = [x0, x1, x2] := by
        match σ', hl with
        | [x0, x1, x2], _ => exact ⟨x0, x1, x2, rfl⟩
      have hh : ∀ dy, some dx = some dy → ∃ fs, H' dy = some (.xd fs) := fun dy e => ⟨_, by cases e; exact hdx⟩
      have k1 : (Str.ofString "amount ").length = 7 := by decide
      refine ⟨false, tq.xA0, fun e => absurd e (by decide), fun _ => ?_⟩
      refine ⟨true, tq.xA, fun _ a na => ?_, fun e => absurd e (by decide)⟩
      exact ⟨_, rfl, WA, _, true, rfl, rfl, tq.eA.ea, hh, .inl ⟨_, .own WA, tq.kA⟩, _, rfl, iteT ⟨_, rfl, rfl, rfl, dx, _, v, rfl, hdx, rfl, v, as, n, T, rfl, rp, hn, by omega, _, _, rfl, rfl, (by rw [k1]; omega), _, rfl, z⟩⟩
    · refine ⟨_, ?_, rfl, hc, h _⟩
      rintro cls d σ' H' ⟨rfl, dx, rfl, hdx, as, n, T, rp, hn, hT, z⟩ hl
      obtain ⟨x0, x1, x2, rfl⟩ : ∃ x0 x1 x2, σ' = [x0, x1, x2] := by
        match σ', hl with
        | [x0, x1, x2], _ => exact ⟨x0, x1, x2, rfl⟩
      have hh : ∀ dy, some dx = some dy → ∃ fs, H' dy = some (.xd fs) := fun dy e => ⟨_, by cases e; exact hdx⟩
      have k1 : (Str.ofString "count ").length = 6 := by decide
      refine ⟨false, tq.xC0, fun e => absurd e (by decide), fun _ => ?_⟩
      refine ⟨true, tq.xC, fun _ a na => ?_, fun e => absurd e (by decide)⟩
      exact ⟨_, rfl, WC, _, false, rfl, rfl, tq.eC.ea, hh, .inl ⟨_, .own WA, tq.kCA⟩, _, rfl, iteF ⟨_, rfl, WC, _, true, rfl, rfl, tq.eC.ea, hh, .inl ⟨_, .own WC, tq.kC⟩, _, rfl, iteT ⟨_, rfl, rfl, rfl, dx, _, v, rfl, hdx, rfl, v, as, n, T, rfl, rp, hn, by omega, _, _, rfl, rfl, (by rw [k1]; omega), _, rfl, z⟩⟩⟩
end KB

set_option Elab.async false
set_option linter.all false
set_option maxRecDepth 100000
set_option maxHeartbeats 2000000
set_option exponentiation.threshold 20000
namespace KB
open PySem PySem.Spec PyProof.Rows L2 Oo Gd Am KA
theorem le_not_lt (q p : Rat) : decide (q ≤ p) = !decide (p < q) := by
  by_cases h : p < q
  · rw [decide_eq_true h, decide_eq_false (Rat.not_le.mpr h)]
    rfl
  · rw [decide_eq_false h, decide_eq_true (Rat.not_lt.mp h)]
    rfl
theorem eqv_pair (q p : Rat) : PyData.eqv (.tuple [.int q.num, .int q.den]) (.tuple [.int p.num, .int p.den]) = decide (q = p) := by
  by_cases h : q = p
  · subst h
    rw [decide_eq_true rfl]
    simp only [PyData.eqv, PyData.eqvAll, beq_self_eq_true, Bool.and_self]
  · rw [decide_eq_false h]
    simp only [PyData.eqv, PyData.eqvAll, Bool.and_true]
    rw [Bool.eq_false_iff]
    intro z
    simp only [Bool.and_eq_true, beq_iff_eq] at z
    exact h (Rat.ext z.1 (Int.ofNat.inj z.2))
def four (q p : Rat) : List V := [.bl (decide (q < p)), .bl (!decide (p < q)), .bl (decide (p < q)), .bl (!decide (q < p))]
theorem four_dp {K : W.Frag} {H : Hp} (q p : Rat) : DpAll K H (four q p) [.bool (decide (q < p)), .bool (!decide (p < q)), .bool (decide (p < q)), .bool (!decide (q < p))] := .cons (.bl _) (.cons (.bl _) (.cons (.bl _) (.cons (.bl _) .nil)))
theorem four_sh (a b c d : Bool) : SeqAt.shaped (.list [.bool a, .bool b, .bool c, .bool d]) = true := by
  unfold SeqAt.shaped
  simp only [PyData.canLay0, PyData.canLayAll0, PyData.depth, PyData.depthAll, Bool.and_self, Nat.max_self, Bool.true_and]
  decide
theorem pair_sh (i j : Int) : SeqAt.shaped (.tuple [.int i, .int j]) = true := by
  unfold SeqAt.shaped
  simp only [PyData.canLay0, PyData.canLayAll0, PyData.depth, PyData.depthAll, Bool.and_self, Nat.max_self, Bool.true_and]
  decide
theorem pair_dp {K : W.Frag} {H : Hp} {t : Addr} {q : Rat} (h : Pt K H t q) : Dp K H (.ref t) (.tuple [.int q.num, .int q.den]) := .tup h (.cons (.int _) (.cons (.int _) .nil))
theorem two_rp {H : Hp} (a b : Bool) : RpAll H [.bl a, .bl b] [if a = true then Str.ofString "True" else Str.ofString "False", if b = true then Str.ofString "True" else Str.ofString "False"] := .cons (.bl a) (by split <;> decide) (.cons (.bl b) (by split <;> decide) .nil)
theorem sz_low {n : Nat} {q : Rat} (h : Low n q) (l : n ≤ 900) : Sz q := by
  have := h.more l
  exact this.more (by decide)
section
variable {P : Program} {w : World} {K : W.Frag} {mg : Str → Option Value} {base : Heap} {f C Wc : Addr} {fd : FuncData}
/-- the four comparisons of Amounts -/
structure Fo (P : Program) (w : World) (K : W.Frag) (mg : Str → Option Value) (base : Heap) (C Wc : Addr) : Prop where
  pl : Plain K C
  lt : CmpD P w K mg base C Wc "__lt__" fun q p => decide (q < p)
  le : CmpD P w K mg base C Wc "__le__" fun q p => !decide (p < q)
  gt : CmpD P w K mg base C Wc "__gt__" fun q p => decide (p < q)
  ge : CmpD P w K mg base C Wc "__ge__" fun q p => !decide (q < p)
structure Pq (P : Program) (w : World) (K : W.Frag) (mg : Str → Option Value) (base : Heap) (C Wc : Addr) : Prop where
  fr : Frees mg
  DA : Dn P w K mg base CX0 4 "_law_amount" ["_law_part"] (spAmt K C)
  DL : Dn P w K mg base CX0 1 "_law_is_less" ["_law_near", "_law_far"] (spLess K)
  fo : Fo P w K mg base C Wc
  EQ : EqF P w K mg base C
  EO : EqO P w K mg base C
end
section
variable {X : Cx} {C Wc : Addr}
theorem o_lt (D : Fo X.prog X.w X.K X.mg X.base C Wc) (hr : Room 7 X.A) : OpR X (compareOp .Lt) (rNC C fun q p => decide (q < p)) := op_NC (.inl rfl) (fun _ _ => rfl) D.pl D.lt D.gt hr
theorem o_le (D : Fo X.prog X.w X.K X.mg X.base C Wc) (hr : Room 7 X.A) : OpR X (compareOp .LtE) (rNC C fun q p => !decide (p < q)) := op_NC (.inr (.inl rfl)) (fun _ _ => rfl) D.pl D.le D.ge hr
theorem o_gt (D : Fo X.prog X.w X.K X.mg X.base C Wc) (hr : Room 7 X.A) : OpR X (compareOp .Gt) (rNC C fun q p => decide (p < q)) := op_NC (.inr (.inr (.inl rfl))) (fun _ _ => rfl) D.pl D.gt D.lt hr
theorem o_ge (D : Fo X.prog X.w X.K X.mg X.base C Wc) (hr : Room 7 X.A) : OpR X (compareOp .GtE) (rNC C fun q p => !decide (q < p)) := op_NC (.inr (.inr (.inr rfl))) (fun _ _ => rfl) D.pl D.ge D.le hr
end
section
variable {P : Program} {w : World} {K : W.Frag} {mg : Str → Option Value} {base : Heap} {f C Wc : Addr} {fd : FuncData}
abbrev nPr : List Str := ["_law_near", "_law_far", "_law_a", "_law_b", "_law_due", "_law_whole"]
theorem scPr : FnScope nPr ["_law_near", "_law_far"] (defScope (top 29)) := ⟨rfl, rfl, rfl, by decide +kernel, rfl, by decide +kernel, by decide +kernel⟩
def spPr (K : W.Frag) : Sp := fun vs H Q _ => ∃ t u q p, vs = [.ref t, .ref u] ∧ Pt K H t q ∧ Pt K H u p ∧ Low 142 q ∧ Low 142 p ∧ ∀ H', Am.Ext H H' → Q (.bl true) H'
theorem ok_pair (T : Pq P w K mg base C Wc) (F : Fun K "_law_pair_right" "_law_pair_right" (top 29) f fd) : FnG P w K mg base CX0 8 f fd ["_law_near", "_law_far"] (spPr K) := by
  refine Gd.okG F scPr (fun vs H Q E h => ?_) (fun cdv A outer s H vs Q E hG hr h => ?_)
  · obtain ⟨t, u, q, p, rfl, _⟩ := h
    rfl
  · obtain ⟨t, u, q, p, rfl, ht, hu, lq, lp, z⟩ := h
    have nd := scPr.nd
    have fr := T.fr
    refine ⟨_, pss_cons (ps_par (i := 2) (j := 3) rfl nd rfl rfl (by decide) rfl rfl (pa_cons (pe_dn T.DA hr (by rfl) (by decide) (pa_cons (pv 0) pa_nil)) (pa_cons (pe_dn T.DA hr (by rfl) (by decide) (pa_cons (pv 1) pa_nil)) pa_nil)) (by rfl))
      (pss_cons (ps_set (i := 4) nd rfl (.inl rfl) (pe_lst (pa_cons (pe_dn T.DL hr (by rfl) (by decide) (pa_cons (pv 0) (pa_cons (pv 1) pa_nil))) (pa_cons (pe_not (pe_dn T.DL hr (by rfl) (by decide) (pa_cons (pv 1) (pa_cons (pv 0) pa_nil)))) (pa_cons (pe_dn T.DL hr (by rfl) (by decide) (pa_cons (pv 1) (pa_cons (pv 0) pa_nil))) (pa_cons (pe_not (pe_dn T.DL hr (by rfl) (by decide) (pa_cons (pv 0) (pa_cons (pv 1) pa_nil)))) pa_nil))))))
      (pss_cons (ps_if (PW.pt (pw_or (pt_cmpR (op_neD hr.units) (pe_lst (pa_cons (pe_cmpR (o_lt T.fo hr) (pv 2) (pv 3) (nomark _)) (pa_cons (pe_cmpR (o_le T.fo hr) (pv 2) (pv 3) (nomark _)) (pa_cons (pe_cmpR (o_gt T.fo hr) (pv 2) (pv 3) (nomark _)) (pa_cons (pe_cmpR (o_ge T.fo hr) (pv 2) (pv 3) (nomark _)) pa_nil))))) (pv 4) (nomark _))
        (pw_or1 (pt_cmpR (op_neD hr.units) (pe_lst (pa_cons (pe_cmpR (o_gt T.fo hr) (pv 3) (pv 2) (nomark _)) (pa_cons (pe_cmpR (o_ge T.fo hr) (pv 3) (pv 2) (nomark _)) (pa_cons (pe_cmpR (o_lt T.fo hr) (pv 3) (pv 2) (nomark _)) (pa_cons (pe_cmpR (o_le T.fo hr) (pv 3) (pv 2) (nomark _)) pa_nil))))) (pv 4) (nomark _))))) (pss_one (ps_ret pe_bl)) pss_nil)
      (pss_cons (ps_if (pt_cmpR op_ne (pe_callB (call_repr hG hr) rfl (fr.h _ (by decide +kernel)) (by decide +kernel) (pa_cons (pe_lst (pa_cons (pe_cmpR (op_eqO (k := 5) T.EQ hr) (pv 2) (pv 3) (nomark _)) (pa_cons (pe_cmpR (op_neO (k := 5) T.EQ hr) (pv 2) (pv 3) (nomark _)) pa_nil))) pa_nil))
        (pe_callB (call_repr hG hr) rfl (fr.h _ (by decide +kernel)) (by decide +kernel) (pa_cons (pe_lst (pa_cons (pe_cmpR (op_eqD hr.units) (pv 0) (pv 1) (nomark _)) (pa_cons (pe_cmpR (op_neD hr.units) (pv 0) (pv 1) (nomark _)) pa_nil))) pa_nil)) (nomark _)) (pss_one (ps_ret pe_bl)) pss_nil)
      (pss_cons (ps_if (pt_cmpR op_eq (pe_ix ix_tup (pv 1) pe_int (fun _ _ => rfl)) pe_int (nomark _))
        (pss_cons (ps_set (i := 5) nd rfl (.inl rfl) (pe_ix ix_tup (pv 1) pe_int (fun _ _ => rfl)))
        (pss_cons (ps_if (PW.pt (pw_or (pt_cmpR (op_neD hr.units) (pe_lst (pa_cons (pe_cmpR (o_lt T.fo hr) (pv 2) (pv 5) (nomark _)) (pa_cons (pe_cmpR (o_le T.fo hr) (pv 2) (pv 5) (nomark _)) (pa_cons (pe_cmpR (o_gt T.fo hr) (pv 2) (pv 5) (nomark _)) (pa_cons (pe_cmpR (o_ge T.fo hr) (pv 2) (pv 5) (nomark _)) pa_nil))))) (pv 4) (nomark _))
          (pw_or (pt_cmpR (op_eqX (k := 5) T.EO hr) (pv 2) (pv 5) (nomark _)) (pw_or1 (pt_cmpR (op_eqI (k := 5) T.fo.pl T.EO hr) (pv 5) (pv 2) (nomark _)))))) (pss_one (ps_ret pe_bl)) pss_nil)
        (pss_one (ps_ret (pe_and (pe_cmpR (op_eqD hr.units) (pe_lst (pa_cons (pe_cmpR (o_gt T.fo hr) (pv 5) (pv 2) (nomark _)) (pa_cons (pe_cmpR (o_ge T.fo hr) (pv 5) (pv 2) (nomark _)) (pa_cons (pe_cmpR (o_lt T.fo hr) (pv 5) (pv 2) (nomark _)) (pa_cons (pe_cmpR (o_le T.fo hr) (pv 5) (pv 2) (nomark _)) pa_nil))))) (pv 4) (nomark _))
          (pe_one (pe_cmpR (op_neX (k := 5) T.EO hr) (pv 2) (pv 5) (nomark _)))))))) pss_nil)
      (pss_one (ps_ret pe_bl)))))), ?_⟩
    have one : ∀ {H1 : Hp} {a : Addr} {r : Rat}, Is C H1 a r → Num C H1 (.ref a) r := fun i => Num.is i
    have sq := sz_low lq (by decide)
    have sp := sz_low lp (by decide)
    refine ⟨_, rfl, t, q, rfl, ht, lq.more (by decide), fun a H1 e1 n1 i1 => ?_⟩
    refine ⟨_, rfl, u, p, rfl, Pt.ext hu e1, lp.more (by decide), fun b H2 e2 n2 i2 => ⟨_, _, rfl, ?_⟩⟩
    replace i1 := i1.ext e2
    replace e2 := e1.trans e2
    clear n1 n2 e1
    have ht2 := Pt.ext ht e2
    have hu2 := Pt.ext hu e2
    show tSeq _ _ _ [some (.ref t), some (.ref u), some (.ref a), some (.ref b), none, none] H2
    refine ⟨_, rfl, _, rfl, t, u, q, p, rfl, ht2, hu2, lq.more (by decide), lp.more (by decide), _, rfl, _, rfl, u, t, p, q, rfl, hu2, ht2, lp.more (by decide), lq.more (by decide), _, rfl, _, rfl, _, rfl, u, t, p, q, rfl, hu2, ht2, lp.more (by decide), lq.more (by decide), _, rfl, _, rfl, t, u, q, p, rfl, ht2, hu2, lq.more (by decide), lp.more (by decide), _, rfl, (by show 4 ≤ sizeLine; decide), fun D hD => ?_⟩
    have e3 : Am.Ext H2 (upd H2 D (.lst (four q p))) := Am.Ext.new hD
    have hD3 : (upd H2 D (.lst (four q p))) D = some (.lst (four q p)) := upd_same
    show tSeq _ _ _ [some (.ref t), some (.ref u), some (.ref a), some (.ref b), some (.ref D), none] (upd H2 D (.lst (four q p)))
    generalize upd H2 D (.lst (four q p)) = H3 at e3 hD3 ⊢
    have a3 := i1.ext e3
    have b3 := i2.ext e3
    have w3 := e2.trans e3
    have ht3 := Pt.ext ht w3
    have hu3 := Pt.ext hu w3
    refine ⟨_, rfl, _, rfl, q, p, one a3, one b3, .inl ⟨a, rfl⟩, sq, sp, fun H4 e4 => ?_⟩
    refine ⟨_, rfl, _, rfl, q, p, one (a3.ext e4), one (b3.ext e4), .inl ⟨a, rfl⟩, sq, sp, fun H5 e5 => ?_⟩
    replace e5 := e4.trans e5
    refine ⟨_, rfl, _, rfl, q, p, one (a3.ext e5), one (b3.ext e5), .inl ⟨a, rfl⟩, sq, sp, fun H6 e6 => ?_⟩
    replace e6 := e5.trans e6
    refine ⟨_, rfl, _, rfl, q, p, one (a3.ext e6), one (b3.ext e6), .inl ⟨a, rfl⟩, sq, sp, fun H7 e7 => ?_⟩
    replace e7 := e6.trans e7
    clear e4 e5 e6
    refine ⟨(by show 4 ≤ sizeLine; decide), fun L hL => ⟨_, rfl, ?_⟩⟩
    have e8 := e7.trans (Am.Ext.new (o := .lst (four q p)) hL)
    have hL8 : (upd H7 L (.lst (four q p))) L = some (.lst (four q p)) := upd_same
    refine ned_same (H := upd H7 L (.lst (four q p))) (xs := four q p) (SqL.of hL8) (SqL.of (e8 _ _ hD3)) (four_dp q p) (four_sh _ _ _ _) ?_
    refine ⟨_, rfl, iteF ?_⟩
    generalize upd H7 L (.lst (four q p)) = H8 at e8 hL8 ⊢
    clear hL8 hL e7
    have a8 := a3.ext e8
    have b8 := b3.ext e8
    refine ⟨_, rfl, _, rfl, p, q, one b8, one a8, .inl ⟨b, rfl⟩, sp, sq, fun H4 e4 => ?_⟩
    refine ⟨_, rfl, _, rfl, p, q, one (b8.ext e4), one (a8.ext e4), .inl ⟨b, rfl⟩, sp, sq, fun H5 e5 => ?_⟩
    replace e5 := e4.trans e5
    refine ⟨_, rfl, _, rfl, p, q, one (b8.ext e5), one (a8.ext e5), .inl ⟨b, rfl⟩, sp, sq, fun H6 e6 => ?_⟩
    replace e6 := e5.trans e6
    refine ⟨_, rfl, _, rfl, p, q, one (b8.ext e6), one (a8.ext e6), .inl ⟨b, rfl⟩, sp, sq, fun H7 e7 => ?_⟩
    replace e7 := (e8.trans e6).trans e7
    clear e4 e5 e6
    refine ⟨(by show 4 ≤ sizeLine; decide), fun L hL => ⟨_, rfl, ?_⟩⟩
    have e9 := e7.trans (Am.Ext.new (o := .lst (four q p)) hL)
    have hL9 : (upd H7 L (.lst (four q p))) L = some (.lst (four q p)) := upd_same
    refine ned_same (H := upd H7 L (.lst (four q p))) (xs := four q p) (SqL.of hL9) (SqL.of (e9 _ _ hD3)) (four_dp q p) (four_sh _ _ _ _) ?_
    refine ⟨_, rfl, iteF ?_⟩
    generalize upd H7 L (.lst (four q p)) = H9 at e9 hL9 ⊢
    clear hL9 hL e7 e8 a8 b8
    have a9 := a3.ext e9
    have b9 := b3.ext e9
    refine ⟨_, rfl, _, rfl, a, b, q, p, rfl, rfl, a9, b9, _, rfl, _, rfl, a, b, q, p, rfl, rfl, a9, b9, (by show 2 ≤ sizeLine; decide), fun L hL => ?_⟩
    refine ⟨.ref L, [L], 1, _, rfl, rpL upd_same (two_rp (decide (q = p)) (!decide (q = p))), by decide, rpz (two_rp (H := H9) (decide (q = p)) (!decide (q = p))) (by show 2 ≤ 30; decide), ?_⟩
    replace e9 := e9.trans (Am.Ext.new (o := .lst [V.bl (decide (q = p)), .bl (!decide (q = p))]) hL)
    have ht9 := Pt.ext ht3 e9
    have hu9 := Pt.ext hu3 e9
    refine ⟨_, rfl, _, rfl, _, _, pair_dp ht9, pair_dp hu9, pair_sh _ _, pair_sh _ _, _, rfl, _, rfl, _, _, pair_dp ht9, pair_dp hu9, pair_sh _ _, pair_sh _ _, ?_⟩
    rw [eqv_pair]
    refine ⟨(by show 2 ≤ sizeLine; decide), fun M hM => ?_⟩
    refine ⟨.ref M, [M], 1, _, rfl, rpL upd_same (two_rp (decide (q = p)) (!decide (q = p))), by decide, rpz (two_rp (H := H9) (decide (q = p)) (!decide (q = p))) (by show 2 ≤ 30; decide), ?_⟩
    refine ne_str _ ⟨_, rfl, iteF ?_⟩
    replace e9 := e9.trans (Am.Ext.new (o := .lst [V.bl (decide (q = p)), .bl (!decide (q = p))]) hM)
    clear ht9 hu9 a9 b9
    generalize (upd (upd _ L _) M _) = H9 at e9 ⊢
    clear hL hM
    have a9 := a3.ext e9
    have hu9 := Pt.ext hu3 e9
    refine ⟨_, rfl, _, _, 1, _, rfl, rfl, hu9, rfl, rfl, _, rfl, ite2 (fun hd => ?_) (fun hd => ?_)⟩
    · have d1 : (p.den : Int) = 1 := by
        have := of_decide_eq_true hd
        exact V.int.inj this
      have nw : ∀ {H1 : Hp}, Num C H1 (.int p.num) p := fun {H1} => .inl ⟨p.num, rfl, int_of d1⟩
      refine ⟨_, rfl, _, _, 0, _, rfl, rfl, hu9, rfl, ?_⟩
      show tSeq _ _ _ [some (.ref t), some (.ref u), some (.ref a), some (.ref b), some (.ref D), some (.int p.num)] H9
      refine ⟨_, rfl, _, rfl, q, p, one a9, nw, .inl ⟨a, rfl⟩, sq, sp, fun H4 e4 => ?_⟩
      refine ⟨_, rfl, _, rfl, q, p, one (a9.ext e4), nw, .inl ⟨a, rfl⟩, sq, sp, fun H5 e5 => ?_⟩
      replace e5 := e4.trans e5
      refine ⟨_, rfl, _, rfl, q, p, one (a9.ext e5), nw, .inl ⟨a, rfl⟩, sq, sp, fun H6 e6 => ?_⟩
      replace e6 := e5.trans e6
      refine ⟨_, rfl, _, rfl, q, p, one (a9.ext e6), nw, .inl ⟨a, rfl⟩, sq, sp, fun H7 e7 => ?_⟩
      replace e7 := (e9.trans e6).trans e7
      clear e4 e5 e6
      refine ⟨(by show 4 ≤ sizeLine; decide), fun L hL => ⟨_, rfl, ?_⟩⟩
      have e8 := e7.trans (Am.Ext.new (o := .lst (four q p)) hL)
      have hL8 : (upd H7 L (.lst (four q p))) L = some (.lst (four q p)) := upd_same
      refine ned_same (H := upd H7 L (.lst (four q p))) (xs := four q p) (SqL.of hL8) (SqL.of (e8 _ _ hD3)) (four_dp q p) (four_sh _ _ _ _) ?_
      have a8 := a3.ext e8
      refine ⟨_, rfl, iteF ⟨_, rfl, _, rfl, a, q, _, rfl, a8, .int _, _, rfl, iteF ⟨_, rfl, _, rfl, _, a, q, rfl, rfl, a8, _, rfl, iteF ?_⟩⟩⟩
      refine ⟨_, rfl, _, rfl, p, q, nw, one a8, .inr ⟨a, rfl⟩, sp, sq, fun H4 e4 => ?_⟩
      refine ⟨_, rfl, _, rfl, p, q, nw, one (a8.ext e4), .inr ⟨a, rfl⟩, sp, sq, fun H5 e5 => ?_⟩
      replace e5 := e4.trans e5
      refine ⟨_, rfl, _, rfl, p, q, nw, one (a8.ext e5), .inr ⟨a, rfl⟩, sp, sq, fun H6 e6 => ?_⟩
      replace e6 := e5.trans e6
      refine ⟨_, rfl, _, rfl, p, q, nw, one (a8.ext e6), .inr ⟨a, rfl⟩, sp, sq, fun H8 e8' => ?_⟩
      replace e8' := (e8.trans e6).trans e8'
      clear e4 e5 e6
      refine ⟨(by show 4 ≤ sizeLine; decide), fun N hN => ⟨_, rfl, ?_⟩⟩
      have eA := e8'.trans (Am.Ext.new (o := .lst (four q p)) hN)
      have hNA : (upd H8 N (.lst (four q p))) N = some (.lst (four q p)) := upd_same
      refine eqd_same (H := upd H8 N (.lst (four q p))) (xs := four q p) (SqL.of hNA) (SqL.of (eA _ _ hD3)) (four_dp q p) (four_sh _ _ _ _) ?_
      refine ⟨true, rfl, iteT ⟨_, rfl, _, rfl, a, q, _, rfl, a3.ext eA, .int _, z _ (w3.trans eA)⟩⟩
    · exact z _ (w3.trans e9)
end
end KB

set_option Elab.async false
set_option linter.all false
set_option maxRecDepth 100000
set_option maxHeartbeats 1000000
/-! repr of a list of NUMBERS. -/
namespace Am
open PySem PySem.Spec PyProof.Rows L2 Oo
open PySem.Builtin PySem.Builtin.List
abbrev inLp (A : Around) (args : Args) : Around := A.in1.under (.builtin "list.__repr__.loop" args)
theorem inLp_room {k : Nat} {A : Around} {args : Args} (r : Room (k + 2) A) : Room k (inLp A args) :=
  ⟨r.hd, by
    have := r.dp
    have e : (inLp A args).depth = A.depth + 1 := by first | rfl | simp [inLp, Around.under, Code.weight, Code.isCreation, Code.isGuard, Code.isCaller, Code.frames, Code.isFrame, guardIds]
    rw [e]; omega, by
    have := r.un
    have e : (inLp A args).units ≤ A.units + 2 := by
      show A.in1.units + _ ≤ _
      first | exact Nat.le_refl _ | (simp [Code.cUnits, Code.frames, Code.isFrame])
    omega⟩
theorem inLp_env {P : Program} {w : World} {K : W.Frag} {mg : Str → Option Value} {base : Heap} {A : Around} {outer : List Env} {s : Shared} {H : Hp} {args : Args} (e : Env0 P w K mg base A outer s H) : Env0 P w K mg base (inLp A args) outer s H :=
  ⟨by first | exact e.frames | (simpa [inLp, Around.under, Code.envs, Code.isFrame, pushEnvs] using e.frames), e.mod, e.bs, e.bsz, e.funs, e.frf, e.hok, e.bare⟩
theorem inLp_guards {A : Around} {args : Args} (hg : A.guards = some []) : ∃ g, (inLp A args).guards = some g := by
  have e : A.in1.guards = some [] := hg
  exact ⟨_, guards_under_guard (isGuard_list_loop _) e⟩
/-- NUMBERS and the texts of their reprs -/
inductive NumsT (C : Addr) (H : Hp) : List V → List Str → Prop
  | nil : NumsT C H [] []
  | cons {v : V} {q : Rat} {xs : List V} {ts : List Str} : Num C H v q → SmN v q → NumsT C H xs ts → NumsT C H (v :: xs) (numText v q :: ts)
theorem NumsT.len {C : Addr} {H : Hp} : ∀ {xs : List V} {ts : List Str}, NumsT C H xs ts → ts.length = xs.length
  | _, _, .nil => rfl
  | _, _, .cons _ _ r => by rw [List.length_cons, List.length_cons, r.len]
theorem NumsT.get {C : Addr} {H : Hp} : ∀ {xs : List V} {ts : List Str} {i : Nat} {x : V}, NumsT C H xs ts → xs[i]? = some x → ∃ q, Num C H x q ∧ SmN x q ∧ ts[i]? = some (numText x q)
  | _, _, i, x, .nil, h => by simp at h
  | _, _, 0, x, .cons n s _, e => by
    cases (show some _ = some x from e)
    exact ⟨_, n, s, rfl⟩
  | _, _, i + 1, x, .cons _ _ r, e => NumsT.get (i := i) r e
theorem NumsT.ext {C : Addr} {H H' : Hp} (e : Ext H H') : ∀ {xs : List V} {ts : List Str}, NumsT C H xs ts → NumsT C H' xs ts
  | _, _, .nil => .nil
  | _, _, .cons n s r => .cons (n.ext e) s (r.ext e)
theorem NumsT.piled {C : Addr} {H : Hp} : ∀ {xs : List V} {ts : List Str}, NumsT C H xs ts → piled ts ≤ 6102 * ts.length
  | _, _, .nil => Nat.zero_le _
  | _, _, .cons _ s r => by
    have := r.piled
    have := num_len s
    rw [piled_cons, List.length_cons]
    omega
theorem vals_strs : ∀ {ts : List Str} {its : List Value}, Vals (ts.map V.str) its → ∃ done : List (Str × Tok), its = strValues done ∧ done.map (·.1) = ts
  | [], _, h => by
    cases h
    exact ⟨[], rfl, rfl⟩
  | t :: ts, _, h => by
    cases h with
    | cons r1 r2 =>
      obtain ⟨tk, rfl⟩ := (show ∃ tk, _ = Value.str t tk from r1)
      obtain ⟨done, rfl, e⟩ := vals_strs r2
      exact ⟨(t, tk) :: done, rfl, by rw [List.map_cons, e]⟩
section
variable {X : Cx} {C : Addr} {pins : List (Addr × Obj)} {σ : L2.St} {H : Hp} {s : Shared} {k : Nat}
theorem num_underL (R : Rep X.prog X.w X.K X.mg X.base C) {args : Args} {b : Nat} {v : V} {u : Value} {q : Rat} (hr : Room (k + 3) X.A) (hG : Gd.Bare X.A) (I : Inv X pins σ H s) (nv : Num C H v q) (sm : SmN v q) (rv : RelV v u) (hb : b ≤ 500000) :
    wpAny (model X.prog X.w) (inLp X.A args) (pyReprUnder b u) (fun r s1 => r = numText v q ∧ Inv X pins σ H s1) X.xe s := by
  have hR : Room 1 (inLp X.A args) := inLp_room (hr.mono (by omega))
  have big : (1000000 : Nat) ≤ sizeLine := by decide
  rcases nv with ⟨i, rfl, _⟩ | ⟨x, rfl, ix⟩
  · obtain ⟨g, hg⟩ := inLp_guards (args := args) hG
    have rk : ReprK X.prog X.w [] s.heap 1 u (toString i : String) := (Gd.Rp.int (H := H) (as := []) (d := 1) i sm).repr I.hok u rv
    have l := num_len (v := .int i) (q := q) sm
    exact rk b (by show b + (numText (.int i) q).length ≤ sizeLine; omega) _ g _ s _ hg (fun b h => nomatch h) (by have := hR.units; omega) (fun _ _ e => e) fun h' tk kp => ⟨rfl, I.kept kp⟩
  · obtain rfl : u = Value.ref x := rv
    obtain ⟨f, fd, hs, hf, F, bd⟩ := R.of
    obtain ⟨dx, ex⟩ := id ix
    obtain ⟨od, J, _⟩ := inst_at I ex
    refine own_under (by omega) hR.units0 I.kIn J hs hf ?_
    have lw : KA.Low 8000 q := ⟨Nat.lt_trans sm.1 (by decide), Nat.lt_trans sm.2 (by decide)⟩
    refine wpAny_mono (run_atO (Q := fun z H' => z = .str (shown q) ∧ H' = H) (us := [.ref x]) (ws := [.ref x]) F bd hR (inLp_env I.env0) pass0 I (.cons rfl .nil) ⟨x, q, rfl, ix, lw, rfl, rfl⟩) (fun v s' ⟨z, H', I', rz, ez, eh⟩ => ?_) fun _ _ z => z
    subst ez eh
    obtain ⟨t, rfl⟩ := (show ∃ t, v = Value.str (shown q) t from rz)
    exact ⟨_, _, rfl, rfl, I'⟩
theorem lp_loop (R : Rep X.prog X.w X.K X.mg X.base C) {a P : Addr} {xs : List V} {ts : List Str} {Q : Value → Shared → Prop} (hr : Room (k + 3) X.A) (hG : Gd.Bare X.A) (ha : H a = some (.lst xs)) (hP : H P = none) (nt : NumsT C H xs ts)
    (hl : ts.length ≤ 70) (hQ : ∀ s' u, Inv X pins σ (upd H P (.lst (ts.map V.str))) s' → Q (.str (listText ts) u) s') :
    ∀ (n i : Nat) (s : Shared), ts.length - i = n → i ≤ ts.length → Inv X pins σ (upd H P (.lst ((ts.take i).map V.str))) s →
      codeAny (model X.prog X.w) X.A.in1 (.builtin "list.__repr__.loop" ⟨[.ref a, rawInt i, .ref P, rawInt ((piled (ts.take i) : Nat) : Int)], []⟩) (callEnd Q X.xe) s := by
  have big : (1000000 : Nat) ≤ sizeLine := by decide
  have nl := nt.len
  have np := nt.piled
  have lt := Gd.listText_le ts
  intro n
  induction n with
  | zero =>
    intro i s hn hi I
    have hin : i = ts.length := by omega
    subst hin
    rw [List.take_length] at I ⊢
    obtain ⟨_, its, m, rv, l1, e1⟩ := I.lstM (l := a) (by rw [upd_ne (ne_of_none ha hP)]; exact ha)
    obtain ⟨_, acc, c, rw', l2, e2⟩ := I.lstM (l := P) upd_same
    refine codeAny_builtin F.entry_list_repr_loop ?_
    show wpAny _ _ («list.__repr__.loop» ⟨[.ref a, .int (ts.length : Nat) 0, .ref P, .int ((piled ts : Nat) : Int) 0], []⟩) _ _ s
    rw [repr_loop_tree]
    refine wpAny_bind (wpAny_listItems e1 rfl ?_)
    have hnone : its.toArray[((ts.length : Nat) : Int).toNat]? = none := by simp [nl, l1]
    simp only [hnone]
    unfold reprEnd
    refine wpAny_bind (wpAny_listItems e2 rfl ?_)
    obtain ⟨done, rfl, ed⟩ := vals_strs rw'
    rw [show (strValues done).toArray.toList = strValues done from rfl, repr_fold]
    refine wpAny_bind (wpAny_pure ?_)
    rw [ed]
    refine wpAny_bind (wpAny_mkStr (wpAny_pure ?_) (by show (listText ts).length ≤ sizeLine; omega))
    exact hQ _ _ (I.tok _)
  | succ n ih =>
    intro i s hn hi I
    obtain ⟨_, its, m, rv, l1, e1⟩ := I.lstM (l := a) (by rw [upd_ne (ne_of_none ha hP)]; exact ha)
    obtain ⟨_, acc, c, rw', l2, e2⟩ := I.lstM (l := P) upd_same
    have hlt : i < xs.length := by omega
    obtain ⟨q, nx, sm, et⟩ := nt.get (List.getElem?_eq_getElem hlt)
    obtain ⟨u, hu, ru⟩ := rv.get (List.getElem?_eq_getElem hlt)
    refine codeAny_builtin F.entry_list_repr_loop ?_
    show wpAny _ _ («list.__repr__.loop» ⟨[.ref a, .int (i : Nat) 0, .ref P, .int ((piled (ts.take i) : Nat) : Int) 0], []⟩) _ _ s
    rw [repr_loop_tree]
    refine wpAny_bind (wpAny_listItems e1 rfl ?_)
    have hsome : its.toArray[((i : Nat) : Int).toNat]? = some u := by simpa using hu
    simp only [hsome]
    rw [Int.toNat_natCast]
    have p1 := piled_take_le ts i
    have p2 := piled_take_succ et
    have ex : Ext H (upd H P (.lst ((ts.take i).map V.str))) := Ext.new hP
    refine wpAny_bind (wpAny_holding (wpAny_mono (num_underL R hr hG I (nx.ext ex) sm ru (by omega)) (fun t s1 ⟨et1, I1⟩ => ?_) fun _ _ z => z))
    subst et1
    have nl6 := num_len sm
    obtain ⟨_, acc, c, rw', l2, e2⟩ := I1.lstM (l := P) upd_same
    refine wpAny_bind (wpAny_mkStr ?_ (by omega))
    refine wpAny_bind ?_
    show wpAny _ _ (updateSeq P _) _ _ _
    have al : acc.toArray.size ≤ sizeLine := by
      rw [List.size_toArray, ← l2, List.length_map, List.length_take]
      omega
    refine wpAny_updateSeq e2 rfl (wpAny_pure ⟨F.quiet_list_repr_loop _, ?_⟩) al
    have k1 : ((i : Int) + 1) = ((i + 1 : Nat) : Int) := by omega
    have k2 : piled (ts.take i) + ((numText (xs[i]) q).length + 2) = piled (ts.take (i + 1)) := by omega
    rw [k1, k2]
    refine ih (i + 1) _ (by omega) (by omega) ?_
    have J := I1.lset (l := P) (xs := (ts.take i).map V.str) (ys := (ts.take (i + 1)).map V.str) (its := acc) (its' := acc ++ [.str (numText (xs[i]) q) s1.toks]) (f := fun a => a.push (.str (numText (xs[i]) q) s1.toks)) (t' := s1.toks + 1) upd_same e2 (by simp) (by
      rw [List.take_add_one, et, List.map_append]
      exact rw'.append (.cons ⟨_, rfl⟩ .nil)) (by rw [List.length_map, List.length_take]; omega)
    rw [upd_upd] at J
    exact J
def rNums (C : Addr) : List V → Hp → VK → Prop := fun vs H Q => ∃ (a : Addr) (x : V) (xs : List V) (ts : List Str), vs = [.ref a] ∧ H a = some (.lst (x :: xs)) ∧ NumsT C H (x :: xs) ts ∧ ts.length ≤ 70 ∧ ∀ H', Ext H H' → Q (.str (listText ts)) H'
theorem call_reprNums (R : Rep X.prog X.w X.K X.mg X.base C) (hG : Gd.Bare X.A) (hr : Room (k + 3) X.A) : CallR X (.builtin "repr") (rNums C) := by
  intro pins s σ H vs us Q I r h
  obtain ⟨a, x, xs, ts, rfl, ha, nt, hl, z⟩ := h
  obtain ⟨u, rfl, ru⟩ := r.one
  cases (show u = Value.ref a from ru)
  obtain ⟨_, its, n, rv, l1, ho⟩ := I.lstM ha
  refine Gd.repr_slot ⟨_, ho, rfl⟩ F.slot_list_repr.toG (by have := hr.units; omega) ?_
  cases rv with
  | @cons _ y _ l r1 rvt =>
    refine wpAny_call (codeAny_call_builtin F.slot_list_repr.plain F.entry_list_repr (F.slot_list_repr.check _ _ _ _ _ _ _ _ ⟨_, ho, rfl⟩ (F.args_list_repr_1 _) ?_))
    refine wpAny_list_repr_head (b := 0) (A := X.A.in1.in1) hG (fun v rest kw hm => nomatch hm) ho rfl ?_
    refine wpAny_bind (m := newList []) (wpAny_newObj_type ?_)
    refine wpAny_pure ⟨F.quiet_list_repr_loop _, ?_⟩
    have hf : H s.heap.objs.size = none := I.hok.fresh (Nat.le_refl _)
    have I1 := I.lnew (ys := []) (its := []) (t' := s.toks) .nil (Nat.zero_le _)
    refine lp_loop (k := k) R hr hG ha hf nt hl (fun s' u J => ⟨⟨_, _, rfl⟩, .str (listText ts), _, J, ⟨_, rfl⟩, z _ (Ext.new hf)⟩) ts.length 0 _ (by omega) (Nat.zero_le _) I1
end
end Am

set_option Elab.async false
set_option linter.all false
set_option maxRecDepth 100000
set_option maxHeartbeats 2000000
set_option exponentiation.threshold 20000
namespace KB
open PySem PySem.Spec PyProof.Rows L2 Oo Gd Am KA
theorem fdiv_floor (n d : Int) (h : d ≠ 0) : n.fdiv d = (Rat.divInt n d).floor := by
  generalize hr : Rat.divInt n d = r
  have e : n * (r.den : Int) = r.num * d := by
    refine (Rat.divInt_eq_divInt_iff h (den0 r)).mp ?_
    rw [hr, Rat.num_divInt_den]
  have a1 : ((r.den : Int) * n).fdiv ((r.den : Int) * d) = n.fdiv d := Int.mul_fdiv_mul_of_pos n d (KA.den_pos r)
  rw [← a1, Int.mul_comm _ n, e, ← floor_eq r]
  rcases Int.lt_or_gt_of_ne h with hd | hd
  · have := Int.mul_fdiv_mul_of_pos r.num (r.den : Int) (show 0 < -d by omega)
    rw [← this, ← Int.neg_fdiv_neg, Int.neg_mul, Int.neg_mul, Int.mul_comm d, Int.mul_comm d]
  · rw [Int.mul_comm r.num d, Int.mul_comm (r.den : Int) d]
    exact Int.mul_fdiv_mul_of_pos _ _ hd
theorem rest_rat (q p : Rat) (w : Int) : Rat.divInt (q.num * (p.den : Int) - w * p.num * (q.den : Int)) ((q.den : Int) * (p.den : Int)) = q - p * (w : Rat) := by
  have h2 : p * (w : Rat) = Rat.divInt (w * p.num) (p.den : Int) := by
    have e := mul_rat p (w : Rat)
    rw [← e, show (w : Rat).num = w from rfl, show (w : Rat).den = 1 from rfl, Int.mul_comm p.num]
    congr 1
    show (p.den : Int) * 1 = p.den
    omega
  rw [h2]
  conv => rhs; lhs; rw [← Rat.num_divInt_den q]
  rw [Rat.divInt_sub_divInt _ _ (den0 q) (den0 p)]
theorem list2 (a b : Str) : listText [a, b] = (((Str.ofString "[" ++ a) ++ Str.ofString ", ") ++ b) ++ Str.ofString "]" := by
  have e : Str.ofString "[" ++ Str.ofString "" = Str.ofString "[" := by decide +kernel
  show (((((Str.ofString "[" ++ Str.ofString "") ++ a) ++ Str.ofString ", ") ++ b) ++ Str.ofString "]") = _
  rw [e]
section
variable {P : Program} {w : World} {K : W.Frag} {mg : Str → Option Value} {base : Heap} {f C Z Wc : Addr} {fd : FuncData}
structure Rq (P : Program) (w : World) (K : W.Frag) (mg : Str → Option Value) (base : Heap) (C Z : Addr) : Prop where
  nb : base.NoDigits
  fr : Frees mg
  DA : Dn P w K mg base CX0 4 "_law_amount" ["_law_part"] (spAmt K C)
  DS : Dn P w K mg base CX0 1 "_law_shape" ["_law_high", "_law_low"] spShp
  DL : DnL P w K mg base
  R : Rep P w K mg base C
  D1 : DvI P w K mg base C Z (Operator.FloorDiv).info.2 4000 7 fun q p H Q => Whole (q / p) H Q
  D2 : DvI P w K mg base C Z (Operator.Mod).info.2 900 8 fun q p H Q => New C H Q (q - p * ((q / p).floor : Rat))
abbrev nRe : List Str := ["_law_near", "_law_far", "_law_a", "_law_b", "_law_whole", "_law_rest", "_law_due"]
theorem scRe : FnScope nRe ["_law_near", "_law_far"] (defScope (top 30)) := ⟨rfl, rfl, rfl, by decide +kernel, rfl, by decide +kernel, by decide +kernel⟩
def spRe (K : W.Frag) : Sp := fun vs H Q _ => ∃ t u q p, vs = [.ref t, .ref u] ∧ Pt K H t q ∧ Pt K H u p ∧ Low 142 q ∧ Low 142 p ∧ p ≠ 0 ∧ ∀ H', Am.Ext H H' → Q (.bl true) H'
theorem ok_rest (T : Rq P w K mg base C Z) (F : Fun K "_law_rest_right" "_law_rest_right" (top 30) f fd) : FnG P w K mg base CX0 9 f fd ["_law_near", "_law_far"] (spRe K) := by
  refine Gd.okG F scRe (fun vs H Q E h => ?_) (fun cdv A outer s H vs Q E hG hr h => ?_)
  · obtain ⟨t, u, q, p, rfl, _⟩ := h
    rfl
  · obtain ⟨t, u, q, p, rfl, ht, hu, lq, lp, p0, z⟩ := h
    have nd := scRe.nd
    have fr := T.fr
    have nb := T.nb
    have h7 := hr.mono (show 7 ≤ 8 by decide)
    have h6 := hr.mono (show 6 ≤ 8 by decide)
    refine ⟨_, pss_cons (ps_par (i := 2) (j := 3) rfl nd rfl rfl (by decide) rfl rfl (pa_cons (pe_dn T.DA hr (by rfl) (by decide) (pa_cons (pv 0) pa_nil)) (pa_cons (pe_dn T.DA hr (by rfl) (by decide) (pa_cons (pv 1) pa_nil)) pa_nil)) (by rfl))
      (pss_cons (ps_set (i := 4) nd rfl (.inl rfl) (pe_op op_fdivX (pe_op op_mulW (pe_ix ix_tup (pv 0) pe_int (fun _ _ => rfl)) (pe_ix ix_tup (pv 1) pe_int (fun _ _ => rfl))) (pe_op op_mulW (pe_ix ix_tup (pv 0) pe_int (fun _ _ => rfl)) (pe_ix ix_tup (pv 1) pe_int (fun _ _ => rfl)))))
      (pss_cons (ps_set (i := 5) nd rfl (.inl rfl) (pe_dn T.DL hr (by rfl) (by decide) (pa_cons (pe_op op_sub (pe_op op_mulW (pe_ix ix_tup (pv 0) pe_int (fun _ _ => rfl)) (pe_ix ix_tup (pv 1) pe_int (fun _ _ => rfl))) (pe_op op_mulW (pe_op op_mulW (pv 4) (pe_ix ix_tup (pv 1) pe_int (fun _ _ => rfl))) (pe_ix ix_tup (pv 0) pe_int (fun _ _ => rfl)))) (pa_cons (pe_op op_mulW (pe_ix ix_tup (pv 0) pe_int (fun _ _ => rfl)) (pe_ix ix_tup (pv 1) pe_int (fun _ _ => rfl))) pa_nil))))
      (pss_cons (ps_set (i := 6) nd rfl (.inl rfl) (pe_op op_add_str (pe_op op_add_str (pe_op op_add_str (pe_op op_add_str pe_str (pe_callTy (call_strI nb rfl) rfl (fr.h _ (by decide +kernel)) (by decide +kernel) (pa_cons (pv 4) pa_nil))) pe_str) (pe_dn T.DS hr (by rfl) (by decide) (pa_cons (pe_ix ix_tup (pv 5) pe_int (fun _ _ => rfl)) (pa_cons (pe_ix ix_tup (pv 5) pe_int (fun _ _ => rfl)) pa_nil)))) pe_str))
      (pss_cons (ps_if (pt_cmpR op_ne (pe_callB (call_reprNums (k := 3) T.R hG h6) rfl (fr.h _ (by decide +kernel)) (by decide +kernel) (pa_cons (pe_lst (pa_cons (pe_op (op_DN (E := E0) (.inr (.inr (.inr (.inr rfl)))) T.D1 (passes_call takes0 fun _ _ _ _ h => h) h7) (pv 2) (pv 3)) (pa_cons (pe_op (op_DN (E := E0) (.inr (.inr (.inr (.inl rfl)))) T.D2 (passes_call takes0 fun _ _ _ _ h => h) hr) (pv 2) (pv 3)) pa_nil))) pa_nil)) (pv 6) (nomark _)) (pss_one (ps_ret pe_bl)) pss_nil)
      (C8.pss_cut (ps_if (PW.pt (pw_and (pt_cmpR op_eq (pe_ix ix_tup (pv 1) pe_int (fun _ _ => rfl)) pe_int (nomark _)) (pw_and1 (pt_cmpR op_ne (pe_callB (call_reprNums (k := 3) T.R hG h6) rfl (fr.h _ (by decide +kernel)) (by decide +kernel) (pa_cons (pe_lst (pa_cons (pe_op (op_DN (E := E0) (.inr (.inr (.inr (.inr rfl)))) T.D1 (passes_call takes0 fun _ _ _ _ h => h) h7) (pv 2) (pe_ix ix_tup (pv 1) pe_int (fun _ _ => rfl))) (pa_cons (pe_op (op_DN (E := E0) (.inr (.inr (.inr (.inl rfl)))) T.D2 (passes_call takes0 fun _ _ _ _ h => h) hr) (pv 2) (pe_ix ix_tup (pv 1) pe_int (fun _ _ => rfl))) pa_nil))) pa_nil)) (pv 6) (nomark _))))) (pss_one (ps_ret pe_bl)) pss_nil)
      (pss_one (ps_ret (pe_or (pe_cmpR op_gt (pe_ix ix_tup (pv 0) pe_int (fun _ _ => rfl)) pe_int (nomark _)) (pe_one (pe_cmpR op_eq (pe_callB (call_reprNums (k := 3) T.R hG h6) rfl (fr.h _ (by decide +kernel)) (by decide +kernel) (pa_cons (pe_lst (pa_cons (pe_op (op_DN (E := E0) (.inr (.inr (.inr (.inr rfl)))) T.D1 (passes_call takes0 fun _ _ _ _ h => h) h7) (pe_ix ix_tup (pv 0) pe_int (fun _ _ => rfl)) (pv 3)) (pa_cons (pe_op (op_DN (E := E0) (.inr (.inr (.inr (.inl rfl)))) T.D2 (passes_call takes0 fun _ _ _ _ h => h) hr) (pe_ix ix_tup (pv 0) pe_int (fun _ _ => rfl)) (pv 3)) pa_nil))) pa_nil)) (pv 6) (nomark _))))))))))), ?_⟩
    have one : ∀ {H1 : Hp} {a : Addr} {r : Rat}, Is C H1 a r → Num C H1 (.ref a) r := fun i => Num.is i
    have pn0 : p.num ≠ 0 := fun e => p0 (Rat.num_eq_zero.mp e)
    have l9 := lq.more (show 142 ≤ 900 by decide)
    have l9' := lp.more (show 142 ≤ 900 by decide)
    have fb := floor_bits l9 l9' p0
    have wh : (q.num * (p.den : Int)).fdiv ((q.den : Int) * p.num) = (q / p).floor := by
      rw [fdiv_floor _ _ (Int.mul_ne_zero (den0 q) pn0), div_rat]
    generalize hn : (q / p).floor = n at fb wh
    have ln : Low 1801 (n : Rat) := low_int fb (by decide)
    have lρ := lq.sub (lp.mul ln)
    have rr := rest_rat q p n
    generalize hρ : q - p * (n : Rat) = ρ at lρ rr
    have dq := KA.low_den lq
    have dp := KA.low_den lp
    refine ⟨_, rfl, t, q, rfl, ht, lq.more (by decide), fun a H1 e1 n1 i1 => ?_⟩
    refine ⟨_, rfl, u, p, rfl, Pt.ext hu e1, lp.more (by decide), fun b H2 e2 n2 i2 => ⟨_, _, rfl, ?_⟩⟩
    replace i1 := i1.ext e2
    replace e2 := e1.trans e2
    clear n1 n2 e1
    have ht2 := Pt.ext ht e2
    have hu2 := Pt.ext hu e2
    refine ⟨_, rfl, _, _, 0, _, rfl, rfl, ht2, rfl, _, rfl, _, _, 1, _, rfl, rfl, hu2, rfl, _, _, rfl, rfl, mulOk lq.1 dp (by decide) (by decide), _, rfl, _, _, 1, _, rfl, rfl, ht2, rfl, _, rfl, _, _, 0, _, rfl, rfl, hu2, rfl, _, _, rfl, rfl, mulOk dq lp.1 (by decide) (by decide), _, _, rfl, rfl, ⟨Int.mul_ne_zero (den0 q) pn0, bits (mul_bits dq lp.1) (by decide)⟩, ?_⟩
    show tSeq _ _ _ [some (.ref t), some (.ref u), some (.ref a), some (.ref b), some (.int ((q.num * (p.den : Int)).fdiv ((q.den : Int) * p.num))), none, none] H2
    rw [wh]
    have m1 := mul_bits lq.1 dp
    have m2 := mul_bits (mul_bits fb lp.1) dq
    have m3 := mul_bits dq dp
    have sb : (q.num * (p.den : Int) - n * p.num * (q.den : Int)).natAbs < 2 ^ 8000 := by
      rw [Int.sub_eq_add_neg]
      refine Nat.lt_trans (add_bits (n := 2085) (more_bits m1 (by decide)) (by rw [Int.natAbs_neg]; exact m2)) (Nat.pow_lt_pow_right (by decide) (by decide))
    refine ⟨_, rfl, _, _, 0, _, rfl, rfl, ht2, rfl, _, rfl, _, _, 1, _, rfl, rfl, hu2, rfl, _, _, rfl, rfl, mulOk lq.1 dp (by decide) (by decide), _, rfl, _, rfl, _, _, 0, _, rfl, rfl, hu2, rfl, _, _, rfl, rfl, mulOk fb lp.1 (by decide) (by decide), _, rfl, _, _, 1, _, rfl, rfl, ht2, rfl, _, _, rfl, rfl, mulOk (mul_bits fb lp.1) dq (by decide) (by decide), _, _, rfl, rfl, _, rfl, _, _, 1, _, rfl, rfl, ht2, rfl, _, rfl, _, _, 1, _, rfl, rfl, hu2, rfl, _, _, rfl, rfl, mulOk dq dp (by decide) (by decide), _, _, rfl, Int.mul_pos (KA.den_pos q) (KA.den_pos p), sb, Nat.lt_trans m3 (Nat.pow_lt_pow_right (by decide) (by decide)), ?_⟩
    rw [rr]
    intro c H3 e3 n3 i3
    have e3' := e3
    replace e3 := e2.trans e3
    show tSeq _ _ _ [some (.ref t), some (.ref u), some (.ref a), some (.ref b), some (.int n), some (.ref c), none] H3
    have ht3 := Pt.ext ht e3
    have hu3 := Pt.ext hu e3
    have hc3 : Pt K H3 c ρ := Pt.of i3
    have fb8 : n.natAbs < 2 ^ 8000 := Nat.lt_trans fb (Nat.pow_lt_pow_right (by decide) (by decide))
    have lρ8 := lρ.more (show 142 + (142 + 1801) + 1 ≤ 8000 by decide)
    have sn := big_len fb8
    have sh : (shp ρ.num (ρ.den : Int)).length ≤ 16020 := by
      have l1 := big_len lρ8.1
      have l2 := big_len (KA.low_den lρ8)
      have k1 : (Str.ofString "Amount(").length = 7 := by decide
      have k2 : (Str.ofString ", ").length = 2 := by decide
      have k3 : (Str.ofString ")").length = 1 := by decide
      unfold shp
      simp only [strLen_append, k1, k2, k3]
      omega
    have k1 : (Str.ofString "[").length = 1 := by decide
    have k2 : (Str.ofString ", ").length = 2 := by decide
    have k3 : (Str.ofString "]").length = 1 := by decide
    have big : (1000000 : Nat) ≤ sizeLine := by decide
    refine ⟨_, rfl, _, rfl, fb8, _, _, rfl, rfl, ?_, _, _, rfl, rfl, ?_, _, rfl, _, _, 0, _, rfl, rfl, hc3, rfl, _, rfl, _, _, 1, _, rfl, rfl, hc3, rfl, _, _, rfl, lρ8.1, KA.low_den lρ8, _, _, rfl, rfl, ?_, _, _, rfl, rfl, ?_, ?_⟩
    · simp only [strLen_append, k1]; omega
    · simp only [strLen_append, k1, k2]; omega
    · simp only [strLen_append, k1, k2]; omega
    · simp only [strLen_append, k1, k2, k3]; omega
    have due : (((Str.ofString "[" ++ Str.ofString (toString n)) ++ Str.ofString ", ") ++ shp ρ.num (ρ.den : Int)) ++ Str.ofString "]" = listText [Str.ofString (toString n), Am.shown ρ] := by rw [list2, shp_shown]
    show tSeq _ _ _ [some (.ref t), some (.ref u), some (.ref a), some (.ref b), some (.int n), some (.ref c), some (.str ((((Str.ofString "[" ++ Str.ofString (toString n)) ++ Str.ofString ", ") ++ shp ρ.num (ρ.den : Int)) ++ Str.ofString "]"))] H3
    rw [due]
    clear due sh sn m1 m2 m3 sb
    have smI : SmN (.int n) (n : Rat) := smN_of (C := C) (H := H) (Num.int n) (ln.more (by decide))
    have lρ3 := lρ.more (show 142 + (142 + 1801) + 1 ≤ 3000 by decide)
    have nt : ∀ {H' : Hp} {r : Addr}, Is C H' r ρ → NumsT C H' [.int n, .ref r] [Str.ofString (toString n), Am.shown ρ] := fun i => .cons (q := (n : Rat)) (Num.int n) smI (.cons (one i) lρ3 .nil)
    have i3a := i1.ext e3'
    have i3b := i2.ext e3'
    refine ⟨_, rfl, _, rfl, q, p, one i3a, one i3b, .inl ⟨a, rfl⟩, lq.more (by decide), lp.more (by decide), fun _ H4 e4 => ?_, fun hh => absurd hh p0⟩
    rw [hn]
    refine ⟨_, rfl, _, rfl, q, p, one (i3a.ext e4), one (i3b.ext e4), .inl ⟨a, rfl⟩, l9, l9', fun _ r H5 e5 m5 i5 => ?_, fun hh => absurd hh p0⟩
    rw [hn, hρ] at i5
    refine ⟨(by show 2 ≤ sizeLine; decide), fun L hL => ⟨L, .int n, [.ref r], _, rfl, upd_same, nt (i5.ext (Am.Ext.new hL)), (by show 2 ≤ 70; decide), fun H6 e6 => ?_⟩⟩
    have e7 := (e4.trans e5).trans ((Am.Ext.new (o := .lst [V.int n, .ref r]) hL).trans e6)
    refine ⟨_, rfl, ne_str _ ⟨_, rfl, iteF ?_⟩⟩
    clear e4 e5 m5 i5 hL e6
    have i6a := i3a.ext e7
    have i6b := i3b.ext e7
    have ht6 := Pt.ext ht3 e7
    have hu6 := Pt.ext hu3 e7
    refine ⟨fun σ H' => σ = [some (.ref t), some (.ref u), some (.ref a), some (.ref b), some (.int n), some (.ref c), some (.str (listText [Str.ofString (toString n), Am.shown ρ]))] ∧ Am.Ext H3 H', ?_, ?_⟩
    · refine ⟨_, rfl, _, _, 1, _, rfl, rfl, hu6, rfl, rfl, _, rfl, ite2 (fun hd => ?_) (fun hd => iteF ⟨rfl, e7⟩)⟩
      have d1 : (p.den : Int) = 1 := V.int.inj (of_decide_eq_true hd)
      have nw : ∀ {H1 : Hp}, Num C H1 (.int p.num) p := fun {H1} => .inl ⟨p.num, rfl, int_of d1⟩
      refine ⟨_, rfl, _, rfl, _, _, 0, _, rfl, rfl, hu6, rfl, q, p, one i6a, nw, .inl ⟨a, rfl⟩, lq.more (by decide), lp.more (by decide), fun _ H4 e4 => ?_, fun hh => absurd hh p0⟩
      rw [hn]
      refine ⟨_, rfl, _, rfl, _, _, 0, _, rfl, rfl, Pt.ext hu6 e4, rfl, q, p, one (i6a.ext e4), nw, .inl ⟨a, rfl⟩, l9, l9', fun _ r H5 e5 m5 i5 => ?_, fun hh => absurd hh p0⟩
      rw [hn, hρ] at i5
      refine ⟨(by show 2 ≤ sizeLine; decide), fun L hL => ⟨L, .int n, [.ref r], _, rfl, upd_same, nt (i5.ext (Am.Ext.new hL)), (by show 2 ≤ 70; decide), fun H7 e8 => ?_⟩⟩
      have e9 := (e4.trans e5).trans ((Am.Ext.new (o := .lst [V.int n, .ref r]) hL).trans e8)
      exact ⟨_, rfl, ne_str _ ⟨_, rfl, iteF ⟨rfl, e7.trans e9⟩⟩⟩
    · rintro σ H7 ⟨rfl, e8⟩
      have ht7 := Pt.ext ht3 e8
      refine ⟨_, rfl, _, _, 1, _, rfl, rfl, ht7, rfl, _, _, rfl, rfl, _, rfl, ite2 (fun _ => z _ (e3.trans e8)) (fun hd => ?_)⟩
      have d1 : (q.den : Int) = 1 := by
        have h1 : ¬ (1 : Int) < (q.den : Int) := fun h => hd (decide_eq_true h)
        have := KA.den_pos q
        omega
      have nw : ∀ {H1 : Hp}, Num C H1 (.int q.num) q := fun {H1} => .inl ⟨q.num, rfl, int_of d1⟩
      have i7b := i3b.ext e8
      refine ⟨_, rfl, _, _, 0, _, rfl, rfl, ht7, rfl, _, rfl, q, p, nw, one i7b, .inr ⟨b, rfl⟩, lq.more (by decide), lp.more (by decide), fun _ H4 e4 => ?_, fun hh => absurd hh p0⟩
      rw [hn]
      refine ⟨_, rfl, _, _, 0, _, rfl, rfl, Pt.ext ht7 e4, rfl, _, rfl, q, p, nw, one (i7b.ext e4), .inr ⟨b, rfl⟩, l9, l9', fun _ r H5 e5 m5 i5 => ?_, fun hh => absurd hh p0⟩
      rw [hn, hρ] at i5
      refine ⟨(by show 2 ≤ sizeLine; decide), fun L hL => ⟨L, .int n, [.ref r], _, rfl, upd_same, nt (i5.ext (Am.Ext.new hL)), (by show 2 ≤ 70; decide), fun H9 e10 => ?_⟩⟩
      have e9 := (e4.trans e5).trans ((Am.Ext.new (o := .lst [V.int n, .ref r]) hL).trans e10)
      exact ⟨_, rfl, eq_str _ (z _ ((e3.trans e8).trans e9))⟩
end
end KB

set_option Elab.async false
set_option linter.all false
set_option maxRecDepth 100000
set_option maxHeartbeats 2000000
set_option exponentiation.threshold 20000
namespace KB
open PySem PySem.Spec PyProof.Rows L2 Oo Gd Am KA
/-- the table at p tells code objects that bear the name q -/
structure Tq1 (T : List (Addr × Str)) (p : Addr) (q : Str) : Prop where
  mem : (p, q) ∈ T
  uq : ∀ x ∈ T, x.1 = p → x.2 = q
/-- the def told, where it stands -/
structure Tol (K : W.Frag) (mg : Str → Option Value) : Prop where
  of : ∃ g gd, Fun K "_law_told" "_law_told" (top 28) g gd ∧ mg "_law_told" = some (.ref g) ∧ Binds K gd ["_law_call"] []
theorem is_xn {C : Addr} {H H' : Hp} {a : Addr} {q : Rat} (h : Is C H a q) (n : LamX.ExtN H H') : Is C H' a q := let ⟨dx, i⟩ := h; ⟨dx, n _ _ i fun _ => HO.noConfusion⟩
def zn : Str := Str.ofString "zero None"
theorem zn_eq : Str.ofString "zero " ++ Str.ofString "None" = zn := by decide +kernel
theorem told_zero {Z WA WC : Addr} {tl : XK → Hp → VK → Prop} {H : Hp} {Q : VK} (hh : ∀ E Q', Refuse Z H E → tl E H Q') (z : ∀ H', Am.Ext H H' → Q (.str zn) H') : TTt Z WA WC tl H Q := by
  refine .inl fun Q' => hh _ Q' fun d H' e n hd => ⟨rfl, d, rfl, hd, [], 0, _, .non, by decide, by decide, ?_⟩
  show Q (.str (Str.ofString "zero " ++ Str.ofString "None")) H'
  rw [zn_eq]
  exact z H' e
theorem told_amt {Z WA WC : Addr} {v : V} {tl : XK → Hp → VK → Prop} {H : Hp} {Q : VK} {as : List Addr} {n : Nat} {t : Str} (rp : ∀ H', Am.Ext H H' → Rp H' as n v t) (hn : n ≤ 40) (ht : t.length ≤ 100000) (hh : ∀ E Q', RefV WA v H E → tl E H Q') (z : ∀ H', Am.Ext H H' → Q (.str (Str.ofString "amount " ++ t)) H') : TTt Z WA WC tl H Q :=
  .inr (.inl ⟨v, fun Q' => hh _ Q' fun d H' e _ hd => ⟨rfl, d, rfl, hd, as, n, t, rp H' e, hn, ht, z H' e⟩⟩)
theorem told_cnt {Z WA WC : Addr} {v : V} {tl : XK → Hp → VK → Prop} {H : Hp} {Q : VK} {as : List Addr} {n : Nat} {t : Str} (rp : ∀ H', Am.Ext H H' → Rp H' as n v t) (hn : n ≤ 40) (ht : t.length ≤ 100000) (hh : ∀ E Q', RefV WC v H E → tl E H Q') (z : ∀ H', Am.Ext H H' → Q (.str (Str.ofString "count " ++ t)) H') : TTt Z WA WC tl H Q :=
  .inr (.inr ⟨v, fun Q' => hh _ Q' fun d H' e _ hd => ⟨rfl, d, rfl, hd, as, n, t, rp H' e, hn, ht, z H' e⟩⟩)
section
variable {P : Program} {w : World} {K : W.Frag} {mg : Str → Option Value} {base : Heap} {f C Z WA WC ZA ZF c p : Addr} {fd : FuncData} {T : List (Addr × Str)}
structure Zr (P : Program) (w : World) (K : W.Frag) (mg : Str → Option Value) (base : Heap) (C Z WA WC ZA ZF : Addr) : Prop where
  fr : Frees mg
  B : Base P w K mg base C
  DA : Dn P w K mg base CX0 4 "_law_amount" ["_law_part"] (spAmt K C)
  tq : Tq K mg Z WA WC ZA ZF
  tol : Tol K mg
  D1 : DvI P w K mg base C Z (Operator.FloorDiv).info.2 4000 7 fun q p H Q => Whole (q / p) H Q
  D2 : DvI P w K mg base C Z (Operator.Mod).info.2 900 8 fun q p H Q => New C H Q (q - p * ((q / p).floor : Rat))
  V1 : OverK P w K mg base C Z
abbrev nZr : List Str := ["_law_near", "_law_a", "_law_zero", "_law_some"]
theorem scZr : FnScope nZr ["_law_near"] (defScope (top 31)) := ⟨rfl, rfl, rfl, by decide +kernel, rfl, by decide +kernel, by decide +kernel⟩
def spTb (K : W.Frag) (T : List (Addr × Str)) (n : Nat) : Sp := fun vs H Q _ => ∃ t q, vs = [.ref t] ∧ Pt K H t q ∧ Low n q ∧ LamX.Tabs T H ∧ ∀ H', LamX.ExtN H H' → LamX.Tabs T H' → Q (.bl true) H'
theorem ok_zero (S : Zr P w K mg base C Z WA WC ZA ZF) (TB : LamX.TabB base mg c p) (tp : Tq1 T p "_law_by_zero_right.<locals>.<lambda>") (F : FunC K "_law_by_zero_right" "_law_by_zero_right" (top 31) f c fd) : FnG P w K mg base CX0 11 f fd ["_law_near"] (spTb K T 142) := by
  refine okGc F scZr (fun vs H Q E h => ?_) (fun A outer s H vs Q E hG hr h => ?_)
  · obtain ⟨t, q, rfl, _⟩ := h
    rfl
  · obtain ⟨t, q, rfl, ht, lq, hT, z⟩ := h
    have nd := scZr.nd
    have fr := S.fr
    have B := S.B
    obtain ⟨fV, fdV, mV, FV, bV, kV⟩ := S.V1.of
    obtain ⟨g, gd, RF, gm, gb⟩ := S.tol.of
    have gk := RF.kp
    obtain ⟨goc, god, gkV, gdoc, gpm, gan, gcdv, gct, gosl, rfl, glk, gcode⟩ := RF.ex
    refine ⟨_, pss_cons (ps_asg (pe_tup (pa_cons (pe_dn S.DA hr (by rfl) (by decide) (pa_cons (pv 0) pa_nil)) (pa_cons (pe_mk1 B (hr.mono (by decide)) rfl (pa_cons pe_int pa_nil)) pa_nil))) (pg_tup rfl (pgs_cons (pg_name (i := 1) nd rfl (.inr rfl)) (pgs_cons (pg_name (i := 2) nd rfl (.inr rfl)) pgs_nil))))
      (pss_cons (ps_set (i := 3) nd rfl (.inl rfl) (pe_lst (pa_cons (LamX.pe_lamcall (k := 8) (T := T) (TT := TTt Z WA WC) rfl gm gk glk gcode gb scTo rfl (.inl rfl) (told_gives (k := 9) S.tq fr hG hr) TB rfl tp.mem tp.uq hr (LamX.lamS_by (show LamX.lamSB (defScope (top 31)) _ = true by decide +kernel)) rfl (fun _ _ _ _ _ => rfl) (fun A outer s H E f c' hl => pe_op (op_DN (E := E) (.inr (.inr (.inr (.inr rfl)))) S.D1 (passes_call (takes_of rfl rfl rfl rfl) fun _ _ _ _ h => h) (hl.mono (by decide))) (pv 1) (pv 2))) pa_nil)))
      (pss_cons (ps_expr (pe_bm PySem.F.plainAttrs_list PySem.F.slot_list_append PySem.F.type_list_append mt_append (pv 3) (pa_cons (LamX.pe_lamcall (k := 8) (T := T) (TT := TTt Z WA WC) rfl gm gk glk gcode gb scTo rfl (.inl rfl) (told_gives (k := 9) S.tq fr hG hr) TB rfl tp.mem tp.uq hr (LamX.lamS_by (show LamX.lamSB (defScope (top 31)) _ = true by decide +kernel)) rfl (fun _ _ _ _ _ => rfl) (fun A outer s H E f c' hl => pe_op (op_DN (E := E) (.inr (.inr (.inr (.inl rfl)))) S.D2 (passes_call (takes_of rfl rfl rfl rfl) fun _ _ _ _ h => h) (hl.mono (by decide))) (pv 1) pe_int)) pa_nil)))
      (pss_cons (ps_expr (pe_bm PySem.F.plainAttrs_list PySem.F.slot_list_append PySem.F.type_list_append mt_append (pv 3) (pa_cons (LamX.pe_lamcall (k := 8) (T := T) (TT := TTt Z WA WC) rfl gm gk glk gcode gb scTo rfl (.inl rfl) (told_gives (k := 9) S.tq fr hG hr) TB rfl tp.mem tp.uq hr (LamX.lamS_by (show LamX.lamSB (defScope (top 31)) _ = true by decide +kernel)) rfl (fun _ _ _ _ _ => rfl) (fun A outer s H E f c' hl => pe_op (op_DN (E := E) (.inr (.inr (.inr (.inr rfl)))) S.D1 (passes_call (takes_of rfl rfl rfl rfl) fun _ _ _ _ h => h) (hl.mono (by decide))) pe_int (pv 2))) pa_nil)))
      (pss_cons (ps_expr (pe_bm PySem.F.plainAttrs_list PySem.F.slot_list_append PySem.F.type_list_append mt_append (pv 3) (pa_cons (LamX.pe_lamcall (k := 8) (T := T) (TT := TTt Z WA WC) rfl gm gk glk gcode gb scTo rfl (.inl rfl) (told_gives (k := 9) S.tq fr hG hr) TB rfl tp.mem tp.uq hr (LamX.lamS_by (show LamX.lamSB (defScope (top 31)) _ = true by decide +kernel)) rfl (fun _ _ _ _ _ => rfl) (fun A outer s H E f c' hl => pe_op (op_DN (E := E) (.inr (.inr (.inr (.inl rfl)))) S.D2 (passes_call (takes_of rfl rfl rfl rfl) fun _ _ _ _ h => h) (hl.mono (by decide))) pe_int (pv 2))) pa_nil)))
      (pss_cons (ps_expr (pe_bm PySem.F.plainAttrs_list PySem.F.slot_list_append PySem.F.type_list_append mt_append (pv 3) (pa_cons (LamX.pe_lamcall (k := 8) (T := T) (TT := TTt Z WA WC) rfl gm gk glk gcode gb scTo rfl (.inl rfl) (told_gives (k := 9) S.tq fr hG hr) TB rfl tp.mem tp.uq hr (LamX.lamS_by (show LamX.lamSB (defScope (top 31)) _ = true by decide +kernel)) rfl (fun _ _ _ _ _ => rfl) (fun A outer s H E f c' hl => pe_meth (E := E) (pv 1) B.T.cl mV FV (hl.mono (by decide)) bV .nil (passes_call (takes_of rfl rfl rfl rfl) fun _ _ _ _ h => h) (pa_cons pe_int pa_nil))) pa_nil)))
      (pss_one (ps_ret (pe_cmpR (op_eqD hr.units) (pv 3) (pe_op op_rep (pe_lst (pa_cons pe_str pa_nil)) pe_int) (nomark _))))))))), ?_⟩
    have one : ∀ {H1 : Hp} {a : Addr} {r : Rat}, Is C H1 a r → Num C H1 (.ref a) r := fun i => Num.is i
    have l0 : ∀ n, 0 < n → Low n (0 : Rat) := fun n hn => ⟨by show 0 < 2 ^ n; exact Nat.two_pow_pos n, by show 1 < 2 ^ n; exact Nat.one_lt_two_pow (by omega)⟩
    have l4 := lq.more (show 142 ≤ 4000 by decide)
    have l9 := lq.more (show 142 ≤ 900 by decide)
    have l04 := l0 4000 (by decide)
    have l09 := l0 900 (by decide)
    have n0 : ∀ {H1 : Hp}, Num C H1 (.int 0) (0 : Rat) := fun {H1} => .inl ⟨0, rfl, rfl⟩
    have n7 : ∀ {H1 : Hp}, Num C H1 (.int 7) ((7 : Int) : Rat) := fun {H1} => .inl ⟨7, rfl, rfl⟩
    have l74 : Low 4000 ((7 : Int) : Rat) := low_int (Nat.lt_of_lt_of_le (show (7 : Int).natAbs < 2 ^ 3 by decide) (Nat.pow_le_pow_right (by decide) (by decide))) (by decide)
    have l79 : Low 900 ((7 : Int) : Rat) := low_int (Nat.lt_of_lt_of_le (show (7 : Int).natAbs < 2 ^ 3 by decide) (Nat.pow_le_pow_right (by decide) (by decide))) (by decide)
    refine ⟨_, rfl, t, q, rfl, ht, lq.more (by decide), fun a H1 e1 n1 i1 => ⟨0, rfl, Nat.two_pow_pos _, fun b H2 e2 n2 i2 => ⟨(by show 2 ≤ sizeLine; decide), fun tp' htp => ⟨tp', _, rfl, SqT.of upd_same, rfl, _, _, rfl, _, _, rfl, rfl, ?_⟩⟩⟩⟩
    have ez := Am.Ext.new (o := .tup [V.ref a, .ref b]) htp
    replace i1 := (i1.ext e2).ext ez
    have i0 : Is C H2 b (0 : Rat) := i2
    replace i0 := i0.ext ez
    have x0 := (e1.trans e2).trans ez
    show tSeq _ _ _ [some (.ref t), some (.ref a), some (.ref b), none] (upd H2 tp' (.tup [V.ref a, .ref b]))
    generalize upd H2 tp' (.tup [V.ref a, .ref b]) = G at ez i1 i0 x0 ⊢
    clear i2 n2 n1 e1 e2 ez htp
    have TG := hT.ext x0
    have kG := LamX.ExtN.of x0
    refine ⟨TG, fun H3 n3 T3 => told_zero (fun E Q' rf => ⟨_, rfl, _, rfl, q, 0, one (is_xn i1 n3), one (is_xn i0 n3), .inl ⟨a, rfl⟩, l4, l04, fun hh => absurd rfl hh, fun _ => rf⟩) fun H4 e4 => ⟨(by show 1 ≤ sizeLine; decide), fun D hD => ?_⟩⟩
    have k5 := (kG.trans n3).trans (LamX.ExtN.of (e4.trans (Am.Ext.new (o := .lst [.str zn]) hD)))
    have g5 := n3.trans (LamX.ExtN.of (e4.trans (Am.Ext.new (o := .lst [.str zn]) hD)))
    have T5 := T3.ext (e4.trans (Am.Ext.new (o := .lst [.str zn]) hD))
    have hD5 : (upd H4 D (.lst [V.str zn])) D = some (.lst [.str zn]) := upd_same
    have hDH : ∀ o, (∀ ps, o ≠ .tbl ps) → H D ≠ some o := fun o k hz => by
      have hz' := e4 _ _ (n3 _ _ (kG _ _ hz k) k)
      rw [hD] at hz'
      cases hz'
    have hDG : ∀ o, (∀ ps, o ≠ .tbl ps) → G D ≠ some o := fun o k hz => by
      have hz' := e4 _ _ (n3 _ _ hz k)
      rw [hD] at hz'
      cases hz'
    show tSeq _ _ _ [some (.ref t), some (.ref a), some (.ref b), some (.ref D)] (upd H4 D (.lst [V.str zn]))
    generalize upd H4 D (.lst [V.str zn]) = H5 at k5 g5 T5 hD5 ⊢
    clear hD e4
    refine ⟨_, rfl, tyL hD5, T5, fun H6 n6 T6 => told_zero (fun E Q' rf => (fun nn : LamX.ExtN G H6 => ⟨_, rfl, q, 0, one (is_xn i1 nn), n0, .inl ⟨a, rfl⟩, l9, l09, fun hh => absurd rfl hh, fun _ => rf⟩) (g5.trans n6)) fun H7 e7 => ⟨D, _, _, rfl, rfl, e7 _ _ (n6 _ _ hD5 fun _ => HO.noConfusion), (by show 1 < sizeLine; decide), ?_⟩⟩
    replace hD5 := e7 _ _ (n6 _ _ hD5 fun _ => HO.noConfusion)
    replace T5 := tabs_put (o := .lst [V.str zn, V.str zn]) (T6.ext e7) hD5
    replace k5 := xn_put (o := .lst [V.str zn, V.str zn]) ((k5.trans n6).trans (LamX.ExtN.of e7)) hDH
    replace g5 := xn_put (o := .lst [V.str zn, V.str zn]) ((g5.trans n6).trans (LamX.ExtN.of e7)) hDG
    replace hD5 : (upd H7 D (.lst [V.str zn, V.str zn])) D = some (.lst [V.str zn, V.str zn]) := upd_same
    show tSeq _ _ _ [some (.ref t), some (.ref a), some (.ref b), some (.ref D)] (upd H7 D (.lst [V.str zn, V.str zn]))
    generalize upd H7 D (.lst [V.str zn, V.str zn]) = H5 at k5 g5 T5 hD5 ⊢
    clear n6 T6 e7
    refine ⟨_, rfl, tyL hD5, T5, fun H6 n6 T6 => told_zero (fun E Q' rf => (fun nn : LamX.ExtN G H6 => ⟨_, rfl, _, 0, n7, one (is_xn i0 nn), .inr ⟨b, rfl⟩, l74, l04, fun hh => absurd rfl hh, fun _ => rf⟩) (g5.trans n6)) fun H7 e7 => ⟨D, _, _, rfl, rfl, e7 _ _ (n6 _ _ hD5 fun _ => HO.noConfusion), (by show 2 < sizeLine; decide), ?_⟩⟩
    replace hD5 := e7 _ _ (n6 _ _ hD5 fun _ => HO.noConfusion)
    replace T5 := tabs_put (o := .lst [V.str zn, V.str zn, V.str zn]) (T6.ext e7) hD5
    replace k5 := xn_put (o := .lst [V.str zn, V.str zn, V.str zn]) ((k5.trans n6).trans (LamX.ExtN.of e7)) hDH
    replace g5 := xn_put (o := .lst [V.str zn, V.str zn, V.str zn]) ((g5.trans n6).trans (LamX.ExtN.of e7)) hDG
    replace hD5 : (upd H7 D (.lst [V.str zn, V.str zn, V.str zn])) D = some (.lst [V.str zn, V.str zn, V.str zn]) := upd_same
    show tSeq _ _ _ [some (.ref t), some (.ref a), some (.ref b), some (.ref D)] (upd H7 D (.lst [V.str zn, V.str zn, V.str zn]))
    generalize upd H7 D (.lst [V.str zn, V.str zn, V.str zn]) = H5 at k5 g5 T5 hD5 ⊢
    clear n6 T6 e7
    refine ⟨_, rfl, tyL hD5, T5, fun H6 n6 T6 => told_zero (fun E Q' rf => (fun nn : LamX.ExtN G H6 => ⟨_, rfl, _, 0, n7, one (is_xn i0 nn), .inr ⟨b, rfl⟩, l79, l09, fun hh => absurd rfl hh, fun _ => rf⟩) (g5.trans n6)) fun H7 e7 => ⟨D, _, _, rfl, rfl, e7 _ _ (n6 _ _ hD5 fun _ => HO.noConfusion), (by show 3 < sizeLine; decide), ?_⟩⟩
    replace hD5 := e7 _ _ (n6 _ _ hD5 fun _ => HO.noConfusion)
    replace T5 := tabs_put (o := .lst [V.str zn, V.str zn, V.str zn, V.str zn]) (T6.ext e7) hD5
    replace k5 := xn_put (o := .lst [V.str zn, V.str zn, V.str zn, V.str zn]) ((k5.trans n6).trans (LamX.ExtN.of e7)) hDH
    replace g5 := xn_put (o := .lst [V.str zn, V.str zn, V.str zn, V.str zn]) ((g5.trans n6).trans (LamX.ExtN.of e7)) hDG
    replace hD5 : (upd H7 D (.lst [V.str zn, V.str zn, V.str zn, V.str zn])) D = some (.lst [V.str zn, V.str zn, V.str zn, V.str zn]) := upd_same
    show tSeq _ _ _ [some (.ref t), some (.ref a), some (.ref b), some (.ref D)] (upd H7 D (.lst [V.str zn, V.str zn, V.str zn, V.str zn]))
    generalize upd H7 D (.lst [V.str zn, V.str zn, V.str zn, V.str zn]) = H5 at k5 g5 T5 hD5 ⊢
    clear n6 T6 e7
    refine ⟨_, rfl, tyL hD5, T5, fun H6 n6 T6 => told_zero (fun E Q' rf => (fun nn : LamX.ExtN G H6 => by
      obtain ⟨dxa, exa⟩ := is_xn i1 nn
      exact ⟨_, rfl, a, dxa, _, rfl, exa, no_over q, a, _, q, 0, rfl, ⟨dxa, exa⟩, n0, l4, l04, fun hh => absurd rfl hh, fun _ => rf⟩) (g5.trans n6)) fun H7 e7 => ⟨D, _, _, rfl, rfl, e7 _ _ (n6 _ _ hD5 fun _ => HO.noConfusion), (by show 4 < sizeLine; decide), ?_⟩⟩
    replace hD5 := e7 _ _ (n6 _ _ hD5 fun _ => HO.noConfusion)
    replace T5 := tabs_put (o := .lst [V.str zn, V.str zn, V.str zn, V.str zn, V.str zn]) (T6.ext e7) hD5
    replace k5 := xn_put (o := .lst [V.str zn, V.str zn, V.str zn, V.str zn, V.str zn]) ((k5.trans n6).trans (LamX.ExtN.of e7)) hDH
    replace g5 := xn_put (o := .lst [V.str zn, V.str zn, V.str zn, V.str zn, V.str zn]) ((g5.trans n6).trans (LamX.ExtN.of e7)) hDG
    replace hD5 : (upd H7 D (.lst [V.str zn, V.str zn, V.str zn, V.str zn, V.str zn])) D = some (.lst [V.str zn, V.str zn, V.str zn, V.str zn, V.str zn]) := upd_same
    refine ⟨_, rfl, (by show 1 ≤ sizeLine; decide), fun M hM => ⟨M, 5, _, rfl, rfl, upd_same, by decide, by decide, (by show 5 ≤ sizeLine; decide), fun N hN => ?_⟩⟩
    have e8 := (Am.Ext.new (o := .lst [V.str zn]) hM).trans (Am.Ext.new (o := .lst [V.str zn, V.str zn, V.str zn, V.str zn, V.str zn]) hN)
    refine eqd_same (xs := [V.str zn, V.str zn, V.str zn, V.str zn, V.str zn]) (SqL.of (e8 _ _ hD5)) (SqL.of upd_same) (dp_strs [zn, zn, zn, zn, zn]) (shaped_strs fun x m => by simp only [List.mem_cons, List.not_mem_nil, or_false, or_self] at m; rw [m]; exact sok_of _) ?_
    exact z _ (k5.trans (LamX.ExtN.of e8)) (T5.ext e8)
end
end KB

set_option Elab.async false
set_option linter.all false
set_option maxRecDepth 100000
set_option maxHeartbeats 2000000
set_option exponentiation.threshold 20000
namespace KB
open PySem PySem.Spec PyProof.Rows L2 Oo Gd Am KA
theorem for_enum {K : PySem.W.Frag} {a : Addr} {xs : List V} {g : TG} {tb : TS} {D : Ends} {σ : L2.St} {H : Hp} (Pv : Nat → L2.St → Hp → Prop) (h0 : Pv 0 σ H) (hl : ∀ i σ H, i ≤ xs.length → Pv i σ H → SqL K H a xs)
    (hs : ∀ i x σ H, xs[i]? = some x → Pv i σ H → ∀ T, H T = none → g (.ref T) σ (upd H T (.tup [.int (i : Nat), x])) fun σ2 H2 => tb { D with nx := Pv (i + 1), ct := Pv (i + 1), bk := D.nx } σ2 H2) (hd : ∀ σ H, Pv xs.length σ H → D.nx σ H) :
    ∃ W : Nat → Nat → L2.St → Hp → Prop, (∃ m, W 0 m σ H) ∧ ∀ i m σ H, W i m σ H →
      ((Ite K a).stop i H ∧ D.nx σ H) ∨ ((Ite K a).go i H ∧ ∃ N : L2.St → Hp → Prop, (∀ σ' H', N σ' H' → ∃ m', m' < m ∧ W (i + 1) m' σ' H') ∧ ∀ x H', (Ite K a).yld i H x H' → g x σ H' fun σ2 H2 => tb { D with nx := N, ct := N, bk := D.nx } σ2 H2) := by
  refine ⟨fun i m σ H => m = xs.length - i ∧ i ≤ xs.length ∧ Pv i σ H, ⟨xs.length, by simp, Nat.zero_le _, h0⟩, ?_⟩
  rintro i m σ H ⟨rfl, hi, p⟩
  have q := hl i σ H hi p
  by_cases hlt : i < xs.length
  · refine .inr ⟨⟨xs, xs[i], q, by simp [hlt]⟩, Pv (i + 1), fun σ' H' p' => ⟨xs.length - (i + 1), by omega, rfl, hlt, p'⟩, fun x H' y => ?_⟩
    obtain ⟨T, x', rfl, hT, rfl, y⟩ := y
    exact hs i x' σ _ (y xs q) p T hT
  · have e : i = xs.length := by omega
    subst e
    exact .inl ⟨⟨xs, q, Nat.le_refl _⟩, hd σ H p⟩
theorem rp_i {H : Hp} {n : Nat} {i : Int} (h : i.natAbs < 2 ^ n) (hn : n ≤ 1900) (h0 : 0 < n) : Rp H [] 0 (.int i) (toString i) ∧ (Str.ofString (toString i)).length ≤ 3000 := by
  have l := len_of (n := n) h0 h
  refine ⟨.int i ?_, by omega⟩
  by_cases z : i.natAbs = 0
  · rw [z]; decide
  · exact Nat.lt_of_lt_of_le ((Nat.log2_lt z).mpr h) (by omega)
theorem pow_low {n : Nat} {q : Rat} (h : Low n q) : ∀ i : Nat, Low (n * i + 1) (q ^ i)
  | 0 => by
    rw [Rat.pow_zero]
    exact ⟨by show 1 < 2 ^ (n * 0 + 1); rw [Nat.mul_zero]; decide, by show 1 < 2 ^ (n * 0 + 1); rw [Nat.mul_zero]; decide⟩
  | i + 1 => by
    rw [Rat.pow_succ]
    exact ((pow_low h i).mul h).more (by rw [Nat.mul_succ]; omega)
theorem shp_pow (q : Rat) (k : Nat) : shp (q.num ^ k) ((q.den : Int) ^ k) = Am.shown (q ^ k) := by
  rw [← shp_shown, Rat.num_pow, Rat.den_pow, Int.natCast_pow]
section
variable {P : Program} {w : World} {K : W.Frag} {mg : Str → Option Value} {base : Heap} {f C : Addr} {fd : FuncData}
structure Sh (P : Program) (w : World) (K : W.Frag) (mg : Str → Option Value) (base : Heap) (C : Addr) : Prop where
  nb : base.NoDigits
  fr : Frees mg
  B : Base P w K mg base C
  R : Rep P w K mg base C
  N : Neg P w K mg base C
  ab : Una P w K mg base C "__abs__" 4 (spUn C aq)
  bo : Una P w K mg base C "__bool__" 1 (spBool C)
  st : Una P w K mg base C "__str__" 1 (spText C written)
  pw : Pow P w K mg base C
  rn : Rnd P w K mg base C
  DA : Dn P w K mg base CX0 4 "_law_amount" ["_law_part"] (spAmt K C)
  DS : Dn P w K mg base CX0 1 "_law_shape" ["_law_high", "_law_low"] spShp
  DW : Dn P w K mg base CX0 1 "_law_power" ["_law_base", "_law_size"] spPw
  DD : Dn P w K mg base CX0 2 "_law_decimal" ["_law_near", "_law_size"] (spDe K)
abbrev nSh : List Str := ["_law_near", "_law_size", "_law_a", "_law_high", "_law_low", "_law_sign", "_law_at", "_law_told_here", "_law_by"]
theorem scSh : FnScope nSh ["_law_near", "_law_size"] (defScope (top 34)) := ⟨rfl, rfl, rfl, by decide +kernel, rfl, by decide +kernel, by decide +kernel⟩
def spSh (K : W.Frag) : Sp := fun vs H Q _ => ∃ (t : Addr) (q : Rat) (k : Nat), vs = [.ref t, .int k] ∧ Pt K H t q ∧ Low 142 q ∧ k ≤ 12 ∧ ∀ H', Am.Ext H H' → Q (.bl true) H'
theorem ok_sh (L : Sh P w K mg base C) (F : Fun K "_law_shown_right" "_law_shown_right" (top 34) f fd) : FnG P w K mg base CX0 7 f fd ["_law_near", "_law_size"] (spSh K) := by
  refine Gd.okG F scSh (fun vs H Q E h => ?_) (fun cdv A outer s H vs Q E hG hr h => ?_)
  · obtain ⟨t, q, k, rfl, _⟩ := h
    rfl
  · obtain ⟨t, q, k, rfl, ht, lq, k12, z⟩ := h
    have nd := scSh.nd
    have fr := L.fr
    have nb := L.nb
    have B := L.B
    have h2 := hr.mono (show 2 ≤ 6 by decide)
    have h3 := hr.mono (show 3 ≤ 6 by decide)
    have h4 := hr.mono (show 4 ≤ 6 by decide)
    have h5 := hr.mono (show 5 ≤ 6 by decide)
    obtain ⟨fR, fdR, mR, FR, bR, kR⟩ := L.rn.of
    refine ⟨_, pss_cons (ps_par3 (i := 2) (j := 3) (l := 4) rfl nd rfl rfl rfl (by decide) (by decide) (by decide) rfl rfl rfl (pa_cons (pe_dn L.DA hr (by rfl) (by decide) (pa_cons (pv 0) pa_nil)) (pa_cons (pe_ix ix_tup (pv 0) pe_int (fun _ _ => rfl)) (pa_cons (pe_ix ix_tup (pv 0) pe_int (fun _ _ => rfl)) pa_nil))) (by rfl))
      (pss_cons (ps_set (i := 5) nd rfl (.inl rfl) (pe_op op_sub (pe_callTy call_int1 rfl (fr.h _ (by decide +kernel)) (by decide +kernel) (pa_cons (pe_cmpR op_gt (pv 3) pe_int (nomark _)) pa_nil)) (pe_callTy call_int1 rfl (fr.h _ (by decide +kernel)) (by decide +kernel) (pa_cons (pe_cmpR op_lt (pv 3) pe_int (nomark _)) pa_nil))))
      (pss_cons (ps_if (pt_cmpR op_ne (pe_callB (call_repr hG hr) rfl (fr.h _ (by decide +kernel)) (by decide +kernel) (pa_cons (pe_lst (pa_cons (pe_pTop B h2 (pv 2)) (pa_cons (pe_pBot B h2 (pv 2)) (pa_cons (pe_pSgn B h2 (pv 2)) (pa_cons (pe_callTy (call_boolN L.bo h3) rfl (fr.h _ (by decide +kernel)) (by decide +kernel) (pa_cons (pv 2) pa_nil)) pa_nil))))) pa_nil))
        (pe_callB (call_repr hG hr) rfl (fr.h _ (by decide +kernel)) (by decide +kernel) (pa_cons (pe_lst (pa_cons (pv 3) (pa_cons (pv 4) (pa_cons (pv 5) (pa_cons (pe_cmpR op_ne (pv 3) pe_int (nomark _)) pa_nil))))) pa_nil)) (nomark _)) (pss_one (ps_ret pe_bl)) pss_nil)
      (C8.pss_cut (ps_if (pt_cmpR (op_neD hr.units) (pe_lst (pa_cons (pe_callB (call_reprN (k := 3) L.R hG hr) rfl (fr.h _ (by decide +kernel)) (by decide +kernel) (pa_cons (pv 2) pa_nil)) (pa_cons (pe_callTy (call_strN L.st h3) rfl (fr.h _ (by decide +kernel)) (by decide +kernel) (pa_cons (pv 2) pa_nil)) pa_nil)))
        (pe_lst (pa_cons (pe_dn L.DS hr (by rfl) (by decide) (pa_cons (pv 3) (pa_cons (pv 4) pa_nil))) (pa_cons (pe_ifExp (pt_cmpR op_eq (pv 4) pe_int (nomark _)) (pe_callTy (call_strI nb rfl) rfl (fr.h _ (by decide +kernel)) (by decide +kernel) (pa_cons (pv 3) pa_nil))
          (pe_op op_add_str (pe_op op_add_str (pe_callTy (call_strI nb rfl) rfl (fr.h _ (by decide +kernel)) (by decide +kernel) (pa_cons (pv 3) pa_nil)) pe_str) (pe_callTy (call_strI nb rfl) rfl (fr.h _ (by decide +kernel)) (by decide +kernel) (pa_cons (pv 4) pa_nil)))) pa_nil))) (nomark _)) (pss_one (ps_ret pe_bl)) pss_nil)
      (pss_cons (ps_if (pt_cmpR (op_neD hr.units) (pe_lst (pa_cons (pe_callB (call_reprN (k := 3) L.R hG hr) rfl (fr.h _ (by decide +kernel)) (by decide +kernel) (pa_cons (pe_un (un_N L.N h4) (pv 2)) pa_nil)) (pa_cons (pe_callB (call_reprN (k := 3) L.R hG hr) rfl (fr.h _ (by decide +kernel)) (by decide +kernel) (pa_cons (pe_callB (call_absN L.ab h5) rfl (fr.h _ (by decide +kernel)) (by decide +kernel) (pa_cons (pv 2) pa_nil)) pa_nil)) pa_nil)))
        (pe_lst (pa_cons (pe_dn L.DS hr (by rfl) (by decide) (pa_cons (pe_un un_neg (pv 3)) (pa_cons (pv 4) pa_nil))) (pa_cons (pe_dn L.DS hr (by rfl) (by decide) (pa_cons (pe_callB call_abs rfl (fr.h _ (by decide +kernel)) (by decide +kernel) (pa_cons (pv 3) pa_nil)) (pa_cons (pv 4) pa_nil))) pa_nil))) (nomark _)) (pss_one (ps_ret pe_bl)) pss_nil)
      (pss_cons (ps_for PassesOwn.never rfl (pi_enum rfl (fr.h _ (by decide +kernel)) (pa_cons (pe_lst (pa_cons (pe_op (op_P L.pw hr) (pv 2) pe_int) (pa_cons (pe_op (op_P L.pw hr) (pv 2) pe_int) (pa_cons (pe_op (op_P L.pw hr) (pv 2) pe_int) (pa_cons (pe_op (op_P L.pw hr) (pv 2) pe_int) (pa_cons (pe_op (op_P L.pw hr) (pv 2) pe_int) (pa_cons (pe_op (op_P L.pw hr) (pv 2) pe_int) pa_nil))))))) pa_nil))
        (pg_tup rfl (pgs_cons (pg_name (i := 6) nd rfl (.inl rfl)) (pgs_cons (pg_name (i := 7) nd rfl (.inl rfl)) pgs_nil)))
        (pss_cons (ps_set (i := 8) nd rfl (.inl rfl) (pe_ix ix_list (pe_lst (pa_cons pe_int (pa_cons pe_int (pa_cons pe_int (pa_cons pe_int (pa_cons pe_int (pa_cons pe_int pa_nil))))))) (pv 6) (fun _ _ => rfl)))
        (pss_one (ps_if (pt_cmpR op_ne (pe_callB (call_reprN (k := 3) L.R hG hr) rfl (fr.h _ (by decide +kernel)) (by decide +kernel) (pa_cons (pv 7) pa_nil)) (pe_dn L.DS hr (by rfl) (by decide) (pa_cons (pe_dn L.DW hr (by rfl) (by decide) (pa_cons (pv 3) (pa_cons (pv 8) pa_nil))) (pa_cons (pe_dn L.DW hr (by rfl) (by decide) (pa_cons (pv 4) (pa_cons (pv 8) pa_nil))) pa_nil))) (nomark _)) (pss_one (ps_ret pe_bl)) pss_nil))))
      (pss_one (ps_ret (pe_and (pe_cmpR op_eq (pe_meth (E := E0) (pv 2) B.T.cl mR FR h3 bR .nil pass0 (pa_cons (pv 1) pa_nil)) (pe_dn L.DD hr (by rfl) (by decide) (pa_cons (pv 0) (pa_cons (pv 1) pa_nil))) (nomark _))
        (pe_one (pe_cmpR op_eq (pe_methK (E := E0) (pv 2) B.T.cl mR FR h3 kR pass0 (pk_cons (pv 1) pk_nil)) (pe_dn L.DD hr (by rfl) (by decide) (pa_cons (pv 0) (pa_cons (pv 1) pa_nil))) (nomark _))))))))))), ?_⟩
    have one : ∀ {H1 : Hp} {a : Addr} {r : Rat}, Is C H1 a r → Num C H1 (.ref a) r := fun i => Num.is i
    have sz : Sz q := lq.more (by decide)
    have l8 : Low 8000 q := lq.more (by decide)
    have dq := KA.low_den lq
    have ln := low_neg lq
    have la := low_aq lq
    refine ⟨_, rfl, t, q, rfl, ht, lq.more (by decide), fun a H1 e1 n1 i1 => ?_⟩
    have ht1 := Pt.ext ht e1
    refine ⟨_, rfl, _, _, 0, _, rfl, rfl, ht1, rfl, _, rfl, _, _, 1, _, rfl, rfl, ht1, rfl, _, _, _, rfl, ?_⟩
    refine ⟨_, rfl, _, _, rfl, rfl, .inr ⟨_, rfl, _, rfl, _, _, rfl, rfl, .inr ⟨_, rfl, _, _, rfl, rfl, ?_⟩⟩⟩
    show tSeq _ _ _ [some (.ref t), some (.int k), some (.ref a), some (.int q.num), some (.int q.den), some (.int ((if decide (0 < q.num) = true then 1 else 0) - (if decide (q.num < 0) = true then 1 else 0))), none, none, none] H1
    rw [sign_eq]
    have e0 : (!decide (V.int q.num = V.int 0)) = decide (q.num ≠ 0) := by
      by_cases h : q.num = 0
      · simp [h]
      · simp [h]
    have rp4 : ∀ {H' : Hp}, RpAll H' [.int q.num, .int q.den, .int q.num.sign, .bl (decide (q.num ≠ 0))] [(toString q.num : String), (toString (q.den : Int) : String), (toString q.num.sign : String), (if decide (q.num ≠ 0) = true then Str.ofString "True" else Str.ofString "False")] := fun {H'} => by
      have a1 := rp_i (H := H') lq.1 (by decide) (by decide)
      have a2 := rp_i (H := H') dq (by decide) (by decide)
      have a3 := rp_i (H := H') (n := 112) (i := q.num.sign) (Nat.lt_of_le_of_lt (by rw [Int.natAbs_sign]; split <;> decide) (show 1 < 2 ^ 112 by decide)) (by decide) (by decide)
      exact .cons a1.1 a1.2 (.cons a2.1 a2.2 (.cons a3.1 a3.2 (.cons (.bl _) (by split <;> decide) .nil)))
    refine ⟨_, rfl, a, q, rfl, i1, _, rfl, a, q, rfl, i1, _, rfl, a, q, rfl, i1, _, rfl, a, q, rfl, i1, (by show 4 ≤ sizeLine; decide), fun L hL => ⟨.ref L, [L], 1, _, rfl, rpL upd_same rp4, by decide, rpz (rp4 (H' := H1)) (by show 4 ≤ 30; decide), ?_⟩⟩
    refine ⟨_, rfl, _, rfl, _, rfl, _, rfl, rfl, (by show 4 ≤ sizeLine; decide), fun M hM => ⟨.ref M, [M], 1, _, rfl, rpL (xs := [.int q.num, .int q.den, .int q.num.sign, .bl (decide (q.num ≠ 0))]) (by rw [upd_same, e0]) rp4, by decide, rpz (rp4 (H' := H1)) (by show 4 ≤ 30; decide), ne_str _ ⟨_, rfl, iteF ?_⟩⟩⟩
    have e2 := e1.trans ((Am.Ext.new (o := .lst [V.int q.num, .int q.den, .int q.num.sign, .bl (decide (q.num ≠ 0))]) hL).trans (Am.Ext.new (o := .lst [V.int q.num, .int q.den, .int q.num.sign, .bl (!decide (V.int q.num = V.int 0))]) hM))
    have i2 := (i1.ext (Am.Ext.new (o := .lst [V.int q.num, .int q.den, .int q.num.sign, .bl (decide (q.num ≠ 0))]) hL)).ext (Am.Ext.new (o := .lst [V.int q.num, .int q.den, .int q.num.sign, .bl (!decide (V.int q.num = V.int 0))]) hM)
    generalize upd (upd H1 L (.lst [V.int q.num, .int q.den, .int q.num.sign, .bl (decide (q.num ≠ 0))])) M (.lst [V.int q.num, .int q.den, .int q.num.sign, .bl (!decide (V.int q.num = V.int 0))]) = H2 at e2 i2 ⊢
    clear hL hM i1 e1 ht1 n1
    have ht2 := Pt.ext ht e2
    have l3 : ∀ {q' : Rat} {a' : Addr}, Low 142 q' → SmN (.ref a') q' := fun h => h.more (by decide)
    have n8 : q.num.natAbs < 2 ^ 8000 := l8.1
    have d8 : ((q.den : Int)).natAbs < 2 ^ 8000 := KA.low_den l8
    have big : (1000000 : Nat) ≤ sizeLine := by decide
    have ln8 := big_len n8
    have ld8 := big_len d8
    have k1 : (Str.ofString "/").length = 1 := by decide
    refine ⟨fun σ H' => σ = [some (.ref t), some (.int k), some (.ref a), some (.int q.num), some (.int q.den), some (.int q.num.sign), none, none, none] ∧ Am.Ext H2 H', ?_, ?_⟩
    · refine ⟨_, rfl, .ref a, q, rfl, one i2, l3 lq, _, rfl, a, q, rfl, i2, l8, (by show 2 ≤ sizeLine; decide), fun L hL => ?_⟩
      have e3 := Am.Ext.new (o := .lst [.str (Am.shown q), .str (written q)]) hL
      have hL3 : (upd H2 L (.lst [.str (Am.shown q), .str (written q)])) L = some (.lst [.str (Am.shown q), .str (written q)]) := upd_same
      have fin : ∀ {H' : Hp} {M : Addr} {x : Str} {Q' : VK}, written q = x → Am.Ext (upd H2 L (.lst [.str (Am.shown q), .str (written q)])) H' → H' M = none → Q' (.bl false) (upd H' M (.lst [.str (shp q.num q.den), .str x])) → rNeD K (.ref L) (.ref M) (upd H' M (.lst [.str (shp q.num q.den), .str x])) Q' := fun {H' M x Q'} ex e4 hM z' => by
        refine ned_same (xs := [.str (Am.shown q), .str (written q)]) (SqL.of (Am.Ext.new hM _ _ (e4 _ _ hL3))) (SqL.of (by rw [upd_same, ex, shp_shown])) (dp_strs [Am.shown q, written q]) (shaped_strs fun y m => ?_) z'
        simp only [List.mem_cons, List.not_mem_nil, or_false] at m
        rcases m with rfl | rfl
        · exact sok_shown _
        · exact sok_written _
      refine ⟨_, rfl, _, rfl, _, _, rfl, n8, d8, _, rfl, rfl, _, rfl, ite2 (fun h => ?_) (fun h => ?_)⟩
      · have d1 : (q.den : Int) = 1 := V.int.inj (of_decide_eq_true h)
        exact ⟨_, rfl, _, rfl, n8, (by show 2 ≤ sizeLine; decide), fun M hM => fin (by unfold written; rw [if_pos d1]) (Am.Ext.refl _) hM ⟨_, rfl, iteF ⟨rfl, e3.trans (Am.Ext.new hM)⟩⟩⟩
      · have d1 : ¬ (q.den : Int) = 1 := fun e => h (by rw [e]; exact decide_eq_true rfl)
        refine ⟨_, rfl, _, rfl, n8, _, _, rfl, rfl, ?_, _, rfl, _, rfl, d8, _, _, rfl, rfl, ?_, (by show 2 ≤ sizeLine; decide), fun M hM => fin (by unfold written; rw [if_neg d1, emp]) (Am.Ext.refl _) hM ⟨_, rfl, iteF ⟨rfl, e3.trans (Am.Ext.new hM)⟩⟩⟩
        · simp only [strLen_append, k1]; omega
        · simp only [strLen_append, k1]; omega
    rintro σ H3 ⟨rfl, e3⟩
    have i3 := i2.ext e3
    have w3 := e2.trans e3
    refine ⟨_, rfl, a, q, rfl, i3, sz, fun r4 H4 e4 n4 i4 => ⟨_, -q, rfl, Num.is i4, l3 ln, _, rfl, a, q, rfl, i3.ext e4, sz, fun r5 H5 e5 n5 i5 => ⟨_, aq q, rfl, Num.is i5, l3 la, (by show 2 ≤ sizeLine; decide), fun L hL => ?_⟩⟩⟩
    have e6 := (e4.trans e5).trans (Am.Ext.new (o := .lst [.str (Am.shown (-q)), .str (Am.shown (aq q))]) hL)
    have nN : (-q.num).natAbs < 2 ^ 8000 := by rw [Int.natAbs_neg]; exact n8
    have nA : (if q.num < 0 then -q.num else q.num).natAbs < 2 ^ 8000 := by
      split
      · exact nN
      · exact n8
    refine ⟨_, rfl, _, rfl, _, rfl, _, _, rfl, nN, d8, _, rfl, _, rfl, _, rfl, _, _, rfl, nA, d8, (by show 2 ≤ sizeLine; decide), fun M hM => ?_⟩
    have eN : shp (-q.num) (q.den : Int) = Am.shown (-q) := shp_shown (-q)
    have eA : shp (if q.num < 0 then -q.num else q.num) (q.den : Int) = Am.shown (aq q) := by rw [← shp_shown, aq_num, aq_den]
    refine ned_same (H := upd (upd H5 L (.lst [V.str (Am.shown (-q)), .str (Am.shown (aq q))])) M (.lst [V.str (shp (-q.num) (q.den : Int)), .str (shp (if q.num < 0 then -q.num else q.num) (q.den : Int))])) (xs := [.str (Am.shown (-q)), .str (Am.shown (aq q))]) (SqL.of (Am.Ext.new hM _ _ upd_same)) (SqL.of (by rw [upd_same, eN, eA])) (dp_strs [Am.shown (-q), Am.shown (aq q)]) (shaped_strs fun y m => ?_) ⟨_, rfl, iteF ?_⟩
    · simp only [List.mem_cons, List.not_mem_nil, or_false] at m
      rcases m with rfl | rfl <;> exact sok_shown _
    have e7 := e6.trans (Am.Ext.new (o := .lst [.str (shp (-q.num) (q.den : Int)), .str (shp (if q.num < 0 then -q.num else q.num) (q.den : Int))]) hM)
    have i7 := i3.ext e7
    have w7 := w3.trans e7
    generalize upd (upd H5 L (.lst [V.str (Am.shown (-q)), .str (Am.shown (aq q))])) M (.lst [V.str (shp (-q.num) (q.den : Int)), .str (shp (if q.num < 0 then -q.num else q.num) (q.den : Int))]) = H7 at e7 i7 w7 ⊢
    clear hM e6 hL e5 n5 i5 e4 n4 i4
    have l330 : Low 330 q := lq.more (by decide)
    refine ⟨_, rfl, a, q, 0, rfl, rfl, i7, l330, by decide, by decide, fun r0 G0 g0 m0 j0 => ?_⟩
    refine ⟨_, rfl, a, q, 1, rfl, rfl, i7.ext g0, l330, by decide, by decide, fun r1 G1 g1 m1 j1 => ?_⟩
    have f1 := g1
    replace g1 := g0.trans g1
    refine ⟨_, rfl, a, q, 2, rfl, rfl, i7.ext g1, l330, by decide, by decide, fun r2 G2 g2 m2 j2 => ?_⟩
    have f2 := g2
    replace g2 := g1.trans g2
    refine ⟨_, rfl, a, q, 3, rfl, rfl, i7.ext g2, l330, by decide, by decide, fun r3 G3 g3 m3 j3 => ?_⟩
    have f3 := g3
    replace g3 := g2.trans g3
    refine ⟨_, rfl, a, q, 7, rfl, rfl, i7.ext g3, l330, by decide, by decide, fun r4 G4 g4 m4 j4 => ?_⟩
    have f4 := g4
    replace g4 := g3.trans g4
    refine ⟨_, rfl, a, q, 12, rfl, rfl, i7.ext g4, l330, by decide, by decide, fun r5 G5 g5 m5 j5 => ⟨(by show 6 ≤ sizeLine; decide), fun D hD => ?_⟩⟩
    have f5 := g5
    replace g5 := g4.trans g5
    have fD := Am.Ext.new (o := .lst [V.ref r0, .ref r1, .ref r2, .ref r3, .ref r4, .ref r5]) hD
    have p5 := Is.ext j5 fD
    have p4 := Is.ext j4 (f5.trans fD)
    have p3 := Is.ext j3 (f4.trans (f5.trans fD))
    have p2 := Is.ext j2 (f3.trans (f4.trans (f5.trans fD)))
    have p1 := Is.ext j1 (f2.trans (f3.trans (f4.trans (f5.trans fD))))
    have p0 := Is.ext j0 (f1.trans (f2.trans (f3.trans (f4.trans (f5.trans fD)))))
    have wG := w7.trans (g5.trans fD)
    have iG := i7.ext (g5.trans fD)
    have hDG : (upd G5 D (.lst [V.ref r0, .ref r1, .ref r2, .ref r3, .ref r4, .ref r5])) D = some (.lst [V.ref r0, .ref r1, .ref r2, .ref r3, .ref r4, .ref r5]) := upd_same
    refine ⟨D, _, rfl, SqL.of upd_same, ?_⟩
    show ∃ W : Nat → Nat → L2.St → Hp → Prop, (∃ m, W 0 m [some (.ref t), some (.int k), some (.ref a), some (.int q.num), some (.int q.den), some (.int q.num.sign), none, none, none] (upd G5 D (.lst [V.ref r0, .ref r1, .ref r2, .ref r3, .ref r4, .ref r5]))) ∧ _
    generalize upd G5 D (.lst [V.ref r0, .ref r1, .ref r2, .ref r3, .ref r4, .ref r5]) = G at *
    clear f1 f2 f3 f4 f5 j0 j1 j2 j3 j4 j5 g0 g1 g2 g3 g4 g5 m0 m1 m2 m3 m4 m5
    have item : ∀ (i : Nat) (x : V), [V.ref r0, .ref r1, .ref r2, .ref r3, .ref r4, .ref r5][i]? = some x → ∃ (r : Addr) (kk : Nat), x = .ref r ∧ kk ≤ 12 ∧ atI [V.int 0, .int 1, .int 2, .int 3, .int 7, .int 12] (i : Nat) = some (.int kk) ∧ Is C G r (q ^ kk) := fun i x h => by
      match i, h with
      | 0, h => cases h; exact ⟨r0, 0, rfl, by decide, rfl, p0⟩
      | 1, h => cases h; exact ⟨r1, 1, rfl, by decide, rfl, p1⟩
      | 2, h => cases h; exact ⟨r2, 2, rfl, by decide, rfl, p2⟩
      | 3, h => cases h; exact ⟨r3, 3, rfl, by decide, rfl, p3⟩
      | 4, h => cases h; exact ⟨r4, 7, rfl, by decide, rfl, p4⟩
      | 5, h => cases h; exact ⟨r5, 12, rfl, by decide, rfl, p5⟩
      | i + 6, h => simp at h
    refine for_enum (xs := [V.ref r0, .ref r1, .ref r2, .ref r3, .ref r4, .ref r5]) (fun i σ H' => Am.Ext G H' ∧ ∃ e6 e7 e8, σ = [some (.ref t), some (.int k), some (.ref a), some (.int q.num), some (.int q.den), some (.int q.num.sign), e6, e7, e8]) ⟨Am.Ext.refl _, none, none, none, rfl⟩ (fun i σ H' _ h => SqL.of (h.1 _ _ hDG)) ?_ ?_
    · rintro i x σ H' hx ⟨eH, e6, e7', e8, rfl⟩ T hT
      obtain ⟨r, kk, rfl, kk12, at_, ir⟩ := item i x hx
      refine ⟨T, _, rfl, SqT.of upd_same, rfl, _, _, rfl, _, _, rfl, rfl, (by show 6 ≤ sizeLine; decide), fun M hM => ⟨_, rfl, M, _, i, .int kk, rfl, rfl, SqL.of upd_same, at_, ?_⟩⟩
      have eM := (eH.trans (Am.Ext.new (o := .tup [V.int i, .ref r]) hT)).trans (Am.Ext.new (o := .lst [V.int 0, .int 1, .int 2, .int 3, .int 7, .int 12]) hM)
      have lp := pow_low lq kk
      have b2 : q.num.natAbs < 2 ^ 200 := Nat.lt_trans lq.1 (by decide)
      have b3 : ((q.den : Int)).natAbs < 2 ^ 200 := Nat.lt_trans dq (by decide)
      have up : (2 : Nat) ^ 2401 < 2 ^ 8000 := Nat.pow_lt_pow_right (by decide) (by decide)
      refine ⟨_, rfl, .ref r, q ^ kk, rfl, one (ir.ext eM), lp.more (by omega), _, rfl, _, rfl, q.num, kk, rfl, b2, kk12, _, rfl, _, rfl, (q.den : Int), kk, rfl, b3, kk12, _, _, rfl, Nat.lt_trans (pw_bits b2 kk12) up, Nat.lt_trans (pw_bits b3 kk12) up, ?_⟩
      rw [shp_pow]
      exact ne_str _ ⟨_, rfl, iteF ⟨eM, _, _, _, rfl⟩⟩
    · rintro σ H' ⟨eH, e6, e7', e8, rfl⟩
      obtain ⟨dx, ea⟩ := iG.ext eH
      have tH := Pt.ext ht (wG.trans eH)
      refine ⟨_, rfl, a, dx, _, rfl, ea, no_rnd q, _, rfl, a, q, k, rfl, ⟨dx, ea⟩, lq.more (by decide), k12, _, rfl, _, rfl, t, q, k, rfl, tH, lq.more (by decide), k12, eq_str _ ⟨true, rfl, iteT ?_⟩⟩
      exact ⟨_, rfl, a, dx, _, rfl, ea, no_rnd q, _, rfl, rfl, a, q, k, rfl, ⟨dx, ea⟩, lq.more (by decide), k12, _, rfl, _, rfl, t, q, k, rfl, tH, lq.more (by decide), k12, eq_str _ (z _ (wG.trans eH))⟩
end
end KB

set_option Elab.async false
set_option linter.all false
set_option maxRecDepth 100000
set_option maxHeartbeats 4000000
set_option exponentiation.threshold 20000
namespace KB
open PySem PySem.Spec PyProof.Rows L2 Oo Gd Am KA
/-- a value that is no number, with the text of its repr, as long as all but tables stand -/
def OdV (H : Hp) (v : V) (x : Str) : Prop := x.length ≤ 1000 ∧ PyData.strOk x = true ∧ (∃ T, T ≠ "int" ∧ T ≠ "dict" ∧ ∀ H', LamX.ExtN H H' → Bt H' v T) ∧ ∃ as n, n ≤ 40 ∧ ∀ H', LamX.ExtN H H' → Rp H' as n v x
theorem OdV.xn {H H' : Hp} {v : V} {x : Str} (o : OdV H v x) (n : LamX.ExtN H H') : OdV H' v x := let ⟨l, k, ⟨T, n1, n2, b⟩, as, m, hm, r⟩ := o; ⟨l, k, ⟨T, n1, n2, fun H2 n2 => b H2 (n.trans n2)⟩, as, m, hm, fun H2 n2 => r H2 (n.trans n2)⟩
theorem OdV.odd {H : Hp} {v : V} {x : Str} (o : OdV H v x) : Odd H v := let ⟨_, _, ⟨T, n1, _, b⟩, _⟩ := o; ⟨T, b H (LamX.ExtN.refl H), n1⟩
theorem OdV.bt {H : Hp} {v : V} {x : Str} (o : OdV H v x) : ∃ T, Bt H v T ∧ T ≠ "int" ∧ T ≠ "dict" := let ⟨_, _, ⟨T, n1, n2, b⟩, _⟩ := o; ⟨T, b H (LamX.ExtN.refl H), n1, n2⟩
section
variable {P : Program} {w : World} {K : W.Frag} {mg : Str → Option Value} {base : Heap} {f C Z WA WC ZA ZF c p : Addr} {fd : FuncData} {T : List (Addr × Str)}
structure FdO (P : Program) (w : World) (K : W.Frag) (mg : Str → Option Value) (base : Heap) (C Wc : Addr) : Prop where
  of : ∃ f g fd ps gd qs, OwnBin K C (Operator.FloorDiv).info.2 f (some g) ∧ FnOk P w K mg base (L2.CX P w) 6 f fd ps (spOpO C Wc) ∧ Binds K fd ps [] ∧ FnOk P w K mg base (L2.CX P w) 5 g gd qs (spOpO C Wc) ∧ Binds K gd qs []
structure MdO (P : Program) (w : World) (K : W.Frag) (mg : Str → Option Value) (base : Heap) (C Wc : Addr) : Prop where
  of : ∃ f g fd ps, OwnBin K C (Operator.Mod).info.2 f g ∧ FnOk P w K mg base (L2.CX P w) 5 f fd ps (spOpO C Wc) ∧ Binds K fd ps []
structure RnO (P : Program) (w : World) (K : W.Frag) (mg : Str → Option Value) (base : Heap) (C Wc : Addr) : Prop where
  of : ∃ f fd, Meth K C "rounded" f ∧ FnOk P w K mg base (L2.CX P w) 3 f fd ["self", "places"] (spRndO C Wc) ∧ Binds K fd ["self", "places"] []
structure Or (P : Program) (w : World) (K : W.Frag) (mg : Str → Option Value) (base : Heap) (C Z WA WC ZA ZF : Addr) : Prop where
  fr : Frees mg
  B : Base P w K mg base C
  DA : Dn P w K mg base CX0 4 "_law_amount" ["_law_part"] (spAmt K C)
  tq : Tq K mg Z WA WC ZA ZF
  tol : Tol K mg
  fo : Fo P w K mg base C WA
  EO : EqO P w K mg base C
  F1 : FdO P w K mg base C WA
  F2 : MdO P w K mg base C WA
  rn : RnO P w K mg base C WC
abbrev nOd : List Str := ["_law_near", "_law_odd", "_law_a", "_law_due", "_law_some"]
theorem scOd : FnScope nOd ["_law_near", "_law_odd"] (defScope (top 35)) := ⟨rfl, rfl, rfl, by decide +kernel, rfl, by decide +kernel, by decide +kernel⟩
def spOd (K : W.Frag) (T : List (Addr × Str)) : Sp := fun vs H Q _ => ∃ t q v x, vs = [.ref t, v] ∧ Pt K H t q ∧ Low 142 q ∧ OdV H v x ∧ LamX.Tabs T H ∧ ∀ H', LamX.ExtN H H' → LamX.Tabs T H' → Q (.bl true) H'
theorem ok_odd (S : Or P w K mg base C Z WA WC ZA ZF) (TB : LamX.TabB base mg c p) (tp : Tq1 T p "_law_odd_right.<locals>.<lambda>") (F : FunC K "_law_odd_right" "_law_odd_right" (top 35) f c fd) : FnG P w K mg base CX0 10 f fd ["_law_near", "_law_odd"] (spOd K T) := by
  refine okGc F scOd (fun vs H Q E h => ?_) (fun A outer s H vs Q E hG hr h => ?_)
  · obtain ⟨t, q, v, x, rfl, _⟩ := h
    rfl
  · obtain ⟨t, q, v, x, rfl, ht, lq, ov, hT, z⟩ := h
    have nd := scOd.nd
    have fr := S.fr
    obtain ⟨g, gd, RF, gm, gb⟩ := S.tol.of
    have gk := RF.kp
    obtain ⟨goc, god, gkV, gdoc, gpm, gan, gcdv, gct, gosl, rfl, glk, gcode⟩ := RF.ex
    obtain ⟨f1, g1, fd1, ps1, gd1, qs1, B1, F1, b1, G1, c1⟩ := S.F1.of
    obtain ⟨f2, g2, fd2, ps2, B2, F2, b2⟩ := S.F2.of
    obtain ⟨fR, fdR, mR, FR, bR⟩ := S.rn.of
    refine ⟨_, pss_cons (ps_asg (pe_tup (pa_cons (pe_dn S.DA hr (by rfl) (by decide) (pa_cons (pv 0) pa_nil)) (pa_cons (pe_op op_add_str pe_str (pe_callB (call_repr hG hr) rfl (fr.h _ (by decide +kernel)) (by decide +kernel) (pa_cons (pv 1) pa_nil))) pa_nil))) (pg_tup rfl (pgs_cons (pg_name (i := 2) nd rfl (.inr rfl)) (pgs_cons (pg_name (i := 3) nd rfl (.inl rfl)) pgs_nil))))
      (pss_cons (ps_set (i := 4) nd rfl (.inl rfl) (pe_lst (pa_cons (LamX.pe_lamcall (k := 7) (T := T) (TT := TTt Z WA WC) rfl gm gk glk gcode gb scTo rfl (.inl rfl) (told_gives (k := 8) S.tq fr hG hr) TB rfl tp.mem tp.uq hr (LamX.lamS_by (show LamX.lamSB (defScope (top 35)) _ = true by decide +kernel)) rfl (fun _ _ _ _ _ => rfl) (fun A outer s H E f c' hl => pe_cmpR (op_XC (E := E) (.inl rfl) S.fo.pl S.fo.lt S.fo.gt (passes_call (takes_of rfl rfl rfl rfl) fun _ _ _ _ h => h) (hl.mono (by decide))) (pv 2) (pv 1) (nomark _))) pa_nil)))
      (pss_cons (ps_expr (pe_bm PySem.F.plainAttrs_list PySem.F.slot_list_append PySem.F.type_list_append mt_append (pv 4) (pa_cons (LamX.pe_lamcall (k := 7) (T := T) (TT := TTt Z WA WC) rfl gm gk glk gcode gb scTo rfl (.inl rfl) (told_gives (k := 8) S.tq fr hG hr) TB rfl tp.mem tp.uq hr (LamX.lamS_by (show LamX.lamSB (defScope (top 35)) _ = true by decide +kernel)) rfl (fun _ _ _ _ _ => rfl) (fun A outer s H E f c' hl => pe_cmpR (op_XC (E := E) (.inr (.inl rfl)) S.fo.pl S.fo.le S.fo.ge (passes_call (takes_of rfl rfl rfl rfl) fun _ _ _ _ h => h) (hl.mono (by decide))) (pv 2) (pv 1) (nomark _))) pa_nil)))
      (pss_cons (ps_expr (pe_bm PySem.F.plainAttrs_list PySem.F.slot_list_append PySem.F.type_list_append mt_append (pv 4) (pa_cons (LamX.pe_lamcall (k := 7) (T := T) (TT := TTt Z WA WC) rfl gm gk glk gcode gb scTo rfl (.inl rfl) (told_gives (k := 8) S.tq fr hG hr) TB rfl tp.mem tp.uq hr (LamX.lamS_by (show LamX.lamSB (defScope (top 35)) _ = true by decide +kernel)) rfl (fun _ _ _ _ _ => rfl) (fun A outer s H E f c' hl => pe_cmpR (op_XC (E := E) (.inl rfl) S.fo.pl S.fo.lt S.fo.gt (passes_call (takes_of rfl rfl rfl rfl) fun _ _ _ _ h => h) (hl.mono (by decide))) (pv 1) (pv 2) (nomark _))) pa_nil)))
      (pss_cons (ps_expr (pe_bm PySem.F.plainAttrs_list PySem.F.slot_list_append PySem.F.type_list_append mt_append (pv 4) (pa_cons (LamX.pe_lamcall (k := 7) (T := T) (TT := TTt Z WA WC) rfl gm gk glk gcode gb scTo rfl (.inl rfl) (told_gives (k := 8) S.tq fr hG hr) TB rfl tp.mem tp.uq hr (LamX.lamS_by (show LamX.lamSB (defScope (top 35)) _ = true by decide +kernel)) rfl (fun _ _ _ _ _ => rfl) (fun A outer s H E f c' hl => pe_cmpR (op_XC (E := E) (.inr (.inr (.inr rfl))) S.fo.pl S.fo.ge S.fo.le (passes_call (takes_of rfl rfl rfl rfl) fun _ _ _ _ h => h) (hl.mono (by decide))) (pv 1) (pv 2) (nomark _))) pa_nil)))
      (pss_cons (ps_expr (pe_bm PySem.F.plainAttrs_list PySem.F.slot_list_append PySem.F.type_list_append mt_append (pv 4) (pa_cons (LamX.pe_lamcall (k := 7) (T := T) (TT := TTt Z WA WC) rfl gm gk glk gcode gb scTo rfl (.inl rfl) (told_gives (k := 8) S.tq fr hG hr) TB rfl tp.mem tp.uq hr (LamX.lamS_by (show LamX.lamSB (defScope (top 35)) _ = true by decide +kernel)) rfl (fun _ _ _ _ _ => rfl) (fun A outer s H E f c' hl => pe_op (op_binL (E := E) (.inr (.inr (.inr (.inr rfl)))) B1 F1 b1 (passes_call (takes_of rfl rfl rfl rfl) fun _ _ _ _ h => h) (hl.mono (by decide))) (pv 2) (pv 1))) pa_nil)))
      (pss_cons (ps_expr (pe_bm PySem.F.plainAttrs_list PySem.F.slot_list_append PySem.F.type_list_append mt_append (pv 4) (pa_cons (LamX.pe_lamcall (k := 7) (T := T) (TT := TTt Z WA WC) rfl gm gk glk gcode gb scTo rfl (.inl rfl) (told_gives (k := 8) S.tq fr hG hr) TB rfl tp.mem tp.uq hr (LamX.lamS_by (show LamX.lamSB (defScope (top 35)) _ = true by decide +kernel)) rfl (fun _ _ _ _ _ => rfl) (fun A outer s H E f c' hl => pe_op (op_binR (E := E) (.inr (.inr (.inr (.inr rfl)))) B1 G1 c1 S.fo.pl (passes_call (takes_of rfl rfl rfl rfl) fun _ _ _ _ h => h) (hl.mono (by decide))) (pv 1) (pv 2))) pa_nil)))
      (pss_cons (ps_expr (pe_bm PySem.F.plainAttrs_list PySem.F.slot_list_append PySem.F.type_list_append mt_append (pv 4) (pa_cons (LamX.pe_lamcall (k := 7) (T := T) (TT := TTt Z WA WC) rfl gm gk glk gcode gb scTo rfl (.inl rfl) (told_gives (k := 8) S.tq fr hG hr) TB rfl tp.mem tp.uq hr (LamX.lamS_by (show LamX.lamSB (defScope (top 35)) _ = true by decide +kernel)) rfl (fun _ _ _ _ _ => rfl) (fun A outer s H E f c' hl => pe_op (op_binL (E := E) (.inr (.inr (.inr (.inl rfl)))) B2 F2 b2 (passes_call (takes_of rfl rfl rfl rfl) fun _ _ _ _ h => h) (hl.mono (by decide))) (pv 2) (pv 1))) pa_nil)))
      (pss_cons (ps_if (PW.pt (pw_or (pt_cmpR (op_neD hr.units) (pv 4) (pe_op op_rep (pe_lst (pa_cons (pv 3) pa_nil)) pe_int) (nomark _)) (pw_or (pt_cmpR (op_eqX (k := 6) S.EO (hr.mono (by decide))) (pv 2) (pv 1) (nomark _)) (pw_or1 (pt_not (pt_cmpR (op_neX (k := 6) S.EO (hr.mono (by decide))) (pv 2) (pv 1) (nomark _))))))) (pss_one (ps_ret pe_bl)) pss_nil)
      (pss_one (ps_ret (pe_cmpR op_eq (LamX.pe_lamcall (k := 7) (T := T) (TT := TTt Z WA WC) rfl gm gk glk gcode gb scTo rfl (.inl rfl) (told_gives (k := 8) S.tq fr hG hr) TB rfl tp.mem tp.uq hr (LamX.lamS_by (show LamX.lamSB (defScope (top 35)) _ = true by decide +kernel)) rfl (fun _ _ _ _ _ => rfl) (fun A outer s H E f c' hl => pe_meth (E := E) (pv 2) S.B.T.cl mR FR (hl.mono (by decide)) bR .nil (passes_call (takes_of rfl rfl rfl rfl) fun _ _ _ _ h => h) (pa_cons (pv 1) pa_nil))) (pe_op op_add_str pe_str (pe_callB (call_repr hG hr) rfl (fr.h _ (by decide +kernel)) (by decide +kernel) (pa_cons (pv 1) pa_nil))) (nomark _)))))))))))), ?_⟩
    have ov' := ov
    obtain ⟨xl, xk, _, as, n, n40, rp⟩ := ov'
    have big : (1000000 : Nat) ≤ sizeLine := by decide
    have x5 : x.length ≤ 100000 := by omega
    have x6 : x.length ≤ sizeLine := by omega
    have a7 : (Str.ofString "amount ").length = 7 := by decide
    have c6 : (Str.ofString "count ").length = 6 := by decide
    have zl : (Str.ofString "amount ").length + x.length ≤ sizeLine := by omega
    have zc : (Str.ofString "count ").length + x.length ≤ sizeLine := by omega
    have dk : PyData.strOk (Str.ofString "amount " ++ x) = true := sok_app (sok_of _) xk
    refine ⟨_, rfl, t, q, rfl, ht, lq.more (by decide), fun a H1 e1 n1 i1 => ⟨_, rfl, v, as, n, x, rfl, rp _ (LamX.ExtN.of e1), n40, x6, _, _, rfl, rfl, zl, (by show 2 ≤ sizeLine; decide), fun tp' htp => ⟨tp', _, rfl, SqT.of upd_same, rfl, _, _, rfl, _, _, rfl, rfl, ?_⟩⟩⟩
    generalize hdw : Str.ofString "amount " ++ x = dw at dk htp ⊢
    have ez := Am.Ext.new (o := .tup [V.ref a, .str dw]) htp
    replace i1 := i1.ext ez
    have x0 := e1.trans ez
    show tSeq _ _ _ [some (.ref t), some v, some (.ref a), some (.str dw), none] (upd H1 tp' (.tup [V.ref a, .str dw]))
    generalize upd H1 tp' (.tup [V.ref a, .str dw]) = G at ez i1 x0 ⊢
    clear n1 e1 ez htp
    have TG := hT.ext x0
    have kG := LamX.ExtN.of x0
    replace ov := ov.xn kG
    replace rp : ∀ H', LamX.ExtN G H' → Rp H' as n v x := fun H' e => rp H' (kG.trans e)
    have done : ∀ {Wc : Addr} {H' : Hp} {E : XK}, LamX.ExtN G H' → RefV Wc v H' E → Odd H' v := fun nn _ => (ov.xn nn).odd
    refine ⟨TG, fun H3 n3 T3 => told_amt (fun H' e => rp H' (n3.trans (LamX.ExtN.of e))) n40 x5 (fun E Q' rf => (fun nn : LamX.ExtN G H3 => ⟨_, rfl, _, rfl, .inl ⟨a, q, rfl, is_xn i1 nn, (ov.xn nn).odd, rf⟩⟩) n3) fun H4 e4 => ⟨(by show 1 ≤ sizeLine; decide), fun D hD => ?_⟩⟩
    rw [hdw]
    have g5 := n3.trans (LamX.ExtN.of (e4.trans (Am.Ext.new (o := .lst [V.str dw]) hD)))
    have k5 := kG.trans g5
    have T5 := T3.ext (e4.trans (Am.Ext.new (o := .lst [V.str dw]) hD))
    have hD5 : (upd H4 D (.lst [V.str dw])) D = some (.lst [V.str dw]) := upd_same
    have hDH : ∀ o, (∀ ps, o ≠ .tbl ps) → H D ≠ some o := fun o k hz => by
      have hz' := e4 _ _ (n3 _ _ (kG _ _ hz k) k)
      rw [hD] at hz'
      cases hz'
    have hDG : ∀ o, (∀ ps, o ≠ .tbl ps) → G D ≠ some o := fun o k hz => by
      have hz' := e4 _ _ (n3 _ _ hz k)
      rw [hD] at hz'
      cases hz'
    show tSeq _ _ _ [some (.ref t), some v, some (.ref a), some (.str dw), some (.ref D)] (upd H4 D (.lst [V.str dw]))
    generalize upd H4 D (.lst [V.str dw]) = H5 at k5 g5 T5 hD5 ⊢
    clear hD e4
    refine ⟨_, rfl, tyL hD5, T5, fun H6 n6 T6 => told_amt (fun H' e => rp H' ((g5.trans n6).trans (LamX.ExtN.of e))) n40 x5 (fun E Q' rf => (fun nn : LamX.ExtN G H6 => ⟨_, rfl, _, rfl, .inl ⟨a, q, rfl, is_xn i1 nn, (ov.xn nn).odd, rf⟩⟩) (g5.trans n6)) fun H7 e7 => ⟨D, _, _, rfl, rfl, e7 _ _ (n6 _ _ hD5 fun _ => HO.noConfusion), (by show 1 < sizeLine; decide), ?_⟩⟩
    rw [hdw]
    replace hD5 := e7 _ _ (n6 _ _ hD5 fun _ => HO.noConfusion)
    replace T5 := tabs_put (o := .lst [V.str dw, V.str dw]) (T6.ext e7) hD5
    replace k5 := xn_put (o := .lst [V.str dw, V.str dw]) ((k5.trans n6).trans (LamX.ExtN.of e7)) hDH
    replace g5 := xn_put (o := .lst [V.str dw, V.str dw]) ((g5.trans n6).trans (LamX.ExtN.of e7)) hDG
    replace hD5 : (upd H7 D (.lst [V.str dw, V.str dw])) D = some (.lst [V.str dw, V.str dw]) := upd_same
    show tSeq _ _ _ [some (.ref t), some v, some (.ref a), some (.str dw), some (.ref D)] (upd H7 D (.lst [V.str dw, V.str dw]))
    generalize upd H7 D (.lst [V.str dw, V.str dw]) = H5 at k5 g5 T5 hD5 ⊢
    clear n6 T6 e7
    refine ⟨_, rfl, tyL hD5, T5, fun H6 n6 T6 => told_amt (fun H' e => rp H' ((g5.trans n6).trans (LamX.ExtN.of e))) n40 x5 (fun E Q' rf => (fun nn : LamX.ExtN G H6 => (let ⟨T', b, m1, m2⟩ := (ov.xn nn).bt; ⟨_, rfl, _, rfl, .inr ⟨a, q, T', rfl, is_xn i1 nn, b, m1, m2, rf⟩⟩)) (g5.trans n6)) fun H7 e7 => ⟨D, _, _, rfl, rfl, e7 _ _ (n6 _ _ hD5 fun _ => HO.noConfusion), (by show 2 < sizeLine; decide), ?_⟩⟩
    rw [hdw]
    replace hD5 := e7 _ _ (n6 _ _ hD5 fun _ => HO.noConfusion)
    replace T5 := tabs_put (o := .lst [V.str dw, V.str dw, V.str dw]) (T6.ext e7) hD5
    replace k5 := xn_put (o := .lst [V.str dw, V.str dw, V.str dw]) ((k5.trans n6).trans (LamX.ExtN.of e7)) hDH
    replace g5 := xn_put (o := .lst [V.str dw, V.str dw, V.str dw]) ((g5.trans n6).trans (LamX.ExtN.of e7)) hDG
    replace hD5 : (upd H7 D (.lst [V.str dw, V.str dw, V.str dw])) D = some (.lst [V.str dw, V.str dw, V.str dw]) := upd_same
    show tSeq _ _ _ [some (.ref t), some v, some (.ref a), some (.str dw), some (.ref D)] (upd H7 D (.lst [V.str dw, V.str dw, V.str dw]))
    generalize upd H7 D (.lst [V.str dw, V.str dw, V.str dw]) = H5 at k5 g5 T5 hD5 ⊢
    clear n6 T6 e7
    refine ⟨_, rfl, tyL hD5, T5, fun H6 n6 T6 => told_amt (fun H' e => rp H' ((g5.trans n6).trans (LamX.ExtN.of e))) n40 x5 (fun E Q' rf => (fun nn : LamX.ExtN G H6 => (let ⟨T', b, m1, m2⟩ := (ov.xn nn).bt; ⟨_, rfl, _, rfl, .inr ⟨a, q, T', rfl, is_xn i1 nn, b, m1, m2, rf⟩⟩)) (g5.trans n6)) fun H7 e7 => ⟨D, _, _, rfl, rfl, e7 _ _ (n6 _ _ hD5 fun _ => HO.noConfusion), (by show 3 < sizeLine; decide), ?_⟩⟩
    rw [hdw]
    replace hD5 := e7 _ _ (n6 _ _ hD5 fun _ => HO.noConfusion)
    replace T5 := tabs_put (o := .lst [V.str dw, V.str dw, V.str dw, V.str dw]) (T6.ext e7) hD5
    replace k5 := xn_put (o := .lst [V.str dw, V.str dw, V.str dw, V.str dw]) ((k5.trans n6).trans (LamX.ExtN.of e7)) hDH
    replace g5 := xn_put (o := .lst [V.str dw, V.str dw, V.str dw, V.str dw]) ((g5.trans n6).trans (LamX.ExtN.of e7)) hDG
    replace hD5 : (upd H7 D (.lst [V.str dw, V.str dw, V.str dw, V.str dw])) D = some (.lst [V.str dw, V.str dw, V.str dw, V.str dw]) := upd_same
    show tSeq _ _ _ [some (.ref t), some v, some (.ref a), some (.str dw), some (.ref D)] (upd H7 D (.lst [V.str dw, V.str dw, V.str dw, V.str dw]))
    generalize upd H7 D (.lst [V.str dw, V.str dw, V.str dw, V.str dw]) = H5 at k5 g5 T5 hD5 ⊢
    clear n6 T6 e7
    refine ⟨_, rfl, tyL hD5, T5, fun H6 n6 T6 => told_amt (fun H' e => rp H' ((g5.trans n6).trans (LamX.ExtN.of e))) n40 x5 (fun E Q' rf => (fun nn : LamX.ExtN G H6 => (let ⟨T', b, m1, m2⟩ := (ov.xn nn).bt; let ⟨dx, ea⟩ := is_xn i1 nn; ⟨_, rfl, _, rfl, a, dx, _, T', rfl, ea, b, a, v, q, rfl, ⟨dx, ea⟩, (ov.xn nn).odd, rf⟩)) (g5.trans n6)) fun H7 e7 => ⟨D, _, _, rfl, rfl, e7 _ _ (n6 _ _ hD5 fun _ => HO.noConfusion), (by show 4 < sizeLine; decide), ?_⟩⟩
    rw [hdw]
    replace hD5 := e7 _ _ (n6 _ _ hD5 fun _ => HO.noConfusion)
    replace T5 := tabs_put (o := .lst [V.str dw, V.str dw, V.str dw, V.str dw, V.str dw]) (T6.ext e7) hD5
    replace k5 := xn_put (o := .lst [V.str dw, V.str dw, V.str dw, V.str dw, V.str dw]) ((k5.trans n6).trans (LamX.ExtN.of e7)) hDH
    replace g5 := xn_put (o := .lst [V.str dw, V.str dw, V.str dw, V.str dw, V.str dw]) ((g5.trans n6).trans (LamX.ExtN.of e7)) hDG
    replace hD5 : (upd H7 D (.lst [V.str dw, V.str dw, V.str dw, V.str dw, V.str dw])) D = some (.lst [V.str dw, V.str dw, V.str dw, V.str dw, V.str dw]) := upd_same
    show tSeq _ _ _ [some (.ref t), some v, some (.ref a), some (.str dw), some (.ref D)] (upd H7 D (.lst [V.str dw, V.str dw, V.str dw, V.str dw, V.str dw]))
    generalize upd H7 D (.lst [V.str dw, V.str dw, V.str dw, V.str dw, V.str dw]) = H5 at k5 g5 T5 hD5 ⊢
    clear n6 T6 e7
    refine ⟨_, rfl, tyL hD5, T5, fun H6 n6 T6 => told_amt (fun H' e => rp H' ((g5.trans n6).trans (LamX.ExtN.of e))) n40 x5 (fun E Q' rf => (fun nn : LamX.ExtN G H6 => (let ⟨T', b, m1, m2⟩ := (ov.xn nn).bt; let ⟨dx, ea⟩ := is_xn i1 nn; ⟨_, rfl, _, rfl, a, dx, _, T', rfl, ea, b, (fun _ => by decide), a, v, q, rfl, ⟨dx, ea⟩, (ov.xn nn).odd, rf⟩)) (g5.trans n6)) fun H7 e7 => ⟨D, _, _, rfl, rfl, e7 _ _ (n6 _ _ hD5 fun _ => HO.noConfusion), (by show 5 < sizeLine; decide), ?_⟩⟩
    rw [hdw]
    replace hD5 := e7 _ _ (n6 _ _ hD5 fun _ => HO.noConfusion)
    replace T5 := tabs_put (o := .lst [V.str dw, V.str dw, V.str dw, V.str dw, V.str dw, V.str dw]) (T6.ext e7) hD5
    replace k5 := xn_put (o := .lst [V.str dw, V.str dw, V.str dw, V.str dw, V.str dw, V.str dw]) ((k5.trans n6).trans (LamX.ExtN.of e7)) hDH
    replace g5 := xn_put (o := .lst [V.str dw, V.str dw, V.str dw, V.str dw, V.str dw, V.str dw]) ((g5.trans n6).trans (LamX.ExtN.of e7)) hDG
    replace hD5 : (upd H7 D (.lst [V.str dw, V.str dw, V.str dw, V.str dw, V.str dw, V.str dw])) D = some (.lst [V.str dw, V.str dw, V.str dw, V.str dw, V.str dw, V.str dw]) := upd_same
    show tSeq _ _ _ [some (.ref t), some v, some (.ref a), some (.str dw), some (.ref D)] (upd H7 D (.lst [V.str dw, V.str dw, V.str dw, V.str dw, V.str dw, V.str dw]))
    generalize upd H7 D (.lst [V.str dw, V.str dw, V.str dw, V.str dw, V.str dw, V.str dw]) = H5 at k5 g5 T5 hD5 ⊢
    clear n6 T6 e7
    refine ⟨_, rfl, tyL hD5, T5, fun H6 n6 T6 => told_amt (fun H' e => rp H' ((g5.trans n6).trans (LamX.ExtN.of e))) n40 x5 (fun E Q' rf => (fun nn : LamX.ExtN G H6 => (let ⟨T', b, m1, m2⟩ := (ov.xn nn).bt; let ⟨dx, ea⟩ := is_xn i1 nn; ⟨_, rfl, _, rfl, a, dx, _, T', rfl, ea, b, a, v, q, rfl, ⟨dx, ea⟩, (ov.xn nn).odd, rf⟩)) (g5.trans n6)) fun H7 e7 => ⟨D, _, _, rfl, rfl, e7 _ _ (n6 _ _ hD5 fun _ => HO.noConfusion), (by show 6 < sizeLine; decide), ?_⟩⟩
    rw [hdw]
    replace hD5 := e7 _ _ (n6 _ _ hD5 fun _ => HO.noConfusion)
    replace T5 := tabs_put (o := .lst [V.str dw, V.str dw, V.str dw, V.str dw, V.str dw, V.str dw, V.str dw]) (T6.ext e7) hD5
    replace k5 := xn_put (o := .lst [V.str dw, V.str dw, V.str dw, V.str dw, V.str dw, V.str dw, V.str dw]) ((k5.trans n6).trans (LamX.ExtN.of e7)) hDH
    replace g5 := xn_put (o := .lst [V.str dw, V.str dw, V.str dw, V.str dw, V.str dw, V.str dw, V.str dw]) ((g5.trans n6).trans (LamX.ExtN.of e7)) hDG
    replace hD5 : (upd H7 D (.lst [V.str dw, V.str dw, V.str dw, V.str dw, V.str dw, V.str dw, V.str dw])) D = some (.lst [V.str dw, V.str dw, V.str dw, V.str dw, V.str dw, V.str dw, V.str dw]) := upd_same
    show tSeq _ _ _ [some (.ref t), some v, some (.ref a), some (.str dw), some (.ref D)] (upd H7 D (.lst [V.str dw, V.str dw, V.str dw, V.str dw, V.str dw, V.str dw, V.str dw]))
    generalize upd H7 D (.lst [V.str dw, V.str dw, V.str dw, V.str dw, V.str dw, V.str dw, V.str dw]) = H5 at k5 g5 T5 hD5 ⊢
    clear n6 T6 e7
    refine ⟨_, rfl, _, rfl, (by show 1 ≤ sizeLine; decide), fun M hM => ⟨M, 7, _, rfl, rfl, upd_same, by decide, by decide, (by show 7 ≤ sizeLine; decide), fun N hN => ?_⟩⟩
    have e8 := (Am.Ext.new (o := .lst [V.str dw]) hM).trans (Am.Ext.new (o := .lst [V.str dw, V.str dw, V.str dw, V.str dw, V.str dw, V.str dw, V.str dw]) hN)
    refine ned_same (H := upd (upd H5 M (.lst [V.str dw])) N (.lst [V.str dw, V.str dw, V.str dw, V.str dw, V.str dw, V.str dw, V.str dw])) (xs := [V.str dw, V.str dw, V.str dw, V.str dw, V.str dw, V.str dw, V.str dw]) (SqL.of (e8 _ _ hD5)) (SqL.of upd_same) (dp_strs [dw, dw, dw, dw, dw, dw, dw]) (shaped_strs fun x m => by simp only [List.mem_cons, List.not_mem_nil, or_false, or_self] at m; rw [m]; exact dk) ?_
    replace g5 := g5.trans (LamX.ExtN.of e8)
    replace k5 := k5.trans (LamX.ExtN.of e8)
    replace T5 := T5.ext e8
    generalize upd (upd H5 M (.lst [V.str dw])) N (.lst [V.str dw, V.str dw, V.str dw, V.str dw, V.str dw, V.str dw, V.str dw]) = H8 at k5 g5 T5 ⊢
    clear e8 hM hN hD5
    obtain ⟨T', b, m1, m2⟩ := (ov.xn g5).bt
    have i8 := is_xn i1 g5
    refine ⟨_, rfl, iteF ⟨_, rfl, _, rfl, a, q, T', rfl, i8, b, _, rfl, iteF ⟨_, rfl, _, rfl, a, q, T', rfl, i8, b, _, rfl, iteF ?_⟩⟩⟩
    refine ⟨T5, fun H9 n9 T9 => told_cnt (fun H' e => rp H' ((g5.trans n9).trans (LamX.ExtN.of e))) n40 x5 (fun E Q' rf => ?_) fun HA eA => ?_⟩
    · obtain ⟨dxa, exa⟩ := is_xn i8 n9
      exact ⟨_, rfl, a, dxa, _, rfl, exa, no_rnd q, _, rfl, a, q, v, rfl, ⟨dxa, exa⟩, .inl (ov.xn (g5.trans n9)).odd, rf⟩
    · exact ⟨_, rfl, v, as, n, x, rfl, rp _ ((g5.trans n9).trans (LamX.ExtN.of eA)), n40, x6, _, _, rfl, rfl, zc, eq_str _ (z _ ((k5.trans n9).trans (LamX.ExtN.of eA)) (T9.ext eA))⟩
end
end KB

set_option Elab.async false
set_option linter.all false
set_option maxRecDepth 100000
set_option maxHeartbeats 2000000
set_option exponentiation.threshold 20000
namespace KB
open PySem PySem.Spec PyProof.Rows L2 Oo Gd Am KA
def AmR (C : Addr) (H : Hp) (x : V) (r : Rat) : Prop := (∃ a, x = .ref a ∧ Is C H a r) ∧ Low 142 r
theorem AmR.ext {C : Addr} {H H' : Hp} {x : V} {r : Rat} (h : AmR C H x r) (e : Am.Ext H H') : AmR C H' x r := let ⟨⟨a, x, i⟩, l⟩ := h; ⟨⟨a, x, i.ext e⟩, l⟩
theorem at_nat {α : Type} {xs : List α} {i : Nat} {x : α} (h : xs[i]? = some x) : atI xs (i : Int) = some x := by
  have hi : i < xs.length := (List.getElem?_eq_some_iff.mp h).1
  unfold atI ixN
  rw [if_pos (by omega), if_pos (by omega), Int.toNat_natCast]
  exact h
section
variable {P : Program} {w : World} {K : W.Frag} {mg : Str → Option Value} {base : Heap} {f C Wc : Addr} {fd : FuncData}
abbrev nLe : List Str := ["_law_some", "_law_at", "_law_place"]
theorem scLe : FnScope nLe ["_law_some"] (defScope (top 36)) := ⟨rfl, rfl, rfl, by decide +kernel, rfl, by decide +kernel, by decide +kernel⟩
def spLe (C : Addr) : Sp := fun vs H Q _ => ∃ (l : Addr) (xs : List V) (rs : List Rat), vs = [.ref l] ∧ H l = some (.lst xs) ∧ A2 (AmR C H) xs rs ∧ 0 < xs.length ∧ xs.length ≤ 20 ∧
  ∀ (m : Nat) (rm : Rat) (H' : Hp), rs[m]? = some rm → (∀ r ∈ rs, rm ≤ r) → Am.Ext H H' → Q (.int m) H'
theorem ok_le2 (fr : Frees mg) (fo : Fo P w K mg base C Wc) (F : Fun K "_law_least" "_law_least" (top 36) f fd) : FnOk P w K mg base CX0 8 f fd ["_law_some"] (spLe C) := by
  refine F.ok scLe (fun vs H Q E h => ?_) (fun cdv A outer s H vs Q E hr h => ?_)
  · obtain ⟨l, xs, rs, rfl, _⟩ := h
    rfl
  · obtain ⟨l, xs, rs, rfl, hl, a2, l0, l20, z⟩ := h
    have nd := scLe.nd
    refine ⟨_, pss_cons (ps_set (i := 1) nd rfl (.inl rfl) pe_int)
      (pss_cons (ps_for PassesOwn.never rfl (pi_range2 rfl (fr.h _ (by decide +kernel)) (pa_cons pe_int (pa_cons (pe_callB call_len_seq rfl (fr.h _ (by decide +kernel)) (by decide +kernel) (pa_cons (pv 0) pa_nil)) pa_nil))) (pg_name (i := 2) nd rfl (.inl rfl))
        (pss_one (ps_if (pt_cmpR (o_lt fo hr) (pe_ix ix_list (pv 0) (pv 2) (fun _ _ => rfl)) (pe_ix ix_list (pv 0) (pv 1) (fun _ _ => rfl)) (nomark _)) (pss_one (ps_set (i := 1) nd rfl (.inl rfl) (pv 2))) pss_nil)))
      (pss_one (ps_ret (pv 1)))), ?_⟩
    obtain ⟨r0, hr0⟩ : ∃ r0, rs[0]? = some r0 := by
      have : 0 < rs.length := by rw [← a2.len]; exact l0
      exact ⟨rs[0], List.getElem?_eq_getElem this⟩
    refine ⟨_, rfl, l, xs, rfl, .inl (SqL.of hl), 1, _, rfl, ⟨by decide, by decide, by omega, by omega⟩, ?_⟩
    have nn : ((xs.length : Int) - 1).toNat = xs.length - 1 := by omega
    rw [nn]
    refine for_range (lo := 1) (n := xs.length - 1) (fun i σ H' => Am.Ext H H' ∧ ∃ (m : Nat) (rm : Rat) (e : Option V), σ = [some (.ref l), some (.int m), e] ∧ m ≤ i ∧ rs[m]? = some rm ∧ ∀ k r, k ≤ i → rs[k]? = some r → rm ≤ r) ⟨Am.Ext.refl _, 0, r0, none, rfl, Nat.le_refl _, hr0, fun k r hk h => ?_⟩ ?_ ?_
    · have : k = 0 := by omega
      subst this
      rw [hr0] at h
      cases h
      exact Rat.le_refl
    · rintro i σ H' hi ⟨eH, m, rm, e, rfl, mi, hm, all⟩
      have hi1 : i + 1 < xs.length := by omega
      have hml : m < xs.length := by omega
      obtain ⟨ri, hri, ⟨ai, exi, isi⟩, li⟩ := a2.get (List.getElem?_eq_getElem hi1)
      obtain ⟨rm', hrm, ⟨am, exm, ism⟩, lm⟩ := a2.get (List.getElem?_eq_getElem hml)
      rw [hm] at hrm
      cases hrm
      have hl' := eH _ _ hl
      have pi : (1 : Int) + (i : Int) = ((i + 1 : Nat) : Int) := by omega
      rw [pi]
      refine ⟨_, rfl, _, rfl, l, xs, _, xs[i + 1], rfl, rfl, SqL.of hl', at_nat (List.getElem?_eq_getElem hi1), _, rfl, _, rfl, l, xs, _, xs[m], rfl, rfl, SqL.of hl', at_nat (List.getElem?_eq_getElem hml), ri, rm, ?_, ?_, ?_, sz_low li (by decide), sz_low lm (by decide), fun H2 e2 => ⟨_, rfl, ite2 (fun h => ?_) (fun h => ?_)⟩⟩
      · rw [exi]; exact Num.is (isi.ext eH)
      · rw [exm]; exact Num.is (ism.ext eH)
      · exact .inl ⟨ai, exi⟩
      · have lt : ri < rm := of_decide_eq_true h
        refine ⟨_, rfl, eH.trans e2, i + 1, ri, _, rfl, Nat.le_refl _, hri, fun k r hk hh => ?_⟩
        rcases Nat.lt_or_ge i k with hk2 | hk2
        · have : k = i + 1 := by omega
          subst this
          rw [hri] at hh
          cases hh
          exact Rat.le_refl
        · exact Rat.le_trans (Rat.le_of_lt lt) (all k r hk2 hh)
      · have ge : rm ≤ ri := Rat.not_lt.mp fun lt => h (decide_eq_true lt)
        refine ⟨eH.trans e2, m, rm, _, rfl, by omega, hm, fun k r hk hh => ?_⟩
        rcases Nat.lt_or_ge i k with hk2 | hk2
        · have : k = i + 1 := by omega
          subst this
          rw [hri] at hh
          cases hh
          exact ge
        · exact all k r hk2 hh
    · rintro σ H' ⟨eH, m, rm, e, rfl, mi, hm, all⟩
      refine ⟨_, rfl, z m rm H' hm (fun r hr => ?_) eH⟩
      obtain ⟨k, hk, ek⟩ := List.getElem_of_mem hr
      have ln := a2.len
      exact all k r (by omega) (by rw [← ek]; exact List.getElem?_eq_getElem hk)
end
end KB

set_option Elab.async false
set_option linter.all false
set_option maxRecDepth 100000
set_option maxHeartbeats 4000000
set_option exponentiation.threshold 20000
namespace KB
open PySem PySem.Spec PyProof.Rows L2 Oo Gd Am KA
theorem anyK {X : Cx} {K : W.Frag} (_ : IsK K) (hc : X.calm = true) (h : X.K = K := by rfl) : CallR X (.builtin "any") (rAny K) := h ▸ cr_any hc
theorem ixlK {X : Cx} {K : W.Frag} (_ : IsK K) (h : X.K = K := by rfl) : IxR X (rIxL K) := h ▸ ix_list
def TuR (p : Addr) (H : Hp) (x : V) (r : Rat) : Prop := ∃ u, x = .ref u ∧ u ≠ p ∧ H u = some (.tup [.int r.num, .int r.den]) ∧ Low 142 r
theorem TuR.kt {p : Addr} {H H' : Hp} {x : V} {r : Rat} (h : TuR p H x r) (k : KT p H H') : TuR p H' x r := let ⟨u, e, n, t, l⟩ := h; ⟨u, e, n, k.1 _ _ n t fun _ => HO.noConfusion, l⟩
theorem kt_xn {p : Addr} {H H' H2 : Hp} (k : KT p H H') (n : LamX.ExtN H' H2) : KT p H H2 := k.trans (pot_xn k.2 n)
theorem kt_ext {p : Addr} {H H' H2 : Hp} (k : KT p H H') (e : Am.Ext H' H2) : KT p H H2 := kt_xn k (LamX.ExtN.of e)
theorem ne_obj {H : Hp} {a b : Addr} {o u : HO} (h : H a = some o) (h' : H b = some u) (n : o ≠ u) : a ≠ b := fun e => n (by rw [e, h'] at h; exact (Option.some.inj h).symm)
theorem is_put {C : Addr} {H : Hp} {a D : Addr} {q : Rat} {l : List V} {o : HO} (i : Is C H a q) (hD : H D = some (.lst l)) : Is C (upd H D o) a q := let ⟨dx, e⟩ := i; ⟨dx, by rw [upd_ne (ne_obj e hD HO.noConfusion)]; exact e⟩
def oddA : Str := tupleText [Str.ofString "1", Str.ofString "2"]
def oddB : Str := listText [Str.ofString "3"]
theorem odd_non {H : Hp} : OdV H .non (Str.ofString "None") := ⟨by decide, by decide +kernel, ⟨"NoneType", by decide, by decide, fun _ _ => .non⟩, [], 0, by decide, fun _ _ => .non⟩
theorem odd_bl {H : Hp} (b : Bool) : OdV H (.bl b) (if b = true then Str.ofString "True" else Str.ofString "False") := ⟨by split <;> decide, by split <;> decide +kernel, ⟨"bool", by decide, by decide, fun _ _ => .bl b⟩, [], 0, by decide, fun _ _ => .bl b⟩
theorem odd_one {H : Hp} : OdV H (.str "1") (reprText "1") := ⟨by decide +kernel, by decide +kernel, ⟨"str", by decide, by decide, fun _ _ => .str _⟩, [], 0, by decide, fun _ _ => .str _ (Nat.le_trans (show (reprText "1").length ≤ 1000 by decide +kernel) (by decide))⟩
theorem odd_tup {H : Hp} {a : Addr} (h : H a = some (.tup [.int 1, .int 2])) : OdV H (.ref a) oddA := ⟨by decide +kernel, by decide +kernel, ⟨"tuple", by decide, by decide, fun H' n => .tup (n _ _ h fun _ => HO.noConfusion)⟩, [a], 1, by decide, fun H' n => .tup (as0 := []) (n _ _ h fun _ => HO.noConfusion) (by simp) (fun b hb => hb) rfl fun i x t h1 h2 => by
  match i, h1, h2 with
  | 0, h1, h2 => cases h1; cases h2; exact .int 1 (by decide)
  | 1, h1, h2 => cases h1; cases h2; exact .int 2 (by decide)
  | i + 2, h1, _ => simp at h1⟩
theorem odd_lst {H : Hp} {a : Addr} (h : H a = some (.lst [.int 3])) : OdV H (.ref a) oddB := ⟨by decide +kernel, by decide +kernel, ⟨"list", by decide, by decide, fun H' n => .lst (n _ _ h fun _ => HO.noConfusion)⟩, [a], 1, by decide, fun H' n => .lst (as0 := []) (n _ _ h fun _ => HO.noConfusion) (by simp) (fun b hb => hb) rfl fun i x t h1 h2 => by
  match i, h1, h2 with
  | 0, h1, h2 => cases h1; cases h2; exact .int 3 (by decide)
  | i + 1, h1, _ => simp at h1⟩
def s13 : Str := Str.ofString "amount 13"
def s64 : Str := Str.ofString "amount 64"
theorem s13_eq : Str.ofString "amount " ++ Str.ofString (toString (13 : Int)) = s13 := by decide +kernel
theorem s64_eq : Str.ofString "amount " ++ Str.ofString (toString (64 : Int)) = s64 := by decide +kernel
section
variable {P : Program} {w : World} {K : W.Frag} {mg : Str → Option Value} {base : Heap} {f C Z WA WC ZA ZF c pt : Addr} {fd : FuncData} {T : List (Addr × Str)}
structure PwO (P : Program) (w : World) (K : W.Frag) (mg : Str → Option Value) (base : Heap) (C Wc : Addr) : Prop where
  of : ∃ f g fd ps, OwnBin K C (Operator.Pow).info.2 f g ∧ FnOk P w K mg base (L2.CX P w) 3 f fd ps (spPowO C Wc) ∧ Binds K fd ps []
structure Rg (P : Program) (w : World) (K : W.Frag) (mg : Str → Option Value) (base : Heap) (C Z WA WC ZA ZF : Addr) (T : List (Addr × Str)) : Prop where
  nb : base.NoDigits
  fr : Frees mg
  B : Base P w K mg base C
  tq : Tq K mg Z WA WC ZA ZF
  tol : Tol K mg
  rn : RnO P w K mg base C WC
  pw : PwO P w K mg base C WA
  D1 : DnD P w K mg base
  DG : Dn P w K mg base CX0 3 "_law_great" ["_law_pot_here"] (spGr K)
  DB : Dn P w K mg base CX0 4 "_law_beside" ["_law_pot_here", "_law_near"] spBes
  DA : Dn P w K mg base CX0 4 "_law_amount" ["_law_part"] (spAmt K C)
  DL : Dn P w K mg base CX0 1 "_law_is_less" ["_law_near", "_law_far"] (spLess K)
  DE : Dn P w K mg base CX0 8 "_law_least" ["_law_some"] (spLe C)
  TP : DnG P w K mg base 8 "_law_pair_right" ["_law_near", "_law_far"] (spPr K)
  TR : DnG P w K mg base 9 "_law_rest_right" ["_law_near", "_law_far"] (spRe K)
  TZ : DnG P w K mg base 11 "_law_by_zero_right" ["_law_near"] (spTb K T 142)
  TS : DnG P w K mg base 7 "_law_shown_right" ["_law_near", "_law_size"] (spSh K)
  TO : DnG P w K mg base 10 "_law_odd_right" ["_law_near", "_law_odd"] (spOd K T)
abbrev nRi : List Str := ["_law_pot_here", "_law_near", "_law_some", "_law_far", "_law_odd", "_law_at", "_law_turn", "_law_part"]
theorem scRi : FnScope nRi ["_law_pot_here"] (defScope (top 37)) := ⟨rfl, rfl, rfl, by decide +kernel, rfl, by decide +kernel, by decide +kernel⟩
def spRi (T : List (Addr × Str)) : Sp := fun vs H Q _ => ∃ p : Addr, vs = [.ref p] ∧ Pot H p ∧ LamX.Tabs T H ∧
  ∀ H', (∀ b o, b ≠ p → H b = some o → (∀ ps, o ≠ .tbl ps) → H' b = some o) → Pot H' p → LamX.Tabs T H' → Q (.bl true) H'
theorem ok_right (S : Rg P w K mg base C Z WA WC ZA ZF T) (TB : LamX.TabB base mg c pt) (tp : Tq1 T pt "_law_right.<locals>.<lambda>") (F : FunC K "_law_right" "_law_right" (top 37) f c fd) : FnG P w K mg base CX0 12 f fd ["_law_pot_here"] (spRi T) := by
  refine okGc F scRi (fun vs H Q E h => ?_) (fun A outer s H vs Q E hG hr h => ?_)
  · obtain ⟨p, rfl, _⟩ := h
    rfl
  · obtain ⟨p, rfl, hp, hT, z⟩ := h
    have nd := scRi.nd
    have fr := S.fr
    have isk : IsK K := ⟨trivial⟩
    obtain ⟨g, gd, RF, gm, gb⟩ := S.tol.of
    have gk := RF.kp
    obtain ⟨goc, god, gkV, gdoc, gpm, gan, gcdv, gct, gosl, rfl, glk, gcode⟩ := RF.ex
    obtain ⟨f3, g3, fd3, ps3, B3, F3, b3⟩ := S.pw.of
    obtain ⟨fR, fdR, mR, FR, bR⟩ := S.rn.of
    refine ⟨_, pss_cons (ps_set (i := 1) nd rfl (.inr rfl) (pe_dn S.DG hr (by rfl) (by decide) (pa_cons (pv 0) pa_nil)))
      (pss_cons (ps_set (i := 2) nd rfl (.inr rfl) (pe_op op_cat (pe_lst (pa_cons (pv 1) pa_nil)) (pe_lc (own := [("_law_turn", 6)]) (g := gName 6) (tt := tYes) rfl nd (pi_range1 rfl (fr.h _ (by decide +kernel)) (pa_cons pe_int pa_nil)) (blkOk_by (N := nRi) (sc := defScope (top 37)) (by decide +kernel)) (fun _ _ _ _ _ => pg_name (i := 6) nd rfl (Or.inl rfl)) (fun _ _ _ _ _ => pts_nil) (fun _ _ _ _ _ => (pe_dn S.DB hr (by rfl) (by decide) (pa_cons (pv 0) (pa_cons (pv 1) pa_nil)))))))
      (pss_cons (ps_for PassesOwn.never rfl (listK isk (pe_op op_cat (pv 2) (pe_lst (pa_cons (pe_tup (pa_cons pe_int (pa_cons pe_int pa_nil))) pa_nil)))) (pg_name (i := 3) nd rfl (.inl rfl)) (pss_cons (ps_if (PW.pt (pw_or (pt_not (pt_val (pe_dnG S.TP hG hr (by rfl) (by decide) (pa_cons (pv 1) (pa_cons (pv 3) pa_nil))))) (pw_or1 (pt_not (pt_val (pe_dnG S.TP hG hr (by rfl) (by decide) (pa_cons (pv 3) (pa_cons (pv 1) pa_nil)))))))) (pss_one (ps_ret pe_bl)) pss_nil) (pss_one (ps_if (PW.pt (pw_and (pt_cmpR op_ne (pe_ix ix_tup (pv 3) pe_int (fun _ _ => rfl)) pe_int (nomark _)) (pw_and1 (pt_not (pt_val (pe_dnG S.TR hG hr (by rfl) (by decide) (pa_cons (pv 1) (pa_cons (pv 3) pa_nil)))))))) (pss_one (ps_ret pe_bl)) pss_nil))))
      (pss_cons (ps_if (PW.pt (pw_or (pt_not (pt_val (pe_dnG S.TZ hG hr (by rfl) (by decide) (pa_cons (pv 1) pa_nil)))) (pw_or1 (pt_not (pt_val (pe_callB (allK isk rfl) rfl (fr.h _ (by decide +kernel)) (by decide +kernel) (pa_cons (pe_lc (own := [("_law_far", 3)]) (g := gName 3) (tt := tYes) rfl nd (listK isk (pv 2)) (blkOk_by (N := nRi) (sc := defScope (top 37)) (by decide +kernel)) (fun _ _ _ _ _ => pg_name (i := 3) nd rfl (Or.inl rfl)) (fun _ _ _ _ _ => pts_nil) (fun _ _ _ _ _ => (pe_dnG S.TS hG hr (by rfl) (by decide) (pa_cons (pv 3) (pa_cons (pe_dn S.D1 hr (by rfl) (by decide) (pa_cons (pv 0) (pa_cons pe_int pa_nil))) pa_nil))))) pa_nil))))))) (pss_one (ps_ret pe_bl)) pss_nil)
      (pss_cons (ps_if (pt_not (pt_val (pe_callB (allK isk rfl) rfl (fr.h _ (by decide +kernel)) (by decide +kernel) (pa_cons (pe_lc (own := [("_law_odd", 4)]) (g := gName 4) (tt := tYes) rfl nd (listK isk (pe_lst (pa_cons pe_non (pa_cons pe_bl (pa_cons pe_bl (pa_cons pe_str (pa_cons (pe_tup (pa_cons pe_int (pa_cons pe_int pa_nil))) (pa_cons (pe_lst (pa_cons pe_int pa_nil)) pa_nil)))))))) (blkOk_by (N := nRi) (sc := defScope (top 37)) (by decide +kernel)) (fun _ _ _ _ _ => pg_name (i := 4) nd rfl (Or.inl rfl)) (fun _ _ _ _ _ => pts_nil) (fun _ _ _ _ _ => (pe_dnG S.TO hG hr (by rfl) (by decide) (pa_cons (pv 1) (pa_cons (pv 4) pa_nil))))) pa_nil)))) (pss_one (ps_ret pe_bl)) pss_nil)
      (pss_cons (ps_for PassesOwn.never rfl (listK isk (pe_lst (pa_cons (pe_un un_neg pe_int) (pa_cons pe_int (pa_cons (pe_op op_pow pe_int pe_int) pa_nil))))) (pg_name (i := 4) nd rfl (.inr rfl)) (pss_one (ps_if (pt_cmpR op_ne (LamX.pe_lamcall (k := 9) (T := T) (TT := TTt Z WA WC) rfl gm gk glk gcode gb scTo rfl (.inl rfl) (told_gives (k := 10) S.tq fr hG hr) TB rfl tp.mem tp.uq hr (LamX.lamS_by (show LamX.lamSB (defScope (top 37)) _ = true by decide +kernel)) rfl (fun _ _ _ _ _ => rfl) (fun A outer s H E f c' hl => pe_meth (E := E) (pe_mk1 S.B (hl.mono (by decide)) rfl (pa_cons pe_int pa_nil)) S.B.T.cl mR FR (hl.mono (by decide)) bR .nil (passes_call (takes_of rfl rfl rfl rfl) fun _ _ _ _ h => h) (pa_cons (pv 4) pa_nil))) (pe_op op_add_str pe_str (pe_callTy (call_strI S.nb rfl) rfl (fr.h _ (by decide +kernel)) (by decide +kernel) (pa_cons (pv 4) pa_nil))) (nomark _)) (pss_one (ps_ret pe_bl)) pss_nil)))
      (pss_cons (ps_set (i := 4) nd rfl (.inr rfl) (pe_lst (pa_cons (LamX.pe_lamcall (k := 9) (T := T) (TT := TTt Z WA WC) rfl gm gk glk gcode gb scTo rfl (.inl rfl) (told_gives (k := 10) S.tq fr hG hr) TB rfl tp.mem tp.uq hr (LamX.lamS_by (show LamX.lamSB (defScope (top 37)) _ = true by decide +kernel)) rfl (fun _ _ _ _ _ => rfl) (fun A outer s H E f c' hl => pe_op (op_left (E := E) B3 F3 b3 (passes_call (takes_of rfl rfl rfl rfl) fun _ _ _ _ h => h) (hl.mono (by decide))) (pe_mk1 S.B (hl.mono (by decide)) rfl (pa_cons pe_int pa_nil)) pe_int)) pa_nil)))
      (pss_cons (ps_expr (pe_bm PySem.F.plainAttrs_list PySem.F.slot_list_append PySem.F.type_list_append mt_append (pv 4) (pa_cons (LamX.pe_lamcall (k := 9) (T := T) (TT := TTt Z WA WC) rfl gm gk glk gcode gb scTo rfl (.inl rfl) (told_gives (k := 10) S.tq fr hG hr) TB rfl tp.mem tp.uq hr (LamX.lamS_by (show LamX.lamSB (defScope (top 37)) _ = true by decide +kernel)) rfl (fun _ _ _ _ _ => rfl) (fun A outer s H E f c' hl => pe_op (op_left (E := E) B3 F3 b3 (passes_call (takes_of rfl rfl rfl rfl) fun _ _ _ _ h => h) (hl.mono (by decide))) (pe_mk1 S.B (hl.mono (by decide)) rfl (pa_cons pe_int pa_nil)) pe_int)) pa_nil)))
      (pss_cons (ps_if (pt_cmpR (op_neD hr.units) (pv 4) (pe_lst (pa_cons pe_str (pa_cons pe_str pa_nil))) (nomark _)) (pss_one (ps_ret pe_bl)) pss_nil)
      (pss_cons (ps_set (i := 5) nd rfl (.inr rfl) (pe_dn S.DE hr (by rfl) (by decide) (pa_cons (pe_lc (own := [("_law_part", 7)]) (g := gName 7) (tt := tYes) rfl nd (listK isk (pv 2)) (blkOk_by (N := nRi) (sc := defScope (top 37)) (by decide +kernel)) (fun _ _ _ _ _ => pg_name (i := 7) nd rfl (Or.inl rfl)) (fun _ _ _ _ _ => pts_nil) (fun _ _ _ _ _ => (pe_dn S.DA hr (by rfl) (by decide) (pa_cons (pv 7) pa_nil)))) pa_nil)))
      (pss_one (ps_ret (pe_not (pe_callB (anyK isk rfl) rfl (fr.h _ (by decide +kernel)) (by decide +kernel) (pa_cons (pe_lc (own := [("_law_part", 7)]) (g := gName 7) (tt := tYes) rfl nd (listK isk (pv 2)) (blkOk_by (N := nRi) (sc := defScope (top 37)) (by decide +kernel)) (fun _ _ _ _ _ => pg_name (i := 7) nd rfl (Or.inl rfl)) (fun _ _ _ _ _ => pts_nil) (fun _ _ _ _ _ => (pe_dn S.DL hr (by rfl) (by decide) (pa_cons (pv 7) (pa_cons (pe_ix (ixlK isk) (pv 2) (pv 5) (fun _ _ => rfl)) pa_nil))))) pa_nil)))))))))))))), ?_⟩
    have nt : ∀ {xs : List V} (ps), HO.tup xs ≠ .tbl ps := fun _ => HO.noConfusion
    have nl : ∀ {xs : List V} (ps), HO.lst xs ≠ .tbl ps := fun _ => HO.noConfusion
    have big : (10000 : Nat) < sizeLine := by decide
    refine ⟨_, rfl, p, rfl, hp, fun t q H1 nt1 ntp ht lq k1 => ?_⟩
    have T1 := tabs_kp hT hp k1
    have lq2 := lq.more (show 140 ≤ 142 by decide)
    refine ⟨_, rfl, (by show 1 ≤ sizeLine; decide), fun L hL => ⟨4, rfl, by decide, by decide, fun D hD => ?_⟩⟩
    have nLp := ne_pot k1.pot hL
    have kL : Kp p H1 (upd H1 L (.lst [.ref t])) := Kp.new k1.pot hL
    have hL1 : (upd H1 L (.lst [.ref t])) L = some (.lst [.ref t]) := upd_same
    have htL := kL.1 _ _ ntp ht
    have TL : LamX.Tabs T (upd H1 L (.lst [.ref t])) := T1.ext (Am.Ext.new hL)
    generalize upd H1 L (.lst [V.ref t]) = HL at hD kL hL1 htL TL ⊢
    have nDp := ne_pot kL.pot hD
    refine lc_range (lo := 0) (n := 4) (fun i H' => Kp p HL H' ∧ ∃ acc rs, H' D = some (.lst acc) ∧ acc.length = i ∧ A2 (TuR p H') acc rs) ⟨Kp.new kL.pot hD, [], [], upd_same, rfl, .nil⟩ ?_ ?_
    · rintro j H3 hj ⟨k3, acc, rs, d3, la, a2⟩
      refine ⟨rfl, _, rfl, _, rfl, p, t, q, rfl, k3.pot, ntp, k3.1 _ _ ntp htL, lq, fun u r H4 nu hu lr k4 => ?_⟩
      have d4 := k4.1 _ _ nDp d3
      refine ⟨acc, d4, by omega, (k3.trans k4).over nDp hD, acc ++ [.ref u], rs ++ [r], upd_same, by rw [List.length_append, la]; rfl, A2.snoc (a2.imp fun x r' h => ?_) ⟨u, rfl, nu, ?_, lr⟩⟩
      · obtain ⟨u', e, n', h', l'⟩ := h
        have h4 := k4.1 _ _ n' h'
        exact ⟨u', e, n', by rw [upd_ne (ne_obj h4 d4 HO.noConfusion)]; exact h4, l'⟩
      · rw [upd_ne (ne_obj hu d4 HO.noConfusion)]
        exact hu
    rintro H3 ⟨k3, acc, rs, d3, la, a2⟩
    have hL3 := k3.1 _ _ nLp hL1
    refine ⟨L, D, _, _, rfl, rfl, hL3, d3, (by show 1 + acc.length ≤ sizeLine; omega), fun S hS => ?_⟩
    have ht3 := k3.1 _ _ ntp htL
    have T3 := tabs_kp TL kL.pot k3
    have nSp := ne_pot k3.pot hS
    have eS := Am.Ext.new (o := .lst (V.ref t :: acc)) hS
    have kG : KT p H (upd H3 S (.lst (V.ref t :: acc))) := kt_ext (((Kp.kt k1).trans (Kp.kt kL)).trans (Kp.kt k3)) eS
    have TG := T3.ext eS
    have aG : A2 (TuR p (upd H3 S (.lst (V.ref t :: acc)))) (V.ref t :: acc) (q :: rs) := .cons ⟨t, rfl, ntp, eS _ _ ht3, lq2⟩ (a2.imp fun x r h => let ⟨u, e, n, h, l⟩ := h; ⟨u, e, n, eS _ _ h, l⟩)
    have hSG : (upd H3 S (.lst (V.ref t :: acc))) S = some (.lst (V.ref t :: acc)) := upd_same
    have htG := eS _ _ ht3
    have lx : (V.ref t :: acc).length = 5 := by rw [List.length_cons, la]
    show tSeq _ _ _ [some (.ref p), some (.ref t), some (.ref S), none, none, none, none, none] (upd H3 S (.lst (V.ref t :: acc)))
    generalize upd H3 S (.lst (V.ref t :: acc)) = G at kG TG aG hSG htG ⊢
    generalize hxs : V.ref t :: acc = xs at aG hSG lx
    generalize hrs : q :: rs = qs at aG
    clear eS hS T3 ht3 hL3 a2 la d3 k3 hD nDp TL htL hL1 kL nLp hL T1 ht nt1 k1
    refine ⟨_, rfl, (by show 2 ≤ sizeLine; decide), fun zt hzt => ⟨(by show 1 ≤ sizeLine; decide), fun Z hZ => ⟨S, Z, xs, [.ref zt], rfl, rfl, Am.Ext.new hZ _ _ (Am.Ext.new hzt _ _ hSG), upd_same, (by rw [lx]; show 5 + 1 ≤ sizeLine; decide), fun S2 hS2 => ?_⟩⟩⟩
    have f1 := Am.Ext.new (o := .tup [V.int 0, .int 1]) hzt
    have f2 := f1.trans (Am.Ext.new (o := .lst [V.ref zt]) hZ)
    have f3 := f2.trans (Am.Ext.new (o := .lst (xs ++ [V.ref zt])) hS2)
    have hz : (upd (upd (upd G zt (.tup [V.int 0, .int 1])) Z (.lst [V.ref zt])) S2 (.lst (xs ++ [V.ref zt]))) zt = some (.tup [V.int 0, .int 1]) := Am.Ext.new hS2 _ _ (Am.Ext.new hZ _ _ upd_same)
    have h2 : (upd (upd (upd G zt (.tup [V.int 0, .int 1])) Z (.lst [V.ref zt])) S2 (.lst (xs ++ [V.ref zt]))) S2 = some (.lst (xs ++ [V.ref zt])) := upd_same
    have kG2 := kt_ext kG f3
    have k2 : KT p G (upd (upd (upd G zt (.tup [V.int 0, .int 1])) Z (.lst [V.ref zt])) S2 (.lst (xs ++ [V.ref zt]))) := pot_xn kG.2 (LamX.ExtN.of f3)
    have T2 := TG.ext f3
    have a2 : A2 (fun x r => ∃ u, x = .ref u ∧ (upd (upd (upd G zt (.tup [V.int 0, .int 1])) Z (.lst [V.ref zt])) S2 (.lst (xs ++ [V.ref zt]))) u = some (.tup [.int r.num, .int r.den]) ∧ Low 142 r) (xs ++ [V.ref zt]) (qs ++ [0]) :=
      A2.snoc (aG.imp fun x r h => let ⟨u, e, _, h, l⟩ := h; ⟨u, e, f3 _ _ h, l⟩) ⟨zt, rfl, hz, by show 0 < 2 ^ 142; decide, by show 1 < 2 ^ 142; decide⟩
    have ht2 := f3 _ _ htG
    refine ⟨S2, rfl, ⟨_, SqL.of upd_same⟩, ?_⟩
    generalize upd (upd (upd G zt (.tup [V.int 0, .int 1])) Z (.lst [V.ref zt])) S2 (.lst (xs ++ [V.ref zt])) = G2 at h2 kG2 k2 T2 a2 ht2 ⊢
    clear hz f3 f2 f1 hS2 hZ hzt
    refine for_list (xs := xs ++ [V.ref zt]) (fun i σ H' => (∃ e3, σ = [some (.ref p), some (.ref t), some (.ref S), e3, none, none, none, none]) ∧ Am.Ext G2 H') ⟨⟨none, rfl⟩, Am.Ext.refl _⟩ (fun i σ H' _ h => SqL.of (h.2 _ _ h2)) ?_ ?_
    · rintro i x σ H' hx ⟨⟨e3, rfl⟩, eH⟩
      obtain ⟨r, _, u, rfl, hu, lr⟩ := a2.get hx
      have ht' := Pt.of (K := K) (eH _ _ ht2)
      have hu' := Pt.of (K := K) (eH _ _ hu)
      refine ⟨_, rfl, _, rfl, t, u, q, r, rfl, ht', hu', lq2, lr, fun H4 e4 => ⟨_, rfl, iteF ?_⟩⟩
      refine ⟨_, rfl, _, rfl, u, t, r, q, rfl, Pt.ext hu' e4, Pt.ext ht' e4, lr, lq2, fun H5 e5 => ⟨_, rfl, iteF ?_⟩⟩
      have e6 := e4.trans e5
      refine ⟨_, rfl, _, _, 0, _, rfl, rfl, Pt.ext hu' e6, rfl, rfl, _, rfl, ite2 (fun h => ?_) (fun h => iteF ⟨⟨_, rfl⟩, eH.trans e6⟩)⟩
      have r0 : r ≠ 0 := fun e => by
        rw [e] at h
        exact absurd h (by decide)
      exact ⟨_, rfl, _, rfl, t, u, q, r, rfl, Pt.ext ht' e6, Pt.ext hu' e6, lq2, lr, r0, fun H6 e7 => ⟨_, rfl, iteF ⟨⟨_, rfl⟩, (eH.trans e6).trans e7⟩⟩⟩
    rintro σ H3 ⟨⟨e3, rfl⟩, eH⟩
    have k3 : KT p G H3 := kt_ext k2 eH
    have T3 := T2.ext eH
    have ht3 := k3.1 _ _ ntp htG nt
    clear eH ht2 a2 T2 k2 kG2 h2
    refine ⟨_, rfl, t, q, rfl, Pt.of ht3, lq2, T3, fun H5 n5 T5 => ⟨_, rfl, iteF ?_⟩⟩
    have k5 := kt_xn k3 n5
    have hS5 := k5.1 _ _ nSp hSG nl
    have a5 := aG.imp fun x r h => TuR.kt h k5
    clear k3 T3 ht3 n5
    refine ⟨_, rfl, S, rfl, ⟨_, SqL.of hS5⟩, fun D hD => ?_⟩
    have nDp := ne_pot k5.2 hD
    have nSD := ne_of_none hS5 hD
    refine lc_list (xs := xs) (fun j H' => Kp p H5 H' ∧ LamX.Tabs T H' ∧ H' D = some (.lst ((List.replicate j true).map V.bl))) ⟨Kp.new k5.2 hD, T5.ext (Am.Ext.new hD), upd_same⟩ (fun j H' _ h => SqL.of (h.1.1 _ _ nSp hS5)) ?_ ?_
    · rintro j x H6 hx ⟨k6, t6, d6⟩
      have hj : j < xs.length := (List.getElem?_eq_some_iff.mp hx).1
      obtain ⟨r, _, u, rfl, nu, hu, lr⟩ := a5.get hx
      have hu6 := k6.1 _ _ nu hu
      refine ⟨rfl, _, rfl, _, rfl, p, 13, rfl, k6.pot, by decide, by decide, fun d H7 d0 d1 k7 => ?_⟩
      obtain ⟨n, rfl⟩ := Int.eq_ofNat_of_zero_le d0
      refine ⟨u, r, n, rfl, Pt.of (k7.1 _ _ nu hu6), lr, by omega, fun H8 e8 => ?_⟩
      have d8 := e8 _ _ (k7.1 _ _ nDp d6)
      refine ⟨_, d8, ?_, ((k6.trans k7).trans (Kp.ext k7.pot e8)).over nDp hD, tabs_put ((tabs_kp t6 k6.pot k7).ext e8) d8, ?_⟩
      · simp only [List.length_map, List.length_replicate]
        omega
      · rw [upd_same, List.replicate_succ', List.map_append]
        rfl
    rintro H6 ⟨k6, T6, d6⟩
    rw [lx] at d6
    refine ⟨D, List.replicate 5 true, rfl, SqL.of d6, _, rfl, ite2 (fun z => absurd z (by decide)) (fun _ => ?_)⟩
    replace k6 := k5.trans (Kp.kt k6)
    have ht6 := k6.1 _ _ ntp htG nt
    have p6 := k6.2
    clear d6 nSD nDp hD a5 hS5 k5 T5
    refine ⟨(by show 2 ≤ sizeLine; decide), fun a1 ha1 => ⟨(by show 1 ≤ sizeLine; decide), fun b1 hb1 => ⟨(by show 6 ≤ sizeLine; decide), fun O hO => ⟨O, rfl, ⟨_, SqL.of upd_same⟩, fun D hD => ?_⟩⟩⟩⟩
    have g1 := Am.Ext.new (o := .tup [V.int 1, .int 2]) ha1
    have g2 := Am.Ext.new (o := .lst [V.int 3]) hb1
    have g3 := Am.Ext.new (o := .lst [V.non, .bl true, .bl false, .str "1", .ref a1, .ref b1]) hO
    have gM := (g1.trans g2).trans g3
    have hA : (upd (upd (upd H6 a1 (.tup [V.int 1, .int 2])) b1 (.lst [V.int 3])) O (.lst [V.non, .bl true, .bl false, .str "1", .ref a1, .ref b1])) a1 = some (.tup [V.int 1, .int 2]) := g3 _ _ (g2 _ _ upd_same)
    have hB : (upd (upd (upd H6 a1 (.tup [V.int 1, .int 2])) b1 (.lst [V.int 3])) O (.lst [V.non, .bl true, .bl false, .str "1", .ref a1, .ref b1])) b1 = some (.lst [V.int 3]) := g3 _ _ upd_same
    have hO2 : (upd (upd (upd H6 a1 (.tup [V.int 1, .int 2])) b1 (.lst [V.int 3])) O (.lst [V.non, .bl true, .bl false, .str "1", .ref a1, .ref b1])) O = some (.lst [V.non, .bl true, .bl false, .str "1", .ref a1, .ref b1]) := upd_same
    have kM := kt_ext k6 gM
    have TM := T6.ext gM
    have htM := gM _ _ ht6
    generalize upd (upd (upd H6 a1 (.tup [V.int 1, .int 2])) b1 (.lst [V.int 3])) O (.lst [V.non, .bl true, .bl false, .str "1", .ref a1, .ref b1]) = M at hA hB hO2 kM TM htM hD ⊢
    clear gM g3 g2 g1 hO hb1 ha1
    have oA : OdV M (.ref a1) oddA := odd_tup hA
    have oB : OdV M (.ref b1) oddB := odd_lst hB
    have item : ∀ (i : Nat) (x : V), [V.non, .bl true, .bl false, .str "1", .ref a1, .ref b1][i]? = some x → ∃ tx, OdV M x tx := fun i x h => by
      match i, h with
      | 0, h => cases h; exact ⟨_, odd_non⟩
      | 1, h => cases h; exact ⟨_, odd_bl true⟩
      | 2, h => cases h; exact ⟨_, odd_bl false⟩
      | 3, h => cases h; exact ⟨_, odd_one⟩
      | 4, h => cases h; exact ⟨_, oA⟩
      | 5, h => cases h; exact ⟨_, oB⟩
      | i + 6, h => simp at h
    refine lc_list (xs := [V.non, .bl true, .bl false, .str "1", .ref a1, .ref b1]) (fun j H' => LamX.ExtN M H' ∧ LamX.Tabs T H' ∧ H' D = some (.lst ((List.replicate j true).map V.bl))) ⟨LamX.ExtN.of (Am.Ext.new hD), TM.ext (Am.Ext.new hD), upd_same⟩ (fun j H' _ h => SqL.of (h.1 _ _ hO2 nl)) ?_ ?_
    · rintro j x H7 hx ⟨n7, t7, d7⟩
      have hj : j < 6 := (List.getElem?_eq_some_iff.mp hx).1
      obtain ⟨tx, ov⟩ := item j x hx
      refine ⟨rfl, _, rfl, _, rfl, t, q, x, tx, rfl, Pt.of (n7 _ _ htM nt), lq2, ov.xn n7, t7, fun H8 n8 T8 => ?_⟩
      have d8 := n8 _ _ d7 nl
      refine ⟨_, d8, ?_, xn_put (n7.trans n8) (fun o _ hz => by rw [hD] at hz; cases hz), tabs_put T8 d8, ?_⟩
      · simp only [List.length_map, List.length_replicate]
        omega
      · rw [upd_same, List.replicate_succ', List.map_append]
        rfl
    rintro H7 ⟨n7, T7, d7⟩
    refine ⟨D, List.replicate 6 true, rfl, SqL.of d7, _, rfl, ite2 (fun z => absurd z (by decide)) (fun _ => ?_)⟩
    have k7 := kt_xn kM n7
    clear n7 d7 hD oA oB htM TM kM hO2 hB hA item T6 k6 ht6 p6
    have two : ∀ {H' : Hp} {a : Addr}, Is C H' a ((2 : Int) : Rat) → Is C H' a ((2 : Int) : Rat) := fun i => i
    have b1 : ∀ n : Int, n.natAbs < 2 ^ 7 → n.natAbs < 2 ^ 8999 := fun n h => Nat.lt_of_lt_of_le h (Nat.pow_le_pow_right (by decide) (by decide))
    refine ⟨_, rfl, 10, 12, rfl, rfl, ⟨by decide, by decide, by decide⟩, (by show 3 ≤ sizeLine; decide), fun O hO => ⟨O, rfl, ⟨_, SqL.of upd_same⟩, ?_⟩⟩
    have eO := Am.Ext.new (o := .lst [V.int (-1), .int 13, .int (10 ^ (12 : Int).toNat)]) hO
    have k8 := kt_ext k7 eO
    have T8 := T7.ext eO
    have hO8 : (upd H7 O (.lst [V.int (-1), .int 13, .int (10 ^ (12 : Int).toNat)])) O = some (.lst [V.int (-1), .int 13, .int (10 ^ (12 : Int).toNat)]) := upd_same
    show ∃ W : Nat → Nat → L2.St → Hp → Prop, (∃ m, W 0 m [some (.ref p), some (.ref t), some (.ref S), e3, none, none, none, none] (upd H7 O (.lst [V.int (-1), .int 13, .int (10 ^ (12 : Int).toNat)]))) ∧ _
    generalize upd H7 O (.lst [V.int (-1), .int 13, .int (10 ^ (12 : Int).toNat)]) = H8 at k8 T8 hO8 ⊢
    clear eO hO T7 k7
    have item : ∀ (i : Nat) (x : V), [V.int (-1), .int 13, .int (10 ^ (12 : Int).toNat)][i]? = some x → ∃ n : Int, x = .int n ∧ (n < 0 ∨ 12 < n) ∧ n.natAbs < 2 ^ 100 := fun i x h => by
      match i, h with
      | 0, h => cases h; exact ⟨_, rfl, .inl (by decide), by decide⟩
      | 1, h => cases h; exact ⟨_, rfl, .inr (by decide), by decide⟩
      | 2, h => cases h; exact ⟨_, rfl, .inr (by decide), by decide⟩
      | i + 3, h => simp at h
    refine for_list (xs := [V.int (-1), .int 13, .int (10 ^ (12 : Int).toNat)]) (fun i σ H' => (∃ e4, σ = [some (.ref p), some (.ref t), some (.ref S), e3, e4, none, none, none]) ∧ LamX.ExtN H8 H' ∧ LamX.Tabs T H') ⟨⟨none, rfl⟩, LamX.ExtN.refl _, T8⟩ (fun i σ H' _ h => SqL.of (h.2.1 _ _ hO8 nl)) ?_ ?_
    · rintro i x σ H9 hx ⟨⟨e4, rfl⟩, n9, T9⟩
      obtain ⟨n, rfl, hn, nb⟩ := item i x hx
      have ri := fun H' => rp_i (H := H') nb (by decide) (by decide)
      have nb8 : n.natAbs < 2 ^ 8000 := Nat.lt_trans nb (Nat.pow_lt_pow_right (by decide) (by decide))
      have sl : (Str.ofString "count ").length + (Str.ofString (toString n)).length ≤ sizeLine := by
        have := (ri H9).2
        have c6 : (Str.ofString "count ").length = 6 := by decide
        omega
      refine ⟨T9, fun HA nA TA => told_cnt (fun H' _ => (ri H').1) (by decide) (by have := (ri HA).2; omega) (fun E Q' rf => ⟨2, rfl, b1 2 (by decide), fun a HB eB mB iB => ?_⟩) fun HB eB => ?_⟩
      · obtain ⟨dx, ea⟩ := id iB
        exact ⟨a, dx, _, rfl, ea, no_rnd _, _, rfl, a, _, .int n, rfl, iB, .inr ⟨n, rfl, hn⟩, rf.on eB⟩
      · exact ⟨_, rfl, _, rfl, nb8, _, _, rfl, rfl, sl, ne_str _ ⟨_, rfl, iteF ⟨⟨_, rfl⟩, (n9.trans nA).trans (LamX.ExtN.of eB), TA.ext eB⟩⟩⟩
    rintro σ H9 ⟨⟨e4, rfl⟩, n9, T9⟩
    have k9 := kt_xn k8 n9
    clear n9 item hO8 T8 k8
    have r13 : ∀ H' : Hp, Rp H' [] 0 (.int 13) (toString (13 : Int)) := fun H' => .int 13 (by decide)
    have r64 : ∀ H' : Hp, Rp H' [] 0 (.int 64) (toString (64 : Int)) := fun H' => .int 64 (by decide)
    refine ⟨T9, fun HA nA TA => told_amt (fun H' _ => r13 H') (by decide) (by decide) (fun E Q' rf => ⟨2, rfl, b1 2 (by decide), fun a HB eB mB iB => ?_⟩) fun HB eB => ⟨(by show 1 ≤ sizeLine; decide), fun D hD => ?_⟩⟩
    · obtain ⟨dx, ea⟩ := id iB
      exact .inr (.inl ⟨a, dx, _, 13, rfl, rfl, ea, a, _, 13, rfl, iB, by decide, rf.on eB⟩)
    have eD := eB.trans (Am.Ext.new (o := .lst [V.str s13]) hD)
    have kA := kt_xn (kt_xn k9 nA) (LamX.ExtN.of eD)
    have TA2 := TA.ext eD
    have hDA : (upd HB D (.lst [V.str s13])) D = some (.lst [V.str s13]) := upd_same
    have ss : (Str.ofString "amount " ++ Str.ofString (toString (13 : Int))) = s13 := s13_eq
    have hDx : ∀ o, (∀ ps, o ≠ .tbl ps) → H9 D ≠ some o := fun o k hz => by
      have hz' := eB _ _ (nA _ _ hz k)
      rw [hD] at hz'
      cases hz'
    rw [ss]
    show tSeq _ _ _ [some (.ref p), some (.ref t), some (.ref S), e3, some (.ref D), none, none, none] (upd HB D (.lst [V.str s13]))
    have n9A : LamX.ExtN H9 (upd HB D (.lst [V.str s13])) := nA.trans (LamX.ExtN.of eD)
    generalize upd HB D (.lst [V.str s13]) = HC at kA TA2 hDA n9A ⊢
    clear eD hD eB TA nA T9
    refine ⟨_, rfl, tyL hDA, TA2, fun HA nA TA => told_amt (fun H' _ => r64 H') (by decide) (by decide) (fun E Q' rf => ⟨0, rfl, b1 0 (by decide), fun a HB eB mB iB => ?_⟩) fun HB eB => ⟨D, _, _, rfl, rfl, eB _ _ (nA _ _ hDA nl), (by show 1 < sizeLine; decide), ?_⟩⟩
    · obtain ⟨dx, ea⟩ := id iB
      exact .inr (.inl ⟨a, dx, _, 64, rfl, rfl, ea, a, _, 64, rfl, iB, by decide, rf.on eB⟩)
    have ss4 : (Str.ofString "amount " ++ Str.ofString (toString (64 : Int))) = s64 := s64_eq
    rw [ss4]
    have hDB := eB _ _ (nA _ _ hDA nl)
    have TD := tabs_put (o := .lst [V.str s13, .str s64]) (TA.ext eB) hDB
    have nD := xn_put (o := .lst [V.str s13, .str s64]) ((n9A.trans nA).trans (LamX.ExtN.of eB)) hDx
    have kD := kt_xn k9 nD
    have hDD : (upd HB D (.lst [V.str s13, .str s64])) D = some (.lst [V.str s13, .str s64]) := upd_same
    show tSeq _ _ _ [some (.ref p), some (.ref t), some (.ref S), e3, some (.ref D), none, none, none] (upd HB D (.lst [V.str s13, .str s64]))
    generalize upd HB D (.lst [V.str s13, .str s64]) = HE at kD TD hDD ⊢
    clear nD hDB eB TA nA n9A hDx hDA TA2 kA k9
    refine ⟨_, rfl, (by show 2 ≤ sizeLine; decide), fun N hN => ?_⟩
    have eN := Am.Ext.new (o := .lst [V.str s13, .str s64]) hN
    refine ned_same (H := upd HE N (.lst [V.str s13, .str s64])) (xs := [V.str s13, .str s64]) (SqL.of (eN _ _ hDD)) (SqL.of upd_same) (dp_strs [s13, s64]) (shaped_strs fun y m => ?_) ⟨_, rfl, iteF ?_⟩
    · simp only [List.mem_cons, List.not_mem_nil, or_false] at m
      rcases m with rfl | rfl <;> exact sok_of _
    have kF := kt_ext kD eN
    have TF := TD.ext eN
    generalize upd HE N (.lst [V.str s13, .str s64]) = HF at kF TF ⊢
    clear eN hN hDD TD kD
    have hSF := kF.1 _ _ nSp hSG nl
    have aF := aG.imp fun x r h => TuR.kt h kF
    have lq5 : qs.length = 5 := by rw [← aG.len]; exact lx
    refine ⟨_, rfl, S, rfl, ⟨_, SqL.of hSF⟩, fun D hD => ?_⟩
    refine lc_list (xs := xs) (fun j H' => Am.Ext HF H' ∧ ∃ acc, H' D = some (.lst acc) ∧ acc.length = j ∧ A2 (AmR C H') acc (qs.take j)) ⟨Am.Ext.new hD, [], upd_same, rfl, .nil⟩ (fun j H' _ h => SqL.of (h.1 _ _ hSF)) ?_ ?_
    · rintro j x H6 hx ⟨e6, acc, d6, la, a6⟩
      have hj : j < xs.length := (List.getElem?_eq_some_iff.mp hx).1
      obtain ⟨r, hr', u, rfl, nu, hu, lr⟩ := aF.get hx
      refine ⟨rfl, _, rfl, u, r, rfl, Pt.of (e6 _ _ hu), lr.more (by decide), fun a H7 e7 n7 i7 => ?_⟩
      have d7 := e7 _ _ d6
      refine ⟨acc, d7, by omega, fun b o h => ?_, acc ++ [.ref a], upd_same, by rw [List.length_append, la]; rfl, ?_⟩
      · rw [upd_ne (ne_of_none h hD)]
        exact e7 _ _ (e6 _ _ h)
      · rw [take_get hr']
        refine A2.snoc (a6.imp fun x r' h => ?_) ⟨⟨a, rfl, is_put i7 d7⟩, lr⟩
        obtain ⟨⟨a', e', i'⟩, l'⟩ := h
        exact ⟨⟨a', e', is_put (i'.ext e7) d7⟩, l'⟩
    rintro H6 ⟨e6, acc, d6, la, a6⟩
    rw [lx] at la a6
    rw [show qs.take 5 = qs from by rw [← lq5, List.take_length]] at a6
    refine ⟨D, acc, qs, rfl, d6, a6, by omega, by omega, fun m rm H7 hm all e7 => ?_⟩
    have k7 := kt_ext kF (e6.trans e7)
    have T7 := TF.ext (e6.trans e7)
    have hS7 := k7.1 _ _ nSp hSG nl
    have a7 := aG.imp fun x r h => TuR.kt h k7
    clear a6 la d6 e6 hD aF hSF e7
    refine ⟨_, rfl, S, rfl, ⟨_, SqL.of hS7⟩, fun D3 hD3 => ?_⟩
    have hmx : m < xs.length := by
      have := (List.getElem?_eq_some_iff.mp hm).1
      omega
    obtain ⟨rm', hrm, um, exm, _, hum, lm⟩ := a7.get (List.getElem?_eq_getElem hmx)
    rw [hm] at hrm
    cases hrm
    refine lc_list (xs := xs) (fun j H' => Am.Ext H7 H' ∧ H' D3 = some (.lst ((List.replicate j false).map V.bl))) ⟨Am.Ext.new hD3, upd_same⟩ (fun j H' _ h => SqL.of (h.1 _ _ hS7)) ?_ ?_
    · rintro j x H8 hx ⟨e8, d8⟩
      have hj : j < xs.length := (List.getElem?_eq_some_iff.mp hx).1
      obtain ⟨r, hr', u, rfl, nu, hu, lr⟩ := a7.get hx
      refine ⟨rfl, _, rfl, _, rfl, _, rfl, S, xs, m, xs[m], rfl, rfl, SqL.of (e8 _ _ hS7), at_nat (List.getElem?_eq_getElem hmx), u, um, r, rm, (by rw [exm]; rfl), Pt.of (e8 _ _ hu), Pt.of (e8 _ _ hum), lr.more (by decide), lm.more (by decide), ?_⟩
      have ge : decide (r < rm) = false := decide_eq_false (Rat.not_lt.mpr (all r (List.mem_of_getElem? hr')))
      rw [ge]
      refine ⟨_, d8, ?_, fun b o h => ?_, ?_⟩
      · simp only [List.length_map, List.length_replicate]
        omega
      · rw [upd_ne (ne_of_none h hD3)]
        exact e8 _ _ h
      · rw [upd_same, List.replicate_succ', List.map_append]
        rfl
    rintro H8 ⟨e8, d8⟩
    rw [lx] at d8
    have kZ := kG.trans (kt_ext k7 e8)
    exact ⟨D3, List.replicate 5 false, rfl, SqL.of d8, _, rfl, z _ kZ.1 kZ.2 (T7.ext e8)⟩
end
end KB

set_option Elab.async false
set_option linter.all false
set_option maxRecDepth 100000
set_option maxHeartbeats 1000000
namespace KB
open PySem PySem.Spec PyProof.Rows L2 Oo Gd Am KA
abbrev nLaw : List Str := ["_law_script", "_law_k"]
theorem scLaw : FnScope nLaw ["_law_script"] (defScope (top 38)) := ⟨rfl, rfl, rfl, by decide +kernel, rfl, by decide +kernel, by decide +kernel⟩
def spLaw (K : W.Frag) (T : List (Addr × Str)) : Sp := fun vs H Q _ => ∃ (a : Addr) (ns : List Int), vs = [.ref a] ∧ ns.length ≤ 63 ∧ SqL K H a (ns.map V.int) ∧ LamX.Tabs T H ∧ ∀ H', Q (.bl true) H'
theorem all_rep (n : Nat) : (List.replicate n true).all id = true := by
  rw [List.all_eq_true]
  intro x h
  exact List.eq_of_mem_replicate h
section
variable {P : Program} {w : World} {K : W.Frag} {mg : Str → Option Value} {base : Heap} {f : Addr} {fd : FuncData} {T : List (Addr × Str)}
theorem ok_law (fr : Frees mg) (D0 : Dn P w K mg base CX0 1 "_law_pot" ["_law_script", "_law_k"] (spPot K)) (D1 : DnG P w K mg base 12 "_law_right" ["_law_pot_here"] (spRi T))
    (F : Fun K "law" "law" (top 38) f fd) : FnG P w K mg base CX0 13 f fd ["_law_script"] (spLaw K T) := by
  refine Gd.okG F scLaw (fun vs H Q E h => ?_) (fun cdv A outer s H vs Q E hG hr h => ?_)
  · obtain ⟨a, ns, rfl, _⟩ := h
    rfl
  · obtain ⟨a, ns, rfl, ln, sq, hT, q⟩ := h
    have nd := scLaw.nd
    have isk : IsK K := ⟨trivial⟩
    refine ⟨_, pss_one (ps_ret (pe_callB (allK isk rfl) rfl (fr.h _ (by decide +kernel)) (by decide +kernel) (pa_cons (pe_lc (own := [("_law_k", 1)]) (g := gName 1) (tt := tYes) rfl nd (pi_range1 rfl (fr.h _ (by decide +kernel)) (pa_cons (pe_callB (call_max2 rfl) rfl (fr.h _ (by decide +kernel)) (by decide +kernel) (pa_cons pe_int (pa_cons (pe_callB (call_min2 rfl) rfl (fr.h _ (by decide +kernel)) (by decide +kernel) (pa_cons (pe_callB (lenK isk) rfl (fr.h _ (by decide +kernel)) (by decide +kernel) (pa_cons (pv 0) pa_nil)) (pa_cons pe_int pa_nil))) pa_nil))) pa_nil)) (blkOk_by (N := nLaw) (sc := defScope (top 38)) (by decide +kernel))
          (fun _ _ _ _ _ => pg_name (i := 1) nd rfl (Or.inl rfl)) (fun _ _ _ _ _ => pts_nil) (fun _ _ _ _ _ => pe_dnG D1 hG hr (by rfl) (by decide) (pa_cons (pe_dn D0 hr (by rfl) (by decide) (pa_cons (pv 0) (pa_cons (pv 1) pa_nil))) pa_nil))) pa_nil))), ?_⟩
    have gs : ∃ G : Hp → Prop, G H ∧ (∀ H', G H' → SqL K H' a (ns.map V.int)) ∧ ∀ H1 H2, G H1 → (∀ o, (∀ ps, o ≠ .tbl ps) → H1 a = some o → H2 a = some o) → G H2 := by
      rcases sq with (h | ⟨o, h⟩) | h
      · exact ⟨fun H' => H' a = some (.lst (ns.map V.int)), h, fun H' h => .inl (.inl h), fun H1 H2 g k => k _ (fun _ => HO.noConfusion) g⟩
      · exact ⟨fun H' => H' a = some (.frz o (.lst (ns.map V.int))), h, fun H' h => .inl (.inr ⟨o, h⟩), fun H1 H2 g k => k _ (fun _ => HO.noConfusion) g⟩
      · exact ⟨fun _ => True, trivial, fun H' _ => .inr h, fun _ _ _ _ => trivial⟩
    obtain ⟨G, g0, g1, g2⟩ := gs
    obtain ⟨m, em, m0, m6⟩ : ∃ m : Int, (if (if (6 : Int) < ((ns.map V.int).length : Int) then (6 : Int) else ((ns.map V.int).length : Int)) > 1 then (if (6 : Int) < ((ns.map V.int).length : Int) then (6 : Int) else ((ns.map V.int).length : Int)) else (1 : Int)) = m ∧ 0 ≤ m ∧ m ≤ 6 :=
      ⟨_, rfl, by split <;> split <;> omega, by split <;> split <;> omega⟩
    refine ⟨_, rfl, .inl ⟨a, _, rfl, .inl sq, _, 6, rfl, 1, _, rfl, m, congrArg (fun z => [V.int z]) em, by omega, by omega, fun D hD => ?_⟩⟩
    refine lc_range (lo := 0) (n := m.toNat) (fun j H' => H' D = some (.lst ((List.replicate j true).map V.bl)) ∧ LamX.Tabs T H' ∧ ∀ o, (∀ ps, o ≠ .tbl ps) → H a = some o → H' a = some o) ⟨upd_same, hT.ext (Am.Ext.new hD), fun o _ h => Am.Ext.new hD _ _ h⟩ ?_ ?_
    · rintro j H3 hj ⟨d3, t3, a3⟩
      have big : (10000 : Nat) < sizeLine := by decide
      refine ⟨rfl, _, rfl, _, rfl, a, ns, (0 : Int) + (j : Int), rfl, g1 _ (g2 _ _ g0 a3), by omega, by omega, fun p H2 np sm pt => ?_⟩
      have nDp : D ≠ p := ne_of_none d3 np
      refine ⟨p, rfl, pt, t3.ext sm, fun H4 k4 p4 t4 => ?_⟩
      have d4 := k4 _ _ nDp (sm _ _ d3) (fun _ => HO.noConfusion)
      refine ⟨_, d4, ?_, ?_, tabs_put t4 d4, fun o n h => ?_⟩
      · simp only [List.length_map, List.length_replicate]
        omega
      · rw [upd_same, List.replicate_succ', List.map_append]
        rfl
      · rw [upd_ne (ne_of_none h hD)]
        exact k4 _ _ (ne_of_none (a3 o n h) np) (sm _ _ (a3 o n h)) n
    · rintro H3 ⟨d3, t3, a3⟩
      refine ⟨D, List.replicate m.toNat true, rfl, SqL.of d3, ?_⟩
      rw [all_rep]
      exact q _
end
end KB

set_option Elab.async false
set_option linter.all false
set_option maxRecDepth 100000
set_option maxHeartbeats 2000000
/-! The end of a law of ours that makes code objects: several tables, no repr under way, no limit of digits. -/
namespace Gd
open PySem PySem.Spec PyProof.Rows L2
/-- where the module of the built-ins stands -/
def Bltn (mg : Str → Option Value) (h : Heap) : Prop := ∃ (m : Addr) (u : Obj), mg "__builtins__" = some (.ref m) ∧ m ≠ builtinsNs ∧ h.get? m = some u ∧ u.cls = .type "module" ∧ u.dict = some builtinsNs ∧ u.data = .plain
abbrev noTab : Obj := { cls := .none, data := .fields #[] }
theorem lawGTs {P : Program} {w : World} {K : PySem.W.Frag} {mg mb : Str → Option Value} {k : Nat} {fa a : Addr} {cf : Addr → Addr} {T : List (Addr × Str)} {fd : FuncData} {x : Str} {sp : Sp} {s₁ : Shared} {vs : List Value} {ns : List Int}
    (inK : K.In s₁.heap) (hmg : s₁.heap.Ns mainGlobals mg) (hmb : s₁.heap.Ns builtinsNs mb) (hbt : ∀ y : Str, y ≠ "__name__" → mb y = bootBuiltins y) (lim : s₁.heap.NoLimit) (dig : s₁.heap.NoDigits) (hbm : Bltn mg s₁.heap) (hgen : s₁.gens = #[])
    (tab : ∀ p ∈ T.map (·.1), s₁.heap.get? p = some noTab) (out : ∀ p ∈ T.map (·.1), K.lookup p = none) (head : ∀ p ∈ T.map (·.1), PySem.W.CodeHd s₁.heap (cf p) p)
    (hobj : s₁.heap.get? a = some { cls := .type "list", data := .seq vs.toArray }) (hints : IntsAre vs ns) (hlen : ns.length ≤ sizeLine) (room : Room k callerA)
    (F : ∀ base : Heap, K.In base → base.Ns mainGlobals mg → base.NoDigits → (∀ p ∈ T.map (·.1), LamX.TabB base mg (cf p) p) → FnG P w K mg base CX0 k fa fd [x] sp) (hbd : ∀ (s : Shared) (u : Value), BindsTo s fd ⟨[u], []⟩ [(x, u)])
    (hsp : ∀ H : Hp, LamX.Tabs T H → SqL K H a (ns.map V.int) → sp [.ref a] H (fun v _ => v = .bl true) fun _ _ _ => False) :
    codeAny (model P w) callerA (.call (.ref fa) ⟨[.ref a], []⟩) (fun r s' => r = .ok (.ret (.bool true)) ∧ OldK s₁.heap s'.heap ∧ s'.os = s₁.os ∧ AllBare s'.gens) s₁ := by
  have rv := vals_ints hints
  have nvs := hints.length
  have nap : a ∉ T.map (·.1) := fun e => by
    rw [tab a e] at hobj
    have z : Data.fields #[] = Data.seq vs.toArray _ := congrArg Obj.data (Option.some.inj hobj)
    cases z
  have core : ∀ H : Hp, (∀ p ∈ T.map (·.1), H p = some (.tbl #[])) → (∀ b, b ∉ T.map (·.1) → H b = none ∨ ∃ ob xs, H b = some (.frz ob (.lst xs))) → SqL K H a (ns.map V.int) → HOk P w H s₁.heap → (∀ b, H b ≠ none → b = a ∨ b ∈ T.map (·.1)) → (H a ≠ none → K.lookup a = none) →
      codeAny (model P w) callerA (.call (.ref fa) ⟨[.ref a], []⟩) (fun r s' => r = .ok (.ret (.bool true)) ∧ OldK s₁.heap s'.heap ∧ s'.os = s₁.os ∧ AllBare s'.gens) s₁ := by
    intro H tp only sq hok onlyA notK
    have free_of : ∀ {b : Addr} {o : Obj}, s₁.heap.get? b = some o → (∀ us m, o.data ≠ .seq us m) → o.data ≠ .fields #[] → H b = none := by
      intro b o e no1 no2
      cases z : H b with
      | none => rfl
      | some u =>
        rcases onlyA b (by rw [z]; simp) with eb | eb
        · rw [eb, hobj] at e
          cases e
          exact absurd rfl (no1 _ _)
        · rw [tab b eb] at e
          cases e
          exact absurd rfl no2
    have dict_of : ∀ {b : Addr} {o : Obj} {es : Array DictEntry} {ep : Nat}, s₁.heap.get? b = some o → o.data = .dict es ep → H b = none := fun {b o es ep} e d =>
      free_of e (fun us m z => by rw [d] at z; cases z) (fun z => by rw [d] at z; cases z)
    have ns_of : ∀ {b : Addr} {m : Str → Option Value}, s₁.heap.Ns b m → (hidT s₁.heap H).Ns b m := by
      rintro b m ⟨o, es, ep, e, d, r⟩
      exact ⟨o, es, ep, hidT_get e (dict_of e d), d, r⟩
    have inB : K.In (hidT s₁.heap H) := by
      intro b o e
      refine hidT_get (inK b o e) ?_
      cases z : H b with
      | none => rfl
      | some u =>
        rcases onlyA b (by rw [z]; simp) with eb | eb
        · subst eb
          rw [notK (by rw [z]; simp)] at e
          cases e
        · rw [out b eb] at e
          cases e
    obtain ⟨mc, l1, l2⟩ := lim
    obtain ⟨md', d1, d2⟩ := dig
    have md : Mod K mg (hidT s₁.heap H) := ⟨inB, ns_of hmg, ⟨mb, ns_of hmb, hbt⟩, ⟨mc, ns_of l1, l2⟩⟩
    have nil : ∀ b : Addr, b ∉ ([] : List Addr) := fun b z => nomatch z
    have e0 : Env0 P w K mg (hidT s₁.heap H) callerA [] s₁ H :=
      ⟨rfl, md, fun b o e => of_hidT e, Nat.le_of_eq (hidT_size _ _), trivial, fun b hb => absurd (show b ∈ ([] : List Addr) from hb) (nil b), hok, .of_eq hgen⟩
    have gp : ∀ p ∈ T.map (·.1), mainGlobals ≠ p := fun p hp e => by
      obtain ⟨o, es, ep, e1, d, _⟩ := hmg
      rw [e, tab p hp] at e1
      cases e1
      cases d
    have tb : ∀ p ∈ T.map (·.1), LamX.TabB (hidT s₁.heap H) mg (cf p) p := by
      intro p hp
      refine ⟨?_, ?_, gp p hp⟩
      · obtain ⟨o, us, fi, tf, fl, tg, iF, tx, tt, e, r1, r2, r3, r⟩ := head p hp
        refine ⟨o, us, fi, tf, fl, tg, iF, tx, tt, hidT_get e (free_of e (fun us' m z => ?_) fun z => ?_), r1, r2, r3, r⟩
        · rw [r2] at z
          cases z
        · rw [r2] at z
          injection z with z
          rw [z] at r3
          cases r3
      · obtain ⟨m, u, b1, b2, b3, b4, b5, b6⟩ := hbm
        have n1 : m ≠ mainGlobals := fun e => by
          obtain ⟨o, es, ep, e1, d, _⟩ := hmg
          rw [e, e1] at b3
          cases b3
          rw [b6] at d
          cases d
        have n2 : m ≠ p := fun e => by
          rw [e, tab p hp] at b3
          cases b3
          cases b6
        exact ⟨m, u, b1, b2, n1, n2, hidT_get b3 (free_of b3 (fun us' m' z => by rw [b6] at z; cases z) fun z => by rw [b6] at z; cases z), b4, b5, b6⟩
    have tT : LamX.Tabs T H := fun r hr => LamX.TabS.nil (tp r.1 (List.mem_map_of_mem hr))
    refine codeAny_mono ((F _ inB (ns_of hmg) ⟨md', ns_of d1, d2⟩ tb).go callerA [] s₁ H ⟨[.ref a], []⟩ [.ref a] [.ref a] _ _ rfl room e0 (hbd s₁ (.ref a)) (.cons rfl .nil) (hsp H tT sq)) (fun r s2 z => ?_)
    cases r with
    | error er => exact z.elim
    | ok fl =>
      cases fl with
      | next => exact z.elim
      | brk => exact z.elim
      | cont => exact z.elim
      | ret u =>
        obtain ⟨v, H2, os, bare, un, hok2, rr, qq⟩ := z
        have ev : v = .bl true := qq
        subst ev
        obtain rfl : u = Value.bool true := rr
        have kept : ∀ b o, b ∉ T.map (·.1) → s₁.heap.get? b = some o → s2.heap.get? b = some o := fun b o nb e => by
          cases q2 : H b with
          | none => exact un.keep b o e q2 (nil b) (nil b)
          | some u =>
            cases only b nb with
            | inl z => rw [q2] at z; cases z
            | inr z =>
              obtain ⟨ob, xs, z⟩ := z
              obtain ⟨e1, _⟩ := hok b _ z
              obtain ⟨e2, _⟩ := hok2 b _ (un.frzs b ob _ z)
              rw [e] at e1
              cases e1
              exact e2
        refine ⟨rfl, ⟨fun b o e => ?_, fun b o e => ?_⟩, os, bare⟩
        · by_cases eb : b ∈ T.map (·.1)
          · obtain ⟨new, hn⟩ := un.tbls b #[] (tp b eb)
            have at2 := hok2 b _ hn
            rw [tab b eb] at e
            cases e
            refine .inr (.inl ⟨((head b eb).tab (tab b eb)).isCodeTable, rfl, #[], new, rfl, ?_⟩)
            rw [Array.empty_append] at at2 ⊢
            exact at2
          · exact .inl (kept b o eb e)
        · by_cases eb : b ∈ T.map (·.1)
          · obtain ⟨new, hn⟩ := un.tbls b #[] (tp b eb)
            exact ⟨_, hok2 b _ hn⟩
          · exact ⟨o, kept b o eb e⟩
  cases hk : K.lookup a with
  | some o =>
    have e := inK a o hk
    rw [hobj] at e
    cases e
    refine core (fun b => if b ∈ T.map (·.1) then some (.tbl #[]) else none) (fun p hp => if_pos hp) (fun b nb => .inl (if_neg nb)) (.inr ⟨_, vs.toArray, _, hk, rfl, rfl, rfl, by rw [List.size_toArray, nvs]; exact hlen, by simpa using rv⟩) (fun b u z => ?_) (fun b z => ?_) (fun z => absurd (if_neg nap) z)
    · by_cases eb : b ∈ T.map (·.1)
      · have z2 := (if_pos eb).symm.trans z
        cases z2
        exact tab b eb
      · have z2 := (if_neg eb).symm.trans z
        cases z2
    · by_cases eb : b ∈ T.map (·.1)
      · exact .inr eb
      · exact absurd (if_neg eb) z
  | none =>
    refine core (fun b => if b ∈ T.map (·.1) then some (.tbl #[]) else if b = a then some (.frz { cls := .type "list", data := .seq vs.toArray } (.lst (ns.map V.int))) else none) (fun p hp => if_pos hp) (fun b nb => ?_) (.inl (.inr ⟨_, (if_neg nap).trans (if_pos rfl)⟩)) (fun b u z => ?_) (fun b z => ?_) (fun _ => hk)
    · by_cases hb : b = a
      · exact .inr ⟨_, _, (if_neg nb).trans (if_pos hb)⟩
      · exact .inl ((if_neg nb).trans (if_neg hb))
    · by_cases eb : b ∈ T.map (·.1)
      · have z2 := (if_pos eb).symm.trans z
        cases z2
        exact tab b eb
      · have z1 := (if_neg eb).symm.trans z
        by_cases hb : b = a
        · have z2 := (if_pos hb).symm.trans z1
          cases z2
          subst hb
          exact ⟨hobj, by rw [List.length_map]; exact hlen, vs, _, rv, hobj⟩
        · have z2 := (if_neg hb).symm.trans z1
          cases z2
    · by_cases eb : b ∈ T.map (·.1)
      · exact .inr eb
      · by_cases hb : b = a
        · exact .inl hb
        · exact absurd ((if_neg eb).trans (if_neg hb)) z
/-- a law over a head by facts, a table told -/
theorem walkGTs {l : PySem.W.OpenLaw} {n k : Nat} {q : Program} {loose : List Str} {XP : (Str → Option Value) → Heap → Prop} {YP : World → Heap → Prop} {d : DefRec} {x : Str}
    (hn : l.most = some n) (hn2 : n ≤ sizeLine) (hdf : d.params.defaults = []) (room : Room k callerA)
    (F : ∀ (w : World) (mg : Str → Option Value) (fa : Addr) (h : Heap), YP w h → h.Ns mainGlobals mg → mg d.name = some (.ref fa) →
      ∃ (K : PySem.W.Frag) (fd : FuncData) (sp : Sp) (cf : Addr → Addr) (T : List (Addr × Str)), K.In h ∧ (∀ p ∈ T.map (·.1), h.get? p = some noTab) ∧ (∀ p ∈ T.map (·.1), K.lookup p = none) ∧ (∀ p ∈ T.map (·.1), PySem.W.CodeHd h (cf p) p) ∧ (∀ (s : Shared) (u : Value), BindsTo s fd ⟨[u], []⟩ [(x, u)]) ∧
        (∀ (H : Hp) (a : Addr) (ns : List Int), ns.length ≤ n → LamX.Tabs T H → SqL K H a (ns.map V.int) → sp [.ref a] H (fun v _ => v = .bl true) fun _ _ _ => False) ∧
        ∀ base : Heap, K.In base → base.Ns mainGlobals mg → base.NoDigits → (∀ p ∈ T.map (·.1), LamX.TabB base mg (cf p) p) → FnG l.prog w K mg base CX0 k fa fd [x] sp) :
    PySem.W.WalkO q loose XP YP l.row.toRowW d [] (fun f vs => PySem.call f vs) := by
  refine Att.attach_call hn hdf (fun w s₀ s₁ mg mb fa o pm cd doc a vs ns G Y ho hd hcd hmg hobj hints hlen hg => ?_)
  obtain ⟨K, fd, sp, cf, T, inK, tab, out, head, hbd, hsp, hF⟩ := F w mg fa _ Y G.T.g hmg
  exact lawGTs (T := T) inK G.T.g G.T.b G.T.builtins G.T.nolimit G.T.nodigits G.T.bmain hg tab out head hobj hints (Nat.le_trans hlen hn2) room hF hbd (fun H tT sq => hsp H a ns hlen tT sq)
end Gd

set_option Elab.async false
set_option linter.all false
set_option maxRecDepth 100000
set_option maxHeartbeats 1000000
namespace KB
open PySem PySem.Spec PyProof.Rows L2 Oo Gd Am KA
section
variable {K : W.Frag} {C Z ZA : Addr} {h : Heap} {mg : Str → Option Value}
theorem una_ok {m : Str} (e : unaB K C m = true) : W.findIn K (.ref C) m = some (some (.ref (He.ma K C m))) ∧ W.isFn K (.ref (He.ma K C m)) = true := let ⟨a, b⟩ := He.ba e; ⟨He.eqO_ok a, b⟩
theorem some_of {α : Type} {o : Option α} (h : o.isSome = true) : ∃ x, o = some x := Option.isSome_iff_exists.mp h
theorem bin_ok {nm : String} (e : binB K C nm true = true) : OwnBin K C nm (He.ma K C (PySem.dunder nm)) (some (He.ma K C (dunderR nm))) := by
  obtain ⟨a1, e⟩ := He.ba e
  obtain ⟨a2, e⟩ := He.ba e
  obtain ⟨a3, e⟩ := He.ba e
  obtain ⟨a4, e⟩ := He.ba e
  obtain ⟨a5, e⟩ := He.ba e
  obtain ⟨a6, a7⟩ := He.ba e
  obtain ⟨b1, b2⟩ := una_ok a2
  obtain ⟨c1, c2⟩ := una_ok (show unaB K C (dunderR nm) = true from a3)
  exact ⟨a1, b1, b2, c1, fun a h => by cases h; exact c2, some_of a4, some_of a5, of_decide_eq_true a6, of_decide_eq_true a7⟩
theorem bin_no {nm : String} (e : binB K C nm false = true) : OwnBin K C nm (He.ma K C (PySem.dunder nm)) none := by
  obtain ⟨a1, e⟩ := He.ba e
  obtain ⟨a2, e⟩ := He.ba e
  obtain ⟨a3, e⟩ := He.ba e
  obtain ⟨a4, e⟩ := He.ba e
  obtain ⟨a5, e⟩ := He.ba e
  obtain ⟨a6, a7⟩ := He.ba e
  obtain ⟨b1, b2⟩ := una_ok a2
  exact ⟨a1, b1, b2, He.eqO_ok a3, fun a h => (by cases h), some_of a4, some_of a5, of_decide_eq_true a6, of_decide_eq_true a7⟩
theorem mro_ok {bm : List Value} (e : mroB K C bm = true) : ∃ cd, W.clsIn K C = some cd ∧ cd.mro = .ref C :: bm := by
  unfold mroB at e
  cases z : W.clsIn K C with
  | none => rw [z] at e; cases e
  | some cd =>
    rw [z] at e
    exact ⟨cd, rfl, of_decide_eq_true e⟩
theorem no_ok {nm : String} (m : mroB K C [.type "object"] = true) (e : noB K C nm = true) : NoIn K C nm := by
  obtain ⟨a1, e⟩ := He.ba e
  obtain ⟨a2, a3⟩ := He.ba e
  exact ⟨mro_ok m, He.eqO_ok a1, He.eqO_ok a2, He.eqO_ok a3⟩
theorem prop_ok {m : Str} (e : propB K C m = true) : PropOf K C m (He.ma K C m) (He5.wf K C "property" m) := by
  obtain ⟨a1, e⟩ := He.ba e
  obtain ⟨a2, e⟩ := He.ba e
  obtain ⟨a3, a4⟩ := He.ba e
  refine ⟨He.eqO_ok a1, He.eqO_ok a2, of_decide_eq_true a3, ?_⟩
  unfold He5.wf
  split at a4
  · rename_i f r z
    exact ⟨r, by rw [z]⟩
  · cases a4
theorem stat_ok {m : Str} (e : statB K C m = true) : ClX.CRead K C (.type "type") ∧ (W.findCls K (.ref C) (.type "type") m = some (.get (.builtin "staticmethod.__get__") (.ref (He.ma K C m)) .none (.ref C)) ∧ W.typeIn K (.ref C) = some (.type "type") ∧ (∃ rest, W.recIn K (He.ma K C m) "staticmethod" = some (.ref (He5.wf K C "staticmethod" m) :: rest)) ∧ W.keepIn K (.ref (He5.wf K C "staticmethod" m)) = true) := by
  obtain ⟨a1, e⟩ := He.ba e
  obtain ⟨a2, e⟩ := He.ba e
  obtain ⟨a3, e⟩ := He.ba e
  obtain ⟨a4, a5⟩ := He.ba e
  obtain ⟨b1, b2⟩ := He5.wrapB_ok a1
  exact ⟨⟨a4, He.eqO_ok a5⟩, b1, of_decide_eq_true a2, b2, a3⟩
theorem smet_ok {m : Str} (e : statB K C m = true) : SMet K C (.type "type") m (He.ma K C m) (He5.wf K C "staticmethod" m) := let ⟨_, b1, b2, b3, b4⟩ := stat_ok e; ⟨b1, b2, b3, b4⟩
theorem ns_ok {N : Addr} {es : Array DictEntry} {n : Str} {v : Value} (hf : ∃ oc od ep sl, K.lookup N = some ⟨oc, od, .dict es ep, sl⟩) (e : W.nsIn K N n = some (some v)) : nsFind es n = some v := by
  obtain ⟨oc, od, ep, sl, q⟩ := hf
  unfold W.nsIn at e
  rw [q] at e
  dsimp only at e
  split at e
  · rename_i en he
    cases e
    unfold nsFind findBy
    rw [← Array.find?_toList, he]
    rfl
  · split at e <;> cases e
theorem ns_no {N : Addr} {es : Array DictEntry} {n : Str} (hf : ∃ oc od ep sl, K.lookup N = some ⟨oc, od, .dict es ep, sl⟩) (e : W.nsIn K N n = some none) : nsFind es n = none := by
  obtain ⟨oc, od, ep, sl, q⟩ := hf
  unfold W.nsIn at e
  rw [q] at e
  dsimp only at e
  split at e
  · cases e
  · rename_i he
    unfold nsFind findBy
    rw [← Array.find?_toList, he]
    rfl
theorem slots_of {sl : Array (Option Value)} (h : (match sl.toList with
      | [_, _, _, _, some (.builtin _), _] => true
      | _ => false) = true) : ∃ k0 k1 k2 k3 k5 n, sl = #[k0, k1, k2, k3, some (.builtin n), k5] := by
  split at h
  · rename_i k0 k1 k2 k3 n k5 z
    refine ⟨k0, k1, k2, k3, k5, n, ?_⟩
    have y := congrArg List.toArray z
    rwa [Array.toArray_toList] at y
  · cases h
theorem eqc_ok (e : eqcB K C = true) (fn : W.isFn K (.ref (He.ma K C "__eq__")) = true) (h : Heap) (x dx : Addr) (X : K.In h) (hx : h.get? x = some (W.instObj C dx)) : h.OwnEqNoNe x C (He.ma K C "__eq__") "object" [.type "object"] := by
  unfold eqcB at e
  split at e
  · rename_i t dd cd sl hC
    obtain ⟨a1, e⟩ := He.ba e
    obtain ⟨a2, e⟩ := He.ba e
    obtain ⟨a3, e⟩ := He.ba e
    obtain ⟨a4, e⟩ := He.ba e
    obtain ⟨a5, e⟩ := He.ba e
    obtain ⟨a6, a7⟩ := He.ba e
    split at a7
    · rename_i oc od es ep osl hN
      have hN' : ∃ oc od ep sl, K.lookup cd.ns = some ⟨oc, od, .dict es ep, sl⟩ := ⟨_, _, _, _, hN⟩
      obtain ⟨k0, k1, k2, k3, k5, n, rfl⟩ := slots_of a4
      obtain ⟨nm, bs, mro, ns, qn, hdct, sn, sub, ab, col, hd⟩ := cd
      have m1 : mro = [.ref C, .type "object"] := of_decide_eq_true a2
      subst m1
      have m2 : hd = false := by simpa using a3
      subst m2
      have t1 : t = "type" := of_decide_eq_true a1
      subst t1
      have f1 : ((K.lookup (He.ma K C "__eq__")).map (·.cls) == some (Value.type "function")) = true := fn
      cases q : K.lookup (He.ma K C "__eq__") with
      | none => rw [q] at f1; cases f1
      | some of =>
        rw [q] at f1
        have f2 : of.cls = .type "function" := by
          have : (some of.cls == some (Value.type "function")) = true := f1
          simpa using this
        refine ⟨_, of, nm, qn, ns, bs, hdct, sn, sub, ab, col, dd, k0, k1, k2, k3, k5, n, nsFind es, _, hx, rfl, X _ _ hC, ⟨_, es, ep, X _ _ hN, rfl, ?_, fun _ => rfl⟩, ns_ok hN' (He.eqO_ok a5), X _ _ q, f2, PySem.F.cmp_object.mro, rfl, ns_no hN' (He.eqO_ok a6)⟩
        intro en hen
        have k := List.all_eq_true.mp a7 en (Array.mem_toList_iff.mpr hen)
        split at k
        · rename_i s tk z
          exact ⟨s, tk, z⟩
        · cases k
    · cases a7
  · cases e
end
end KB

set_option Elab.async false
set_option linter.all false
set_option maxRecDepth 100000
set_option maxHeartbeats 1000000
namespace KB
open PySem PySem.Spec PyProof.Rows L2 Oo Gd Am KA
section
variable {K : W.Frag} {C Z ZA : Addr} {h : Heap} {mg : Str → Option Value}
structure ErF (K : W.Frag) (Z : Addr) (E nw ini : String) (bm : List Value) (fld : Str) : Prop where
  ec : Ge.EC K Z (He.ma K Z "__init__") E nw ini bm [fld]
  ty : W.typeIn K (.ref Z) = some (.type "type")
  ga : W.findIn K (.ref Z) "__getattribute__" = some (some (.builtin "BaseException.__getattribute__"))
  gg : W.findIn K (.ref Z) "__getattr__" = some none
  cl : W.findIn K (.ref Z) "__class__" = some (some (.builtin "object.__class__"))
  no : W.findIn K (.ref Z) fld = some none
  sb : W.subIn K (.ref Z) (.type "BaseException") = some true
  ob : W.mroIn K Z (.type "object") = some true
abbrev ErA (K : W.Frag) (Z : Addr) : Prop := ErF K Z "ArithmeticError" "ArithmeticError.__new__" "ArithmeticError.__init__" bmZ "rule"
abbrev ErV (K : W.Frag) (Z : Addr) : Prop := ErF K Z "ValueError" "ValueError.__new__" "ValueError.__init__" bmV "value"
theorem err_okA {U : Addr} (e : errB K Z U bmZ "ArithmeticError.__new__" "rule" = true) : ErA K Z := by
  obtain ⟨a1, e⟩ := He.ba e
  obtain ⟨a2, e⟩ := He.ba e
  obtain ⟨a3, e⟩ := He.ba e
  obtain ⟨a4, e⟩ := He.ba e
  obtain ⟨a5, e⟩ := He.ba e
  obtain ⟨a6, e⟩ := He.ba e
  obtain ⟨a7, e⟩ := He.ba e
  obtain ⟨a8, e⟩ := He.ba e
  obtain ⟨a9, e⟩ := He.ba e
  obtain ⟨a10, e⟩ := He.ba e
  obtain ⟨a11, e⟩ := He.ba e
  obtain ⟨a12, e⟩ := He.ba e
  obtain ⟨a13, e⟩ := He.ba e
  obtain ⟨a14, e⟩ := He.ba e
  obtain ⟨a15, a16⟩ := He.ba e
  refine ⟨⟨PySem.F.excBase_ArithmeticError, PySem.F.store_ArithmeticError, a2, a3, a4, He.eqO_ok a7, of_decide_eq_true a8, He.eqO_ok a9, a5, fun f hf => ?_⟩, of_decide_eq_true a6, He.eqO_ok a10, He.eqO_ok a11, He.eqO_ok a12, He.eqO_ok a14, of_decide_eq_true a15, of_decide_eq_true a16⟩
  obtain rfl := List.mem_singleton.mp hf
  exact He.eqO_ok a13
theorem err_okV {U : Addr} (e : errB K Z U bmV "ValueError.__new__" "value" = true) : ErV K Z := by
  obtain ⟨a1, e⟩ := He.ba e
  obtain ⟨a2, e⟩ := He.ba e
  obtain ⟨a3, e⟩ := He.ba e
  obtain ⟨a4, e⟩ := He.ba e
  obtain ⟨a5, e⟩ := He.ba e
  obtain ⟨a6, e⟩ := He.ba e
  obtain ⟨a7, e⟩ := He.ba e
  obtain ⟨a8, e⟩ := He.ba e
  obtain ⟨a9, e⟩ := He.ba e
  obtain ⟨a10, e⟩ := He.ba e
  obtain ⟨a11, e⟩ := He.ba e
  obtain ⟨a12, e⟩ := He.ba e
  obtain ⟨a13, e⟩ := He.ba e
  obtain ⟨a14, e⟩ := He.ba e
  obtain ⟨a15, a16⟩ := He.ba e
  refine ⟨⟨PySem.F.excBase_ValueError, PySem.F.store_ValueError, a2, a3, a4, He.eqO_ok a7, of_decide_eq_true a8, He.eqO_ok a9, a5, fun f hf => ?_⟩, of_decide_eq_true a6, He.eqO_ok a10, He.eqO_ok a11, He.eqO_ok a12, He.eqO_ok a14, of_decide_eq_true a15, of_decide_eq_true a16⟩
  obtain rfl := List.mem_singleton.mp hf
  exact He.eqO_ok a13
theorem e1Z (z : ErA K Z) (F : ∃ fd, FunD K "__init__" "DividedByZero.__init__" (defArgs ze) (defBody ze) (defScope ze) [] [] (He.ma K Z "__init__") fd) : Ge.E1 K Z "rule" := by
  obtain ⟨fd, F⟩ := F
  obtain ⟨oc, od, dV, kV, doc, pm, an, cdv, ct, osl, rfl, lk, code, dfl, _⟩ := F.ex
  have hb : ∃ q1 q2 q3 q4, defBody ze = Ge.iBody1 "rule" q1 q2 q3 q4 := ⟨_, _, _, _, rfl⟩
  have hs : defScope ze = Ge.iScope ["self", "rule"] := rfl
  obtain ⟨q1, q2, q3, q4, hb⟩ := hb
  have e : dV = .none := by
    rcases dfl with ⟨_, e⟩ | ⟨e, _⟩
    · exact e
    · exact absurd rfl e
  subst e
  rw [hb, hs] at lk
  exact Ge.e1_of z.ec (List.mem_singleton.mpr rfl) code lk (fun x v => rfl) (fun x v => rfl)
theorem e1A (z : ErV K Z) (F : ∃ fd, FunD K "__init__" "InvalidAmount.__init__" (defArgs wa) (defBody wa) (defScope wa) [] [] (He.ma K Z "__init__") fd) : Ge.E1 K Z "value" := by
  obtain ⟨fd, F⟩ := F
  obtain ⟨oc, od, dV, kV, doc, pm, an, cdv, ct, osl, rfl, lk, code, dfl, _⟩ := F.ex
  have hb : ∃ q1 q2 q3 q4, defBody wa = Ge.iBody1 "value" q1 q2 q3 q4 := ⟨_, _, _, _, rfl⟩
  have hs : defScope wa = Ge.iScope ["self", "value"] := rfl
  obtain ⟨q1, q2, q3, q4, hb⟩ := hb
  have e : dV = .none := by
    rcases dfl with ⟨_, e⟩ | ⟨e, _⟩
    · exact e
    · exact absurd rfl e
  subst e
  rw [hb, hs] at lk
  exact Ge.e1_of z.ec (List.mem_singleton.mpr rfl) code lk (fun x v => rfl) (fun x v => rfl)
theorem e1C (z : ErV K Z) (F : ∃ fd, FunD K "__init__" "InvalidCount.__init__" (defArgs wc) (defBody wc) (defScope wc) [] [] (He.ma K Z "__init__") fd) : Ge.E1 K Z "value" := by
  obtain ⟨fd, F⟩ := F
  obtain ⟨oc, od, dV, kV, doc, pm, an, cdv, ct, osl, rfl, lk, code, dfl, _⟩ := F.ex
  have hb : ∃ q1 q2 q3 q4, defBody wc = Ge.iBody1 "value" q1 q2 q3 q4 := ⟨_, _, _, _, rfl⟩
  have hs : defScope wc = Ge.iScope ["self", "value"] := rfl
  obtain ⟨q1, q2, q3, q4, hb⟩ := hb
  have e : dV = .none := by
    rcases dfl with ⟨_, e⟩ | ⟨e, _⟩
    · exact e
    · exact absurd rfl e
  subst e
  rw [hb, hs] at lk
  exact Ge.e1_of z.ec (List.mem_singleton.mpr rfl) code lk (fun x v => rfl) (fun x v => rfl)
theorem zr_of (z : ErA K Z) (e1 : Ge.E1 K Z "rule") (mgZ : mg "DividedByZero" = some (.ref Z)) : KA.Zr K mg Z := ⟨e1, mgZ, fun {X} h => raises_own (by rw [h]; exact z.sb) (by rw [h]; exact z.ty)⟩
theorem wr_of {x : Str} (z : ErV K Z) (e1 : Ge.E1 K Z "value") (mgZ : mg x = some (.ref Z)) : Wr K mg x Z := ⟨e1, mgZ, fun {X} h => raises_own (by rw [h]; exact z.sb) (by rw [h]; exact z.ty)⟩
structure ClsF (K : W.Frag) (C : Addr) : Prop where
  ha : W.findIn K (.ref C) "__class__" = some (some (.builtin "object.__class__"))
  hn : W.specialIn K (.builtin "object.__class__") "__get__" = some (some (.builtin "getset_descriptor.__get__"))
  tk : W.takesIn K (.builtin "object.__class__") = some true
  ob : W.mroIn K C (.type "object") = some true
  me : W.kitOne K (.ref C) (.ref C) = some true
  kI : W.kitOne K (.type "int") (.ref C) = some false
theorem cls_ok (e : clsB K C = true) : ClsF K C := by
  obtain ⟨a1, e⟩ := He.ba e
  obtain ⟨a2, e⟩ := He.ba e
  obtain ⟨a3, e⟩ := He.ba e
  obtain ⟨a4, e⟩ := He.ba e
  obtain ⟨a5, a6⟩ := He.ba e
  exact ⟨He.eqO_ok a1, He.eqO_ok a2, of_decide_eq_true a3, of_decide_eq_true a4, of_decide_eq_true a5, of_decide_eq_true a6⟩
theorem er_of {E nw ini : String} {bm : List Value} {fld : Str} (z : ErF K Z E nw ini bm fld) (c : ClsF K C) : Er K Z fld := ⟨⟨z.ga, z.gg, z.sb, z.ec.hd⟩, z.no, ⟨z.ga, z.gg, z.sb, z.ec.hd, z.cl, z.ob, c.hn, c.tk⟩⟩
theorem tq_of {WA WC ZF : Addr} (t : tqB K Z ZA ZF WA WC = true) (c : ClsF K C) (z : ErA K Z) (a : ErV K WA) (b : ErV K WC) (mZ : mg "DividedByZero" = some (.ref Z)) (mA : mg "InvalidAmount" = some (.ref WA)) (mC : mg "InvalidCount" = some (.ref WC)) (mZA : mg "AmountError" = some (.ref ZA)) (mZF : mg "FormError" = some (.ref ZF)) : Tq K mg Z WA WC ZA ZF := by
  obtain ⟨b1, t⟩ := He.ba t
  obtain ⟨b2, t⟩ := He.ba t
  obtain ⟨b3, t⟩ := He.ba t
  obtain ⟨b4, t⟩ := He.ba t
  obtain ⟨b5, t⟩ := He.ba t
  obtain ⟨b6, t⟩ := He.ba t
  obtain ⟨b7, t⟩ := He.ba t
  obtain ⟨b8, b9⟩ := He.ba t
  exact ⟨mZ, mA, mC, mZA, mZF, er_of z c, er_of a c, er_of b c, of_decide_eq_true b1, of_decide_eq_true b2, of_decide_eq_true b3, of_decide_eq_true b4, of_decide_eq_true b5, of_decide_eq_true b6, of_decide_eq_true b7, of_decide_eq_true b8, of_decide_eq_true b9⟩
theorem cl2_of (cl : Cls K C) (c : ClsF K C) : Cl2 K C := ⟨⟨cl, c.ha, c.hn, c.tk, c.ob, c.me⟩, c.kI⟩
end
/-! ### how a def binds what it is called with, by keywords too -/
section
variable {K : W.Frag} {x qual : Str} {st : Stmt} {f : Addr} {fd : FuncData}
theorem kbn_of {n : Nat} {ps ks : List Str} {g : List Value → List Value → List Value} {gV : List V → List V → List V} (F : FunD K x qual (defArgs st) (defBody st) (defScope st) [] [] f fd)
    (h : ∀ (kV doc pm : Value) (an : Option Addr) (cdv ct : Value) (us ws : List Value), us.length = n → ws.length = ks.length → bindArgs (W.fnOf x qual (defArgs st) (defBody st) (defScope st) .none kV doc pm an cdv ct) ⟨us, ks.zip ws⟩ = pure (ps.zip (g us ws)))
    (hr : ∀ {vs : List V} {us : List Value} {zs : List V} {ws : List Value}, Vals vs us → Vals zs ws → Vals (gV vs zs) (g us ws)) : KBn K fd ps n ks g gV := by
  obtain ⟨oc, od, dV, kV, doc, pm, an, cdv, ct, osl, rfl, lk, hcd, hD, hK⟩ := F.ex
  rcases hD with ⟨_, rfl⟩ | ⟨e, _⟩
  · exact ⟨fun s us ws _ l1 l2 => .of_eq (h kV doc pm an cdv ct us ws l1 l2), hr⟩
  · exact absurd rfl e
theorem fun_of'' (F : FunD K x qual (defArgs st) (defBody st) (defScope st) [] [] f fd) : Fun K x qual st f fd := He5.fun_of F
theorem vals_rev : ∀ {vs : List V} {us : List Value}, Vals vs us → Vals vs.reverse us.reverse
  | _, _, .nil => .nil
  | _, _, .cons h r => by
    rw [List.reverse_cons, List.reverse_cons]
    exact (vals_rev r).append (.cons h .nil)
theorem kb_other (F : FunD K "over" "Amount.over" (defArgs (am 12)) (defBody (am 12)) (defScope (am 12)) [] [] f fd) : KBn K fd ["self", "other"] 1 [("other" : Str)] (fun us ws => us ++ ws) (fun us ws => us ++ ws) :=
  kbn_of F (fun kV doc pm an cdv ct us ws l1 l2 => by
    match us, l1, ws, l2 with
    | [a], _, [b], _ => rfl) fun a b => a.append b
theorem kb_round (F : FunD K "rounded" "Amount.rounded" (defArgs (am 28)) (defBody (am 28)) (defScope (am 28)) [] [] f fd) : KBn K fd ["self", "places"] 1 [("places" : Str)] (fun us ws => us ++ ws) (fun us ws => us ++ ws) :=
  kbn_of F (fun kV doc pm an cdv ct us ws l1 l2 => by
    match us, l1, ws, l2 with
    | [a], _, [b], _ => rfl) fun a b => a.append b
/-- Amount(n, d) | Amount(n) | Amount(bottom = d, top = n) -/
theorem init_binds (F : FunI K f fd) : Binds K fd ["self", "top", "bottom"] [] ∧ (∃ ds, Vals [V.int 1] ds ∧ Binds K fd ["self", "top", "bottom"] ds) ∧ KBn K fd ["self", "top", "bottom"] 1 [("bottom" : Str), "top"] (fun us ws => us ++ ws.reverse) (fun us ws => us ++ ws.reverse) := by
  refine ⟨?_, ?_, ?_⟩
  · obtain ⟨ds, v, b⟩ := F.binds1 (ps := ["self", "top", "bottom"]) 3 1 (by decide) (by decide) (fun T kV doc pm an cdv ct us its l1 l2 => by
      match us, l1, its, l2 with
      | [a, b, c], _, [d], _ => exact ⟨_, rfl, rfl⟩)
    cases v
    exact b
  · exact F.binds1 (ps := ["self", "top", "bottom"]) 2 0 (by decide) (by decide) (fun T kV doc pm an cdv ct us its l1 l2 => by
      match us, l1, its, l2 with
      | [a, b], _, [c], _ => exact ⟨_, rfl, rfl⟩)
  · obtain ⟨its, k⟩ := F.kbindsD (ps := ["self", "top", "bottom"]) 1 [("bottom" : Str), "top"] (fun us _ ws => us ++ ws.reverse) (by decide) (fun a _ b => a.append (vals_rev b)) (fun T kV doc pm an cdv ct us its ws l1 l2 l3 => by
      match us, l1, its, l2, ws, l3 with
      | [a], _, [c], _, [d, e], _ => exact ⟨_, rfl, rfl⟩)
    exact k
end
end KB

set_option Elab.async false
set_option linter.all false
set_option maxRecDepth 100000
set_option maxHeartbeats 4000000
namespace KB
open PySem PySem.Spec PyProof.Rows L2 Oo Gd Am KA
theorem factM {K : W.Frag} (c : He5.SaysA fa fn K) {f : He.Fa} (h : f ∈ fa) : f.ok K = true := by
  have c1 := (He.ba (show ((fa.all fun f => f.ok K) && fn.all fun d => d.ok K) = true from congrArg (fun z : He.AlD => z.1) c)).1
  exact List.all_eq_true.mp c1 f h
theorem facts {P : Program} {w : World} {K : W.Frag} {h : Heap} {mg : Str → Option Value} (X : K.In h) (G : h.Ns mainGlobals mg) (S : SayK h K) :
    mg ("law" : Str) = some (.ref (He.ga K "law")) ∧ ∃ fd : FuncData, (∀ (s : Shared) (v : Value), BindsTo s fd ⟨[v], []⟩ [("_law_script", v)]) ∧
      ∀ base : Heap, K.In base → base.Ns mainGlobals mg → base.NoDigits → (∀ p ∈ (TT3 K).map (·.1), LamX.TabB base mg (cf K p) p) → FnG P w K mg base CX0 13 (He.ga K "law") fd ["_law_script"] (spLaw K (TT3 K)) := by
  have fr : Frees mg := ⟨fun x hx => He.free_ok X G (factM S.a (f := .free x) (List.mem_append_right _ (List.mem_append_left _ (List.mem_map_of_mem (List.contains_iff_mem.mp hx)))))⟩
  have gw : ∀ x, (ownNames ++ lawNames ++ [("law" : Str)]).contains x = true → mg x = some (.ref (He.ga K x)) := fun x hx => He.glo_ok X G (factM S.a (f := .glo x) (List.mem_append_left _ (List.mem_map_of_mem (List.contains_iff_mem.mp hx))))
  obtain ⟨tk1, mP⟩ := He.int_ok X G (S.a.fact 52 (f := .int "MOST_POWER" 12) rfl)
  obtain ⟨tk2, mQ⟩ := He.int_ok X G (S.a.fact 53 (f := .int "MOST_PLACES" 12) rfl)
  have cls := He.cls_ok (S.a.fact 54 (f := .cls "Amount") rfl)
  have T : Cl K (kC K) := ⟨cls, He.noat_ok (S.a.fact 55 (f := .noat "Amount" "_top") rfl), He.noat_ok (S.a.fact 56 (f := .noat "Amount" "_bottom") rfl)⟩
  have mOver := He.meth_ok (S.a.fact 57 (f := .meth "Amount" "over") rfl)
  have mRnd := He.meth_ok (S.a.fact 58 (f := .meth "Amount" "rounded") rfl)
  have mMk := He.mkr_ok (S.a.fact 59 (f := .mkr "Amount") rfl)
  obtain ⟨x1, ex⟩ := He.ba S.ex
  obtain ⟨x2, ex⟩ := He.ba ex
  obtain ⟨x3, ex⟩ := He.ba ex
  obtain ⟨x4, ex⟩ := He.ba ex
  obtain ⟨x5, ex⟩ := He.ba ex
  obtain ⟨x6, ex⟩ := He.ba ex
  obtain ⟨x7, ex⟩ := He.ba ex
  obtain ⟨x8, ex⟩ := He.ba ex
  obtain ⟨x9, ex⟩ := He.ba ex
  obtain ⟨x10, ex⟩ := He.ba ex
  obtain ⟨x11, ex⟩ := He.ba ex
  obtain ⟨x12, x13⟩ := He.ba ex
  have mG : mg "gcd" = some (.builtin "math.gcd") := W.mg_of X G (He.eqO_ok x13)
  have bin : ∀ nm, nm ∈ op5 → OwnBin K (kC K) nm (He.ma K (kC K) (PySem.dunder nm)) (some (He.ma K (kC K) (dunderR nm))) ∧ NoIn K (kC K) nm := fun nm hn =>
    let ⟨a, b⟩ := He.ba (List.all_eq_true.mp x1 nm hn)
    ⟨bin_ok a, no_ok x3 b⟩
  have una : ∀ m, m ∈ six → W.findIn K (.ref (kC K)) (Str.ofString m) = some (some (.ref (He.ma K (kC K) (Str.ofString m)))) ∧ W.isFn K (.ref (He.ma K (kC K) (Str.ofString m))) = true := fun m hm => una_ok (List.all_eq_true.mp x4 m hm)
  have prp : ∀ m, m ∈ (["top", "bottom", "sign"] : List String) → PropOf K (kC K) (Str.ofString m) (He.ma K (kC K) (Str.ofString m)) (He5.wf K (kC K) "property" (Str.ofString m)) := fun m hm => prop_ok (List.all_eq_true.mp x5 m hm)
  have sm := smet_ok x6
  have cr := (stat_ok x6).1
  have cF := cls_ok x8
  have zF := err_okA x9
  have aF := err_okV x10
  have nF := err_okV x11
  have T2 : Cl2 K (kC K) := cl2_of cls cF
  have pl : Plain K (kC K) := mro_ok x3
  have kc : Kc K (kC K) := ⟨by obtain ⟨cd, e, _⟩ := pl; rw [e]; rfl, (stat_ok x6).2.2.1, pl⟩
  have gA := gw "Amount" (by decide +kernel)
  have gZ := gw "DividedByZero" (by decide +kernel)
  have gZA := gw "AmountError" (by decide +kernel)
  have gZF := gw "FormError" (by decide +kernel)
  have gWA := gw "InvalidAmount" (by decide +kernel)
  have gWC := gw "InvalidCount" (by decide +kernel)
  have zr : KA.Zr K mg (kZ K) := zr_of zF (e1Z zF (S.a.def_ 50 (d := ⟨fun K => He.ma K (kZ K) "__init__", "__init__", "DividedByZero.__init__", defArgs ze, defBody ze, defScope ze, [], []⟩) rfl)) gZ
  have wrA : Wr K mg "InvalidAmount" (kWA K) := wr_of aF (e1A aF (S.a.def_ 51 (d := ⟨fun K => He.ma K (kWA K) "__init__", "__init__", "InvalidAmount.__init__", defArgs wa, defBody wa, defScope wa, [], []⟩) rfl)) gWA
  have wrC : Wr K mg "InvalidCount" (kWC K) := wr_of nF (e1C nF (S.a.def_ 52 (d := ⟨fun K => He.ma K (kWC K) "__init__", "__init__", "InvalidCount.__init__", defArgs wc, defBody wc, defScope wc, [], []⟩) rfl)) gWC
  have tq : Tq K mg (kZ K) (kWA K) (kWC K) (kZA K) (kZF K) := tq_of x12 cF zF aF nF gZ gWA gWC gZA gZF
  obtain ⟨d1, d2⟩ := He.ba S.di
  obtain ⟨d2, d3⟩ := He.ba d2
  have n1 : pZ K ≠ pO K := of_decide_eq_true d1
  have n2 : pZ K ≠ pR K := of_decide_eq_true d2
  have n3 : pO K ≠ pR K := of_decide_eq_true d3
  obtain ⟨d_is_whole, E_is_whole⟩ := S.a.def_ 0 (d := dOf "is_whole" 9) rfl
  have E_is_whole : FunD K "is_whole" "is_whole" (defArgs (top 9)) (defBody (top 9)) (defScope (top 9)) [] [] (He.ga K "is_whole") d_is_whole := E_is_whole
  have F_is_whole : Fun K "is_whole" "is_whole" (top 9) (He.ga K "is_whole") d_is_whole := He5.fun_of E_is_whole
  have b_is_whole : Binds K d_is_whole ["value"] [] := E_is_whole.bindsN (ps := ["value"]) (fun kV doc pm an cdv ct us l => by
    match us, l with
    | [a], _ => rfl)
  obtain ⟨d_is_count, E_is_count⟩ := S.a.def_ 1 (d := dOf "is_count" 10) rfl
  have E_is_count : FunD K "is_count" "is_count" (defArgs (top 10)) (defBody (top 10)) (defScope (top 10)) [] [] (He.ga K "is_count") d_is_count := E_is_count
  have F_is_count : Fun K "is_count" "is_count" (top 10) (He.ga K "is_count") d_is_count := He5.fun_of E_is_count
  have b_is_count : Binds K d_is_count ["value"] [] := E_is_count.bindsN (ps := ["value"]) (fun kV doc pm an cdv ct us l => by
    match us, l with
    | [a], _ => rfl)
  obtain ⟨d_pot, E_pot⟩ := S.a.def_ 2 (d := dOf "_law_pot" 19) rfl
  have E_pot : FunD K "_law_pot" "_law_pot" (defArgs (top 19)) (defBody (top 19)) (defScope (top 19)) [] [] (He.ga K "_law_pot") d_pot := E_pot
  have F_pot : Fun K "_law_pot" "_law_pot" (top 19) (He.ga K "_law_pot") d_pot := He5.fun_of E_pot
  have b_pot : Binds K d_pot ["_law_script", "_law_k"] [] := E_pot.bindsN (ps := ["_law_script", "_law_k"]) (fun kV doc pm an cdv ct us l => by
    match us, l with
    | [a, b], _ => rfl)
  obtain ⟨d_draw, E_draw⟩ := S.a.def_ 3 (d := dOf "_law_draw" 20) rfl
  have E_draw : FunD K "_law_draw" "_law_draw" (defArgs (top 20)) (defBody (top 20)) (defScope (top 20)) [] [] (He.ga K "_law_draw") d_draw := E_draw
  have F_draw : Fun K "_law_draw" "_law_draw" (top 20) (He.ga K "_law_draw") d_draw := He5.fun_of E_draw
  have b_draw : Binds K d_draw ["_law_pot_here", "_law_sides"] [] := E_draw.bindsN (ps := ["_law_pot_here", "_law_sides"]) (fun kV doc pm an cdv ct us l => by
    match us, l with
    | [a, b], _ => rfl)
  obtain ⟨d_pick, E_pick⟩ := S.a.def_ 4 (d := dOf "_law_pick" 21) rfl
  have E_pick : FunD K "_law_pick" "_law_pick" (defArgs (top 21)) (defBody (top 21)) (defScope (top 21)) [] [] (He.ga K "_law_pick") d_pick := E_pick
  have F_pick : Fun K "_law_pick" "_law_pick" (top 21) (He.ga K "_law_pick") d_pick := He5.fun_of E_pick
  have b_pick : Binds K d_pick ["_law_pot_here", "_law_some"] [] := E_pick.bindsN (ps := ["_law_pot_here", "_law_some"]) (fun kV doc pm an cdv ct us l => by
    match us, l with
    | [a, b], _ => rfl)
  obtain ⟨d_lowest, E_lowest⟩ := S.a.def_ 5 (d := dOf "_law_lowest" 22) rfl
  have E_lowest : FunD K "_law_lowest" "_law_lowest" (defArgs (top 22)) (defBody (top 22)) (defScope (top 22)) [] [] (He.ga K "_law_lowest") d_lowest := E_lowest
  have F_lowest : Fun K "_law_lowest" "_law_lowest" (top 22) (He.ga K "_law_lowest") d_lowest := He5.fun_of E_lowest
  have b_lowest : Binds K d_lowest ["_law_high", "_law_low"] [] := E_lowest.bindsN (ps := ["_law_high", "_law_low"]) (fun kV doc pm an cdv ct us l => by
    match us, l with
    | [a, b], _ => rfl)
  obtain ⟨d_great, E_great⟩ := S.a.def_ 6 (d := dOf "_law_great" 23) rfl
  have E_great : FunD K "_law_great" "_law_great" (defArgs (top 23)) (defBody (top 23)) (defScope (top 23)) [] [] (He.ga K "_law_great") d_great := E_great
  have F_great : Fun K "_law_great" "_law_great" (top 23) (He.ga K "_law_great") d_great := He5.fun_of E_great
  have b_great : Binds K d_great ["_law_pot_here"] [] := E_great.bindsN (ps := ["_law_pot_here"]) (fun kV doc pm an cdv ct us l => by
    match us, l with
    | [a], _ => rfl)
  obtain ⟨d_beside, E_beside⟩ := S.a.def_ 7 (d := dOf "_law_beside" 24) rfl
  have E_beside : FunD K "_law_beside" "_law_beside" (defArgs (top 24)) (defBody (top 24)) (defScope (top 24)) [] [] (He.ga K "_law_beside") d_beside := E_beside
  have F_beside : Fun K "_law_beside" "_law_beside" (top 24) (He.ga K "_law_beside") d_beside := He5.fun_of E_beside
  have b_beside : Binds K d_beside ["_law_pot_here", "_law_near"] [] := E_beside.bindsN (ps := ["_law_pot_here", "_law_near"]) (fun kV doc pm an cdv ct us l => by
    match us, l with
    | [a, b], _ => rfl)
  obtain ⟨d_is_less, E_is_less⟩ := S.a.def_ 8 (d := dOf "_law_is_less" 25) rfl
  have E_is_less : FunD K "_law_is_less" "_law_is_less" (defArgs (top 25)) (defBody (top 25)) (defScope (top 25)) [] [] (He.ga K "_law_is_less") d_is_less := E_is_less
  have F_is_less : Fun K "_law_is_less" "_law_is_less" (top 25) (He.ga K "_law_is_less") d_is_less := He5.fun_of E_is_less
  have b_is_less : Binds K d_is_less ["_law_near", "_law_far"] [] := E_is_less.bindsN (ps := ["_law_near", "_law_far"]) (fun kV doc pm an cdv ct us l => by
    match us, l with
    | [a, b], _ => rfl)
  obtain ⟨d_amount, E_amount⟩ := S.a.def_ 9 (d := dOf "_law_amount" 26) rfl
  have E_amount : FunD K "_law_amount" "_law_amount" (defArgs (top 26)) (defBody (top 26)) (defScope (top 26)) [] [] (He.ga K "_law_amount") d_amount := E_amount
  have F_amount : Fun K "_law_amount" "_law_amount" (top 26) (He.ga K "_law_amount") d_amount := He5.fun_of E_amount
  have b_amount : Binds K d_amount ["_law_part"] [] := E_amount.bindsN (ps := ["_law_part"]) (fun kV doc pm an cdv ct us l => by
    match us, l with
    | [a], _ => rfl)
  obtain ⟨d_shape, E_shape⟩ := S.a.def_ 10 (d := dOf "_law_shape" 27) rfl
  have E_shape : FunD K "_law_shape" "_law_shape" (defArgs (top 27)) (defBody (top 27)) (defScope (top 27)) [] [] (He.ga K "_law_shape") d_shape := E_shape
  have F_shape : Fun K "_law_shape" "_law_shape" (top 27) (He.ga K "_law_shape") d_shape := He5.fun_of E_shape
  have b_shape : Binds K d_shape ["_law_high", "_law_low"] [] := E_shape.bindsN (ps := ["_law_high", "_law_low"]) (fun kV doc pm an cdv ct us l => by
    match us, l with
    | [a, b], _ => rfl)
  obtain ⟨d_told, E_told⟩ := S.a.def_ 11 (d := dOf "_law_told" 28) rfl
  have E_told : FunD K "_law_told" "_law_told" (defArgs (top 28)) (defBody (top 28)) (defScope (top 28)) [] [] (He.ga K "_law_told") d_told := E_told
  have F_told : Fun K "_law_told" "_law_told" (top 28) (He.ga K "_law_told") d_told := He5.fun_of E_told
  have b_told : Binds K d_told ["_law_call"] [] := E_told.bindsN (ps := ["_law_call"]) (fun kV doc pm an cdv ct us l => by
    match us, l with
    | [a], _ => rfl)
  obtain ⟨d_pair_right, E_pair_right⟩ := S.a.def_ 12 (d := dOf "_law_pair_right" 29) rfl
  have E_pair_right : FunD K "_law_pair_right" "_law_pair_right" (defArgs (top 29)) (defBody (top 29)) (defScope (top 29)) [] [] (He.ga K "_law_pair_right") d_pair_right := E_pair_right
  have F_pair_right : Fun K "_law_pair_right" "_law_pair_right" (top 29) (He.ga K "_law_pair_right") d_pair_right := He5.fun_of E_pair_right
  have b_pair_right : Binds K d_pair_right ["_law_near", "_law_far"] [] := E_pair_right.bindsN (ps := ["_law_near", "_law_far"]) (fun kV doc pm an cdv ct us l => by
    match us, l with
    | [a, b], _ => rfl)
  obtain ⟨d_rest_right, E_rest_right⟩ := S.a.def_ 13 (d := dOf "_law_rest_right" 30) rfl
  have E_rest_right : FunD K "_law_rest_right" "_law_rest_right" (defArgs (top 30)) (defBody (top 30)) (defScope (top 30)) [] [] (He.ga K "_law_rest_right") d_rest_right := E_rest_right
  have F_rest_right : Fun K "_law_rest_right" "_law_rest_right" (top 30) (He.ga K "_law_rest_right") d_rest_right := He5.fun_of E_rest_right
  have b_rest_right : Binds K d_rest_right ["_law_near", "_law_far"] [] := E_rest_right.bindsN (ps := ["_law_near", "_law_far"]) (fun kV doc pm an cdv ct us l => by
    match us, l with
    | [a, b], _ => rfl)
  obtain ⟨d_by_zero_right, E_by_zero_right⟩ := S.a.def_ 14 (d := dOf "_law_by_zero_right" 31) rfl
  have E_by_zero_right : FunD K "_law_by_zero_right" "_law_by_zero_right" (defArgs (top 31)) (defBody (top 31)) (defScope (top 31)) [] [] (He.ga K "_law_by_zero_right") d_by_zero_right := E_by_zero_right
  have F_by_zero_right : Fun K "_law_by_zero_right" "_law_by_zero_right" (top 31) (He.ga K "_law_by_zero_right") d_by_zero_right := He5.fun_of E_by_zero_right
  have b_by_zero_right : Binds K d_by_zero_right ["_law_near"] [] := E_by_zero_right.bindsN (ps := ["_law_near"]) (fun kV doc pm an cdv ct us l => by
    match us, l with
    | [a], _ => rfl)
  obtain ⟨d_powr, E_powr⟩ := S.a.def_ 15 (d := dOf "_law_power" 32) rfl
  have E_powr : FunD K "_law_power" "_law_power" (defArgs (top 32)) (defBody (top 32)) (defScope (top 32)) [] [] (He.ga K "_law_power") d_powr := E_powr
  have F_powr : Fun K "_law_power" "_law_power" (top 32) (He.ga K "_law_power") d_powr := He5.fun_of E_powr
  have b_powr : Binds K d_powr ["_law_base", "_law_size"] [] := E_powr.bindsN (ps := ["_law_base", "_law_size"]) (fun kV doc pm an cdv ct us l => by
    match us, l with
    | [a, b], _ => rfl)
  obtain ⟨d_decimal, E_decimal⟩ := S.a.def_ 16 (d := dOf "_law_decimal" 33) rfl
  have E_decimal : FunD K "_law_decimal" "_law_decimal" (defArgs (top 33)) (defBody (top 33)) (defScope (top 33)) [] [] (He.ga K "_law_decimal") d_decimal := E_decimal
  have F_decimal : Fun K "_law_decimal" "_law_decimal" (top 33) (He.ga K "_law_decimal") d_decimal := He5.fun_of E_decimal
  have b_decimal : Binds K d_decimal ["_law_near", "_law_size"] [] := E_decimal.bindsN (ps := ["_law_near", "_law_size"]) (fun kV doc pm an cdv ct us l => by
    match us, l with
    | [a, b], _ => rfl)
  obtain ⟨d_shown_right, E_shown_right⟩ := S.a.def_ 17 (d := dOf "_law_shown_right" 34) rfl
  have E_shown_right : FunD K "_law_shown_right" "_law_shown_right" (defArgs (top 34)) (defBody (top 34)) (defScope (top 34)) [] [] (He.ga K "_law_shown_right") d_shown_right := E_shown_right
  have F_shown_right : Fun K "_law_shown_right" "_law_shown_right" (top 34) (He.ga K "_law_shown_right") d_shown_right := He5.fun_of E_shown_right
  have b_shown_right : Binds K d_shown_right ["_law_near", "_law_size"] [] := E_shown_right.bindsN (ps := ["_law_near", "_law_size"]) (fun kV doc pm an cdv ct us l => by
    match us, l with
    | [a, b], _ => rfl)
  obtain ⟨d_odd_right, E_odd_right⟩ := S.a.def_ 18 (d := dOf "_law_odd_right" 35) rfl
  have E_odd_right : FunD K "_law_odd_right" "_law_odd_right" (defArgs (top 35)) (defBody (top 35)) (defScope (top 35)) [] [] (He.ga K "_law_odd_right") d_odd_right := E_odd_right
  have F_odd_right : Fun K "_law_odd_right" "_law_odd_right" (top 35) (He.ga K "_law_odd_right") d_odd_right := He5.fun_of E_odd_right
  have b_odd_right : Binds K d_odd_right ["_law_near", "_law_odd"] [] := E_odd_right.bindsN (ps := ["_law_near", "_law_odd"]) (fun kV doc pm an cdv ct us l => by
    match us, l with
    | [a, b], _ => rfl)
  obtain ⟨d_least, E_least⟩ := S.a.def_ 19 (d := dOf "_law_least" 36) rfl
  have E_least : FunD K "_law_least" "_law_least" (defArgs (top 36)) (defBody (top 36)) (defScope (top 36)) [] [] (He.ga K "_law_least") d_least := E_least
  have F_least : Fun K "_law_least" "_law_least" (top 36) (He.ga K "_law_least") d_least := He5.fun_of E_least
  have b_least : Binds K d_least ["_law_some"] [] := E_least.bindsN (ps := ["_law_some"]) (fun kV doc pm an cdv ct us l => by
    match us, l with
    | [a], _ => rfl)
  obtain ⟨d_right, E_right⟩ := S.a.def_ 20 (d := dOf "_law_right" 37) rfl
  have E_right : FunD K "_law_right" "_law_right" (defArgs (top 37)) (defBody (top 37)) (defScope (top 37)) [] [] (He.ga K "_law_right") d_right := E_right
  have F_right : Fun K "_law_right" "_law_right" (top 37) (He.ga K "_law_right") d_right := He5.fun_of E_right
  have b_right : Binds K d_right ["_law_pot_here"] [] := E_right.bindsN (ps := ["_law_pot_here"]) (fun kV doc pm an cdv ct us l => by
    match us, l with
    | [a], _ => rfl)
  obtain ⟨d_law, E_law⟩ := S.a.def_ 21 (d := dOf "law" 38) rfl
  have E_law : FunD K "law" "law" (defArgs (top 38)) (defBody (top 38)) (defScope (top 38)) [] [] (He.ga K "law") d_law := E_law
  have F_law : Fun K "law" "law" (top 38) (He.ga K "law") d_law := He5.fun_of E_law
  have b_law : Binds K d_law ["_law_script"] [] := E_law.bindsN (ps := ["_law_script"]) (fun kV doc pm an cdv ct us l => by
    match us, l with
    | [a], _ => rfl)
  obtain ⟨d_init, F_init⟩ := S.a.def_ 22 (d := ⟨fun K => He.ma K (kC K) "__init__", "__init__", "Amount.__init__", defArgs (am 0), defBody (am 0), defScope (am 0), [.int 1], []⟩) rfl
  have FI : FunI K (He.ma K (kC K) "__init__") d_init := F_init
  obtain ⟨d_of, E_of⟩ := S.a.def_ 23 (d := pOf "staticmethod" "of" "Amount.of" 1) rfl
  have E_of : FunD K "of" "Amount.of" (defArgs (am 1)) (defBody (am 1)) (defScope (am 1)) [] [] (He5.wf K (kC K) "staticmethod" "of") d_of := E_of
  have F_of : Fun K "of" "Amount.of" (am 1) (He5.wf K (kC K) "staticmethod" "of") d_of := He5.fun_of E_of
  have b_of : Binds K d_of ["number"] [] := E_of.bindsN (ps := ["number"]) (fun kV doc pm an cdv ct us l => by
    match us, l with
    | [a], _ => rfl)
  obtain ⟨d_top, E_top⟩ := S.a.def_ 24 (d := pOf "property" "top" "Amount.top" 3) rfl
  have E_top : FunD K "top" "Amount.top" (defArgs (am 3)) (defBody (am 3)) (defScope (am 3)) [] [] (He5.wf K (kC K) "property" "top") d_top := E_top
  have F_top : Fun K "top" "Amount.top" (am 3) (He5.wf K (kC K) "property" "top") d_top := He5.fun_of E_top
  have b_top : Binds K d_top ["self"] [] := E_top.bindsN (ps := ["self"]) (fun kV doc pm an cdv ct us l => by
    match us, l with
    | [a], _ => rfl)
  obtain ⟨d_bottom, E_bottom⟩ := S.a.def_ 25 (d := pOf "property" "bottom" "Amount.bottom" 4) rfl
  have E_bottom : FunD K "bottom" "Amount.bottom" (defArgs (am 4)) (defBody (am 4)) (defScope (am 4)) [] [] (He5.wf K (kC K) "property" "bottom") d_bottom := E_bottom
  have F_bottom : Fun K "bottom" "Amount.bottom" (am 4) (He5.wf K (kC K) "property" "bottom") d_bottom := He5.fun_of E_bottom
  have b_bottom : Binds K d_bottom ["self"] [] := E_bottom.bindsN (ps := ["self"]) (fun kV doc pm an cdv ct us l => by
    match us, l with
    | [a], _ => rfl)
  obtain ⟨d_sign, E_sign⟩ := S.a.def_ 26 (d := pOf "property" "sign" "Amount.sign" 5) rfl
  have E_sign : FunD K "sign" "Amount.sign" (defArgs (am 5)) (defBody (am 5)) (defScope (am 5)) [] [] (He5.wf K (kC K) "property" "sign") d_sign := E_sign
  have F_sign : Fun K "sign" "Amount.sign" (am 5) (He5.wf K (kC K) "property" "sign") d_sign := He5.fun_of E_sign
  have b_sign : Binds K d_sign ["self"] [] := E_sign.bindsN (ps := ["self"]) (fun kV doc pm an cdv ct us l => by
    match us, l with
    | [a], _ => rfl)
  obtain ⟨d_add, E_add⟩ := S.a.def_ 27 (d := mOf "__add__" "Amount.__add__" 6) rfl
  have E_add : FunD K "__add__" "Amount.__add__" (defArgs (am 6)) (defBody (am 6)) (defScope (am 6)) [] [] (He.ma K (kC K) "__add__") d_add := E_add
  have F_add : Fun K "__add__" "Amount.__add__" (am 6) (He.ma K (kC K) "__add__") d_add := He5.fun_of E_add
  have b_add : Binds K d_add ["self", "other"] [] := E_add.bindsN (ps := ["self", "other"]) (fun kV doc pm an cdv ct us l => by
    match us, l with
    | [a, b], _ => rfl)
  obtain ⟨d_radd, E_radd⟩ := S.a.def_ 28 (d := mOf "__radd__" "Amount.__radd__" 7) rfl
  have E_radd : FunD K "__radd__" "Amount.__radd__" (defArgs (am 7)) (defBody (am 7)) (defScope (am 7)) [] [] (He.ma K (kC K) "__radd__") d_radd := E_radd
  have F_radd : Fun K "__radd__" "Amount.__radd__" (am 7) (He.ma K (kC K) "__radd__") d_radd := He5.fun_of E_radd
  have b_radd : Binds K d_radd ["self", "other"] [] := E_radd.bindsN (ps := ["self", "other"]) (fun kV doc pm an cdv ct us l => by
    match us, l with
    | [a, b], _ => rfl)
  obtain ⟨d_sub, E_sub⟩ := S.a.def_ 29 (d := mOf "__sub__" "Amount.__sub__" 8) rfl
  have E_sub : FunD K "__sub__" "Amount.__sub__" (defArgs (am 8)) (defBody (am 8)) (defScope (am 8)) [] [] (He.ma K (kC K) "__sub__") d_sub := E_sub
  have F_sub : Fun K "__sub__" "Amount.__sub__" (am 8) (He.ma K (kC K) "__sub__") d_sub := He5.fun_of E_sub
  have b_sub : Binds K d_sub ["self", "other"] [] := E_sub.bindsN (ps := ["self", "other"]) (fun kV doc pm an cdv ct us l => by
    match us, l with
    | [a, b], _ => rfl)
  obtain ⟨d_rsub, E_rsub⟩ := S.a.def_ 30 (d := mOf "__rsub__" "Amount.__rsub__" 9) rfl
  have E_rsub : FunD K "__rsub__" "Amount.__rsub__" (defArgs (am 9)) (defBody (am 9)) (defScope (am 9)) [] [] (He.ma K (kC K) "__rsub__") d_rsub := E_rsub
  have F_rsub : Fun K "__rsub__" "Amount.__rsub__" (am 9) (He.ma K (kC K) "__rsub__") d_rsub := He5.fun_of E_rsub
  have b_rsub : Binds K d_rsub ["self", "other"] [] := E_rsub.bindsN (ps := ["self", "other"]) (fun kV doc pm an cdv ct us l => by
    match us, l with
    | [a, b], _ => rfl)
  obtain ⟨d_mul, E_mul⟩ := S.a.def_ 31 (d := mOf "__mul__" "Amount.__mul__" 10) rfl
  have E_mul : FunD K "__mul__" "Amount.__mul__" (defArgs (am 10)) (defBody (am 10)) (defScope (am 10)) [] [] (He.ma K (kC K) "__mul__") d_mul := E_mul
  have F_mul : Fun K "__mul__" "Amount.__mul__" (am 10) (He.ma K (kC K) "__mul__") d_mul := He5.fun_of E_mul
  have b_mul : Binds K d_mul ["self", "other"] [] := E_mul.bindsN (ps := ["self", "other"]) (fun kV doc pm an cdv ct us l => by
    match us, l with
    | [a, b], _ => rfl)
  obtain ⟨d_rmul, E_rmul⟩ := S.a.def_ 32 (d := mOf "__rmul__" "Amount.__rmul__" 11) rfl
  have E_rmul : FunD K "__rmul__" "Amount.__rmul__" (defArgs (am 11)) (defBody (am 11)) (defScope (am 11)) [] [] (He.ma K (kC K) "__rmul__") d_rmul := E_rmul
  have F_rmul : Fun K "__rmul__" "Amount.__rmul__" (am 11) (He.ma K (kC K) "__rmul__") d_rmul := He5.fun_of E_rmul
  have b_rmul : Binds K d_rmul ["self", "other"] [] := E_rmul.bindsN (ps := ["self", "other"]) (fun kV doc pm an cdv ct us l => by
    match us, l with
    | [a, b], _ => rfl)
  obtain ⟨d_over, E_over⟩ := S.a.def_ 33 (d := mOf "over" "Amount.over" 12) rfl
  have E_over : FunD K "over" "Amount.over" (defArgs (am 12)) (defBody (am 12)) (defScope (am 12)) [] [] (He.ma K (kC K) "over") d_over := E_over
  have F_over : Fun K "over" "Amount.over" (am 12) (He.ma K (kC K) "over") d_over := He5.fun_of E_over
  have b_over : Binds K d_over ["self", "other"] [] := E_over.bindsN (ps := ["self", "other"]) (fun kV doc pm an cdv ct us l => by
    match us, l with
    | [a, b], _ => rfl)
  obtain ⟨d_floordiv, E_floordiv⟩ := S.a.def_ 34 (d := mOf "__floordiv__" "Amount.__floordiv__" 13) rfl
  have E_floordiv : FunD K "__floordiv__" "Amount.__floordiv__" (defArgs (am 13)) (defBody (am 13)) (defScope (am 13)) [] [] (He.ma K (kC K) "__floordiv__") d_floordiv := E_floordiv
  have F_floordiv : Fun K "__floordiv__" "Amount.__floordiv__" (am 13) (He.ma K (kC K) "__floordiv__") d_floordiv := He5.fun_of E_floordiv
  have b_floordiv : Binds K d_floordiv ["self", "other"] [] := E_floordiv.bindsN (ps := ["self", "other"]) (fun kV doc pm an cdv ct us l => by
    match us, l with
    | [a, b], _ => rfl)
  obtain ⟨d_rfloordiv, E_rfloordiv⟩ := S.a.def_ 35 (d := mOf "__rfloordiv__" "Amount.__rfloordiv__" 14) rfl
  have E_rfloordiv : FunD K "__rfloordiv__" "Amount.__rfloordiv__" (defArgs (am 14)) (defBody (am 14)) (defScope (am 14)) [] [] (He.ma K (kC K) "__rfloordiv__") d_rfloordiv := E_rfloordiv
  have F_rfloordiv : Fun K "__rfloordiv__" "Amount.__rfloordiv__" (am 14) (He.ma K (kC K) "__rfloordiv__") d_rfloordiv := He5.fun_of E_rfloordiv
  have b_rfloordiv : Binds K d_rfloordiv ["self", "other"] [] := E_rfloordiv.bindsN (ps := ["self", "other"]) (fun kV doc pm an cdv ct us l => by
    match us, l with
    | [a, b], _ => rfl)
  obtain ⟨d_mod, E_mod⟩ := S.a.def_ 36 (d := mOf "__mod__" "Amount.__mod__" 15) rfl
  have E_mod : FunD K "__mod__" "Amount.__mod__" (defArgs (am 15)) (defBody (am 15)) (defScope (am 15)) [] [] (He.ma K (kC K) "__mod__") d_mod := E_mod
  have F_mod : Fun K "__mod__" "Amount.__mod__" (am 15) (He.ma K (kC K) "__mod__") d_mod := He5.fun_of E_mod
  have b_mod : Binds K d_mod ["self", "other"] [] := E_mod.bindsN (ps := ["self", "other"]) (fun kV doc pm an cdv ct us l => by
    match us, l with
    | [a, b], _ => rfl)
  obtain ⟨d_rmod, E_rmod⟩ := S.a.def_ 37 (d := mOf "__rmod__" "Amount.__rmod__" 16) rfl
  have E_rmod : FunD K "__rmod__" "Amount.__rmod__" (defArgs (am 16)) (defBody (am 16)) (defScope (am 16)) [] [] (He.ma K (kC K) "__rmod__") d_rmod := E_rmod
  have F_rmod : Fun K "__rmod__" "Amount.__rmod__" (am 16) (He.ma K (kC K) "__rmod__") d_rmod := He5.fun_of E_rmod
  have b_rmod : Binds K d_rmod ["self", "other"] [] := E_rmod.bindsN (ps := ["self", "other"]) (fun kV doc pm an cdv ct us l => by
    match us, l with
    | [a, b], _ => rfl)
  obtain ⟨d_pow, E_pow⟩ := S.a.def_ 38 (d := mOf "__pow__" "Amount.__pow__" 17) rfl
  have E_pow : FunD K "__pow__" "Amount.__pow__" (defArgs (am 17)) (defBody (am 17)) (defScope (am 17)) [] [] (He.ma K (kC K) "__pow__") d_pow := E_pow
  have F_pow : Fun K "__pow__" "Amount.__pow__" (am 17) (He.ma K (kC K) "__pow__") d_pow := He5.fun_of E_pow
  have b_pow : Binds K d_pow ["self", "other"] [] := E_pow.bindsN (ps := ["self", "other"]) (fun kV doc pm an cdv ct us l => by
    match us, l with
    | [a, b], _ => rfl)
  obtain ⟨d_neg, E_neg⟩ := S.a.def_ 39 (d := mOf "__neg__" "Amount.__neg__" 18) rfl
  have E_neg : FunD K "__neg__" "Amount.__neg__" (defArgs (am 18)) (defBody (am 18)) (defScope (am 18)) [] [] (He.ma K (kC K) "__neg__") d_neg := E_neg
  have F_neg : Fun K "__neg__" "Amount.__neg__" (am 18) (He.ma K (kC K) "__neg__") d_neg := He5.fun_of E_neg
  have b_neg : Binds K d_neg ["self"] [] := E_neg.bindsN (ps := ["self"]) (fun kV doc pm an cdv ct us l => by
    match us, l with
    | [a], _ => rfl)
  obtain ⟨d_abs, E_abs⟩ := S.a.def_ 40 (d := mOf "__abs__" "Amount.__abs__" 19) rfl
  have E_abs : FunD K "__abs__" "Amount.__abs__" (defArgs (am 19)) (defBody (am 19)) (defScope (am 19)) [] [] (He.ma K (kC K) "__abs__") d_abs := E_abs
  have F_abs : Fun K "__abs__" "Amount.__abs__" (am 19) (He.ma K (kC K) "__abs__") d_abs := He5.fun_of E_abs
  have b_abs : Binds K d_abs ["self"] [] := E_abs.bindsN (ps := ["self"]) (fun kV doc pm an cdv ct us l => by
    match us, l with
    | [a], _ => rfl)
  obtain ⟨d_bool, E_bool⟩ := S.a.def_ 41 (d := mOf "__bool__" "Amount.__bool__" 20) rfl
  have E_bool : FunD K "__bool__" "Amount.__bool__" (defArgs (am 20)) (defBody (am 20)) (defScope (am 20)) [] [] (He.ma K (kC K) "__bool__") d_bool := E_bool
  have F_bool : Fun K "__bool__" "Amount.__bool__" (am 20) (He.ma K (kC K) "__bool__") d_bool := He5.fun_of E_bool
  have b_bool : Binds K d_bool ["self"] [] := E_bool.bindsN (ps := ["self"]) (fun kV doc pm an cdv ct us l => by
    match us, l with
    | [a], _ => rfl)
  obtain ⟨d_eq, E_eq⟩ := S.a.def_ 42 (d := mOf "__eq__" "Amount.__eq__" 21) rfl
  have E_eq : FunD K "__eq__" "Amount.__eq__" (defArgs (am 21)) (defBody (am 21)) (defScope (am 21)) [] [] (He.ma K (kC K) "__eq__") d_eq := E_eq
  have F_eq : Fun K "__eq__" "Amount.__eq__" (am 21) (He.ma K (kC K) "__eq__") d_eq := He5.fun_of E_eq
  have b_eq : Binds K d_eq ["self", "other"] [] := E_eq.bindsN (ps := ["self", "other"]) (fun kV doc pm an cdv ct us l => by
    match us, l with
    | [a, b], _ => rfl)
  obtain ⟨d_lt, E_lt⟩ := S.a.def_ 43 (d := mOf "__lt__" "Amount.__lt__" 22) rfl
  have E_lt : FunD K "__lt__" "Amount.__lt__" (defArgs (am 22)) (defBody (am 22)) (defScope (am 22)) [] [] (He.ma K (kC K) "__lt__") d_lt := E_lt
  have F_lt : Fun K "__lt__" "Amount.__lt__" (am 22) (He.ma K (kC K) "__lt__") d_lt := He5.fun_of E_lt
  have b_lt : Binds K d_lt ["self", "other"] [] := E_lt.bindsN (ps := ["self", "other"]) (fun kV doc pm an cdv ct us l => by
    match us, l with
    | [a, b], _ => rfl)
  obtain ⟨d_le, E_le⟩ := S.a.def_ 44 (d := mOf "__le__" "Amount.__le__" 23) rfl
  have E_le : FunD K "__le__" "Amount.__le__" (defArgs (am 23)) (defBody (am 23)) (defScope (am 23)) [] [] (He.ma K (kC K) "__le__") d_le := E_le
  have F_le : Fun K "__le__" "Amount.__le__" (am 23) (He.ma K (kC K) "__le__") d_le := He5.fun_of E_le
  have b_le : Binds K d_le ["self", "other"] [] := E_le.bindsN (ps := ["self", "other"]) (fun kV doc pm an cdv ct us l => by
    match us, l with
    | [a, b], _ => rfl)
  obtain ⟨d_gt, E_gt⟩ := S.a.def_ 45 (d := mOf "__gt__" "Amount.__gt__" 24) rfl
  have E_gt : FunD K "__gt__" "Amount.__gt__" (defArgs (am 24)) (defBody (am 24)) (defScope (am 24)) [] [] (He.ma K (kC K) "__gt__") d_gt := E_gt
  have F_gt : Fun K "__gt__" "Amount.__gt__" (am 24) (He.ma K (kC K) "__gt__") d_gt := He5.fun_of E_gt
  have b_gt : Binds K d_gt ["self", "other"] [] := E_gt.bindsN (ps := ["self", "other"]) (fun kV doc pm an cdv ct us l => by
    match us, l with
    | [a, b], _ => rfl)
  obtain ⟨d_ge, E_ge⟩ := S.a.def_ 46 (d := mOf "__ge__" "Amount.__ge__" 25) rfl
  have E_ge : FunD K "__ge__" "Amount.__ge__" (defArgs (am 25)) (defBody (am 25)) (defScope (am 25)) [] [] (He.ma K (kC K) "__ge__") d_ge := E_ge
  have F_ge : Fun K "__ge__" "Amount.__ge__" (am 25) (He.ma K (kC K) "__ge__") d_ge := He5.fun_of E_ge
  have b_ge : Binds K d_ge ["self", "other"] [] := E_ge.bindsN (ps := ["self", "other"]) (fun kV doc pm an cdv ct us l => by
    match us, l with
    | [a, b], _ => rfl)
  obtain ⟨d_str, E_str⟩ := S.a.def_ 47 (d := mOf "__str__" "Amount.__str__" 26) rfl
  have E_str : FunD K "__str__" "Amount.__str__" (defArgs (am 26)) (defBody (am 26)) (defScope (am 26)) [] [] (He.ma K (kC K) "__str__") d_str := E_str
  have F_str : Fun K "__str__" "Amount.__str__" (am 26) (He.ma K (kC K) "__str__") d_str := He5.fun_of E_str
  have b_str : Binds K d_str ["self"] [] := E_str.bindsN (ps := ["self"]) (fun kV doc pm an cdv ct us l => by
    match us, l with
    | [a], _ => rfl)
  obtain ⟨d_repr, E_repr⟩ := S.a.def_ 48 (d := mOf "__repr__" "Amount.__repr__" 27) rfl
  have E_repr : FunD K "__repr__" "Amount.__repr__" (defArgs (am 27)) (defBody (am 27)) (defScope (am 27)) [] [] (He.ma K (kC K) "__repr__") d_repr := E_repr
  have F_repr : Fun K "__repr__" "Amount.__repr__" (am 27) (He.ma K (kC K) "__repr__") d_repr := He5.fun_of E_repr
  have b_repr : Binds K d_repr ["self"] [] := E_repr.bindsN (ps := ["self"]) (fun kV doc pm an cdv ct us l => by
    match us, l with
    | [a], _ => rfl)
  obtain ⟨d_rounded, E_rounded⟩ := S.a.def_ 49 (d := mOf "rounded" "Amount.rounded" 28) rfl
  have E_rounded : FunD K "rounded" "Amount.rounded" (defArgs (am 28)) (defBody (am 28)) (defScope (am 28)) [] [] (He.ma K (kC K) "rounded") d_rounded := E_rounded
  have F_rounded : Fun K "rounded" "Amount.rounded" (am 28) (He.ma K (kC K) "rounded") d_rounded := He5.fun_of E_rounded
  have b_rounded : Binds K d_rounded ["self", "places"] [] := E_rounded.bindsN (ps := ["self", "places"]) (fun kV doc pm an cdv ct us l => by
    match us, l with
    | [a, b], _ => rfl)
  obtain ⟨bI, bI1, bIk⟩ := init_binds FI
  have kOver := kb_other E_over
  have kRnd := kb_round E_rounded
  have FC_by_zero_right : FunC K "_law_by_zero_right" "_law_by_zero_right" (top 31) (He.ga K "_law_by_zero_right") (He.cT K ("_law_by_zero_right", none)).1 d_by_zero_right := by
    obtain ⟨oc, od, dV, kV, doc, pm, an, cdv, ct, osl, e, lk, code, dfl, _⟩ := E_by_zero_right.ex
    obtain ⟨c, rfl⟩ := He.codeIn_ref code
    have hc : He.codeOf K ("_law_by_zero_right", none) = c := He.codeOf_eq (p := ("_law_by_zero_right", none)) lk (by rw [e])
    have hc2 : (He.cT K ("_law_by_zero_right", none)).1 = c := hc
    have ed : dV = .none := by
      rcases dfl with ⟨_, e⟩ | ⟨e, _⟩
      · exact e
      · exact absurd rfl e
    subst ed
    rw [hc2]
    exact ⟨⟨oc, od, kV, doc, pm, an, ct, osl, e, lk, code⟩, E_by_zero_right.kp⟩
  have FC_odd_right : FunC K "_law_odd_right" "_law_odd_right" (top 35) (He.ga K "_law_odd_right") (He.cT K ("_law_odd_right", none)).1 d_odd_right := by
    obtain ⟨oc, od, dV, kV, doc, pm, an, cdv, ct, osl, e, lk, code, dfl, _⟩ := E_odd_right.ex
    obtain ⟨c, rfl⟩ := He.codeIn_ref code
    have hc : He.codeOf K ("_law_odd_right", none) = c := He.codeOf_eq (p := ("_law_odd_right", none)) lk (by rw [e])
    have hc2 : (He.cT K ("_law_odd_right", none)).1 = c := hc
    have ed : dV = .none := by
      rcases dfl with ⟨_, e⟩ | ⟨e, _⟩
      · exact e
      · exact absurd rfl e
    subst ed
    rw [hc2]
    exact ⟨⟨oc, od, kV, doc, pm, an, ct, osl, e, lk, code⟩, E_odd_right.kp⟩
  have FC_right : FunC K "_law_right" "_law_right" (top 37) (He.ga K "_law_right") (He.cT K ("_law_right", none)).1 d_right := by
    obtain ⟨oc, od, dV, kV, doc, pm, an, cdv, ct, osl, e, lk, code, dfl, _⟩ := E_right.ex
    obtain ⟨c, rfl⟩ := He.codeIn_ref code
    have hc : He.codeOf K ("_law_right", none) = c := He.codeOf_eq (p := ("_law_right", none)) lk (by rw [e])
    have hc2 : (He.cT K ("_law_right", none)).1 = c := hc
    have ed : dV = .none := by
      rcases dfl with ⟨_, e⟩ | ⟨e, _⟩
      · exact e
      · exact absurd rfl e
    subst ed
    rw [hc2]
    exact ⟨⟨oc, od, kV, doc, pm, an, ct, osl, e, lk, code⟩, E_right.kp⟩
  refine ⟨gw _ (by decide +kernel), d_law, fun s v => E_law.bindsA (ps := ["_law_script"]) (fun kV doc pm an cdv ct us l => by
    match us, l with
    | [a], _ => rfl) s [v] rfl, fun base XB GB nb TB => ?_⟩
  have tZ : LamX.TabB base mg (He.cT K ("_law_by_zero_right", none)).1 (pZ K) := by
    have t := TB (pZ K) (by simp)
    rwa [show cf K (pZ K) = (He.cT K ("_law_by_zero_right", none)).1 from if_pos rfl] at t
  have tO : LamX.TabB base mg (He.cT K ("_law_odd_right", none)).1 (pO K) := by
    have t := TB (pO K) (by simp)
    rwa [show cf K (pO K) = (He.cT K ("_law_odd_right", none)).1 from (if_neg (Ne.symm n1)).trans (if_pos rfl)] at t
  have tR : LamX.TabB base mg (He.cT K ("_law_right", none)).1 (pR K) := by
    have t := TB (pR K) (by simp)
    rwa [show cf K (pR K) = (He.cT K ("_law_right", none)).1 from (if_neg (Ne.symm n2)).trans (if_neg (Ne.symm n3))] at t
  have qZ : Tq1 (TT3 K) (pZ K) "_law_by_zero_right.<locals>.<lambda>" := ⟨List.mem_cons_self, fun x hx e => by
    simp only [List.mem_cons, List.not_mem_nil, or_false] at hx
    rcases hx with rfl | rfl | rfl
    · rfl
    · exact absurd e (Ne.symm n1)
    · exact absurd e (Ne.symm n2)⟩
  have qO : Tq1 (TT3 K) (pO K) "_law_odd_right.<locals>.<lambda>" := ⟨List.mem_cons_of_mem _ List.mem_cons_self, fun x hx e => by
    simp only [List.mem_cons, List.not_mem_nil, or_false] at hx
    rcases hx with rfl | rfl | rfl
    · exact absurd e n1
    · rfl
    · exact absurd e (Ne.symm n3)⟩
  have qR : Tq1 (TT3 K) (pR K) "_law_right.<locals>.<lambda>" := ⟨List.mem_cons_of_mem _ (List.mem_cons_of_mem _ List.mem_cons_self), fun x hx e => by
    simp only [List.mem_cons, List.not_mem_nil, or_false] at hx
    rcases hx with rfl | rfl | rfl
    · exact absurd e n2
    · exact absurd e n3
    · rfl⟩
  have DW : Dn P w K mg base CX0 1 "is_whole" ["value"] spWhole := ⟨_, d_is_whole, ok_whole fr F_is_whole, gw _ (by decide +kernel), F_is_whole.kp, b_is_whole⟩
  have DC : Dn P w K mg base CX0 2 "is_count" ["value"] spCount := ⟨_, d_is_count, ok_count DW F_is_count, gw _ (by decide +kernel), F_is_count.kp, b_is_count⟩
  have oI : FnOk P w K mg base CX0 2 (He.ma K (kC K) "__init__") d_init ["self", "top", "bottom"] (spInit (kC K)) := ok_init T DW mG FI
  have B : Base P w K mg base (kC K) := ⟨T, gA, ⟨_, d_init, mMk, oI, bI, bI1⟩, ⟨_, _, d_top, prp "top" (by decide), ok_top T F_top, b_top⟩, ⟨_, _, d_bottom, prp "bottom" (by decide), ok_bot T F_bottom, b_bottom⟩, ⟨_, _, d_sign, prp "sign" (by decide), ok_sgn T F_sign, b_sign⟩⟩
  have oOf := ok_of fr B T2 F_of
  have O : Of P w K mg base (kC K) := ⟨⟨_, _, _, d_of, cr, sm, oOf, b_of⟩⟩
  have N : Neg P w K mg base (kC K) := ⟨⟨_, d_neg, (una "__neg__" (by decide)).1, (una "__neg__" (by decide)).2, ok_neg T B F_neg, b_neg⟩⟩
  have Rp : Rep P w K mg base (kC K) := ⟨⟨_, d_repr, (una "__repr__" (by decide)).1, (una "__repr__" (by decide)).2, ok_repr nb fr T F_repr, b_repr⟩⟩
  have ab : Una P w K mg base (kC K) "__abs__" 4 (spUn (kC K) aq) := ⟨⟨_, d_abs, (una "__abs__" (by decide)).1, (una "__abs__" (by decide)).2, ok_abs fr T B F_abs, b_abs⟩⟩
  have bo : Una P w K mg base (kC K) "__bool__" 1 (spBool (kC K)) := ⟨⟨_, d_bool, (una "__bool__" (by decide)).1, (una "__bool__" (by decide)).2, ok_bool fr T F_bool, b_bool⟩⟩
  have st : Una P w K mg base (kC K) "__str__" 1 (spText (kC K) written) := ⟨⟨_, d_str, (una "__str__" (by decide)).1, (una "__str__" (by decide)).2, ok_str nb fr T F_str, b_str⟩⟩
  have eqF : EqF P w K mg base (kC K) := ⟨⟨_, d_eq, (una "__eq__" (by decide)).1, (una "__eq__" (by decide)).2, ok_eq fr B T2 F_eq, b_eq, "object", [.type "object"], PySem.F.cmp_object, fun h x dx X hx => eqc_ok x7 (una "__eq__" (by decide)).2 h x dx X hx⟩⟩
  obtain ⟨BAdd, NAdd⟩ := bin "add" (by decide)
  obtain ⟨BSub, NSub⟩ := bin "sub" (by decide)
  obtain ⟨BMul, NMul⟩ := bin "mul" (by decide)
  obtain ⟨BDiv, NDiv⟩ := bin "floordiv" (by decide)
  obtain ⟨BMod, NMod⟩ := bin "mod" (by decide)
  have BPow := bin_no x2
  have OA : Op P w K mg base (kC K) (Operator.Add).info.2 5 fun q p => q + p := ⟨⟨_, _, d_add, _, BAdd, ok_add B O F_add, b_add⟩⟩
  have OM : Op P w K mg base (kC K) (Operator.Mult).info.2 5 fun q p => q * p := ⟨⟨_, _, d_mul, _, BMul, ok_mul B O F_mul, b_mul⟩⟩
  have OS : Op P w K mg base (kC K) (Operator.Sub).info.2 6 fun q p => q - p := ⟨⟨_, _, d_sub, _, BSub, ok_sub B O N OA F_sub, b_sub⟩⟩
  have oOver : FnOk P w K mg base (L2.CX P w) 5 _ d_over ["self", "other"] (spDiv 4000 (kC K) (kZ K) fun q p H Q => New (kC K) H Q (q / p)) := ok_over B O zr F_over
  have V : Over P w K mg base (kC K) (kZ K) := ⟨⟨_, d_over, mOver, oOver, b_over⟩⟩
  have VK : OverK P w K mg base (kC K) (kZ K) := ⟨⟨_, d_over, mOver, oOver, b_over, kOver⟩⟩
  have D1 : Dv P w K mg base (kC K) (kZ K) (Operator.FloorDiv).info.2 4000 6 fun q p H Q => Whole (q / p) H Q := ⟨⟨_, _, d_floordiv, _, BDiv, ok_fdiv B V F_floordiv, b_floordiv⟩⟩
  have D2 : Dv P w K mg base (kC K) (kZ K) (Operator.Mod).info.2 900 7 fun q p H Q => New (kC K) H Q (q - p * ((q / p).floor : Rat)) := ⟨⟨_, _, d_mod, _, BMod, ok_mod B O OM OS D1 F_mod, b_mod⟩⟩
  have I1 : DvI P w K mg base (kC K) (kZ K) (Operator.FloorDiv).info.2 4000 7 fun q p H Q => Whole (q / p) H Q := ⟨⟨_, _, d_floordiv, d_rfloordiv, _, _, BDiv, NDiv, (ok_fdiv B V F_floordiv).mono (by decide), b_floordiv, ok_rfdiv B O D1 F_rfloordiv, b_rfloordiv⟩⟩
  have I2 : DvI P w K mg base (kC K) (kZ K) (Operator.Mod).info.2 900 8 fun q p H Q => New (kC K) H Q (q - p * ((q / p).floor : Rat)) := ⟨⟨_, _, d_mod, d_rmod, _, _, BMod, NMod, (ok_mod B O OM OS D1 F_mod).mono (by decide), b_mod, ok_rmod B O D2 F_rmod, b_rmod⟩⟩
  have pw : Pow P w K mg base (kC K) := ⟨⟨_, _, d_pow, _, BPow, ok_pow fr B DC mP OM F_pow, b_pow⟩⟩
  have rn : Rnd P w K mg base (kC K) := ⟨⟨_, d_rounded, mRnd, ok_round nb fr T DC mQ F_rounded, b_rounded, kRnd⟩⟩
  have LD : DnD P w K mg base := ⟨_, d_draw, ok_draw fr F_draw, gw _ (by decide +kernel), F_draw.kp, b_draw⟩
  have LP : DnP P w K mg base := ⟨_, d_pick, ok_pick fr LD F_pick, gw _ (by decide +kernel), F_pick.kp, b_pick⟩
  have LL : DnL P w K mg base := ⟨_, d_lowest, ok_low fr F_lowest, gw _ (by decide +kernel), F_lowest.kp, b_lowest⟩
  have L0 : Dn P w K mg base CX0 1 "_law_pot" ["_law_script", "_law_k"] (spPot K) := ⟨_, d_pot, ok_pot fr F_pot, gw _ (by decide +kernel), F_pot.kp, b_pot⟩
  have DWO : Dn P w K mg base CX0 1 "is_whole" ["value"] spWholeO := ⟨_, d_is_whole, ok_wholeO fr F_is_whole, gw _ (by decide +kernel), F_is_whole.kp, b_is_whole⟩
  have DCO : Dn P w K mg base CX0 2 "is_count" ["value"] spWholeO := ⟨_, d_is_count, ok_countO DWO F_is_count, gw _ (by decide +kernel), F_is_count.kp, b_is_count⟩
  have BO : BaseO P w K mg base (kC K) (kWA K) := ⟨gA, ⟨_, d_init, mMk, ok_initO DWO wrA FI, bI1⟩⟩
  have OO : OfO P w K mg base (kC K) (kWA K) := ⟨gA, ⟨_, _, _, d_of, cr, sm, ok_ofO fr BO kc F_of, b_of⟩⟩
  have SO : SubO P w K mg base (kC K) (kWA K) := ⟨⟨_, _, d_sub, _, BSub, ok_subO OO F_sub, b_sub⟩⟩
  have VO : OverO P w K mg base (kC K) (kWA K) := ⟨⟨_, d_over, mOver, ok_overO OO F_over, b_over⟩⟩
  have fdo : FdO P w K mg base (kC K) (kWA K) := ⟨⟨_, _, d_floordiv, _, d_rfloordiv, _, BDiv, ok_fdO cls VO F_floordiv, b_floordiv, ok_rfdO OO F_rfloordiv, b_rfloordiv⟩⟩
  have mdo : MdO P w K mg base (kC K) (kWA K) := ⟨⟨_, _, d_mod, _, BMod, ok_modO OO F_mod, b_mod⟩⟩
  have rno : RnO P w K mg base (kC K) (kWC K) := ⟨⟨_, d_rounded, mRnd, ok_rndO DC DCO wrC mQ F_rounded, b_rounded⟩⟩
  have pwo : PwO P w K mg base (kC K) (kWA K) := ⟨⟨_, _, d_pow, _, BPow, ok_powO DC wrA mP F_pow, b_pow⟩⟩
  have clt : CmpD P w K mg base (kC K) (kWA K) "__lt__" (fun q p => decide (q < p)) := ⟨⟨_, d_lt, (una "__lt__" (by decide)).1, (una "__lt__" (by decide)).2, ok_lt B OS F_lt, ok_ltO SO F_lt, b_lt⟩⟩
  have cle : CmpD P w K mg base (kC K) (kWA K) "__le__" (fun q p => decide (q ≤ p)) := ⟨⟨_, d_le, (una "__le__" (by decide)).1, (una "__le__" (by decide)).2, ok_le B OS F_le, ok_leO SO F_le, b_le⟩⟩
  have cgt : CmpD P w K mg base (kC K) (kWA K) "__gt__" (fun q p => decide (p < q)) := ⟨⟨_, d_gt, (una "__gt__" (by decide)).1, (una "__gt__" (by decide)).2, ok_gt B OS F_gt, ok_gtO SO F_gt, b_gt⟩⟩
  have cge : CmpD P w K mg base (kC K) (kWA K) "__ge__" (fun q p => decide (p ≤ q)) := ⟨⟨_, d_ge, (una "__ge__" (by decide)).1, (una "__ge__" (by decide)).2, ok_ge B OS F_ge, ok_geO SO F_ge, b_ge⟩⟩
  have cle2 : CmpD P w K mg base (kC K) (kWA K) "__le__" (fun q p => !decide (p < q)) := by
    have e : (fun q p : Rat => decide (q ≤ p)) = fun q p => !decide (p < q) := funext fun q => funext fun p => le_not_lt q p
    rw [← e]
    exact cle
  have cge2 : CmpD P w K mg base (kC K) (kWA K) "__ge__" (fun q p => !decide (q < p)) := by
    have e : (fun q p : Rat => decide (p ≤ q)) = fun q p => !decide (q < p) := funext fun q => funext fun p => le_not_lt p q
    rw [← e]
    exact cge
  have fo : Fo P w K mg base (kC K) (kWA K) := ⟨pl, clt, cle2, cgt, cge2⟩
  have eqO : EqO P w K mg base (kC K) := ⟨⟨_, d_eq, (una "__eq__" (by decide)).1, (una "__eq__" (by decide)).2, ok_eqO fr gA kc F_eq T, b_eq, "object", [.type "object"], PySem.F.cmp_object, fun h x dx X hx => eqc_ok x7 (una "__eq__" (by decide)).2 h x dx X hx⟩⟩
  have tol : Tol K mg := ⟨⟨_, d_told, F_told, gw _ (by decide +kernel), b_told⟩⟩
  have LG : Dn P w K mg base CX0 3 "_law_great" ["_law_pot_here"] (spGr K) := ⟨_, d_great, ok_gr LD LP LL F_great, gw _ (by decide +kernel), F_great.kp, b_great⟩
  have LB : Dn P w K mg base CX0 4 "_law_beside" ["_law_pot_here", "_law_near"] spBes := ⟨_, d_beside, ok_bes LD LP LL LG F_beside, gw _ (by decide +kernel), F_beside.kp, b_beside⟩
  have LS : Dn P w K mg base CX0 1 "_law_is_less" ["_law_near", "_law_far"] (spLess K) := ⟨_, d_is_less, ok_less F_is_less, gw _ (by decide +kernel), F_is_less.kp, b_is_less⟩
  have LA : Dn P w K mg base CX0 4 "_law_amount" ["_law_part"] (spAmt K (kC K)) := ⟨_, d_amount, ok_amt B F_amount, gw _ (by decide +kernel), F_amount.kp, b_amount⟩
  have LH : Dn P w K mg base CX0 1 "_law_shape" ["_law_high", "_law_low"] spShp := ⟨_, d_shape, ok_shp nb fr F_shape, gw _ (by decide +kernel), F_shape.kp, b_shape⟩
  have LW : Dn P w K mg base CX0 1 "_law_power" ["_law_base", "_law_size"] spPw := ⟨_, d_powr, ok_pw fr F_powr, gw _ (by decide +kernel), F_powr.kp, b_powr⟩
  have LE : Dn P w K mg base CX0 2 "_law_decimal" ["_law_near", "_law_size"] (spDe K) := ⟨_, d_decimal, ok_de nb fr LW F_decimal, gw _ (by decide +kernel), F_decimal.kp, b_decimal⟩
  have LM : Dn P w K mg base CX0 8 "_law_least" ["_law_some"] (spLe (kC K)) := ⟨_, d_least, ok_le2 fr fo F_least, gw _ (by decide +kernel), F_least.kp, b_least⟩
  have G1 : DnG P w K mg base 8 "_law_pair_right" ["_law_near", "_law_far"] (spPr K) := ⟨_, d_pair_right, ok_pair ⟨fr, LA, LS, fo, eqF, eqO⟩ F_pair_right, gw _ (by decide +kernel), F_pair_right.kp, b_pair_right⟩
  have G2 : DnG P w K mg base 9 "_law_rest_right" ["_law_near", "_law_far"] (spRe K) := ⟨_, d_rest_right, ok_rest ⟨nb, fr, LA, LH, LL, Rp, I1, I2⟩ F_rest_right, gw _ (by decide +kernel), F_rest_right.kp, b_rest_right⟩
  have G3 : DnG P w K mg base 11 "_law_by_zero_right" ["_law_near"] (spTb K (TT3 K) 142) := ⟨_, d_by_zero_right, ok_zero ⟨fr, B, LA, tq, tol, I1, I2, VK⟩ tZ qZ FC_by_zero_right, gw _ (by decide +kernel), F_by_zero_right.kp, b_by_zero_right⟩
  have G4 : DnG P w K mg base 7 "_law_shown_right" ["_law_near", "_law_size"] (spSh K) := ⟨_, d_shown_right, ok_sh ⟨nb, fr, B, Rp, N, ab, bo, st, pw, rn, LA, LH, LW, LE⟩ F_shown_right, gw _ (by decide +kernel), F_shown_right.kp, b_shown_right⟩
  have G5 : DnG P w K mg base 10 "_law_odd_right" ["_law_near", "_law_odd"] (spOd K (TT3 K)) := ⟨_, d_odd_right, ok_odd ⟨fr, B, LA, tq, tol, fo, eqO, fdo, mdo, rno⟩ tO qO FC_odd_right, gw _ (by decide +kernel), F_odd_right.kp, b_odd_right⟩
  have G6 : DnG P w K mg base 12 "_law_right" ["_law_pot_here"] (spRi (TT3 K)) := ⟨_, d_right, ok_right ⟨nb, fr, B, tq, tol, rno, pwo, LD, LG, LB, LA, LS, LM, G1, G2, G3, G4, G5⟩ tR qR FC_right, gw _ (by decide +kernel), F_right.kp, b_right⟩
  exact ok_law fr L0 G6 F_law
end KB

set_option Elab.async false
set_option linter.all false
set_option maxRecDepth 100000
set_option maxHeartbeats 0
namespace KB
open PySem PySem.W PySem.Calls PyProof.Rows
abbrev qv : Program := view R.prog [0, 38]
abbrev dL : DefRec := HandSHeadRun.topDef R.prog 38
theorem g3 : defOf qv R.name = some (dL, []) := by kernel_rfl
theorem g4 : R.prog.theDef R.name = some (dL.params, dL.body, dL.scope) := by kernel_rfl
theorem g5 : kwWritten? dL.params.kwonlyargs dL.params.kw_defaults = some [] := by kernel_rfl
theorem g6 : (!R.writes || R.records.isEmpty) = true := by rfl
theorem g7 : R.wellSaid = true := by decide +kernel
theorem g8 : (chainsOk qv && opensWell R.prog && (frees R.toRowW && R.within.isEmpty)) = true := by decide +kernel
theorem g9 : R.prog.bare := ⟨rfl, rfl, rfl, rfl, rfl, by decide +kernel⟩
set_option maxHeartbeats 8000000 in
theorem gwi : R.toRowW.promised := by w_witness2
theorem tt3 {K : PySem.W.Frag} {M : Addr → Addr → Prop} (di : diB K = true) (H : ∀ r ∈ tf, M (He.cT K r).2 (He.cT K r).1) : ∀ p ∈ (TT3 K).map (·.1), M p (cf K p) := by
  obtain ⟨d1, d2⟩ := He.ba di
  obtain ⟨d2, d3⟩ := He.ba d2
  have n1 : pZ K ≠ pO K := of_decide_eq_true d1
  have n2 : pZ K ≠ pR K := of_decide_eq_true d2
  have n3 : pO K ≠ pR K := of_decide_eq_true d3
  intro p hp
  simp only [List.map_cons, List.map_nil, List.mem_cons, List.not_mem_nil, or_false] at hp
  rcases hp with rfl | rfl | rfl
  · rw [show cf K (pZ K) = (He.cT K ("_law_by_zero_right", none)).1 from if_pos rfl]
    exact H _ List.mem_cons_self
  · rw [show cf K (pO K) = (He.cT K ("_law_odd_right", none)).1 from (if_neg (Ne.symm n1)).trans (if_pos rfl)]
    exact H _ (List.mem_cons_of_mem _ List.mem_cons_self)
  · rw [show cf K (pR K) = (He.cT K ("_law_right", none)).1 from (if_neg (Ne.symm n2)).trans (if_neg (Ne.symm n3))]
    exact H _ (List.mem_cons_of_mem _ (List.mem_cons_of_mem _ List.mem_cons_self))
set_option maxHeartbeats 8000000 in
theorem gcl : WalkO qv loose (XL qv []) hk.says R.toRowW dL [] fun f vs => PySem.call f vs := by
  refine Gd.walkGTs (l := PySem.Challenge.rw_keptlast_k12_comparisons) (n := 63) (k := 13) (x := "_law_script") rfl (by decide) (by kernel_rfl) ⟨rfl, by decide, by decide⟩ ?F
  intro w mg f h Y G hmg0
  obtain ⟨K, KX, c⟩ := Y
  have hmg : mg ("law" : PySem.Str) = some (.ref f) := by
    have e : dL.name = ("law" : PySem.Str) := by kernel_rfl
    rw [← e]
    exact hmg0
  obtain ⟨gL, fd, hb, hF⟩ := KB.facts (P := (PySem.Challenge.rw_keptlast_k12_comparisons).prog) (w := w) KX G c
  have e2 : f = He.ga K "law" := by
    have z := hmg.symm.trans gL
    injection z with z
    injection z
  subst e2
  refine ⟨K, fd, spLaw K (TT3 K), cf K, TT3 K, KX, fun p hp => ?e, fun p hp => ?o, fun p hp => ?h, hb, fun H a ns hl hT hS => ⟨a, ns, rfl, hl, hS, hT, fun _ => rfl⟩, hF⟩
  case e => exact tt3 (M := fun p _ => h.get? p = some Gd.noTab) c.di (fun r hr => c.emp r hr) p hp
  case o => exact tt3 (M := fun p _ => K.lookup p = none) c.di (fun r hr => c.out r hr) p hp
  case h => exact PySem.W.codeHd_of_K KX (tt3 (M := fun p a => PySem.W.codeHdIn K a p = true) c.di (fun r hr => c.hd r hr) p hp)
end KB
open PySem PySem.W PySem.Calls PyProof.Rows
set_option maxRecDepth 100000 in
set_option maxHeartbeats 8000000 in
theorem PySem.Challenge.cw_keptlast_k12_comparisons_holds : PySem.Challenge.rw_keptlast_k12_comparisons.Holds := by
  w_on; o_law
  exact HandSHeadRun.head_imp (r := KB.R) (q := KB.qv) (H := KB.hk) (ob := KB.ob) (M := 20000) (loose := KB.loose) (d := KB.dL) (kwd := []) KB.ob_eq KB.run KB.g3 KB.g4 KB.g5 KB.g6 KB.g7 KB.g8 KB.g9 KB.gwi KB.gcl
