import PyProof.Rows.All
import HandS.Words
import HandS.Ends
import HandS.Head0
import HandS.Head1
import HandS.Head2
import HandS.Head3
import HandS.HeadEnd
import HandS.HeadHook1
import HandS.HeadHook2
import HandS.HeadHook3
import HandS.HeadHook4
import HandS.HeadNt
import KE.KStateDown
import Lean
import Wide.All
import OpenK.AllK
import Wide.FinOn
import PyProof.EqAt
import PyProof.EqKinds
import PyProof.TupleCall
import PyProof.ReprNest
import PyProof.ReprDict
import HandS.ForMost
import HandS.Exc
import HandS.Defaults
import HandS.ExcInit
import KE.KExcInit
import KE.KExcIs
import KE.KExcMake
import HandS.IsInst
import HandS.Wide
import HandS.WideBits
import HandS.Walk
import HandS.Flow
import HandS.Codes
import HandS.ExcOwn
import HandS.TryMany
import HandS.WordsExc
import KE.KOpsOwn
import HandS.Property
import HandS.Gcd
import HandS.More
import HandS.Slots
import HandS.SlotsOwn
import HandS.OwnEq
import KE.KCallOwn
import HandS.ClsMeth
import HandS.FStr
import HandS.StrMore
import KE.KIntText
import HandS.MakeKwOnly
import PyProof.StrOps2
import HandS.Style
import PyProof.InstNe
import HandS.ExcField
import HandS.Lambda
import HandS.HotCalls
import HandS.Text
import PyProof.StrLawsAffix
import HandS.EndBits
import HandS.MakeKw
import PySem.Challenge.RW_keptlast_k13_amounts_refused_and_read
set_option Elab.async false
set_option linter.all false
set_option maxRecDepth 100000
set_option maxHeartbeats 0
namespace Gd
open PySem PySem.Spec L2
/-- built-ins that no text of ours hides -/
def frees : List Str := ["abs", "max", "min", "len", "int", "divmod", "range", "tuple", "isinstance", "repr", "all", "any", "str", "bool", "list", "dict", "sorted", "enumerate", "zip", "sum", "ValueError", "LookupError", "RuntimeError", "ArithmeticError"]
end Gd
namespace KA
open PySem PySem.Spec PyProof.Rows L2 Gd
def top (i : Nat) : Stmt := PySem.Challenge.pw_keptlast_k13_amounts_refused_and_read.main.body.getD i (.Pass ⟨0, 0, 0, 0⟩)
abbrev am (j : Nat) : Stmt := inClass (top 16) j
end KA
namespace KB
open PySem PySem.Spec PyProof.Rows L2 Gd KA
/-! ### what the head's look says -/
abbrev kC (K : W.Frag) : Addr := He.ga K "Amount"
abbrev kZF (K : W.Frag) : Addr := He.ga K "FormError"
abbrev kWA (K : W.Frag) : Addr := He.ga K "InvalidAmount"
abbrev kWC (K : W.Frag) : Addr := He.ga K "InvalidCount"
abbrev kWT (K : W.Frag) : Addr := He.ga K "InvalidText"
def unaB (K : W.Frag) (C : Addr) (m : Str) : Bool := He.eqO (W.findIn K (.ref C) m) (some (some (.ref (He.ma K C m)))) && W.isFn K (.ref (He.ma K C m))
def binB (K : W.Frag) (C : Addr) (nm : String) (r : Bool) : Bool := W.selfFirst K C && (unaB K C (PySem.dunder nm) && ((match r with
    | true => unaB K C (dunderR nm)
    | false => He.eqO (W.findIn K (.ref C) (dunderR nm)) (some none)) && ((W.findIn K (.type "int") (PySem.dunder nm)).isSome && ((W.findIn K (.type "int") (dunderR nm)).isSome &&
  (decide (W.subIn K (.type "int") (.ref C) = some false) && decide (W.subIn K (.ref C) (.type "int") = some false))))))
def mroB (K : W.Frag) (C : Addr) (bm : List Value) : Bool := match W.clsIn K C with
  | some cd => decide (cd.mro = .ref C :: bm)
  | none => false
def noB (K : W.Frag) (C : Addr) (nm : String) : Bool := He.eqO (W.findIn K (.ref C) (dunderI nm)) (some none) && (He.eqO (W.findIn K (.type "object") (dunderI nm)) (some none) && He.eqO (W.findIn K (.type "int") (dunderI nm)) (some none))
def propB (K : W.Frag) (C : Addr) (m : Str) : Bool := He.eqO (W.findIn K (.ref C) m) (some (some (.ref (He.ma K C m)))) && (He.eqO (W.specialIn K (.ref (He.ma K C m)) "__get__") (some (some (.builtin "property.__get__"))) &&
  (decide (W.takesIn K (.ref (He.ma K C m)) = some true) && (match W.recIn K (He.ma K C m) "property" with
    | some (.ref _ :: _) => true
    | _ => false)))
def statB (K : W.Frag) (C : Addr) (m : Str) : Bool := He5.wrapB K C "staticmethod" "staticmethod.__get__" m && (decide (W.typeIn K (.ref C) = some (.type "type")) && (W.keepIn K (.ref (He5.wf K C "staticmethod" m)) && (W.readsIn K C (.type "type") &&
  He.eqO (W.specialIn K (.ref C) "__getattribute__") (some (some (.builtin "type.__getattribute__"))))))
/-- an own == and no own != -/
def eqcB (K : W.Frag) (C : Addr) : Bool := match K.lookup C with
  | some ⟨.type t, _, .cls cd, sl⟩ => decide (t = "type") && (decide (cd.mro = [.ref C, .type "object"]) && (!cd.hasDel && ((match sl.toList with
      | [_, _, _, _, some (.builtin _), _] => true
      | _ => false) && (He.eqO (W.nsIn K cd.ns "__eq__") (some (some (.ref (He.ma K C "__eq__")))) && (He.eqO (W.nsIn K cd.ns "__ne__") (some none) && (match K.lookup cd.ns with
      | some ⟨_, _, .dict es _, _⟩ => es.toList.all fun e => match e.key with
        | .str _ _ => true
        | _ => false
      | _ => false))))))
  | _ => false
def bmZ : List Value := [.type "ArithmeticError", .type "Exception", .type "BaseException", .type "object"]
def bmV : List Value := [.type "ValueError", .type "Exception", .type "BaseException", .type "object"]
def errB (K : W.Frag) (Z U : Addr) (bm : List Value) (nw : String) (fld : Str) : Bool := mroB K Z (.ref U :: bm) && (W.excInitIn K Z bm nw && (W.excOver K Z bm && (W.keepIn K (.ref Z) && (W.hasDictIn K Z && (decide (W.typeIn K (.ref Z) = some (.type "type")) &&
  (He.eqO (W.findIn K (.ref Z) "__init__") (some (some (.ref (He.ma K Z "__init__")))) && (decide (W.typeIn K (.ref (He.ma K Z "__init__")) = some (.type "function")) &&
  (He.eqO (W.findIn K (.ref Z) "__setattr__") (some (some (.builtin "object.__setattr__"))) && (He.eqO (W.findIn K (.ref Z) "__getattribute__") (some (some (.builtin "BaseException.__getattribute__"))) && (He.eqO (W.findIn K (.ref Z) "__getattr__") (some none) &&
  (He.eqO (W.findIn K (.ref Z) "__class__") (some (some (.builtin "object.__class__"))) && (He.eqO (W.takerIn K Z fld) (some none) && (He.eqO (W.findIn K (.ref Z) fld) (some none) && (decide (W.subIn K (.ref Z) (.type "BaseException") = some true) &&
  decide (W.mroIn K Z (.type "object") = some true)))))))))))))))
def tqB (K : W.Frag) (F WA WC WT : Addr) : Bool := decide (W.exmOne K (.ref WA) (.ref WA) = some true) && (decide (W.exmOne K (.ref WC) (.ref WA) = some false) && (decide (W.exmOne K (.ref WC) (.ref WC) = some true) && (decide (W.exmOne K (.ref WT) (.ref WA) = some false) && (decide (W.exmOne K (.ref WT) (.ref WC) = some false) &&
  (decide (W.exmOne K (.ref WT) (.ref WT) = some true) && (decide (W.kitOne K (.ref WA) (.ref F) = some true) && (decide (W.kitOne K (.ref WC) (.ref F) = some true) && decide (W.kitOne K (.ref WT) (.ref F) = some true))))))))
/-- the class is no int, no str -/
def knB (K : W.Frag) (C : Addr) : Bool := decide (W.kitOne K (.ref C) (.type "int") = some false) && decide (W.kitOne K (.ref C) (.type "str") = some false)
def clsB (K : W.Frag) (C : Addr) : Bool := He.eqO (W.findIn K (.ref C) "__class__") (some (some (.builtin "object.__class__"))) && (He.eqO (W.specialIn K (.builtin "object.__class__") "__get__") (some (some (.builtin "getset_descriptor.__get__"))) && (decide (W.takesIn K (.builtin "object.__class__") = some true) &&
  (decide (W.mroIn K C (.type "object") = some true) && (decide (W.kitOne K (.ref C) (.ref C) = some true) && decide (W.kitOne K (.type "int") (.ref C) = some false)))))
def op5 : List String := ["add", "sub", "mul", "floordiv", "mod"]
def six : List String := ["__neg__", "__eq__", "__lt__", "__le__", "__gt__", "__ge__", "__str__", "__repr__"]
def exB (K : W.Frag) : Bool := (op5.all fun nm => binB K (kC K) nm true) && (binB K (kC K) "pow" false && (mroB K (kC K) [.type "object"] && (six.all (fun m => unaB K (kC K) (Str.ofString m)) &&
  ((["top", "bottom", "sign"] : List String).all (fun m => propB K (kC K) (Str.ofString m)) && (statB K (kC K) "of" && (eqcB K (kC K) && (clsB K (kC K) && (statB K (kC K) "read" &&
  (errB K (kWA K) (kZF K) bmV "ValueError.__new__" "value" && (errB K (kWC K) (kZF K) bmV "ValueError.__new__" "value" && (errB K (kWT K) (kZF K) bmV "ValueError.__new__" "line" && (tqB K (kZF K) (kWA K) (kWC K) (kWT K) && (knB K (kC K) && He.eqO (W.nsIn K mainGlobals "gcd") (some (some (.builtin "math.gcd"))))))))))))))))
/-! ### the defs -/
def dOf (x : Str) (i : Nat) : He5.DefA := ⟨fun K => He.ga K x, x, x, defArgs (top i), defBody (top i), defScope (top i), [], []⟩
def mOf (m q : Str) (j : Nat) : He5.DefA := ⟨fun K => He.ma K (kC K) m, m, q, defArgs (am j), defBody (am j), defScope (am j), [], []⟩
def pOf (T : String) (m q : Str) (j : Nat) : He5.DefA := ⟨fun K => He5.wf K (kC K) T m, m, q, defArgs (am j), defBody (am j), defScope (am j), [], []⟩
abbrev wa : Stmt := inClass (top 3) 0
abbrev wc : Stmt := inClass (top 4) 0
abbrev wt : Stmt := inClass (top 5) 0
def fn : List He5.DefA := [dOf "is_whole" 9,
  dOf "is_count" 10,
  dOf "_are_digits" 17,
  dOf "_law_pot" 19,
  dOf "_law_draw" 20,
  dOf "_law_pick" 21,
  dOf "_law_lowest" 22,
  dOf "_law_great" 23,
  dOf "_law_part" 24,
  dOf "_law_written" 25,
  dOf "_law_odd" 26,
  dOf "_law_told" 27,
  dOf "_law_parts_right" 28,
  dOf "_law_left_right" 29,
  dOf "_law_right_right" 30,
  dOf "_law_refused_right" 31,
  dOf "_law_bent" 32,
  dOf "_law_is_count" 33,
  dOf "_law_fraction_in" 34,
  dOf "_law_texts_right" 35,
  dOf "_law_right" 36,
  dOf "law" 37,
  ⟨fun K => He.ma K (kC K) "__init__", "__init__", "Amount.__init__", defArgs (am 0), defBody (am 0), defScope (am 0), [.int 1], []⟩,
  pOf "staticmethod" "of" "Amount.of" 1,
  pOf "staticmethod" "read" "Amount.read" 2,
  pOf "property" "top" "Amount.top" 3,
  pOf "property" "bottom" "Amount.bottom" 4,
  pOf "property" "sign" "Amount.sign" 5,
  mOf "__add__" "Amount.__add__" 6,
  mOf "__radd__" "Amount.__radd__" 7,
  mOf "__sub__" "Amount.__sub__" 8,
  mOf "__rsub__" "Amount.__rsub__" 9,
  mOf "__mul__" "Amount.__mul__" 10,
  mOf "__rmul__" "Amount.__rmul__" 11,
  mOf "over" "Amount.over" 12,
  mOf "__floordiv__" "Amount.__floordiv__" 13,
  mOf "__rfloordiv__" "Amount.__rfloordiv__" 14,
  mOf "__mod__" "Amount.__mod__" 15,
  mOf "__rmod__" "Amount.__rmod__" 16,
  mOf "__pow__" "Amount.__pow__" 17,
  mOf "__neg__" "Amount.__neg__" 18,
  mOf "__eq__" "Amount.__eq__" 21,
  mOf "__lt__" "Amount.__lt__" 22,
  mOf "__le__" "Amount.__le__" 23,
  mOf "__gt__" "Amount.__gt__" 24,
  mOf "__ge__" "Amount.__ge__" 25,
  mOf "__str__" "Amount.__str__" 26,
  mOf "__repr__" "Amount.__repr__" 27,
  mOf "rounded" "Amount.rounded" 28,
  ⟨fun K => He.ma K (kWA K) "__init__", "__init__", "InvalidAmount.__init__", defArgs wa, defBody wa, defScope wa, [], []⟩,
  ⟨fun K => He.ma K (kWC K) "__init__", "__init__", "InvalidCount.__init__", defArgs wc, defBody wc, defScope wc, [], []⟩,
  ⟨fun K => He.ma K (kWT K) "__init__", "__init__", "InvalidText.__init__", defArgs wt, defBody wt, defScope wt, [], []⟩]
def lawNames : List Str := (["_law_pot", "_law_draw", "_law_pick", "_law_lowest", "_law_great", "_law_part", "_law_written", "_law_odd", "_law_told", "_law_parts_right", "_law_left_right", "_law_right_right", "_law_refused_right", "_law_bent", "_law_is_count", "_law_fraction_in", "_law_texts_right", "_law_right"] : List String).map Str.ofString
def ownNames : List Str := (["Amount", "FormError", "InvalidAmount", "InvalidCount", "InvalidText", "is_whole", "is_count", "_are_digits"] : List String).map Str.ofString
def restNames : List Str := (["DividedByZero", "AmountError", "DIGITS", "MOST_DIGITS", "MOST_POWER", "MOST_PLACES"] : List String).map Str.ofString
def fa : List He.Fa := (ownNames ++ lawNames ++ [("law" : Str)]).map He.Fa.glo ++ (frees.map He.Fa.free ++ [.int "MOST_POWER" 12, .int "MOST_PLACES" 12, .int "MOST_DIGITS" 4000, .str "DIGITS" "0123456789", .cls "Amount", .noat "Amount" "_top", .noat "Amount" "_bottom", .meth "Amount" "over", .meth "Amount" "rounded", .mkr "Amount"])
abbrev R : PySem.W.OpenRow := PySem.W.OpenLaw.row PySem.Challenge.rw_keptlast_k13_amounts_refused_and_read
def loose : List Str := ownNames ++ lawNames ++ restNames
/-! ### the objects that are looked at -/
def kids (g : Addr → Option Obj) (a : Addr) : List Addr := match g a with
  | some ⟨_, _, .cls cd, _⟩ => [cd.ns]
  | some ⟨_, _, .func fd, _⟩ => He.refV fd.code ++ (He.refV fd.defaults ++ He.refV fd.kwdefaults)
  | some ⟨_, _, .dict es _, _⟩ => es.toList.flatMap fun e => He.refV e.val
  | some ⟨.type t, _, .fields vs, _⟩ => if t = "property" ∨ t = "staticmethod" then vs.toList.flatMap He.refV else []
  | _ => []
def as1 (g : Addr → Option Obj) : List Addr := kids g mainGlobals
def as2 (g : Addr → Option Obj) : List Addr := (as1 g).flatMap (kids g)
def as3 (g : Addr → Option Obj) : List Addr := (as2 g).flatMap (kids g)
def as4 (g : Addr → Option Obj) : List Addr := (as3 g).flatMap (kids g)
def as5 (g : Addr → Option Obj) : List Addr := (as4 g).flatMap (kids g)
def frK (g : Addr → Option Obj) : W.Frag := He.frT g (mainGlobals :: cStatics :: (as1 g ++ (as2 g ++ (as3 g ++ (as4 g ++ as5 g)))))
def tf : List He.Defn := [("_law_parts_right", none), ("_law_left_right", none), ("_law_right_right", none), ("_law_refused_right", none), ("_law_texts_right", none)]
def tl5 : List (He.Defn × Str) := [(("_law_parts_right", none), "_law_parts_right.<locals>.<lambda>"), (("_law_left_right", none), "_law_left_right.<locals>.<lambda>"), (("_law_right_right", none), "_law_right_right.<locals>.<lambda>"), (("_law_refused_right", none), "_law_refused_right.<locals>.<lambda>"), (("_law_texts_right", none), "_law_texts_right.<locals>.<lambda>")]
abbrev TT5 (K : W.Frag) : List (Addr × Str) := tl5.map fun r => ((He.cT K r.1).2, r.2)
def cf (K : W.Frag) (p : Addr) : Addr := ((tl5.find? fun r => decide ((He.cT K r.1).2 = p)).map fun r => (He.cT K r.1).1).getD 0
def diB (K : W.Frag) : Bool := decide ((tl5.map fun r => (He.cT K r.1).2).Nodup)
abbrev AlK : Type := He.AlD × Bool
def seeK (g : Addr → Option Obj) (K : W.Frag) : AlK := (He5.obsA fa fn K, exB K && (diB K && He.tabsB g tf K))
structure SayK (h : Heap) (K : W.Frag) : Prop where
  a : He5.SaysA fa fn K
  ex : exB K = true
  di : diB K = true
  hd : ∀ r ∈ tf, W.codeHdIn K (He.cT K r).1 (He.cT K r).2 = true
  out : ∀ r ∈ tf, K.lookup (He.cT K r).2 = none
  emp : ∀ r ∈ tf, h.get? (He.cT K r).2 = some { cls := .none, data := .fields #[] }
theorem sayK_of {h : Heap} (e : seeK h.get? (frK h.get?) = (He5.valA fn, true)) : SayK h (frK h.get?) := by
  obtain ⟨h1, h2⟩ := He.ba (congrArg (fun z : AlK => z.2) e)
  obtain ⟨h2, h3⟩ := He.ba h2
  have e1 : He5.SaysA fa fn (frK h.get?) := congrArg (fun z : AlK => z.1) e
  have key : ∀ r ∈ tf, W.codeHdIn (frK h.get?) (He.cT (frK h.get?) r).1 (He.cT (frK h.get?) r).2 = true ∧ (frK h.get?).lookup (He.cT (frK h.get?) r).2 = none ∧ h.get? (He.cT (frK h.get?) r).2 = some { cls := .none, data := .fields #[] } := fun r hr => by
    obtain ⟨h4, h5⟩ := He.ba (List.all_eq_true.mp h3 r hr)
    cases q : h.get? (He.cT (frK h.get?) r).2 with
    | none =>
      rw [q] at h5
      cases h5
    | some o =>
      rw [q] at h5
      exact ⟨h4, He.frT_none q h5, by rw [He.emptyTab_eq h5]⟩
  exact ⟨e1, h1, h2, fun r hr => (key r hr).1, fun r hr => (key r hr).2.1, fun r hr => (key r hr).2.2⟩
def hk : PySem.W.Hook where
  α := AlK
  obs := fun s => seeK s.heap.get? (frK s.heap.get?)
  val := fun w => (He5.valA fn, true)
  says := fun w h => ∃ K : W.Frag, K.In h ∧ SayK h K
  of := fun _ _ e => ⟨_, He.frT_in, sayK_of e⟩
  keeps := fun _ _ _ ⟨K, hK, c⟩ k => ⟨K, W.Frag.In.keeps hK k, ⟨c.a, c.ex, c.di, c.hd, c.out, fun r hr => k _ _ (c.emp r hr)⟩⟩
def ob (s : PySem.W.SharedT) : AlK := seeK (HandSHeadRun.getT s) (frK (HandSHeadRun.getT s))
theorem ob_eq (s : PySem.W.SharedT) : ob s = hk.obs s.abs := by
  have e : HandSHeadRun.getT s = s.abs.heap.get? := funext (HandSHeadRun.getT_eq s)
  show seeK (HandSHeadRun.getT s) (frK (HandSHeadRun.getT s)) = seeK s.abs.heap.get? (frK s.abs.heap.get?)
  rw [e]
theorem run (w : World) : HandSHeadRun.RunEqI R (PySem.W.view R.prog [0, 37]) hk ob 20000 loose w := by
  unfold HandSHeadRun.RunEqI
  kernel_rfl
end KB

set_option Elab.async false
set_option linter.all false
set_option maxRecDepth 100000
set_option maxHeartbeats 4000000
/-! Defs that must know that no repr is under way around them. -/
namespace Gd
open PySem PySem.Spec PyProof.Rows L2

/-- nothing that guards a repr runs around -/
abbrev Bare (A : Around) : Prop := A.guards = some []

/-- a def's promise, kept wherever no repr is under way -/
structure FnG (P : Program) (w : World) (K : PySem.W.Frag) (mg : Str → Option Value) (base : Heap) (CX : CXT) (k : Nat) (f : Addr) (fd : FuncData) (ps : List Str) (sp : Sp) : Prop where
  len : ∀ vs H Q E, sp vs H Q E → vs.length = ps.length
  go : ∀ (A : Around) (outer : List Env) (s : Shared) (H : Hp) (args : Args) (us : List Value) (vs : List V) (Q : VK) (E : XK),
    Bare A → Room k A → Env0 P w K mg base A outer s H → BindsTo s fd args (ps.zip us) → Vals vs us → sp vs H Q E →
    codeAny (model P w) A (.call (.ref f) args) (CR CX outer P w H s Q E) s

theorem FnG.of {P : Program} {w : World} {K : PySem.W.Frag} {mg : Str → Option Value} {base : Heap} {CX : CXT} {k : Nat} {f : Addr} {fd : FuncData} {ps : List Str} {sp : Sp}
    (F : FnOk P w K mg base CX k f fd ps sp) : FnG P w K mg base CX k f fd ps sp :=
  ⟨F.len, fun A outer s H args us vs Q E _ hr e0 hb r h => F.run A outer s H args us vs Q E hr e0 hb r h⟩

section
variable {CX : CXT} {P : Program} {w : World} {K : PySem.W.Frag} {mg : Str → Option Value} {base : Heap} {k : Nat} {f : Addr}

/-- such a def by its body -/
theorem fnG_of {name qual : Str} {params : Arguments} {body : List Stmt} {sc : Scope} {dV kV doc pm cdv ct oc : Value} {an od : Option Addr} {osl : Array (Option Value)} {N ps : List Str} {sp : Sp}
    (at_ : K.lookup f = some ⟨oc, od, .func (PySem.W.fnOf name qual params body sc dV kV doc pm an cdv ct), osl⟩)
    (code : PySem.W.codeIn K cdv qual = true) (S : FnScope N ps sc) (len : ∀ vs H Q E, sp vs H Q E → vs.length = ps.length)
    (walk : ∀ (A : Around) (outer : List Env) (s : Shared) (H : Hp) (vs : List V) (Q : VK) (E : XK),
      Bare (A.deeper (envOfC qual sc s.heap.objs.size f cdv)) → Room k (A.deeper (envOfC qual sc s.heap.objs.size f cdv)) → sp vs H Q E →
      ∃ t, PSs (cxOf CX P w K mg base N qual sc f cdv A outer s H E) body t ∧ t { nx := fun _ H' => Q .non H', rt := Q } (start N vs) H) :
    FnG P w K mg base CX (k + 1) f (PySem.W.fnOf name qual params body sc dV kV doc pm an cdv ct) ps sp := by
  refine ⟨len, fun A outer s H args us vs Q E hg room e0 bd rv want => ?_⟩
  have nvs := len _ _ _ _ want
  have inK : K.In s.heap := e0.mod.kin.keeps (fun b o z => (e0.bs b o z).1)
  have noLim : s.heap.NoLimit := e0.mod.nolimit.keeps (fun b o z => (e0.bs b o z).1)
  have kinds : ∀ y ∈ ps.zip us, sc.names.lookup y.1 = some .local ∨
      (sc.names.lookup y.1 = some .cell ∧ ((cellsFrom (s.heap.objs.size + 1) sc.names []).lookup y.1).isSome = true) := by
    rintro ⟨n, v⟩ hy
    cases S.par n (List.of_mem_zip hy).1 with
    | inl z => exact .inl z
    | inr z => exact .inr ⟨z, PySem.W.cellsFrom_some _ _ _ (.inl z)⟩
  refine codeAny_call_function room.depth (inK _ _ at_) rfl S.co S.gen rfl (PySem.W.codeRec_of inK code) (bd _ _ _ _ ?_)
  refine wpAny_newFunctionEnv_cells S.kind kinds (fun env ee s1 ic => ?_)
  subst ee
  refine ⟨noLim.keeps ic.toInCall.keep, codeAny_func ?_⟩
  obtain ⟨t, der, rd⟩ := walk A outer s H vs Q E hg (room.deeper _) want
  have J : Inv (cxOf CX P w K mg base N qual sc f cdv A outer s H E) [] (start N vs) H s1 := inv_start S room.hd e0 nvs rv ic
  refine wpAny_mono (der.run [] s1 (start N vs) H _ J rd) (fun fl s2 hs => ?_) (fun e s2 hs => hs)
  cases fl with
  | ret u =>
    obtain ⟨v, σ2, H2, J2, rv2, q⟩ := hs
    exact ⟨v, H2, J2.os, J2.bare, J2.base, J2.hok, rv2, q⟩
  | next =>
    obtain ⟨σ2, H2, J2, q⟩ := hs
    exact ⟨V.non, H2, J2.os, J2.bare, J2.base, J2.hok, rfl, q⟩
  | brk =>
    obtain ⟨_, _, _, q⟩ := hs
    exact q.elim
  | cont =>
    obtain ⟨_, _, _, q⟩ := hs
    exact q.elim
end

section
variable {P : Program} {w : World} {K : PySem.W.Frag} {mg : Str → Option Value} {base : Heap}
theorem okG {x qual : Str} {st : Stmt} {f : Addr} {fd : FuncData} {N ps : List Str} {k : Nat} {sp : Sp} (F : Fun K x qual st f fd) (S : FnScope N ps (defScope st)) (len : ∀ vs H Q E, sp vs H Q E → vs.length = ps.length)
    (walk : ∀ (cdv : Value) (A : Around) (outer : List Env) (s : Shared) (H : Hp) (vs : List V) (Q : VK) (E : XK), Bare (A.deeper (envOfC qual (defScope st) s.heap.objs.size f cdv)) →
      Room k (A.deeper (envOfC qual (defScope st) s.heap.objs.size f cdv)) → sp vs H Q E →
      ∃ t, PSs (cxOf CX0 P w K mg base N qual (defScope st) f cdv A outer s H E).nox (defBody st) t ∧ t { nx := fun _ H' => Q .non H', rt := Q } (start N vs) H) :
    FnG P w K mg base CX0 (k + 1) f fd ps sp := by
  obtain ⟨oc, od, kV, doc, pm, an, cdv, ct, osl, rfl, at_, code⟩ := F.ex
  refine fnG_of at_ code S len (fun A outer s H vs Q E hg hr want => ?_)
  obtain ⟨t, h, q⟩ := walk cdv A outer s H vs Q E hg hr want
  exact ⟨t, h.nox, q⟩
end

section
variable {X : Cx} {CX : CXT} {k : Nat} {f : Addr} {fd : FuncData} {ps : List Str} {sp : Sp} {dvs : List V} {ds : List Value} {E : XK} {x : Str} {p pos : Pos} {e : Expr} {es : List Expr} {t : TA}
theorem runG {pins : List (Addr × Obj)} {σ : L2.St} {H : Hp} {s : Shared} {Q : VK} {us : List Value} {vs : List V} (hG : Bare X.A) (F : FnG X.prog X.w X.K X.mg X.base CX k f fd ps sp) (hr : Room k X.A) (hb : Binds X.K fd ps ds) (hd : Vals dvs ds)
    (hx : Passes CX X E) (I : Inv X pins σ H s) (r : Vals vs us) (want : sp (vs ++ dvs) H Q E) : wpAny (model X.prog X.w) X.A (call (.ref f) us) (EP X pins σ Q) X.xe s := by
  have all : Vals (vs ++ dvs) (us ++ ds) := r.append hd
  have nl : (us ++ ds).length = ps.length := by
    rw [← all.length]
    exact F.len _ _ _ _ want
  refine wpAny_call (codeAny_mono (F.go X.A X.stack s H ⟨us, []⟩ (us ++ ds) (vs ++ dvs) Q E hG hr I.env0 (hb s us I.kIn nl) all want) (fun res s2 z => ?_))
  cases res with
  | error er => exact hx pins σ H s er s2 I z
  | ok fl =>
    cases fl with
    | ret u => exact I.after z
    | next => exact z.elim
    | brk => exact z.elim
    | cont => exact z.elim
/-- f(e, ..), f a def that wants no repr around -/
theorem pe_callG (hG : Bare X.A) (F : FnG X.prog X.w X.K X.mg X.base CX k f fd ps sp) (hr : Room k X.A) (hg : Gl X x) (hm : X.mg x = some (.ref f)) (hk : PySem.W.keepIn X.K (.ref f) = true) (hb : Binds X.K fd ps ds) (hd : Vals dvs ds)
    (hx : Passes CX X E) (ha : PA X (e :: es) t) (hdb : (x == ("__debug__" : Str)) = false := by decide)
    (he : starEach (e :: es) X.env = (false, eval e X.env) :: starEach es X.env := by rfl) (hpl : (backTo pos (starEach es X.env)).any (·.1) = false := by rfl) :
    PE X (.Call (.Name x p) (e :: es) [] pos) (tCall sp dvs E t) := by
  refine ⟨fun pins s σ H Q I want => wpAny_Call_Name_kw (ld_glob I hg hm ?_ hdb)⟩
  refine PySem.W.callWith_K (h₀ := X.base) I.ok.mod.kin hk (thn (ha.run pos pins s σ H _ I want) fun us s1 ⟨vs, H1, I1, r, q⟩ => ⟨I1.kIn, ?_⟩) he hpl
  exact runG hG F hr hb hd hx I1 r q
end

/-! ### the end of a law -/
theorem lawG {P : Program} {w : World} {K : PySem.W.Frag} {mg mb : Str → Option Value} {k : Nat} {fa a : Addr} {fd : FuncData} {x : Str} {sp : Sp} {s₁ : Shared} {vs : List Value} {ns : List Int}
    (inK : K.In s₁.heap) (hmg : s₁.heap.Ns mainGlobals mg) (hmb : s₁.heap.Ns builtinsNs mb) (hbt : ∀ x : Str, x ≠ "__name__" → mb x = bootBuiltins x) (lim : s₁.heap.NoLimit) (hgen : s₁.gens = #[])
    (hobj : s₁.heap.get? a = some { cls := .type "list", data := .seq vs.toArray }) (hints : IntsAre vs ns) (hlen : ns.length ≤ sizeLine) (room : Room k callerA)
    (F : ∀ base : Heap, K.In base → base.Ns mainGlobals mg → FnG P w K mg base CX0 k fa fd [x] sp) (hbd : ∀ (s : Shared) (u : Value), BindsTo s fd ⟨[u], []⟩ [(x, u)])
    (hsp : ∀ H : Hp, Only H → SqL K H a (ns.map V.int) → sp [.ref a] H (fun v _ => v = .bl true) fun _ _ _ => False) :
    codeAny (model P w) callerA (.call (.ref fa) ⟨[.ref a], []⟩) (fun r s' => r = .ok (.ret (.bool true)) ∧ OldK s₁.heap s'.heap ∧ s'.os = s₁.os ∧ AllBare s'.gens) s₁ := by
  have key : ∀ T : Params → True, True := fun _ => trivial
  -- what the layer's own end proves for defs that run anywhere, at a def that answers at once: its shape is used for ours
  have rv := vals_ints hints
  have nvs := hints.length
  have core : ∀ H : Hp, Only H → SqL K H a (ns.map V.int) → HOk P w H s₁.heap → (∀ b, H b ≠ none → b = a) → (H a ≠ none → K.lookup a = none) →
      codeAny (model P w) callerA (.call (.ref fa) ⟨[.ref a], []⟩) (fun r s' => r = .ok (.ret (.bool true)) ∧ OldK s₁.heap s'.heap ∧ s'.os = s₁.os ∧ AllBare s'.gens) s₁ := by
    intro H only sq hok onlyA notK
    have free_of : ∀ {b : Addr} {o : Obj} {es : Array DictEntry} {ep : Nat}, s₁.heap.get? b = some o → o.data = .dict es ep → H b = none := by
      intro b o es ep e d
      cases q : H b with
      | none => rfl
      | some u =>
        have eb : b = a := onlyA b (by rw [q]; simp)
        rw [eb, hobj] at e
        cases e
        cases (show Data.seq vs.toArray _ = Data.dict es ep from d)
    have ns_of : ∀ {b : Addr} {m : Str → Option Value}, s₁.heap.Ns b m → (hidT s₁.heap H).Ns b m := by
      rintro b m ⟨o, es, ep, e, d, r⟩
      exact ⟨o, es, ep, hidT_get e (free_of e d), d, r⟩
    have inB : K.In (hidT s₁.heap H) := by
      intro b o e
      refine hidT_get (inK b o e) ?_
      cases q : H b with
      | none => rfl
      | some u =>
        have eb : b = a := onlyA b (by rw [q]; simp)
        subst eb
        have z := notK (by rw [q]; simp)
        rw [z] at e
        exact nomatch e
    obtain ⟨mc, l1, l2⟩ := lim
    have md : Mod K mg (hidT s₁.heap H) := ⟨inB, ns_of hmg, ⟨mb, ns_of hmb, hbt⟩, ⟨mc, ns_of l1, l2⟩⟩
    have nil : ∀ b : Addr, b ∉ ([] : List Addr) := fun b z => nomatch z
    have e0 : Env0 P w K mg (hidT s₁.heap H) callerA [] s₁ H :=
      ⟨rfl, md, fun b o e => of_hidT e, Nat.le_of_eq (hidT_size _ _), trivial, fun b hb => absurd (show b ∈ ([] : List Addr) from hb) (nil b), hok, .of_eq hgen⟩
    refine codeAny_mono ((F _ inB (ns_of hmg)).go callerA [] s₁ H ⟨[.ref a], []⟩ [.ref a] [.ref a] _ _ rfl room e0 (hbd s₁ (.ref a)) (.cons rfl .nil) (hsp H only sq)) (fun r s2 z => ?_)
    cases r with
    | error er => exact z.elim
    | ok fl =>
      cases fl with
      | next => exact z.elim
      | brk => exact z.elim
      | cont => exact z.elim
      | ret u =>
        obtain ⟨v, H2, os, bare, un, hok2, rr, q⟩ := z
        have ev : v = .bl true := q
        subst ev
        obtain rfl : u = Value.bool true := rr
        refine ⟨rfl, OldK.of_keep (fun b o e => ?_), os, bare⟩
        cases q2 : H b with
        | none => exact un.keep b o e q2 (nil b) (nil b)
        | some u =>
          cases only b with
          | inl z => rw [q2] at z; cases z
          | inr z =>
            obtain ⟨ob, xs, z⟩ := z
            obtain ⟨e1, _⟩ := hok b _ z
            obtain ⟨e2, _⟩ := hok2 b _ (un.frzs b ob _ z)
            rw [e] at e1
            cases e1
            exact e2
  cases hk : K.lookup a with
  | some o =>
    have e := inK a o hk
    rw [hobj] at e
    cases e
    exact core (fun _ => none) (fun _ => .inl rfl) (.inr ⟨_, vs.toArray, _, hk, rfl, rfl, rfl, by rw [List.size_toArray, nvs]; exact hlen, by simpa using rv⟩)
      (fun b u z => nomatch (show (none : Option HO) = some u from z)) (fun b z => absurd rfl z) (fun z => absurd rfl z)
  | none =>
    refine core (fun b => if b = a then some (.frz { cls := .type "list", data := .seq vs.toArray } (.lst (ns.map V.int))) else none) (fun b => ?_) (.inl (.inr ⟨_, if_pos rfl⟩)) (fun b u z => ?_) (fun b z => ?_) (fun _ => hk)
    · rcases Decidable.em (b = a) with hb | hb
      · exact .inr ⟨_, _, if_pos hb⟩
      · exact .inl (if_neg hb)
    · rcases Decidable.em (b = a) with hb | hb
      · have z2 := (if_pos hb).symm.trans z
        cases z2
        subst hb
        exact ⟨hobj, by rw [List.length_map]; exact hlen, vs, _, rv, hobj⟩
      · have z2 := (if_neg hb).symm.trans z
        cases z2
    · rcases Decidable.em (b = a) with hb | hb
      · exact hb
      · exact absurd (if_neg hb) z
/-- a law over a head by facts -/
theorem walkG {l : PySem.W.OpenLaw} {n k : Nat} {q : Program} {loose : List Str} {XP : (Str → Option Value) → Heap → Prop} {YP : World → Heap → Prop} {d : DefRec} {x : Str}
    (hn : l.most = some n) (hn2 : n ≤ sizeLine) (hdf : d.params.defaults = []) (room : Room k callerA)
    (F : ∀ (w : World) (mg : Str → Option Value) (fa : Addr) (h : Heap), YP w h → h.Ns mainGlobals mg → mg d.name = some (.ref fa) →
      ∃ (K : PySem.W.Frag) (fd : FuncData) (sp : Sp), K.In h ∧ (∀ (s : Shared) (u : Value), BindsTo s fd ⟨[u], []⟩ [(x, u)]) ∧
        (∀ (H : Hp) (a : Addr) (ns : List Int), ns.length ≤ n → Only H → SqL K H a (ns.map V.int) → sp [.ref a] H (fun v _ => v = .bl true) fun _ _ _ => False) ∧
        ∀ base : Heap, K.In base → base.Ns mainGlobals mg → FnG l.prog w K mg base CX0 k fa fd [x] sp) :
    PySem.W.WalkO q loose XP YP l.row.toRowW d [] (fun f vs => PySem.call f vs) := by
  refine Att.attach_call hn hdf (fun w s₀ s₁ mg mb fa o pm cd doc a vs ns G Y ho hd hcd hmg hobj hints hlen hg => ?_)
  obtain ⟨K, fd, sp, inK, hbd, hsp, hF⟩ := F w mg fa _ Y G.T.g hmg
  exact lawG inK G.T.g G.T.b G.T.builtins G.T.nolimit hg hobj hints (Nat.le_trans hlen hn2) room hF hbd (fun H only sq => hsp H a ns hlen only sq)
end Gd

set_option Elab.async false
set_option linter.all false
set_option maxRecDepth 100000
set_option maxHeartbeats 4000000
/-! repr of data at any depth. -/
namespace Gd
open PySem PySem.Spec PyProof.Rows L2

/-- the repr of a key -/
inductive KeyT : Key → Str → Prop
  | int (i : Int) (h : i.natAbs.log2 < 1920) : KeyT (.inl i) (toString i)
  | str (x : Str) (h : (reprText x).length ≤ sizeLine) : KeyT (.inr x) (reprText x)
/-- x is data of depth d at the addresses as, its repr is t -/
inductive Rp (H : Hp) : List Addr → Nat → V → Str → Prop
  | non {as d} : Rp H as d .non "None"
  | bl {as d} (b : Bool) : Rp H as d (.bl b) (if b then "True" else "False")
  | int {as d} (i : Int) (h : i.natAbs.log2 < 1920) : Rp H as d (.int i) (toString i)
  | str {as d} (x : Str) (h : (reprText x).length ≤ sizeLine) : Rp H as d (.str x) (reprText x)
  | lst {as as0 d a xs ts} (h : H a = some (.lst xs)) (na : a ∉ as0) (sub : ∀ b ∈ a :: as0, b ∈ as) (nl : ts.length = xs.length)
      (it : ∀ (i : Nat) (x : V) (t : Str), xs[i]? = some x → ts[i]? = some t → Rp H as0 d x t) : Rp H as (d + 1) (.ref a) (listText ts)
  | tup {as as0 d a xs ts} (h : H a = some (.tup xs)) (na : a ∉ as0) (sub : ∀ b ∈ a :: as0, b ∈ as) (nl : ts.length = xs.length)
      (it : ∀ (i : Nat) (x : V) (t : Str), xs[i]? = some x → ts[i]? = some t → Rp H as0 d x t) : Rp H as (d + 1) (.ref a) (tupleText ts)
  | dic {as as0 d a} {kvs : List (Key × V)} {ps : List (Str × Str)} (h : H a = some (.dK kvs)) (na : a ∉ as0) (sub : ∀ b ∈ a :: as0, b ∈ as) (nl : ps.length = kvs.length)
      (ke : ∀ (i : Nat) (q : Key × V) (p : Str × Str), kvs[i]? = some q → ps[i]? = some p → KeyT q.1 p.1)
      (it : ∀ (i : Nat) (q : Key × V) (p : Str × Str), kvs[i]? = some q → ps[i]? = some p → Rp H as0 d q.2 p.2) : Rp H as (d + 1) (.ref a) (dictText (ps.map fun p => p.1 ++ ": " ++ p.2))

theorem Rp.more {H : Hp} {as as' : List Addr} {d : Nat} {x : V} {t : Str} (r : Rp H as d x t) (h : ∀ b ∈ as, b ∈ as') : Rp H as' d x t := by
  cases r with
  | non => exact .non
  | bl b => exact .bl b
  | int i z => exact .int i z
  | str y z => exact .str y z
  | lst a na sub nl it => exact .lst a na (fun b hb => h b (sub b hb)) nl it
  | tup a na sub nl it => exact .tup a na (fun b hb => h b (sub b hb)) nl it
  | dic a na sub nl ke it => exact .dic a na (fun b hb => h b (sub b hb)) nl ke it
theorem Rp.deep {H : Hp} {as : List Addr} {d : Nat} {x : V} {t : Str} (r : Rp H as d x t) : ∀ d', d ≤ d' → Rp H as d' x t := by
  induction r with
  | non => exact fun _ _ => .non
  | bl b => exact fun _ _ => .bl b
  | int i z => exact fun _ _ => .int i z
  | str y z => exact fun _ _ => .str y z
  | lst a na sub nl it ih =>
    intro d' hd
    obtain ⟨e, rfl⟩ : ∃ e, d' = e + 1 := ⟨d' - 1, by omega⟩
    exact .lst a na sub nl fun i x t h1 h2 => ih i x t h1 h2 e (by omega)
  | tup a na sub nl it ih =>
    intro d' hd
    obtain ⟨e, rfl⟩ : ∃ e, d' = e + 1 := ⟨d' - 1, by omega⟩
    exact .tup a na sub nl fun i x t h1 h2 => ih i x t h1 h2 e (by omega)
  | dic a na sub nl ke it ih =>
    intro d' hd
    obtain ⟨e, rfl⟩ : ∃ e, d' = e + 1 := ⟨d' - 1, by omega⟩
    exact .dic a na sub nl ke fun i q p h1 h2 => ih i q p h1 h2 e (by omega)
/-- what it hangs on stands -/
theorem Rp.keep {H H' : Hp} {as : List Addr} {d : Nat} {x : V} {t : Str} (r : Rp H as d x t) : (∀ b ∈ as, ∀ o, H b = some o → H' b = some o) → Rp H' as d x t := by
  induction r with
  | non => exact fun _ => .non
  | bl b => exact fun _ => .bl b
  | int i z => exact fun _ => .int i z
  | str y z => exact fun _ => .str y z
  | lst a na sub nl it ih => exact fun k => .lst (k _ (sub _ List.mem_cons_self) _ a) na sub nl fun i x t h1 h2 => ih i x t h1 h2 fun b hb => k b (sub b (List.mem_cons_of_mem _ hb))
  | tup a na sub nl it ih => exact fun k => .tup (k _ (sub _ List.mem_cons_self) _ a) na sub nl fun i x t h1 h2 => ih i x t h1 h2 fun b hb => k b (sub b (List.mem_cons_of_mem _ hb))
  | dic a na sub nl ke it ih => exact fun k => .dic (k _ (sub _ List.mem_cons_self) _ a) na sub nl ke fun i q p h1 h2 => ih i q p h1 h2 fun b hb => k b (sub b (List.mem_cons_of_mem _ hb))

section
variable {P : Program} {w : World} {H : Hp} {h : Heap}
theorem keyT_repr {k : Key} {t : Str} {v : Value} (hk : KeyT k t) (e : keyIs k v = true) {as : List Addr} {d : Nat} : ReprK P w as h d v t := by
  cases hk with
  | int i z =>
    obtain ⟨tk, rfl⟩ := Value.isInt_shape (k := i) (v := v) e
    exact .of_is (.int tk z) _ _ _
  | str x z =>
    obtain ⟨tk, rfl⟩ := Value.isStrOf_shape (x := x) (v := v) e
    exact .of_is (.str x tk z) _ _ _
theorem kv_pairs : ∀ {kvs : List (Key × V)} {vs : List (Key × Value)} {es : List DictEntry}, KV kvs vs → Pairs (mixKind P w) es vs →
    es.length = kvs.length ∧ ∀ (i : Nat) (e : DictEntry), es[i]? = some e → ∃ q, kvs[i]? = some q ∧ keyIs q.1 e.key = true ∧ RelV q.2 e.val
  | _, _, _, .nil, .nil => ⟨rfl, fun i e z => nomatch (show none = some e by simpa using z)⟩
  | _, _, _, .cons (a := a) (b := b) r k, .cons (e := e0) hk hv pr => by
    obtain ⟨h1, h2⟩ := kv_pairs k pr
    refine ⟨by simp [h1], fun i e z => ?_⟩
    cases i with
    | zero =>
      have z' : e0 = e := by simpa using z
      subst z'
      refine ⟨a, rfl, ?_, ?_⟩
      · rw [r.1]; exact hk
      · rw [hv]; exact r.2
    | succ i => exact h2 i e (by simpa using z)
theorem Rp.repr (hok : HOk P w H h) {as : List Addr} {d : Nat} {x : V} {t : Str} (r : Rp H as d x t) : ∀ u, RelV x u → ReprK P w as h d u t := by
  induction r with
  | non =>
    rintro u rfl
    exact .of_is .none _ _ _
  | bl b =>
    rintro u rfl
    exact .of_is (.bool b) _ _ _
  | int i z =>
    rintro u ⟨tk, rfl⟩
    exact .of_is (.int tk z) _ _ _
  | str y z =>
    rintro u ⟨tk, rfl⟩
    exact .of_is (.str y tk z) _ _ _
  | @lst as as0 d a xs ts ha na sub nl it ih =>
    intro u ru
    obtain rfl : u = Value.ref a := ru
    obtain ⟨_, its, n, rv, ho⟩ := (show ObjOk P w H h a (.lst xs) from hok a _ ha)
    have nits := rv.length
    cases its with
    | nil =>
      have e1 : ts = [] := List.length_eq_zero_iff.mp (by rw [nl]; simpa using nits)
      subst e1
      exact (ReprK.listEmpty (d := d + 1) ho rfl rfl).more fun b hb => hb
    | cons y l =>
      refine (ReprK.list (as := as0) (d := d) ho rfl rfl na (by rw [nl, nits]; simp) fun i z hz => ?_).more sub
      have hz' : (y :: l)[i]? = some z := by simpa using hz
      have hi : i < xs.length := by
        rw [nits]
        exact (List.getElem?_eq_some_iff.mp hz').1
      obtain ⟨u2, hu2, r2⟩ := rv.get (List.getElem?_eq_getElem hi)
      rw [hz'] at hu2
      cases hu2
      refine ⟨ts[i]'(by omega), List.getElem?_eq_getElem _, ih i _ _ (List.getElem?_eq_getElem hi) (List.getElem?_eq_getElem _) z r2⟩
  | @tup as as0 d a xs ts ha na sub nl it ih =>
    intro u ru
    obtain rfl : u = Value.ref a := ru
    obtain ⟨_, its, rv, o, ho, hc, n, hd⟩ := (show ObjOk P w H h a (.tup xs) from hok a _ ha)
    refine (ReprK.tuple (as := as0) (d := d) ho hc hd na ?_).more sub
    have all : ∀ (xs : List V) (its : List Value) (ts : List Str), Vals xs its → ts.length = xs.length → (∀ (i : Nat) (x : V) (t : Str), xs[i]? = some x → ts[i]? = some t → ∀ u, RelV x u → ReprK P w as0 h d u t) → ReprAllK P w as0 h d its ts := by
      intro xs its ts rv
      induction rv generalizing ts with
      | nil =>
        intro e _
        have e1 : ts = [] := List.length_eq_zero_iff.mp (by simpa using e)
        subst e1
        exact .nil
      | cons r1 _ ihh =>
        intro e k
        cases ts with
        | nil => simp at e
        | cons t ts =>
          exact .cons (k 0 _ _ rfl rfl _ r1) (ihh ts (by simpa using e) fun i x t h1 h2 => k (i + 1) x t (by simpa using h1) (by simpa using h2))
    simpa using all xs its ts rv nl ih
  | @dic as as0 d a kvs ps ha na sub nl ke it ih =>
    intro u ru
    obtain rfl : u = Value.ref a := ru
    obtain ⟨_, hsys, vs, kv, o, es, ep, ho, hx, hd, _, pr, _⟩ := (show ObjOk P w H h a (.dK kvs) from hok a _ ha)
    refine (ReprK.dict (as := as0) (d := d) ho hx.1 hd hsys na ?_).more sub
    obtain ⟨n1, n2⟩ := kv_pairs kv pr
    have all : ∀ (l : List DictEntry) (qs : List (Str × Str)), qs.length = l.length → (∀ (i : Nat) (e : DictEntry) (p : Str × Str), l[i]? = some e → qs[i]? = some p → ReprK P w as0 h d e.key p.1 ∧ ReprK P w as0 h d e.val p.2) →
        ReprEntriesK P w as0 h d l (qs.map fun p => p.1 ++ ": " ++ p.2) := by
      intro l
      induction l with
      | nil =>
        intro qs e _
        have e1 : qs = [] := List.length_eq_zero_iff.mp (by simpa using e)
        subst e1
        exact .nil
      | cons e l ihh =>
        intro qs n k
        cases qs with
        | nil => simp at n
        | cons q qs =>
          obtain ⟨k1, k2⟩ := k 0 e q rfl rfl
          exact .cons k1 k2 (ihh qs (by simpa using n) fun i e p h1 h2 => k (i + 1) e p (by simpa using h1) (by simpa using h2))
    refine all es.toList ps (by rw [nl, n1]) fun i e p h1 h2 => ?_
    obtain ⟨q, hq, hk, hv⟩ := n2 i e h1
    exact ⟨keyT_repr (ke i q p hq h2) hk, ih i q p hq h2 _ hv⟩
end

section
variable {prog : Program} {w : World} {A : Around} {E : Value → Shared → Prop} {s : Shared}
/-- repr(v), by the type's own method -/
theorem repr_slot {T id : String} {v : Value} {Q : Value → Shared → Prop} (hT : s.TypeIs v T) (slot : SlotG T (Str.ofString "__repr__") id) (hu : A.units + 1 < cLine)
    (hc : wpAny (model prog w) A.in1 (call (.builtin id) [v]) (fun r s' => (∃ x u, r = .str x u) ∧ Q r s') E s) : wpAny (model prog w) A (call (.builtin "repr") [v]) Q E s := by
  refine Calls.call_function_entry F.kind_repr F.plain_repr F.entry_repr (F.args_repr1 _) ?_
  unfold Builtin.«repr»
  refine wpAny_bind (m := oneArg "repr" _) (wpAny_pure ?_)
  refine wpAny_bind (wpAny_cRoomFor (by show A.units + 1 < cLine; exact hu) ?_)
  refine wpAny_bind (wpAny_specialOf (name := Str.ofString "__repr__") hT slot.lookup ?_)
  refine wpAny_bind (m := callSpecialIfBound? v (Str.ofString "__repr__")) (wpAny_callSpecialIfBound?_slotG (name := Str.ofString "__repr__") hT slot (wpAny_mono hc (fun r s' hr => ?_) fun _ _ y => y))
  obtain ⟨⟨x, u, rfl⟩, q⟩ := hr
  refine wpAny_bind (wpAny_isInstance (T := "str") (b := true) rfl isSubtype_str_str ?_)
  exact wpAny_pure ⟨_, rfl, q⟩
end

/-- repr(x), x data -/
def rRepr : List V → Hp → VK → Prop := fun vs H Q => ∃ (x : V) (as : List Addr) (d : Nat) (t : Str), vs = [x] ∧ Rp H as d x t ∧ d ≤ 40 ∧ t.length ≤ sizeLine ∧ Q (.str t) H
theorem call_repr {X : Cx} {k : Nat} (hG : Bare X.A) (hr : Room k X.A) : CallR X (.builtin "repr") rRepr := by
  intro pins s σ H vs us Q I r want
  obtain ⟨x, as, d, t, rfl, rp, hd, hz, q⟩ := want
  obtain ⟨u, rfl, ru⟩ := vals1 r
  have hu := hr.units
  have fin : ∀ h' u2 tk, (∀ b o, s.heap.get? b = some o → h'.get? b = some o) → EP X pins σ Q (.str t u2) { s with heap := h', toks := tk } := fun h' u2 tk k => ⟨.str t, H, I.kept k, ⟨u2, rfl⟩, q⟩
  cases rp with
  | non =>
    cases ru
    exact PySem.P.repr_of_none (fin s.heap _ _ fun _ _ e => e)
  | bl b =>
    cases ru
    exact PySem.P.repr_of_bool (fin s.heap _ _ fun _ _ e => e)
  | int i z =>
    obtain ⟨tk, rfl⟩ := ru
    exact PySem.P.repr_of_int z (fin s.heap _ _ fun _ _ e => e)
  | str y z =>
    obtain ⟨tk, rfl⟩ := ru
    exact PySem.P.repr_of_str (fin s.heap _ _ fun _ _ e => e) z
  | @lst _ as0 d a xs ts ha na sub nl it =>
    obtain rfl : u = Value.ref a := ru
    obtain ⟨_, its, n, rv, ho⟩ := (show ObjOk X.prog X.w H s.heap a (.lst xs) from I.hok a _ ha)
    have nits := rv.length
    refine repr_slot ⟨_, ho, rfl⟩ F.slot_list_repr.toG (by omega) ?_
    cases its with
    | nil =>
      have e1 : ts = [] := List.length_eq_zero_iff.mp (by rw [nl]; simpa using nits)
      subst e1
      exact PySem.call_list_repr_empty ⟨_, ho, rfl⟩ ho rfl ⟨⟨_, _, rfl⟩, fin s.heap _ _ fun _ _ e => e⟩
    | cons y l =>
      refine PySem.call_list_reprK (g := []) (as := as0) (d := d) (h₀ := s.heap) ho rfl rfl na (by rw [nl, nits]; simp) (fun i z hz => ?_) hG (fun b _ => Clear.nil b) (by show X.A.units + 1 + (d + 1) < cLine; omega) (fun _ _ e => e)
        (fun h' u2 tk k => ⟨⟨_, _, rfl⟩, fin h' u2 tk k⟩) hz
      have hz' : (y :: l)[i]? = some z := by simpa using hz
      have hi : i < xs.length := by
        rw [nits]
        exact (List.getElem?_eq_some_iff.mp hz').1
      obtain ⟨u2, hu2, r2⟩ := rv.get (List.getElem?_eq_getElem hi)
      rw [hz'] at hu2
      cases hu2
      exact ⟨ts[i]'(by omega), List.getElem?_eq_getElem _, (it i _ _ (List.getElem?_eq_getElem hi) (List.getElem?_eq_getElem _)).repr I.hok z r2⟩
  | @tup _ as0 d a xs ts ha na sub nl it =>
    obtain rfl : u = Value.ref a := ru
    have rk := (Rp.tup ha na sub nl it).repr I.hok (.ref a) rfl
    obtain ⟨_, its, rv, o, ho, hc, n, hdt⟩ := (show ObjOk X.prog X.w H s.heap a (.tup xs) from I.hok a _ ha)
    refine repr_slot ⟨_, ho, hc⟩ F.slot_tuple_repr (by omega) ?_
    refine PySem.call_tuple_reprK (g := []) (as := as0) (d := d) (h₀ := s.heap) ho hc hdt na ?_ hG (fun b _ => Clear.nil b) (by show X.A.units + 1 + (d + 1) < cLine; omega) (fun _ _ e => e)
        (fun h' u2 tk k => ⟨⟨_, _, rfl⟩, fin h' u2 tk k⟩) hz
    have all : ∀ (xs : List V) (its : List Value) (ts : List Str), Vals xs its → ts.length = xs.length → (∀ (i : Nat) (x : V) (t : Str), xs[i]? = some x → ts[i]? = some t → ∀ u, RelV x u → ReprK X.prog X.w as0 s.heap d u t) → ReprAllK X.prog X.w as0 s.heap d its ts := by
      intro xs its ts rv
      induction rv generalizing ts with
      | nil =>
        intro e _
        have e1 : ts = [] := List.length_eq_zero_iff.mp (by simpa using e)
        subst e1
        exact .nil
      | cons r1 _ ihh =>
        intro e k
        cases ts with
        | nil => simp at e
        | cons t ts =>
          exact .cons (k 0 _ _ rfl rfl _ r1) (ihh ts (by simpa using e) fun i x t h1 h2 => k (i + 1) x t (by simpa using h1) (by simpa using h2))
    simpa using all xs its ts rv nl fun i x t h1 h2 => (it i x t h1 h2).repr I.hok
  | @dic _ as0 d a kvs ps ha na sub nl ke it =>
    obtain rfl : u = Value.ref a := ru
    obtain ⟨_, hsys, vs, kv, o, es, ep, ho, hx, hdt, _, pr, _⟩ := (show ObjOk X.prog X.w H s.heap a (.dK kvs) from I.hok a _ ha)
    refine repr_slot ⟨_, ho, hx.1⟩ F.slot_dict_repr (by omega) ?_
    refine PySem.call_dict_reprK (g := []) (as := as0) (d := d) (h₀ := s.heap) ho hx.1 hdt hsys na ?_ hG (fun b _ => Clear.nil b) (by show X.A.units + 1 + (d + 1) < cLine; omega) (fun _ _ e => e)
        (fun h' u2 tk k => ⟨⟨_, _, rfl⟩, fin h' u2 tk k⟩) hz
    obtain ⟨n1, n2⟩ := kv_pairs kv pr
    have all : ∀ (l : List DictEntry) (qs : List (Str × Str)), qs.length = l.length → (∀ (i : Nat) (e : DictEntry) (p : Str × Str), l[i]? = some e → qs[i]? = some p → ReprK X.prog X.w as0 s.heap d e.key p.1 ∧ ReprK X.prog X.w as0 s.heap d e.val p.2) →
        ReprEntriesK X.prog X.w as0 s.heap d l (qs.map fun p => p.1 ++ ": " ++ p.2) := by
      intro l
      induction l with
      | nil =>
        intro qs e _
        have e1 : qs = [] := List.length_eq_zero_iff.mp (by simpa using e)
        subst e1
        exact .nil
      | cons e l ihh =>
        intro qs n k
        cases qs with
        | nil => simp at n
        | cons q qs =>
          obtain ⟨k1, k2⟩ := k 0 e q rfl rfl
          exact .cons k1 k2 (ihh qs (by simpa using n) fun i e p h1 h2 => k (i + 1) e p (by simpa using h1) (by simpa using h2))
    refine all es.toList ps (by rw [nl, n1]) fun i e p h1 h2 => ?_
    obtain ⟨q, hq, hk, hv⟩ := n2 i e h1
    exact ⟨keyT_repr (ke i q p hq h2) hk, (it i q p hq h2).repr I.hok _ hv⟩
end Gd

set_option Elab.async false
set_option linter.all false
set_option maxRecDepth 100000
set_option maxHeartbeats 4000000
/-! Own exceptions made with keywords, over any of the built-in bases. -/
namespace Ge
open PySem
open PySem.Builtin PySem.Builtin.ObjectAttr PySem.HandSPX
section
variable {M : Model} {A : Around} {E : Value → Shared → Prop} {h : Heap} {g : Array GenState} {d : Drawn} {t : Nat} {os : OsState}
variable {nm q : Str} {C N : Addr} {bs bm bmB : List Value} {hdct : Bool} {sn : List Str} {sub : List Value} {ab : Bool} {col : Option Bool} {dd : Option Addr} {k0 k1 k2 k3 k5 : Option Value} {B newId initId : String}
theorem chk_new (F : ExcBaseFacts B newId initId bmB) (hT : ∀ X : String, bm.contains (.type X) = bmB.contains (.type X)) {rest : List Value} {kw : List (Str × Value)} {Q : Unit → Shared → Prop}
    (hC : h.get? C = some (excClassObj nm q C N bs bm hdct sn sub ab col dd k0 k1 k2 k3 k5 newId)) (hq : Q () ⟨h, g, d, t, os⟩) : wpAny M A (checkBuiltinCall newId ⟨.ref C :: rest, kw⟩) Q E ⟨h, g, d, t, os⟩ := by
  have has : (Value.ref C :: bm).contains (.type B) = true := by (rw [List.contains_cons, hT, F.hasB]; exact Bool.or_true _)
  have star := F.noStar
  simp only [checkBuiltinCall, F.newKind, F.newSplit, F.newRow, Bind.checkArgs, Bind.check]
  repeat (first | refine wpAny_loadPart_at hC ?_ | (refine wpAny_isSubtype_exc hC ?_; rw [has]) | refine wpAny_staticBase_exc hC ?_ | refine wpAny_madeBy_exc hC ?_ | simp only [bne_self_eq_false, Bool.false_eq_true, if_false] | wp_step)
  all_goals exact hq
end

section
variable {prog : Program} {w : World} {A : Around} {E : Value → Shared → Prop} {R : Result → Shared → Prop} {h : Heap} {g : Array GenState} {d : Drawn} {t : Nat} {os : OsState}
variable {nm q : Str} {C N : Addr} {bs bm bmB : List Value} {hdct : Bool} {sn : List Str} {sub : List Value} {ab : Bool} {col : Option Bool} {dd : Option Addr} {k0 k1 k2 k3 k5 : Option Value} {B newId initId : String}
/-- what lies behind a class's __new__ -/
abbrev newHeap (h : Heap) (C : Addr) (rest : List Value) : Heap := (h.push (W.kdv_tup rest)).push (excO C h.objs.size)
theorem new_any (F : ExcBaseFacts B newId initId bmB) (hT : ∀ X : String, bm.contains (.type X) = bmB.contains (.type X)) {rest : List Value} {kw : List (Str × Value)}
    (hC : h.get? C = some (excClassObj nm q C N bs bm hdct sn sub ab col dd k0 k1 k2 k3 k5 newId)) (hz : rest.length ≤ sizeLine) (hq : R (.ok (.ret (.ref (h.objs.size + 1)))) ⟨newHeap h C rest, g, d, t, os⟩) :
    codeAny (model prog w) A (.builtin newId ⟨.ref C :: rest, kw⟩) R ⟨h, g, d, t, os⟩ := by
  have ends := F.ends
  have isB : (Value.ref C :: bm).contains (.type B) = true := by (rw [List.contains_cons, hT, F.hasB]; exact Bool.or_true _)
  have noA : (Value.ref C :: bm).contains (.type "AttributeError") = false := by (rw [List.contains_cons, hT, F.noAttr]; exact rfl)
  have noN : (Value.ref C :: bm).contains (.type "NameError") = false := by (rw [List.contains_cons, hT, F.noName]; exact rfl)
  refine codeAny_builtinAt F.entry ?_
  (unfold Builtin.«BaseException.__new__»; refine wpAt_bind ?_)
  show wpAt _ _ _ (stack >>= _) _ _ _
  (refine wpAt_bind (wpAt_stack fun p below => wpAt_of_wpAny ?_); wp_walk; refine wpAt_of_wpAny ?_; rw [F.owner])
  repeat (first | with_reducible refine wpAny_madeHere_exc F.canon hC ?_ | with_reducible refine wpAny_loadPart_at hC ?_ | (with_reducible refine wpAny_isSubtype_exc hC ?_; first | rw [isB] | rw [noA] | rw [noN]) | wp_step)
  show R _ _
  rw [Heap.size_push]
  exact hq
theorem type_call_any (F : ExcBaseFacts B newId initId bmB) (hT : ∀ X : String, bm.contains (.type X) = bmB.contains (.type X)) {rest : List Value} {kw : List (Str × Value)} {fI : Addr} {Q : Fin → Shared → Prop}
    (hC : h.get? C = some (excClassObj nm q C N bs bm hdct sn sub ab col dd k0 k1 k2 k3 k5 newId)) (hi : W.Looks (model prog w) h (typeLookup (.ref C) "__init__") (some (.ref fI)))
    (hb : ∀ self, W.Looks (model prog w) h (bindSpecial (.ref fI) self) (.ref fI, [self])) (hz : rest.length ≤ sizeLine)
    (hq : codeAny (model prog w) A (.call (.ref fI) ⟨.ref (h.objs.size + 1) :: rest, kw⟩)
      (fun r s' => match r with | .ok (.ret v) => v = .none ∧ Q (.done (.ret (.ref (h.objs.size + 1)))) s' | .ok _ => False | .error e => E e s') ⟨newHeap h C rest, g, d, t, os⟩) :
    wpAny (model prog w) A (Builtin.«type.__call__» ⟨.ref C :: rest, kw⟩) Q E ⟨h, g, d, t, os⟩ := by
  repeat (first | with_reducible refine wpAny_loadPart_at hC ?_ | with_reducible refine wpAny_madeBy_exc hC ?_ | wp_step)
  refine codeAny_call_builtin_code (Code.quiet_builtin _ F.quiet) (chk_new F hT hC (new_any F hT hC hz ?_))
  show wpAny _ _ _ _ _ _
  have k : ∀ b o, h.get? b = some o → (newHeap h C rest).get? b = some o := fun b o z => Heap.get?_push_of_some _ (Heap.get?_push_of_some _ z)
  have c1 := k _ _ hC
  have x1 : (newHeap h C rest).get? (h.objs.size + 1) = some (excO C h.objs.size) := by (show ((h.push (W.kdv_tup rest)).push (excO C h.objs.size)).get? (h.objs.size + 1) = _; heap_get)
  have self : (Value.ref C :: bm).contains (.ref C) = true := by simp only [List.contains_cons, beq_self_eq_true, Bool.true_or]
  have i1 := hi.keeps k
  have b1 := (hb (.ref (h.objs.size + 1))).keeps k
  unfold isInstance
  repeat (first | with_reducible refine wpAny_loadPart_at x1 ?_ | (with_reducible refine wpAny_isSubtype_exc c1 ?_; rw [self]) | wp_step)
  show wpAny _ _ (typeLookup (.ref C) _) _ _ _
  refine i1.at (wpAny_holding (wpAny_bind (b1.at ?_)))
  refine wpAny_bind (wpAny_call (codeAny_mono hq fun r s' z => ?_))
  cases r with
  | error e => exact z
  | ok fl =>
    cases fl with
    | ret v =>
      obtain ⟨rfl, z⟩ := z
      first
        | exact wpAny_pure (wpAny_pure z)
        | (wp_walk; exact z)
    | next => exact z.elim
    | brk => exact z.elim
    | cont => exact z.elim
theorem call_any (F : ExcBaseFacts B newId initId bmB) (hT : ∀ X : String, bm.contains (.type X) = bmB.contains (.type X)) {rest : List Value} {kw : List (Str × Value)} {fI : Addr}
    (hC : h.get? C = some (excClassObj nm q C N bs bm hdct sn sub ab col dd k0 k1 k2 k3 k5 newId)) (hi : W.Looks (model prog w) h (typeLookup (.ref C) "__init__") (some (.ref fI)))
    (hb : ∀ self, W.Looks (model prog w) h (bindSpecial (.ref fI) self) (.ref fI, [self])) (hz : rest.length ≤ sizeLine)
    (hq : codeAny (model prog w) (A.under (.builtin "type.__call__" ⟨.ref C :: rest, kw⟩)) (.call (.ref fI) ⟨.ref (h.objs.size + 1) :: rest, kw⟩) (W.InitBack (h.objs.size + 1) R) ⟨newHeap h C rest, g, d, t, os⟩) :
    codeAny (model prog w) A (.call (.ref C) ⟨rest, kw⟩) R ⟨h, g, d, t, os⟩ := by
  have f1 := tc_lookup
  have f2 := tc_bind (.ref C)
  have isT : (⟨h, g, d, t, os⟩ : Shared).TypeIs (.ref C) "type" := ⟨_, hC, rfl⟩
  refine codeAny_of_tree ?_
  show wpAny _ _ (callAny (.ref C) _) _ _ _
  repeat (any_goals (first | assumption | with_reducible refine wpAny_loadPart_at hC ?_ | wp_step))
  refine ⟨rfl, codeAny_call_builtin_at (Code.quiet_builtin _ (by decide +kernel)) entry_typeCall (wpAny_check_type_call_sub hC (type_call_any F hT hC hi hb hz ?_))⟩
  refine codeAny_mono hq fun r s' z => ?_
  cases r with
  | error e => exact z
  | ok fl => cases fl <;> exact z
end
end Ge

set_option Elab.async false
set_option linter.all false
set_option maxRecDepth 100000
set_option maxHeartbeats 4000000
/-! An own error class whose __init__ stores its parameters: made, held, read. -/
namespace Ge
open PySem PySem.Spec L2
open PySem.Builtin PySem.Builtin.ObjectAttr PySem.HandSPX

/-- what the written part says of such a class at C, its __init__ at fI, its fields fs -/
structure EC (K : W.Frag) (C fI : Addr) (B newId initId : String) (bmB : List Value) (fs : List Str) : Prop where
  base : ExcBaseFacts B newId initId bmB
  sto : StoreFacts B bmB "object.__setattr__" "object"
  init : W.excInitIn K C bmB newId = true
  over : W.excOver K C bmB = true
  keep : W.keepIn K (.ref C) = true
  iC : W.findIn K (.ref C) "__init__" = some (some (.ref fI))
  tI : W.typeIn K (.ref fI) = some (.type "function")
  sa : W.findIn K (.ref C) "__setattr__" = some (some (.builtin "object.__setattr__"))
  hd : W.hasDictIn K C = true
  tak : ∀ f ∈ fs, W.takerIn K C f = some none

section
variable {prog : Program} {w : World} {A : Around} {E : Value → Shared → Prop} {R : Result → Shared → Prop} {hp : Heap} {g : Array GenState} {d : Drawn} {t : Nat} {os : OsState}
variable {K : W.Frag} {C fI : Addr} {B newId initId : String} {bmB : List Value} {fs : List Str} {name : Str} {v : Value}
/-- x.name = v, the first one -/
theorem put_new (T : EC K C fI B newId initId bmB fs) {tk : Tok} {x : Addr} {fv : Array Value} (X : K.In hp) (hx : hp.get? x = some { cls := .ref C, data := .fields fv }) (ht : name ∈ fs)
    (hq : ∀ h' tk' dx, (∀ b o, b ≠ x → hp.get? b = some o → h'.get? b = some o) → hp.objs.size ≤ dx → dx ≠ x → h'.get? x = some { cls := .ref C, dict := some dx, data := .fields fv } →
      h'.Ns1 dx (fun y => if y = name then some v else none) → R (.ok (.ret .none)) ⟨h', g, d, tk', os⟩) :
    codeAny (model prog w) A (.call (.builtin "object.__setattr__") ⟨[.ref x, .str name tk, v], []⟩) R ⟨hp, g, d, t, os⟩ := by
  obtain ⟨cd, hc, hdct⟩ := W.any_some T.hd
  have xs : x ≠ hp.objs.size := Nat.ne_of_lt (Heap.lt_size hx)
  have cls : W.Looks (model prog w) hp (classData C) cd := W.looks_clsIn X hc
  refine W.osa_openX (od := none) T.sto X ⟨hx, rfl, rfl, trivial⟩ T.over (T.tak _ ht) (fun b => ?_)
  show wpAny _ _ (storeInOwnDict (.ref x) (.ref C) (.str name tk) name v b) _ _ _
  obtain ⟨nm, bs, mro, ns, qn, has, sn, sb, ab, col, del⟩ := cd
  (dsimp only at hdct; subst hdct)
  (unfold storeInOwnDict ownDictForStores)
  repeat (first | with_reducible refine store_in_new ?_ ?_ | with_reducible refine wpAny_loadPart_at hx ?_ | with_reducible refine cls.at ?_ | wp_step)
  · exact ⟨_, #[], _, (Heap.get?_update_ne _ _ _ _ xs.symm).trans (Heap.get?_push_at rfl rfl), rfl, fun e he => absurd he (by simp), fun _ => rfl⟩
  · intro h' tk' hn' hs
    have hx1 : (hp.push { cls := .type "dict", data := .dict #[] }).get? x = some { cls := .ref C, data := .fields fv } := Heap.get?_push_of_some _ hx
    refine hq h' tk' hp.objs.size (fun b o hb ho => ?_) (Nat.le_refl _) xs.symm ((hs.2 x xs).trans (Heap.get?_update_self _ hx1 rfl)) hn'
    exact (hs.2 b (Nat.ne_of_lt (Heap.lt_size ho))).trans ((Heap.get?_update_ne _ _ _ _ hb).trans (Heap.get?_push_of_some _ ho))
/-- .. a further one -/
theorem put_old (T : EC K C fI B newId initId bmB fs) {tk : Tok} {x dx : Addr} {fv : Array Value} {m0 : Str → Option Value} {nl : List Str} (X : K.In hp) (hx : hp.get? x = some { cls := .ref C, dict := some dx, data := .fields fv }) (hn : hp.Ns1 dx m0)
    (hw : Within m0 nl) (hz : nl.length ≤ 1000) (ht : name ∈ fs)
    (hq : ∀ h' tk', (∀ b o, b ≠ dx → hp.get? b = some o → h'.get? b = some o) → h'.Ns1 dx (fun y => if y = name then some v else m0 y) → R (.ok (.ret .none)) ⟨h', g, d, tk', os⟩) :
    codeAny (model prog w) A (.call (.builtin "object.__setattr__") ⟨[.ref x, .str name tk, v], []⟩) R ⟨hp, g, d, t, os⟩ := by
  obtain ⟨cd, hc, hdct⟩ := W.any_some T.hd
  obtain ⟨oD, esD, epD, hoD, hdD, _⟩ := hn.count hw
  have cls : W.Looks (model prog w) hp (classData C) cd := W.looks_clsIn X hc
  refine W.osa_openX (od := some oD) T.sto X ⟨hx, rfl, rfl, hoD⟩ T.over (T.tak _ ht) (fun b => ?_)
  show wpAny _ _ (storeInOwnDict (.ref x) (.ref C) (.str name tk) name v b) _ _ _
  obtain ⟨nm, bs, mro, ns, qn, has, sn, sb, ab, col, del⟩ := cd
  (dsimp only at hdct; subst hdct)
  (unfold storeInOwnDict ownDictForStores)
  repeat (first | with_reducible refine OEX.store_in_old hn hw hz ?_ | with_reducible refine wpAny_loadPart_at hx ?_ | with_reducible refine cls.at ?_ | wp_step)
  intro h' tk' hn' hs
  exact hq h' tk' (fun b o hb ho => (hs.2 b hb).trans ho) hn'
end

/-- a made error: e, its dict d with the fields m -/
structure Made (h h' : Heap) (e C d : Addr) (m : Str → Option Value) : Prop where
  keep : ∀ b o, h.get? b = some o → h'.get? b = some o
  new : h.objs.size ≤ e
  obj : ∃ t1 : Addr, h'.get? e = some { cls := .ref C, dict := some d, data := .fields #[.ref t1, .none, .none, .none, .bool false, .none] }
  dbig : h.objs.size ≤ d
  dne : d ≠ e
  ns : h'.Ns1 d m
def iBody1 (f : Str) (q1 q2 q3 q4 : Pos) : List Stmt := [.Assign [.Attribute (.Name "self" q1) f q2] (.Name f q3) q4]
def iBody2 (f f2 : Str) (q1 q2 q3 q4 r1 r2 r3 r4 : Pos) : List Stmt := [.Assign [.Attribute (.Name "self" q1) f q2] (.Name f q3) q4, .Assign [.Attribute (.Name "self" r1) f2 r2] (.Name f2 r3) r4]
def iScope (names : List Str) : Scope := { kind := .function, names := names.map fun n => (n, .local), isGenerator := false, isCoroutine := false, more := [] }
section
variable {prog : Program} {w : World} {A : Around} {E : Value → Shared → Prop} {R : Result → Shared → Prop} {s : Shared}
variable {K : W.Frag} {C fI : Addr} {B newId initId : String} {bmB : List Value} {fs : List Str}
variable {qual : Str} {params : Arguments} {oc dV kV doc pm cdv ct : Value} {an od : Option Addr} {osl : Array (Option Value)}
/-- a local read -/
theorem ld {M : Model} {s : Shared} {nm : Str} {sc : Scope} {L a : Addr} {cd : Value} {m : Str → Option Value} {x : Str} {pos : Pos} {v : Value} {Q : Value → Shared → Prop} {A : Around} {E : Value → Shared → Prop} (hn : s.heap.Ns L m) (hv : m x = some v) (h : Q v s)
    (hk : sc.kind = .function) (hl : (PyProof.Rows.envOfC nm sc L a cd).kindOf x = some .local) (hd : (x == ("__debug__" : Str)) = false) : wpAny M A (eval (.Name x pos) (PyProof.Rows.envOfC nm sc L a cd)) Q E s :=
  wpAny_Name (wpAny_loadName_local hk hl hn hv h) hd
theorem init1 (T : EC K C fI B newId initId bmB fs) {f : Str} {q1 q2 q3 q4 : Pos} {x t0 : Addr} {v : Value} {args : Args} (X : K.In s.heap) (lim : s.heap.NoLimit) (hx : s.heap.get? x = some (excO C t0)) (room : A.depth < recursionLimit)
    (at_ : K.lookup fI = some ⟨oc, od, .func (W.fnOf "__init__" qual params (iBody1 f q1 q2 q3 q4) (iScope ["self", f]) dV kV doc pm an cdv ct), osl⟩) (code : W.codeIn K cdv qual = true)
    (bd : BindsTo s (W.fnOf "__init__" qual params (iBody1 f q1 q2 q3 q4) (iScope ["self", f]) dV kV doc pm an cdv ct) args [("self", .ref x), (f, v)])
    (ht : f ∈ fs) (h1 : ("self" == f) = false) (h2 : (f == ("__debug__" : Str)) = false) (h3 : (f == ("self" : Str)) = false)
    (hq : ∀ h' tk dx, (∀ b o, b ≠ x → s.heap.get? b = some o → h'.get? b = some o) → h'.get? x = some { cls := .ref C, dict := some dx, data := .fields #[.ref t0, .none, .none, .none, .bool false, .none] } → s.heap.objs.size ≤ dx → dx ≠ x →
      h'.Ns1 dx (fun y => if y = f then some v else none) → R (.ok (.ret .none)) { s with heap := h', toks := tk }) :
    codeAny (model prog w) A (.call (.ref fI) args) R s := by
  have e1 : ("self" : Str) ≠ f := by simpa using h1
  have look : ∀ y : Str, (y = "self" ∨ y = f) → (iScope ["self", f]).names.lookup y = some .local := by
    intro y hy
    rcases hy with rfl | rfl
    · simp [iScope, List.lookup]
    · simp [iScope, List.lookup, h3]
  refine Att.call_fn (binds := [("self", .ref x), (f, v)]) X lim at_ code room bd (by simp [look]) (fun s₁ IC => ?_) rfl rfl rfl
  obtain ⟨hh, tk1, rfl⟩ := IC.toInCall.same
  have k : ∀ b o, s.heap.get? b = some o → hh.get? b = some o := IC.toInCall.keep
  have hn := IC.toInCall.ns
  have X1 : K.In hh := X.keeps k
  have x1 := k _ _ hx
  have k1 : (PyProof.Rows.envOfC qual (iScope ["self", f]) s.heap.objs.size fI cdv).kindOf "self" = some .local := look _ (.inl rfl)
  have k2 : (PyProof.Rows.envOfC qual (iScope ["self", f]) s.heap.objs.size fI cdv).kindOf f = some .local := look _ (.inr rfl)
  have m1 : bindL (PyProof.Rows.envOfC qual (iScope ["self", f]) s.heap.objs.size fI cdv).kindOf [("self", .ref x), (f, v)] (fun _ => none) "self" = some (.ref x) := by
    simp [bindL, k1, k2, e1]
  have m2 : bindL (PyProof.Rows.envOfC qual (iScope ["self", f]) s.heap.objs.size fI cdv).kindOf [("self", .ref x), (f, v)] (fun _ => none) f = some v := by
    simp [bindL, k1, k2]
  have z : s.heap.objs.size < hh.objs.size := hn.lt
  show wpAny _ _ (execs [.Assign [.Attribute (.Name "self" q1) f q2] (.Name f q3) q4] _) _ _ _
  refine wpAny_execs_cons (plainObj_wpAny_Assign_Attribute ?_)
  refine ld (v := v) hn m2 (ld (v := .ref x) hn m1 ?_ rfl k1 (by decide)) rfl k2 h2
  refine W.set_plain X1 (ox := excO C t0) (od := none) ⟨x1, rfl, rfl, trivial⟩ T.sa (put_new T X1 x1 ht (fun h3 tk3 dx k3 dn dne hx3 hn3 => ?_))
  show wpAny _ _ (execs [] _) _ _ _
  exact wpAny_execs_nil (hq h3 tk3 dx (fun b o hb e => k3 b o hb (k b o e)) hx3 (Nat.le_of_lt (Nat.lt_of_lt_of_le z dn)) dne hn3)
theorem init2 (T : EC K C fI B newId initId bmB fs) {f f2 : Str} {q1 q2 q3 q4 r1 r2 r3 r4 : Pos} {x t0 : Addr} {v v2 : Value} {args : Args} (X : K.In s.heap) (lim : s.heap.NoLimit) (hx : s.heap.get? x = some (excO C t0)) (room : A.depth < recursionLimit)
    (hnx : K.lookup x = none) (at_ : K.lookup fI = some ⟨oc, od, .func (W.fnOf "__init__" qual params (iBody2 f f2 q1 q2 q3 q4 r1 r2 r3 r4) (iScope ["self", f, f2]) dV kV doc pm an cdv ct), osl⟩) (code : W.codeIn K cdv qual = true)
    (bd : BindsTo s (W.fnOf "__init__" qual params (iBody2 f f2 q1 q2 q3 q4 r1 r2 r3 r4) (iScope ["self", f, f2]) dV kV doc pm an cdv ct) args [("self", .ref x), (f, v), (f2, v2)])
    (ht : f ∈ fs) (ht2 : f2 ∈ fs) (h1 : ("self" == f) = false) (h2 : (f == ("__debug__" : Str)) = false) (h3 : (f == ("self" : Str)) = false) (h4 : ("self" == f2) = false) (h5 : (f2 == ("__debug__" : Str)) = false) (h6 : (f2 == ("self" : Str)) = false) (h7 : (f2 == f) = false)
    (hq : ∀ h' tk dx, (∀ b o, b ≠ x → s.heap.get? b = some o → h'.get? b = some o) → h'.get? x = some { cls := .ref C, dict := some dx, data := .fields #[.ref t0, .none, .none, .none, .bool false, .none] } → s.heap.objs.size ≤ dx → dx ≠ x →
      h'.Ns1 dx (fun y => if y = f2 then some v2 else if y = f then some v else none) → R (.ok (.ret .none)) { s with heap := h', toks := tk }) :
    codeAny (model prog w) A (.call (.ref fI) args) R s := by
  have e1 : ("self" : Str) ≠ f := by simpa using h1
  have e4 : ("self" : Str) ≠ f2 := by simpa using h4
  have e7 : f2 ≠ f := by simpa using h7
  have look : ∀ y : Str, (y = "self" ∨ y = f ∨ y = f2) → (iScope ["self", f, f2]).names.lookup y = some .local := by
    intro y hy
    rcases hy with rfl | rfl | rfl
    · simp [iScope, List.lookup]
    · simp [iScope, List.lookup, h3]
    · simp [iScope, List.lookup, h6, h7]
  refine Att.call_fn (binds := [("self", .ref x), (f, v), (f2, v2)]) X lim at_ code room bd (by simp [look]) (fun s₁ IC => ?_) rfl rfl rfl
  obtain ⟨hh, tk1, rfl⟩ := IC.toInCall.same
  have k : ∀ b o, s.heap.get? b = some o → hh.get? b = some o := IC.toInCall.keep
  have hn := IC.toInCall.ns
  have X1 : K.In hh := X.keeps k
  have x1 := k _ _ hx
  have k1 : (PyProof.Rows.envOfC qual (iScope ["self", f, f2]) s.heap.objs.size fI cdv).kindOf "self" = some .local := look _ (.inl rfl)
  have k2 : (PyProof.Rows.envOfC qual (iScope ["self", f, f2]) s.heap.objs.size fI cdv).kindOf f = some .local := look _ (.inr (.inl rfl))
  have k3 : (PyProof.Rows.envOfC qual (iScope ["self", f, f2]) s.heap.objs.size fI cdv).kindOf f2 = some .local := look _ (.inr (.inr rfl))
  have m1 : bindL (PyProof.Rows.envOfC qual (iScope ["self", f, f2]) s.heap.objs.size fI cdv).kindOf [("self", .ref x), (f, v), (f2, v2)] (fun _ => none) "self" = some (.ref x) := by
    simp [bindL, k1, k2, k3, e1, e4]
  have m2 : bindL (PyProof.Rows.envOfC qual (iScope ["self", f, f2]) s.heap.objs.size fI cdv).kindOf [("self", .ref x), (f, v), (f2, v2)] (fun _ => none) f = some v := by
    simp [bindL, k1, k2, k3, Ne.symm e7]
  have m3 : bindL (PyProof.Rows.envOfC qual (iScope ["self", f, f2]) s.heap.objs.size fI cdv).kindOf [("self", .ref x), (f, v), (f2, v2)] (fun _ => none) f2 = some v2 := by
    simp [bindL, k1, k2, k3]
  have z : s.heap.objs.size < hh.objs.size := hn.lt
  have xL : x ≠ s.heap.objs.size := Nat.ne_of_lt (Heap.lt_size hx)
  show wpAny _ _ (execs [.Assign [.Attribute (.Name "self" q1) f q2] (.Name f q3) q4, .Assign [.Attribute (.Name "self" r1) f2 r2] (.Name f2 r3) r4] _) _ _ _
  refine wpAny_execs_cons (plainObj_wpAny_Assign_Attribute ?_)
  refine ld (v := v) hn m2 (ld (v := .ref x) hn m1 ?_ rfl k1 (by decide)) rfl k2 h2
  refine W.set_plain X1 (ox := excO C t0) (od := none) ⟨x1, rfl, rfl, trivial⟩ T.sa (put_new T X1 x1 ht (fun hA tkA dx kA dn dne hxA hnA => ?_))
  obtain ⟨oD, esD, epD, hoD, hdD, _⟩ := hnA.count (Within.cons f v Within.nil)
  have hnL : hA.Ns s.heap.objs.size _ := hn.at fun o q => kA _ o xL.symm q
  have XA : K.In hA := fun b o q => kA b o (fun e => by rw [e, hnx] at q; cases q) (X1 b o q)
  refine wpAny_execs_cons (plainObj_wpAny_Assign_Attribute ?_)
  refine ld (v := v2) hnL m3 (ld (v := .ref x) hnL m1 ?_ rfl k1 (by decide)) rfl k3 h5
  refine W.set_plain XA (ox := { cls := .ref C, dict := some dx, data := .fields #[.ref t0, .none, .none, .none, .bool false, .none] }) (od := some oD) ⟨hxA, rfl, rfl, hoD⟩ T.sa
    (put_old T XA hxA hnA (Within.cons f v Within.nil) (by simp) ht2 (fun hB tkB kB hnB => ?_))
  show wpAny _ _ (execs [] _) _ _ _
  refine wpAny_execs_nil (hq hB tkB dx (fun b o hb e => kB b o ?_ (kA b o hb (k b o e))) (kB x _ (Ne.symm dne) hxA) (Nat.le_of_lt (Nat.lt_of_lt_of_le z dn)) dne hnB)
  exact Nat.ne_of_lt (Nat.lt_of_lt_of_le (Heap.lt_size (k b o e)) dn)
/-- C(..), from what its __init__ does -/
theorem made_by (T : EC K C fI B newId initId bmB fs) {us : List Value} {kw : List (Str × Value)} {m : Str → Option Value} (X : K.In s.heap) (hz : us.length ≤ sizeLine) (room : A.depth + 1 < recursionLimit)
    (hi : ∀ (A' : Around) (s' : Shared) (x t0 : Addr) (R' : Result → Shared → Prop), (∀ b o, s.heap.get? b = some o → s'.heap.get? b = some o) → s'.heap.get? x = some (excO C t0) → K.lookup x = none → A'.depth < recursionLimit →
      (∀ h' tk dx, (∀ b o, b ≠ x → s'.heap.get? b = some o → h'.get? b = some o) → h'.get? x = some { cls := .ref C, dict := some dx, data := .fields #[.ref t0, .none, .none, .none, .bool false, .none] } → s'.heap.objs.size ≤ dx → dx ≠ x →
        h'.Ns1 dx m → R' (.ok (.ret .none)) { s' with heap := h', toks := tk }) → codeAny (model prog w) A' (.call (.ref fI) ⟨.ref x :: us, kw⟩) R' s')
    (hq : ∀ h' tk e d, Made s.heap h' e C d m → R (.ok (.ret (.ref e))) { s with heap := h', toks := tk }) :
    codeAny (model prog w) A (.call (.ref C) ⟨us, kw⟩) R s := by
  obtain ⟨nm, N, qn, bs, bm, hdct, sn, sub, ab, col, dd, k0, k1, k2, k3, k5, hC, hT⟩ := W.excInit_of X T.init
  obtain ⟨hp, g, dr, tk, os⟩ := s
  have k : ∀ b o, hp.get? b = some o → (newHeap hp C us).get? b = some o := fun b o e => Heap.get?_push_of_some _ (Heap.get?_push_of_some _ e)
  have x1 : (newHeap hp C us).get? (hp.objs.size + 1) = some (excO C hp.objs.size) := by (show ((hp.push (W.kdv_tup us)).push (excO C hp.objs.size)).get? (hp.objs.size + 1) = _; heap_get)
  have nx : K.lookup (hp.objs.size + 1) = none := by
    cases e : K.lookup (hp.objs.size + 1) with
    | none => rfl
    | some o => exact absurd (Nat.lt_of_succ_lt (Heap.lt_size (X _ _ e))) (Nat.lt_irrefl _)
  refine call_any T.base hT hC (W.looks_findIn X T.iC) (fun self => W.bind_fn X self T.tI) hz ?_
  refine hi _ ⟨newHeap hp C us, g, dr, tk, os⟩ (hp.objs.size + 1) hp.objs.size _ k x1 nx (by rw [make_depth]; exact room) (fun h' tk' dx k' hx dn dne hns => ?_)
  have z : hp.objs.size + 1 + 1 ≤ dx := by
    have q : (newHeap hp C us).objs.size ≤ dx := dn
    rw [Heap.size_push, Heap.size_push] at q
    exact q
  exact ⟨rfl, hq h' tk' (hp.objs.size + 1) dx ⟨fun b o e => k' b o (Nat.ne_of_lt (Nat.lt_succ_of_lt (Heap.lt_size e))) (k b o e), Nat.le_succ _, ⟨_, hx⟩, (by show hp.objs.size ≤ dx; omega), dne, hns⟩⟩
end

section
variable {X : Cx} {pins : List (Addr × Obj)} {σ : L2.St} {H : Hp} {s : Shared} {C : Addr}
theorem relO_one {v : V} {u : Value} (r : RelV v u) (f y : Str) : RelO (List.lookup y [(f, v)]) (if y = f then some u else none) := relO_put (fs := []) (mA := fun _ => none) r (fun _ => trivial) y
theorem relO_two {v v2 : V} {u u2 : Value} (r : RelV v u) (r2 : RelV v2 u2) (f f2 y : Str) : RelO (List.lookup y [(f2, v2), (f, v)]) (if y = f2 then some u2 else if y = f then some u else none) :=
  relO_put (fs := [(f, v)]) (mA := fun y => if y = f then some u else none) r2 (fun g => relO_one r f g) y
/-- a made error, tracked -/
theorem Inv.err (I : Inv X pins σ H s) {h' : Heap} {tk : Nat} {e d : Addr} {m : Str → Option Value} {fs : List (Str × V)} (M : Made s.heap h' e C d m) (r : ∀ y, RelO (fs.lookup y) (m y)) :
    H e = none ∧ H d = none ∧ Inv X pins σ (upd (upd H d (exd d fs)) e (exo e C (some d))) { s with heap := h', toks := tk } := by
  have ne := I.hok.fresh M.new
  have nd := I.hok.fresh M.dbig
  have be : ∀ {b : Addr} {o : Obj}, s.heap.get? b = some o → b ≠ e := fun q => Nat.ne_of_lt (Nat.lt_of_lt_of_le (Heap.lt_size q) M.new)
  have bd : ∀ {b : Addr} {o : Obj}, s.heap.get? b = some o → b ≠ d := fun q => Nat.ne_of_lt (Nat.lt_of_lt_of_le (Heap.lt_size q) M.dbig)
  have keepH : ∀ {b : Addr} {o : HO}, H b = some o → upd (upd H d (exd d fs)) e (exo e C (some d)) b = some o := fun q => by
    rw [upd_ne (ne_of_none q ne), upd_ne (ne_of_none q nd)]
    exact q
  refine ⟨ne, nd, I.un (t' := tk) { keep := fun b o q _ _ _ => M.keep b o q, slot := fun b o q _ _ _ => ⟨o.slots, M.keep b o q⟩, free := fun b o q n _ => ?_, there := fun b o q _ => ⟨o, M.keep b o q⟩, tups := fun b xs q => keepH q, frzs := fun b o u q => keepH q, tbls := fun b ps q => ⟨#[], by rw [keepH q]; simp⟩ } (fun b o q => ?_)⟩
  · rw [upd_ne (be q), upd_ne (bd q)]
    exact n
  · by_cases hb : b = e
    · subst hb
      rw [upd_same] at q
      cases q
      obtain ⟨t1, ht⟩ := M.obj
      exact exo_ok ht
    · rw [upd_ne hb] at q
      by_cases hd : b = d
      · subst hd
        rw [upd_same] at q
        cases q
        exact exd_ok M.ns r
      · rw [upd_ne hd] at q
        exact (I.hok b o q).stay (fun c v _ z => M.keep c v z) (fun c z => keepH z) fun c xs z => keepH z
end
end Ge

set_option Elab.async false
set_option linter.all false
set_option maxRecDepth 100000
set_option maxHeartbeats 4000000
/-! Rules: an own error made, its field read, isinstance of it. -/
namespace Ge
open PySem PySem.Spec L2 PySem.HandSPX

/-- an error class of one parameter | of two | without an own __init__: what its call makes -/
structure E1 (K : W.Frag) (C : Addr) (f : Str) : Prop where
  keep : W.keepIn K (.ref C) = true
  does : ∀ {prog : Program} {w : World} {A : Around} {R : Result → Shared → Prop} {s : Shared} {us : List Value} {kw : List (Str × Value)} {v : Value}, (us = [v] ∧ kw = []) ∨ (us = [] ∧ kw = [(f, v)]) → K.In s.heap → s.heap.NoLimit → A.depth + 1 < recursionLimit →
    (∀ h' tk e d, Made s.heap h' e C d (fun y => if y = f then some v else none) → R (.ok (.ret (.ref e))) { s with heap := h', toks := tk }) → codeAny (model prog w) A (.call (.ref C) ⟨us, kw⟩) R s
structure E2 (K : W.Frag) (C : Addr) (f f2 : Str) : Prop where
  keep : W.keepIn K (.ref C) = true
  does : ∀ {prog : Program} {w : World} {A : Around} {R : Result → Shared → Prop} {s : Shared} {us : List Value} {kw : List (Str × Value)} {v v2 : Value}, (us = [v, v2] ∧ kw = []) ∨ (us = [] ∧ kw = [(f2, v2), (f, v)]) → K.In s.heap → s.heap.NoLimit → A.depth + 1 < recursionLimit →
    (∀ h' tk e d, Made s.heap h' e C d (fun y => if y = f2 then some v2 else if y = f then some v else none) → R (.ok (.ret (.ref e))) { s with heap := h', toks := tk }) → codeAny (model prog w) A (.call (.ref C) ⟨us, kw⟩) R s
structure E0c (K : W.Frag) (C : Addr) : Prop where
  keep : W.keepIn K (.ref C) = true
  does : ∀ {prog : Program} {w : World} {A : Around} {E : Value → Shared → Prop} {Q : Value → Shared → Prop} {s : Shared}, K.In s.heap →
    (∀ h' e t, (∀ b o, s.heap.get? b = some o → h'.get? b = some o) → s.heap.objs.size ≤ e → h'.get? e = some (W.excObj C t none .none) → Q (.ref e) { s with heap := h' }) → wpAny (model prog w) A (call (.ref C) []) Q E s

section
variable {X : Cx} {C : Addr} {x f f2 : Str} {e e2 : Expr} {es : List Expr} {kws : List Keyword} {te te2 : TE} {ta tk : TA} {p pos kp kp2 : Pos} {k : Nat} {pins : List (Addr × Obj)} {σ : L2.St} {H : Hp} {s : Shared} {Q : VK}
/-- the heap with a new error at e, its dict at d -/
abbrev withErr (H : Hp) (C e d : Addr) (fs : List (Str × V)) : Hp := upd (upd H d (exd d fs)) e (exo e C (some d))
def tMk1 (C : Addr) (f : Str) (ta : TA) : TE := fun σ H Q => ta σ H fun vs H1 => ∃ v, vs = [v] ∧ ∀ e d, H1 e = none → H1 d = none → d ≠ e → Q (.ref e) (withErr H1 C e d [(f, v)])
def tMk2 (C : Addr) (f f2 : Str) (ta : TA) : TE := fun σ H Q => ta σ H fun vs H1 => ∃ v v2, vs = [v, v2] ∧ ∀ e d, H1 e = none → H1 d = none → d ≠ e → Q (.ref e) (withErr H1 C e d [(f2, v2), (f, v)])
def tMk2k (C : Addr) (f f2 : Str) (ta : TA) : TE := fun σ H Q => ta σ H fun vs H1 => ∃ v v2, vs = [v2, v] ∧ ∀ e d, H1 e = none → H1 d = none → d ≠ e → Q (.ref e) (withErr H1 C e d [(f2, v2), (f, v)])
def tMk0 (C : Addr) : TE := fun _ H Q => ∀ e, H e = none → Q (.ref e) (upd H e (exo e C none))
theorem run1 (T : E1 X.K C f) (hr : Room k X.A) (I : Inv X pins σ H s) {us : List Value} {kw : List (Str × Value)} {v : V} {u : Value} (ru : RelV v u) (h : (us = [u] ∧ kw = []) ∨ (us = [] ∧ kw = [(f, u)]))
    (q : ∀ e d, H e = none → H d = none → d ≠ e → Q (.ref e) (withErr H C e d [(f, v)])) : wpAny (model X.prog X.w) X.A (call (.ref C) us kw) (EP X pins σ Q) X.xe s := by
  refine wpAny_call (T.does h I.kIn I.nolimit (by have := hr.dp; omega) (fun h' tk e d M => ?_))
  obtain ⟨ne, nd, J⟩ := Inv.err (tk := tk) I M (relO_one ru f)
  exact ⟨.ref e, _, J, rfl, q e d ne nd M.dne⟩
theorem run2 (T : E2 X.K C f f2) (hr : Room k X.A) (I : Inv X pins σ H s) {us : List Value} {kw : List (Str × Value)} {v v2 : V} {u u2 : Value} (ru : RelV v u) (ru2 : RelV v2 u2) (h : (us = [u, u2] ∧ kw = []) ∨ (us = [] ∧ kw = [(f2, u2), (f, u)]))
    (q : ∀ e d, H e = none → H d = none → d ≠ e → Q (.ref e) (withErr H C e d [(f2, v2), (f, v)])) : wpAny (model X.prog X.w) X.A (call (.ref C) us kw) (EP X pins σ Q) X.xe s := by
  refine wpAny_call (T.does h I.kIn I.nolimit (by have := hr.dp; omega) (fun h' tk e d M => ?_))
  obtain ⟨ne, nd, J⟩ := Inv.err (tk := tk) I M (relO_two ru ru2 f f2)
  exact ⟨.ref e, _, J, rfl, q e d ne nd M.dne⟩
/-- X(e) | X(e, e2) | X() -/
theorem pe_mk1 (T : E1 X.K C f) (hr : Room k X.A) (hg : Gl X x) (hm : X.mg x = some (.ref C)) (ha : PA X (e :: es) ta) (hdb : (x == ("__debug__" : Str)) = false := by decide)
    (hs : starEach (e :: es) X.env = (false, eval e X.env) :: starEach es X.env := by rfl) (hpl : (backTo pos (starEach es X.env)).any (·.1) = false := by rfl) : PE X (.Call (.Name x p) (e :: es) [] pos) (tMk1 C f ta) := by
  refine ⟨fun pins s σ H Q I h => wpAny_Call_Name_kw (ld_glob I hg hm ?_ hdb)⟩
  refine PySem.W.callWith_K (h₀ := X.base) I.ok.mod.kin T.keep (thn (ha.run pos pins s σ H _ I h) fun us s1 ⟨vs, H1, I1, r, v, ev, q⟩ => ⟨I1.kIn, ?_⟩) hs hpl
  subst ev
  obtain ⟨u, rfl, ru⟩ := vals1 r
  exact run1 T hr I1 ru (.inl ⟨rfl, rfl⟩) q
theorem pe_mk2 (T : E2 X.K C f f2) (hr : Room k X.A) (hg : Gl X x) (hm : X.mg x = some (.ref C)) (ha : PA X (e :: es) ta) (hdb : (x == ("__debug__" : Str)) = false := by decide)
    (hs : starEach (e :: es) X.env = (false, eval e X.env) :: starEach es X.env := by rfl) (hpl : (backTo pos (starEach es X.env)).any (·.1) = false := by rfl) : PE X (.Call (.Name x p) (e :: es) [] pos) (tMk2 C f f2 ta) := by
  refine ⟨fun pins s σ H Q I h => wpAny_Call_Name_kw (ld_glob I hg hm ?_ hdb)⟩
  refine PySem.W.callWith_K (h₀ := X.base) I.ok.mod.kin T.keep (thn (ha.run pos pins s σ H _ I h) fun us s1 ⟨vs, H1, I1, r, v, v2, ev, q⟩ => ⟨I1.kIn, ?_⟩) hs hpl
  subst ev
  obtain ⟨u, u2, rfl, ru, ru2⟩ := vals2 r
  exact run2 T hr I1 ru ru2 (.inl ⟨rfl, rfl⟩) q
theorem pe_mk0 (T : E0c X.K C) (hg : Gl X x) (hm : X.mg x = some (.ref C)) (hdb : (x == ("__debug__" : Str)) = false := by decide) : PE X (.Call (.Name x p) [] [] pos) (tMk0 C) := by
  refine ⟨fun pins s σ H Q I h => wpAny_Call_Name_kw (ld_glob I hg hm ?_ hdb)⟩
  refine PySem.W.callWith_K0 I.kIn T.keep ?_
  refine T.does I.kIn (fun h' e t kp new he => ?_)
  obtain ⟨hp, g, dr, tk, os⟩ := s
  exact ⟨.ref e, _, I.laid (t' := tk) kp new (exo_ok he), rfl, h e (I.hok.fresh new)⟩
/-- X(f = e) | X(f2 = e2, f = e) -/
theorem pe_mk1k (T : E1 X.K C f) (hr : Room k X.A) (hg : Gl X x) (hm : X.mg x = some (.ref C)) (hk : PK X kws tk) (hall : (backToKw pos (keywordEach kws X.env)).all (·.1.isSome) = true := by rfl) (hks : (backToKw pos (keywordEach kws X.env)).filterMap (·.1) = [f] := by rfl)
    (hdb : (x == ("__debug__" : Str)) = false := by decide) (hpl : ((backTo pos (starEach [] X.env)).any (·.1) || (backToKw pos (keywordEach kws X.env)).any (·.1.isNone)) = false := by rfl) : PE X (.Call (.Name x p) [] kws pos) (tMk1 C f tk) := by
  refine ⟨fun pins s σ H Q I h => wpAny_Call_Name_kw (ld_glob I hg hm ?_ hdb)⟩
  refine PySem.W.callWith_KW0 (h₀ := X.base) I.ok.mod.kin T.keep hall (thn (hk.run pos pins s σ H _ I h) fun us s1 ⟨vs, H1, I1, r, v, ev, q⟩ => ⟨I1.kIn, ?_⟩) hpl
  subst ev
  obtain ⟨u, rfl, ru⟩ := vals1 r
  rw [hks]
  exact run1 T hr I1 ru (.inr ⟨rfl, rfl⟩) q
theorem pe_mk2k (T : E2 X.K C f f2) (hr : Room k X.A) (hg : Gl X x) (hm : X.mg x = some (.ref C)) (hk : PK X kws tk) (hall : (backToKw pos (keywordEach kws X.env)).all (·.1.isSome) = true := by rfl) (hks : (backToKw pos (keywordEach kws X.env)).filterMap (·.1) = [f2, f] := by rfl)
    (hdb : (x == ("__debug__" : Str)) = false := by decide) (hpl : ((backTo pos (starEach [] X.env)).any (·.1) || (backToKw pos (keywordEach kws X.env)).any (·.1.isNone)) = false := by rfl) : PE X (.Call (.Name x p) [] kws pos) (tMk2k C f f2 tk) := by
  refine ⟨fun pins s σ H Q I h => wpAny_Call_Name_kw (ld_glob I hg hm ?_ hdb)⟩
  refine PySem.W.callWith_KW0 (h₀ := X.base) I.ok.mod.kin T.keep hall (thn (hk.run pos pins s σ H _ I h) fun us s1 ⟨vs, H1, I1, r, v, v2, ev, q⟩ => ⟨I1.kIn, ?_⟩) hpl
  subst ev
  obtain ⟨u2, u, rfl, ru2, ru⟩ := vals2 r
  rw [hks]
  exact run2 T hr I1 ru ru2 (.inr ⟨rfl, rfl⟩) q
end

/-- what a class says, so that its errors are read and asked rightly -/
structure EA (K : W.Frag) (C : Addr) : Prop where
  ga : W.findIn K (.ref C) "__getattribute__" = some (some (.builtin "BaseException.__getattribute__"))
  gg : W.findIn K (.ref C) "__getattr__" = some none
  exC : W.subIn K (.ref C) (.type "BaseException") = some true
  hd : W.hasDictIn K C = true
  cl : W.findIn K (.ref C) "__class__" = some (some (.builtin "object.__class__"))
  ob : W.mroIn K C (.type "object") = some true
  gt : W.specialIn K (.builtin "object.__class__") "__get__" = some (some (.builtin "getset_descriptor.__get__"))
  tk : W.takesIn K (.builtin "object.__class__") = some true
section
variable {X : Cx} {o : Expr} {to : TE} {f : Str} {pos : Pos}
/-- o.f, o an own error -/
def tEf (K : W.Frag) (f : Str) (to : TE) : TE := fun σ H Q => to σ H fun x H1 => ∃ (e C d : Addr) (fs : List (Str × V)) (v : V), x = .ref e ∧ EA K C ∧ W.findIn K (.ref C) f = some none ∧ H1 e = some (exo e C (some d)) ∧ H1 d = some (exd d fs) ∧ fs.lookup f = some v ∧ Q v H1
theorem pe_ef (he : PE X o to) (hb : attributeBase o f X.env (eval o X.env) = eval o X.env := by rfl) : PE X (.Attribute o f pos) (tEf X.K f to) := by
  refine ⟨fun pins s σ H Q I h => ?_⟩
  refine attr_of hb (thn (he.run pins s σ H _ I h) fun u s1 ⟨x, H1, I1, rx, e, C, d, fs, v, ex, T, nf, h1, h2, l, q⟩ => ?_)
  subst ex
  obtain rfl : u = Value.ref e := rx
  obtain ⟨t1, ho⟩ := exo_at I1.hok h1
  obtain ⟨mA, hn, rel⟩ := exd_at I1.hok h2
  obtain ⟨od, hod, lk⟩ := lookIn_ns hn
  obtain ⟨u, hu, ru⟩ := RelO.some_of (v := v) (o := mA f) (by rw [← l]; exact rel f)
  have J : PySem.W.InstAt s1.heap e { cls := .ref C, dict := some d, data := .fields #[.ref t1, .none, .none, .none, .bool false, .none] } C (some od) := ⟨ho, rfl, rfl, hod⟩
  exact HandSPX.exc_get I1.kIn J T.ga T.gg T.exC (PySem.W.findObj_own T.hd nf rfl (by rw [lk, hu])) (handed_of ru) ⟨v, H1, I1.tok _, ru, q⟩
/-- isinstance(e, c), e an own error that is tracked -/
def rIsX (K : W.Frag) : List V → Hp → VK → Prop := fun xs H Q => ∃ (e C : Addr) (d : Option Addr) (c : V) (u : Value) (b : Bool), xs = [.ref e, c] ∧ H e = some (exo e C d) ∧ (∀ dx, d = some dx → ∃ fs, H dx = some (exd dx fs)) ∧ EA K C ∧ ClsV c u ∧ W.kitOne K (.ref C) u = some b ∧ Q (.bl b) H
theorem call_isX : CallR X (.builtin "isinstance") (rIsX X.K) := by
  intro pins s σ H xs us Q I r h
  obtain ⟨e, C, d, c, cu, b, rfl, h1, h2, T, hc, hk, q⟩ := h
  obtain ⟨u1, u2, rfl, r1, r2⟩ := vals2 r
  have e2 := hc.eq r2
  subst e2
  obtain rfl : u1 = Value.ref e := r1
  obtain ⟨t1, ho⟩ := exo_at I.hok h1
  have cl : (PySem.W.clsIn X.K C).isSome = true := by
    obtain ⟨cd, z, _⟩ := PySem.W.any_some T.hd
    rw [z]
    rfl
  have go : ∀ od, PySem.W.InstAt s.heap e { cls := .ref C, dict := d, data := .fields #[.ref t1, .none, .none, .none, .bool false, .none] } C od → wpAny (model X.prog X.w) X.A (call (.builtin "isinstance") [.ref e, u2]) (EP X pins σ Q) X.xe s := fun od J =>
    PySem.W.kia_one (PySem.W.kitx_exc cl T.ga T.gg T.exC T.cl T.gt T.tk T.ob) I.kIn J hk (fun z => nomatch z) fun tk => ⟨.bl b, H, I.tok tk, rfl, q⟩
  cases d with
  | none => exact go none ⟨ho, rfl, rfl, trivial⟩
  | some dx =>
    obtain ⟨fs, hx⟩ := h2 dx rfl
    obtain ⟨mA, hn, _⟩ := exd_at I.hok hx
    obtain ⟨od, hod, _⟩ := lookIn_ns hn
    exact go (some od) ⟨ho, rfl, rfl, hod⟩
end

/-! ### from the text's facts -/
section
variable {K : W.Frag} {C fI : Addr} {B newId initId : String} {bmB : List Value} {fs : List Str} {f f2 qual : Str} {params : Arguments} {oc dV kV doc pm cdv ct : Value} {an od : Option Addr} {osl : Array (Option Value)} {q1 q2 q3 q4 r1 r2 r3 r4 : Pos}
theorem e1_of (T : EC K C fI B newId initId bmB fs) (ht : f ∈ fs) (code : W.codeIn K cdv qual = true)
    (at_ : K.lookup fI = some ⟨oc, od, .func (W.fnOf "__init__" qual params (iBody1 f q1 q2 q3 q4) (iScope ["self", f]) dV kV doc pm an cdv ct), osl⟩)
    (bp : ∀ x v, bindArgs (W.fnOf "__init__" qual params (iBody1 f q1 q2 q3 q4) (iScope ["self", f]) dV kV doc pm an cdv ct) ⟨[x, v], []⟩ = pure [(("self" : Str), x), (f, v)])
    (bk : ∀ x v, bindArgs (W.fnOf "__init__" qual params (iBody1 f q1 q2 q3 q4) (iScope ["self", f]) dV kV doc pm an cdv ct) ⟨[x], [(f, v)]⟩ = pure [(("self" : Str), x), (f, v)])
    (h1 : ("self" == f) = false := by decide) (h2 : (f == ("__debug__" : Str)) = false := by decide) (h3 : (f == ("self" : Str)) = false := by decide) : E1 K C f where
  keep := T.keep
  does := by
    intro prog w A R s us kw v h X lim room hq
    have hz : us.length ≤ sizeLine := by
      rcases h with ⟨rfl, _⟩ | ⟨rfl, _⟩
      · show 1 ≤ sizeLine
        decide
      · exact Nat.zero_le _
    refine made_by T X hz room (fun A' s' x t0 R' kp hx nx room' fin => ?_) hq
    refine init1 T (X.keeps kp) (lim.keeps kp) hx room' at_ code ?_ ht h1 h2 h3 fin
    rcases h with ⟨rfl, rfl⟩ | ⟨rfl, rfl⟩
    · exact .of_eq (bp _ _)
    · exact .of_eq (bk _ _)
theorem e2_of (T : EC K C fI B newId initId bmB fs) (ht : f ∈ fs) (ht2 : f2 ∈ fs) (code : W.codeIn K cdv qual = true)
    (at_ : K.lookup fI = some ⟨oc, od, .func (W.fnOf "__init__" qual params (iBody2 f f2 q1 q2 q3 q4 r1 r2 r3 r4) (iScope ["self", f, f2]) dV kV doc pm an cdv ct), osl⟩)
    (bp : ∀ x v v2, bindArgs (W.fnOf "__init__" qual params (iBody2 f f2 q1 q2 q3 q4 r1 r2 r3 r4) (iScope ["self", f, f2]) dV kV doc pm an cdv ct) ⟨[x, v, v2], []⟩ = pure [(("self" : Str), x), (f, v), (f2, v2)])
    (bk : ∀ x v v2, bindArgs (W.fnOf "__init__" qual params (iBody2 f f2 q1 q2 q3 q4 r1 r2 r3 r4) (iScope ["self", f, f2]) dV kV doc pm an cdv ct) ⟨[x], [(f2, v2), (f, v)]⟩ = pure [(("self" : Str), x), (f, v), (f2, v2)])
    (h1 : ("self" == f) = false := by decide) (h2 : (f == ("__debug__" : Str)) = false := by decide) (h3 : (f == ("self" : Str)) = false := by decide) (h4 : ("self" == f2) = false := by decide) (h5 : (f2 == ("__debug__" : Str)) = false := by decide)
    (h6 : (f2 == ("self" : Str)) = false := by decide) (h7 : (f2 == f) = false := by decide) : E2 K C f f2 where
  keep := T.keep
  does := by
    intro prog w A R s us kw v v2 h X lim room hq
    have hz : us.length ≤ sizeLine := by
      rcases h with ⟨rfl, _⟩ | ⟨rfl, _⟩
      · show 2 ≤ sizeLine
        decide
      · exact Nat.zero_le _
    refine made_by T X hz room (fun A' s' x t0 R' kp hx nx room' fin => ?_) hq
    refine init2 T (X.keeps kp) (lim.keeps kp) hx room' nx at_ code ?_ ht ht2 h1 h2 h3 h4 h5 h6 h7 fin
    rcases h with ⟨rfl, rfl⟩ | ⟨rfl, rfl⟩
    · exact .of_eq (bp _ _ _)
    · exact .of_eq (bk _ _ _)
theorem e0_of (F : ExcBaseFacts B newId initId bmB) (hi : W.findIn K (.ref C) "__init__" = some (some (.builtin initId))) (q : W.excInitIn K C bmB newId = true) (kp : W.keepIn K (.ref C) = true) : E0c K C where
  keep := kp
  does := by
    intro prog w A E Q s X hq
    obtain ⟨nm, N, qn, bs, bm, hdct, sn, sub, ab, col, dd, k0, k1, k2, k3, k5, hC, hT⟩ := W.excInit_of X q
    obtain ⟨hp, g, dr, tk, os⟩ := s
    exact W.call_B F hT hC (W.looks_findIn X hi) (Nat.zero_le _) (fun h' k he _ => hq h' _ _ k (Nat.le_succ _) he)
end
end Ge

set_option Elab.async false
set_option linter.all false
set_option maxRecDepth 100000
set_option maxHeartbeats 4000000
/-! Rules that want no types told; a def by its name. -/
namespace Gd
open PySem PySem.Spec L2
section
variable {X : Cx}
theorem op_addA : OpR X (binaryOp .Add) (fun x y H Q => (rI0 (fun i j => .int (i + j)) x y H Q) ∨ (∃ i j, x = .str i ∧ y = .str j ∧ i.length + j.length ≤ sizeLine ∧ Q (.str (i ++ j)) H) ∨ rCat x y H Q) := op_add.or (op_add_str.or op_cat)
theorem op_mulA : OpR X (binaryOp .Mult) (fun x y H Q => (rI CMulW (fun i j => .int (i * j)) x y H Q) ∨ rRep x y H Q) := op_mulW.or op_rep
theorem op_eqA {k : Nat} (hr : Room k X.A) : OpR X (compareOp .Eq) (fun x y H Q => rEq x y H Q ∨ rEqD X.K x y H Q) := op_eq.or (op_eqD hr.units)
theorem op_neA {k : Nat} (hr : Room k X.A) : OpR X (compareOp .NotEq) (fun x y H Q => rNe x y H Q ∨ rNeD X.K x y H Q) := op_ne.or (op_neD hr.units)
theorem call_lenA : CallR X (.builtin "len") (fun xs H Q => (∃ p ys, xs = [.ref p] ∧ (SqL X.K H p ys ∨ SqT X.K H p ys) ∧ Q (.int ys.length) H) ∨ (∃ z, xs = [.str z] ∧ z.length ≤ sizeLine ∧ Q (.int z.length) H)) := call_len_seq.or call_len_str
end
/-- the written part, told by a letter of its own -/
structure IsK (K : W.Frag) : Prop where
  t : True
section
variable {X : Cx} {K : W.Frag}
theorem ixK (_ : IsK K) (h : X.K = K := by rfl) : IxR X (rIx K) := h ▸ ix_seq
theorem inK (_ : IsK K) (h : X.K = K := by rfl) : OpR X (compareOp .In) (rIn K false) := h ▸ op_in_seq
theorem niK (_ : IsK K) (h : X.K = K := by rfl) : OpR X (compareOp .NotIn) (rIn K true) := h ▸ op_notIn_seq
theorem eqK (_ : IsK K) {k : Nat} (hr : Room k X.A) (h : X.K = K := by rfl) : OpR X (compareOp .Eq) (fun x y H Q => rEq x y H Q ∨ rEqD K x y H Q) := h ▸ op_eqA hr
theorem neK (_ : IsK K) {k : Nat} (hr : Room k X.A) (h : X.K = K := by rfl) : OpR X (compareOp .NotEq) (fun x y H Q => rNe x y H Q ∨ rNeD K x y H Q) := h ▸ op_neA hr
def rLenK (K : W.Frag) : List V → Hp → VK → Prop := fun xs H Q => (∃ p ys, xs = [.ref p] ∧ (SqL K H p ys ∨ SqT K H p ys) ∧ Q (.int ys.length) H) ∨ (∃ z, xs = [.str z] ∧ z.length ≤ sizeLine ∧ Q (.int z.length) H)
theorem lenK (_ : IsK K) (h : X.K = K := by rfl) : CallR X (.builtin "len") (rLenK K) := h ▸ call_lenA
theorem allK (_ : IsK K) (hc : X.calm = true) (h : X.K = K := by rfl) : CallR X (.builtin "all") (rAll K) := h ▸ cr_all hc
def rTupK (K : W.Frag) : List V → Hp → VK → Prop := fun xs H Q => ∃ p ys, xs = [.ref p] ∧ ((SqL K H p ys ∧ ∀ l, H l = none → Q (.ref l) (upd H l (.tup ys))) ∨ (SqT K H p ys ∧ Q (.ref p) H))
theorem tupK (_ : IsK K) (h : X.K = K := by rfl) : CallR X (.type "tuple") (rTupK K) := h ▸ call_tuple_of
theorem isXK (_ : IsK K) (h : X.K = K := by rfl) : CallR X (.builtin "isinstance") (Ge.rIsX K) := h ▸ Ge.call_isX
theorem efK (_ : IsK K) {o : Expr} {to : TE} {f : Str} {pos : Pos} (he : PE X o to) (hb : attributeBase o f X.env (eval o X.env) = eval o X.env := by rfl) (h : X.K = K := by rfl) : PE X (.Attribute o f pos) (Ge.tEf K f to) := h ▸ Ge.pe_ef he hb
theorem listK (_ : IsK K) {tg l : Expr} {tl : TE} (hl : PE X l tl) (h : X.K = K := by rfl) : PI X tg l (iList K tl) := h ▸ pi_list hl
theorem tupiK (_ : IsK K) {tg l : Expr} {tl : TE} (hl : PE X l tl) (h : X.K = K := by rfl) : PI X tg l (iTup K tl) := h ▸ pi_tup hl
def rJoinK (K : W.Frag) : V → List V → Hp → VK → Prop := fun x xs H Q => ∃ a p, ∃ ys : List Str, x = .str a ∧ xs = [.ref p] ∧ (SqL K H p (ys.map V.str) ∨ SqT K H p (ys.map V.str)) ∧ (ys.map (·.length)).sum + ys.length * a.length ≤ 16777216 ∧ Q (.str (Txt.join a ys)) H
theorem joinK (_ : IsK K) {o e : Expr} {to te : TE} {apos pos : Pos} (ho : PE X o to) (he : PE X e te) (hs : starEach [e] X.env = [(false, eval e X.env)] := by rfl) (hbase : attributeBase o "join" X.env (eval o X.env) = eval o X.env := by rfl) (hline : (apos.endLine == pos.line) = true := by rfl) (h : X.K = K := by rfl) :
    PE X (.Call (.Attribute o "join" apos) [e] [] pos) (tM1 (rJoinK K) to te) := h ▸ pe_join ho he hs hbase hline
end
structure Frees (mg : Str → Option Value) : Prop where
  h : ∀ x, frees.contains x = true → mg x = none
/-- names of the module's own objects -/
structure Globs (K : W.Frag) (names : List Str) (mg : Str → Option Value) : Prop where
  h : ∀ x, names.contains x = true → mg x = some (.ref (He.ga K x))
/-- a def by its name: somewhere, keeping sp at level k, wherever it is called | where no repr is under way -/
def Dn (P : Program) (w : World) (K : W.Frag) (mg : Str → Option Value) (base : Heap) (CX : CXT) (k : Nat) (x : Str) (ps : List Str) (sp : Sp) : Prop :=
  ∃ f fd, FnOk P w K mg base CX k f fd ps sp ∧ mg x = some (.ref f) ∧ W.keepIn K (.ref f) = true ∧ Binds K fd ps []
def DnG (P : Program) (w : World) (K : W.Frag) (mg : Str → Option Value) (base : Heap) (k : Nat) (x : Str) (ps : List Str) (sp : Sp) : Prop :=
  ∃ f fd, FnG P w K mg base CX0 k f fd ps sp ∧ mg x = some (.ref f) ∧ W.keepIn K (.ref f) = true ∧ Binds K fd ps []
section
variable {X : Cx} {j k : Nat} {x : Str} {ps : List Str} {sp : Sp} {p pos : Pos} {e : Expr} {es : List Expr} {t : TA}
theorem pe_dn (D : Dn X.prog X.w X.K X.mg X.base CX0 j x ps sp) (hr : Room k X.A) (hg : Gl X x) (hj : j ≤ k) (ha : PA X (e :: es) t) (hdb : (x == ("__debug__" : Str)) = false := by decide)
    (he : starEach (e :: es) X.env = (false, eval e X.env) :: starEach es X.env := by rfl) (hpl : (backTo pos (starEach es X.env)).any (·.1) = false := by rfl) : PE X (.Call (.Name x p) (e :: es) [] pos) (tCall sp [] E0 t) := by
  obtain ⟨f, fd, F, hm, hk, hb⟩ := D
  exact pe_call F (hr.mono hj) hg hm hk hb .nil pass0 ha hdb he hpl
theorem pe_dnG (D : DnG X.prog X.w X.K X.mg X.base j x ps sp) (hG : Bare X.A) (hr : Room k X.A) (hg : Gl X x) (hj : j ≤ k) (ha : PA X (e :: es) t) (hdb : (x == ("__debug__" : Str)) = false := by decide)
    (he : starEach (e :: es) X.env = (false, eval e X.env) :: starEach es X.env := by rfl) (hpl : (backTo pos (starEach es X.env)).any (·.1) = false := by rfl) : PE X (.Call (.Name x p) (e :: es) [] pos) (tCall sp [] E0 t) := by
  obtain ⟨f, fd, F, hm, hk, hb⟩ := D
  exact pe_callG hG F (hr.mono hj) hg hm hk hb .nil pass0 ha hdb he hpl
end

/-! ### the pot -/
/-- at p the pot: what is left of the cell, and the mixed number -/
def Pot (H : Hp) (p : Addr) : Prop := ∃ a b : Int, H p = some (.lst [.int a, .int b]) ∧ 0 ≤ a ∧ 0 ≤ b ∧ b < 2147483648
/-- all but p stands, at p the pot -/
def Kp (p : Addr) (H H' : Hp) : Prop := (∀ b o, b ≠ p → H b = some o → H' b = some o) ∧ Pot H' p
theorem Kp.refl {p : Addr} {H : Hp} (h : Pot H p) : Kp p H H := ⟨fun _ _ _ h => h, h⟩
theorem Kp.trans {p : Addr} {H H1 H2 : Hp} (a : Kp p H H1) (b : Kp p H1 H2) : Kp p H H2 := ⟨fun c o n h => b.1 c o n (a.1 c o n h), b.2⟩
theorem Pot.there {p : Addr} {H : Hp} (h : Pot H p) : ∃ o, H p = some o := let ⟨_, _, e, _⟩ := h; ⟨_, e⟩
theorem Pot.new {p q : Addr} {H : Hp} {o : HO} (h : Pot H p) (n : H q = none) : Pot (upd H q o) p := by
  obtain ⟨a, b, e, r⟩ := h
  exact ⟨a, b, by rw [upd_ne (ne_of_none e n)]; exact e, r⟩
theorem Kp.new {p q : Addr} {H : Hp} {o : HO} (h : Pot H p) (n : H q = none) : Kp p H (upd H q o) := ⟨fun b u _ e => by rw [upd_ne (ne_of_none e n)]; exact e, h.new n⟩
theorem Kp.put {p : Addr} {H : Hp} {a b : Int} (h0 : 0 ≤ a) (h2 : 0 ≤ b) (h3 : b < 2147483648) : Kp p H (upd H p (.lst [.int a, .int b])) := ⟨fun c o n e => by rw [upd_ne n]; exact e, a, b, upd_same, h0, h2, h3⟩
theorem Kp.at {p q : Addr} {H H' : Hp} {o : HO} (k : Kp p H H') (n : q ≠ p) (h : H q = some o) : H' q = some o := k.1 q o n h
theorem Kp.seq {K : W.Frag} {p q : Addr} {H H' : Hp} {xs : List V} (k : Kp p H H') (n : q ≠ p) (h : SqL K H q xs) : SqL K H' q xs := by
  rcases h with (h | ⟨o, h⟩) | h
  · exact .inl (.inl (k.1 _ _ n h))
  · exact .inl (.inr ⟨o, k.1 _ _ n h⟩)
  · exact .inr h
theorem Kp.gone {p q : Addr} {H H' : Hp} (k : Kp p H H') (n : q ≠ p) (h : H' q = none) : H q = none := by
  cases z : H q with
  | none => rfl
  | some o => rw [k.1 q o n z] at h; cases h
theorem Kp.over {p q : Addr} {H H' : Hp} {o : HO} (k : Kp p H H') (n : q ≠ p) (h : H q = none) : Kp p H (upd H' q o) := by
  refine ⟨fun b u nb e => ?_, ?_⟩
  · rw [upd_ne (ne_of_none e h)]
    exact k.1 b u nb e
  · obtain ⟨a, b, e, r⟩ := k.2
    exact ⟨a, b, by rw [upd_ne (Ne.symm n)]; exact e, r⟩
theorem Kp.pot {p : Addr} {H H' : Hp} (k : Kp p H H') : Pot H' p := k.2
theorem ne_pot {p q : Addr} {H : Hp} (h : Pot H p) (n : H q = none) : q ≠ p := fun e => by
  obtain ⟨o, z⟩ := h.there
  rw [← e, n] at z
  cases z
theorem ix0 {K : W.Frag} {H : Hp} {p : Addr} {a b : Int} {Q : VK} (h : H p = some (.lst [.int a, .int b])) (q : Q (.int a) H) : rIx K (.ref p) (.int 0) H Q := .inl ⟨p, _, 0, _, rfl, rfl, SqL.of h, rfl, q⟩
theorem ix1 {K : W.Frag} {H : Hp} {p : Addr} {a b : Int} {Q : VK} (h : H p = some (.lst [.int a, .int b])) (q : Q (.int b) H) : rIx K (.ref p) (.int 1) H Q := .inl ⟨p, _, 1, _, rfl, rfl, SqL.of h, rfl, q⟩
theorem log_lt {n : Int} (h : n.natAbs < 2 ^ 80) : n.natAbs.log2 < 80 := by
  by_cases z : n.natAbs = 0
  · rw [z]
    decide
  · exact (Nat.log2_lt z).mpr h
theorem mulW {i j : Int} (hi : i.natAbs < 2 ^ 80) (hj : j.natAbs < 2 ^ 80) : CMulW i j := by
  have a := log_lt hi
  have b := log_lt hj
  show i.natAbs.log2 + j.natAbs.log2 < 1000000
  omega
theorem divW {i j : Int} (h0 : 0 < j) (h : j.natAbs < 2 ^ 80) : CDivW i j := ⟨h0, by have := log_lt h; omega⟩
theorem ne_of_none' {H : Hp} {a b : Addr} {o : HO} (h : H a = some o) (h' : H b = none) : b ≠ a := fun e => ne_of_none h h' e.symm
theorem atI_int {α : Type} {xs : List α} {i : Int} {x : α} (h0 : 0 ≤ i) (h : xs[i.toNat]? = some x) : atI xs i = some x := by
  have e : ((i.toNat : Nat) : Int) = i := Int.toNat_of_nonneg h0
  have z := atI_nat h
  rw [e] at z
  exact z
/-- draw(pot, sides) -/
def spDraw : Sp := fun vs H Q _ => ∃ (p : Addr) (n : Int), vs = [.ref p, .int n] ∧ Pot H p ∧ 0 < n ∧ n ≤ 1000000000 ∧ ∀ (d : Int) (H' : Hp), 0 ≤ d → d < n → Kp p H H' → Q (.int d) H'
/-- pick(pot, some) -/
def spPick (K : W.Frag) : Sp := fun vs H Q _ => ∃ (p l : Addr) (xs : List V), vs = [.ref p, .ref l] ∧ Pot H p ∧ l ≠ p ∧ SqL K H l xs ∧ xs ≠ [] ∧ xs.length ≤ 1000000 ∧ ∀ (x : V) (H' : Hp), x ∈ xs → Kp p H H' → Q x H'
/-- pot(script, k) -/
def spPot (K : W.Frag) : Sp := fun vs H Q _ => ∃ (a : Addr) (ns : List Int) (k : Int), vs = [.ref a, .int k] ∧ SqL K H a (ns.map V.int) ∧ 0 ≤ k ∧ k < 100 ∧ ∀ (p : Addr) (H' : Hp), H p = none → Same H H' → Pot H' p → Q (.ref p) H'
/-- a short plain text -/
def Sm (n : Nat) (x : Str) : Prop := x.length ≤ n ∧ ∀ c ∈ x.cps.toList, c < 1000
theorem Sm.repr {n : Nat} {x : Str} (h : Sm n x) : (reprText x).length ≤ 10 * n + 2 := by
  have z := StrLaws.reprText_len x (fun c hc => Nat.lt_of_lt_of_le (h.2 c hc) (by decide))
  have := h.1
  omega
/-- named(pot, 1, []) -/
def spNamed (K : W.Frag) : Sp := fun vs H Q _ => ∃ (p t : Addr), vs = [.ref p, .int 1, .ref t] ∧ Pot H p ∧ t ≠ p ∧ SqL K H t [] ∧ ∀ (r : Addr) (x : Str) (H' : Hp), H' r = some (.lst [.str x]) → Sm 8 x → Kp p H H' → Q (.ref r) H'
/-- far(pot) -/
def spFar : Sp := fun vs H Q _ => ∃ p : Addr, vs = [.ref p] ∧ Pot H p ∧ ∀ (n : Int) (H' : Hp), n.natAbs < 2 ^ 200 → Kp p H H' → Q (.int n) H'
end Gd

set_option Elab.async false
set_option linter.all false
set_option maxRecDepth 100000
set_option maxHeartbeats 4000000
/-! Own errors raised; a try of several clauses with a name; what is asked of the held error. -/
namespace Gx
open PySem PySem.Spec PyProof.Rows L2 Ge
section
variable {X : Cx} {pins : List (Addr × Obj)} {σ : L2.St} {H : Hp} {s : Shared} {Q : XK} {C e d : Addr} {fs : List (Str × V)} {h' : Heap} {tk : Nat} {m : Str → Option Value}
/-- the heap without the error, its dict told -/
abbrev leftH (H : Hp) (C e d : Addr) (fs : List (Str × V)) : Hp := upd (del (withErr H C e d fs) e) d (.xd fs)
theorem mkp_made (T : Raises X (.ref C)) (I : Inv X pins σ H s) (M : Made s.heap h' e C d m) (r : ∀ y, RelO (fs.lookup y) (m y)) (q : Q (.ref C) (some d) (leftH H C e d fs)) : L2.MkP X pins σ Q (.ref e) { s with heap := h', toks := tk } := by
  obtain ⟨ne, nd, J⟩ := Inv.err (tk := tk) I M r
  have be : ∀ {b : Addr} {o : Obj}, s.heap.get? b = some o → b ≠ e := fun q => Nat.ne_of_lt (Nat.lt_of_lt_of_le (Heap.lt_size q) M.new)
  have bd : ∀ {b : Addr} {o : Obj}, s.heap.get? b = some o → b ≠ d := fun q => Nat.ne_of_lt (Nat.lt_of_lt_of_le (Heap.lt_size q) M.dbig)
  have keepH : ∀ {b : Addr} {o : HO}, H b = some o → withErr H C e d fs b = some o := fun q => by
    show upd (upd H d _) e _ _ = _
    rw [upd_ne (ne_of_none q ne), upd_ne (ne_of_none q nd)]
    exact q
  have offH : ∀ {b : Addr} {o u : HO}, upd H e o b = some u → b ≠ e → H b = some u := fun z n => by rwa [upd_ne n] at z
  obtain ⟨hp, g, dr, t0, os⟩ := s
  refine mk_end T I M.new (fun _ _ q => q) { keep := fun b o q _ _ _ => M.keep b o q, slot := fun b o q _ _ _ => ⟨o.slots, M.keep b o q⟩, free := fun b o q n _ => ?_, there := fun b o q _ => ⟨o, M.keep b o q⟩, tups := fun b xs q => ?_, frzs := fun b o u q => ?_, tbls := fun b ps q => ?_ } J.hok rfl I.bare upd_same ?_ nd q
  · show upd (upd H d _) e _ b = none
    rw [upd_ne (be q)] at n
    rw [upd_ne (be q), upd_ne (bd q)]
    exact n
  · have n : b ≠ e := fun z => by
      rw [z, upd_same] at q
      exact exo_tup (Option.some.inj q)
    exact keepH (offH q n)
  · have n : b ≠ e := fun z => by
      rw [z, upd_same] at q
      exact exo_frz (Option.some.inj q)
    exact keepH (offH q n)
  · have n : b ≠ e := fun z => by
      rw [z, upd_same] at q
      exact exo_tbl (Option.some.inj q)
    exact ⟨#[], (keepH (offH q n)).trans (by simp)⟩
  · show upd (upd H d _) e _ d = _
    rw [upd_ne M.dne]
    exact upd_same
end
section
variable {X : Cx} {C : Addr} {x f f2 : Str} {e : Expr} {es : List Expr} {ta : TA} {p pos : Pos} {k : Nat}
theorem pmk1 (T : E1 X.K C f) (rs : Raises X (.ref C)) (hr : Room k X.A) (hg : Gl X x) (hm : X.mg x = some (.ref C)) (ha : PA X (e :: es) ta) (hdb : (x == ("__debug__" : Str)) = false := by decide)
    (hs : starEach (e :: es) X.env = (false, eval e X.env) :: starEach es X.env := by rfl) (hpl : (backTo pos (starEach es X.env)).any (·.1) = false := by rfl) :
    L2.PMk X (.Call (.Name x p) (e :: es) [] pos) (fun σ H Q => ta σ H fun vs H1 => ∃ v, vs = [v] ∧ ∀ a d, H1 a = none → H1 d = none → d ≠ a → Q (.ref C) (some d) (leftH H1 C a d [(f, v)])) := by
  intro pins s σ H Q I h
  refine wpAny_Call_Name_kw (ld_glob I hg hm ?_ hdb)
  refine PySem.W.callWith_K (h₀ := X.base) I.ok.mod.kin T.keep (thn (ha.run pos pins s σ H _ I h) fun us s1 ⟨vs, H1, I1, r, v, ev, q⟩ => ⟨I1.kIn, ?_⟩) hs hpl
  subst ev
  obtain ⟨u, rfl, ru⟩ := vals1 r
  refine wpAny_call (T.does (.inl ⟨rfl, rfl⟩) I1.kIn I1.nolimit (by have := hr.dp; omega) (fun h' tk a d M => ?_))
  have z := Inv.err (tk := tk) I1 M (relO_one ru f)
  exact mkp_made rs I1 M (relO_one ru f) (q a d z.1 z.2.1 M.dne)
theorem pmk2 (T : E2 X.K C f f2) (rs : Raises X (.ref C)) (hr : Room k X.A) (hg : Gl X x) (hm : X.mg x = some (.ref C)) (ha : PA X (e :: es) ta) (hdb : (x == ("__debug__" : Str)) = false := by decide)
    (hs : starEach (e :: es) X.env = (false, eval e X.env) :: starEach es X.env := by rfl) (hpl : (backTo pos (starEach es X.env)).any (·.1) = false := by rfl) :
    L2.PMk X (.Call (.Name x p) (e :: es) [] pos) (fun σ H Q => ta σ H fun vs H1 => ∃ v v2, vs = [v, v2] ∧ ∀ a d, H1 a = none → H1 d = none → d ≠ a → Q (.ref C) (some d) (leftH H1 C a d [(f2, v2), (f, v)])) := by
  intro pins s σ H Q I h
  refine wpAny_Call_Name_kw (ld_glob I hg hm ?_ hdb)
  refine PySem.W.callWith_K (h₀ := X.base) I.ok.mod.kin T.keep (thn (ha.run pos pins s σ H _ I h) fun us s1 ⟨vs, H1, I1, r, v, v2, ev, q⟩ => ⟨I1.kIn, ?_⟩) hs hpl
  subst ev
  obtain ⟨u, u2, rfl, ru, ru2⟩ := vals2 r
  refine wpAny_call (T.does (.inl ⟨rfl, rfl⟩) I1.kIn I1.nolimit (by have := hr.dp; omega) (fun h' tk a d M => ?_))
  have z := Inv.err (tk := tk) I1 M (relO_two ru ru2 f f2)
  exact mkp_made rs I1 M (relO_two ru ru2 f f2) (q a d z.1 z.2.1 M.dne)
theorem pmk0 (T : E0c X.K C) (rs : Raises X (.ref C)) (hg : Gl X x) (hm : X.mg x = some (.ref C)) (hdb : (x == ("__debug__" : Str)) = false := by decide) :
    L2.PMk X (.Call (.Name x p) [] [] pos) (fun _ H Q => Q (.ref C) none H) := by
  intro pins s σ H Q I h
  refine wpAny_Call_Name_kw (ld_glob I hg hm ?_ hdb)
  refine PySem.W.callWith_K0 I.kIn T.keep ?_
  refine T.does I.kIn (fun h' a t kp new he => ?_)
  obtain ⟨hp, g, dr, tk, os⟩ := s
  have gone : hp.get? a = none := by
    cases z : hp.get? a with
    | none => rfl
    | some o => exact absurd (Heap.lt_size z) (Nat.not_lt.mpr new)
  exact ⟨a, _, _, ⟨hp, g, dr, tk, os⟩, H, .ref C, none, rfl, I, kp, gone, he, ⟨rfl, rfl⟩, rfl, rfl, I.hok.fresh new, rfl, I.bare, rs, h⟩
end

/-! ### try: body, several clauses 'except x as n' -/
/-- what the clauses wish, one after the other -/
def wMAs (K : PySem.W.Frag) (i : Nat) (Wout : WX) (D : Ends) : List (Value × (Addr → Value → Option Addr → TS)) → WX
  | [] => Wout
  | (c, ts) :: r => wAs K c i ts (wMAs K i Wout D r) D
inductive HdsAs (X : Cx) (n : Str) : List ExceptHandler → List (Value × (Addr → Value → Option Addr → TS)) → Prop
  | nil : HdsAs X n [] []
  | cons {x : Str} {c : Value} {ts : Addr → Value → Option Addr → TS} {b₀ : Stmt} {suite : List Stmt} {np pos' : Pos} {hds : List ExceptHandler} {l : List (Value × (Addr → Value → Option Addr → TS))} (hc : Names X x c)
      (hsu : ∀ (a : Addr) (oe : Obj) (cls : Value) (d : Option Addr) (pn : List (Addr × Obj)), Zc cls d oe → (∃ vs, oe.data = .fields vs) → PSs (X.suite a ((a, oe) :: pn)) (b₀ :: suite) (ts a cls d)) (r : HdsAs X n hds l) :
      HdsAs X n (.ExceptHandler (some (.Name x np)) (some n) (b₀ :: suite) pos' :: hds) ((c, ts) :: l)
section
variable {X : Cx} {n : Str} {i : Nat} {body : List Stmt} {pos : Pos} {tb : WX → TS} {Wout : WX} {pins : List (Addr × Obj)} {D : Ends}
/-- the clauses are gone through with the error at a on the ground -/
theorem hands_go {a : Addr} {B : Heap} {sI s' : Shared} {σ' : L2.St} {H' : Hp} {cls : Value} {d : Option Addr} {h3 : Heap} (hs : X.stack = X.env :: X.outer) (hf : X.env.frame = some X.env.locals) (hN : X.N.Nodup) (hi : X.N[i]? = some n) (hln : X.env.kindOf n = some .local)
    (tk : Takes X Wout) (ok : X.Ok) (J : Inv X pins σ' H' sI) (nb : ∀ b o, sI.heap.get? b = some o → b ∉ frs X.stack → B.get? b = some o) (up : sI.heap.UpToSlots h3) (fl : HandSPX.FlyingZ B (X.env :: X.outer) a (Zc cls d) h3) (na : H' a = none) (os : s'.os = sI.os) (ag : AllBare s'.gens) :
    ∀ {hds : List ExceptHandler} {l : List (Value × (Addr → Value → Option Addr → TS))}, HdsAs X n hds l → wMAs X.K i Wout D l cls d σ' H' → wpAny (model X.prog X.w) X.A (handleBy (.ref a) X.env hds) (SP X pins D) X.xe { s' with heap := h3 } := by
  have J3 : Inv X pins σ' H' { s' with heap := h3 } := J.landed nb fl.1 up os ag
  obtain ⟨oe, vs, he, hz, hd⟩ := fl.there
  have off : a ∉ frs (X.env :: X.outer) := fun hm => by
    obtain ⟨_, o, e, hnf⟩ := fl.2.2.1.mem hm
    rw [he] at e
    cases e
    exact hnf _ hd
  have nL : a ≠ X.env.locals := fun z => off (List.mem_filterMap.mpr ⟨X.env, List.mem_cons_self, by rw [hf, z]⟩)
  have nF : a ∉ X.fs := fun hm => by
    obtain ⟨e, q, z⟩ := List.mem_filterMap.mp hm
    exact off (List.mem_filterMap.mpr ⟨e, List.mem_cons_of_mem _ q, z⟩)
  intro hds l hk
  induction hk with
  | nil =>
    intro w
    refine wpAny_handleBy_nil ?_
    obtain ⟨_, _, _, o1, v1, T, _, _, e1, _, d1, f1, _⟩ := id fl
    unfold PySem.passOn
    refine wpAny_bind (wpAny_field e1 d1 f1 ?_)
    rw [if_neg (show ¬((Value.ref T == Value.none) = true) from by simp)]
    have out : wpAny (model X.prog X.w) X.A (setFlight (.ref a) X.env.frame) (fun _ s4 => wpAny (model X.prog X.w) X.A (throw (.ref a) : Sem Flow) (SP X pins D) X.xe s4) X.xe { s' with heap := h3 } := by
      rw [hf]
      exact HandSPX.setFlight_upZ fl fun h4 held up4 => wpAny_throw (tk _ _ ⟨a, B, sI, pins, σ', H', cls, d, rfl, J, nb, up.trans up4, .inr (.inr (by rw [hs]; exact held)), na, os, ag, w⟩)
    first
      | exact wpAny_bind (wpAny_pure (wpAny_bind out))
      | exact wpAny_bind out
  | @cons x c ts b₀ suite np pos' hds2 l2 hc hsu r ih =>
    rintro ⟨b, isB, yes, no⟩
    have S3 := J3.suite he hd na nL nF
    refine wpAny_handleBy_cons (codeAny_handlers_test ?_) (by intro q; cases q)
    have LM := PySem.W.exm_one (M := model X.prog X.w) J3.kIn (fun A Q E s k q => wpAny_typeOf_ref (k _ _ he) (by rw [hz.1]; exact q)) isB
    have name : ∀ {Q : Value → Shared → Prop} {E : Value → Shared → Prop}, Q c { s' with heap := h3 } → wpAny (model X.prog X.w) (X.A.mark (some (.ref a))) (eval (.Name x np) X.env) Q E { s' with heap := h3 } := fun {Q E} q => by
      obtain ⟨g, gd, m | ⟨m, v, nn⟩⟩ := hc
      · exact ld_glob (X := X.suite a ((a, oe) :: (X.pn ++ pins))) S3 g m q gd
      · exact ld_blt (X := X.suite a ((a, oe) :: (X.pn ++ pins))) S3 g m v q nn gd
    refine name (LM.here ?_)
    cases b with
    | false =>
      show wpAny _ X.A (handleBy (.ref a) X.env hds2) _ _ _
      exact ih (no rfl)
    | true =>
      refine codeAny_handlers_suite_as (HandSPX.lands_againZ fl fun h4 fl4 up4 => ?_)
      obtain ⟨oe4, vs4, he4, hz4, hd4⟩ := fl4.there
      have J4 : Inv X pins σ' H' { s' with heap := h4 } := J.landed nb fl4.1 (up.trans up4) os ag
      refine store_ok (X := X.suite a ((a, oe4) :: (X.pn ++ pins))) (v := .ref a) (J4.suite he4 hd4 na nL nF) hN hi (.inl hln) rfl (fun s5 S5 => ?_) (.inr hln)
      refine wpAny_mono ((hsu a oe4 cls d (X.pn ++ pins) hz4 ⟨_, hd4⟩).run [] s5 _ H' _ S5 (yes rfl a na)) (fun fl6 s6 hsp => ?_) (fun _ _ z => z.elim)
      have over : ∀ {σ6 : L2.St} {H6 : Hp} {Q : Shared → Prop}, Inv (X.suite a ((a, oe4) :: (X.pn ++ pins))) [] σ6 H6 s6 → (∀ s7, Inv X pins (σ6.set i none) H6 s7 → Q s7) →
          wpAny (model X.prog X.w) X.A (do bindName X.env n .none; unbindBehindTheSuite X.env n pos') (fun _ s7 => Q s7) X.xe s6 := fun S6 q => gone_ok (S6.unsuite ok) hN hi hln q
      cases fl6 with
      | ret u =>
        obtain ⟨v6, σ6, H6, S6, r6, q6⟩ := hsp
        exact over S6 fun s7 J7 => ⟨_, _, _, J7, r6, q6⟩
      | next =>
        obtain ⟨σ6, H6, S6, q6⟩ := hsp
        exact over S6 fun s7 J7 => ⟨_, _, J7, q6⟩
      | brk =>
        obtain ⟨σ6, H6, S6, q6⟩ := hsp
        exact over S6 fun s7 J7 => ⟨_, _, J7, q6⟩
      | cont =>
        obtain ⟨σ6, H6, S6, q6⟩ := hsp
        exact over S6 fun s7 J7 => ⟨_, _, J7, q6⟩
theorem ps_tryAs {h₀ : ExceptHandler} {hds : List ExceptHandler} {l : List (Value × (Addr → Value → Option Addr → TS))} (hs : X.stack = X.env :: X.outer) (hf : X.env.frame = some X.env.locals) (hN : X.N.Nodup) (hi : X.N[i]? = some n) (hln : X.env.kindOf n = some .local) (tk : Takes X Wout)
    (hb : ∀ (W : WX) (pn : List (Addr × Obj)) (xe : Value → Shared → Prop), Takes (X.tr pn xe) W → PSs (X.tr pn xe) body (tb W)) (hh : HdsAs X n (h₀ :: hds) l) :
    PS X (.Try body (h₀ :: hds) [] [] pos) (fun D σ H => tb (wMAs X.K i Wout D l) D σ H) := by
  refine ⟨fun pins s σ H D I h => wpAny_Try_except ?_⟩
  have ok := I.ok
  have hfr : X.A.frames = some (X.env :: X.outer) := by rw [ok.frames, hs]
  have run := (hb (wMAs X.K i Wout D l) (X.pn ++ pins) (fun e s₁ => wpAny (model X.prog X.w) X.A (noteFrame e X.env) (fun _ s₂ => wpAny (model X.prog X.w) X.A (setFlight e none) (fun _ s₃ =>
    wpAny (model X.prog X.w) X.A (handleBy e X.env (h₀ :: hds)) (SP X pins D) X.xe s₃) X.xe s₂) X.xe s₁) (fun u s' xx => by
      obtain ⟨a, B, sI, pins', σ', H', cls, d, rfl, J', nb, up, sky, na, os, ag, w⟩ := xx
      refine Sky.land Zc.steady hfr hf (by rw [← hs]; exact sky) fun h3 fl3 up3 => ?_
      exact hands_go hs hf hN hi hln tk ok (J'.ofTry ok) nb (up.trans up3) fl3 na os ag hh w)).run [] s σ H D (I.toTry _) h
  refine wpAny_mono run (fun f s1 hsp => ?_) (fun e s1 he => he)
  cases f with
  | ret u =>
    obtain ⟨v, σ', H', J', r, q⟩ := hsp
    exact ⟨v, σ', H', J'.ofTry ok, r, q⟩
  | next =>
    obtain ⟨σ', H', J', q⟩ := hsp
    exact wpAny_execs_nil ⟨σ', H', J'.ofTry ok, q⟩
  | brk =>
    obtain ⟨σ', H', J', q⟩ := hsp
    exact ⟨σ', H', J'.ofTry ok, q⟩
  | cont =>
    obtain ⟨σ', H', J', q⟩ := hsp
    exact ⟨σ', H', J'.ofTry ok, q⟩
end

/-! ### the held error -/
/-- isinstance(e, c) | isinstance(e, (c, ..)), e the held one of the class at C -/
def rHeld (K : PySem.W.Frag) (a : Addr) (cls : Value) (d : Option Addr) : List V → Hp → VK → Prop := fun xs H Q => ∃ (C : Addr) (c : V) (b : Bool), xs = [.ref a, c] ∧ cls = .ref C ∧ EA K C ∧ (∀ dx, d = some dx → ∃ fs, H dx = some (.xd fs)) ∧
  ((∃ u, ClsV c u ∧ PySem.W.kitOne K (.ref C) u = some b) ∨ (∃ tp cs us, c = .ref tp ∧ H tp = some (.tup cs) ∧ Paired ClsV cs us ∧ PySem.W.kitAny K (.ref C) us = some b)) ∧ Q (.bl b) H
theorem call_held {X : Cx} {a : Addr} {oe : Obj} {cls : Value} {d : Option Addr} (hp : (a, oe) ∈ X.pn) (z : Zc cls d oe) (hf : ∃ vs, oe.data = .fields vs) : CallR X (.builtin "isinstance") (rHeld X.K a cls d) := by
  intro pins s σ H xs us Q I r h
  obtain ⟨C, c, b, rfl, rfl, T, hd, hc, q⟩ := h
  obtain ⟨u1, u2, rfl, r1, r2⟩ := vals2 r
  obtain rfl : u1 = Value.ref a := r1
  have ho := (I.pin (a, oe) (List.mem_append_left _ hp)).1
  obtain ⟨z1, z2⟩ := z
  have cl : (PySem.W.clsIn X.K C).isSome = true := by
    obtain ⟨cd, z, _⟩ := PySem.W.any_some T.hd
    rw [z]
    rfl
  have go : ∀ od, PySem.W.InstAt s.heap a oe C od → wpAny (model X.prog X.w) X.A (call (.builtin "isinstance") [.ref a, u2]) (EP X pins σ Q) X.xe s := fun od J => by
    rcases hc with ⟨u, hu, hk⟩ | ⟨tp, cs, ws, rfl, ht, k, hk⟩
    · have e2 := hu.eq r2
      subst e2
      exact PySem.W.kia_one (PySem.W.kitx_exc cl T.ga T.gg T.exC T.cl T.gt T.tk T.ob) I.kIn J hk (fun z => nomatch z) fun tk => ⟨.bl b, H, I.tok tk, rfl, q⟩
    · obtain rfl : u2 = Value.ref tp := r2
      obtain ⟨_, its, rv, o, h1, h2, n, h3⟩ := (show ObjOk X.prog X.w H s.heap tp (.tup cs) from I.hok tp _ ht)
      have e3 := ClsV.all k rv
      subst e3
      obtain ⟨oc, od2, dt, sl⟩ := o
      simp only at h2 h3
      subst h2 h3
      exact PySem.W.kia_tup (PySem.W.kitx_exc cl T.ga T.gg T.exC T.cl T.gt T.tk T.ob) I.kIn J h1 hk (fun z => nomatch z) fun tk => ⟨.bl b, H, I.tok tk, rfl, q⟩
  obtain ⟨vs, hv⟩ := hf
  obtain ⟨oc, dd, dt, sl⟩ := oe
  simp only at z1 z2 hv
  subst z1 z2 hv
  cases dd with
  | none => exact go none ⟨ho, rfl, rfl, trivial⟩
  | some dx =>
    obtain ⟨fs, hx⟩ := hd dx rfl
    obtain ⟨mA, hn, _⟩ := (show ObjOk X.prog X.w H s.heap dx (.xd fs) from I.hok dx _ hx)
    obtain ⟨od, hod, _⟩ := lookIn_ns hn
    exact go (some od) ⟨ho, rfl, rfl, hod⟩
/-- repr of a truth -/
def rReprB : List V → Hp → VK → Prop := fun xs H Q => ∃ b : Bool, xs = [.bl b] ∧ Q (.str (if b then "True" else "False")) H
theorem call_reprB {X : Cx} : CallR X (.builtin "repr") rReprB := by
  intro pins s σ H xs us Q I r h
  obtain ⟨b, rfl, q⟩ := h
  obtain ⟨u, rfl, ru⟩ := vals1 r
  obtain rfl : u = Value.bool b := ru
  exact PySem.P.repr_of_bool ⟨.str _, H, I.tok _, ⟨_, rfl⟩, q⟩
end Gx

set_option Elab.async false
set_option linter.all false
set_option maxRecDepth 100000
set_option maxHeartbeats 4000000
/-! New data of bounded size. -/
namespace Gd
open PySem PySem.Spec PyProof.Rows L2
def bdT (k : Nat) : Nat := 250 * 4 ^ k
theorem bdT_pos (k : Nat) : 250 ≤ bdT k := by
  have : 0 < 4 ^ k := Nat.pow_pos (by decide)
  unfold bdT
  omega
theorem bdT_succ (k : Nat) : bdT (k + 1) = 4 * bdT k := by
  unfold bdT
  rw [Nat.pow_succ]
  omega
/-- at H' x is data of depth k, made of what was not there at H -/
def Fr (H H' : Hp) (k : Nat) (x : V) : Prop := ∃ as t, Rp H' as (2 * k + 1) x t ∧ t.length ≤ bdT k ∧ ∀ b ∈ as, H b = none ∧ ∃ o, H' b = some o
/-- so are all of xs -/
def Frs (H H' : Hp) (k : Nat) (xs : List V) : Prop := ∃ as, ∃ ts : List Str, ts.length = xs.length ∧ (∀ (i : Nat) (x : V) (t : Str), xs[i]? = some x → ts[i]? = some t → Rp H' as (2 * k + 1) x t) ∧ piled ts ≤ xs.length * (bdT k + 2) ∧ ∀ b ∈ as, H b = none ∧ ∃ o, H' b = some o
/-- nothing went -/
def Dom (H H' : Hp) : Prop := ∀ b, H' b = none → H b = none
theorem Kp.dom {p : Addr} {H H' : Hp} (k : Kp p H H') : Dom H H' := by
  intro b hb
  by_cases e : b = p
  · subst e
    obtain ⟨o, z⟩ := k.2.there
    rw [z] at hb
    cases hb
  · exact k.gone e hb
theorem Dom.trans {H H1 H2 : Hp} (a : Dom H H1) (b : Dom H1 H2) : Dom H H2 := fun c h => a c (b c h)
theorem Dom.upd {H : Hp} {a : Addr} {o : HO} : Dom H (upd H a o) := by
  intro b hb
  by_cases e : b = a
  · subst e
    rw [upd_same] at hb
    cases hb
  · rwa [upd_ne e] at hb
section
variable {H H0 H' H2 : Hp} {k : Nat} {x : V} {xs : List V} {p : Addr}
theorem Fr.flat {t : Str} (r : ∀ d, Rp H' [] d x t) (l : t.length ≤ 250) : Fr H H' k x := ⟨[], t, r _, Nat.le_trans l (bdT_pos k), fun _ h => nomatch h⟩
theorem Fr.int {n : Int} (h : n.natAbs < 2 ^ 200) : Fr H H' k (.int n) := by
  have l : n.natAbs.log2 < 200 := by
    by_cases z : n.natAbs = 0
    · rw [z]
      decide
    · exact (Nat.log2_lt z).mpr h
  refine .flat (fun d => .int n (by omega)) ?_
  have e := int_text_length_le (a := n) (k := 200) (by decide) l
  have e2 : (Str.ofString (toString n)).length = (toString n).length := PySem.ofString_length _
  show (Str.ofString (toString n)).length ≤ 250
  omega
theorem Fr.str {z : Str} {n : Nat} (h : Sm n z) (hn : n ≤ 20) : Fr H H' k (.str z) := by
  have l := h.repr
  have b : (1000 : Nat) < sizeLine := by decide
  exact .flat (fun d => .str z (by omega)) (by omega)
/-- what was there at H stands on -/
theorem Fr.on (f : Fr H H' k x) (s : ∀ b o, H b = none → H' b = some o → H2 b = some o) : Fr H H2 k x := by
  obtain ⟨as, t, r, l, n⟩ := f
  refine ⟨as, t, r.keep fun b hb o ho => s b o (n b hb).1 ho, l, fun b hb => ⟨(n b hb).1, ?_⟩⟩
  obtain ⟨o, ho⟩ := (n b hb).2
  exact ⟨o, s b o (n b hb).1 ho⟩
theorem Frs.on (f : Frs H H' k xs) (s : ∀ b o, H b = none → H' b = some o → H2 b = some o) : Frs H H2 k xs := by
  obtain ⟨as, ts, e, r, l, n⟩ := f
  refine ⟨as, ts, e, fun i x t h1 h2 => (r i x t h1 h2).keep fun b hb o ho => s b o (n b hb).1 ho, l, fun b hb => ⟨(n b hb).1, ?_⟩⟩
  obtain ⟨o, ho⟩ := (n b hb).2
  exact ⟨o, s b o (n b hb).1 ho⟩
theorem Fr.ahead (f : Fr H H' k x) (d : Dom H0 H) : Fr H0 H' k x := by
  obtain ⟨as, t, r, l, n⟩ := f
  exact ⟨as, t, r, l, fun b hb => ⟨d b (n b hb).1, (n b hb).2⟩⟩
theorem Frs.ahead (f : Frs H H' k xs) (d : Dom H0 H) : Frs H0 H' k xs := by
  obtain ⟨as, t, e, r, l, n⟩ := f
  exact ⟨as, t, e, r, l, fun b hb => ⟨d b (n b hb).1, (n b hb).2⟩⟩
theorem Fr.kp (f : Fr H H' k x) (kp : Kp p H' H2) (hp : Pot H p) : Fr H H2 k x := f.on fun b o e h => kp.1 b o (fun z => by
  obtain ⟨u, hu⟩ := hp.there
  rw [← z, e] at hu
  cases hu) h
theorem Frs.kp (f : Frs H H' k xs) (kp : Kp p H' H2) (hp : Pot H p) : Frs H H2 k xs := f.on fun b o e h => kp.1 b o (fun z => by
  obtain ⟨u, hu⟩ := hp.there
  rw [← z, e] at hu
  cases hu) h
theorem Frs.put {a : Addr} {o u : HO} (f : Frs H H' k xs) (h : H a = some u) : Frs H (upd H' a o) k xs := f.on fun b w e hb => by
  rw [upd_ne (fun z => by rw [z, h] at e; cases e)]
  exact hb
theorem Fr.put {a : Addr} {o u : HO} (f : Fr H H' k x) (h : H a = some u) : Fr H (upd H' a o) k x := f.on fun b w e hb => by
  rw [upd_ne (fun z => by rw [z, h] at e; cases e)]
  exact hb
theorem Fr.new {a : Addr} {o : HO} (f : Fr H H' k x) (h : H' a = none) : Fr H (upd H' a o) k x := f.on fun b w e hb => by
  rw [upd_ne (ne_of_none hb h)]
  exact hb
theorem Frs.nil : Frs H H' k [] := ⟨[], [], rfl, fun i x t h _ => (by simp at h), Nat.zero_le _, fun _ h => nomatch h⟩
theorem Frs.snoc (f : Frs H H' k xs) (g : Fr H H' k x) : Frs H H' k (xs ++ [x]) := by
  obtain ⟨as, ts, e, r, l, n⟩ := f
  obtain ⟨bs, t, r1, l1, n1⟩ := g
  refine ⟨as ++ bs, ts ++ [t], by simp [e], fun i y u h1 h2 => ?_, ?_, fun b hb => (List.mem_append.mp hb).elim (n b) (n1 b)⟩
  · by_cases c : i < xs.length
    · rw [List.getElem?_append_left c] at h1
      rw [List.getElem?_append_left (by omega)] at h2
      exact (r i y u h1 h2).more fun b hb => List.mem_append_left _ hb
    · rw [List.getElem?_append_right (by omega)] at h1
      rw [List.getElem?_append_right (by omega)] at h2
      have c1 := (List.getElem?_eq_some_iff.mp h1).1
      have c0 : i - xs.length = 0 := by simp at c1; omega
      rw [c0] at h1
      rw [show i - ts.length = 0 by omega] at h2
      cases h1
      cases h2
      exact r1.more fun b hb => List.mem_append_right _ hb
  · rw [piled_append, List.length_append, Nat.add_mul]
    have : piled [t] = t.length + 2 := by simp [piled]
    simp only [List.length_singleton, Nat.one_mul]
    omega
theorem listText_le : ∀ ts : List Str, (listText ts).length ≤ piled ts + 2
  | [] => by decide
  | t :: r => by
    have h := textFrom_length_pos r 1 (("[" : Str) ++ (if (0 : Nat) > 0 then ", " else "" : String) ++ t) (Nat.succ_pos 0)
    have e : (listText (t :: r)).length = (textFrom 1 (("[" : Str) ++ (if (0 : Nat) > 0 then ", " else "" : String) ++ t) r).length + 1 := strLen_append _ _
    have e2 : (("[" : Str) ++ (if (0 : Nat) > 0 then ", " else "" : String) ++ t).length = 1 + t.length := by
      rw [strLen_append, strLen_append]
      rfl
    rw [e, h, e2, piled_cons]
    omega
theorem tupleText_le (ts : List Str) : (tupleText ts).length ≤ piled ts + 3 := by
  unfold tupleText
  rw [strLen_append, strLen_append]
  have e1 : ((("(" : String) : Str)).length = 1 := rfl
  have e3 : (((if ts.length == 1 then ",)" else ")" : String) : Str)).length ≤ 2 := by split <;> decide
  by_cases z : ts = []
  · subst z
    have : (Str.join (", " : String) ([] : List Str)).length = 0 := rfl
    omega
  · have := join_length_add ts z
    omega
theorem Frs.bound {k : Nat} {n : Nat} (hn : n ≤ 3) : n * (bdT k + 2) + 20 ≤ bdT (k + 1) := by
  rw [bdT_succ]
  have := bdT_pos k
  have : n * (bdT k + 2) ≤ 3 * (bdT k + 2) := Nat.mul_le_mul_right _ hn
  omega
theorem Frs.list {a : Addr} (f : Frs H H' k xs) (n3 : xs.length ≤ 3) (h : H' a = some (.lst xs)) (d : Dom H0 H) (h0 : H0 a = none) {u : HO} (ha : H a = some u) : Fr H0 H' (k + 1) (.ref a) := by
  obtain ⟨as, ts, e, r, l, n⟩ := f
  refine ⟨a :: as, _, (Rp.lst (as0 := as) h (fun z => by rw [(n a z).1] at ha; cases ha) (fun _ h => h) e r).deep _ (by omega), ?_, fun b hb => ?_⟩
  · have := listText_le ts
    have := Frs.bound (k := k) n3
    omega
  · rcases List.mem_cons.mp hb with rfl | hb
    · exact ⟨h0, _, h⟩
    · exact ⟨d b (n b hb).1, (n b hb).2⟩
theorem Frs.tuple {a : Addr} (f : Frs H H' k xs) (n3 : xs.length ≤ 3) (h : H' a = none) (d : Dom H0 H') (d' : Dom H0 H) : Fr H0 (upd H' a (.tup xs)) (k + 1) (.ref a) := by
  obtain ⟨as, ts, e, r, l, n⟩ := f
  have r' : ∀ (i : Nat) (x : V) (t : Str), xs[i]? = some x → ts[i]? = some t → Rp (upd H' a (.tup xs)) as (2 * k + 1) x t := fun i x t h1 h2 => (r i x t h1 h2).keep fun b _ o hb => by rw [upd_ne (ne_of_none hb h)]; exact hb
  have na : a ∉ as := fun z => by
    obtain ⟨o, ho⟩ := (n a z).2
    rw [h] at ho
    cases ho
  refine ⟨a :: as, _, (Rp.tup (as0 := as) upd_same na (fun _ h => h) e r').deep _ (by omega), ?_, fun b hb => ?_⟩
  · have := tupleText_le ts
    have := Frs.bound (k := k) n3
    omega
  · rcases List.mem_cons.mp hb with rfl | hb
    · exact ⟨d _ h, _, upd_same⟩
    · obtain ⟨o, ho⟩ := (n b hb).2
      exact ⟨d' b (n b hb).1, o, by rw [upd_ne (ne_of_none ho h)]; exact ho⟩
/-- {"a": xs} -/
theorem Frs.dict {a c : Addr} (f : Frs H H' k xs) (n3 : xs.length ≤ 3) (h : H' a = some (.lst xs)) (d' : Dom H0 H) (h0 : H0 a = none) {u : HO} (ha : H a = some u) (hc : H' c = none) (d : Dom H0 H') (H3 : Hp) (hs : ∀ b o, H' b = some o → H3 b = some o)
    (h3 : H3 c = some (.dK [(.inr "a", .ref a)])) : Fr H0 H3 (k + 1) (.ref c) := by
  obtain ⟨as, ts, e, r, l, n⟩ := f
  have r' : ∀ (i : Nat) (x : V) (t : Str), xs[i]? = some x → ts[i]? = some t → Rp H3 as (2 * k + 1) x t := fun i x t h1 h2 => (r i x t h1 h2).keep fun b _ o hb => hs b o hb
  have na : a ∉ as := fun z => by
    rw [(n a z).1] at ha
    cases ha
  have in1 := Rp.lst (as := a :: as) (as0 := as) (hs a _ h) na (fun _ h => h) e r'
  have nc : c ∉ a :: as := fun z => by
    rcases List.mem_cons.mp z with rfl | z
    · rw [h] at hc; cases hc
    · obtain ⟨o, ho⟩ := (n c z).2
      rw [hc] at ho
      cases ho
  have sa : Sm 1 "a" := ⟨by decide, by decide⟩
  have la := sa.repr
  have big : (1000 : Nat) < sizeLine := by decide
  refine ⟨c :: a :: as, _, Rp.dic (as0 := a :: as) (ps := [(reprText "a", listText ts)]) h3 nc (fun _ h => h) rfl (fun i q p h1 h2 => ?_) (fun i q p h1 h2 => ?_), ?_, fun b hb => ?_⟩
  · cases i with
    | zero => cases h1; cases h2; exact .str _ (by omega)
    | succ i => simp at h1
  · cases i with
    | zero => cases h1; cases h2; exact in1
    | succ i => simp at h1
  · have := listText_le ts
    have := Frs.bound (k := k) n3
    have e : (dictText [reprText "a" ++ ": " ++ listText ts]).length = 1 + ((reprText "a").length + 2 + (listText ts).length) + 1 := by
      unfold dictText
      rw [strLen_append, strLen_append]
      show 1 + (reprText "a" ++ ": " ++ listText ts).length + 1 = _
      rw [strLen_append, strLen_append]
      rfl
    show (dictText [reprText "a" ++ ": " ++ listText ts]).length ≤ _
    omega
  · rcases List.mem_cons.mp hb with rfl | hb
    · exact ⟨d _ hc, _, h3⟩
    · rcases List.mem_cons.mp hb with rfl | hb
      · exact ⟨h0, _, hs _ _ h⟩
      · obtain ⟨o, ho⟩ := (n b hb).2
        exact ⟨d' b (n b hb).1, o, hs _ _ ho⟩
theorem Fr.emptyT {a : Addr} (h : H' a = some (.tup [])) (h0 : H a = none) : Fr H H' k (.ref a) :=
  ⟨[a], _, Rp.tup (as0 := []) (ts := []) h (by simp) (fun _ h => h) rfl (fun i x t h _ => by simp at h), Nat.le_trans (show _ ≤ 250 by decide) (bdT_pos k), fun b hb => by rw [List.mem_singleton.mp hb]; exact ⟨h0, _, h⟩⟩
theorem Fr.emptyL {a : Addr} (h : H' a = some (.lst [])) (h0 : H a = none) : Fr H H' k (.ref a) :=
  ⟨[a], _, Rp.lst (as0 := []) (ts := []) h (by simp) (fun _ h => h) rfl (fun i x t h _ => by simp at h), Nat.le_trans (show _ ≤ 250 by decide) (bdT_pos k), fun b hb => by rw [List.mem_singleton.mp hb]; exact ⟨h0, _, h⟩⟩
theorem Fr.emptyD {a : Addr} (h : H' a = some (.dK [])) (h0 : H a = none) : Fr H H' k (.ref a) :=
  ⟨[a], _, Rp.dic (as0 := []) (ps := []) h (by simp) (fun _ h => h) rfl (fun i x t h _ => by simp at h) (fun i x t h _ => by simp at h), Nat.le_trans (show _ ≤ 250 by decide) (bdT_pos k), fun b hb => by rw [List.mem_singleton.mp hb]; exact ⟨h0, _, h⟩⟩
end
end Gd

set_option Elab.async false
set_option linter.all false
set_option maxRecDepth 100000
set_option maxHeartbeats 1000000
/-! Operators by own methods: an own instance on the left, on the right, on both sides. -/
namespace Oo
open PySem PySem.Spec PySem.W PyProof.Rows
section
variable {prog : Program} {w : World} {A : Around} {E : Value → Shared → Prop} {s : Shared} {K : Frag} {x y C f g : Addr} {ox oy : Obj} {od oe : Option Obj} {nm T : String}

theorem b1_same {Q : Value → Shared → Prop} (X : K.In s.heap) (I : InstAt s.heap x ox C od) (J : InstAt s.heap y oy C oe) (hc : selfFirst K C = true) (hs : findIn K (.ref C) (PySem.dunder nm) = some (some (.ref f))) (hf : isFn K (.ref f) = true)
    (h : wpAny (model prog w) A (call (.ref f) [.ref x, .ref y]) (W.CmpBack Q) E s) : wpAny (model prog w) A (binaryOp1 nm (.ref x) (.ref y)) (fun r s' => ∃ v, r = some v ∧ Q v s') E s := by
  obtain ⟨cd, rest, hcd, hm⟩ := ksp_first hc
  have one := ksp_try X I hs hf h
  obtain ⟨hh, gg, d, tt, os⟩ := s
  have L1 : Looks (model prog w) hh (typeOf (.ref x)) (.ref C) := I.type
  have L2 : Looks (model prog w) hh (typeOf (.ref y)) (.ref C) := J.type
  have L3 : Looks (model prog w) hh (fillsNumberSlot (.ref C) nm) true := fills_K X hcd hm hs
  unfold binaryOp1
  refine wpAny_bind (L1.at (wpAny_bind (L2.at (wpAny_bind (L3.at ?_)))))
  have he : (Value.ref C == Value.ref C) = true := beq_self_eq_true _
  simp only [he, if_true]
  ksp_lk
  refine wpAny_mono one (fun r s' hr' => ?_) fun _ _ e => e
  obtain ⟨v, rfl, hq⟩ := hr'
  ksp_lk
  exact ⟨v, rfl, hq⟩

theorem b1_left {b : Value} {fo ro rc : Option Value} {Q : Value → Shared → Prop} (X : K.In s.heap) (I : InstAt s.heap x ox C od) (hb : typeOf b = pure (.type T)) (hc : selfFirst K C = true)
    (hs : findIn K (.ref C) (PySem.dunder nm) = some (some (.ref f))) (hf : isFn K (.ref f) = true) (hr : findIn K (.ref C) (dunderR nm) = some rc) (hp : rc = none ∨ ∃ g : Addr, rc = some (.ref g))
    (h1 : findIn K (.type T) (PySem.dunder nm) = some fo) (h2 : findIn K (.type T) (dunderR nm) = some ro) (hsub : subIn K (.type T) (.ref C) = some false)
    (h : wpAny (model prog w) A (call (.ref f) [.ref x, b]) (W.CmpBack Q) E s) : wpAny (model prog w) A (binaryOp1 nm (.ref x) b) (fun r s' => ∃ v, r = some v ∧ Q v s') E s := by
  obtain ⟨cd, rest, hcd, hm⟩ := ksp_first hc
  have one := ksp_try X I hs hf h
  obtain ⟨hh, gg, d, tt, os⟩ := s
  have L1 : Looks (model prog w) hh (typeOf (.ref x)) (.ref C) := I.type
  have L2 : Looks (model prog w) hh (typeOf b) (.type T) := Looks.of_pure hb
  have L3 : Looks (model prog w) hh (fillsNumberSlot (.ref C) nm) true := fills_K X hcd hm hs
  have L4 : Looks (model prog w) hh (fillsNumberSlot (.type T) nm) ((fo.isSome && !isSeqSlot fo) || (ro.isSome && !isSeqSlot ro)) := ksp_fillsT X h1 h2
  have L5 : Looks (model prog w) hh (isSubtype (.type T) (.ref C)) false := looks_subIn X hsub
  have L6 : Looks (model prog w) hh (numberSlotInPython (.ref C) nm) true := ksp_inPy X hs hr hp
  have L7 : Looks (model prog w) hh (numberSlotInPython (.type T) nm) false := Looks.of_pure rfl
  have L8 : Looks (model prog w) hh (typeLookup (.type T) (dunderR nm)) ro := looks_findIn X h2
  generalize ((fo.isSome && !isSeqSlot fo) || (ro.isSome && !isSeqSlot ro)) = right at L4
  have hne : (Value.ref C == Value.type T) = false := Bool.eq_false_iff.mpr fun q => by cases beq_iff_eq.mp q
  unfold binaryOp1
  refine wpAny_bind (L1.at (wpAny_bind (L2.at (wpAny_bind (L3.at ?_)))))
  simp only [hne, Bool.false_eq_true, if_false]
  cases right with
  | false =>
    ksp_lk
    refine wpAny_mono one (fun r s' hr' => ?_) fun _ _ e => e
    obtain ⟨v, rfl, hq⟩ := hr'
    ksp_lk
    exact ⟨v, rfl, hq⟩
  | true =>
    ksp_lk
    refine wpAny_mono one (fun r s' hr' => ?_) fun _ _ e => e
    obtain ⟨v, rfl, hq⟩ := hr'
    ksp_lk
    exact ⟨v, rfl, hq⟩

/-- a's own method for it declines -/
def Declines (prog : Program) (w : World) (A : Around) (E : Value → Shared → Prop) (s : Shared) (nm : String) (a : Value) (y : Addr) : Prop :=
  ∀ R : Option Value → Shared → Prop, (∀ t, R none { s with toks := t }) → wpAny (model prog w) A (tryMethod a (PySem.dunder nm) (.ref y)) R E s

theorem b1_right {a : Value} {fo ro : Option Value} {Q : Value → Shared → Prop} (X : K.In s.heap) (J : InstAt s.heap y oy C oe) (ha : typeOf a = pure (.type T)) (hc : selfFirst K C = true)
    (hs : findIn K (.ref C) (PySem.dunder nm) = some (some (.ref f))) (hr : findIn K (.ref C) (dunderR nm) = some (some (.ref g))) (hg : isFn K (.ref g) = true)
    (h1 : findIn K (.type T) (PySem.dunder nm) = some fo) (h2 : findIn K (.type T) (dunderR nm) = some ro) (hsub : subIn K (.ref C) (.type T) = some false)
    (no : ((fo.isSome && !isSeqSlot fo) || (ro.isSome && !isSeqSlot ro)) = true → Declines prog w A E s nm a y)
    (h : ∀ t, wpAny (model prog w) A (call (.ref g) [.ref y, a]) (W.CmpBack Q) E { s with toks := t }) : wpAny (model prog w) A (binaryOp1 nm a (.ref y)) (fun r s' => ∃ v, r = some v ∧ Q v s') E s := by
  obtain ⟨cd, rest, hcd, hm⟩ := ksp_first hc
  have one : ∀ t, wpAny (model prog w) A (tryMethod (.ref y) (dunderR nm) a) (fun r s' => ∃ v, r = some v ∧ Q v s') E { s with toks := t } := fun t => ksp_try (s := { s with toks := t }) X J hr hg (h t)
  obtain ⟨hh, gg, d, tt, os⟩ := s
  have L1 : Looks (model prog w) hh (typeOf a) (.type T) := Looks.of_pure ha
  have L2 : Looks (model prog w) hh (typeOf (.ref y)) (.ref C) := J.type
  have L3 : Looks (model prog w) hh (fillsNumberSlot (.ref C) nm) true := fills_K X hcd hm hs
  have L4 : Looks (model prog w) hh (fillsNumberSlot (.type T) nm) ((fo.isSome && !isSeqSlot fo) || (ro.isSome && !isSeqSlot ro)) := ksp_fillsT X h1 h2
  have L5 : Looks (model prog w) hh (isSubtype (.ref C) (.type T)) false := looks_subIn X hsub
  have L7 : Looks (model prog w) hh (numberSlotInPython (.type T) nm) false := Looks.of_pure rfl
  have hne : (Value.type T == Value.ref C) = false := Bool.eq_false_iff.mpr fun q => by cases beq_iff_eq.mp q
  generalize hl : ((fo.isSome && !isSeqSlot fo) || (ro.isSome && !isSeqSlot ro)) = left at L4 no
  unfold binaryOp1
  refine wpAny_bind (L1.at (wpAny_bind (L2.at (wpAny_bind (L4.at ?_)))))
  simp only [hne, Bool.false_eq_true, if_false]
  cases left with
  | false =>
    ksp_lk
    refine wpAny_mono (one tt) (fun r s' hr' => ?_) fun _ _ e => e
    obtain ⟨v, rfl, hq⟩ := hr'
    ksp_lk
    exact ⟨v, rfl, hq⟩
  | true =>
    ksp_lk
    refine no rfl _ fun t => ?_
    ksp_lk
    refine wpAny_mono (one t) (fun r s' hr' => ?_) fun _ _ e => e
    obtain ⟨v, rfl, hq⟩ := hr'
    ksp_lk
    exact ⟨v, rfl, hq⟩

/-- an operator by its first look -/
theorem bin_of {op : Operator} {a b : Value} {Q : Value → Shared → Prop} (h : wpAny (model prog w) A (binaryOp1 op.info.2 a b) (fun r s' => ∃ v, r = some v ∧ Q v s') E s) : wpAny (model prog w) A (binaryOp op a b) Q E s := by
  rcases hi : op.info with ⟨sym, nm'⟩
  rw [hi] at h
  simp only [binaryOp, hi]
  refine wpAny_holding (wpAny_bind (wpAny_mono h (fun r s' hr' => ?_) fun _ _ e => e))
  obtain ⟨v, rfl, hq⟩ := hr'
  obtain ⟨hh, gg, d, tt, os⟩ := s'
  ksp_lk
  exact hq

theorem nofi_T {h : Heap} {add : Bool} (X : K.In h) (h1 : findIn K (.type T) (dunderI nm) = some none) : Looks (model prog w) h (fillsInplaceSlot (.type T) nm add) false := by
  intro A Q E s k q
  obtain ⟨hh, g, d, tt, os⟩ := s
  have X' : K.In hh := X.keeps k
  have L1 : Looks (model prog w) hh (typeLookup (.type T) (dunderI nm)) none := looks_findIn X' h1
  unfold fillsInplaceSlot
  repeat lk
  exact q
theorem nofi_C {h : Heap} {add : Bool} {cd : ClassData} (X : K.In h) (hc : clsIn K C = some cd) (hm : cd.mro = [.ref C, .type "object"]) (h1 : findIn K (.ref C) (dunderI nm) = some none) (h2 : findIn K (.type "object") (dunderI nm) = some none) :
    Looks (model prog w) h (fillsInplaceSlot (.ref C) nm add) false := by
  intro A Q E s k q
  have Lm : Looks (model prog w) h (mroOf (.ref C)) cd.mro := (looks_clsIn X hc).andThen (f := fun cd => pure cd.mro) .now
  have Lm' := Lm.keeps k
  obtain ⟨hh, g, d, tt, os⟩ := s
  have X' : K.In hh := X.keeps k
  have L1 : Looks (model prog w) hh (typeLookup (.ref C) (dunderI nm)) none := looks_findIn X' h1
  have L2 : Looks (model prog w) hh (typeLookup (.type "object") (dunderI nm)) none := looks_findIn X' h2
  unfold fillsInplaceSlot
  refine wpAny_bind (Lm'.at ?_)
  rw [hm, List.anyM_cons]
  refine wpAny_bind ?_
  repeat lk
  exact q
/-- x op= e by the operator, where nothing has an own op= -/
theorem iop_of {op : Operator} {a b ta : Value} {Q : Value → Shared → Prop} (ht : Looks (model prog w) s.heap (typeOf a) ta) (hfi : Looks (model prog w) s.heap (fillsInplaceSlot ta op.info.2 (op == .Add)) false)
    (h : wpAny (model prog w) A (binaryOp1 op.info.2 a b) (fun r s' => ∃ v, r = some v ∧ Q v s') E s) : wpAny (model prog w) A (inplaceOp op a b) Q E s := by
  unfold inplaceOp
  obtain ⟨hh, gg, d, tt, os⟩ := s
  refine wpAny_holding (wpAny_bind (ht.at ?_))
  refine wpAny_bind (hfi.at ?_)
  simp only [Bool.false_eq_true, if_false]
  refine wpAny_bind (wpAny_mono h (fun r s' hr' => ?_) fun _ _ e => e)
  obtain ⟨v, rfl, hq⟩ := hr'
  obtain ⟨hh, gg, d, tt, os⟩ := s'
  ksp_lk
  exact hq
/-- int's own method declines what is no int -/
theorem decl_of {id : String} {B : Builtin} {i : Int} {u : Tok} (slot : Slot "int" (PySem.dunder nm) id) (entry : entryFor table id = some B) (args : argsOk id ⟨[.int i u, .ref y], []⟩)
    (body : ∀ (E' : Value → Shared → Prop) (R : Fin → Shared → Prop), (∀ t, R (.done (.ret .notImplemented)) { s with toks := t }) → wpAny (model prog w) A.in1 (B ⟨[.int i u, .ref y], []⟩) R E' s) : Declines prog w A E s nm (.int i u) y := by
  intro R hR
  unfold tryMethod
  refine wpAny_bind (wpAny_callSpecial?_slot (typeIs_int _ _ _) slot (GQ.call_here slot (typeIs_int _ _ _) entry args (body _ _ fun t => ?_)))
  exact wpAny_pure (hR t)
end
end Oo

set_option Elab.async false
set_option linter.all false
set_option maxRecDepth 100000
set_option maxHeartbeats 400000
namespace Oo
open PySem PySem.Spec PySem.W PyProof.Rows
section
variable {prog : Program} {w : World} {A : Around} {E : Value → Shared → Prop} {s : Shared} {K : Frag} {x y C f g : Addr} {ox oy : Obj} {od oe : Option Obj} {nm T : String}
variable {i : Int} {u : Tok} {dx : Addr}
theorem asInt_inst {R : Option Int → Shared → Prop} {M : Model} (hy : s.heap.get? y = some (instObj C dx)) (h : R none s) : wpAny M A (asInt? (.ref y)) R E s := by
  unfold asInt?
  refine wpAny_bind (wpAny_load hy ?_)
  exact wpAny_pure h
theorem bin_no {name : String} {f : Int → Int → Sem Fin} (hy : s.heap.get? y = some (instObj C dx))
    {R : Fin → Shared → Prop} (hR : ∀ t, R (.done (.ret .notImplemented)) { s with toks := t }) : wpAny (model prog w) A (Builtin.Int.intBinary name f false ⟨[Value.int i u, Value.ref y], []⟩) R E s := by
  unfold Builtin.Int.intBinary
  have hs : PySem.slotArgs name 1 ⟨[Value.int i u, Value.ref y], []⟩ = pure (Value.int i u, [Value.ref y]) := rfl
  refine wpAny_bind (wpAny_of_eq hs ?_)
  dsimp only
  refine wpAny_bind (wpAny_of_eq (a := i) rfl ?_)
  refine wpAny_bind (asInt_inst hy ?_)
  exact wpAny_bind (wpAny_rule (wpAny_pure (hR _)))
theorem pylong_no {R : Unit → Shared → Prop} {M : Model} (hy : s.heap.get? y = some (instObj C dx)) (h : R () s) : wpAny M A (Builtin.exactOperandsForPylong false ⟨[Value.int i u, Value.ref y], []⟩) R E s := by
  unfold Builtin.exactOperandsForPylong
  refine wpAny_ite_true rfl ?_
  refine wpAny_bind (wpAny_of_eq (a := some i) rfl ?_)
  refine wpAny_bind (asInt_inst hy ?_)
  exact wpAny_pure h
theorem fdiv_no {R : Fin → Shared → Prop} (hy : s.heap.get? y = some (instObj C dx)) (hR : ∀ t, R (.done (.ret .notImplemented)) { s with toks := t }) : wpAny (model prog w) A (Builtin.«int.__floordiv__» ⟨[Value.int i u, Value.ref y], []⟩) R E s := by
  unfold Builtin.«int.__floordiv__»
  exact wpAny_bind (pylong_no hy (bin_no hy hR))
theorem fd1 : Slot "int" (PySem.dunder "floordiv") "int.__floordiv__" := F.slot_int_floordiv
theorem fd2 : entryFor table "int.__floordiv__" = some Builtin.«int.__floordiv__» := F.entry_int_floordiv
theorem fd3 : argsOk "int.__floordiv__" ⟨[Value.int i u, Value.ref y], []⟩ := F.args_int_floordiv_2 _ _
theorem decl_fd {B : Builtin} (hB : Builtin.«int.__floordiv__» = B) (h2 : entryFor table "int.__floordiv__" = some B) (hy : s.heap.get? y = some (instObj C dx)) : Declines prog w A E s "floordiv" (Value.int i u) y :=
  decl_of (nm := "floordiv") (id := "int.__floordiv__") (B := B) (i := i) (u := u) fd1 h2 fd3 (hB ▸ fun E' R hR => fdiv_no hy hR)
theorem decl_floordiv (hy : s.heap.get? y = some (instObj C dx)) : Declines prog w A E s "floordiv" (Value.int i u) y := decl_fd rfl fd2 hy
theorem add_no {R : Fin → Shared → Prop} (hy : s.heap.get? y = some (instObj C dx)) (hR : ∀ t, R (.done (.ret .notImplemented)) { s with toks := t }) : wpAny (model prog w) A (Builtin.«int.__add__» ⟨[Value.int i u, Value.ref y], []⟩) R E s := by
  unfold Builtin.«int.__add__»
  exact bin_no hy hR
theorem add2 : entryFor table "int.__add__" = some Builtin.«int.__add__» := F.entry_int_add
theorem add3 : argsOk "int.__add__" ⟨[Value.int i u, Value.ref y], []⟩ := F.args_int_add_2 _ _
theorem decl_add' {B : Builtin} (hB : Builtin.«int.__add__» = B) (h2 : entryFor table "int.__add__" = some B) (hy : s.heap.get? y = some (instObj C dx)) : Declines prog w A E s "add" (Value.int i u) y :=
  decl_of (nm := "add") (id := "int.__add__") (B := B) (i := i) (u := u) F.slot_int_add h2 add3 (hB ▸ fun E' R hR => add_no hy hR)
theorem decl_add (hy : s.heap.get? y = some (instObj C dx)) : Declines prog w A E s "add" (Value.int i u) y := decl_add' rfl add2 hy
theorem sub_no {R : Fin → Shared → Prop} (hy : s.heap.get? y = some (instObj C dx)) (hR : ∀ t, R (.done (.ret .notImplemented)) { s with toks := t }) : wpAny (model prog w) A (Builtin.«int.__sub__» ⟨[Value.int i u, Value.ref y], []⟩) R E s := by
  unfold Builtin.«int.__sub__»
  exact bin_no hy hR
theorem sub2 : entryFor table "int.__sub__" = some Builtin.«int.__sub__» := F.entry_int_sub
theorem sub3 : argsOk "int.__sub__" ⟨[Value.int i u, Value.ref y], []⟩ := F.args_int_sub_2 _ _
theorem decl_sub' {B : Builtin} (hB : Builtin.«int.__sub__» = B) (h2 : entryFor table "int.__sub__" = some B) (hy : s.heap.get? y = some (instObj C dx)) : Declines prog w A E s "sub" (Value.int i u) y :=
  decl_of (nm := "sub") (id := "int.__sub__") (B := B) (i := i) (u := u) F.slot_int_sub h2 sub3 (hB ▸ fun E' R hR => sub_no hy hR)
theorem decl_sub (hy : s.heap.get? y = some (instObj C dx)) : Declines prog w A E s "sub" (Value.int i u) y := decl_sub' rfl sub2 hy
theorem mul_no {R : Fin → Shared → Prop} (hy : s.heap.get? y = some (instObj C dx)) (hR : ∀ t, R (.done (.ret .notImplemented)) { s with toks := t }) : wpAny (model prog w) A (Builtin.«int.__mul__» ⟨[Value.int i u, Value.ref y], []⟩) R E s := by
  unfold Builtin.«int.__mul__»
  exact bin_no hy hR
theorem mul2 : entryFor table "int.__mul__" = some Builtin.«int.__mul__» := F.entry_int_mul
theorem mul3 : argsOk "int.__mul__" ⟨[Value.int i u, Value.ref y], []⟩ := F.args_int_mul_2 _ _
theorem decl_mul' {B : Builtin} (hB : Builtin.«int.__mul__» = B) (h2 : entryFor table "int.__mul__" = some B) (hy : s.heap.get? y = some (instObj C dx)) : Declines prog w A E s "mul" (Value.int i u) y :=
  decl_of (nm := "mul") (id := "int.__mul__") (B := B) (i := i) (u := u) F.slot_int_mul h2 mul3 (hB ▸ fun E' R hR => mul_no hy hR)
theorem decl_mul (hy : s.heap.get? y = some (instObj C dx)) : Declines prog w A E s "mul" (Value.int i u) y := decl_mul' rfl mul2 hy
theorem mod_no {R : Fin → Shared → Prop} (hy : s.heap.get? y = some (instObj C dx)) (hR : ∀ t, R (.done (.ret .notImplemented)) { s with toks := t }) : wpAny (model prog w) A (Builtin.«int.__mod__» ⟨[Value.int i u, Value.ref y], []⟩) R E s := by
  unfold Builtin.«int.__mod__»
  exact bin_no hy hR
theorem mod2 : entryFor table "int.__mod__" = some Builtin.«int.__mod__» := F.entry_int_mod
theorem mod3 : argsOk "int.__mod__" ⟨[Value.int i u, Value.ref y], []⟩ := F.args_int_mod_2 _ _
theorem decl_mod' {B : Builtin} (hB : Builtin.«int.__mod__» = B) (h2 : entryFor table "int.__mod__" = some B) (hy : s.heap.get? y = some (instObj C dx)) : Declines prog w A E s "mod" (Value.int i u) y :=
  decl_of (nm := "mod") (id := "int.__mod__") (B := B) (i := i) (u := u) F.slot_int_mod h2 mod3 (hB ▸ fun E' R hR => mod_no hy hR)
theorem decl_mod (hy : s.heap.get? y = some (instObj C dx)) : Declines prog w A E s "mod" (Value.int i u) y := decl_mod' rfl mod2 hy
/-- the five operators of which int declines an own instance -/
def Five (op : Operator) : Prop := op = .Add ∨ op = .Sub ∨ op = .Mult ∨ op = .Mod ∨ op = .FloorDiv
theorem decl_five {op : Operator} (h : Five op) (hy : s.heap.get? y = some (instObj C dx)) : Declines prog w A E s op.info.2 (Value.int i u) y := by
  rcases h with rfl | rfl | rfl | rfl | rfl
  · exact decl_add hy
  · exact decl_sub hy
  · exact decl_mul hy
  · exact decl_mod hy
  · exact decl_floordiv hy
end
end Oo

set_option Elab.async false
set_option linter.all false
set_option maxRecDepth 100000
set_option maxHeartbeats 400000
/-! ### over the layer -/
namespace Oo
open PySem PySem.Spec PyProof.Rows L2
/-- what the text says of a class's operator: its own def f, the turned one g (or none); int has the slot -/
structure OwnBin (K : W.Frag) (C : Addr) (nm : String) (f : Addr) (g : Option Addr) : Prop where
  sf : W.selfFirst K C = true
  hs : W.findIn K (.ref C) (PySem.dunder nm) = some (some (.ref f))
  hf : W.isFn K (.ref f) = true
  hr : W.findIn K (.ref C) (dunderR nm) = some (g.map Value.ref)
  hg : ∀ a, g = some a → W.isFn K (.ref a) = true
  i1 : ∃ fo, W.findIn K (.type "int") (PySem.dunder nm) = some fo
  i2 : ∃ ro, W.findIn K (.type "int") (dunderR nm) = some ro
  s1 : W.subIn K (.type "int") (.ref C) = some false
  s2 : W.subIn K (.ref C) (.type "int") = some false
/-- .. and that nothing has an own op= -/
structure NoIn (K : W.Frag) (C : Addr) (nm : String) : Prop where
  mro : ∃ cd, W.clsIn K C = some cd ∧ cd.mro = [.ref C, .type "object"]
  n1 : W.findIn K (.ref C) (dunderI nm) = some none
  n2 : W.findIn K (.type "object") (dunderI nm) = some none
  n3 : W.findIn K (.type "int") (dunderI nm) = some none
/-- x op y of own instances and ints, by the defs at f and g with the promises sp and sq -/
def Third (C : Addr) (sq : Sp) (E : XK) (x y : V) (H : Hp) (Q : VK) : Prop := ∃ b dy gs i, x = .int i ∧ y = .ref b ∧ H b = some (.ins C dy gs) ∧ sq [y, x] H Q E
def rBin (C : Addr) (sp sq : Sp) (E : XK) : R2 := fun x y H Q =>
  (∃ a dx fs b dy gs, x = .ref a ∧ y = .ref b ∧ H a = some (.ins C dx fs) ∧ H b = some (.ins C dy gs) ∧ sp [x, y] H Q E) ∨
  (∃ a dx fs i, x = .ref a ∧ y = .int i ∧ H a = some (.ins C dx fs) ∧ sp [x, y] H Q E) ∨
  (∃ b dy gs i, x = .int i ∧ y = .ref b ∧ H b = some (.ins C dy gs) ∧ sq [y, x] H Q E)
section
variable {X : Cx} {CX : CXT} {pins : List (Addr × Obj)} {σ : L2.St} {H : Hp} {s : Shared} {C f : Addr} {g : Option Addr} {k : Nat} {sp sq : Sp} {E : XK} {op : Operator} {fd gd : FuncData} {ps qs : List Str}
theorem inst_at (I : Inv X pins σ H s) {a dx : Addr} {fs : List (Str × V)} (e : H a = some (.ins C dx fs)) : ∃ od, W.InstAt s.heap a (W.instObj C dx) C (some od) ∧ s.heap.get? a = some (W.instObj C dx) := by
  obtain ⟨mA, O, _, _, _, _⟩ := ins_get I.hok e
  obtain ⟨od, J, _⟩ := O.look
  exact ⟨od, J, O.obj⟩
theorem b1_own {nm : String} {x y : V} {v u : Value} {Q : VK} (B : OwnBin X.K C nm f g) (F : FnOk X.prog X.w X.K X.mg X.base CX k f fd ps sp) (hb : Binds X.K fd ps []) (hx : Passes CX X E) (hr : Room k X.A)
    (G : Third C sq E x y H Q → ∃ (a : Addr) (gd : FuncData) (qs : List Str), g = some a ∧ FnOk X.prog X.w X.K X.mg X.base CX k a gd qs sq ∧ Binds X.K gd qs [])
    (hd : Third C sq E x y H Q → ∀ (y dx : Addr) (i : Int) (u : Tok) (s : Shared) (E : Value → Shared → Prop), s.heap.get? y = some (W.instObj C dx) → Declines X.prog X.w X.A E s nm (Value.int i u) y)
    (I : Inv X pins σ H s) (rx : RelV x v) (ry : RelV y u) (h : rBin C sp sq E x y H Q) :
    wpAny (model X.prog X.w) X.A (binaryOp1 nm v u) (fun r s' => ∃ z, r = some z ∧ EP X pins σ Q z s') X.xe s := by
  have fin : ∀ (z : Value) (s' : Shared), EP X pins σ Q z s' → W.CmpBack (EP X pins σ Q) z s' := fun z s' ⟨z', H', I', rz, q⟩ => SlX.cmpback rz ⟨z', H', I', rz, q⟩
  rcases h with ⟨a, dx, fs, b, dy, gs, rfl, rfl, ha, hb2, q⟩ | ⟨a, dx, fs, i, rfl, rfl, ha, q⟩ | ⟨b, dy, gs, i, rfl, rfl, hb2, q⟩
  · cases (show v = Value.ref a from rx)
    cases (show u = Value.ref b from ry)
    obtain ⟨od, J, _⟩ := inst_at I ha
    obtain ⟨oe, J2, _⟩ := inst_at I hb2
    exact b1_same I.kIn J J2 B.sf B.hs B.hf (wpAny_mono (run_fn (us := [.ref a, .ref b]) (vs := [.ref a, .ref b]) F hr hb .nil hx I (.cons rfl (.cons rfl .nil)) (by simpa using q)) fin fun _ _ z => z)
  · cases (show v = Value.ref a from rx)
    obtain ⟨t, rfl⟩ := (show ∃ t, u = Value.int i t from ry)
    obtain ⟨od, J, _⟩ := inst_at I ha
    obtain ⟨fo, h1⟩ := B.i1
    obtain ⟨ro, h2⟩ := B.i2
    refine b1_left I.kIn J (T := "int") rfl B.sf B.hs B.hf B.hr ?_ h1 h2 B.s1 (wpAny_mono (run_fn (us := [.ref a, .int i t]) (vs := [.ref a, .int i]) F hr hb .nil hx I (.cons rfl (.cons ⟨t, rfl⟩ .nil)) (by simpa using q)) fin fun _ _ z => z)
    cases g with
    | none => exact .inl rfl
    | some a => exact .inr ⟨a, rfl⟩
  · obtain ⟨t, rfl⟩ := (show ∃ t, v = Value.int i t from rx)
    cases (show u = Value.ref b from ry)
    obtain ⟨oe, J2, e2⟩ := inst_at I hb2
    obtain ⟨fo, h1⟩ := B.i1
    obtain ⟨ro, h2⟩ := B.i2
    have th : Third C sq E (.int i) (.ref b) H Q := ⟨b, dy, gs, i, rfl, rfl, hb2, q⟩
    obtain ⟨ga, gd, qs, eg, G1, G2⟩ := G th
    have hr2 : W.findIn X.K (.ref C) (dunderR nm) = some (some (.ref ga)) := by rw [B.hr, eg]; rfl
    refine b1_right I.kIn J2 (T := "int") rfl B.sf B.hs hr2 (B.hg ga eg) h1 h2 B.s2 (fun _ => hd th b dy i t s _ e2) fun t2 => ?_
    have I2 : Inv X pins σ H { s with toks := t2 } := I.tok t2
    exact wpAny_mono (run_fn (us := [.ref b, .int i t]) (vs := [.ref b, .int i]) G1 hr G2 .nil hx I2 (.cons rfl (.cons ⟨t, rfl⟩ .nil)) (by simpa using q)) fin fun _ _ z => z
theorem op_bin (h5 : Five op) {g : Addr} (B : OwnBin X.K C op.info.2 f (some g)) (F : FnOk X.prog X.w X.K X.mg X.base CX k f fd ps sp) (hb : Binds X.K fd ps []) (G : FnOk X.prog X.w X.K X.mg X.base CX k g gd qs sq) (hb2 : Binds X.K gd qs [])
    (hx : Passes CX X E) (hr : Room k X.A) : OpR X (binaryOp op) (rBin C sp sq E) := fun pins s σ H x y v u Q I rx ry h =>
  bin_of (b1_own B F hb hx hr (fun _ => ⟨g, gd, qs, rfl, G, hb2⟩) (fun _ y dx i u s E hy => decl_five h5 hy) I rx ry h)
theorem iop_bin (h5 : Five op) {g : Addr} (B : OwnBin X.K C op.info.2 f (some g)) (N : NoIn X.K C op.info.2) (F : FnOk X.prog X.w X.K X.mg X.base CX k f fd ps sp) (hb : Binds X.K fd ps []) (G : FnOk X.prog X.w X.K X.mg X.base CX k g gd qs sq) (hb2 : Binds X.K gd qs [])
    (hx : Passes CX X E) (hr : Room k X.A) : OpR X (inplaceOp op) (rBin C sp sq E) := fun pins s σ H x y v u Q I rx ry h => by
  have one := b1_own B F hb hx hr (fun _ => ⟨g, gd, qs, rfl, G, hb2⟩) (fun _ y dx i u s E hy => decl_five h5 hy) I rx ry h
  have left : (∃ a dx fs, x = .ref a ∧ H a = some (.ins C dx fs)) ∨ ∃ i, x = .int i := by
    rcases h with ⟨a, dx, fs, _, _, _, rfl, _, ha, _⟩ | ⟨a, dx, fs, _, rfl, _, ha, _⟩ | ⟨_, _, _, i, rfl, _⟩
    · exact .inl ⟨a, dx, fs, rfl, ha⟩
    · exact .inl ⟨a, dx, fs, rfl, ha⟩
    · exact .inr ⟨i, rfl⟩
  rcases left with ⟨a, dx, fs, rfl, ha⟩ | ⟨i, rfl⟩
  · cases (show v = Value.ref a from rx)
    obtain ⟨od, J, _⟩ := inst_at I ha
    obtain ⟨cd, hc, hm⟩ := N.mro
    exact iop_of (ta := .ref C) J.type (nofi_C I.kIn hc hm N.n1 N.n2) one
  · obtain ⟨t, rfl⟩ := (show ∃ t, v = Value.int i t from rx)
    exact iop_of (ta := .type "int") (W.Looks.of_pure rfl) (nofi_T I.kIn N.n3) one
/-- an instance on the left: the turned def does not matter -/
theorem op_left (B : OwnBin X.K C op.info.2 f g) (F : FnOk X.prog X.w X.K X.mg X.base CX k f fd ps sp) (hb : Binds X.K fd ps []) (hx : Passes CX X E) (hr : Room k X.A) : OpR X (binaryOp op) (rBin C sp (fun _ _ _ _ => False) E) :=
  fun pins s σ H x y v u Q I rx ry h => bin_of (b1_own B F hb hx hr (fun ⟨_, _, _, _, _, _, _, z⟩ => z.elim) (fun ⟨_, _, _, _, _, _, _, z⟩ => z.elim) I rx ry h)
/-- -x -/
theorem un_own (hs : W.findIn X.K (.ref C) "__neg__" = some (some (.ref f))) (hf : W.isFn X.K (.ref f) = true) (F : FnOk X.prog X.w X.K X.mg X.base CX k f fd ps sp) (hb : Binds X.K fd ps []) (hx : Passes CX X E) (hr : Room k X.A) :
    UnR X (unaryOp .USub) (fun x H Q => ∃ a dx fs, x = .ref a ∧ H a = some (.ins C dx fs) ∧ sp [x] H Q E) := fun pins s σ H x v Q I rx h => by
  obtain ⟨a, dx, fs, rfl, ha, q⟩ := h
  cases (show v = Value.ref a from rx)
  obtain ⟨od, J, _⟩ := inst_at I ha
  obtain ⟨m, hF⟩ := I.fr
  exact W.ksp_neg hF I.ok.mod.kin J hs hf (run_fn (us := [.ref a]) (vs := [.ref a]) F hr hb .nil hx I (.cons rfl .nil) (by simpa using q))
end
end Oo

set_option Elab.async false
set_option linter.all false
set_option maxRecDepth 100000
set_option maxHeartbeats 1000000
/-! abs, bool, str, repr of own instances; a staticmethod called by its class; // of great numbers of either sign. -/
namespace Oo
open PySem PySem.Spec PySem.W PyProof.Rows
section
variable {prog : Program} {w : World} {A : Around} {E : Value → Shared → Prop} {s : Shared} {K : Frag} {x y C f g : Addr} {ox oy : Obj} {od oe : Option Obj} {nm T : String}
theorem abs_own {Q : Value → Shared → Prop} (X : K.In s.heap) (I : InstAt s.heap x ox C od) (hs : findIn K (.ref C) "__abs__" = some (some (.ref f))) (hf : isFn K (.ref f) = true)
    (h : wpAny (model prog w) A.in1 (call (.ref f) [.ref x]) Q E s) : wpAny (model prog w) A (call (.builtin "abs") [.ref x]) Q E s := by
  refine Calls.call_function_entry kind_abs plain_abs entry_abs (args_abs _) ?_
  unfold Builtin.«abs»
  refine wpAny_bind (m := oneArg "abs" _) (wpAny_pure ?_)
  refine wpAny_bind (m := callSpecial? (.ref x) (Str.ofString "__abs__")) (special_fn X I hs (beq_iff_eq.mp hf) (wpAny_mono h (fun r s' hr => ?_) fun _ _ y => y))
  exact wpAny_pure ⟨_, rfl, hr⟩
theorem bool_own {Q : Value → Shared → Prop} (h : wpAny (model prog w) A.in1.in1 (truthy (.ref x)) (fun b s' => Q (.bool b) s') E s) : wpAny (model prog w) A (call (.type "bool") [.ref x]) Q E s := by
  refine callType_codes (T := "bool") (Bi := Builtin.«object.__init__») (Q₁ := fun r s₁ => ∃ b, r = Value.bool b ∧ Q r s₁) PySem.F.called_bool (PySem.F.typeCall_bool_1 _) PySem.F.entry_object_init ?_ ?_
  · refine codeAny_of_tree ?_
    show wpAny _ A.in1.in1 (do checkBuiltinCall "bool.__new__" ⟨[.type "bool", .ref x], []⟩; again (.builtin "bool.__new__" ⟨[.type "bool", .ref x], []⟩)) _ _ s
    refine wpAny_bind (wpAny_of_eq (PySem.F.newCall_bool_1 _) (wpAny_pure ⟨plainId_quiet (by decide +kernel) _, codeAny_builtin PySem.F.entry_bool_new ?_⟩))
    rw [Around.under_plainId (by decide +kernel) _]
    unfold Builtin.«bool.__new__»
    refine wpAny_bind (wpAny_of_eq (a := true) rfl ?_)
    refine PySem.W.KFB.if_not rfl ?_
    refine wpAny_bind (wpAny_of_eq (a := true) PySem.F.conv_sub_bool ?_)
    refine PySem.W.KFB.if_not rfl ?_
    refine wpAny_bind (wpAny_of_eq (a := [Value.ref x]) rfl ?_)
    refine wpAny_bind (wpAny_mono h (fun b s₁ hb => ?_) fun _ _ y => y)
    exact wpAny_pure ⟨_, rfl, hb⟩
  · rintro obj s₁ ⟨b, rfl, hq⟩
    exact ⟨PySem.typeIs_bool _ _, PySem.F.args_object_init_2 _ _, object_init_meets PySem.F.called_bool.init.lookup PySem.F.called_bool.made (by decide) prog w A.in1 _ s₁ ⟨PySem.typeIs_bool _ _, rfl, hq⟩⟩
end
end Oo
namespace Oo
open PySem PySem.Spec PyProof.Rows L2
section
variable {X : Cx} {CX : CXT} {pins : List (Addr × Obj)} {σ : L2.St} {H : Hp} {s : Shared} {C f : Addr} {k : Nat} {sp : Sp} {E : XK} {fd : FuncData} {ps : List Str}
/-- a def called below the running body -/
theorem run_atO {A : Around} {Q : VK} {us : List Value} {ws : List V} (F : FnOk X.prog X.w X.K X.mg X.base CX k f fd ps sp) (hb : Binds X.K fd ps []) (hr : Room k A) (e0 : Env0 X.prog X.w X.K X.mg X.base A X.stack s H) (hx : Passes CX X E) (I : Inv X pins σ H s)
    (r : Vals ws us) (h : sp ws H Q E) : wpAny (model X.prog X.w) A (call (.ref f) us) (EP X pins σ Q) X.xe s := by
  have hl : (us ++ []).length = ps.length := by rw [List.append_nil, ← r.length]; exact F.len _ _ _ _ h
  refine wpAny_call (codeAny_mono (F.run A X.stack s H ⟨us, []⟩ us ws Q E hr e0 (by simpa using hb s us I.kIn hl) r h) fun r s' hq => ?_)
  cases r with
  | error e => exact hx pins σ H s e s' I hq
  | ok fl =>
    cases fl with
    | ret u => exact I.after hq
    | next => exact False.elim hq
    | brk => exact False.elim hq
    | cont => exact False.elim hq
def rOne (C : Addr) (sp : Sp) (E : XK) (ok : V → Prop) : List V → Hp → VK → Prop := fun xs H Q => ∃ a dx fs, xs = [V.ref a] ∧ H a = some (.ins C dx fs) ∧ sp [.ref a] H (fun z H' => ok z ∧ Q z H') E
theorem call_absO (hs : W.findIn X.K (.ref C) "__abs__" = some (some (.ref f))) (hf : W.isFn X.K (.ref f) = true) (F : FnOk X.prog X.w X.K X.mg X.base CX k f fd ps sp) (hb : Binds X.K fd ps []) (hr : Room (k + 1) X.A) (hx : Passes CX X E) :
    CallR X (.builtin "abs") (rOne C sp E fun _ => True) := by
  intro pins s σ H xs us Q I r h
  obtain ⟨a, dx, fs, rfl, ha, q⟩ := h
  obtain ⟨u, rfl, ru⟩ := r.one
  cases (show u = Value.ref a from ru)
  obtain ⟨od, J, _⟩ := inst_at I ha
  exact abs_own I.kIn J hs hf (wpAny_mono (run_atO (us := [.ref a]) (ws := [.ref a]) F hb hr.in1 I.env0.in1 hx I (.cons rfl .nil) q) (fun v s' ⟨z, H', I', rz, _, qz⟩ => ⟨z, H', I', rz, qz⟩) fun _ _ z => z)
theorem call_reprO (hs : W.findIn X.K (.ref C) "__repr__" = some (some (.ref f))) (hf : W.isFn X.K (.ref f) = true) (F : FnOk X.prog X.w X.K X.mg X.base CX k f fd ps sp) (hb : Binds X.K fd ps []) (hr : Room (k + 1) X.A) (hx : Passes CX X E) :
    CallR X (.builtin "repr") (rOne C sp E fun z => ∃ t, z = .str t) := by
  intro pins s σ H xs us Q I r h
  obtain ⟨a, dx, fs, rfl, ha, q⟩ := h
  obtain ⟨u, rfl, ru⟩ := r.one
  cases (show u = Value.ref a from ru)
  obtain ⟨od, J, _⟩ := inst_at I ha
  obtain ⟨m, hF⟩ := I.fr
  refine W.repr_K (Room.in1 hr).units0 hF I.ok.mod.kin J hs hf (wpAny_mono (run_atO (us := [.ref a]) (ws := [.ref a]) F hb hr.in1 I.env0.in1 hx I (.cons rfl .nil) q) (fun v s' ⟨z, H', I', rz, ⟨t, ez⟩, qz⟩ => ?_) fun _ _ z => z)
  subst ez
  obtain ⟨t', rfl⟩ := (show ∃ t', v = Value.str t t' from rz)
  exact ⟨.str t, H', I', ⟨t', rfl⟩, qz⟩
theorem call_strO (hs : W.findIn X.K (.ref C) "__str__" = some (some (.ref f))) (hf : W.isFn X.K (.ref f) = true) (F : FnOk X.prog X.w X.K X.mg X.base CX k f fd ps sp) (hb : Binds X.K fd ps []) (hr : Room (k + 2) X.A) (hx : Passes CX X E) :
    CallR X (.type "str") (rOne C sp E fun z => ∃ t, z = .str t) := by
  intro pins s σ H xs us Q I r h
  obtain ⟨a, dx, fs, rfl, ha, q⟩ := h
  obtain ⟨u, rfl, ru⟩ := r.one
  cases (show u = Value.ref a from ru)
  obtain ⟨od, J, _⟩ := inst_at I ha
  have hr2 : Room k X.A.in1.in1 := (show Room (k + 1) X.A.in1 from Room.in1 hr).in1
  refine W.kso_call hr2.units0 I.kIn J hs hf (wpAny_mono (run_atO (us := [.ref a]) (ws := [.ref a]) F hb hr2 I.env0.in1.in1 hx I (.cons rfl .nil) q) (fun v s' ⟨z, H', I', rz, ⟨t, ez⟩, qz⟩ => ?_) fun _ _ z => z)
  subst ez
  obtain ⟨t', rfl⟩ := (show ∃ t', v = Value.str t t' from rz)
  exact ⟨.str t, H', I', ⟨t', rfl⟩, qz⟩
theorem call_boolO (hs : W.findIn X.K (.ref C) "__bool__" = some (some (.ref f))) (hf : W.isFn X.K (.ref f) = true) (F : FnOk X.prog X.w X.K X.mg X.base CX k f fd ps sp) (hb : Binds X.K fd ps []) (hr : Room (k + 2) X.A) (hx : Passes CX X E) :
    CallR X (.type "bool") (rOne C sp E fun z => ∃ t, z = .bl t) := by
  intro pins s σ H xs us Q I r h
  obtain ⟨a, dx, fs, rfl, ha, q⟩ := h
  obtain ⟨u, rfl, ru⟩ := r.one
  cases (show u = Value.ref a from ru)
  obtain ⟨od, J, _⟩ := inst_at I ha
  obtain ⟨m, hF⟩ := I.fr
  have hr2 : Room k X.A.in1.in1 := (show Room (k + 1) X.A.in1 from Room.in1 hr).in1
  refine bool_own (W.truthy_K hF I.ok.mod.kin J hs hf (wpAny_mono (run_atO (us := [.ref a]) (ws := [.ref a]) F hb hr2 I.env0.in1.in1 hx I (.cons rfl .nil) q) (fun v s' ⟨z, H', I', rz, ⟨t, ez⟩, qz⟩ => ?_) fun _ _ z => z))
  subst ez
  cases (show v = Value.bool t from rz)
  exact ⟨.bl t, H', I', rfl, qz⟩
/-- a // b, b not 0, of any sign -/
def CDivX (_ j : Int) : Prop := j ≠ 0 ∧ j.natAbs.log2 < 9000
theorem op_fdivX : OpR X (binaryOp .FloorDiv) (rI CDivX fun i j => .int (i.fdiv j)) := opI fun i j _ _ _ _ _ hc q => by
  exact floordiv_int hc.1 q (.inl (PyProof.noPylong_of_log2 hc.2))
/-- C.m(..), m a staticmethod: its record at p, its def at g -/
structure SMet (K : W.Frag) (C : Addr) (mc : Value) (m : Str) (p g : Addr) : Prop where
  at_ : W.findCls K (.ref C) mc m = some (.get (.builtin "staticmethod.__get__") (.ref p) .none (.ref C))
  ty : W.typeIn K (.ref C) = some mc
  rc : ∃ rest, W.recIn K p "staticmethod" = some (.ref g :: rest)
  kp : W.keepIn K (.ref g) = true
def tSMeth (C : Addr) (sp : Sp) (E : XK) (ta : TE) (t : TA) : TE := fun σ H Q => ta σ H fun x H1 => x = .ref C ∧ t σ H1 fun vs H2 => sp vs H2 Q E
theorem pe_smeth {o e : Expr} {es : List Expr} {m : Str} {pos apos : Pos} {ta : TE} {t : TA} {pl : Sem Bool} {p : Addr} {mc : Value} (he : PE X o ta) (r : ClX.CRead X.K C mc) (c : SMet X.K C mc m p f) (F : FnOk X.prog X.w X.K X.mg X.base CX k f fd ps sp) (hb : Binds X.K fd ps [])
    (hr : Room k X.A) (hx : Passes CX X E) (ha : PA X (e :: es) t)
    (hst : starEach (e :: es) X.env = (false, eval e X.env) :: starEach es X.env := by rfl) (hpl : (backTo pos (starEach es X.env)).any (·.1) = false := by rfl)
    (ht : eval (.Call (.Attribute o m apos) (e :: es) [] pos) X.env = (do
      let ov ← eval o X.env
      standAt apos.atName
      let (f, first) ← holding [ov] (getMethod ov m pl)
      callWith pos f first (backTo pos (starEach (e :: es) X.env)) (backToKw pos (keywordEach [] X.env))) := by rfl) :
    PE X (.Call (.Attribute o m apos) (e :: es) [] pos) (tSMeth C sp E ta t) := by
  refine ⟨fun pins s σ H Q I h => ?_⟩
  refine PySem.W.methodCall_KW (pl := pl) (thn (he.run pins s σ H _ I h) fun u s1 ⟨x, H1, I1, rx, ex, q⟩ => ?_) ht
  subst ex
  obtain rfl : u = Value.ref C := rx
  obtain ⟨rest, hp⟩ := c.rc
  obtain ⟨m1, hF⟩ := I1.fr
  refine PySem.W.method_cls I1.kIn r.ga (PySem.W.cls_sm hF I1.ok.mod.kin c.ty r.rd c.at_ hp rfl ?_)
  have I2 : Inv X pins σ H1 { s1 with toks := s1.toks + 1 } := I1.tok _
  refine PySem.W.callWith_K (first := []) (h₀ := X.base) I2.ok.mod.kin c.kp (thn (ha.run pos pins _ σ H1 _ I2 q) fun us s2 ⟨vs, H2, I3, rv, q2⟩ => ⟨I3.kIn, ?_⟩) hst hpl
  exact run_fn F hr hb .nil hx I3 rv (by simpa using q2)
end
end Oo

set_option Elab.async false
set_option linter.all false
set_option maxRecDepth 100000
set_option maxHeartbeats 1000000
/-! Amounts: instances that hold a rational number in lowest terms. -/
namespace Am
open PySem PySem.Spec PyProof.Rows L2 Oo
/-- all that stands, stands on -/
def Ext (H H' : Hp) : Prop := ∀ b o, H b = some o → H' b = some o
theorem Ext.refl (H : Hp) : Ext H H := fun _ _ h => h
theorem Ext.trans {H H1 H2 : Hp} (a : Ext H H1) (b : Ext H1 H2) : Ext H H2 := fun c o h => b c o (a c o h)
theorem Ext.new {H : Hp} {a : Addr} {o : HO} (n : H a = none) : Ext H (upd H a o) := fun b u e => by rw [upd_ne (ne_of_none e n)]; exact e
theorem Ext.then {H H' : Hp} {a : Addr} {o : HO} (x : Ext H H') (n : H' a = none) : Ext H (upd H' a o) := x.trans (Ext.new n)
theorem Ext.seq {K : W.Frag} {H H' : Hp} {p : Addr} {xs : List V} (e : Ext H H') (h : SqL K H p xs) : SqL K H' p xs := by
  rcases h with (h | ⟨o, h⟩) | h
  · exact .inl (.inl (e _ _ h))
  · exact .inl (.inr ⟨o, e _ _ h⟩)
  · exact .inr h
theorem Ext.gone {H H' : Hp} {p : Addr} (e : Ext H H') (h : H' p = none) : H p = none := by
  cases z : H p with
  | none => rfl
  | some o => rw [e p o z] at h; cases h
def flds (q : Rat) : List (Str × V) := [("_top", .int q.num), ("_bottom", .int q.den)]
theorem ntb : ("_bottom" : Str) ≠ "_top" := by decide +kernel
theorem lk_top (q : Rat) : (flds q).lookup ("_top" : Str) = some (.int q.num) := by
  show List.lookup ("_top" : Str) (("_top", V.int q.num) :: _) = _
  rw [List.lookup_cons_self]
theorem lk_bot (q : Rat) : (flds q).lookup ("_bottom" : Str) = some (.int q.den) := by
  show List.lookup ("_bottom" : Str) [("_top", V.int q.num), ("_bottom", V.int q.den)] = _
  rw [List.lookup_cons, beq_eq_false_iff_ne.mpr ntb, List.lookup_cons_self]
theorem flds_of (n d : Int) (q : Rat) (hn : n = q.num) (hd : d = q.den) : putF "_bottom" (.int d) (putF "_top" (.int n) []) = flds q := by
  subst hn hd
  show (if ("_top" : Str) = "_bottom" then _ else (("_top" : Str), V.int q.num) :: [(("_bottom" : Str), V.int q.den)]) = _
  rw [if_neg (Ne.symm ntb)]
  rfl
/-- an Amount of the class at C stands at a: the number q -/
def Is (C : Addr) (H : Hp) (a : Addr) (q : Rat) : Prop := ∃ dx, H a = some (.ins C dx (flds q))
theorem Is.ext {C a : Addr} {H H' : Hp} {q : Rat} (h : Is C H a q) (e : Ext H H') : Is C H' a q := let ⟨dx, z⟩ := h; ⟨dx, e _ _ z⟩
theorem Is.ins {C a : Addr} {H : Hp} {q : Rat} (h : Is C H a q) : ∃ dx fs, H a = some (.ins C dx fs) := let ⟨dx, z⟩ := h; ⟨dx, _, z⟩
/-- v is a NUMBER: q -/
def Num (C : Addr) (H : Hp) (v : V) (q : Rat) : Prop := (∃ i : Int, v = .int i ∧ q = (i : Rat)) ∨ ∃ a, v = .ref a ∧ Is C H a q
theorem Num.ext {C : Addr} {H H' : Hp} {v : V} {q : Rat} (h : Num C H v q) (e : Ext H H') : Num C H' v q := h.imp (fun z => z) fun ⟨a, z, i⟩ => ⟨a, z, i.ext e⟩
theorem Num.is {C a : Addr} {H : Hp} {q : Rat} (h : Is C H a q) : Num C H (.ref a) q := .inr ⟨a, rfl, h⟩
theorem Num.int {C : Addr} {H : Hp} (i : Int) : Num C H (.int i) (i : Rat) := .inl ⟨i, rfl, rfl⟩
/-- no larger than the machine takes -/
def Sz (q : Rat) : Prop := q.num.natAbs < 2 ^ 4000 ∧ q.den < 2 ^ 4000
/-- a new Amount -/
def New (C : Addr) (H : Hp) (Q : VK) (q : Rat) : Prop := ∀ (r : Addr) (H' : Hp), Ext H H' → H r = none → Is C H' r q → Q (.ref r) H'
/-- what the text says of the class -/
structure Cl (K : W.Frag) (C : Addr) : Prop where
  cl : Cls K C
  nT : NoAttr K C "_top"
  nB : NoAttr K C "_bottom"
/-! ### promises -/
def spGet (C : Addr) (g : Rat → V) : Sp := fun vs H Q _ => ∃ a q, vs = [.ref a] ∧ Is C H a q ∧ Q (g q) H
def spInit (C : Addr) : Sp := fun vs H Q _ => ∃ (x dx : Addr) (n d : Int), vs = [.ref x, .int n, .int d] ∧ H x = some (.ins C dx []) ∧ d ≠ 0 ∧ n.natAbs < 2 ^ 8999 ∧ d.natAbs < 2 ^ 8999 ∧
  Q .non (upd H x (.ins C dx (flds (Rat.divInt n d))))
def spOf (C : Addr) : Sp := fun vs H Q _ => ∃ v q, vs = [v] ∧ Num C H v q ∧ Sz q ∧ ∀ (r : Addr) (H' : Hp), Ext H H' → Is C H' r q → Q (.ref r) H'
def spOp (C : Addr) (f : Rat → Rat → Rat) : Sp := fun vs H Q _ => ∃ a y q p, vs = [.ref a, y] ∧ Is C H a q ∧ Num C H y p ∧ Sz q ∧ Sz p ∧ New C H Q (f q p)
def spUn (C : Addr) (f : Rat → Rat) : Sp := fun vs H Q _ => ∃ a q, vs = [.ref a] ∧ Is C H a q ∧ Sz q ∧ New C H Q (f q)
/-- .. of a divisor: 0 is refused by the error of the class at Z, which tells None -/
def Zero (Z : Addr) (H : Hp) (E : XK) : Prop := ∀ e d : Addr, H e = none → H d = none → d ≠ e → E (.ref Z) (some d) (Gx.leftH H Z e d [("rule", .non)])
/-! ### rules -/
def tGet (C : Addr) (g : Rat → V) (ta : TE) : TE := fun σ H Q => ta σ H fun x H1 => ∃ a q, x = .ref a ∧ Is C H1 a q ∧ Q (g q) H1
section
variable {X : Cx} {CX : CXT} {C : Addr} {e : Expr} {pos : Pos} {ta : TE} {k : Nat} {sp : Sp} {E : XK}
theorem pe_top (T : Cl X.K C) (he : PE X e ta) (hb : attributeBase e "_top" X.env (eval e X.env) = eval e X.env := by rfl) : PE X (.Attribute e "_top" pos) (tGet C (fun q => .int q.num) ta) := by
  refine ⟨fun pins s σ H Q I h => ?_⟩
  refine attr_of hb (thn (he.run pins s σ H _ I h) fun u s1 ⟨x, H1, I1, rx, a, q, ex, ⟨dx, ea⟩, z⟩ => ?_)
  subst ex
  obtain rfl : u = Value.ref a := rx
  exact getattr_ok I1 ea T.cl T.nT (lk_top q) fun u' s2 I2 ru => ⟨_, H1, I2, ru, z⟩
theorem pe_bot (T : Cl X.K C) (he : PE X e ta) (hb : attributeBase e "_bottom" X.env (eval e X.env) = eval e X.env := by rfl) : PE X (.Attribute e "_bottom" pos) (tGet C (fun q => .int q.den) ta) := by
  refine ⟨fun pins s σ H Q I h => ?_⟩
  refine attr_of hb (thn (he.run pins s σ H _ I h) fun u s1 ⟨x, H1, I1, rx, a, q, ex, ⟨dx, ea⟩, z⟩ => ?_)
  subst ex
  obtain rfl : u = Value.ref a := rx
  exact getattr_ok I1 ea T.cl T.nB (lk_bot q) fun u' s2 I2 ru => ⟨_, H1, I2, ru, z⟩
theorem pe_pr {f : Str} {p g : Addr} {gv : Rat → V} {fd : FuncData} {ps : List Str} (T : Cl X.K C) (hp : PropOf X.K C f p g) (F : FnOk X.prog X.w X.K X.mg X.base CX0 k g fd ps (spGet C gv)) (hb2 : Binds X.K fd ps []) (hr : Room (k + 1) X.A) (he : PE X e ta)
    (hb : attributeBase e f X.env (eval e X.env) = eval e X.env := by rfl) : PE X (.Attribute e f pos) (tGet C gv ta) := by
  refine ⟨fun pins s σ H Q I h => ?_⟩
  refine attr_of hb (thn (he.run pins s σ H _ I h) fun u s1 ⟨x, H1, I1, rx, a, q, ex, ia, z⟩ => ?_)
  subst ex
  obtain rfl : u = Value.ref a := rx
  obtain ⟨dx, ea⟩ := id ia
  exact getprop_ok (E := E0) I1 ea T.cl hp F hr hb2 .nil pass0 ⟨a, q, rfl, ia, z⟩
end
/-! ### arithmetic -/
theorem bits {n : Nat} {i : Int} (h : i.natAbs < 2 ^ n) (hn : n ≤ 8999) : i.natAbs.log2 < 9000 := by
  by_cases z : i.natAbs = 0
  · rw [z]; decide
  · exact Nat.lt_of_lt_of_le ((Nat.log2_lt z).mpr h) (by omega)
theorem mul_bits {n m : Nat} {i j : Int} (hi : i.natAbs < 2 ^ n) (hj : j.natAbs < 2 ^ m) : (i * j).natAbs < 2 ^ (n + m) := wide_lt hi hj
theorem mulOk {n m : Nat} {i j : Int} (hi : i.natAbs < 2 ^ n) (hj : j.natAbs < 2 ^ m) (hn : n ≤ 8999) (hm : m ≤ 8999) : CMulW i j := by
  have a := bits hi hn
  have b := bits hj hm
  show i.natAbs.log2 + j.natAbs.log2 < 1000000
  omega
theorem add_bits {n : Nat} {i j : Int} (hi : i.natAbs < 2 ^ n) (hj : j.natAbs < 2 ^ n) : (i + j).natAbs < 2 ^ (n + 1) := by
  have h2 : (2 : Nat) ^ (n + 1) = 2 ^ n + 2 ^ n := by rw [Nat.pow_succ]; omega
  rw [h2]
  omega
theorem more_bits {n m : Nat} {i : Int} (hi : i.natAbs < 2 ^ n) (h : n ≤ m) : i.natAbs < 2 ^ m := Nat.lt_of_lt_of_le hi (Nat.pow_le_pow_right (by decide) h)
/-- what the class's two divisions give -/
theorem low_num (n d : Int) (h : d ≠ 0) : n.fdiv (if d < 0 then -((n.natAbs.gcd d.natAbs : Nat) : Int) else ((n.natAbs.gcd d.natAbs : Nat) : Int)) = (Rat.divInt n d).num := by
  rw [Rat.num_divInt]
  have e : d.gcd n = n.natAbs.gcd d.natAbs := by
    show d.natAbs.gcd n.natAbs = _
    exact Nat.gcd_comm _ _
  have dv : ((n.natAbs.gcd d.natAbs : Nat) : Int) ∣ n := Int.ofNat_dvd_left.mpr (Nat.gcd_dvd_left _ _)
  have g0 : ((n.natAbs.gcd d.natAbs : Nat) : Int) ≠ 0 := by
    have : 0 < n.natAbs.gcd d.natAbs := Nat.gcd_pos_of_pos_right _ (by omega)
    omega
  rw [e]
  generalize ((n.natAbs.gcd d.natAbs : Nat) : Int) = g at dv g0 ⊢
  obtain ⟨k, rfl⟩ := dv
  by_cases hd : d < 0
  · rw [if_pos hd, Int.sign_eq_neg_one_of_neg hd]
    have e1 : g * k = (-g) * (-k) := by rw [Int.neg_mul_neg]
    have e2 : -1 * (g * k) = g * (-k) := by rw [Int.neg_one_mul, Int.mul_neg]
    rw [e2, Int.mul_ediv_cancel_left _ g0, e1, Int.mul_fdiv_cancel_left _ (by omega)]
  · rw [if_neg hd, Int.sign_eq_one_of_pos (by omega), Int.one_mul, Int.mul_ediv_cancel_left _ g0, Int.mul_fdiv_cancel_left _ g0]
theorem low_den (n d : Int) (h : d ≠ 0) : d.fdiv (if d < 0 then -((n.natAbs.gcd d.natAbs : Nat) : Int) else ((n.natAbs.gcd d.natAbs : Nat) : Int)) = ((Rat.divInt n d).den : Int) := by
  rw [Rat.den_divInt, if_neg h]
  have e : d.gcd n = n.natAbs.gcd d.natAbs := by
    show d.natAbs.gcd n.natAbs = _
    exact Nat.gcd_comm _ _
  have g0 : 0 < n.natAbs.gcd d.natAbs := Nat.gcd_pos_of_pos_right _ (by omega)
  obtain ⟨k, hk⟩ : n.natAbs.gcd d.natAbs ∣ d.natAbs := Nat.gcd_dvd_right _ _
  rw [e]
  have key : ∀ g k : Nat, 0 < g → d.natAbs = g * k → d.fdiv (if d < 0 then -(g : Int) else (g : Int)) = ((d.natAbs / g : Nat) : Int) := by
    intro g k g0 hk
    rw [hk, Nat.mul_div_cancel_left _ g0]
    have gz : (g : Int) ≠ 0 := by omega
    have this : ((d.natAbs : Nat) : Int) = ((g * k : Nat) : Int) := by rw [hk]
    rw [Int.natCast_mul] at this
    by_cases hd : d < 0
    · rw [if_pos hd]
      have ed : d = (-(g : Int)) * (k : Int) := by
        rw [Int.neg_mul]
        omega
      rw [ed, Int.mul_fdiv_cancel_left _ (by omega)]
    · rw [if_neg hd]
      have ed : d = (g : Int) * (k : Int) := by omega
      rw [ed, Int.mul_fdiv_cancel_left _ gz]
  exact key _ k g0 hk
theorem add_rat (q p : Rat) : Rat.divInt (q.num * (p.den : Int) + p.num * (q.den : Int)) ((q.den : Int) * (p.den : Int)) = q + p := by
  conv => rhs; rw [← Rat.num_divInt_den q, ← Rat.num_divInt_den p]
  rw [Rat.divInt_add_divInt _ _ (by have := q.den_pos; omega) (by have := p.den_pos; omega)]
theorem mul_rat (q p : Rat) : Rat.divInt (q.num * p.num) ((q.den : Int) * (p.den : Int)) = q * p := by
  conv => rhs; rw [← Rat.num_divInt_den q, ← Rat.num_divInt_den p]
  rw [Rat.divInt_mul_divInt]
theorem neg_rat (q : Rat) : Rat.divInt (-q.num) (q.den : Int) = -q := by
  conv => rhs; rw [← Rat.num_divInt_den q]
  rw [Rat.neg_divInt]
theorem div_rat (q p : Rat) : Rat.divInt (q.num * (p.den : Int)) ((q.den : Int) * p.num) = q / p := by
  rw [Rat.div_def, Rat.inv_def]
  conv => rhs; rw [← Rat.num_divInt_den q]
  rw [Rat.divInt_mul_divInt]
theorem int_rat (i : Int) : Rat.divInt i 1 = (i : Rat) := by
  rw [show (1 : Int) = ((1 : Nat) : Int) from rfl, Rat.divInt_ofNat]
  exact Rat.ext (by simp [Rat.num_mkRat]) (by simp [Rat.den_mkRat])

/-! ### the class's own call -/
/-- what a body asks of the class's making -/
structure Base (P : Program) (w : World) (K : W.Frag) (mg : Str → Option Value) (base : Heap) (C : Addr) : Prop where
  T : Cl K C
  mgA : mg "Amount" = some (.ref C)
  make : ∃ fI fd, Mk K C fI ∧ FnOk P w K mg base CX0 2 fI fd ["self", "top", "bottom"] (spInit C) ∧ Binds K fd ["self", "top", "bottom"] [] ∧ ∃ ds, Vals [V.int 1] ds ∧ Binds K fd ["self", "top", "bottom"] ds
  top : ∃ p g fd, PropOf K C "top" p g ∧ FnOk P w K mg base CX0 1 g fd ["self"] (spGet C fun q => .int q.num) ∧ Binds K fd ["self"] []
  bot : ∃ p g fd, PropOf K C "bottom" p g ∧ FnOk P w K mg base CX0 1 g fd ["self"] (spGet C fun q => .int q.den) ∧ Binds K fd ["self"] []
  sgn : ∃ p g fd, PropOf K C "sign" p g ∧ FnOk P w K mg base CX0 1 g fd ["self"] (spGet C fun q => .int q.num.sign) ∧ Binds K fd ["self"] []
structure Of (P : Program) (w : World) (K : W.Frag) (mg : Str → Option Value) (base : Heap) (C : Addr) : Prop where
  of : ∃ mc p g fd, ClX.CRead K C mc ∧ SMet K C mc "of" p g ∧ FnOk P w K mg base CX0 4 g fd ["number"] (spOf C) ∧ Binds K fd ["number"] []
def tMk2 (C : Addr) (t : TA) : TE := fun σ H Q => t σ H fun vs H1 => ∃ n d : Int, vs = [.int n, .int d] ∧ d ≠ 0 ∧ n.natAbs < 2 ^ 8999 ∧ d.natAbs < 2 ^ 8999 ∧ New C H1 Q (Rat.divInt n d)
def tMk1 (C : Addr) (t : TA) : TE := fun σ H Q => t σ H fun vs H1 => ∃ n : Int, vs = [.int n] ∧ n.natAbs < 2 ^ 8999 ∧ New C H1 Q (n : Rat)
def tOf (C : Addr) (ta : TE) (t : TA) : TE := tSMeth C (spOf C) E0 ta t
section
variable {X : Cx} {C : Addr} {p pos apos : Pos} {e e2 o : Expr} {es : List Expr} {t : TA} {ta : TE} {k : Nat}
theorem new_made {H : Hp} {Q : VK} {q : Rat} {n d : Int} (hd : d ≠ 0) (hq : q = Rat.divInt n d) (h1 : n.natAbs < 2 ^ 8999) (h2 : d.natAbs < 2 ^ 8999) (h : New C H Q q) :
    ∀ x dx, H x = none → H dx = none → dx ≠ x → spInit C (V.ref x :: ([V.int n, V.int d])) (upd (upd H dx (.own x)) x (.ins C dx [])) (fun v H2 => v = .non ∧ Q (.ref x) H2) E0 := by
  intro x dx hx hdx ne
  refine ⟨x, dx, n, d, rfl, upd_same, hd, h1, h2, rfl, h x _ ?_ hx ⟨dx, ?_⟩⟩
  · intro b u e
    have nx := ne_of_none e hx
    rw [upd_ne nx, upd_ne nx, upd_ne (ne_of_none e hdx)]
    exact e
  · rw [upd_same, hq]
theorem pe_mk2 (B : Base X.prog X.w X.K X.mg X.base C) (hr : Room 3 X.A) (hg : Gl X "Amount") (ha : PA X (e :: es) t) (he : starEach (e :: es) X.env = (false, eval e X.env) :: starEach es X.env := by rfl) (hpl : (backTo pos (starEach es X.env)).any (·.1) = false := by rfl) :
    PE X (.Call (.Name "Amount" p) (e :: es) [] pos) (tMk2 C t) := by
  obtain ⟨fI, fd, M, F, b2, _⟩ := B.make
  refine ⟨fun pins s σ H Q I h => ?_⟩
  refine wpAny_Call_Name_kw (ld_glob I hg B.mgA ?_ (by decide))
  refine PySem.W.callWith_K (h₀ := X.base) I.ok.mod.kin M.kp (thn (ha.run pos pins s σ H _ I h) fun us s1 ⟨vs, H1, I1, r, n, d, ev, hd, h1, h2, q⟩ => ⟨I1.kIn, ?_⟩) he hpl
  subst ev
  exact run_make (E := E0) M F hr b2 .nil pass0 I1 r (by simpa using new_made hd rfl h1 h2 q)
theorem pe_mk1 (B : Base X.prog X.w X.K X.mg X.base C) (hr : Room 3 X.A) (hg : Gl X "Amount") (ha : PA X (e :: es) t) (he : starEach (e :: es) X.env = (false, eval e X.env) :: starEach es X.env := by rfl) (hpl : (backTo pos (starEach es X.env)).any (·.1) = false := by rfl) :
    PE X (.Call (.Name "Amount" p) (e :: es) [] pos) (tMk1 C t) := by
  obtain ⟨fI, fd, M, F, _, ds, hv, b1⟩ := B.make
  refine ⟨fun pins s σ H Q I h => ?_⟩
  refine wpAny_Call_Name_kw (ld_glob I hg B.mgA ?_ (by decide))
  refine PySem.W.callWith_K (h₀ := X.base) I.ok.mod.kin M.kp (thn (ha.run pos pins s σ H _ I h) fun us s1 ⟨vs, H1, I1, r, n, ev, h1, q⟩ => ⟨I1.kIn, ?_⟩) he hpl
  subst ev
  exact run_make (E := E0) M F hr b1 hv pass0 I1 r (by simpa using new_made (d := 1) (by decide) (int_rat n).symm h1 (by decide) q)
theorem pe_of (O : Of X.prog X.w X.K X.mg X.base C) (hr : Room 4 X.A) (ho : PE X o ta) (ha : PA X [e] t) {pl : Sem Bool}
    (hst : starEach [e] X.env = (false, eval e X.env) :: starEach [] X.env := by rfl) (hpl : (backTo pos (starEach [] X.env)).any (·.1) = false := by rfl)
    (ht : eval (.Call (.Attribute o "of" apos) [e] [] pos) X.env = (do
      let ov ← eval o X.env
      standAt apos.atName
      let (f, first) ← holding [ov] (getMethod ov "of" pl)
      callWith pos f first (backTo pos (starEach [e] X.env)) (backToKw pos (keywordEach [] X.env))) := by rfl) : PE X (.Call (.Attribute o "of" apos) [e] [] pos) (tOf C ta t) := by
  obtain ⟨mc, p, g, fd, R, S, F, b⟩ := O.of
  exact pe_smeth (pl := pl) ho R S F b hr pass0 ha hst hpl ht
theorem pe_pTop (B : Base X.prog X.w X.K X.mg X.base C) (hr : Room 2 X.A) (he : PE X e ta) (hb : attributeBase e "top" X.env (eval e X.env) = eval e X.env := by rfl) : PE X (.Attribute e "top" pos) (tGet C (fun q => .int q.num) ta) := by
  obtain ⟨p, g, fd, hp, F, b⟩ := B.top
  exact pe_pr B.T hp F b hr he hb
theorem pe_pBot (B : Base X.prog X.w X.K X.mg X.base C) (hr : Room 2 X.A) (he : PE X e ta) (hb : attributeBase e "bottom" X.env (eval e X.env) = eval e X.env := by rfl) : PE X (.Attribute e "bottom" pos) (tGet C (fun q => .int q.den) ta) := by
  obtain ⟨p, g, fd, hp, F, b⟩ := B.bot
  exact pe_pr B.T hp F b hr he hb
theorem pe_pSgn (B : Base X.prog X.w X.K X.mg X.base C) (hr : Room 2 X.A) (he : PE X e ta) (hb : attributeBase e "sign" X.env (eval e X.env) = eval e X.env := by rfl) : PE X (.Attribute e "sign" pos) (tGet C (fun q => .int q.num.sign) ta) := by
  obtain ⟨p, g, fd, hp, F, b⟩ := B.sgn
  exact pe_pr B.T hp F b hr he hb
end
/-! ### operators by values -/
/-- x op y, x an Amount, y a NUMBER -/
def rL (C : Addr) (f : Rat → Rat → Rat) : R2 := fun x y H Q => ∃ a q p, x = .ref a ∧ Is C H a q ∧ Num C H y p ∧ Sz q ∧ Sz p ∧ New C H Q (f q p)
/-- x op y, both NUMBERS, one an Amount -/
def rN (C : Addr) (f : Rat → Rat → Rat) : R2 := fun x y H Q => ∃ q p, Num C H x q ∧ Num C H y p ∧ ((∃ a, x = .ref a) ∨ ∃ a, y = .ref a) ∧ Sz q ∧ Sz p ∧ New C H Q (f q p)
section
variable {X : Cx} {C f g : Addr} {k : Nat} {op : Operator} {fd gd : FuncData} {ps qs : List Str} {h : Rat → Rat → Rat}
theorem op_L {go : Option Addr} (B : OwnBin X.K C op.info.2 f go) (F : FnOk X.prog X.w X.K X.mg X.base CX0 k f fd ps (spOp C h)) (hb : Binds X.K fd ps []) (hr : Room k X.A) : OpR X (binaryOp op) (rL C h) := fun pins s σ H x y v u Q I rx ry hh => by
  obtain ⟨a, q, p, rfl, ia, ny, sq, sp, nw⟩ := hh
  obtain ⟨dx, ea⟩ := id ia
  have prom : spOp C h [V.ref a, y] H Q E0 := ⟨a, y, q, p, rfl, ia, ny, sq, sp, nw⟩
  have one : rBin C (spOp C h) (fun _ _ _ _ => False) E0 (.ref a) y H Q := by
    rcases id ny with ⟨i, rfl, _⟩ | ⟨b, rfl, dy, eb⟩
    · exact .inr (.inl ⟨a, dx, _, i, rfl, rfl, ea, prom⟩)
    · exact .inl ⟨a, dx, _, b, dy, _, rfl, rfl, ea, eb, prom⟩
  exact op_left B F hb pass0 hr pins s σ H _ _ v u Q I rx ry one
theorem conv_bin {H : Hp} {x y : V} {Q : VK} {sp sq : Sp} {E : XK} (hsp : ∀ a y q p, Is C H a q → Num C H y p → Sz q → Sz p → New C H Q (h q p) → sp [V.ref a, y] H Q E) (hsq : ∀ a y q p, Is C H a q → Num C H y p → Sz q → Sz p → New C H Q (h p q) → sq [V.ref a, y] H Q E)
    (hh : rN C h x y H Q) : rBin C sp sq E x y H Q := by
  obtain ⟨q, p, nx, ny, one, sq', sp', nw⟩ := hh
  rcases id nx with ⟨i, rfl, _⟩ | ⟨a, rfl, ia⟩
  · rcases id ny with ⟨j, rfl, _⟩ | ⟨b, rfl, ib⟩
    · rcases one with ⟨_, z⟩ | ⟨_, z⟩ <;> cases z
    · obtain ⟨dy, eb⟩ := id ib
      exact .inr (.inr ⟨b, dy, _, i, rfl, rfl, eb, hsq b _ p q ib nx sp' sq' nw⟩)
  · obtain ⟨dx, ea⟩ := id ia
    have z := hsp a y q p ia ny sq' sp' nw
    rcases id ny with ⟨j, rfl, _⟩ | ⟨b, rfl, dy, eb⟩
    · exact .inr (.inl ⟨a, dx, _, j, rfl, rfl, ea, z⟩)
    · exact .inl ⟨a, dx, _, b, dy, _, rfl, rfl, ea, eb, z⟩
theorem op_N (h5 : Five op) (B : OwnBin X.K C op.info.2 f (some g)) (F : FnOk X.prog X.w X.K X.mg X.base CX0 k f fd ps (spOp C h)) (hb : Binds X.K fd ps []) (G : FnOk X.prog X.w X.K X.mg X.base CX0 k g gd qs (spOp C fun q p => h p q)) (hb2 : Binds X.K gd qs []) (hr : Room k X.A) :
    OpR X (binaryOp op) (rN C h) := fun pins s σ H x y v u Q I rx ry hh =>
  op_bin (E := E0) h5 B F hb G hb2 pass0 hr pins s σ H x y v u Q I rx ry (conv_bin (fun a y q p i n z z' w => ⟨a, y, q, p, rfl, i, n, z, z', w⟩) (fun a y q p i n z z' w => ⟨a, y, q, p, rfl, i, n, z, z', w⟩) hh)
theorem iop_N (h5 : Five op) (B : OwnBin X.K C op.info.2 f (some g)) (N : NoIn X.K C op.info.2) (F : FnOk X.prog X.w X.K X.mg X.base CX0 k f fd ps (spOp C h)) (hb : Binds X.K fd ps []) (G : FnOk X.prog X.w X.K X.mg X.base CX0 k g gd qs (spOp C fun q p => h p q)) (hb2 : Binds X.K gd qs []) (hr : Room k X.A) :
    OpR X (inplaceOp op) (rN C h) := fun pins s σ H x y v u Q I rx ry hh =>
  iop_bin (E := E0) h5 B N F hb G hb2 pass0 hr pins s σ H x y v u Q I rx ry (conv_bin (fun a y q p i n z z' w => ⟨a, y, q, p, rfl, i, n, z, z', w⟩) (fun a y q p i n z z' w => ⟨a, y, q, p, rfl, i, n, z, z', w⟩) hh)
end
end Am

set_option Elab.async false
set_option linter.all false
set_option maxRecDepth 100000
set_option maxHeartbeats 1000000
/-! The methods of Amount. -/
namespace KA
open PySem PySem.Spec PyProof.Rows L2 Oo Gd Am
section
variable {P : Program} {w : World} {K : W.Frag} {mg : Str → Option Value} {base : Heap} {C f : Addr} {fd : FuncData}
/-! ### is_whole -/
def spWhole : Sp := fun vs H Q _ => ∃ i : Int, vs = [.int i] ∧ Q (.bl true) H
theorem scWhole : FnScope ["value"] ["value"] (defScope (top 9)) := ⟨rfl, rfl, rfl, by decide +kernel, rfl, by decide +kernel, by decide +kernel⟩
theorem ok_whole (fr : Frees mg) (F : Fun K "is_whole" "is_whole" (top 9) f fd) : FnOk P w K mg base CX0 1 f fd ["value"] spWhole := by
  refine F.ok scWhole (fun vs H Q E h => ?_) (fun cdv A outer s H vs Q E hr h => ?_)
  · obtain ⟨i, rfl, _⟩ := h
    rfl
  · obtain ⟨i, rfl, q⟩ := h
    refine ⟨_, pss_one (ps_ret (pe_and (pe_callB call_isi rfl (fr.h _ (by decide +kernel)) (by decide +kernel) (pa_cons (pv 0) (pa_cons (pe_bltn (v := V.ty "int") rfl (fr.h _ (by decide +kernel)) (by rfl) rfl) pa_nil)))
      (pe_one (pe_not (pe_callB call_isi rfl (fr.h _ (by decide +kernel)) (by decide +kernel) (pa_cons (pv 0) (pa_cons (pe_bltn (v := V.ty "bool") rfl (fr.h _ (by decide +kernel)) (by rfl) rfl) pa_nil))))))), ?_⟩
    refine ⟨_, rfl, _, _, _, _, true, rfl, ClsV.ty "int", TyX.base (TyOf.int i), kit_ty (by decide +kernel), true, rfl, ?_⟩
    refine ⟨_, rfl, _, _, _, _, false, rfl, ClsV.ty "bool", TyX.base (TyOf.int i), kit_ty (by decide +kernel), false, rfl, q⟩
/-! ### __init__ -/
theorem scInit : FnScope ["self", "top", "bottom", "shared"] ["self", "top", "bottom"] (defScope (am 0)) := ⟨rfl, rfl, rfl, by decide +kernel, rfl, by decide +kernel, by decide +kernel⟩
abbrev FunI (K : W.Frag) (f : Addr) (fd : FuncData) : Prop := FunD K "__init__" "Amount.__init__" (defArgs (am 0)) (defBody (am 0)) (defScope (am 0)) [V.int 1] [] f fd
theorem ok_init (T : Cl K C) (DW : Dn P w K mg base CX0 1 "is_whole" ["value"] spWhole) (mgG : mg "gcd" = some (.builtin "math.gcd")) (F : FunI K f fd) :
    FnOk P w K mg base CX0 2 f fd ["self", "top", "bottom"] (spInit C) := by
  refine F.ok scInit (fun vs H Q E h => ?_) (fun cdv A outer s H vs Q E hr h => ?_)
  · obtain ⟨x, dx, n, d, rfl, _⟩ := h
    rfl
  · obtain ⟨x, dx, n, d, rfl, hx, d0, hn, hd, q⟩ := h
    have nd := scInit.nd
    refine ⟨_, PSs.nox (pss_cons (ps_if (pt_not (pt_val (pe_dn DW hr (by rfl) (by decide) (pa_cons (pv 1) pa_nil)))) (pss_one ps_never) pss_nil)
      (pss_cons (ps_if (PW.pt (pw_or (pt_not (pt_val (pe_dn DW hr (by rfl) (by decide) (pa_cons (pv 2) pa_nil)))) (pw_or1 (pt_cmpR op_eq (pv 2) pe_int (nomark _))))) (pss_one ps_never) pss_nil)
      (pss_cons (ps_set (i := 3) nd rfl (.inl rfl) (pe_callBfun cr_gcd rfl mgG (pa_cons (pv 1) (pa_cons (pv 2) pa_nil))))
      (C8.pss_cut (ps_if (pt_cmpR op_lt (pv 2) pe_int (nomark _)) (pss_one (ps_set (i := 3) nd rfl (.inl rfl) (pe_un un_neg (pv 3)))) pss_nil)
      (pss_cons (ps_fld (pv 0) (pe_op op_fdivX (pv 1) (pv 3)) rfl)
      (pss_one (ps_fld (pv 0) (pe_op op_fdivX (pv 2) (pv 3)) rfl))))))), ?_⟩
    refine ⟨_, rfl, n, rfl, _, rfl, iteF ?_⟩
    refine ⟨_, rfl, d, rfl, _, rfl, iteF ⟨_, rfl, rfl, _, rfl, ?_⟩⟩
    refine ite2 (fun h => absurd h (by simpa using d0)) (fun _ => ?_)
    refine ⟨_, rfl, _, rfl, n, d, rfl, ?_⟩
    refine ⟨fun σ H' => H' = H ∧ σ = (L2.start ["self", "top", "bottom", "shared"] [V.ref x, V.int n, V.int d]).set 3 (some (.int (if d < 0 then -((n.natAbs.gcd d.natAbs : Nat) : Int) else ((n.natAbs.gcd d.natAbs : Nat) : Int)))), ?_, ?_⟩
    · refine ⟨_, rfl, _, _, rfl, rfl, _, rfl, ite2 (fun h => ?_) (fun h => ?_)⟩
      · have h' : d < 0 := by simpa using h
        refine ⟨_, rfl, _, rfl, rfl, ?_⟩
        rw [if_pos h']
        rfl
      · have h' : ¬ d < 0 := by simpa using h
        refine ⟨rfl, ?_⟩
        rw [if_neg h']
    · rintro σ H' ⟨rfl, rfl⟩
      have gl : ∀ {g : Int}, g = (if d < 0 then -((n.natAbs.gcd d.natAbs : Nat) : Int) else ((n.natAbs.gcd d.natAbs : Nat) : Int)) → g ≠ 0 ∧ g.natAbs.log2 < 9000 := by
        intro g hg
        have g1 : n.natAbs.gcd d.natAbs ≤ d.natAbs := Nat.gcd_le_right _ (by omega)
        have g0 : 0 < n.natAbs.gcd d.natAbs := Nat.gcd_pos_of_pos_right _ (by omega)
        have e : g.natAbs = n.natAbs.gcd d.natAbs := by
          rw [hg]
          split <;> omega
        refine ⟨by omega, bits (n := 8999) (by omega) (by omega)⟩
      obtain ⟨z0, zl⟩ := gl rfl
      have e1 := low_num n d d0
      have e2 := low_den n d d0
      generalize (if d < 0 then -((n.natAbs.gcd d.natAbs : Nat) : Int) else ((n.natAbs.gcd d.natAbs : Nat) : Int)) = g at z0 zl e1 e2 ⊢
      refine ⟨_, rfl, _, rfl, n, g, rfl, rfl, ⟨z0, zl⟩, _, rfl, x, C, dx, [], rfl, hx, T.cl, T.nT, (by decide), ?_⟩
      refine ⟨_, rfl, _, rfl, d, g, rfl, rfl, ⟨z0, zl⟩, _, rfl, x, C, dx, _, rfl, upd_same, T.cl, T.nB, (by show 1 < 1000; decide), ?_⟩
      show Q .non (upd (upd H' x _) x (HO.ins C dx (putF "_bottom" (V.int (d.fdiv g)) (putF "_top" (V.int (n.fdiv g)) []))))
      rw [upd_upd, e1, e2, flds_of _ _ (Rat.divInt n d) rfl rfl]
      exact q
/-! ### properties -/
theorem sc1 (j : Nat) (h : FnScope ["self"] ["self"] (defScope (am j))) : FnScope ["self"] ["self"] (defScope (am j)) := h
theorem scTop : FnScope ["self"] ["self"] (defScope (am 3)) := ⟨rfl, rfl, rfl, by decide +kernel, rfl, by decide +kernel, by decide +kernel⟩
theorem scBot : FnScope ["self"] ["self"] (defScope (am 4)) := ⟨rfl, rfl, rfl, by decide +kernel, rfl, by decide +kernel, by decide +kernel⟩
theorem scSgn : FnScope ["self"] ["self"] (defScope (am 5)) := ⟨rfl, rfl, rfl, by decide +kernel, rfl, by decide +kernel, by decide +kernel⟩
theorem ok_top (T : Cl K C) (F : Fun K "top" "Amount.top" (am 3) f fd) : FnOk P w K mg base CX0 1 f fd ["self"] (spGet C fun q => .int q.num) := by
  refine F.ok scTop (fun vs H Q E h => ?_) (fun cdv A outer s H vs Q E hr h => ?_)
  · obtain ⟨a, q, rfl, _⟩ := h
    rfl
  · obtain ⟨a, q, rfl, ia, z⟩ := h
    exact ⟨_, pss_one (ps_ret (pe_top T (pv 0))), ⟨_, rfl, a, q, rfl, ia, z⟩⟩
theorem ok_bot (T : Cl K C) (F : Fun K "bottom" "Amount.bottom" (am 4) f fd) : FnOk P w K mg base CX0 1 f fd ["self"] (spGet C fun q => .int q.den) := by
  refine F.ok scBot (fun vs H Q E h => ?_) (fun cdv A outer s H vs Q E hr h => ?_)
  · obtain ⟨a, q, rfl, _⟩ := h
    rfl
  · obtain ⟨a, q, rfl, ia, z⟩ := h
    exact ⟨_, pss_one (ps_ret (pe_bot T (pv 0))), ⟨_, rfl, a, q, rfl, ia, z⟩⟩
theorem ok_sgn (T : Cl K C) (F : Fun K "sign" "Amount.sign" (am 5) f fd) : FnOk P w K mg base CX0 1 f fd ["self"] (spGet C fun q => .int q.num.sign) := by
  refine F.ok scSgn (fun vs H Q E h => ?_) (fun cdv A outer s H vs Q E hr h => ?_)
  · obtain ⟨a, q, rfl, _⟩ := h
    rfl
  · obtain ⟨a, q, rfl, ia, z⟩ := h
    refine ⟨_, pss_cons (ps_if (pt_cmpR op_lt (pe_top T (pv 0)) pe_int (nomark _)) (pss_one (ps_ret (pe_un un_neg pe_int))) pss_nil)
      (pss_one (ps_ret (pe_ifExp (pt_cmpR op_gt (pe_top T (pv 0)) pe_int (nomark _)) pe_int pe_int))), ?_⟩
    replace z : Q (.int q.num.sign) H := z
    refine ⟨_, rfl, a, q, rfl, ia, _, _, rfl, rfl, _, rfl, ite2 (fun h => ?_) (fun h => ?_)⟩
    · have h' : q.num < 0 := by simpa using h
      rw [Int.sign_eq_neg_one_of_neg h'] at z
      exact ⟨_, rfl, z⟩
    · have h' : ¬ q.num < 0 := by simpa using h
      refine ⟨_, rfl, a, q, rfl, ia, _, _, rfl, rfl, _, rfl, ite2 (fun h2 => ?_) (fun h2 => ?_)⟩
      · have h3 : 0 < q.num := by simpa using h2
        rw [Int.sign_eq_one_of_pos h3] at z
        exact z
      · have h3 : ¬ 0 < q.num := by simpa using h2
        have e : q.num = 0 := by omega
        rw [e] at z
        exact z
/-! ### of -/
structure Cl2 (K : W.Frag) (C : Addr) : Prop where
  ins : C8.InsC K C
  kI : W.kitOne K (.type "int") (.ref C) = some false
theorem is_inst (T2 : Cl2 K C) {H : Hp} {Q : VK} {a : Addr} {q : Rat} (ia : Is C H a q) (z : Q (.bl true) H) : rIsi K [.ref a, .ref C] H Q := by
  obtain ⟨dx, ea⟩ := ia
  exact ⟨_, _, _, _, true, rfl, ClsV.own C, TyX.base (TyOf.ins ea T2.ins.cl T2.ins.ha T2.ins.hn T2.ins.htk T2.ins.hm), T2.ins.me, z⟩
theorem is_int (T2 : Cl2 K C) {H : Hp} {Q : VK} {i : Int} (z : Q (.bl false) H) : rIsi K [.int i, .ref C] H Q := ⟨_, _, _, _, false, rfl, ClsV.own C, TyX.base (TyOf.int i), T2.kI, z⟩
theorem scOf : FnScope ["number"] ["number"] (defScope (am 1)) := ⟨rfl, rfl, rfl, by decide +kernel, rfl, by decide +kernel, by decide +kernel⟩
theorem sz_num {q : Rat} (h : Sz q) : q.num.natAbs < 2 ^ 8999 := more_bits h.1 (by decide)
theorem sz_den {q : Rat} (h : Sz q) : (q.den : Int).natAbs < 2 ^ 4000 := by
  rw [Int.natAbs_natCast]
  exact h.2
theorem den0 (q : Rat) : (q.den : Int) ≠ 0 := by
  have := q.den_pos
  omega
theorem ok_of (fr : Frees mg) (B : Base P w K mg base C) (T2 : Cl2 K C) (F : Fun K "of" "Amount.of" (am 1) f fd) : FnOk P w K mg base CX0 4 f fd ["number"] (spOf C) := by
  refine F.ok scOf (fun vs H Q E h => ?_) (fun cdv A outer s H vs Q E hr h => ?_)
  · obtain ⟨v, q, rfl, _⟩ := h
    rfl
  · obtain ⟨v, q, rfl, nv, sz, nw⟩ := h
    refine ⟨_, pss_cons (ps_if (pt_val (pe_callB call_isi rfl (fr.h _ (by decide +kernel)) (by decide +kernel) (pa_cons (pv 0) (pa_cons (pe_glob (v := V.ref C) rfl B.mgA rfl) pa_nil)))) (pss_one (ps_ret (pv 0))) pss_nil)
      (pss_one (ps_ret (pe_mk1 B hr rfl (pa_cons (pv 0) pa_nil)))), ?_⟩
    rcases nv with ⟨i, rfl, rfl⟩ | ⟨a, rfl, ia⟩
    · refine ⟨_, rfl, ?_⟩
      exact ⟨_, _, _, _, false, rfl, ClsV.own C, TyX.base (TyOf.int i), T2.kI, _, rfl, iteF ⟨_, rfl, i, rfl, sz_num sz, fun r H' e n z => nw r H' e z⟩⟩
    · refine ⟨_, rfl, ?_⟩
      obtain ⟨dx, ea⟩ := id ia
      exact ⟨_, _, _, _, true, rfl, ClsV.own C, TyX.base (TyOf.ins ea T2.ins.cl T2.ins.ha T2.ins.hn T2.ins.htk T2.ins.hm), T2.ins.me, _, rfl, iteT ⟨_, rfl, nw a H (Ext.refl H) ia⟩⟩
/-! ### -x, abs, bool -/
theorem scNeg : FnScope ["self"] ["self"] (defScope (am 18)) := ⟨rfl, rfl, rfl, by decide +kernel, rfl, by decide +kernel, by decide +kernel⟩
theorem ok_neg (T : Cl K C) (B : Base P w K mg base C) (F : Fun K "__neg__" "Amount.__neg__" (am 18) f fd) : FnOk P w K mg base CX0 4 f fd ["self"] (spUn C fun q => -q) := by
  refine F.ok scNeg (fun vs H Q E h => ?_) (fun cdv A outer s H vs Q E hr h => ?_)
  · obtain ⟨a, q, rfl, _⟩ := h
    rfl
  · obtain ⟨a, q, rfl, ia, sz, nw⟩ := h
    refine ⟨_, pss_one (ps_ret (pe_mk2 B hr rfl (pa_cons (pe_un un_neg (pe_top T (pv 0))) (pa_cons (pe_bot T (pv 0)) pa_nil)))), ?_⟩
    refine ⟨_, rfl, a, q, rfl, ia, _, rfl, _, rfl, a, q, rfl, ia, _, _, rfl, den0 q, (by rw [Int.natAbs_neg]; exact sz_num sz), more_bits (sz_den sz) (by decide), ?_⟩
    rw [neg_rat]
    exact nw
def aq (q : Rat) : Rat := if q.num < 0 then -q else q
theorem abs_rat (q : Rat) : Rat.divInt (if q.num < 0 then -q.num else q.num) (q.den : Int) = aq q := by
  unfold aq
  split
  · exact neg_rat q
  · exact Rat.num_divInt_den q
theorem scAbs : FnScope ["self"] ["self"] (defScope (am 19)) := ⟨rfl, rfl, rfl, by decide +kernel, rfl, by decide +kernel, by decide +kernel⟩
theorem ok_abs (fr : Frees mg) (T : Cl K C) (B : Base P w K mg base C) (F : Fun K "__abs__" "Amount.__abs__" (am 19) f fd) : FnOk P w K mg base CX0 4 f fd ["self"] (spUn C aq) := by
  refine F.ok scAbs (fun vs H Q E h => ?_) (fun cdv A outer s H vs Q E hr h => ?_)
  · obtain ⟨a, q, rfl, _⟩ := h
    rfl
  · obtain ⟨a, q, rfl, ia, sz, nw⟩ := h
    refine ⟨_, pss_one (ps_ret (pe_mk2 B hr rfl (pa_cons (pe_callB call_abs rfl (fr.h _ (by decide +kernel)) (by decide +kernel) (pa_cons (pe_top T (pv 0)) pa_nil)) (pa_cons (pe_bot T (pv 0)) pa_nil)))), ?_⟩
    refine ⟨_, rfl, a, q, rfl, ia, _, rfl, _, rfl, a, q, rfl, ia, _, _, rfl, den0 q, (by have := sz_num sz; split <;> omega), more_bits (sz_den sz) (by decide), ?_⟩
    rw [abs_rat]
    exact nw
def spBool (C : Addr) : Sp := fun vs H Q _ => ∃ a q, vs = [.ref a] ∧ Is C H a q ∧ Q (.bl (decide (q.num ≠ 0))) H
theorem scBool : FnScope ["self"] ["self"] (defScope (am 20)) := ⟨rfl, rfl, rfl, by decide +kernel, rfl, by decide +kernel, by decide +kernel⟩
theorem ok_bool (fr : Frees mg) (T : Cl K C) (F : Fun K "__bool__" "Amount.__bool__" (am 20) f fd) : FnOk P w K mg base CX0 1 f fd ["self"] (spBool C) := by
  refine F.ok scBool (fun vs H Q E h => ?_) (fun cdv A outer s H vs Q E hr h => ?_)
  · obtain ⟨a, q, rfl, _⟩ := h
    rfl
  · obtain ⟨a, q, rfl, ia, z⟩ := h
    refine ⟨_, pss_one (ps_ret (pe_callTy call_bool1 rfl (fr.h _ (by decide +kernel)) (by decide +kernel) (pa_cons (pe_cmpR op_ne (pe_top T (pv 0)) pe_int (nomark _)) pa_nil))), ?_⟩
    refine ⟨_, rfl, a, q, rfl, ia, rfl, .inr ⟨_, rfl, ?_⟩⟩
    have e : (!decide (V.int q.num = V.int 0)) = decide (q.num ≠ 0) := by simp
    rw [e]
    exact z
end
end KA

set_option Elab.async false
set_option linter.all false
set_option maxRecDepth 100000
set_option maxHeartbeats 1000000
set_option exponentiation.threshold 9000
/-! The arithmetic of Amount. -/
namespace KA
open PySem PySem.Spec PyProof.Rows L2 Oo Gd Am
section
variable {P : Program} {w : World} {K : W.Frag} {mg : Str → Option Value} {base : Heap} {C f : Addr} {fd : FuncData}
theorem num_bits {q : Rat} (h : Sz q) : q.num.natAbs < 2 ^ 4000 := h.1
theorem top_bits {q p : Rat} (h : Sz q) (h' : Sz p) : (q.num * (p.den : Int)).natAbs < 2 ^ 8000 := mul_bits h.1 (sz_den h')
theorem den_bits {q p : Rat} (h : Sz q) (h' : Sz p) : ((q.den : Int) * (p.den : Int)).natAbs < 2 ^ 8000 := mul_bits (sz_den h) (sz_den h')
theorem den_den (q p : Rat) : (q.den : Int) * (p.den : Int) ≠ 0 := Int.mul_ne_zero (den0 q) (den0 p)
theorem neg_sz {q : Rat} (h : Sz q) : Sz (-q) := by
  have e1 : (-q).num = -q.num := rfl
  have e2 : (-q).den = q.den := rfl
  exact ⟨by rw [e1, Int.natAbs_neg]; exact h.1, by rw [e2]; exact h.2⟩
/-- an operator's def, with its promise -/
structure Op (P : Program) (w : World) (K : W.Frag) (mg : Str → Option Value) (base : Heap) (C : Addr) (nm : String) (k : Nat) (h : Rat → Rat → Rat) : Prop where
  of : ∃ f g fd ps, OwnBin K C nm f g ∧ FnOk P w K mg base CX0 k f fd ps (spOp C h) ∧ Binds K fd ps []
theorem op_O {X : Cx} {op : Operator} {k : Nat} {h : Rat → Rat → Rat} (O : Op X.prog X.w X.K X.mg X.base C op.info.2 k h) (hr : Room k X.A) : OpR X (binaryOp op) (rL C h) := by
  obtain ⟨f, g, fd, ps, B, F, b⟩ := O.of
  exact op_L B F b hr
structure Neg (P : Program) (w : World) (K : W.Frag) (mg : Str → Option Value) (base : Heap) (C : Addr) : Prop where
  of : ∃ f fd, W.findIn K (.ref C) "__neg__" = some (some (.ref f)) ∧ W.isFn K (.ref f) = true ∧ FnOk P w K mg base CX0 4 f fd ["self"] (spUn C fun q => -q) ∧ Binds K fd ["self"] []
theorem un_N {X : Cx} (O : Neg X.prog X.w X.K X.mg X.base C) (hr : Room 4 X.A) : UnR X (unaryOp .USub) (fun x H Q => ∃ a q, x = .ref a ∧ Is C H a q ∧ Sz q ∧ New C H Q (-q)) := fun pins s σ H x v Q I rx h => by
  obtain ⟨f, fd, hs, hf, F, b⟩ := O.of
  obtain ⟨a, q, rfl, ia, sz, nw⟩ := h
  obtain ⟨dx, ea⟩ := id ia
  exact un_own (E := E0) hs hf F b pass0 hr pins s σ H _ v Q I rx ⟨a, dx, _, rfl, ea, a, q, rfl, ia, sz, nw⟩
/-! ### + and * -/
theorem scAdd : FnScope ["self", "other", "number"] ["self", "other"] (defScope (am 6)) := ⟨rfl, rfl, rfl, by decide +kernel, rfl, by decide +kernel, by decide +kernel⟩
theorem ok_add (B : Base P w K mg base C) (O : Of P w K mg base C) (F : Fun K "__add__" "Amount.__add__" (am 6) f fd) : FnOk P w K mg base CX0 5 f fd ["self", "other"] (spOp C fun q p => q + p) := by
  refine F.ok scAdd (fun vs H Q E h => ?_) (fun cdv A outer s H vs Q E hr h => ?_)
  · obtain ⟨a, y, q, p, rfl, _⟩ := h
    rfl
  · obtain ⟨a, y, q, p, rfl, ia, ny, sq, sp, nw⟩ := h
    have nd := scAdd.nd
    have T := B.T
    have h2 := hr.mono (show 2 ≤ 4 by decide)
    have h3 := hr.mono (show 3 ≤ 4 by decide)
    refine ⟨_, pss_cons (ps_set (i := 2) nd rfl (.inl rfl) (pe_of O hr (pe_glob (v := V.ref C) rfl B.mgA rfl) (pa_cons (pv 1) pa_nil)))
      (pss_one (ps_ret (pe_mk2 B h3 rfl (pa_cons (pe_op op_add (pe_op op_mulW (pe_top T (pv 0)) (pe_pBot B h2 (pv 2))) (pe_op op_mulW (pe_pTop B h2 (pv 2)) (pe_bot T (pv 0))))
        (pa_cons (pe_op op_mulW (pe_bot T (pv 0)) (pe_pBot B h2 (pv 2))) pa_nil))))), ?_⟩
    refine ⟨rfl, _, rfl, y, p, rfl, ny, sp, fun r H1 e1 ir => ?_⟩
    have ia1 := ia.ext e1
    have cm : ∀ {i j : Int}, i.natAbs < 2 ^ 4000 → j.natAbs < 2 ^ 4000 → CMulW i j := fun h h' => mulOk h h' (by decide) (by decide)
    refine ⟨_, rfl, a, q, rfl, ia1, _, rfl, r, p, rfl, ir, _, _, rfl, rfl, cm sq.1 (sz_den sp), _, rfl, r, p, rfl, ir, _, rfl, a, q, rfl, ia1, _, _, rfl, rfl, cm sp.1 (sz_den sq), _, _, rfl, rfl, ?_⟩
    refine ⟨_, rfl, a, q, rfl, ia1, _, rfl, r, p, rfl, ir, _, _, rfl, rfl, cm (sz_den sq) (sz_den sp), _, _, rfl, den_den q p, more_bits (add_bits (top_bits sq sp) (top_bits sp sq)) (by decide), more_bits (den_bits sq sp) (by decide), ?_⟩
    rw [add_rat]
    exact fun r2 H2 e2 n2 i2 => nw r2 H2 (e1.trans e2) (e1.gone n2) i2
theorem scMul : FnScope ["self", "other", "number"] ["self", "other"] (defScope (am 10)) := ⟨rfl, rfl, rfl, by decide +kernel, rfl, by decide +kernel, by decide +kernel⟩
theorem ok_mul (B : Base P w K mg base C) (O : Of P w K mg base C) (F : Fun K "__mul__" "Amount.__mul__" (am 10) f fd) : FnOk P w K mg base CX0 5 f fd ["self", "other"] (spOp C fun q p => q * p) := by
  refine F.ok scMul (fun vs H Q E h => ?_) (fun cdv A outer s H vs Q E hr h => ?_)
  · obtain ⟨a, y, q, p, rfl, _⟩ := h
    rfl
  · obtain ⟨a, y, q, p, rfl, ia, ny, sq, sp, nw⟩ := h
    have nd := scMul.nd
    have T := B.T
    have h2 := hr.mono (show 2 ≤ 4 by decide)
    have h3 := hr.mono (show 3 ≤ 4 by decide)
    refine ⟨_, pss_cons (ps_set (i := 2) nd rfl (.inl rfl) (pe_of O hr (pe_glob (v := V.ref C) rfl B.mgA rfl) (pa_cons (pv 1) pa_nil)))
      (pss_one (ps_ret (pe_mk2 B h3 rfl (pa_cons (pe_op op_mulW (pe_top T (pv 0)) (pe_pTop B h2 (pv 2)))
        (pa_cons (pe_op op_mulW (pe_bot T (pv 0)) (pe_pBot B h2 (pv 2))) pa_nil))))), ?_⟩
    refine ⟨rfl, _, rfl, y, p, rfl, ny, sp, fun r H1 e1 ir => ?_⟩
    have ia1 := ia.ext e1
    have cm : ∀ {i j : Int}, i.natAbs < 2 ^ 4000 → j.natAbs < 2 ^ 4000 → CMulW i j := fun h h' => mulOk h h' (by decide) (by decide)
    refine ⟨_, rfl, a, q, rfl, ia1, _, rfl, r, p, rfl, ir, _, _, rfl, rfl, cm sq.1 sp.1, ?_⟩
    refine ⟨_, rfl, a, q, rfl, ia1, _, rfl, r, p, rfl, ir, _, _, rfl, rfl, cm (sz_den sq) (sz_den sp), _, _, rfl, den_den q p, more_bits (mul_bits sq.1 sp.1) (by decide), more_bits (den_bits sq sp) (by decide), ?_⟩
    rw [mul_rat]
    exact fun r2 H2 e2 n2 i2 => nw r2 H2 (e1.trans e2) (e1.gone n2) i2
/-! ### - -/
theorem scSub : FnScope ["self", "other"] ["self", "other"] (defScope (am 8)) := ⟨rfl, rfl, rfl, by decide +kernel, rfl, by decide +kernel, by decide +kernel⟩
theorem ok_sub (B : Base P w K mg base C) (O : Of P w K mg base C) (N : Neg P w K mg base C) (A1 : Op P w K mg base C (Operator.Add).info.2 5 fun q p => q + p) (F : Fun K "__sub__" "Amount.__sub__" (am 8) f fd) :
    FnOk P w K mg base CX0 6 f fd ["self", "other"] (spOp C fun q p => q - p) := by
  refine F.ok scSub (fun vs H Q E h => ?_) (fun cdv A outer s H vs Q E hr h => ?_)
  · obtain ⟨a, y, q, p, rfl, _⟩ := h
    rfl
  · obtain ⟨a, y, q, p, rfl, ia, ny, sq, sp, nw⟩ := h
    have h4 := hr.mono (show 4 ≤ 5 by decide)
    refine ⟨_, pss_one (ps_ret (pe_op (op_O A1 hr) (pv 0) (pe_un (un_N N h4) (pe_of O h4 (pe_glob (v := V.ref C) rfl B.mgA rfl) (pa_cons (pv 1) pa_nil))))), ?_⟩
    refine ⟨_, rfl, rfl, _, rfl, y, p, rfl, ny, sp, fun r H1 e1 ir => ⟨r, p, rfl, ir, sp, fun r2 H2 e2 n2 ir2 => ⟨a, q, -p, rfl, (ia.ext e1).ext e2, Num.is ir2, sq, neg_sz sp, ?_⟩⟩⟩
    show New C H2 Q (q + -p)
    rw [← Rat.sub_eq_add_neg]
    exact fun r3 H3 e3 n3 i3 => nw r3 H3 ((e1.trans e2).trans e3) ((e1.trans e2).gone n3) i3
/-! ### the turned ones -/
end
end KA

set_option Elab.async false
set_option linter.all false
set_option maxRecDepth 100000
set_option maxHeartbeats 1000000
set_option exponentiation.threshold 9000
/-! Turned operators, powers, ==. -/
namespace KA
open PySem PySem.Spec PyProof.Rows L2 Oo Gd Am
section
variable {P : Program} {w : World} {K : W.Frag} {mg : Str → Option Value} {base : Heap} {C f : Addr} {fd : FuncData}
theorem scRadd : FnScope ["self", "other"] ["self", "other"] (defScope (am 7)) := ⟨rfl, rfl, rfl, by decide +kernel, rfl, by decide +kernel, by decide +kernel⟩
theorem scRsub : FnScope ["self", "other"] ["self", "other"] (defScope (am 9)) := ⟨rfl, rfl, rfl, by decide +kernel, rfl, by decide +kernel, by decide +kernel⟩
theorem scRmul : FnScope ["self", "other"] ["self", "other"] (defScope (am 11)) := ⟨rfl, rfl, rfl, by decide +kernel, rfl, by decide +kernel, by decide +kernel⟩
theorem ok_radd (B : Base P w K mg base C) (O : Of P w K mg base C) (A : Op P w K mg base C (Operator.Add).info.2 5 fun q p => q + p) (F : Fun K "__radd__" "Amount.__radd__" (am 7) f fd) : FnOk P w K mg base CX0 6 f fd ["self", "other"] (spOp C fun q p => p + q) := by
  refine F.ok scRadd (fun vs H Q E h => ?_) (fun cdv A' outer s H vs Q E hr hh => ?_)
  · obtain ⟨a, y, q, p, rfl, _⟩ := h
    rfl
  · obtain ⟨a, y, q, p, rfl, ia, ny, sq, sp, nw⟩ := hh
    refine ⟨_, pss_one (ps_ret (pe_op (op_O A hr) (pe_of O (hr.mono (by decide)) (pe_glob (v := V.ref C) rfl B.mgA rfl) (pa_cons (pv 1) pa_nil)) (pv 0))), ?_⟩
    exact ⟨rfl, _, rfl, y, p, rfl, ny, sp, fun r H1 e1 ir => ⟨_, rfl, r, p, q, rfl, ir, Num.is (ia.ext e1), sp, sq, fun r2 H2 e2 n2 i2 => nw r2 H2 (e1.trans e2) (e1.gone n2) i2⟩⟩
theorem ok_rsub (B : Base P w K mg base C) (O : Of P w K mg base C) (A : Op P w K mg base C (Operator.Sub).info.2 6 fun q p => q - p) (F : Fun K "__rsub__" "Amount.__rsub__" (am 9) f fd) : FnOk P w K mg base CX0 7 f fd ["self", "other"] (spOp C fun q p => p - q) := by
  refine F.ok scRsub (fun vs H Q E h => ?_) (fun cdv A' outer s H vs Q E hr hh => ?_)
  · obtain ⟨a, y, q, p, rfl, _⟩ := h
    rfl
  · obtain ⟨a, y, q, p, rfl, ia, ny, sq, sp, nw⟩ := hh
    refine ⟨_, pss_one (ps_ret (pe_op (op_O A hr) (pe_of O (hr.mono (by decide)) (pe_glob (v := V.ref C) rfl B.mgA rfl) (pa_cons (pv 1) pa_nil)) (pv 0))), ?_⟩
    exact ⟨rfl, _, rfl, y, p, rfl, ny, sp, fun r H1 e1 ir => ⟨_, rfl, r, p, q, rfl, ir, Num.is (ia.ext e1), sp, sq, fun r2 H2 e2 n2 i2 => nw r2 H2 (e1.trans e2) (e1.gone n2) i2⟩⟩
theorem ok_rmul (B : Base P w K mg base C) (O : Of P w K mg base C) (A : Op P w K mg base C (Operator.Mult).info.2 5 fun q p => q * p) (F : Fun K "__rmul__" "Amount.__rmul__" (am 11) f fd) : FnOk P w K mg base CX0 6 f fd ["self", "other"] (spOp C fun q p => p * q) := by
  refine F.ok scRmul (fun vs H Q E h => ?_) (fun cdv A' outer s H vs Q E hr hh => ?_)
  · obtain ⟨a, y, q, p, rfl, _⟩ := h
    rfl
  · obtain ⟨a, y, q, p, rfl, ia, ny, sq, sp, nw⟩ := hh
    refine ⟨_, pss_one (ps_ret (pe_op (op_O A hr) (pe_of O (hr.mono (by decide)) (pe_glob (v := V.ref C) rfl B.mgA rfl) (pa_cons (pv 1) pa_nil)) (pv 0))), ?_⟩
    exact ⟨rfl, _, rfl, y, p, rfl, ny, sp, fun r H1 e1 ir => ⟨_, rfl, r, p, q, rfl, ir, Num.is (ia.ext e1), sp, sq, fun r2 H2 e2 n2 i2 => nw r2 H2 (e1.trans e2) (e1.gone n2) i2⟩⟩
/-! ### is_count, ** -/
def spCount : Sp := fun vs H Q _ => ∃ i : Int, vs = [.int i] ∧ Q (.bl (decide (0 ≤ i))) H
theorem scCount : FnScope ["value"] ["value"] (defScope (top 10)) := ⟨rfl, rfl, rfl, by decide +kernel, rfl, by decide +kernel, by decide +kernel⟩
theorem ok_count (DW : Dn P w K mg base CX0 1 "is_whole" ["value"] spWhole) (F : Fun K "is_count" "is_count" (top 10) f fd) : FnOk P w K mg base CX0 2 f fd ["value"] spCount := by
  refine F.ok scCount (fun vs H Q E h => ?_) (fun cdv A outer s H vs Q E hr h => ?_)
  · obtain ⟨i, rfl, _⟩ := h
    rfl
  · obtain ⟨i, rfl, q⟩ := h
    refine ⟨_, pss_one (ps_ret (pe_and (pe_dn DW hr (by rfl) (by decide) (pa_cons (pv 0) pa_nil)) (pe_one (pe_cmpR op_ge (pv 0) pe_int (nomark _))))), ?_⟩
    exact ⟨_, rfl, i, rfl, true, rfl, _, rfl, _, _, rfl, rfl, q⟩
def Low (n : Nat) (q : Rat) : Prop := q.num.natAbs < 2 ^ n ∧ q.den < 2 ^ n
def spPow (C : Addr) : Sp := fun vs H Q _ => ∃ a q i, vs = [.ref a, .int i] ∧ Is C H a q ∧ Low 330 q ∧ 0 ≤ i ∧ i ≤ 12 ∧ New C H Q (q ^ i.toNat)
theorem pow_low {q : Rat} (h : Low 330 q) {i : Nat} (hi : i ≤ 12) : Sz (q ^ i) := by
  have e : 330 * i ≤ 3960 := by omega
  have pw : ∀ {n : Nat}, n < 2 ^ 330 → n ^ i ≤ 2 ^ (330 * i) := fun {n} hn => by
    rw [Nat.pow_mul]
    exact Nat.pow_le_pow_left (Nat.le_of_lt hn) i
  have big : (2 : Nat) ^ (330 * i) < 2 ^ 4000 := Nat.pow_lt_pow_right (by decide) (by omega)
  refine ⟨?_, ?_⟩
  · rw [Rat.num_pow, Int.natAbs_pow]
    exact Nat.lt_of_le_of_lt (pw h.1) big
  · rw [Rat.den_pow]
    exact Nat.lt_of_le_of_lt (pw h.2) big
theorem scPow : FnScope ["self", "other", "result", "_"] ["self", "other"] (defScope (am 17)) := ⟨rfl, rfl, rfl, by decide +kernel, rfl, by decide +kernel, by decide +kernel⟩
theorem ok_pow {t : Tok} (fr : Frees mg) (B : Base P w K mg base C) (DC : Dn P w K mg base CX0 2 "is_count" ["value"] spCount) (mgP : mg "MOST_POWER" = some (.int 12 t)) (A : Op P w K mg base C (Operator.Mult).info.2 5 fun q p => q * p) (F : Fun K "__pow__" "Amount.__pow__" (am 17) f fd) :
    FnOk P w K mg base CX0 6 f fd ["self", "other"] (spPow C) := by
  refine F.ok scPow (fun vs H Q E h => ?_) (fun cdv A' outer s H vs Q E hr h => ?_)
  · obtain ⟨a, q, i, rfl, _⟩ := h
    rfl
  · obtain ⟨a, q, i, rfl, ia, lw, i0, i12, nw⟩ := h
    have nd := scPow.nd
    have h3 := hr.mono (show 3 ≤ 5 by decide)
    have h2 := hr.mono (show 2 ≤ 5 by decide)
    refine ⟨_, pss_cons (ps_if (PW.pt (pw_or (pt_not (pt_val (pe_dn DC h2 (by rfl) (by decide) (pa_cons (pv 1) pa_nil)))) (pw_or1 (pt_cmpR op_gt (pv 1) (pe_glob (v := V.int 12) rfl mgP ⟨t, rfl⟩) (nomark _))))) (pss_one ps_never) pss_nil)
      (pss_cons (ps_set (i := 2) nd rfl (.inl rfl) (pe_mk1 B h3 rfl (pa_cons pe_int pa_nil)))
      (pss_cons (ps_for PassesOwn.never rfl (pi_range1 rfl (fr.h _ (by decide +kernel)) (pa_cons (pv 1) pa_nil)) (pg_name (i := 3) nd rfl (.inl rfl))
        (pss_one (ps_set (i := 2) nd rfl (.inl rfl) (pe_op (op_O A hr) (pv 2) (pv 0)))))
      (pss_one (ps_ret (pv 2))))), ?_⟩
    refine ⟨_, rfl, i, rfl, _, rfl, ?_⟩
    rw [decide_eq_true i0]
    refine iteF ⟨_, rfl, _, _, rfl, rfl, _, rfl, ite2 (fun h => absurd h (by simpa using i12)) (fun _ => ?_)⟩
    refine ⟨1, rfl, (by decide), fun r H1 e1 n1 i1 => ⟨_, rfl, i, rfl, (by omega), (by omega), ?_⟩⟩
    refine for_range (lo := 0) (n := i.toNat) (fun j σ H' => ∃ r, σ[0]? = some (some (.ref a)) ∧ σ[2]? = some (some (.ref r)) ∧ σ.length = 4 ∧ Am.Ext H H' ∧ H r = none ∧ Is C H' r (q ^ j)) ?_ ?_ ?_
    · exact ⟨r, rfl, rfl, rfl, e1, n1, by rw [Rat.pow_zero]; exact i1⟩
    · rintro j σ H' hj ⟨r, s0, s2, sl, e, nr, ir⟩
      have hj' : j < 12 := by omega
      refine ⟨_, ?_, _, ?_, r, q ^ j, q, rfl, ir, Num.is (ia.ext e), pow_low lw (by omega), ⟨Nat.lt_trans lw.1 (by decide), Nat.lt_trans lw.2 (by decide)⟩, fun r2 H2 e2 n2 ir2 => ?_⟩
      · rw [List.getElem?_set_ne (by decide)]
        exact s2
      · rw [List.getElem?_set_ne (by decide)]
        exact s0
      · refine ⟨r2, ?_, ?_, ?_, e.trans e2, e.gone n2, ?_⟩
        · rw [List.getElem?_set_ne (by decide), List.getElem?_set_ne (by decide)]
          exact s0
        · rw [List.getElem?_set_self (by rw [List.length_set]; omega)]
        · rw [List.length_set, List.length_set]
          exact sl
        · rw [Rat.pow_succ]
          exact ir2
    · rintro σ H' ⟨r, s0, s2, sl, e, nr, ir⟩
      exact ⟨_, s2, nw r H' e nr ir⟩
/-! ### == -/
def spEq (C : Addr) : Sp := fun vs H Q _ => ∃ a b q p, vs = [.ref a, .ref b] ∧ Is C H a q ∧ Is C H b p ∧ Q (.bl (decide (q = p))) H
theorem scEq : FnScope ["self", "other"] ["self", "other"] (defScope (am 21)) := ⟨rfl, rfl, rfl, by decide +kernel, rfl, by decide +kernel, by decide +kernel⟩
theorem ok_eq (fr : Frees mg) (B : Base P w K mg base C) (T2 : Cl2 K C) (F : Fun K "__eq__" "Amount.__eq__" (am 21) f fd) : FnOk P w K mg base CX0 1 f fd ["self", "other"] (spEq C) := by
  refine F.ok scEq (fun vs H Q E h => ?_) (fun cdv A' outer s H vs Q E hr h => ?_)
  · obtain ⟨a, b, q, p, rfl, _⟩ := h
    rfl
  · obtain ⟨a, b, q, p, rfl, ia, ib, z⟩ := h
    have T := B.T
    refine ⟨_, pss_one (ps_ret (pe_and (pe_callB call_isi rfl (fr.h _ (by decide +kernel)) (by decide +kernel) (pa_cons (pv 1) (pa_cons (pe_glob (v := V.ref C) rfl B.mgA rfl) pa_nil)))
      (pe_and (pe_cmpR op_eq (pe_top T (pv 0)) (pe_top T (pv 1)) (nomark _)) (pe_one (pe_cmpR op_eq (pe_bot T (pv 0)) (pe_bot T (pv 1)) (nomark _)))))), ?_⟩
    obtain ⟨dx, eb⟩ := id ib
    refine ⟨_, rfl, _, _, _, _, true, rfl, ClsV.own C, TyX.base (TyOf.ins eb T2.ins.cl T2.ins.ha T2.ins.hn T2.ins.htk T2.ins.hm), T2.ins.me, true, rfl, ?_⟩
    refine ⟨_, rfl, a, q, rfl, ia, _, rfl, b, p, rfl, ib, rfl, ?_⟩
    have key : (decide (q = p)) = (decide (V.int q.num = V.int p.num) && decide (V.int (q.den : Int) = V.int (p.den : Int))) := by
      by_cases e1 : q.num = p.num
      · by_cases e2 : q.den = p.den
        · have e := Rat.ext e1 e2
          subst e
          simp
        · have ne : q ≠ p := fun e => e2 (by rw [e])
          simp [ne, e1]
          omega
      · have ne : q ≠ p := fun e => e1 (by rw [e])
        simp [ne, e1]
    rw [key] at z
    refine ⟨_, rfl, ?_⟩
    cases h1 : decide (V.int q.num = V.int p.num) with
    | true =>
      rw [h1, Bool.true_and] at z
      exact ⟨_, rfl, a, q, rfl, ia, _, rfl, b, p, rfl, ib, rfl, z⟩
    | false =>
      rw [h1, Bool.false_and] at z
      exact z
end
end KA

set_option Elab.async false
set_option linter.all false
set_option maxRecDepth 100000
set_option maxHeartbeats 1000000
set_option exponentiation.threshold 9000
/-! over, //, % of Amounts: 0 is refused. -/
namespace KA
open PySem PySem.Spec PyProof.Rows L2 Oo Gd Am
theorem divInt_le (n d : Int) (h : d ≠ 0) : (Rat.divInt n d).num.natAbs ≤ n.natAbs ∧ (Rat.divInt n d).den ≤ d.natAbs := by
  obtain ⟨m, m0, e1, e2⟩ := Rat.divInt_num_den (n' := (Rat.divInt n d).num) (d' := (Rat.divInt n d).den) (z' := (Rat.divInt n d).den_nz) (c := (Rat.divInt n d).reduced) h rfl
  have m1 : 1 ≤ m.natAbs := by omega
  refine ⟨?_, ?_⟩
  · conv => rhs; rw [e1]
    rw [Int.natAbs_mul]
    exact Nat.le_mul_of_pos_right _ m1
  · conv => rhs; rw [e2]
    rw [Int.natAbs_mul, Int.natAbs_natCast]
    exact Nat.le_mul_of_pos_right _ m1
/-- 0 is refused: the error of the class at Z, which tells None, lies in a heap where all stands on -/
def Refuse (Z : Addr) (H : Hp) (E : XK) : Prop := ∀ (d : Addr) (H' : Hp), Am.Ext H H' → H d = none → H' d = some (.xd [("rule", .non)]) → E (.ref Z) (some d) H'
theorem Refuse.on {Z : Addr} {H H1 : Hp} {E : XK} (r : Refuse Z H E) (e : Am.Ext H H1) : Refuse Z H1 E := fun d H' x n h => r d H' (e.trans x) (e.gone n) h
theorem left_ext {H : Hp} {Z e d : Addr} {fs : List (Str × V)} (he : H e = none) (hd : H d = none) : Am.Ext H (Gx.leftH H Z e d fs) ∧ Gx.leftH H Z e d fs d = some (.xd fs) := by
  refine ⟨fun b o h => ?_, upd_same⟩
  have n1 := ne_of_none h hd
  have n2 := ne_of_none h he
  show upd (L2.del (Ge.withErr H Z e d fs) e) d (.xd fs) b = some o
  rw [upd_ne n1]
  unfold L2.del
  rw [if_neg n2]
  show upd (upd H d _) e _ b = some o
  rw [upd_ne n2, upd_ne n1]
  exact h
section
variable {P : Program} {w : World} {K : W.Frag} {mg : Str → Option Value} {base : Heap} {C Z f : Addr} {fd : FuncData}
/-- what the text says of DividedByZero -/
structure Zr (K : W.Frag) (mg : Str → Option Value) (Z : Addr) : Prop where
  e1 : Ge.E1 K Z "rule"
  mgZ : mg "DividedByZero" = some (.ref Z)
  rs : ∀ {X : Cx}, X.K = K → Raises X (.ref Z)
def spDiv (n : Nat) (C Z : Addr) (R : Rat → Rat → Hp → VK → Prop) : Sp := fun vs H Q E => ∃ a y q p, vs = [.ref a, y] ∧ Is C H a q ∧ Num C H y p ∧ Low n q ∧ Low n p ∧ (p ≠ 0 → R q p H Q) ∧ (p = 0 → Refuse Z H E)
def Whole (q : Rat) (H : Hp) (Q : VK) : Prop := ∀ H', Am.Ext H H' → Q (.int q.floor) H'
theorem low_sz {n : Nat} {q : Rat} (h : Low n q) (hn : n ≤ 4000) : Sz q := ⟨Nat.lt_of_lt_of_le h.1 (Nat.pow_le_pow_right (by decide) hn), Nat.lt_of_lt_of_le h.2 (Nat.pow_le_pow_right (by decide) hn)⟩
theorem scOver : FnScope ["self", "other", "number"] ["self", "other"] (defScope (am 12)) := ⟨rfl, rfl, rfl, by decide +kernel, rfl, by decide +kernel, by decide +kernel⟩
theorem ok_over (B : Base P w K mg base C) (O : Of P w K mg base C) (ZR : Zr K mg Z) (F : Fun K "over" "Amount.over" (am 12) f fd) : FnOk P w K mg base (L2.CX P w) 5 f fd ["self", "other"] (spDiv 4000 C Z fun q p H Q => New C H Q (q / p)) := by
  refine F.okX scOver (fun vs H Q E h => ?_) (fun cdv A outer s H vs Q E hr h => ?_)
  · obtain ⟨a, y, q, p, rfl, _⟩ := h
    rfl
  · obtain ⟨a, y, q, p, rfl, ia, ny, sq, sp, hn, hz⟩ := h
    have nd := scOver.nd
    have T := B.T
    have h2 := hr.mono (show 2 ≤ 4 by decide)
    have h3 := hr.mono (show 3 ≤ 4 by decide)
    refine ⟨_, pss_cons (ps_set (i := 2) nd rfl (.inl rfl) (pe_of O hr (pe_glob (v := V.ref C) rfl B.mgA rfl) (pa_cons (pv 1) pa_nil)))
      (pss_cons (ps_if (pt_cmpR op_eq (pe_pTop B h2 (pv 2)) pe_int (nomark _)) (pss_one (ps_raise rfl (takes_of rfl rfl rfl rfl) (Gx.pmk1 ZR.e1 (ZR.rs rfl) hr rfl ZR.mgZ (pa_cons pe_non pa_nil)))) pss_nil)
      (pss_one (ps_ret (pe_mk2 B h3 rfl (pa_cons (pe_op op_mulW (pe_top T (pv 0)) (pe_pBot B h2 (pv 2)))
        (pa_cons (pe_op op_mulW (pe_bot T (pv 0)) (pe_pTop B h2 (pv 2))) pa_nil)))))), ?_⟩
    refine ⟨rfl, _, rfl, y, p, rfl, ny, sp, fun r H1 e1 ir => ?_⟩
    have ia1 := ia.ext e1
    refine ⟨_, rfl, r, p, rfl, ir, rfl, _, rfl, ite2 (fun h => ?_) (fun h => ?_)⟩
    · have p0 : p = 0 := Rat.num_eq_zero.mp (by simpa using h)
      refine ⟨_, rfl, fun e d he hd ne => ?_⟩
      obtain ⟨x1, x2⟩ := left_ext (Z := Z) (fs := [("rule", V.non)]) he hd
      exact (hz p0).on e1 d _ x1 hd x2
    · have p0 : p ≠ 0 := fun e => h (by rw [e]; rfl)
      have pn : p.num ≠ 0 := fun e => p0 (Rat.num_eq_zero.mp e)
      have cm : ∀ {i j : Int}, i.natAbs < 2 ^ 4000 → j.natAbs < 2 ^ 4000 → CMulW i j := fun h h' => mulOk h h' (by decide) (by decide)
      refine ⟨_, rfl, a, q, rfl, ia1, _, rfl, r, p, rfl, ir, _, _, rfl, rfl, cm sq.1 (sz_den sp), ?_⟩
      refine ⟨_, rfl, a, q, rfl, ia1, _, rfl, r, p, rfl, ir, _, _, rfl, rfl, cm (sz_den sq) sp.1, _, _, rfl, Int.mul_ne_zero (den0 q) pn, more_bits (top_bits sq sp) (by decide), more_bits (mul_bits (sz_den sq) sp.1) (by decide), ?_⟩
      rw [div_rat]
      exact fun r2 H2 e2 n2 i2 => hn p0 r2 H2 (e1.trans e2) (e1.gone n2) i2
/-! ### // and % -/
structure Over (P : Program) (w : World) (K : W.Frag) (mg : Str → Option Value) (base : Heap) (C Z : Addr) : Prop where
  of : ∃ f fd, Meth K C "over" f ∧ FnOk P w K mg base (L2.CX P w) 5 f fd ["self", "other"] (spDiv 4000 C Z fun q p H Q => New C H Q (q / p)) ∧ Binds K fd ["self", "other"] []
theorem no_over (q : Rat) : (flds q).lookup ("over" : Str) = none := by
  show List.lookup ("over" : Str) [("_top", V.int q.num), ("_bottom", V.int q.den)] = _
  have n1 : ("over" : Str) ≠ "_top" := by decide +kernel
  have n2 : ("over" : Str) ≠ "_bottom" := by decide +kernel
  rw [List.lookup_cons, beq_eq_false_iff_ne.mpr n1, List.lookup_cons, beq_eq_false_iff_ne.mpr n2]
  rfl
theorem div_low {q p : Rat} (sq : Sz q) (sp : Sz p) (p0 : p ≠ 0) : (q / p).num.natAbs < 2 ^ 8000 ∧ (q / p).den < 2 ^ 8000 := by
  rw [← div_rat]
  have pn : p.num ≠ 0 := fun e => p0 (Rat.num_eq_zero.mp e)
  obtain ⟨h1, h2⟩ := divInt_le (q.num * (p.den : Int)) ((q.den : Int) * p.num) (Int.mul_ne_zero (den0 q) pn)
  exact ⟨Nat.lt_of_le_of_lt h1 (top_bits sq sp), Nat.lt_of_le_of_lt h2 (mul_bits (sz_den sq) sp.1)⟩
theorem floor_eq (q : Rat) : q.num.fdiv (q.den : Int) = q.floor := by
  rw [Rat.floor_def, Int.fdiv_eq_ediv_of_nonneg _ (by omega)]
theorem scFd : FnScope ["self", "other", "quotient"] ["self", "other"] (defScope (am 13)) := ⟨rfl, rfl, rfl, by decide +kernel, rfl, by decide +kernel, by decide +kernel⟩
theorem ok_fdiv (B : Base P w K mg base C) (V1 : Over P w K mg base C Z) (F : Fun K "__floordiv__" "Amount.__floordiv__" (am 13) f fd) : FnOk P w K mg base (L2.CX P w) 6 f fd ["self", "other"] (spDiv 4000 C Z fun q p H Q => Whole (q / p) H Q) := by
  refine F.okX scFd (fun vs H Q E h => ?_) (fun cdv A outer s H vs Q E hr h => ?_)
  · obtain ⟨a, y, q, p, rfl, _⟩ := h
    rfl
  · obtain ⟨a, y, q, p, rfl, ia, ny, sq, sp, hn, hz⟩ := h
    have nd := scFd.nd
    have h2 := hr.mono (show 2 ≤ 5 by decide)
    obtain ⟨fo, fdo, hm, G, b⟩ := V1.of
    refine ⟨_, pss_cons (ps_set (i := 2) nd rfl (.inl rfl) (pe_meth (pv 0) B.T.cl hm G hr b .nil (passes_call (takes_of rfl rfl rfl rfl) fun _ _ _ _ h => h) (pa_cons (pv 1) pa_nil)))
      (pss_one (ps_ret (pe_op op_fdivX (pe_pTop B h2 (pv 2)) (pe_pBot B h2 (pv 2))))), ?_⟩
    obtain ⟨dx, ea⟩ := id ia
    refine ⟨_, rfl, a, dx, _, rfl, ea, no_over q, _, rfl, a, y, q, p, rfl, ia, ny, sq, sp, fun p0 => ?_, hz⟩
    obtain ⟨b1, b2⟩ := div_low sq sp p0
    intro r H1 e1 n1 ir
    refine ⟨_, rfl, r, q / p, rfl, ir, _, rfl, r, q / p, rfl, ir, _, _, rfl, rfl, ⟨den0 _, bits (n := 8000) (by rw [Int.natAbs_natCast]; exact b2) (by decide)⟩, ?_⟩
    show Q (.int ((q / p).num.fdiv ((q / p).den : Int))) H1
    rw [floor_eq]
    exact hn p0 H1 e1
/-- the def of // (of %), with its promise -/
structure Dv (P : Program) (w : World) (K : W.Frag) (mg : Str → Option Value) (base : Heap) (C Z : Addr) (nm : String) (n k : Nat) (R : Rat → Rat → Hp → VK → Prop) : Prop where
  of : ∃ f g fd ps, OwnBin K C nm f g ∧ FnOk P w K mg base (L2.CX P w) k f fd ps (spDiv n C Z R) ∧ Binds K fd ps []
def rD (n : Nat) (C Z : Addr) (R : Rat → Rat → Hp → VK → Prop) (E : XK) : R2 := fun x y H Q => ∃ a q p, x = .ref a ∧ Is C H a q ∧ Num C H y p ∧ Low n q ∧ Low n p ∧ (p ≠ 0 → R q p H Q) ∧ (p = 0 → Refuse Z H E)
theorem op_D {X : Cx} {op : Operator} {n k : Nat} {R : Rat → Rat → Hp → VK → Prop} {E : XK} (D : Dv X.prog X.w X.K X.mg X.base C Z op.info.2 n k R) (hx : Passes (L2.CX X.prog X.w) X E) (hr : Room k X.A) : OpR X (binaryOp op) (rD n C Z R E) := fun pins s σ H x y v u Q I rx ry hh => by
  obtain ⟨f, g, fd, ps, B, F, b⟩ := D.of
  obtain ⟨a, q, p, rfl, ia, ny, sq, sp, hn, hz⟩ := hh
  obtain ⟨dx, ea⟩ := id ia
  have prom : spDiv n C Z R [V.ref a, y] H Q E := ⟨a, y, q, p, rfl, ia, ny, sq, sp, hn, hz⟩
  have one : rBin C (spDiv n C Z R) (fun _ _ _ _ => False) E (.ref a) y H Q := by
    rcases id ny with ⟨i, rfl, _⟩ | ⟨b, rfl, dy, eb⟩
    · exact .inr (.inl ⟨a, dx, _, i, rfl, rfl, ea, prom⟩)
    · exact .inl ⟨a, dx, _, b, dy, _, rfl, rfl, ea, eb, prom⟩
  exact op_left B F b hx hr pins s σ H _ _ v u Q I rx ry one
theorem scMod : FnScope ["self", "other", "number"] ["self", "other"] (defScope (am 15)) := ⟨rfl, rfl, rfl, by decide +kernel, rfl, by decide +kernel, by decide +kernel⟩
theorem floor_bits {q p : Rat} (sq : Low 900 q) (sp : Low 900 p) (p0 : p ≠ 0) : (q / p).floor.natAbs < 2 ^ 1801 := by
  have pn : p.num ≠ 0 := fun e => p0 (Rat.num_eq_zero.mp e)
  have h1 : (q / p).num.natAbs ≤ (q.num * (p.den : Int)).natAbs := by
    rw [← div_rat]
    exact (divInt_le _ _ (Int.mul_ne_zero (den0 q) pn)).1
  have h2 : (q.num * (p.den : Int)).natAbs < 2 ^ 1800 := mul_bits sq.1 (show ((p.den : Int)).natAbs < 2 ^ 900 by rw [Int.natAbs_natCast]; exact sp.2)
  rw [Rat.floor_def]
  have h3 : ((q / p).num / ((q / p).den : Int)).natAbs ≤ (q / p).num.natAbs + 1 := by
    have := (q / p).den_pos
    generalize (q / p).num = n
    generalize hd : ((q / p).den : Int) = d
    have d1 : 1 ≤ d := by omega
    have a1 := Int.ediv_mul_le n (show d ≠ 0 by omega)
    have a2 := Int.lt_ediv_add_one_mul_self n (show 0 < d by omega)
    rcases Int.lt_or_le n 0 with hn | hn
    · have u : n / d < 0 := Int.ediv_neg_of_neg_of_pos hn (by omega)
      have l : n ≤ n / d := by
        rcases Int.lt_or_le (n / d) n with z | z
        · exfalso
          have : (n / d + 1) * d ≤ (n / d + 1) * 1 := by
            have w1 : n / d + 1 ≤ 0 := by omega
            exact Int.mul_le_mul_of_nonpos_left w1 d1
          omega
        · exact z
      omega
    · have l : 0 ≤ n / d := Int.ediv_nonneg hn (by omega)
      have u : n / d ≤ n := Int.ediv_le_self d hn
      omega
  have e : (2 : Nat) ^ 1801 = 2 ^ 1800 + 2 ^ 1800 := Nat.two_pow_succ 1800
  have big : (1 : Nat) ≤ 2 ^ 1800 := Nat.one_le_two_pow
  rw [e]
  omega
theorem ok_mod (B : Base P w K mg base C) (O : Of P w K mg base C) (M : Op P w K mg base C (Operator.Mult).info.2 5 fun q p => q * p) (S : Op P w K mg base C (Operator.Sub).info.2 6 fun q p => q - p)
    (D : Dv P w K mg base C Z (Operator.FloorDiv).info.2 4000 6 fun q p H Q => Whole (q / p) H Q) (F : Fun K "__mod__" "Amount.__mod__" (am 15) f fd) :
    FnOk P w K mg base (L2.CX P w) 7 f fd ["self", "other"] (spDiv 900 C Z fun q p H Q => New C H Q (q - p * ((q / p).floor : Rat))) := by
  refine F.okX scMod (fun vs H Q E h => ?_) (fun cdv A outer s H vs Q E hr h => ?_)
  · obtain ⟨a, y, q, p, rfl, _⟩ := h
    rfl
  · obtain ⟨a, y, q, p, rfl, ia, ny, sq, sp, hn, hz⟩ := h
    have nd := scMod.nd
    have h5 := hr.mono (show 5 ≤ 6 by decide)
    have h4 := hr.mono (show 4 ≤ 6 by decide)
    have zq := low_sz sq (by decide)
    have zp := low_sz sp (by decide)
    refine ⟨_, pss_cons (ps_set (i := 2) nd rfl (.inl rfl) (pe_of O h4 (pe_glob (v := V.ref C) rfl B.mgA rfl) (pa_cons (pv 1) pa_nil)))
      (pss_one (ps_ret (pe_op (op_O S hr) (pv 0) (pe_op (op_O M h5) (pv 2) (pe_op (op_D (E := E) D (passes_call (takes_of rfl rfl rfl rfl) fun _ _ _ _ h => h) hr) (pv 0) (pv 2)))))), ?_⟩
    refine ⟨rfl, _, rfl, y, p, rfl, ny, zp, fun r H1 e1 ir => ?_⟩
    refine ⟨_, rfl, _, rfl, _, rfl, _, rfl, a, q, p, rfl, ia.ext e1, Num.is ir, zq, zp, fun p0 => ?_, fun p0 => (hz p0).on e1⟩
    intro H2 e2
    have fb := floor_bits sq sp p0
    have fz : Sz (((q / p).floor : Int) : Rat) := ⟨Nat.lt_trans fb (by decide), (by show 1 < 2 ^ 4000; decide)⟩
    refine ⟨r, p, _, rfl, ir.ext e2, Num.int _, zp, fz, fun r3 H3 e3 n3 i3 => ?_⟩
    have mz : Sz (p * (((q / p).floor : Int) : Rat)) := by
      rw [← mul_rat]
      have dd : (p.den : Int) * ((((q / p).floor : Int) : Rat).den : Int) ≠ 0 := den_den _ _
      obtain ⟨h1, h2⟩ := divInt_le (p.num * (((q / p).floor : Int) : Rat).num) ((p.den : Int) * ((((q / p).floor : Int) : Rat).den : Int)) dd
      refine ⟨Nat.lt_of_le_of_lt h1 (more_bits (mul_bits sp.1 fb) (by decide)), Nat.lt_of_le_of_lt h2 ?_⟩
      rw [show (((((q / p).floor : Int) : Rat).den : Nat) : Int) = 1 from rfl, Int.mul_one, Int.natAbs_natCast]
      exact zp.2
    refine ⟨a, q, _, rfl, ((ia.ext e1).ext e2).ext e3, Num.is i3, zq, mz, fun r4 H4 e4 n4 i4 => hn p0 r4 H4 (((e1.trans e2).trans e3).trans e4) (((e1.trans e2).trans e3).gone n4) i4⟩
/-! ### the turned ones -/
theorem scRfd : FnScope ["self", "other"] ["self", "other"] (defScope (am 14)) := ⟨rfl, rfl, rfl, by decide +kernel, rfl, by decide +kernel, by decide +kernel⟩
theorem scRmod : FnScope ["self", "other"] ["self", "other"] (defScope (am 16)) := ⟨rfl, rfl, rfl, by decide +kernel, rfl, by decide +kernel, by decide +kernel⟩
def spDivR (n : Nat) (C Z : Addr) (R : Rat → Rat → Hp → VK → Prop) : Sp := fun vs H Q E => ∃ a y q p, vs = [.ref a, y] ∧ Is C H a p ∧ Num C H y q ∧ Low n q ∧ Low n p ∧ (p ≠ 0 → R q p H Q) ∧ (p = 0 → Refuse Z H E)
theorem ok_rfdiv (B : Base P w K mg base C) (O : Of P w K mg base C) (D : Dv P w K mg base C Z (Operator.FloorDiv).info.2 4000 6 fun q p H Q => Whole (q / p) H Q) (F : Fun K "__rfloordiv__" "Amount.__rfloordiv__" (am 14) f fd) :
    FnOk P w K mg base (L2.CX P w) 7 f fd ["self", "other"] (spDivR 4000 C Z fun q p H Q => Whole (q / p) H Q) := by
  refine F.okX scRfd (fun vs H Q E h => ?_) (fun cdv A outer s H vs Q E hr h => ?_)
  · obtain ⟨a, y, q, p, rfl, _⟩ := h
    rfl
  · obtain ⟨a, y, q, p, rfl, ia, ny, sq, sp, hn, hz⟩ := h
    refine ⟨_, pss_one (ps_ret (pe_op (op_D (E := E) D (passes_call (takes_of rfl rfl rfl rfl) fun _ _ _ _ h => h) hr) (pe_of O (hr.mono (by decide)) (pe_glob (v := V.ref C) rfl B.mgA rfl) (pa_cons (pv 1) pa_nil)) (pv 0))), ?_⟩
    exact ⟨rfl, _, rfl, y, q, rfl, ny, sq, fun r H1 e1 ir => ⟨_, rfl, r, q, p, rfl, ir, Num.is (ia.ext e1), sq, sp, fun p0 H2 e2 => hn p0 H2 (e1.trans e2), fun p0 => (hz p0).on e1⟩⟩
theorem ok_rmod (B : Base P w K mg base C) (O : Of P w K mg base C) (D : Dv P w K mg base C Z (Operator.Mod).info.2 900 7 fun q p H Q => New C H Q (q - p * ((q / p).floor : Rat))) (F : Fun K "__rmod__" "Amount.__rmod__" (am 16) f fd) :
    FnOk P w K mg base (L2.CX P w) 8 f fd ["self", "other"] (spDivR 900 C Z fun q p H Q => New C H Q (q - p * ((q / p).floor : Rat))) := by
  refine F.okX scRmod (fun vs H Q E h => ?_) (fun cdv A outer s H vs Q E hr h => ?_)
  · obtain ⟨a, y, q, p, rfl, _⟩ := h
    rfl
  · obtain ⟨a, y, q, p, rfl, ia, ny, sq, sp, hn, hz⟩ := h
    refine ⟨_, pss_one (ps_ret (pe_op (op_D (E := E) D (passes_call (takes_of rfl rfl rfl rfl) fun _ _ _ _ h => h) hr) (pe_of O (hr.mono (by decide)) (pe_glob (v := V.ref C) rfl B.mgA rfl) (pa_cons (pv 1) pa_nil)) (pv 0))), ?_⟩
    exact ⟨rfl, _, rfl, y, q, rfl, ny, low_sz sq (by decide), fun r H1 e1 ir => ⟨_, rfl, r, q, p, rfl, ir, Num.is (ia.ext e1), sq, sp, fun p0 r2 H2 e2 n2 i2 => hn p0 r2 H2 (e1.trans e2) (e1.gone n2) i2, fun p0 => (hz p0).on e1⟩⟩
end
end KA

set_option Elab.async false
set_option linter.all false
set_option maxRecDepth 100000
set_option maxHeartbeats 1000000
set_option exponentiation.threshold 20000
/-! Texts of great numbers; str, repr of Amounts. -/
namespace Am
open PySem PySem.Spec PyProof.Rows L2 Oo
theorem lim10 : (2 : Nat) ^ 8000 < 10 ^ 4300 := by
  have h : ((2 : Nat) ^ 80) ^ 100 < (10 ^ 43) ^ 100 := Nat.pow_lt_pow_left (by decide) (by decide)
  rw [← Nat.pow_mul, ← Nat.pow_mul] at h
  exact h
theorem big_len {i : Int} (h : i.natAbs < 2 ^ 8000) : (Str.ofString (toString i)).length ≤ 8001 := by
  have l : i.natAbs.log2 < 8000 := by
    by_cases z : i.natAbs = 0
    · rw [z]; decide
    · exact (Nat.log2_lt z).mpr h
  have e := int_text_length_le (a := i) (k := 8000) (by decide) l
  rw [PySem.ofString_length]
  exact e
section
variable {X : Cx}
theorem nd_at {pins : List (Addr × Obj)} {σ : L2.St} {H : Hp} {s : Shared} (I : Inv X pins σ H s) (nb : X.base.NoDigits) : s.heap.NoDigits := nb.keeps I.bk
/-- str(n) -/
def rStrI : List V → Hp → VK → Prop := fun xs H Q => ∃ i : Int, xs = [.int i] ∧ i.natAbs < 2 ^ 8000 ∧ Q (.str (toString i)) H
theorem call_strI (nb : X.base.NoDigits) (hc : X.calm = true) : CallR X (.type "str") rStrI := by
  intro pins s σ H xs us Q I r h
  obtain ⟨i, rfl, hz, q⟩ := h
  obtain ⟨u, rfl, t, rfl⟩ := vals1 r
  exact str_of_int_or (I.ok.hd hc) (nd_at I nb) (fun _ => ⟨.str _, H, I.tok _, ⟨_, rfl⟩, q⟩) fun hge => absurd (Nat.lt_trans hz lim10) (Nat.not_lt.mpr hge)
/-- {n} in an f-string -/
def tFmtI (te : TE) : TE := fun σ H Q => te σ H fun x H1 => ∃ i : Int, x = .int i ∧ i.natAbs < 2 ^ 8000 ∧ Q (.str (toString i)) H1
theorem pe_fmtI (nb : X.base.NoDigits) (hc : X.calm = true) {e : Expr} {te : TE} {pos : Pos} (he : PE X e te) : PE X (.FormattedValue e (-1) none pos) (tFmtI te) := by
  refine ⟨fun pins s σ H Q I h => ?_⟩
  refine wpAny_FormattedValue_plain (thn (he.run pins s σ H _ I h) fun v s1 hv => ?_)
  obtain ⟨x, H1, I1, r1, i, rfl, hz, q⟩ := hv
  obtain ⟨t, rfl⟩ := r1
  exact formatField_int (I1.ok.hd hc) (nd_at I1 nb) (fun _ => ⟨.str (toString i), H1, I1.tok _, ⟨_, rfl⟩, q⟩) fun hge => absurd (Nat.lt_trans hz lim10) (Nat.not_lt.mpr hge)
end
/-! ### the texts -/
/-- 'Amount(t, b)' -/
def shown (q : Rat) : Str := Str.empty ++ "Amount(" ++ (toString q.num : String) ++ ", " ++ (toString (q.den : Int) : String) ++ ")"
def written (q : Rat) : Str := if (q.den : Int) = 1 then (toString q.num : String) else Str.empty ++ (toString q.num : String) ++ "/" ++ (toString (q.den : Int) : String)
end Am
namespace KA
open PySem PySem.Spec PyProof.Rows L2 Oo Gd Am
section
variable {P : Program} {w : World} {K : W.Frag} {mg : Str → Option Value} {base : Heap} {C f : Addr} {fd : FuncData}
def spText (C : Addr) (g : Rat → Str) : Sp := fun vs H Q _ => ∃ a q, vs = [.ref a] ∧ Is C H a q ∧ Low 8000 q ∧ Q (.str (g q)) H
theorem scStr : FnScope ["self"] ["self"] (defScope (am 26)) := ⟨rfl, rfl, rfl, by decide +kernel, rfl, by decide +kernel, by decide +kernel⟩
theorem scRepr : FnScope ["self"] ["self"] (defScope (am 27)) := ⟨rfl, rfl, rfl, by decide +kernel, rfl, by decide +kernel, by decide +kernel⟩
theorem low_den {n : Nat} {q : Rat} (h : Low n q) : ((q.den : Int)).natAbs < 2 ^ n := by
  rw [Int.natAbs_natCast]
  exact h.2
theorem line_ge : (20000 : Nat) ≤ sizeLine := by decide
theorem ok_str (nb : base.NoDigits) (fr : Frees mg) (T : Cl K C) (F : Fun K "__str__" "Amount.__str__" (am 26) f fd) : FnOk P w K mg base CX0 1 f fd ["self"] (spText C written) := by
  refine F.ok scStr (fun vs H Q E h => ?_) (fun cdv A outer s H vs Q E hr h => ?_)
  · obtain ⟨a, q, rfl, _⟩ := h
    rfl
  · obtain ⟨a, q, rfl, ia, lw, z⟩ := h
    refine ⟨_, pss_cons (ps_if (pt_cmpR op_eq (pe_bot T (pv 0)) pe_int (nomark _)) (pss_one (ps_ret (pe_callTy (call_strI nb rfl) rfl (fr.h _ (by decide +kernel)) (by decide +kernel) (pa_cons (pe_top T (pv 0)) pa_nil)))) pss_nil)
      (pss_one (ps_ret (pe_joined (.cons (pe_fmtI nb rfl (pe_top T (pv 0))) (.cons pe_str (.cons (pe_fmtI nb rfl (pe_bot T (pv 0))) .nil)))))), ?_⟩
    have l1 := big_len lw.1
    have l2 := big_len (low_den lw)
    refine ⟨_, rfl, a, q, rfl, ia, rfl, _, rfl, ite2 (fun h => ?_) (fun h => ?_)⟩
    · have e : (q.den : Int) = 1 := by simpa using h
      unfold written at z
      rw [if_pos e] at z
      exact ⟨_, rfl, a, q, rfl, ia, _, rfl, lw.1, z⟩
    · have e : ¬ (q.den : Int) = 1 := fun e => h (by simpa using e)
      unfold written at z
      rw [if_neg e] at z
      have k1 : (Str.ofString "/").length = 1 := by decide
      have k0 : (Str.empty).length = 0 := by decide
      refine ⟨_, rfl, a, q, rfl, ia, _, rfl, lw.1, _, rfl, ?_, _, rfl, ?_, _, rfl, a, q, rfl, ia, _, rfl, low_den lw, _, rfl, ?_, z⟩ <;> (simp only [strLen_append, k1, k0]; have := line_ge; omega)
theorem ok_repr (nb : base.NoDigits) (fr : Frees mg) (T : Cl K C) (F : Fun K "__repr__" "Amount.__repr__" (am 27) f fd) : FnOk P w K mg base CX0 1 f fd ["self"] (spText C shown) := by
  refine F.ok scRepr (fun vs H Q E h => ?_) (fun cdv A outer s H vs Q E hr h => ?_)
  · obtain ⟨a, q, rfl, _⟩ := h
    rfl
  · obtain ⟨a, q, rfl, ia, lw, z⟩ := h
    refine ⟨_, pss_one (ps_ret (pe_joined (.cons pe_str (.cons (pe_fmtI nb rfl (pe_top T (pv 0))) (.cons pe_str (.cons (pe_fmtI nb rfl (pe_bot T (pv 0))) (.cons pe_str .nil))))))), ?_⟩
    have l1 := big_len lw.1
    have l2 := big_len (low_den lw)
    have k1 : (Str.ofString "Amount(").length = 7 := by decide
    have k2 : (Str.ofString ", ").length = 2 := by decide
    have k3 : (Str.ofString ")").length = 1 := by decide
    have k0 : (Str.empty).length = 0 := by decide
    refine ⟨_, rfl, ?_, _, rfl, a, q, rfl, ia, _, rfl, lw.1, _, rfl, ?_, _, rfl, ?_, _, rfl, a, q, rfl, ia, _, rfl, low_den lw, _, rfl, ?_, _, rfl, ?_, z⟩ <;> (simp only [strLen_append, k1, k2, k3, k0]; have := line_ge; omega)
end
end KA

set_option Elab.async false
set_option linter.all false
set_option maxRecDepth 100000
set_option maxHeartbeats 1000000
set_option exponentiation.threshold 20000
/-! rounded. -/
namespace Am
open PySem PySem.Spec PyProof.Rows L2 Oo
theorem emp (x : Str) : Str.empty ++ x = x := by
  cases x with
  | mk a =>
    show Str.mk (#[] ++ a) = Str.mk a
    rw [Array.empty_append]
/-- filled up with zeros to m signs -/
def zf (x : Str) (m : Nat) : Str := ⟨Array.replicate (m - x.length) 48 ++ x.cps⟩
theorem zf_len (x : Str) (m : Nat) : (zf x m).length = (m - x.length) + x.length := by
  show (Array.replicate (m - x.length) 48 ++ x.cps).size = _
  rw [Array.size_append, Array.size_replicate]
  rfl
theorem zfill_nat (n m : Nat) : Txt.zfill (Str.ofString (toString (n : Int))) (m : Int) = zf (Str.ofString (toString (n : Int))) m := by
  have hs := PySem.W.KIN.signs_num n
  have hd : ∀ c ∈ (Str.ofString (toString (n : Int))).cps.toList, 48 ≤ c ∧ c ≤ 57 := by
    intro c hc
    rw [hs] at hc
    obtain ⟨ch, hch, e⟩ := List.mem_map.mp hc
    have r := digit_range (Nat.isDigit_of_mem_toDigits (by decide) (by decide) hch)
    rw [← e]
    exact r
  generalize Str.ofString (toString (n : Int)) = x at hd
  clear hs
  unfold Txt.zfill zf
  by_cases h : (m : Int) ≤ x.length
  · rw [if_pos h, show m - x.length = 0 by omega]
    cases x with
    | mk a =>
      show Str.mk a = Str.mk (Array.replicate 0 48 ++ a)
      simp
  · rw [if_neg h, Int.toNat_natCast]
    unfold zfilled
    split
    · rename_i e
      have := hd 43 (by rw [← Array.getElem?_toList] at e; exact List.mem_of_getElem? e)
      omega
    · rename_i e
      have := hd 45 (by rw [← Array.getElem?_toList] at e; exact List.mem_of_getElem? e)
      omega
    · show Str.mk (Array.replicate (m - x.length) 48 ++ x.cps ++ Array.replicate 0 48) = _
      simp
def steps (q : Rat) (k : Nat) : Int := (q.num * 10 ^ k) / (q.den : Int)
def mark (n : Int) : Str := if n < 0 then "-" else ""
def digs (n : Int) (k : Nat) : Str := zf (toString (if n < 0 then -n else n)) (k + 1)
def dec (q : Rat) (k : Nat) : Str :=
  if k = 0 then mark (steps q k) ++ digs (steps q k) k
  else mark (steps q k) ++ cutS (digs (steps q k) k) none (some (((digs (steps q k) k).length : Int) - k)) ++ "." ++ cutS (digs (steps q k) k) (some (((digs (steps q k) k).length : Int) - k)) none
theorem steps_bits {q : Rat} {k : Nat} (h : q.num.natAbs < 2 ^ 4000) (hk : k ≤ 12) : (steps q k).natAbs < 2 ^ 4042 := by
  have p : ((10 : Int) ^ k).natAbs < 2 ^ 40 := by
    rw [Int.natAbs_pow]
    exact Nat.lt_of_le_of_lt (Nat.pow_le_pow_right (by decide) hk) (by decide)
  have m := mul_bits h p
  have d1 := q.den_pos
  unfold steps
  generalize q.num * 10 ^ k = n at m ⊢
  generalize hd : (q.den : Int) = d
  have dp : 1 ≤ d := by omega
  have e : (n / d).natAbs ≤ n.natAbs + 1 := by
    have a1 := Int.ediv_mul_le n (show d ≠ 0 by omega)
    have a2 := Int.lt_ediv_add_one_mul_self n (show 0 < d by omega)
    rcases Int.lt_or_le n 0 with hn | hn
    · have u : n / d < 0 := Int.ediv_neg_of_neg_of_pos hn (by omega)
      have l : n ≤ n / d := by
        rcases Int.lt_or_le (n / d) n with z | z
        · exfalso
          have : (n / d + 1) * d ≤ (n / d + 1) * 1 := Int.mul_le_mul_of_nonpos_left (by omega) dp
          omega
        · exact z
      omega
    · have l : 0 ≤ n / d := Int.ediv_nonneg hn (by omega)
      have u : n / d ≤ n := Int.ediv_le_self d hn
      omega
  have b1 : (2 : Nat) ^ 4041 = 2 ^ 4040 + 2 ^ 4040 := Nat.two_pow_succ 4040
  have b2 : (2 : Nat) ^ 4042 = 2 ^ 4041 + 2 ^ 4041 := Nat.two_pow_succ 4041
  have b3 : (1 : Nat) ≤ 2 ^ 4040 := Nat.one_le_two_pow
  omega
theorem digs_eq (n : Int) (k : Nat) : Txt.zfill (Str.ofString (toString (if n < 0 then -n else n))) ((k : Int) + 1) = digs n k := by
  have e : (if n < 0 then -n else n) = ((n.natAbs : Nat) : Int) := by split <;> omega
  unfold digs
  rw [e]
  exact zfill_nat n.natAbs (k + 1)
theorem digs_len {n : Int} {k : Nat} (h : n.natAbs < 2 ^ 4042) (hk : k ≤ 12) : (digs n k).length ≤ 9000 ∧ k < (digs n k).length := by
  have e : (if n < 0 then -n else n).natAbs = n.natAbs := by split <;> omega
  have l := big_len (i := if n < 0 then -n else n) (by rw [e]; exact Nat.lt_trans h (by decide))
  unfold digs
  rw [zf_len]
  omega
theorem cut_len (x : Str) (lo hi : Option Int) : (cutS x lo hi).length ≤ x.length := by
  show ((x.cps.toList.drop _).take _).toArray.size ≤ _
  rw [List.size_toArray, List.length_take, List.length_drop]
  have : x.cps.toList.length = x.length := rfl
  omega
end Am
namespace KA
open PySem PySem.Spec PyProof.Rows L2 Oo Gd Am
section
variable {P : Program} {w : World} {K : W.Frag} {mg : Str → Option Value} {base : Heap} {C f : Addr} {fd : FuncData}
def spRound (C : Addr) : Sp := fun vs H Q _ => ∃ a q, ∃ k : Nat, vs = [.ref a, .int k] ∧ Is C H a q ∧ Low 4000 q ∧ k ≤ 12 ∧ Q (.str (dec q k)) H
abbrev nRnd : List Str := ["self", "places", "scale", "_", "steps", "sign", "digits", "point"]
theorem scRnd : FnScope nRnd ["self", "places"] (defScope (am 28)) := ⟨rfl, rfl, rfl, by decide +kernel, rfl, by decide +kernel, by decide +kernel⟩
theorem ok_round {t : Tok} (nb : base.NoDigits) (fr : Frees mg) (T : Cl K C) (DC : Dn P w K mg base CX0 2 "is_count" ["value"] spCount) (mgP : mg "MOST_PLACES" = some (.int 12 t)) (F : Fun K "rounded" "Amount.rounded" (am 28) f fd) :
    FnOk P w K mg base CX0 3 f fd ["self", "places"] (spRound C) := by
  refine F.ok scRnd (fun vs H Q E h => ?_) (fun cdv A' outer s H vs Q E hr h => ?_)
  · obtain ⟨a, q, k, rfl, _⟩ := h
    rfl
  · obtain ⟨a, q, k, rfl, ia, lw, k12, z⟩ := h
    have nd := scRnd.nd
    have isk : IsK K := ⟨trivial⟩
    refine ⟨_, pss_cons (ps_if (PW.pt (pw_or (pt_not (pt_val (pe_dn DC hr (by rfl) (by decide) (pa_cons (pv 1) pa_nil)))) (pw_or1 (pt_cmpR op_gt (pv 1) (pe_glob (v := V.int 12) rfl mgP ⟨t, rfl⟩) (nomark _))))) (pss_one ps_never) pss_nil)
      (pss_cons (ps_set (i := 2) nd rfl (.inl rfl) pe_int)
      (pss_cons (ps_for PassesOwn.never rfl (pi_range1 rfl (fr.h _ (by decide +kernel)) (pa_cons (pv 1) pa_nil)) (pg_name (i := 3) nd rfl (.inl rfl))
        (pss_one (ps_set (i := 2) nd rfl (.inl rfl) (pe_op op_mulW (pv 2) pe_int))))
      (pss_cons (ps_set (i := 4) nd rfl (.inl rfl) (pe_op op_fdivX (pe_op op_mulW (pe_top T (pv 0)) (pv 2)) (pe_bot T (pv 0))))
      (C8.pss_cut (ps_set (i := 5) nd rfl (.inl rfl) (pe_ifExp (pt_cmpR op_lt (pv 4) pe_int (nomark _)) pe_str pe_str))
      (pss_cons (ps_set (i := 6) nd rfl (.inl rfl) (pe_bm PySem.F.plainAttrs_str PySem.F.slot_str_zfill PySem.F.type_str_zfill mt_zfill
        (pe_callTy (call_strI nb rfl) rfl (fr.h _ (by decide +kernel)) (by decide +kernel) (pa_cons (pe_callB call_abs rfl (fr.h _ (by decide +kernel)) (by decide +kernel) (pa_cons (pv 4) pa_nil)) pa_nil)) (pa_cons (pe_op op_add (pv 1) pe_int) pa_nil)))
      (pss_cons (ps_if (pt_cmpR op_eq (pv 1) pe_int (nomark _)) (pss_one (ps_ret (pe_joined (.cons (pe_fmt (pv 5)) (.cons (pe_fmt (pv 6)) .nil))))) pss_nil)
      (pss_cons (ps_set (i := 7) nd rfl (.inl rfl) (pe_op op_sub (pe_callB (lenK isk) rfl (fr.h _ (by decide +kernel)) (by decide +kernel) (pa_cons (pv 6) pa_nil)) (pv 1)))
      (pss_one (ps_ret (pe_joined (.cons (pe_fmt (pv 5)) (.cons (pe_fmt (pe_slice sl_str (pv 6) po_none (po_some (pv 7)))) (.cons pe_str (.cons (pe_fmt (pe_slice sl_str (pv 6) (po_some (pv 7)) po_none)) .nil)))))))))))))), ?_⟩
    refine ⟨_, rfl, k, rfl, _, rfl, ?_⟩
    rw [decide_eq_true (show (0 : Int) ≤ k by omega)]
    refine iteF ⟨_, rfl, _, _, rfl, rfl, _, rfl, ite2 (fun h => absurd h (by simp; omega)) (fun _ => ?_)⟩
    refine ⟨_, rfl, k, rfl, (by omega), (by omega), ?_⟩
    refine for_range (lo := 0) (n := ((k : Int)).toNat) (fun j σ H' => H' = H ∧ σ[0]? = some (some (.ref a)) ∧ σ[1]? = some (some (.int k)) ∧ σ[2]? = some (some (.int (10 ^ j))) ∧ σ.length = 8) ?_ ?_ ?_
    · exact ⟨rfl, rfl, rfl, rfl, rfl⟩
    · rintro j σ H' hj ⟨rfl, s0, s1, s2, sl⟩
      have hj' : j < 12 := by omega
      have b10 : ((10 : Int) ^ j).natAbs < 2 ^ 40 := by
        rw [Int.natAbs_pow]
        exact Nat.lt_of_le_of_lt (Nat.pow_le_pow_right (by decide) (Nat.le_of_lt hj')) (by decide)
      refine ⟨_, by rw [List.getElem?_set_ne (by decide)]; exact s2, _, _, rfl, rfl, mulOk b10 (show ((10 : Int)).natAbs < 2 ^ 4 by decide) (by decide) (by decide), rfl, ?_, ?_, ?_, ?_⟩
      · rw [List.getElem?_set_ne (by decide), List.getElem?_set_ne (by decide)]; exact s0
      · rw [List.getElem?_set_ne (by decide), List.getElem?_set_ne (by decide)]; exact s1
      · rw [List.getElem?_set_self (by rw [List.length_set]; omega), Int.pow_succ]
      · rw [List.length_set, List.length_set]; exact sl
    · rintro σ H' ⟨rfl, s0, s1, s2, sl⟩
      rw [Int.toNat_natCast] at s2
      obtain ⟨x0, x1, x2, x3, x4, x5, x6, x7, rfl⟩ : ∃ x0 x1 x2 x3 x4 x5 x6 x7, σ = [x0, x1, x2, x3, x4, x5, x6, x7] := by
        match σ, sl with
        | [x0, x1, x2, x3, x4, x5, x6, x7], _ => exact ⟨x0, x1, x2, x3, x4, x5, x6, x7, rfl⟩
      injection s0 with s0
      injection s1 with s1
      injection s2 with s2
      subst s0 s1 s2
      have b10 : ((10 : Int) ^ k).natAbs < 2 ^ 40 := by
        rw [Int.natAbs_pow]
        exact Nat.lt_of_le_of_lt (Nat.pow_le_pow_right (by decide) k12) (by decide)
      refine ⟨_, rfl, a, q, rfl, ia, _, rfl, _, _, rfl, rfl, mulOk lw.1 b10 (by decide) (by decide), _, rfl, a, q, rfl, ia, _, _, rfl, rfl, ⟨den0 q, bits (low_den lw) (by decide)⟩, ?_⟩
      have fe : (q.num * 10 ^ k).fdiv (q.den : Int) = steps q k := Int.fdiv_eq_ediv_of_nonneg _ (by omega)
      have sb := steps_bits lw.1 k12
      obtain ⟨dl1, dl2⟩ := digs_len sb k12
      have de := digs_eq (steps q k) k
      have zz : Q (.str (dec q k)) H' := z
      unfold dec at zz
      have e1 : (Str.ofString "").length = 0 := by decide
      have e2 : (Str.ofString "-").length = 1 := by decide
      have e3 : (Str.ofString ".").length = 1 := by decide
      have e0 : (Str.empty).length = 0 := by decide
      have ml : (mark (steps q k)).length ≤ 1 := by
        unfold mark
        split
        · rw [e2]; exact Nat.le_refl _
        · rw [e1]; exact Nat.zero_le _
      have nb8 : (if steps q k < 0 then -steps q k else steps q k).natAbs < 2 ^ 8000 := by
        have : (if steps q k < 0 then -steps q k else steps q k).natAbs = (steps q k).natAbs := by split <;> omega
        rw [this]
        exact Nat.lt_trans sb (by decide)
      refine ⟨fun σ H2 => H2 = H' ∧ σ = [some (V.ref a), some (V.int k), some (V.int (10 ^ k)), x3, some (V.int (steps q k)), some (V.str (mark (steps q k))), x6, x7], ?_, ?_⟩
      · refine ⟨_, rfl, _, _, rfl, rfl, _, rfl, ite2 (fun h => ?_) (fun h => ?_)⟩
        · have h' : steps q k < 0 := by simpa [fe] using h
          refine ⟨rfl, ?_⟩
          unfold mark
          rw [if_pos h']
          show ((_ : L2.St).set 4 (some (V.int ((q.num * 10 ^ k).fdiv (q.den : Int))))).set 5 _ = _
          rw [fe]
          rfl
        · have h' : ¬ steps q k < 0 := by simpa [fe] using h
          refine ⟨rfl, ?_⟩
          unfold mark
          rw [if_neg h']
          show ((_ : L2.St).set 4 (some (V.int ((q.num * 10 ^ k).fdiv (q.den : Int))))).set 5 _ = _
          rw [fe]
          rfl
      · rintro σ H2 ⟨rfl, rfl⟩
        have pad : PadOk ((k : Int) + 1) = true := by
          have : ∀ j : Nat, j ≤ 12 → PadOk ((j : Int) + 1) = true := by decide +kernel
          exact this k k12
        refine ⟨_, rfl, _, rfl, _, rfl, nb8, rfl, _, rfl, _, _, rfl, rfl, _, _, rfl, rfl, pad, ?_⟩
        rw [de]
        generalize digs (steps q k) k = dg at zz dl1 dl2
        have big := line_ge
        refine ⟨_, rfl, rfl, _, rfl, ite2 (fun h => ?_) (fun h => ?_)⟩
        · have k0 : k = 0 := by simpa using h
          rw [if_pos k0] at zz
          rw [← emp (mark (steps q k))] at zz
          refine ⟨_, rfl, .inl ⟨_, rfl, (by omega), _, rfl, ?_, _, rfl, .inl ⟨_, rfl, (by omega), _, rfl, ?_, zz⟩⟩⟩ <;> (simp only [strLen_append, e0]; omega)
        · have k0 : ¬ k = 0 := by simpa using h
          rw [if_neg k0] at zz
          rw [← emp (mark (steps q k))] at zz
          have c1 := cut_len dg none (some ((dg.length : Int) - k))
          have c2 := cut_len dg (some ((dg.length : Int) - k)) none
          refine ⟨_, rfl, .inr ⟨_, rfl, (by omega), _, rfl, _, _, rfl, rfl, ?_⟩⟩
          refine ⟨_, rfl, .inl ⟨_, rfl, (by omega), _, rfl, ?_, _, rfl, _, rfl, _, rfl, _, rfl, (by omega), .inl ⟨_, rfl, (by omega), _, rfl, ?_, _, rfl, ?_, _, rfl, _, rfl, _, rfl, _, rfl, (by omega), .inl ⟨_, rfl, (by omega), _, rfl, ?_, zz⟩⟩⟩⟩ <;> (simp only [strLen_append, e0, e3]; omega)
end
end KA

set_option Elab.async false
set_option linter.all false
set_option maxRecDepth 100000
set_option maxHeartbeats 1000000
set_option exponentiation.threshold 20000
/-! The law's own small defs. -/
namespace KA
open PySem PySem.Spec PyProof.Rows L2 Oo Gd Am

/-! ### derivations by the text's shape -/
local macro_rules | `(tactic| walk_at "gd nd") => `(tactic| assumption)
local macro_rules | `(tactic| walk_at "gd lo") => `(tactic| first | exact Or.inl rfl | exact Or.inr rfl)
local macro_rules | `(tactic| walk_at "gd var") => `(tactic| first | exact pv 0 | exact pv 1 | exact pv 2 | exact pv 3 | exact pv 4 | exact pv 5 | exact pv 6 | exact pv 7 | exact pv 8 | exact pv 9 | exact pv 10 | exact pv 11 | exact pv 12 | exact pv 13 | exact pe_glob rfl (by assumption) rfl | exact pe_glob (v := V.ref (He.ga _ _)) rfl (Globs.h (by assumption) _ (by decide +kernel)) rfl | exact pe_bltn (v := V.ty _) rfl (Frees.h (by assumption) _ (by decide +kernel)) (by rfl) rfl | exact pe_bltn rfl (Frees.h (by assumption) _ (by decide +kernel)) (by decide +kernel) rfl)
local macro_rules | `(tactic| walk_at "gd a") => `(tactic| first | exact pa_nil | (refine' pa_cons ?k1 ?k2; (case k1 => walk_at "gd e"); (case k2 => walk_at "gd a")))
local macro_rules | `(tactic| walk_at "gd blt") => `(tactic| first
  | ((with_reducible show PE _ (Expr.Call (Expr.Name "abs" _) _ _ _) _); refine' pe_callB call_abs rfl (Frees.h (by assumption) _ (by decide +kernel)) (by decide +kernel) ?k1; (case k1 => walk_at "gd a"))
  | ((with_reducible show PE _ (Expr.Call (Expr.Name "max" _) _ _ _) _); refine' pe_callB (call_max2 rfl) rfl (Frees.h (by assumption) _ (by decide +kernel)) (by decide +kernel) ?k1; (case k1 => walk_at "gd a"))
  | ((with_reducible show PE _ (Expr.Call (Expr.Name "min" _) _ _ _) _); refine' pe_callB (call_min2 rfl) rfl (Frees.h (by assumption) _ (by decide +kernel)) (by decide +kernel) ?k1; (case k1 => walk_at "gd a"))
  | ((with_reducible show PE _ (Expr.Call (Expr.Name "len" _) _ _ _) _); refine' pe_callB (lenK (by assumption)) rfl (Frees.h (by assumption) _ (by decide +kernel)) (by decide +kernel) ?k1; (case k1 => walk_at "gd a"))
  | ((with_reducible show PE _ (Expr.Call (Expr.Name "divmod" _) _ _ _) _); refine' pe_callB call_divmodW rfl (Frees.h (by assumption) _ (by decide +kernel)) (by decide +kernel) ?k1; (case k1 => walk_at "gd a"))
  | ((with_reducible show PE _ (Expr.Call (Expr.Name "all" _) _ _ _) _); refine' pe_callB (allK (by assumption) rfl) rfl (Frees.h (by assumption) _ (by decide +kernel)) (by decide +kernel) ?k1; (case k1 => walk_at "gd a"))
  | ((with_reducible show PE _ (Expr.Call (Expr.Name "isinstance" _) _ _ _) _); refine' pe_callB (isXK (by assumption)) rfl (Frees.h (by assumption) _ (by decide +kernel)) (by decide +kernel) ?k1; (case k1 => walk_at "gd a"))
  | ((with_reducible show PE _ (Expr.Call (Expr.Name "repr" _) _ _ _) _); refine' pe_callB (call_repr (by assumption) (by assumption)) rfl (Frees.h (by assumption) _ (by decide +kernel)) (by decide +kernel) ?k1; (case k1 => walk_at "gd a"))
  | ((with_reducible show PE _ (Expr.Call (Expr.Name "int" _) _ _ _) _); refine' pe_callTy call_int1 rfl (Frees.h (by assumption) _ (by decide +kernel)) (by decide +kernel) ?k1; (case k1 => walk_at "gd a"))
  | ((with_reducible show PE _ (Expr.Call (Expr.Name "str" _) _ _ _) _); refine' pe_callTy (call_strI (by assumption) rfl) rfl (Frees.h (by assumption) _ (by decide +kernel)) (by decide +kernel) ?k1; (case k1 => walk_at "gd a"))
  | ((with_reducible show PE _ (Expr.Call (Expr.Name "bool" _) _ _ _) _); refine' pe_callTy call_bool1 rfl (Frees.h (by assumption) _ (by decide +kernel)) (by decide +kernel) ?k1; (case k1 => walk_at "gd a"))
  | ((with_reducible show PE _ (Expr.Call (Expr.Name "tuple" _) _ _ _) _); refine' pe_callTy (tupK (by assumption)) rfl (Frees.h (by assumption) _ (by decide +kernel)) (by decide +kernel) ?k1; (case k1 => walk_at "gd a")))
local macro_rules | `(tactic| walk_at "gd call") => `(tactic| first
  | walk_at "gd blt"
  | (refine' pe_dn (by assumption) (by assumption) rfl (by first | decide | omega) ?k1; (case k1 => walk_at "gd a"))
  | (refine' pe_dnG (by assumption) (by assumption) (by assumption) rfl (by first | decide | omega) ?k1; (case k1 => walk_at "gd a"))
  | walk_at "gd own")
local macro_rules | `(tactic| walk_at "gd own") => `(tactic| fail)
local macro_rules | `(tactic| walk_at "gd it") => `(tactic| fail)
local macro_rules | `(tactic| walk_at "gd i") => `(tactic| first
  | ((with_reducible show PI _ _ (Expr.Call (Expr.Name "range" _) [_] _ _) _); refine' pi_range1 rfl (Frees.h (by assumption) _ (by decide +kernel)) ?k1; (case k1 => walk_at "gd a"))
  | walk_at "gd it")
local macro_rules | `(tactic| walk_at "gd cv") => `(tactic| fail)
local macro_rules | `(tactic| walk_at "gd lc") => `(tactic| walk_at "gd cv")
local macro_rules | `(tactic| walk_at "gd e") => `(tactic| first
  | ((with_reducible show PE _ (Expr.Constant _ _ _) _); first | exact pe_int | exact pe_str | exact pe_bl | exact pe_non)
  | ((with_reducible show PE _ (Expr.Name _ _) _); walk_at "gd var")
  | ((with_reducible show PE _ (Expr.BinOp _ Operator.Add _ _) _); refine' pe_op op_addA ?k1 ?k2; (case k1 => walk_at "gd e"); (case k2 => walk_at "gd e"))
  | ((with_reducible show PE _ (Expr.BinOp _ Operator.Sub _ _) _); refine' pe_op op_sub ?k1 ?k2; (case k1 => walk_at "gd e"); (case k2 => walk_at "gd e"))
  | ((with_reducible show PE _ (Expr.BinOp _ Operator.Mult _ _) _); refine' pe_op op_mulA ?k1 ?k2; (case k1 => walk_at "gd e"); (case k2 => walk_at "gd e"))
  | ((with_reducible show PE _ (Expr.BinOp _ Operator.Mod _ _) _); refine' pe_op op_mod ?k1 ?k2; (case k1 => walk_at "gd e"); (case k2 => walk_at "gd e"))
  | ((with_reducible show PE _ (Expr.BinOp _ Operator.FloorDiv _ _) _); refine' pe_op op_fdivW ?k1 ?k2; (case k1 => walk_at "gd e"); (case k2 => walk_at "gd e"))
  | ((with_reducible show PE _ (Expr.BinOp _ Operator.Pow _ _) _); refine' pe_op op_pow ?k1 ?k2; (case k1 => walk_at "gd e"); (case k2 => walk_at "gd e"))
  | ((with_reducible show PE _ (Expr.UnaryOp UnaryOp.USub _ _) _); refine' pe_un un_neg ?k1; (case k1 => walk_at "gd e"))
  | ((with_reducible show PE _ (Expr.UnaryOp UnaryOp.Not _ _) _); refine' pe_not ?k1; (case k1 => walk_at "gd e"))
  | ((with_reducible show PE _ (Expr.Compare _ [CmpOp.Lt] _ _) _); refine' pe_cmpR op_lt ?k1 ?k2 (by rfl); (case k1 => walk_at "gd e"); (case k2 => walk_at "gd e"))
  | ((with_reducible show PE _ (Expr.Compare _ [CmpOp.LtE] _ _) _); refine' pe_cmpR op_le ?k1 ?k2 (by rfl); (case k1 => walk_at "gd e"); (case k2 => walk_at "gd e"))
  | ((with_reducible show PE _ (Expr.Compare _ [CmpOp.Gt] _ _) _); refine' pe_cmpR op_gt ?k1 ?k2 (by rfl); (case k1 => walk_at "gd e"); (case k2 => walk_at "gd e"))
  | ((with_reducible show PE _ (Expr.Compare _ [CmpOp.GtE] _ _) _); refine' pe_cmpR op_ge ?k1 ?k2 (by rfl); (case k1 => walk_at "gd e"); (case k2 => walk_at "gd e"))
  | ((with_reducible show PE _ (Expr.Compare _ [CmpOp.Eq] _ _) _); refine' pe_cmpR (eqK (by assumption) (by assumption)) ?k1 ?k2 (by rfl); (case k1 => walk_at "gd e"); (case k2 => walk_at "gd e"))
  | ((with_reducible show PE _ (Expr.Compare _ [CmpOp.NotEq] _ _) _); refine' pe_cmpR (neK (by assumption) (by assumption)) ?k1 ?k2 (by rfl); (case k1 => walk_at "gd e"); (case k2 => walk_at "gd e"))
  | ((with_reducible show PE _ (Expr.Compare _ [CmpOp.In] _ _) _); refine' pe_cmpR (inK (by assumption)) ?k1 ?k2 (by rfl); (case k1 => walk_at "gd e"); (case k2 => walk_at "gd e"))
  | ((with_reducible show PE _ (Expr.Compare _ [CmpOp.NotIn] _ _) _); refine' pe_cmpR (niK (by assumption)) ?k1 ?k2 (by rfl); (case k1 => walk_at "gd e"); (case k2 => walk_at "gd e"))
  | ((with_reducible show PE _ (Expr.IfExp _ _ _ _) _); refine' pe_ifExp ?k1 ?k2 ?k3; (case k1 => walk_at "gd t"); (case k2 => walk_at "gd e"); (case k3 => walk_at "gd e"))
  | ((with_reducible show PE _ (Expr.Subscript _ (Expr.Slice none (some _) none _) _) _); refine' pe_slice sl_str ?k1 po_none (po_some ?k2); (case k1 => walk_at "gd e"); (case k2 => walk_at "gd e"))
  | ((with_reducible show PE _ (Expr.Subscript _ _ _) _); refine' pe_ix (ixK (by assumption)) ?k1 ?k2 (fun _ _ => rfl); (case k1 => walk_at "gd e"); (case k2 => walk_at "gd e"))
  | ((with_reducible show PE _ (Expr.List _ _) _); refine' pe_lst ?k1; (case k1 => walk_at "gd a"))
  | ((with_reducible show PE _ (Expr.Tuple _ _ _) _); refine' pe_tup ?k1; (case k1 => walk_at "gd a"))
  | ((with_reducible show PE _ (Expr.Dict [] [] _) _); exact pe_dnewK)
  | ((with_reducible show PE _ (Expr.Dict [_] [_] _) _); refine' pe_disp (pps_cons ?k1 ?k2 pps_nil) rfl rfl (fun z => by cases z) (by decide); (case k1 => walk_at "gd e"); (case k2 => walk_at "gd e"))
  | ((with_reducible show PE _ (Expr.Call (Expr.Attribute _ "join" _) _ _ _) _); refine' joinK (by assumption) ?k1 ?k2; (case k1 => walk_at "gd e"); (case k2 => walk_at "gd e"))
  | ((with_reducible show PE _ (Expr.Call (Expr.Attribute _ "append" _) _ _ _) _); refine' pe_bm PySem.F.plainAttrs_list PySem.F.slot_list_append PySem.F.type_list_append mt_append ?k1 ?k2; (case k1 => walk_at "gd e"); (case k2 => walk_at "gd a"))
  | ((with_reducible show PE _ (Expr.Attribute _ _ _) _); refine' efK (by assumption) ?k1; (case k1 => walk_at "gd e"))
  | ((with_reducible show PE _ (Expr.ListComp _ _ _ _) _); walk_at "gd lc")
  | walk_at "gd call")
local macro_rules | `(tactic| walk_at "gd t") => `(tactic| first
  | ((with_reducible show PT _ (Expr.UnaryOp UnaryOp.Not _ _) _); refine' pt_not ?k1; (case k1 => walk_at "gd t"))
  | ((with_reducible show PT _ (Expr.BoolOp BoolOp.And [_, _] _) _); refine' PW.pt (pw_and ?k1 (pw_and1 ?k2)); (case k1 => walk_at "gd t"); (case k2 => walk_at "gd t"))
  | ((with_reducible show PT _ (Expr.BoolOp BoolOp.Or [_, _] _) _); refine' PW.pt (pw_or ?k1 (pw_or1 ?k2)); (case k1 => walk_at "gd t"); (case k2 => walk_at "gd t"))
  | ((with_reducible show PT _ (Expr.Compare _ [CmpOp.Lt] _ _) _); refine' pt_cmpR op_lt ?k1 ?k2 (by rfl); (case k1 => walk_at "gd e"); (case k2 => walk_at "gd e"))
  | ((with_reducible show PT _ (Expr.Compare _ [CmpOp.LtE] _ _) _); refine' pt_cmpR op_le ?k1 ?k2 (by rfl); (case k1 => walk_at "gd e"); (case k2 => walk_at "gd e"))
  | ((with_reducible show PT _ (Expr.Compare _ [CmpOp.Gt] _ _) _); refine' pt_cmpR op_gt ?k1 ?k2 (by rfl); (case k1 => walk_at "gd e"); (case k2 => walk_at "gd e"))
  | ((with_reducible show PT _ (Expr.Compare _ [CmpOp.GtE] _ _) _); refine' pt_cmpR op_ge ?k1 ?k2 (by rfl); (case k1 => walk_at "gd e"); (case k2 => walk_at "gd e"))
  | ((with_reducible show PT _ (Expr.Compare _ [CmpOp.Eq] _ _) _); refine' pt_cmpR (eqK (by assumption) (by assumption)) ?k1 ?k2 (by rfl); (case k1 => walk_at "gd e"); (case k2 => walk_at "gd e"))
  | ((with_reducible show PT _ (Expr.Compare _ [CmpOp.NotEq] _ _) _); refine' pt_cmpR (neK (by assumption) (by assumption)) ?k1 ?k2 (by rfl); (case k1 => walk_at "gd e"); (case k2 => walk_at "gd e"))
  | ((with_reducible show PT _ (Expr.Compare _ [CmpOp.In] _ _) _); refine' pt_cmpR (inK (by assumption)) ?k1 ?k2 (by rfl); (case k1 => walk_at "gd e"); (case k2 => walk_at "gd e"))
  | ((with_reducible show PT _ (Expr.Compare _ [CmpOp.NotIn] _ _) _); refine' pt_cmpR (niK (by assumption)) ?k1 ?k2 (by rfl); (case k1 => walk_at "gd e"); (case k2 => walk_at "gd e"))
  | (refine' pt_val ?k1; (case k1 => walk_at "gd e")))
local macro_rules | `(tactic| walk_at "gd g") => `(tactic| first
  | ((with_reducible show PG _ (Expr.Name _ _) _); first | exact pg_name (i := 0) (by walk_at "gd nd") rfl (by walk_at "gd lo") | exact pg_name (i := 1) (by walk_at "gd nd") rfl (by walk_at "gd lo") | exact pg_name (i := 2) (by walk_at "gd nd") rfl (by walk_at "gd lo") | exact pg_name (i := 3) (by walk_at "gd nd") rfl (by walk_at "gd lo") | exact pg_name (i := 4) (by walk_at "gd nd") rfl (by walk_at "gd lo") | exact pg_name (i := 5) (by walk_at "gd nd") rfl (by walk_at "gd lo") | exact pg_name (i := 6) (by walk_at "gd nd") rfl (by walk_at "gd lo") | exact pg_name (i := 7) (by walk_at "gd nd") rfl (by walk_at "gd lo") | exact pg_name (i := 8) (by walk_at "gd nd") rfl (by walk_at "gd lo") | exact pg_name (i := 9) (by walk_at "gd nd") rfl (by walk_at "gd lo") | exact pg_name (i := 10) (by walk_at "gd nd") rfl (by walk_at "gd lo") | exact pg_name (i := 11) (by walk_at "gd nd") rfl (by walk_at "gd lo") | exact pg_name (i := 12) (by walk_at "gd nd") rfl (by walk_at "gd lo") | exact pg_name (i := 13) (by walk_at "gd nd") rfl (by walk_at "gd lo"))
  | ((with_reducible show PG _ (Expr.Subscript _ _ _) _); refine' pg_sub ?k1 ?k2 set_list; (case k1 => walk_at "gd e"); (case k2 => walk_at "gd e"))
  | ((with_reducible show PG _ (Expr.Tuple _ _ _) _); refine' pg_tup rfl ?k1; (case k1 => walk_at "gd gs")))
local macro_rules | `(tactic| walk_at "gd gs") => `(tactic| first | exact pgs_nil | (refine' pgs_cons ?k1 ?k2; (case k1 => walk_at "gd g"); (case k2 => walk_at "gd gs")))
local macro_rules | `(tactic| walk_at "gd set") => `(tactic| first | (refine' ps_set (i := 0) (by walk_at "gd nd") rfl (by walk_at "gd lo") ?k1; (case k1 => walk_at "gd e")) | (refine' ps_set (i := 1) (by walk_at "gd nd") rfl (by walk_at "gd lo") ?k1; (case k1 => walk_at "gd e")) | (refine' ps_set (i := 2) (by walk_at "gd nd") rfl (by walk_at "gd lo") ?k1; (case k1 => walk_at "gd e")) | (refine' ps_set (i := 3) (by walk_at "gd nd") rfl (by walk_at "gd lo") ?k1; (case k1 => walk_at "gd e")) | (refine' ps_set (i := 4) (by walk_at "gd nd") rfl (by walk_at "gd lo") ?k1; (case k1 => walk_at "gd e")) | (refine' ps_set (i := 5) (by walk_at "gd nd") rfl (by walk_at "gd lo") ?k1; (case k1 => walk_at "gd e")) | (refine' ps_set (i := 6) (by walk_at "gd nd") rfl (by walk_at "gd lo") ?k1; (case k1 => walk_at "gd e")) | (refine' ps_set (i := 7) (by walk_at "gd nd") rfl (by walk_at "gd lo") ?k1; (case k1 => walk_at "gd e")) | (refine' ps_set (i := 8) (by walk_at "gd nd") rfl (by walk_at "gd lo") ?k1; (case k1 => walk_at "gd e")) | (refine' ps_set (i := 9) (by walk_at "gd nd") rfl (by walk_at "gd lo") ?k1; (case k1 => walk_at "gd e")) | (refine' ps_set (i := 10) (by walk_at "gd nd") rfl (by walk_at "gd lo") ?k1; (case k1 => walk_at "gd e")) | (refine' ps_set (i := 11) (by walk_at "gd nd") rfl (by walk_at "gd lo") ?k1; (case k1 => walk_at "gd e")) | (refine' ps_set (i := 12) (by walk_at "gd nd") rfl (by walk_at "gd lo") ?k1; (case k1 => walk_at "gd e")) | (refine' ps_set (i := 13) (by walk_at "gd nd") rfl (by walk_at "gd lo") ?k1; (case k1 => walk_at "gd e")))
local macro_rules | `(tactic| walk_at "gd os") => `(tactic| fail)
local macro_rules | `(tactic| walk_at "gd slc") => `(tactic| fail)
local macro_rules | `(tactic| walk_at "gd par") => `(tactic| fail)
local macro_rules | `(tactic| walk_at "gd s") => `(tactic| first
  | ((with_reducible show PS _ (Stmt.Return (some _) _) _); refine' ps_ret ?k1; (case k1 => walk_at "gd e"))
  | ((with_reducible show PS _ (Stmt.If _ _ _ _) _); refine' ps_if ?k1 ?k2 ?k3; (case k1 => walk_at "gd t"); (case k2 => walk_at "gd ss"); (case k3 => walk_at "gd ss"))
  | ((with_reducible show PS _ (Stmt.Assign [Expr.Name _ _] (Expr.ListComp _ _ _ _) _) _); walk_at "gd slc")
  | ((with_reducible show PS _ (Stmt.Assign [Expr.Name _ _] _ _) _); walk_at "gd set")
  | ((with_reducible show PS _ (Stmt.Assign [_] _ _) _); refine' ps_asg ?k1 ?k2; (case k1 => walk_at "gd e"); (case k2 => walk_at "gd g"))
  | ((with_reducible show PS _ (Stmt.Assign [_] _ _) _); walk_at "gd par")
  | ((with_reducible show PS _ (Stmt.For _ _ _ _ _) _); refine' ps_for PassesOwn.never rfl ?k1 ?k2 ?k3; (case k1 => walk_at "gd i"); (case k2 => walk_at "gd g"); (case k3 => walk_at "gd ss"))
  | ((with_reducible show PS _ (Stmt.Expr _ _) _); refine' ps_expr ?k1; (case k1 => walk_at "gd e"))
  | walk_at "gd os")
local macro_rules | `(tactic| walk_at "gd ss") => `(tactic| first | exact pss_nil | (refine' pss_one ?k1; (case k1 => walk_at "gd s")) | (refine' pss_cons ?k1 ?k2; (case k1 => walk_at "gd s"); (case k2 => walk_at "gd ss")))
abbrev sPot : Stmt := top 19
abbrev sDraw : Stmt := top 20
abbrev sPick : Stmt := top 21
theorem scPot : FnScope ["_law_script", "_law_k", "_law_cell"] ["_law_script", "_law_k"] (defScope sPot) := ⟨rfl, rfl, rfl, by decide +kernel, rfl, by decide +kernel, by decide +kernel⟩
theorem scDraw : FnScope ["_law_pot_here", "_law_sides", "_law_digit"] ["_law_pot_here", "_law_sides"] (defScope sDraw) := ⟨rfl, rfl, rfl, by decide +kernel, rfl, by decide +kernel, by decide +kernel⟩
theorem scPick : FnScope ["_law_pot_here", "_law_some"] ["_law_pot_here", "_law_some"] (defScope sPick) := ⟨rfl, rfl, rfl, by decide +kernel, rfl, by decide +kernel, by decide +kernel⟩
/-- draw(pot, sides), of more sides -/
def spDraw11 : Sp := fun vs H Q _ => ∃ (p : Addr) (n : Int), vs = [.ref p, .int n] ∧ Pot H p ∧ 0 < n ∧ n ≤ 10000000000000 ∧ ∀ (d : Int) (H' : Hp), 0 ≤ d → d < n → Kp p H H' → Q (.int d) H'
section
variable {P : Program} {w : World} {K : W.Frag} {mg : Str → Option Value} {base : Heap} {f : Addr} {fd : FuncData}
theorem ok_draw (fr : Frees mg) (F : Fun K "_law_draw" "_law_draw" sDraw f fd) : FnOk P w K mg base CX0 1 f fd ["_law_pot_here", "_law_sides"] spDraw11 := by
  refine F.ok scDraw (fun vs H Q E h => ?_) (fun cdv A outer s H vs Q E hr h => ⟨?t, ?d, ?r⟩)
  · obtain ⟨p, n, rfl, _⟩ := h
    rfl
  case d =>
    have nd := scDraw.nd
    have isk : IsK K := ⟨trivial⟩
    walk_at "gd ss"
  case r =>
    obtain ⟨p, n, rfl, ⟨a, b, hp, ha, hb0, hb1⟩, hn0, hn1, k⟩ := h
    refine ⟨_, rfl, ix0 hp ⟨a, 0, rfl, rfl, _, rfl, ite2 (fun c => ?_) (fun c => ?_)⟩⟩
    · refine ⟨_, rfl, ix0 hp ⟨_, rfl, a, n, rfl, ⟨hn0, PyProof.noPylong_of_log2 (bits (n := 80) (by omega) (by decide))⟩, fun t ht => ?_⟩⟩
      have tp : t ≠ p := ne_of_none' hp ht
      refine ⟨t, _, rfl, SqT.of upd_same, rfl, _, _, rfl, _, rfl, p, _, 0, 0, rfl, rfl, (upd_ne (Ne.symm tp)).trans hp, rfl, _, _, rfl, rfl, _, rfl, ?_⟩
      refine k (a % n) _ (Int.emod_nonneg _ (by omega)) (Int.emod_lt_of_pos _ hn0) ⟨fun c o nc hc => ?_, a / n, b, upd_same, Int.ediv_nonneg ha (by omega), hb0, hb1⟩
      rw [upd_ne nc, upd_ne (ne_of_none hc ht)]
      exact hc
    · refine ⟨_, rfl, ix1 hp (.inl ⟨b, 40009, rfl, rfl, mulW (by omega) (by decide), .inl ⟨_, 15013, rfl, rfl, .inl ⟨_, rfl, _, 2147483587, rfl, rfl, (by show (0 : Int) < _; decide), ?_⟩⟩⟩)⟩
      refine ⟨_, rfl, p, _, 1, 1, rfl, rfl, hp, rfl, ?_⟩
      have m0 : 0 ≤ (b * 40009 + 15013) % 2147483587 := Int.emod_nonneg _ (by decide)
      have m1 : (b * 40009 + 15013) % 2147483587 < 2147483587 := Int.emod_lt_of_pos _ (by decide)
      refine ⟨_, rfl, ix1 upd_same ⟨_, rfl, ix1 upd_same (.inl ⟨_, _, rfl, rfl, mulW (by omega) (by omega), .inl ⟨_, rfl, _, 2147483549, rfl, rfl, (by show (0 : Int) < _; decide), _, 13, rfl, rfl, divW (by decide) (by decide), .inl ⟨_, rfl, _, rfl, _, n, rfl, rfl, hn0, ?_⟩⟩⟩)⟩⟩
      exact k _ _ (Int.emod_nonneg _ (by omega)) (Int.emod_lt_of_pos _ hn0) (Kp.put ha m0 (by omega))
theorem ok_pick (fr : Frees mg) (D1 : Dn P w K mg base CX0 1 "_law_draw" ["_law_pot_here", "_law_sides"] spDraw11) (F : Fun K "_law_pick" "_law_pick" sPick f fd) : FnOk P w K mg base CX0 2 f fd ["_law_pot_here", "_law_some"] (spPick K) := by
  refine F.ok scPick (fun vs H Q E h => ?_) (fun cdv A outer s H vs Q E hr h => ⟨?t, ?d, ?r⟩)
  · obtain ⟨p, l, xs, rfl, _⟩ := h
    rfl
  case d =>
    have nd := scPick.nd
    have isk : IsK K := ⟨trivial⟩
    walk_at "gd ss"
  case r =>
    obtain ⟨p, l, xs, rfl, hp, ne, hl, h0, h1, k⟩ := h
    have pos : 0 < xs.length := List.length_pos_iff.mpr h0
    refine ⟨_, rfl, _, rfl, _, rfl, .inl ⟨l, xs, rfl, .inl hl, p, xs.length, rfl, hp, by omega, by omega, fun d H' d0 d1 kp => ?_⟩⟩
    have hd : d.toNat < xs.length := by omega
    refine .inl ⟨l, xs, d, xs[d.toNat], rfl, rfl, kp.seq ne hl, ?_, k _ _ (List.getElem_mem _) kp⟩
    exact atI_int d0 (List.getElem?_eq_getElem hd)
theorem cube {z : Int} (h0 : 0 ≤ z) (h1 : z ≤ 300) : (z ^ 3).natAbs < 2 ^ 80 := by
  rw [Int.natAbs_pow]
  exact Nat.lt_of_le_of_lt (Nat.pow_le_pow_left (show z.natAbs ≤ 300 by omega) 3) (by decide)
theorem ok_pot (fr : Frees mg) (F : Fun K "_law_pot" "_law_pot" sPot f fd) : FnOk P w K mg base CX0 1 f fd ["_law_script", "_law_k"] (spPot K) := by
  refine F.ok scPot (fun vs H Q E h => ?_) (fun cdv A outer s H vs Q E hr h => ⟨?t, ?d, ?r⟩)
  · obtain ⟨a, ns, k, rfl, _⟩ := h
    rfl
  case d =>
    have nd := scPot.nd
    have isk : IsK K := ⟨trivial⟩
    walk_at "gd ss"
  case r =>
    obtain ⟨a, ns, k, rfl, hs, k0, k1, q⟩ := h
    have tail : ∀ (c : Int) (p : Addr), H p = none → Q (.ref p) (upd H p (.lst [.int (if c - 10 ^ (18 : Int).toNat > 0 then c - 10 ^ (18 : Int).toNat else 0), .int ((c % 2147483549 + 3) * (2 * k + 5) ^ (3 : Int).toNat % 2147483477 + 1)])) := by
      intro c p hp
      have m0 := Int.emod_nonneg ((c % 2147483549 + 3) * (2 * k + 5) ^ (3 : Int).toNat) (b := 2147483477) (by decide)
      have m1 := Int.emod_lt_of_pos ((c % 2147483549 + 3) * (2 * k + 5) ^ (3 : Int).toNat) (b := 2147483477) (by decide)
      refine q p _ hp (fun b o e => by rw [upd_ne (ne_of_none e hp)]; exact e) ⟨_, _, upd_same, ?_, by omega, by omega⟩
      split <;> omega
    have rest : ∀ c : Int, CMulW (c % 2147483549 + 3) ((2 * k + 5) ^ (3 : Int).toNat) := fun c => by
      have m0 := Int.emod_nonneg c (b := 2147483549) (by decide)
      have m1 := Int.emod_lt_of_pos c (b := 2147483549) (by decide)
      exact mulW (by omega) (cube (by omega) (by omega))
    refine ⟨_, rfl, .inl ⟨13, k, rfl, rfl, mulW (by decide) (by omega), .inl ⟨_, 7, rfl, rfl, _, rfl, _, rfl, .inl ⟨a, _, rfl, .inl hs, k, _, rfl, rfl, _, rfl, ite2 (fun c => ?_) (fun c => ?_)⟩⟩⟩⟩
    · have hk : k.toNat < ns.length := by
        have c' := of_decide_eq_true c
        rw [List.length_map] at c'
        omega
      refine ⟨_, rfl, _, rfl, .inl ⟨a, _, k, .int (ns[k.toNat]), rfl, rfl, hs, ?_, _, rfl, ?_⟩⟩
      · exact atI_int k0 (by rw [List.getElem?_map, List.getElem?_eq_getElem hk]; rfl)
      · refine ⟨_, rfl, 10, 18, rfl, rfl, ⟨by decide, by decide, by decide⟩, _, _, rfl, rfl, 0, _, rfl, _, rfl, .inl ⟨_, rfl, _, 2147483549, rfl, rfl, (by show (0 : Int) < _; decide), .inl ⟨_, 3, rfl, rfl, .inl ⟨_, rfl, _, rfl, .inl ⟨2, k, rfl, rfl, mulW (by decide) (by omega), .inl ⟨_, 5, rfl, rfl, _, 3, rfl, rfl, ⟨by decide, by decide, by omega⟩, .inl ⟨_, _, rfl, rfl, rest _, _, 2147483477, rfl, rfl, (by show (0 : Int) < _; decide), .inl ⟨_, 1, rfl, rfl, (by show 2 ≤ sizeLine; decide), fun p hp => tail _ p hp⟩⟩⟩⟩⟩⟩⟩⟩
    · refine ⟨_, rfl, 10, 18, rfl, rfl, ⟨by decide, by decide, by decide⟩, _, _, rfl, rfl, 0, _, rfl, _, rfl, .inl ⟨_, rfl, _, 2147483549, rfl, rfl, (by show (0 : Int) < _; decide), .inl ⟨_, 3, rfl, rfl, .inl ⟨_, rfl, _, rfl, .inl ⟨2, k, rfl, rfl, mulW (by decide) (by omega), .inl ⟨_, 5, rfl, rfl, _, 3, rfl, rfl, ⟨by decide, by decide, by omega⟩, .inl ⟨_, _, rfl, rfl, rest _, _, 2147483477, rfl, rfl, (by show (0 : Int) < _; decide), .inl ⟨_, 1, rfl, rfl, (by show 2 ≤ sizeLine; decide), fun p hp => tail _ p hp⟩⟩⟩⟩⟩⟩⟩⟩
/-! ### lowest -/
theorem low_num' {n d : Int} (h : 0 < d) : n / ((n.natAbs.gcd d.natAbs : Nat) : Int) = (Rat.divInt n d).num := by
  have e := low_num n d (by omega)
  rw [if_neg (by omega)] at e
  rw [← e, Int.fdiv_eq_ediv_of_nonneg _ (by omega)]
theorem low_den' {n d : Int} (h : 0 < d) : d / ((n.natAbs.gcd d.natAbs : Nat) : Int) = ((Rat.divInt n d).den : Int) := by
  have e := Am.low_den n d (by omega)
  rw [if_neg (by omega)] at e
  rw [← e, Int.fdiv_eq_ediv_of_nonneg _ (by omega)]
/-- at t the pair of q -/
def Pt (K : W.Frag) (H : Hp) (t : Addr) (q : Rat) : Prop := SqT K H t [.int q.num, .int q.den]
/-- a new pair -/
def NewP (H : Hp) (Q : VK) (q : Rat) : Prop := ∀ (t : Addr) (H' : Hp), Am.Ext H H' → H t = none → H' t = some (.tup [.int q.num, .int q.den]) → Q (.ref t) H'
theorem NewP.here {H : Hp} {Q : VK} {q : Rat} (h : NewP H Q q) {n d : Int} (hn : n = q.num) (hd : d = q.den) : ∀ t, H t = none → Q (.ref t) (upd H t (.tup [.int n, .int d])) := by
  intro t ht
  subst hn hd
  exact h t _ (Am.Ext.new ht) ht upd_same
def spLow : Sp := fun vs H Q _ => ∃ n d : Int, vs = [.int n, .int d] ∧ 0 < d ∧ n.natAbs < 2 ^ 8000 ∧ d.natAbs < 2 ^ 8000 ∧ NewP H Q (Rat.divInt n d)
abbrev nLow : List Str := ["_law_high", "_law_low", "_law_big", "_law_small"]
theorem scLow : FnScope nLow ["_law_high", "_law_low"] (defScope (top 22)) := ⟨rfl, rfl, rfl, by decide +kernel, rfl, by decide +kernel, by decide +kernel⟩
def msr (σ : L2.St) : Nat := match σ[3]? with
  | some (some (V.int s)) => s.toNat
  | _ => 0
theorem ok_low (fr : Frees mg) (F : Fun K "_law_lowest" "_law_lowest" (top 22) f fd) : FnOk P w K mg base CX0 1 f fd ["_law_high", "_law_low"] spLow := by
  refine F.ok scLow (fun vs H Q E h => ?_) (fun cdv A outer s H vs Q E hr h => ?_)
  · obtain ⟨n, d, rfl, _⟩ := h
    rfl
  · obtain ⟨n, d, rfl, d0, hn, hd, q⟩ := h
    have nd := scLow.nd
    refine ⟨_, pss_cons (ps_par (i := 2) (j := 3) rfl nd rfl rfl (by decide) rfl rfl (pa_cons (pe_callB call_abs rfl (fr.h _ (by decide +kernel)) (by decide +kernel) (pa_cons (pv 0) pa_nil)) (pa_cons (pv 1) pa_nil)) (by rfl))
      (pss_cons (ps_while PassesOwn.never (pt_cmpR op_gt (pv 3) pe_int (nomark _)) (pss_one (ps_par (i := 2) (j := 3) rfl nd rfl rfl (by decide) rfl rfl (pa_cons (pv 3) (pa_cons (pe_op op_mod (pv 2) (pv 3)) pa_nil)) (by rfl))))
      (pss_one (ps_ret (pe_tup (pa_cons (pe_op op_fdivW (pv 0) (pv 2)) (pa_cons (pe_op op_fdivW (pv 1) (pv 2)) pa_nil)))))), ?_⟩
    refine ⟨_, rfl, n, rfl, _, rfl, _, _, rfl, ?_⟩
    refine while_by (fun σ H' => H' = H ∧ ∃ B S : Nat, σ = [some (.int n), some (.int d), some (.int B), some (.int S)] ∧ B.gcd S = n.natAbs.gcd d.natAbs) (fun σ _ => msr σ) ?_ ?_ ?_
    · refine ⟨rfl, n.natAbs, d.natAbs, ?_, rfl⟩
      have e1 : (if n < 0 then -n else n) = ((n.natAbs : Nat) : Int) := by split <;> omega
      have e2 : d = ((d.natAbs : Nat) : Int) := by omega
      show [some (V.int n), some (V.int d), some (V.int (if n < 0 then -n else n)), some (V.int d)] = _
      rw [e1, ← e2]
    · rintro σ H' ⟨rfl, B, S, rfl, hg⟩
      refine ⟨_, rfl, _, _, rfl, rfl, _, rfl, ite2 (fun h => ?_) (fun h => ?_)⟩
      · have s0 : (0 : Int) < S := by simpa using h
        refine ⟨_, rfl, _, rfl, _, rfl, _, _, rfl, rfl, s0, _, _, rfl, ⟨rfl, S, B % S, ?_, ?_⟩, ?_⟩
        · show [some (V.int n), some (V.int d), some (V.int S), some (V.int ((B : Int) % (S : Int)))] = _
          rw [Int.natCast_emod]
        · rw [← hg, Nat.gcd_comm S, ← Nat.gcd_rec, Nat.gcd_comm]
        · show ((B : Int) % (S : Int)).toNat < (S : Int).toNat
          have := Int.emod_lt_of_pos (B : Int) s0
          have := Int.emod_nonneg (B : Int) (show (S : Int) ≠ 0 by omega)
          omega
      · have s0 : S = 0 := by
          have : ¬ (0 : Int) < S := by simpa using h
          omega
        subst s0
        have hB : B = n.natAbs.gcd d.natAbs := by rw [← hg, Nat.gcd_zero_right]
        have B1 : 0 < B := by
          rw [hB]
          exact Nat.gcd_pos_of_pos_right _ (by omega)
        have B2 : B ≤ d.natAbs := by
          rw [hB]
          exact Nat.gcd_le_right _ (by omega)
        have cw : ∀ x : Int, CDivW x (B : Int) := fun x => ⟨by omega, bits (n := 8000) (by rw [Int.natAbs_natCast]; omega) (by decide)⟩
        refine ⟨_, rfl, _, rfl, _, _, rfl, rfl, cw _, _, rfl, _, rfl, _, _, rfl, rfl, cw _, (by show 2 ≤ sizeLine; decide), ?_⟩
        exact q.here (by rw [hB]; exact low_num' d0) (by rw [hB]; exact low_den' d0)
    · rintro σ H Q Q' h ⟨v, e, i, j, e1, e2, b, e3, z⟩
      exact ⟨v, e, i, j, e1, e2, b, e3, h _ _ z⟩
end
end KA

set_option Elab.async false
set_option linter.all false
set_option maxRecDepth 100000
set_option maxHeartbeats 1000000
set_option exponentiation.threshold 20000
namespace KA
open PySem PySem.Spec PyProof.Rows L2 Oo Gd Am
section
variable {P : Program} {w : World} {K : W.Frag} {mg : Str → Option Value} {base : Heap} {f : Addr} {fd : FuncData}
theorem rd0 {H : Hp} {Q : VK} {t : Addr} {a b : V} (h : SqT K H t [a, b]) (z : Q a H) : rIxT K (.ref t) (.int 0) H Q := ⟨t, _, 0, _, rfl, rfl, h, rfl, z⟩
theorem rd1 {H : Hp} {Q : VK} {t : Addr} {a b : V} (h : SqT K H t [a, b]) (z : Q b H) : rIxT K (.ref t) (.int 1) H Q := ⟨t, _, 1, _, rfl, rfl, h, rfl, z⟩
theorem Pt.ext {H H' : Hp} {t : Addr} {q : Rat} (h : Pt K H t q) (e : Am.Ext H H') : Pt K H' t q := by
  rcases h with (h | ⟨o, h⟩) | h
  · exact .inl (.inl (e _ _ h))
  · exact .inl (.inr ⟨o, e _ _ h⟩)
  · exact .inr h
theorem Pt.of {H : Hp} {t : Addr} {q : Rat} (h : H t = some (.tup [.int q.num, .int q.den])) : Pt K H t q := SqT.of h
theorem Kp.pt {p : Addr} {H H' : Hp} {t : Addr} {q : Rat} (k : Kp p H H') (n : t ≠ p) (h : Pt K H t q) : Pt K H' t q := by
  rcases h with (h | ⟨o, h⟩) | h
  · exact .inl (.inl (k.1 _ _ n h))
  · exact .inl (.inr ⟨o, k.1 _ _ n h⟩)
  · exact .inr h
abbrev DnD (P : Program) (w : World) (K : W.Frag) (mg : Str → Option Value) (base : Heap) : Prop := Dn P w K mg base CX0 1 "_law_draw" ["_law_pot_here", "_law_sides"] spDraw11
abbrev DnP (P : Program) (w : World) (K : W.Frag) (mg : Str → Option Value) (base : Heap) : Prop := Dn P w K mg base CX0 2 "_law_pick" ["_law_pot_here", "_law_some"] (spPick K)
abbrev DnL (P : Program) (w : World) (K : W.Frag) (mg : Str → Option Value) (base : Heap) : Prop := Dn P w K mg base CX0 1 "_law_lowest" ["_law_high", "_law_low"] spLow
/-! ### great -/
def spGreat : Sp := fun vs H Q _ => ∃ p : Addr, vs = [.ref p] ∧ Pot H p ∧ ∀ (n : Int) (H' : Hp), 0 < n → n < 2 ^ 112 → Kp p H H' → Q (.int n) H'
/-! ### part -/
def spPart (K : W.Frag) : Sp := fun vs H Q _ => ∃ p : Addr, vs = [.ref p] ∧ Pot H p ∧ ∀ (t : Addr) (q : Rat) (H' : Hp), H t = none → t ≠ p → H' t = some (.tup [.int q.num, .int q.den]) → Low 112 q → Kp p H H' → Q (.ref t) H'
/-! ### sum, less, times, parted -/
def spPair (K : W.Frag) (g : Rat → Rat → Rat) : Sp := fun vs H Q _ => ∃ t u q p, vs = [.ref t, .ref u] ∧ Pt K H t q ∧ Pt K H u p ∧ Low 3900 q ∧ Low 3900 p ∧ NewP H Q (g q p)
theorem low39 {q p : Rat} (h : Low 3900 q) (h' : Low 3900 p) : (q.num * (p.den : Int)).natAbs < 2 ^ 7800 := mul_bits h.1 (KA.low_den h')
theorem den39 {q p : Rat} (h : Low 3900 q) (h' : Low 3900 p) : ((q.den : Int) * (p.den : Int)).natAbs < 2 ^ 7800 := mul_bits (KA.low_den h) (KA.low_den h')
theorem den_pos (q : Rat) : (0 : Int) < q.den := by
  have := q.den_pos
  omega
end
end KA

set_option Elab.async false
set_option linter.all false
set_option maxRecDepth 100000
set_option maxHeartbeats 1000000
set_option exponentiation.threshold 20000
/-! repr of a pair of NUMBERS. -/
namespace Am
open PySem PySem.Spec PyProof.Rows L2 Oo
section
variable {prog : Program} {w : World} {A : Around} {E : Value → Shared → Prop} {s : Shared} {K : W.Frag} {x C f : Addr} {ox : Obj} {od : Option Obj}
/-- an own __repr__, under a repr -/
theorem own_under {b : Nat} {Q : Str → Shared → Prop} (hb : b ≤ sizeLine) (hu : A.units < cLine) (X : K.In s.heap) (I : W.InstAt s.heap x ox C od) (hs : W.findIn K (.ref C) "__repr__" = some (some (.ref f))) (hf : W.isFn K (.ref f) = true)
    (h : wpAny (model prog w) A (call (.ref f) [.ref x]) (fun v s' => ∃ y u, v = .str y u ∧ Q y s') E s) : wpAny (model prog w) A (pyReprUnder b (.ref x)) Q E s := by
  refine wpAny_pyReprUnder_ref hb ?_
  unfold pyReprObjUnder pyReprObjBy
  refine wpAny_bind (wpAny_cRoomFor hu ?_)
  have L1 : W.Looks (model prog w) s.heap (specialOf (.ref x) (Str.ofString "__repr__")) (some (.ref f)) := by
    unfold specialOf
    exact I.type.andThen (f := fun t => typeLookup t (Str.ofString "__repr__")) (W.looks_findIn X hs)
  refine wpAny_bind (L1.here ?_)
  refine W.KFB.if_not rfl ?_
  refine wpAny_bind ?_
  have back : ∀ (v : Value) (s' : Shared), (∃ y u, v = .str y u ∧ Q y s') → wpAny (model prog w) A (do if ← isInstance v (.type "str") then pure v else raiseError "TypeError" s!"__repr__ returned non-string (type {← typeNameOf v})") (fun v s' => ∃ y u, v = .str y u ∧ Q y s') E s' := by
    rintro v s' ⟨y, u, rfl, q⟩
    exact wpAny_bind (wpAny_isInstance (T := "str") (b := true) rfl isSubtype_str_str (wpAny_pure ⟨y, u, rfl, q⟩))
  have fin : wpAny (model prog w) A (call (.ref f) [.ref x] >>= fun v => pure (some v)) (fun r s' => ∃ v, r = some v ∧ ∃ y u, v = .str y u ∧ Q y s') E s :=
    wpAny_bind (wpAny_mono h (fun v s' hv => wpAny_pure ⟨v, rfl, hv⟩) fun _ _ z => z)
  simp only [callSpecialIfBoundBy?, bindSpecialIfBound?]
  refine wpAny_holding (wpAny_bind (wpAny_bind (wpAny_bind (I.type.here ((W.looks_findIn X hs).here ?_)))))
  refine wpAny_bind (wpAny_askSetting (wpAny_ite ?_))
  split
  · exact wpAny_bind ((W.bind_fn X _ (beq_iff_eq.mp hf)).here (wpAny_pure (wpAny_mono fin (fun r s' ⟨v, er, hv⟩ => by subst er; exact back v s' hv) fun _ _ z => z)))
  · exact wpAny_tryCatch (wpAny_bind ((W.bind_fn X _ (beq_iff_eq.mp hf)).here (wpAny_pure (wpAny_mono fin (fun r s' ⟨v, er, hv⟩ => by subst er; exact back v s' hv) fun _ _ z => z))))
/-- where the items of a tuple are written -/
abbrev inTup (A : Around) (a : Addr) : Around := A.in1.under (.builtin "tuple.__repr__" ⟨[.ref a], []⟩)
theorem tup2 {a : Addr} {o : Obj} {u v : Value} {n : Nat} {t1 t2 : Str} {Q : Value → Shared → Prop} (ho : s.heap.get? a = some o) (hc : o.cls = .type "tuple") (hd : o.data = .seq #[u, v] n) (hg : A.guards = some []) (hu : A.units + 1 < cLine)
    (hz : (tupleText [t1, t2]).length ≤ sizeLine)
    (h : wpAny (model prog w) (inTup A a) (pyReprUnder 1 u) (fun r s1 => r = t1 ∧ wpAny (model prog w) (inTup A a) (pyReprUnder (0 + (t1.length + 2) + 1) v) (fun r s2 => r = t2 ∧ ∀ y, Q (.str (tupleText [t1, t2]) y) { s2 with toks := s2.toks + 1 }) E s1) E s) :
    wpAny (model prog w) A (call (.builtin "repr") [.ref a]) Q E s := by
  refine Gd.repr_slot (T := "tuple") ⟨o, ho, hc⟩ F.slot_tuple_repr hu ?_
  have body : wpOwn (model prog w) A.in1 (.builtin "tuple.__repr__" ⟨[Value.ref a], []⟩) (Builtin.tupleReprAt 0 ⟨[Value.ref a], []⟩) (fun fin s' => match fin with
      | .done fl => callEnd (fun r s' => (∃ x u, r = Value.str x u) ∧ Q r s') E (.ok fl) s'
      | .again c' => c'.quiet = true ∧ codeAny (model prog w) A.in1 c' (callEnd (fun r s' => (∃ x u, r = Value.str x u) ∧ Q r s') E) s') (fun e s' => callEnd (fun r s' => (∃ x u, r = Value.str x u) ∧ Q r s') E (.error e) s') s := by
    rw [tuple_repr_tree, tupleReprUnderWay_eq]
    refine wpOwn_bind (wpOwn_stackTailAny (g := []) hg (tupGuardF_off _) (tupGuardF_pos _) ?_)
    refine wpOwn_of_wpAny (show wpAny _ _ (tupleReprRest 0 (.ref a)) _ _ s from ?_)
    unfold tupleReprRest Builtin.Tuple.tupleItemsOf
    refine wpAny_bind (wpAny_bind (wpAny_seqItems ho hd (wpAny_pure ?_)))
    rw [← Array.forIn_toList, show (#[u, v] : Array Value).toList = [u, v] from rfl]
    refine wpAny_bind ?_
    rw [List.forIn_cons]
    refine wpAny_bind (wpAny_bind (wpAny_mono h (fun r s1 hr => wpAny_pure ?_) fun _ _ z => z))
    obtain ⟨e1, h2⟩ := hr
    subst e1
    show wpAny _ _ (forIn [v] _ _) _ _ s1
    rw [List.forIn_cons]
    refine wpAny_bind (wpAny_bind (wpAny_mono h2 (fun r s2 hr => wpAny_pure ?_) fun _ _ z => z))
    obtain ⟨e2, h3⟩ := hr
    subst e2
    show wpAny _ _ (forIn [] _ _) _ _ s2
    rw [List.forIn_nil]
    refine wpAny_pure ?_
    exact wpAny_bind (wpAny_mkStr (wpAny_pure ⟨⟨_, _, rfl⟩, h3 _⟩) hz)
  exact wpAny_call (codeAny_call_builtin_own (Code.quiet_builtin _ (by decide +kernel)) F.entry_tuple_repr (F.slot_tuple_repr.check _ _ _ _ _ _ _ _ ⟨o, ho, hc⟩ (F.args_tuple_repr_1 _) body))
end
/-! ### over the layer -/
theorem inTup_room {k : Nat} {A : Around} {a : Addr} (r : Room (k + 2) A) : Room k (inTup A a) :=
  ⟨r.hd, by
    have := r.dp
    have e : (inTup A a).depth = A.depth + 1 := by first | rfl | simp [inTup, Around.under, Code.weight, Code.isCreation, Code.isGuard, Code.isCaller, Code.frames, Code.isFrame, guardIds]
    rw [e]; omega, by
    have := r.un
    have e : (inTup A a).units ≤ A.units + 2 := by
      show A.in1.units + _ ≤ _
      first | exact Nat.le_refl _ | (simp [Code.cUnits, Code.frames, Code.isFrame])
    omega⟩
theorem inTup_env {P : Program} {w : World} {K : W.Frag} {mg : Str → Option Value} {base : Heap} {A : Around} {outer : List Env} {s : Shared} {H : Hp} {a : Addr} (e : Env0 P w K mg base A outer s H) : Env0 P w K mg base (inTup A a) outer s H :=
  ⟨by first | exact e.frames | (simpa [inTup, Around.under, Code.envs, Code.isFrame, pushEnvs] using e.frames), e.mod, e.bs, e.bsz, e.funs, e.frf, e.hok, e.bare⟩
theorem inTup_guards {A : Around} {a : Addr} (hg : A.guards = some []) : ∃ g, (inTup A a).guards = some g := by
  have e : A.in1.guards = some [] := hg
  exact ⟨_, guards_under_guard (isGuard_tuple_repr _) e⟩
/-- the text of a NUMBER's repr -/
def numText (v : V) (q : Rat) : Str := match v with
  | .int i => (toString i : String)
  | _ => shown q
/-- what the class's own repr promises -/
structure Rep (P : Program) (w : World) (K : W.Frag) (mg : Str → Option Value) (base : Heap) (C : Addr) : Prop where
  of : ∃ f fd, W.findIn K (.ref C) "__repr__" = some (some (.ref f)) ∧ W.isFn K (.ref f) = true ∧ FnOk P w K mg base CX0 1 f fd ["self"] (KA.spText C shown) ∧ Binds K fd ["self"] []
section
variable {X : Cx} {C : Addr} {pins : List (Addr × Obj)} {σ : L2.St} {H : Hp} {s : Shared} {k : Nat}
/-- small enough for a repr -/
def SmN (v : V) (q : Rat) : Prop := match v with
  | .int i => i.natAbs.log2 < 1920
  | _ => KA.Low 3000 q
theorem len_of {i : Int} {n : Nat} (hn : 0 < n) (h : i.natAbs < 2 ^ n) : (Str.ofString (toString i)).length ≤ n + 1 := by
  have l : i.natAbs.log2 < n := by
    by_cases z : i.natAbs = 0
    · rw [z]; exact hn
    · exact (Nat.log2_lt z).mpr h
  have e := int_text_length_le (a := i) (k := n) hn l
  rw [PySem.ofString_length]
  exact e
theorem num_len {v : V} {q : Rat} (h : SmN v q) : (numText v q).length ≤ 6100 := by
  have sh : KA.Low 3000 q → (shown q).length ≤ 6100 := fun h => by
    have l1 := len_of (by decide) h.1
    have l2 := len_of (n := 3000) (i := (q.den : Int)) (by decide) (by rw [Int.natAbs_natCast]; exact h.2)
    have k1 : (Str.ofString "Amount(").length = 7 := by decide
    have k2 : (Str.ofString ", ").length = 2 := by decide
    have k3 : (Str.ofString ")").length = 1 := by decide
    rw [shown, emp]
    simp only [strLen_append, k1, k2, k3]
    omega
  cases v with
  | int i =>
    have := int_text_len_1921 (i := i) h
    show (Str.ofString (toString i)).length ≤ 6100
    omega
  | _ => exact sh h
theorem num_under (R : Rep X.prog X.w X.K X.mg X.base C) {a : Addr} {b : Nat} {v : V} {u : Value} {q : Rat} (hr : Room (k + 3) X.A) (hG : Gd.Bare X.A) (I : Inv X pins σ H s) (nv : Num C H v q) (sm : SmN v q) (rv : RelV v u) (hb : b ≤ 10000) :
    wpAny (model X.prog X.w) (inTup X.A a) (pyReprUnder b u) (fun r s1 => r = numText v q ∧ Inv X pins σ H s1) X.xe s := by
  have hR : Room 1 (inTup X.A a) := inTup_room (hr.mono (by omega))
  rcases nv with ⟨i, rfl, _⟩ | ⟨x, rfl, ix⟩
  · obtain ⟨g, hg⟩ := inTup_guards (a := a) hG
    have rk : ReprK X.prog X.w [] s.heap 1 u (toString i : String) := (Gd.Rp.int (H := H) (as := []) (d := 1) i sm).repr I.hok u rv
    have l := num_len (v := .int i) (q := q) sm
    exact rk b (by have := KA.line_ge; show b + (numText (.int i) q).length ≤ sizeLine; omega) _ g _ s _ hg (fun b h => nomatch h) (by have := hR.units; omega) (fun _ _ e => e) fun h' tk kp => ⟨rfl, I.kept kp⟩
  · obtain rfl : u = Value.ref x := rv
    obtain ⟨f, fd, hs, hf, F, bd⟩ := R.of
    obtain ⟨dx, ex⟩ := id ix
    obtain ⟨od, J, _⟩ := inst_at I ex
    refine own_under (by have := KA.line_ge; omega) hR.units0 I.kIn J hs hf ?_
    have lw : KA.Low 8000 q := ⟨Nat.lt_trans sm.1 (by decide), Nat.lt_trans sm.2 (by decide)⟩
    refine wpAny_mono (run_atO (Q := fun z H' => z = .str (shown q) ∧ H' = H) (us := [.ref x]) (ws := [.ref x]) F bd hR (inTup_env I.env0) pass0 I (.cons rfl .nil) ⟨x, q, rfl, ix, lw, rfl, rfl⟩) (fun v s' ⟨z, H', I', rz, ez, eh⟩ => ?_) fun _ _ z => z
    subst ez eh
    obtain ⟨t, rfl⟩ := (show ∃ t, v = Value.str (shown q) t from rz)
    exact ⟨_, _, rfl, rfl, I'⟩
/-- repr of a pair of NUMBERS -/
def rPair (C : Addr) : List V → Hp → VK → Prop := fun vs H Q => ∃ (a : Addr) (x y : V) (q p : Rat), vs = [.ref a] ∧ H a = some (.tup [x, y]) ∧ Num C H x q ∧ Num C H y p ∧ SmN x q ∧ SmN y p ∧ Q (.str (tupleText [numText x q, numText y p])) H
theorem call_reprPair (R : Rep X.prog X.w X.K X.mg X.base C) (hG : Gd.Bare X.A) (hr : Room (k + 3) X.A) : CallR X (.builtin "repr") (rPair C) := by
  intro pins s σ H vs us Q I r h
  obtain ⟨a, x, y, q, p, rfl, ha, nx, ny, sx, sy, z⟩ := h
  obtain ⟨u, rfl, ru⟩ := r.one
  cases (show u = Value.ref a from ru)
  obtain ⟨_, its, rv, o, h1, h2, n, h3⟩ := (show ObjOk X.prog X.w H s.heap a (.tup [x, y]) from I.hok a _ ha)
  obtain ⟨v1, v2, rfl, r1, r2⟩ := vals2 rv
  have l1 := num_len sx
  have l2 := num_len sy
  refine tup2 (t1 := numText x q) (t2 := numText y p) h1 h2 h3 hG (by have := hr.units; omega) ?_ ?_
  · have e := Gd.tupleText_le [numText x q, numText y p]
    have e2 : piled [numText x q, numText y p] = (numText x q).length + 2 + ((numText y p).length + 2 + 0) := by
      rw [piled_cons, piled_cons]
      rfl
    have := KA.line_ge
    omega
  · refine wpAny_mono (num_under R hr hG I nx sx r1 (by decide)) (fun t s1 ⟨e1, I1⟩ => ⟨e1, ?_⟩) fun _ _ z => z
    refine wpAny_mono (num_under R hr hG I1 ny sy r2 (by omega)) (fun t s2 ⟨e2, I2⟩ => ⟨e2, fun tk => ?_⟩) fun _ _ z => z
    exact ⟨.str (tupleText [numText x q, numText y p]), H, I2.tok _, ⟨_, rfl⟩, z⟩
end
end Am

set_option Elab.async false
set_option linter.all false
set_option maxRecDepth 100000
set_option maxHeartbeats 1000000
/-! Methods and staticmethods called by keywords alone. -/
namespace Oo
open PySem PySem.Spec PyProof.Rows L2
def tMethK (C : Addr) (m : Str) (n : Nat) (sp : Sp) (gV : List V → List V → List V) (E : XK) (ta : TE) (tk : TA) : TE := fun σ H Q => ta σ H fun x H1 => ∃ a dx fs, x = .ref a ∧ H1 a = some (.ins C dx fs) ∧ fs.lookup m = none ∧
  tk σ H1 fun zs H2 => zs.length = n ∧ sp (gV [x] zs) H2 Q E
def tSMethK (C : Addr) (n : Nat) (sp : Sp) (gV : List V → List V → List V) (E : XK) (ta : TE) (tk : TA) : TE := fun σ H Q => ta σ H fun x H1 => x = .ref C ∧ tk σ H1 fun zs H2 => zs.length = n ∧ sp (gV [] zs) H2 Q E
section
variable {X : Cx} {CX : CXT} {C f p : Addr} {k : Nat} {sp : Sp} {E : XK} {fd : FuncData} {ps ks : List Str} {o : Expr} {m : Str} {apos pos : Pos} {kws : List Keyword} {ta : TE} {tk : TA} {pl : Sem Bool} {mc : Value} {g : List Value → List Value → List Value} {gV : List V → List V → List V}
theorem pe_methK (he : PE X o ta) (c : Cls X.K C) (hm : Meth X.K C m f) (F : FnOk X.prog X.w X.K X.mg X.base CX k f fd ps sp) (hr : Room k X.A) (hb : KBn X.K fd ps 1 ks g gV) (hx : Passes CX X E) (hkw : PK X kws tk)
    (hall : (backToKw pos (keywordEach kws X.env)).all (·.1.isSome) = true := by rfl) (hks : (backToKw pos (keywordEach kws X.env)).filterMap (·.1) = ks := by rfl)
    (hpl : ((backTo pos (starEach [] X.env)).any (·.1) || (backToKw pos (keywordEach kws X.env)).any (·.1.isNone)) = false := by rfl)
    (ht : eval (.Call (.Attribute o m apos) [] kws pos) X.env = (do
      let ov ← eval o X.env
      standAt apos.atName
      let (f, first) ← holding [ov] (getMethod ov m pl)
      callWith pos f first (backTo pos (starEach [] X.env)) (backToKw pos (keywordEach kws X.env))) := by rfl) : PE X (.Call (.Attribute o m apos) [] kws pos) (tMethK C m ks.length sp gV E ta tk) := by
  refine ⟨fun pins s σ H Q I h => ?_⟩
  refine PySem.W.methodCall_KW (pl := pl) (thn (he.run pins s σ H _ I h) fun u s1 ⟨x, H1, I1, rx, a, dx, fs, ex, ea, l, q⟩ => ?_) ht
  subst ex
  obtain rfl : u = Value.ref a := rx
  refine getmeth_ok I1 ea c hm l ?_
  refine PySem.W.callWith_KW0 (first := [.ref a]) (h₀ := X.base) I1.ok.mod.kin hm.kp hall ?_ hpl
  refine thn (hkw.run pos pins s1 σ H1 _ I1 q) fun ws s2 ⟨zs, H2, I2, rz, l2, q2⟩ => ⟨I2.kIn, ?_⟩
  rw [hks]
  exact run_fnN (us := [.ref a]) (vs := [.ref a]) F hr hb hx I2 (.cons rfl .nil) rz rfl l2 q2
theorem pe_smethK (he : PE X o ta) (r : ClX.CRead X.K C mc) (c : SMet X.K C mc m p f) (F : FnOk X.prog X.w X.K X.mg X.base CX k f fd ps sp) (hr : Room k X.A) (hb : KBn X.K fd ps 0 ks g gV) (hx : Passes CX X E) (hkw : PK X kws tk)
    (hall : (backToKw pos (keywordEach kws X.env)).all (·.1.isSome) = true := by rfl) (hks : (backToKw pos (keywordEach kws X.env)).filterMap (·.1) = ks := by rfl)
    (hpl : ((backTo pos (starEach [] X.env)).any (·.1) || (backToKw pos (keywordEach kws X.env)).any (·.1.isNone)) = false := by rfl)
    (ht : eval (.Call (.Attribute o m apos) [] kws pos) X.env = (do
      let ov ← eval o X.env
      standAt apos.atName
      let (f, first) ← holding [ov] (getMethod ov m pl)
      callWith pos f first (backTo pos (starEach [] X.env)) (backToKw pos (keywordEach kws X.env))) := by rfl) : PE X (.Call (.Attribute o m apos) [] kws pos) (tSMethK C ks.length sp gV E ta tk) := by
  refine ⟨fun pins s σ H Q I h => ?_⟩
  refine PySem.W.methodCall_KW (pl := pl) (thn (he.run pins s σ H _ I h) fun u s1 ⟨x, H1, I1, rx, ex, q⟩ => ?_) ht
  subst ex
  obtain rfl : u = Value.ref C := rx
  obtain ⟨rest, hp⟩ := c.rc
  obtain ⟨m1, hF⟩ := I1.fr
  refine PySem.W.method_cls I1.kIn r.ga (PySem.W.cls_sm hF I1.ok.mod.kin c.ty r.rd c.at_ hp rfl ?_)
  have I2 : Inv X pins σ H1 { s1 with toks := s1.toks + 1 } := I1.tok _
  refine PySem.W.callWith_KW0 (first := []) (h₀ := X.base) I2.ok.mod.kin c.kp hall ?_ hpl
  refine thn (hkw.run pos pins _ σ H1 _ I2 q) fun ws s2 ⟨zs, H2, I3, rz, l2, q2⟩ => ⟨I3.kIn, ?_⟩
  rw [hks]
  exact run_fnN (us := []) F hr hb hx I3 .nil rz rfl l2 q2
end
end Oo

set_option Elab.async false
set_option linter.all false
set_option maxRecDepth 100000
set_option maxHeartbeats 1000000
set_option exponentiation.threshold 20000
namespace Am
open PySem PySem.Spec PyProof.Rows L2 Oo
/-- '0' * n -/
def rZero : R2 := fun x y H Q => ∃ n : Int, x = .str "0" ∧ y = .int n ∧ -100000 ≤ n ∧ n ≤ 20 ∧ Q (.str ⟨Array.replicate n.toNat 48⟩) H
theorem zeros : ∀ m : Nat, m ≤ 20 → (List.replicate m (Str.ofString "0").cps).foldl (· ++ ·) #[] = Array.replicate m 48 := by decide +kernel
theorem op_zero {X : Cx} : OpR X (binaryOp .Mult) rZero := fun pins s σ H x y v u Q I rx ry h => by
  obtain ⟨n, rfl, rfl, n0, n1, q⟩ := h
  obtain ⟨t, rfl⟩ := (show ∃ t, v = Value.str "0" t from rx)
  obtain ⟨t', rfl⟩ := (show ∃ t', u = Value.int n t' from ry)
  have l1 : (Str.ofString "0").length = 1 := by decide
  have hn : n.toNat ≤ 20 := by omega
  refine PySem.P.mul_str ?_ ?_ ?_ ?_
  · have h1 : ¬ n < -(2 ^ 63 : Int) := by omega
    have h2 : ¬ n ≥ 2 ^ 63 := by omega
    rw [decide_eq_false h1, decide_eq_false h2]
    rfl
  · intro h1 _
    rw [l1]
    have : (1 : Int) ≤ (2 ^ 63 - 1) / n := by
      rw [Int.le_ediv_iff_mul_le (by omega)]
      omega
    omega
  · intro _ _
    rw [l1, Nat.one_mul]
    show decide (n.toNat > sizeLine) = false
    exact decide_eq_false (by have := KA.line_ge; omega)
  · by_cases h1 : n < 1
    · rw [if_pos h1]
      have e : n.toNat = 0 := by omega
      rw [e] at q
      exact ⟨by decide, .str _, H, I.tok _, ⟨_, rfl⟩, q⟩
    · rw [if_neg h1]
      by_cases h2 : (n == 1 || (Str.ofString "0").length == 0) = true
      · rw [if_pos h2]
        have e : n = 1 := by
          rw [l1] at h2
          simpa using h2
        subst e
        exact ⟨.str _, H, I, ⟨_, rfl⟩, q⟩
      · rw [if_neg h2]
        rw [← zeros _ hn] at q
        refine ⟨?_, .str _, H, I.tok _, ⟨_, rfl⟩, q⟩
        rw [zeros _ hn]
        show (Array.replicate n.toNat 48).size ≤ sizeLine
        rw [Array.size_replicate]
        have := KA.line_ge
        omega
theorem zf_app (k : Nat) (x : Str) : (⟨Array.replicate ((k : Int) + 1 - (x.length : Int)).toNat 48⟩ : Str) ++ x = zf x (k + 1) := by
  have e : ((k : Int) + 1 - (x.length : Int)).toNat = k + 1 - x.length := by omega
  rw [e]
  rfl
/-- Amount(bottom = .., top = ..) -/
structure BaseK (P : Program) (w : World) (K : W.Frag) (mg : Str → Option Value) (base : Heap) (C : Addr) : Prop where
  mgA : mg "Amount" = some (.ref C)
  make : ∃ fI fd, Mk K C fI ∧ FnOk P w K mg base CX0 2 fI fd ["self", "top", "bottom"] (spInit C) ∧ KBn K fd ["self", "top", "bottom"] 1 [("bottom" : Str), "top"] (fun us ws => us ++ ws.reverse) (fun us ws => us ++ ws.reverse)
def tMkK (C : Addr) (t : TA) : TE := fun σ H Q => t σ H fun vs H1 => ∃ n d : Int, vs = [.int d, .int n] ∧ d ≠ 0 ∧ n.natAbs < 2 ^ 8999 ∧ d.natAbs < 2 ^ 8999 ∧ New C H1 Q (Rat.divInt n d)
section
variable {X : Cx} {C : Addr} {p pos : Pos} {t : TA} {kws : List Keyword}
theorem pe_mkK (B : BaseK X.prog X.w X.K X.mg X.base C) (hr : Room 3 X.A) (hg : Gl X "Amount") (hkw : PK X kws t) (hall : (backToKw pos (keywordEach kws X.env)).all (·.1.isSome) = true := by rfl) (hks : (backToKw pos (keywordEach kws X.env)).filterMap (·.1) = [("bottom" : Str), "top"] := by rfl)
    (hpl : ((backTo pos (starEach [] X.env)).any (·.1) || (backToKw pos (keywordEach kws X.env)).any (·.1.isNone)) = false := by rfl) : PE X (.Call (.Name "Amount" p) [] kws pos) (tMkK C t) := by
  obtain ⟨fI, fd, M, F, kb⟩ := B.make
  refine ⟨fun pins s σ H Q I h => ?_⟩
  refine wpAny_Call_Name_kw (ld_glob I hg B.mgA ?_ (by decide))
  refine PySem.W.callWith_KW0 (h₀ := X.base) I.ok.mod.kin M.kp hall ?_ hpl
  refine thn (hkw.run pos pins s σ H _ I h) fun ws s2 ⟨zs, H2, I2, rz, n, d, ez, hd, h1, h2, q⟩ => ⟨I2.kIn, ?_⟩
  subst ez
  rw [hks]
  exact run_makeK (n := 0) (us := []) (vs := []) (E := E0) M F hr kb pass0 I2 .nil rz rfl rfl (by simpa using new_made hd rfl h1 h2 q)
end
theorem shown_eq (q : Rat) : shown q = "Amount(" ++ (toString q.num : String) ++ ", " ++ (toString (q.den : Int) : String) ++ (")" : Str) := by
  unfold shown
  rw [emp]
end Am
namespace KA
open PySem PySem.Spec PyProof.Rows L2 Oo Gd Am
section
variable {P : Program} {w : World} {K : W.Frag} {mg : Str → Option Value} {base : Heap} {f C : Addr} {fd : FuncData}
/-! ### floor, shown, written, tens -/
def spFloor (K : W.Frag) : Sp := fun vs H Q _ => ∃ (t : Addr) (n d : Int), vs = [.ref t] ∧ SqT K H t [.int n, .int d] ∧ 0 < d ∧ d.natAbs < 2 ^ 8000 ∧ Q (.int (n / d)) H
def spTxt (K : W.Frag) (g : Rat → Str) : Sp := fun vs H Q _ => ∃ t q, vs = [.ref t] ∧ Pt K H t q ∧ Low 8000 q ∧ Q (.str (g q)) H
def spTens : Sp := fun vs H Q _ => ∃ k : Nat, vs = [.int k] ∧ k ≤ 12 ∧ Q (.int (10 ^ k)) H
/-! ### decimal -/
abbrev nDec : List Str := ["_law_part_here", "_law_size", "_law_count", "_law_digits", "_law_mark", "_law_cut"]
def spDec (K : W.Frag) : Sp := fun vs H Q _ => ∃ (t : Addr) (q : Rat) (k : Nat), vs = [.ref t, .int k] ∧ Pt K H t q ∧ Low 3900 q ∧ k ≤ 12 ∧ ∀ H', Am.Ext H H' → Q (.str (dec q k)) H'
end
end KA

set_option Elab.async false
set_option linter.all false
set_option maxRecDepth 100000
set_option maxHeartbeats 1000000
set_option exponentiation.threshold 20000
namespace KA
open PySem PySem.Spec PyProof.Rows L2 Oo Gd Am
section
variable {P : Program} {w : World} {K : W.Frag} {mg : Str → Option Value} {base : Heap} {f C : Addr} {fd : FuncData}
theorem Kp.ext {p : Addr} {H H' : Hp} (hp : Pot H p) (e : Am.Ext H H') : Kp p H H' := ⟨fun b o _ h => e b o h, by
  obtain ⟨a, b, h, r⟩ := hp
  exact ⟨a, b, e _ _ h, r⟩⟩
theorem Is.kp {p a : Addr} {H H' : Hp} {q : Rat} (k : Kp p H H') (hp : Pot H p) (h : Is C H a q) : Is C H' a q := by
  obtain ⟨dx, e⟩ := h
  obtain ⟨x, y, hl, _⟩ := hp
  exact ⟨dx, k.1 _ _ (fun z => by subst z; rw [hl] at e; cases e) e⟩
theorem Num.kp {p : Addr} {H H' : Hp} {v : V} {q : Rat} (k : Kp p H H') (hp : Pot H p) (h : Num C H v q) : Num C H' v q := h.imp (fun z => z) fun ⟨a, e, i⟩ => ⟨a, e, Is.kp k hp i⟩
theorem scale (q : Rat) {m : Int} (h : m ≠ 0) : Rat.divInt (q.num * m) ((q.den : Int) * m) = q := by
  rw [Rat.divInt_mul_right h, Rat.num_divInt_den]
theorem int_of {q : Rat} (h : (q.den : Int) = 1) : q = (q.num : Rat) := Rat.ext rfl (by
  show q.den = 1
  omega)
def spMade (K : W.Frag) (C : Addr) : Sp := fun vs H Q _ => ∃ p t q b, vs = [.ref p, .ref t, .bl b] ∧ Pot H p ∧ t ≠ p ∧ Pt K H t q ∧ Low 112 q ∧ ∀ v H', Num C H' v q → (b = false → ∃ a, v = .ref a) → Kp p H H' → Q v H'
abbrev nMade : List Str := ["_law_pot_here", "_law_part_here", "_law_is_plain", "_law_by"]
end
end KA

set_option Elab.async false
set_option linter.all false
set_option maxRecDepth 100000
set_option maxHeartbeats 1000000
/-! == and != of Amounts. -/
namespace Am
open PySem PySem.Spec PyProof.Rows L2 Oo
/-- the class's own ==; != is that of object -/
structure EqF (P : Program) (w : World) (K : W.Frag) (mg : Str → Option Value) (base : Heap) (C : Addr) : Prop where
  of : ∃ f fd, W.findIn K (.ref C) "__eq__" = some (some (.ref f)) ∧ W.isFn K (.ref f) = true ∧ FnOk P w K mg base CX0 1 f fd ["self", "other"] (KA.spEq C) ∧ Binds K fd ["self", "other"] [] ∧
    ∃ B bm, CmpFacts B bm ∧ ∀ (h : Heap) (x dx : Addr), K.In h → h.get? x = some (W.instObj C dx) → h.OwnEqNoNe x C f B bm
def rEqO (C : Addr) (g : Bool → Bool) : R2 := fun x y H Q => ∃ a b q p, x = .ref a ∧ y = .ref b ∧ Is C H a q ∧ Is C H b p ∧ Q (.bl (g (decide (q = p)))) H
section
variable {X : Cx} {C : Addr} {k : Nat}
theorem op_eqO (T : EqF X.prog X.w X.K X.mg X.base C) (hr : Room (k + 2) X.A) : OpR X (compareOp .Eq) (rEqO C fun b => b) := fun pins s σ H x y v u Q I rx ry h => by
  obtain ⟨a, b, q, p, rfl, rfl, ia, ib, z⟩ := h
  cases (show v = Value.ref a from rx)
  cases (show u = Value.ref b from ry)
  obtain ⟨f, fd, hs, hf, F, bd, _⟩ := T.of
  obtain ⟨dx, ea⟩ := id ia
  obtain ⟨dy, eb⟩ := id ib
  obtain ⟨od, J, _⟩ := inst_at I ea
  obtain ⟨oe, J2, _⟩ := inst_at I eb
  obtain ⟨m, hF⟩ := I.fr
  refine W.cmp_ofEq (W.cmp_K (op := .Eq) (tb := .ref C) hr.units0 hF I.ok.mod.kin J J2.type ?_ hs hf ?_)
  · unfold W.notFirst
    rw [beq_self_eq_true]
    rfl
  refine wpAny_mono (run_fn (E := E0) (us := [.ref a, .ref b]) (vs := [.ref a, .ref b]) F (hr.mono (by omega)) bd .nil pass0 I (.cons rfl (.cons rfl .nil)) (show KA.spEq C ([V.ref a, V.ref b] ++ []) H Q E0 from ⟨a, b, q, p, rfl, ia, ib, z⟩)) (fun v' s' ⟨z', H', I', rz, qz⟩ => SlX.cmpback rz ⟨z', H', I', rz, qz⟩) fun _ _ z => z
theorem op_neO (T : EqF X.prog X.w X.K X.mg X.base C) (hr : Room (k + 2) X.A) : OpR X (compareOp .NotEq) (rEqO C fun b => !b) := fun pins s σ H x y v u Q I rx ry h => by
  obtain ⟨a, b, q, p, rfl, rfl, ia, ib, z⟩ := h
  cases (show v = Value.ref a from rx)
  cases (show u = Value.ref b from ry)
  obtain ⟨f, fd, hs, hf, F, bd, B, bm, FB, ne⟩ := T.of
  obtain ⟨dx, ea⟩ := id ia
  obtain ⟨dy, eb⟩ := id ib
  obtain ⟨od, J, e1⟩ := inst_at I ea
  obtain ⟨oe, J2, e2⟩ := inst_at I eb
  obtain ⟨hh, gg, d, tt, os⟩ := s
  refine compareOp_ne_ownEq FB (ne hh a dx I.kIn e1) e2 rfl (by have := hr.units; omega) ?_
  refine wpAny_mono (run_atO (Q := fun w' H' => w' = .bl (decide (q = p)) ∧ H' = H) (us := [.ref a, .ref b]) (ws := [.ref a, .ref b]) F bd ((hr.mono (show 2 ≤ k + 2 by omega)).in1) I.env0.in1 pass0 I (.cons rfl (.cons rfl .nil)) ⟨a, b, q, p, rfl, ia, ib, rfl, rfl⟩) (fun v' s' ⟨z', H', I', rz, ez, eh⟩ => ?_) fun _ _ z => z
  subst ez eh
  cases (show v' = Value.bool (decide (q = p)) from rz)
  exact ⟨_, rfl, .bl (!decide (q = p)), _, I', rfl, z⟩
end
end Am

set_option Elab.async false
set_option linter.all false
set_option maxRecDepth 100000
set_option maxHeartbeats 1000000
set_option exponentiation.threshold 20000
namespace KA
open PySem PySem.Spec PyProof.Rows L2 Oo Gd Am
/-! ### sums -/
theorem Low.more {n m : Nat} {q : Rat} (h : Low n q) (l : n ≤ m) : Low m q := ⟨Nat.lt_of_lt_of_le h.1 (Nat.pow_le_pow_right (by decide) l), Nat.lt_of_lt_of_le h.2 (Nat.pow_le_pow_right (by decide) l)⟩
theorem Low.add {n m : Nat} {q p : Rat} (h : Low n q) (h' : Low m p) : Low (n + m + 1) (q + p) := by
  rw [← add_rat]
  obtain ⟨b1, b2⟩ := divInt_le (q.num * (p.den : Int) + p.num * (q.den : Int)) ((q.den : Int) * (p.den : Int)) (den_den q p)
  have t1 : (q.num * (p.den : Int)).natAbs < 2 ^ (n + m) := mul_bits h.1 (KA.low_den h')
  have t2 : (p.num * (q.den : Int)).natAbs < 2 ^ (n + m) := by
    have := mul_bits h'.1 (KA.low_den h)
    rw [Nat.add_comm m n] at this
    exact this
  refine ⟨Nat.lt_of_le_of_lt b1 (add_bits t1 t2), Nat.lt_of_le_of_lt b2 (more_bits (mul_bits (KA.low_den h) (KA.low_den h')) (by omega))⟩
theorem Low.zero (n : Nat) : Low n (0 : Rat) ↔ 1 < 2 ^ n ∨ False := by
  constructor
  · intro h; exact .inl h.2
  · rintro (h | h)
    · exact ⟨by show 0 < _; omega, h⟩
    · exact h.elim
def total (qs : List Rat) : Rat := qs.foldl (· + ·) 0
theorem foldl_add : ∀ (qs : List Rat) (a b : Rat), qs.foldl (· + ·) (a + b) = a + qs.foldl (· + ·) b
  | [], _, _ => rfl
  | q :: r, a, b => by
    show r.foldl (· + ·) (a + b + q) = a + r.foldl (· + ·) (b + q)
    rw [Rat.add_assoc]
    exact foldl_add r a (b + q)
theorem total_cons (q : Rat) (r : List Rat) : total (q :: r) = q + total r := by
  show r.foldl (· + ·) (0 + q) = q + r.foldl (· + ·) 0
  rw [Rat.zero_add]
  have := foldl_add r q 0
  rw [Rat.add_zero] at this
  exact this
theorem total_snoc (r : List Rat) (q : Rat) : total (r ++ [q]) = total r + q := by
  unfold total
  rw [List.foldl_append]
  rfl
theorem total_low : ∀ (qs : List Rat), (∀ q ∈ qs, Low 112 q) → Low (113 * qs.length + 1) (total qs)
  | [], _ => (Low.zero _).mpr (.inl (by decide))
  | q :: r, h => by
    rw [total_cons]
    have a := h q List.mem_cons_self
    have b := total_low r fun x hx => h x (List.mem_cons_of_mem _ hx)
    exact (a.add b).more (by rw [List.length_cons]; omega)
end KA

set_option Elab.async false
set_option linter.all false
set_option maxRecDepth 100000
set_option maxHeartbeats 1000000
set_option exponentiation.threshold 20000
namespace KA
open PySem PySem.Spec PyProof.Rows L2 Oo Gd Am
section
variable {P : Program} {w : World} {K : W.Frag} {mg : Str → Option Value} {base : Heap} {f C : Addr} {fd : FuncData}
/-- the in-place sum, with its promise -/
structure OpI (P : Program) (w : World) (K : W.Frag) (mg : Str → Option Value) (base : Heap) (C : Addr) (nm : String) (k : Nat) (h : Rat → Rat → Rat) : Prop where
  of : ∃ f g fd gd ps qs, OwnBin K C nm f (some g) ∧ NoIn K C nm ∧ FnOk P w K mg base CX0 k f fd ps (spOp C h) ∧ Binds K fd ps [] ∧ FnOk P w K mg base CX0 k g gd qs (spOp C fun q p => h p q) ∧ Binds K gd qs []
theorem op_NN {X : Cx} {op : Operator} {k : Nat} {h : Rat → Rat → Rat} (h5 : Five op) (O : OpI X.prog X.w X.K X.mg X.base C op.info.2 k h) (hr : Room k X.A) : OpR X (binaryOp op) (rN C h) := by
  obtain ⟨f, g, fd, gd, ps, qs, B, N, F, b, G, b2⟩ := O.of
  exact op_N h5 B F b G b2 hr
theorem ip_NN {X : Cx} {op : Operator} {k : Nat} {h : Rat → Rat → Rat} (h5 : Five op) (O : OpI X.prog X.w X.K X.mg X.base C op.info.2 k h) (hr : Room k X.A) : PIp X op (rN C h) := by
  obtain ⟨f, g, fd, gd, ps, qs, B, N, F, b, G, b2⟩ := O.of
  exact fun pins s σ H x y v u Q I rx ry hh => iop_N h5 B N F b G b2 hr pins s σ H x y v u Q I rx ry hh
/-- repr of a NUMBER -/
def rReprN (C : Addr) : List V → Hp → VK → Prop := fun vs H Q => ∃ v q, vs = [v] ∧ Num C H v q ∧ SmN v q ∧ Q (.str (numText v q)) H
theorem call_reprN {X : Cx} {k : Nat} (R : Rep X.prog X.w X.K X.mg X.base C) (hG : Bare X.A) (hr : Room (k + 3) X.A) : CallR X (.builtin "repr") (rReprN C) := fun pins s σ H vs us Q I r h => by
  obtain ⟨v, q, rfl, nv, sm, z⟩ := h
  rcases id nv with ⟨i, rfl, _⟩ | ⟨a, rfl, ia⟩
  · refine call_repr hG hr pins s σ H _ us Q I r ⟨_, [], 1, _, rfl, Gd.Rp.int i sm, by decide, ?_, z⟩
    have := num_len (v := .int i) (q := q) sm
    have := KA.line_ge
    show (numText (.int i) q).length ≤ sizeLine
    omega
  · obtain ⟨f, fd, hs, hf, F, bd⟩ := R.of
    obtain ⟨dx, ea⟩ := id ia
    have lw : Low 8000 q := ⟨Nat.lt_trans sm.1 (by decide), Nat.lt_trans sm.2 (by decide)⟩
    exact call_reprO (E := E0) hs hf F bd (hr.mono (by omega)) pass0 pins s σ H _ us Q I r ⟨a, dx, _, rfl, ea, a, q, rfl, ia, lw, ⟨_, rfl⟩, z⟩
/-! ### lists of values, lists of fractions -/
inductive A2 (R : V → Rat → Prop) : List V → List Rat → Prop
  | nil : A2 R [] []
  | cons {x : V} {q : Rat} {xs : List V} {qs : List Rat} : R x q → A2 R xs qs → A2 R (x :: xs) (q :: qs)
theorem A2.imp {R S : V → Rat → Prop} (f : ∀ x q, R x q → S x q) : ∀ {xs : List V} {qs : List Rat}, A2 R xs qs → A2 S xs qs
  | _, _, .nil => .nil
  | _, _, .cons h t => .cons (f _ _ h) (t.imp f)
theorem A2.len {R : V → Rat → Prop} : ∀ {xs : List V} {qs : List Rat}, A2 R xs qs → xs.length = qs.length
  | _, _, .nil => rfl
  | _, _, .cons _ t => by rw [List.length_cons, List.length_cons, t.len]
theorem A2.app {R : V → Rat → Prop} {ys : List V} {rs : List Rat} (b : A2 R ys rs) : ∀ {xs : List V} {qs : List Rat}, A2 R xs qs → A2 R (xs ++ ys) (qs ++ rs)
  | _, _, .nil => b
  | _, _, .cons h t => .cons h (A2.app b t)
theorem A2.snoc {R : V → Rat → Prop} {xs : List V} {qs : List Rat} {x : V} {q : Rat} (a : A2 R xs qs) (h : R x q) : A2 R (xs ++ [x]) (qs ++ [q]) := A2.app (.cons h .nil) a
theorem A2.rev {R : V → Rat → Prop} : ∀ {xs : List V} {qs : List Rat}, A2 R xs qs → A2 R xs.reverse qs.reverse
  | _, _, .nil => .nil
  | _, _, .cons h t => by
    rw [List.reverse_cons, List.reverse_cons]
    exact A2.snoc t.rev h
theorem A2.get {R : V → Rat → Prop} : ∀ {xs : List V} {qs : List Rat} {i : Nat} {x : V}, A2 R xs qs → xs[i]? = some x → ∃ q, qs[i]? = some q ∧ R x q
  | _, _, i, x, .nil, h => by simp at h
  | _, _, 0, x, .cons h t, e => by
    cases (show some _ = some x from e)
    exact ⟨_, rfl, h⟩
  | _, _, i + 1, x, .cons h t, e => A2.get (i := i) t e
theorem take_get {qs : List Rat} {i : Nat} {q : Rat} (h : qs[i]? = some q) : qs.take (i + 1) = qs.take i ++ [q] := by
  rw [List.take_add_one, h]
  rfl
theorem A2.all {R : V → Rat → Prop} {p : Rat → Prop} (f : ∀ x q, R x q → p q) : ∀ {xs : List V} {qs : List Rat}, A2 R xs qs → ∀ q ∈ qs, p q
  | _, _, .nil, q, h => nomatch h
  | _, _, .cons h t, q, m => by
    rcases List.mem_cons.mp m with rfl | m
    · exact f _ _ h
    · exact A2.all f t q m
theorem total_rev : ∀ (qs : List Rat), total qs.reverse = total qs
  | [] => rfl
  | q :: r => by rw [List.reverse_cons, total_snoc, total_rev r, total_cons, Rat.add_comm]
/-- all but lists stand -/
def Ns (H H' : Hp) : Prop := ∀ b o, (∀ l, o ≠ .lst l) → H b = some o → H' b = some o
theorem Ns.refl (H : Hp) : Ns H H := fun _ _ _ h => h
theorem Ns.trans {H H1 H2 : Hp} (a : Ns H H1) (b : Ns H1 H2) : Ns H H2 := fun c o n h => b c o n (a c o n h)
theorem Kp.ns {p : Addr} {H H' : Hp} (k : Kp p H H') (hp : Pot H p) : Ns H H' := fun b o n h => k.1 b o (fun e => by
  subst e
  obtain ⟨x, y, hl, _⟩ := hp
  rw [hl] at h
  exact n _ (Option.some.inj h).symm) h
theorem Ns.ext {H H' : Hp} (e : Am.Ext H H') : Ns H H' := fun b o _ h => e b o h
theorem Ns.put {H : Hp} {D : Addr} {l : List V} {o : HO} (h : H D = some (.lst l)) : Ns H (upd H D o) := fun b u n e => by
  rw [upd_ne (fun z => by
    subst z
    rw [h] at e
    exact n _ (Option.some.inj e).symm)]
  exact e
def PtR (p : Addr) (H : Hp) (x : V) (q : Rat) : Prop := ∃ t, x = .ref t ∧ t ≠ p ∧ H t = some (.tup [.int q.num, .int q.den]) ∧ Low 112 q
theorem PtR.ns {p : Addr} {H H' : Hp} {x : V} {q : Rat} (h : PtR p H x q) (n : Ns H H') : PtR p H' x q := let ⟨t, e, np, ht, l⟩ := h; ⟨t, e, np, n _ _ (fun _ => HO.noConfusion) ht, l⟩
def NmR (C : Addr) (H : Hp) (x : V) (q : Rat) : Prop := Num C H x q ∧ Low 112 q
theorem Is.ns {H H' : Hp} {a : Addr} {q : Rat} (h : Is C H a q) (n : Ns H H') : Is C H' a q := let ⟨dx, z⟩ := h; ⟨dx, n _ _ (fun _ => HO.noConfusion) z⟩
theorem NmR.ns {H H' : Hp} {x : V} {q : Rat} (h : NmR C H x q) (n : Ns H H') : NmR C H' x q := ⟨h.1.imp (fun z => z) fun ⟨a, e, i⟩ => ⟨a, e, Is.ns i n⟩, h.2⟩
theorem eqd_same {K : W.Frag} {H : Hp} {a b : Addr} {xs : List V} {ds : List PyData} {Q : VK} (ha : SqL K H a xs) (hb : SqL K H b xs) (d : DpAll K H xs ds) (hs : SeqAt.shaped (.list ds) = true) (q : Q (.bl true) H) : rEqD K (.ref a) (.ref b) H Q :=
  ⟨.list ds, .list ds, .lst ha d, .lst hb d, hs, hs, by rw [SeqAt.eqv_refl _ (SeqAt.canLay_of_shaped hs)]; exact q⟩
theorem tl20 {qs : List Rat} (h : ∀ q ∈ qs, Low 112 q) (l : qs.length ≤ 20) : Low 2261 (total qs) := (total_low qs h).more (by omega)
theorem tl_take {qs : List Rat} (h : ∀ q ∈ qs, Low 112 q) (l : qs.length ≤ 20) (i : Nat) : Low 2261 (total (qs.take i)) := tl20 (fun q m => h q (List.mem_of_mem_take m)) (Nat.le_trans (by rw [List.length_take]; exact Nat.min_le_right _ _) l)
/-! ### texts that can be laid -/
theorem sok_of (s : String) : PyData.strOk (Str.ofString s) = true := by
  unfold PyData.strOk
  rw [Str.ofString_eq_toList, Array.all_eq_true_iff_forall_mem]
  intro c hc
  obtain ⟨x, _, rfl⟩ := List.mem_map.mp (List.mem_toArray.mp hc)
  refine decide_eq_true ?_
  have h := x.valid
  show x.val.toNat < 0x110000
  rcases h with h | ⟨_, h⟩
  · have : x.val.toNat < 0xd800 := h
    omega
  · exact h
theorem sok_app {a b : Str} (h : PyData.strOk a = true) (h' : PyData.strOk b = true) : PyData.strOk (a ++ b) = true := by
  unfold PyData.strOk at *
  rw [show (a ++ b).cps = a.cps ++ b.cps from rfl, Array.all_append, h, h']
  rfl
theorem sok_emp : PyData.strOk Str.empty = true := by
  unfold PyData.strOk Str.empty
  rw [Array.all_eq_true_iff_forall_mem]
  intro c hc
  exact absurd hc (Array.not_mem_empty c)
theorem sok_shown (q : Rat) : PyData.strOk (Am.shown q) = true := sok_app (sok_app (sok_app (sok_app (sok_app sok_emp (sok_of _)) (sok_of _)) (sok_of _)) (sok_of _)) (sok_of _)
theorem shaped_strs {xs : List Str} (h : ∀ x ∈ xs, PyData.strOk x = true) : SeqAt.shaped (.list (xs.map .str)) = true := by
  have c : ∀ xs : List Str, (∀ x ∈ xs, PyData.strOk x = true) → PyData.canLayAll0 (xs.map .str) = true := by
    intro xs
    induction xs with
    | nil => intro _; simp only [List.map_nil, PyData.canLayAll0]
    | cons x r ih => intro h; simp only [List.map_cons, PyData.canLayAll0, PyData.canLay0, h x List.mem_cons_self, ih fun y m => h y (List.mem_cons_of_mem _ m), Bool.and_self]
  have d : ∀ xs : List Str, PyData.depthAll (xs.map .str) = 0 := by
    intro xs
    induction xs with
    | nil => simp only [List.map_nil, PyData.depthAll]
    | cons x r ih => simp only [List.map_cons, PyData.depthAll, PyData.depth, ih, Nat.max_self]
  unfold SeqAt.shaped
  simp only [PyData.canLay0, PyData.depth, c xs h, d xs, Bool.true_and]
  decide
theorem dp_strs {K : W.Frag} {H : Hp} : ∀ xs : List Str, DpAll K H (xs.map V.str) (xs.map PyData.str)
  | [] => .nil
  | x :: r => .cons (.str x) (dp_strs r)
abbrev nRow : List Str := ["_law_pot_here", "_law_parts", "_law_made_here", "_law_there", "_law_back", "_law_each", "_law_due", "_law_part_here", "_law_turn"]
abbrev DnS (P : Program) (w : World) (K : W.Frag) (mg : Str → Option Value) (base : Heap) : Prop := Dn P w K mg base CX0 2 "_law_sum" ["_law_left", "_law_right_here"] (spPair K fun q p => q + p)
def spTrue1 : Sp := fun vs H Q _ => ∃ p : Addr, vs = [.ref p] ∧ Pot H p ∧ ∀ H', Kp p H H' → Q (.bl true) H'
end
end KA

set_option Elab.async false
set_option linter.all false
set_option maxRecDepth 100000
set_option maxHeartbeats 4000000
/-! repr of data, told by the units alone (in a suite of except, an error is handled). -/
namespace Gd
open PySem PySem.Spec PyProof.Rows L2
theorem call_reprU {X : Cx} (hG : Bare X.A) (hu : X.A.units + 64 < cLine) : CallR X (.builtin "repr") rRepr := by
  intro pins s σ H vs us Q I r want
  obtain ⟨x, as, d, t, rfl, rp, hd, hz, q⟩ := want
  obtain ⟨u, rfl, ru⟩ := vals1 r

  have fin : ∀ h' u2 tk, (∀ b o, s.heap.get? b = some o → h'.get? b = some o) → EP X pins σ Q (.str t u2) { s with heap := h', toks := tk } := fun h' u2 tk k => ⟨.str t, H, I.kept k, ⟨u2, rfl⟩, q⟩
  cases rp with
  | non =>
    cases ru
    exact PySem.P.repr_of_none (fin s.heap _ _ fun _ _ e => e)
  | bl b =>
    cases ru
    exact PySem.P.repr_of_bool (fin s.heap _ _ fun _ _ e => e)
  | int i z =>
    obtain ⟨tk, rfl⟩ := ru
    exact PySem.P.repr_of_int z (fin s.heap _ _ fun _ _ e => e)
  | str y z =>
    obtain ⟨tk, rfl⟩ := ru
    exact PySem.P.repr_of_str (fin s.heap _ _ fun _ _ e => e) z
  | @lst _ as0 d a xs ts ha na sub nl it =>
    obtain rfl : u = Value.ref a := ru
    obtain ⟨_, its, n, rv, ho⟩ := (show ObjOk X.prog X.w H s.heap a (.lst xs) from I.hok a _ ha)
    have nits := rv.length
    refine repr_slot ⟨_, ho, rfl⟩ F.slot_list_repr.toG (by omega) ?_
    cases its with
    | nil =>
      have e1 : ts = [] := List.length_eq_zero_iff.mp (by rw [nl]; simpa using nits)
      subst e1
      exact PySem.call_list_repr_empty ⟨_, ho, rfl⟩ ho rfl ⟨⟨_, _, rfl⟩, fin s.heap _ _ fun _ _ e => e⟩
    | cons y l =>
      refine PySem.call_list_reprK (g := []) (as := as0) (d := d) (h₀ := s.heap) ho rfl rfl na (by rw [nl, nits]; simp) (fun i z hz => ?_) hG (fun b _ => Clear.nil b) (by show X.A.units + 1 + (d + 1) < cLine; omega) (fun _ _ e => e)
        (fun h' u2 tk k => ⟨⟨_, _, rfl⟩, fin h' u2 tk k⟩) hz
      have hz' : (y :: l)[i]? = some z := by simpa using hz
      have hi : i < xs.length := by
        rw [nits]
        exact (List.getElem?_eq_some_iff.mp hz').1
      obtain ⟨u2, hu2, r2⟩ := rv.get (List.getElem?_eq_getElem hi)
      rw [hz'] at hu2
      cases hu2
      exact ⟨ts[i]'(by omega), List.getElem?_eq_getElem _, (it i _ _ (List.getElem?_eq_getElem hi) (List.getElem?_eq_getElem _)).repr I.hok z r2⟩
  | @tup _ as0 d a xs ts ha na sub nl it =>
    obtain rfl : u = Value.ref a := ru
    have rk := (Rp.tup ha na sub nl it).repr I.hok (.ref a) rfl
    obtain ⟨_, its, rv, o, ho, hc, n, hdt⟩ := (show ObjOk X.prog X.w H s.heap a (.tup xs) from I.hok a _ ha)
    refine repr_slot ⟨_, ho, hc⟩ F.slot_tuple_repr (by omega) ?_
    refine PySem.call_tuple_reprK (g := []) (as := as0) (d := d) (h₀ := s.heap) ho hc hdt na ?_ hG (fun b _ => Clear.nil b) (by show X.A.units + 1 + (d + 1) < cLine; omega) (fun _ _ e => e)
        (fun h' u2 tk k => ⟨⟨_, _, rfl⟩, fin h' u2 tk k⟩) hz
    have all : ∀ (xs : List V) (its : List Value) (ts : List Str), Vals xs its → ts.length = xs.length → (∀ (i : Nat) (x : V) (t : Str), xs[i]? = some x → ts[i]? = some t → ∀ u, RelV x u → ReprK X.prog X.w as0 s.heap d u t) → ReprAllK X.prog X.w as0 s.heap d its ts := by
      intro xs its ts rv
      induction rv generalizing ts with
      | nil =>
        intro e _
        have e1 : ts = [] := List.length_eq_zero_iff.mp (by simpa using e)
        subst e1
        exact .nil
      | cons r1 _ ihh =>
        intro e k
        cases ts with
        | nil => simp at e
        | cons t ts =>
          exact .cons (k 0 _ _ rfl rfl _ r1) (ihh ts (by simpa using e) fun i x t h1 h2 => k (i + 1) x t (by simpa using h1) (by simpa using h2))
    simpa using all xs its ts rv nl fun i x t h1 h2 => (it i x t h1 h2).repr I.hok
  | @dic _ as0 d a kvs ps ha na sub nl ke it =>
    obtain rfl : u = Value.ref a := ru
    obtain ⟨_, hsys, vs, kv, o, es, ep, ho, hx, hdt, _, pr, _⟩ := (show ObjOk X.prog X.w H s.heap a (.dK kvs) from I.hok a _ ha)
    refine repr_slot ⟨_, ho, hx.1⟩ F.slot_dict_repr (by omega) ?_
    refine PySem.call_dict_reprK (g := []) (as := as0) (d := d) (h₀ := s.heap) ho hx.1 hdt hsys na ?_ hG (fun b _ => Clear.nil b) (by show X.A.units + 1 + (d + 1) < cLine; omega) (fun _ _ e => e)
        (fun h' u2 tk k => ⟨⟨_, _, rfl⟩, fin h' u2 tk k⟩) hz
    obtain ⟨n1, n2⟩ := kv_pairs kv pr
    have all : ∀ (l : List DictEntry) (qs : List (Str × Str)), qs.length = l.length → (∀ (i : Nat) (e : DictEntry) (p : Str × Str), l[i]? = some e → qs[i]? = some p → ReprK X.prog X.w as0 s.heap d e.key p.1 ∧ ReprK X.prog X.w as0 s.heap d e.val p.2) →
        ReprEntriesK X.prog X.w as0 s.heap d l (qs.map fun p => p.1 ++ ": " ++ p.2) := by
      intro l
      induction l with
      | nil =>
        intro qs e _
        have e1 : qs = [] := List.length_eq_zero_iff.mp (by simpa using e)
        subst e1
        exact .nil
      | cons e l ihh =>
        intro qs n k
        cases qs with
        | nil => simp at n
        | cons q qs =>
          obtain ⟨k1, k2⟩ := k 0 e q rfl rfl
          exact .cons k1 k2 (ihh qs (by simpa using n) fun i e p h1 h2 => k (i + 1) e p (by simpa using h1) (by simpa using h2))
    refine all es.toList ps (by rw [nl, n1]) fun i e p h1 h2 => ?_
    obtain ⟨q, hq, hk, hv⟩ := n2 i e h1
    exact ⟨keyT_repr (ke i q p hq h2) hk, (it i q p hq h2).repr I.hok _ hv⟩
end Gd

set_option Elab.async false
set_option linter.all false
set_option maxRecDepth 100000
set_option maxHeartbeats 1000000
set_option exponentiation.threshold 20000
namespace KA
open PySem PySem.Spec PyProof.Rows L2 Oo Gd Am
/-- what the text says of the class of DividedByZero, once more -/
structure Zq (K : W.Frag) (mg : Str → Option Value) (Z ZA : Addr) : Prop where
  mgZ : mg "DividedByZero" = some (.ref Z)
  mgA : mg "AmountError" = some (.ref ZA)
  xf : XfC K Z
  no : W.findIn K (.ref Z) "rule" = some none
  ea : Ge.EA K Z
  exm : W.exmOne K (.ref Z) (.ref Z) = some true
  kA : W.kitOne K (.ref Z) (.ref ZA) = some true
  kR : W.kitOne K (.ref Z) (.type "ArithmeticError") = some true
  kV : W.kitOne K (.ref Z) (.type "ValueError") = some false
abbrev nRef : List Str := ["_law_call", "_law_told", "e"]
theorem heldK {X : Cx} {K : W.Frag} {a : Addr} {oe : Obj} {cls : Value} {d : Option Addr} (_ : IsK K) (hp : (a, oe) ∈ X.pn) (z : Zc cls d oe) (hf : ∃ vs, oe.data = .fields vs) (h : X.K = K := by rfl) : CallR X (.builtin "isinstance") (Gx.rHeld K a cls d) := h ▸ Gx.call_held hp z hf
/-- the text of the refusal -/
def toldZ : Str := tupleText ["None", "True", "True", "False"]
/-- told: the error of the class at Z, which tells None -/
def TTref (Z : Addr) : (XK → Hp → VK → Prop) → Hp → VK → Prop := fun tl H Q =>
  ∀ Q', tl (fun cls d H' => cls = .ref Z ∧ ∃ dx, d = some dx ∧ H' dx = some (.xd [("rule", .non)]) ∧ ∀ H2, Am.Ext H' H2 → Q (.str toldZ) H2) H Q'
/-- the state of the frame has its length -/
theorem takes_len {X : Cx} {W : WX} (tk : Takes X W) : Takes X fun cls d σ H => σ.length = X.N.length → W cls d σ H := fun e s' x => by
  obtain ⟨a, B, sI, pins, σ, H, cls, d, he, J, nb, up, sky, na, os, ag, w⟩ := x
  exact tk e s' ⟨a, B, sI, pins, σ, H, cls, d, he, J, nb, up, sky, na, os, ag, w J.len⟩
end KA

set_option Elab.async false
set_option linter.all false
set_option maxRecDepth 100000
set_option maxHeartbeats 1000000
set_option exponentiation.threshold 20000
/-! a fraction rounded to no places is its floor's text. -/
namespace KA
open PySem PySem.Spec PyProof.Rows L2 Oo Gd Am
theorem nat_text_pos (n : Nat) : 1 ≤ (Str.ofString (toString ((n : Nat) : Int))).length := by
  rw [PySem.ofString_length]
  show 1 ≤ (Nat.repr n).length
  rw [Nat.repr, String.length_ofList]
  exact Nat.length_toDigits_pos
theorem zf_one {x : Str} (h : 1 ≤ x.length) : zf x 1 = x := by
  unfold zf
  rw [show 1 - x.length = 0 by omega]
  simp
theorem of_app (a b : String) : Str.ofString (a ++ b) = Str.ofString a ++ Str.ofString b := by
  rw [Str.ofString_eq_toList, Str.ofString_eq_toList, Str.ofString_eq_toList]
  show _ = Str.mk (_ ++ _)
  simp
theorem dec0 (q : Rat) : dec q 0 = Str.ofString (toString (q.num / (q.den : Int))) := by
  unfold dec
  rw [if_pos rfl]
  have e : steps q 0 = q.num / (q.den : Int) := by
    unfold steps
    rw [Int.pow_zero, Int.mul_one]
  rw [e]
  generalize q.num / (q.den : Int) = n
  unfold mark digs
  by_cases h : n < 0
  · rw [if_pos h, if_pos h]
    obtain ⟨m, rfl⟩ : ∃ m : Nat, n = Int.negSucc m := by
      cases n with
      | ofNat m => exact absurd h (Int.not_lt.mpr (Int.natCast_nonneg m))
      | negSucc m => exact ⟨m, rfl⟩
    rw [show -(Int.negSucc m) = ((m + 1 : Nat) : Int) from rfl, zf_one (nat_text_pos (m + 1))]
    rw [← of_app]
    rfl
  · rw [if_neg h, if_neg h]
    obtain ⟨m, rfl⟩ : ∃ m : Nat, n = (m : Int) := ⟨n.toNat, by omega⟩
    rw [zf_one (nat_text_pos m)]
    have e0 : Str.ofString "" = Str.empty := by decide
    rw [e0]
    exact emp _
theorem sign_eq (n : Int) : ((if decide (0 < n) = true then (1 : Int) else 0) - (if decide (n < 0) = true then 1 else 0)) = n.sign := by
  rcases Int.lt_trichotomy n 0 with h | h | h
  · rw [Int.sign_eq_neg_one_of_neg h, if_neg (by simp; omega), if_pos (by simpa using h)]
    rfl
  · subst h
    rfl
  · rw [Int.sign_eq_one_of_pos h, if_pos (by simpa using h), if_neg (by simp; omega)]
    rfl
theorem no_rnd (q : Rat) : (flds q).lookup ("rounded" : Str) = none := by
  show List.lookup ("rounded" : Str) [("_top", V.int q.num), ("_bottom", V.int q.den)] = _
  have n1 : ("rounded" : Str) ≠ "_top" := by decide +kernel
  have n2 : ("rounded" : Str) ≠ "_bottom" := by decide +kernel
  rw [List.lookup_cons, beq_eq_false_iff_ne.mpr n1, List.lookup_cons, beq_eq_false_iff_ne.mpr n2]
  rfl
end KA

set_option Elab.async false
set_option linter.all false
set_option maxRecDepth 100000
set_option maxHeartbeats 1000000
set_option exponentiation.threshold 20000
namespace KA
open PySem PySem.Spec PyProof.Rows L2 Oo Gd Am
/-- a special method of one operand, with its promise -/
structure Una (P : Program) (w : World) (K : W.Frag) (mg : Str → Option Value) (base : Heap) (C : Addr) (nm : Str) (k : Nat) (sp : Sp) : Prop where
  of : ∃ f fd, W.findIn K (.ref C) nm = some (some (.ref f)) ∧ W.isFn K (.ref f) = true ∧ FnOk P w K mg base CX0 k f fd ["self"] sp ∧ Binds K fd ["self"] []
structure Pow (P : Program) (w : World) (K : W.Frag) (mg : Str → Option Value) (base : Heap) (C : Addr) : Prop where
  of : ∃ f g fd ps, OwnBin K C (Operator.Pow).info.2 f g ∧ FnOk P w K mg base CX0 6 f fd ps (spPow C) ∧ Binds K fd ps []
structure Rnd (P : Program) (w : World) (K : W.Frag) (mg : Str → Option Value) (base : Heap) (C : Addr) : Prop where
  of : ∃ f fd, Meth K C "rounded" f ∧ FnOk P w K mg base CX0 3 f fd ["self", "places"] (spRound C) ∧ Binds K fd ["self", "places"] [] ∧ KBn K fd ["self", "places"] 1 [("places" : Str)] (fun us ws => us ++ ws) (fun us ws => us ++ ws)
structure OfK (P : Program) (w : World) (K : W.Frag) (mg : Str → Option Value) (base : Heap) (C : Addr) : Prop where
  of : ∃ mc p g fd, ClX.CRead K C mc ∧ SMet K C mc "of" p g ∧ FnOk P w K mg base CX0 4 g fd ["number"] (spOf C) ∧ KBn K fd ["number"] 0 [("number" : Str)] (fun us ws => us ++ ws) (fun us ws => us ++ ws)
section
variable {X : Cx} {C : Addr} {k : Nat}
def rP (C : Addr) : R2 := fun x y H Q => ∃ a q i, x = .ref a ∧ y = .int i ∧ Is C H a q ∧ Low 330 q ∧ 0 ≤ i ∧ i ≤ 12 ∧ New C H Q (q ^ i.toNat)
theorem op_P (D : Pow X.prog X.w X.K X.mg X.base C) (hr : Room 6 X.A) : OpR X (binaryOp .Pow) (rP C) := fun pins s σ H x y v u Q I rx ry hh => by
  obtain ⟨f, g, fd, ps, B, F, b⟩ := D.of
  obtain ⟨a, q, i, rfl, rfl, ia, lw, h0, h12, z⟩ := hh
  obtain ⟨dx, ea⟩ := id ia
  exact op_left (E := E0) B F b pass0 hr pins s σ H _ _ v u Q I rx ry (.inr (.inl ⟨a, dx, _, i, rfl, rfl, ea, a, q, i, rfl, ia, lw, h0, h12, z⟩))
def rAbs (C : Addr) : List V → Hp → VK → Prop := fun xs H Q => ∃ a q, xs = [V.ref a] ∧ Is C H a q ∧ Sz q ∧ New C H Q (aq q)
theorem call_absN (U : Una X.prog X.w X.K X.mg X.base C "__abs__" 4 (spUn C aq)) (hr : Room 5 X.A) : CallR X (.builtin "abs") (rAbs C) := fun pins s σ H xs us Q I r h => by
  obtain ⟨f, fd, hs, hf, F, b⟩ := U.of
  obtain ⟨a, q, rfl, ia, sz, z⟩ := h
  obtain ⟨dx, ea⟩ := id ia
  exact call_absO (E := E0) hs hf F b hr pass0 pins s σ H _ us Q I r ⟨a, dx, _, rfl, ea, a, q, rfl, ia, sz, fun r' H' e n i => ⟨trivial, z r' H' e n i⟩⟩
def rBool (C : Addr) : List V → Hp → VK → Prop := fun xs H Q => ∃ a q, xs = [V.ref a] ∧ Is C H a q ∧ Q (.bl (decide (q.num ≠ 0))) H
theorem call_boolN (U : Una X.prog X.w X.K X.mg X.base C "__bool__" 1 (spBool C)) (hr : Room 3 X.A) : CallR X (.type "bool") (rBool C) := fun pins s σ H xs us Q I r h => by
  obtain ⟨f, fd, hs, hf, F, b⟩ := U.of
  obtain ⟨a, q, rfl, ia, z⟩ := h
  obtain ⟨dx, ea⟩ := id ia
  exact call_boolO (E := E0) hs hf F b hr pass0 pins s σ H _ us Q I r ⟨a, dx, _, rfl, ea, a, q, rfl, ia, ⟨_, rfl⟩, z⟩
def rStrN (C : Addr) : List V → Hp → VK → Prop := fun xs H Q => ∃ a q, xs = [V.ref a] ∧ Is C H a q ∧ Low 8000 q ∧ Q (.str (written q)) H
theorem call_strN (U : Una X.prog X.w X.K X.mg X.base C "__str__" 1 (spText C written)) (hr : Room 3 X.A) : CallR X (.type "str") (rStrN C) := fun pins s σ H xs us Q I r h => by
  obtain ⟨f, fd, hs, hf, F, b⟩ := U.of
  obtain ⟨a, q, rfl, ia, lw, z⟩ := h
  obtain ⟨dx, ea⟩ := id ia
  exact call_strO (E := E0) hs hf F b hr pass0 pins s σ H _ us Q I r ⟨a, dx, _, rfl, ea, a, q, rfl, ia, lw, ⟨_, rfl⟩, z⟩
end
/-! ### repr of a list of short data -/
inductive RpAll (H : Hp) : List V → List Str → Prop
  | nil : RpAll H [] []
  | cons {x : V} {t : Str} {xs : List V} {ts : List Str} : Rp H [] 0 x t → t.length ≤ 3000 → RpAll H xs ts → RpAll H (x :: xs) (t :: ts)
theorem RpAll.len {H : Hp} : ∀ {xs : List V} {ts : List Str}, RpAll H xs ts → ts.length = xs.length
  | _, _, .nil => rfl
  | _, _, .cons _ _ r => by rw [List.length_cons, List.length_cons, r.len]
theorem RpAll.it {H : Hp} : ∀ {xs : List V} {ts : List Str}, RpAll H xs ts → ∀ (i : Nat) (x : V) (t : Str), xs[i]? = some x → ts[i]? = some t → Rp H [] 0 x t
  | _, _, .nil, i, x, t, h, _ => by simp at h
  | _, _, .cons a _ r, 0, x, t, h1, h2 => by
    cases (show some _ = some x from h1)
    cases (show some _ = some t from h2)
    exact a
  | _, _, .cons a _ r, i + 1, x, t, h1, h2 => RpAll.it r i x t h1 h2
theorem RpAll.piled {H : Hp} : ∀ {xs : List V} {ts : List Str}, RpAll H xs ts → piled ts ≤ 3002 * ts.length
  | _, _, .nil => Nat.zero_le _
  | _, _, .cons _ h r => by
    have := r.piled
    rw [piled_cons, List.length_cons]
    omega
theorem rp_list {H : Hp} {a : Addr} {xs : List V} {ts : List Str} {Q : VK} (h : H a = some (.lst xs)) (r : RpAll H xs ts) (hn : xs.length ≤ 30) (z : Q (.str (listText ts)) H) : rRepr [.ref a] H Q :=
  ⟨.ref a, [a], 1, _, rfl, .lst (as0 := []) h (by simp) (fun b hb => hb) r.len r.it, by decide, by
    have h1 := listText_le ts
    have h2 := r.piled
    have h3 := r.len
    have h4 : (1000000 : Nat) ≤ sizeLine := by decide
    omega, z⟩
theorem rpL {H : Hp} {a : Addr} {xs : List V} {ts : List Str} (h : H a = some (.lst xs)) (r : RpAll H xs ts) : Rp H [a] 1 (.ref a) (listText ts) := .lst (as0 := []) h (by simp) (fun b hb => hb) r.len r.it
theorem rpz {H : Hp} {xs : List V} {ts : List Str} (r : RpAll H xs ts) (hn : xs.length ≤ 30) : (listText ts).length ≤ sizeLine := by
  have h1 := listText_le ts
  have h2 := r.piled
  have h3 := r.len
  have h4 : (1000000 : Nat) ≤ sizeLine := by decide
  omega
theorem rp_str {H : Hp} {x : Str} (h : PyData.strOk x = true) (l : x.length ≤ 240) : Rp H [] 0 (.str x) (reprText x) ∧ (reprText x).length ≤ 3000 := by
  have z := StrLaws.reprText_len x fun c hc => by
    have h' := h
    unfold PyData.strOk at h'
    rw [Array.all_eq_true_iff_forall_mem] at h'
    exact Nat.lt_trans (of_decide_eq_true (h' c (Array.mem_toList_iff.mp hc))) (by decide)
  have h4 : (1000000 : Nat) ≤ sizeLine := by decide
  exact ⟨.str x (by omega), by omega⟩
theorem rp_int {H : Hp} {i : Int} (h : i.natAbs < 2 ^ 112) : Rp H [] 0 (.int i) (toString i) ∧ (Str.ofString (toString i)).length ≤ 3000 := by
  have l := len_of (n := 112) (by decide) h
  refine ⟨.int i ?_, by omega⟩
  by_cases z : i.natAbs = 0
  · rw [z]; decide
  · exact (Nat.log2_lt z).mpr (Nat.lt_of_lt_of_le h (Nat.pow_le_pow_right (by decide) (by decide)))
theorem shown_len {q : Rat} (h : Low 112 q) : (Am.shown q).length ≤ 240 := by
  have l1 := len_of (by decide) h.1
  have l2 := len_of (n := 112) (i := (q.den : Int)) (by decide) (by rw [Int.natAbs_natCast]; exact h.2)
  have k1 : (Str.ofString "Amount(").length = 7 := by decide
  have k2 : (Str.ofString ", ").length = 2 := by decide
  have k3 : (Str.ofString ")").length = 1 := by decide
  rw [Am.shown, emp]
  simp only [strLen_append, k1, k2, k3]
  omega
theorem written_len {q : Rat} (h : Low 112 q) : (written q).length ≤ 240 := by
  have l1 := len_of (by decide) h.1
  have l2 := len_of (n := 112) (i := (q.den : Int)) (by decide) (by rw [Int.natAbs_natCast]; exact h.2)
  have k1 : (Str.ofString "/").length = 1 := by decide
  unfold written
  split
  · omega
  · rw [emp]
    simp only [strLen_append, k1]
    omega
theorem sok_written (q : Rat) : PyData.strOk (written q) = true := by
  unfold written
  split
  · exact sok_of _
  · exact sok_app (sok_app (sok_app sok_emp (sok_of _)) (sok_of _)) (sok_of _)
theorem low_neg {n : Nat} {q : Rat} (h : Low n q) : Low n (-q) := ⟨by show (-q.num).natAbs < _; rw [Int.natAbs_neg]; exact h.1, h.2⟩
theorem low_aq {n : Nat} {q : Rat} (h : Low n q) : Low n (aq q) := by
  unfold aq
  split
  · exact low_neg h
  · exact h
theorem aq_num (q : Rat) : (aq q).num = if q.num < 0 then -q.num else q.num := by
  unfold aq
  by_cases h : q.num < 0
  · rw [if_pos h, if_pos h]; rfl
  · rw [if_neg h, if_neg h]
theorem aq_den (q : Rat) : (aq q).den = q.den := by
  unfold aq
  split <;> rfl
theorem tyL {K : W.Frag} {H : Hp} {a : Addr} {xs : List V} (h : H a = some (.lst xs)) : tyV K "list" (.ref a) H := .inl ⟨rfl, xs, SqL.of h⟩
/-- what both of alone_right's lists hold -/
def eight (q : Rat) : List V := [.int q.num, .int q.den, .int q.num.sign, .bl (decide (q.num ≠ 0)), .str (written q), .str (Am.shown q), .str (Am.shown (-q)), .str (Am.shown (aq q))]
def eightT (q : Rat) : List Str := [(toString q.num : String), (toString (q.den : Int) : String), (toString q.num.sign : String), (if decide (q.num ≠ 0) = true then Str.ofString "True" else Str.ofString "False"), reprText (written q), reprText (Am.shown q), reprText (Am.shown (-q)), reprText (Am.shown (aq q))]
theorem eight_rp {H : Hp} {q : Rat} (h : Low 112 q) : RpAll H (eight q) (eightT q) := by
  have a1 := rp_int (H := H) h.1
  have a2 := rp_int (H := H) (i := (q.den : Int)) (by rw [Int.natAbs_natCast]; exact h.2)
  have a3 := rp_int (H := H) (i := q.num.sign) (Nat.lt_of_le_of_lt (by rw [Int.natAbs_sign]; split <;> decide) (show 1 < 2 ^ 112 by decide))
  have a5 := rp_str (H := H) (sok_written q) (written_len h)
  have a6 := rp_str (H := H) (sok_shown q) (shown_len h)
  have a7 := rp_str (H := H) (sok_shown (-q)) (shown_len (low_neg h))
  have a8 := rp_str (H := H) (sok_shown (aq q)) (shown_len (low_aq h))
  exact .cons a1.1 a1.2 (.cons a2.1 a2.2 (.cons a3.1 a3.2 (.cons (.bl _) (by split <;> decide) (.cons a5.1 a5.2 (.cons a6.1 a6.2 (.cons a7.1 a7.2 (.cons a8.1 a8.2 .nil)))))))
/-! ### powers -/
theorem Low.mul {n m : Nat} {q p : Rat} (h : Low n q) (h' : Low m p) : Low (n + m) (q * p) := by
  rw [← mul_rat]
  obtain ⟨b1, b2⟩ := divInt_le (q.num * p.num) ((q.den : Int) * (p.den : Int)) (den_den q p)
  exact ⟨Nat.lt_of_le_of_lt b1 (mul_bits h.1 h'.1), Nat.lt_of_le_of_lt b2 (mul_bits (KA.low_den h) (KA.low_den h'))⟩
theorem pow_lows {q : Rat} (h : Low 112 q) : ∀ i : Nat, Low (112 * i + 1) (q ^ i)
  | 0 => by
    rw [Rat.pow_zero]
    exact ⟨by decide, by decide⟩
  | i + 1 => by
    rw [Rat.pow_succ]
    exact ((pow_lows h i).mul h).more (by omega)
def pows (q : Rat) (n : Nat) : List Rat := (List.range n).map fun i => q ^ i
theorem pows_succ (q : Rat) (n : Nat) : pows q (n + 1) = pows q n ++ [q ^ n] := by
  unfold pows
  rw [List.range_succ, List.map_append]
  rfl
def TpR (H : Hp) (x : V) (r : Rat) : Prop := ∃ t, x = .ref t ∧ H t = some (.tup [.int r.num, .int r.den])
theorem TpR.ns {H H' : Hp} {x : V} {r : Rat} (h : TpR H x r) (n : Ns H H') : TpR H' x r := let ⟨t, e, z⟩ := h; ⟨t, e, n _ _ (fun _ => HO.noConfusion) z⟩
def IsR (C : Addr) (H : Hp) (x : V) (r : Rat) : Prop := ∃ a, x = .ref a ∧ Is C H a r
theorem IsR.ext {C : Addr} {H H' : Hp} {x : V} {r : Rat} (h : IsR C H x r) (e : Am.Ext H H') : IsR C H' x r := let ⟨a, x, i⟩ := h; ⟨a, x, i.ext e⟩
theorem A2.uncons {R : V → Rat → Prop} {xs : List V} {q : Rat} {qs : List Rat} (h : A2 R xs (q :: qs)) : ∃ x ys, xs = x :: ys ∧ R x q ∧ A2 R ys qs := by
  cases h with
  | cons a b => exact ⟨_, _, rfl, a, b⟩
theorem cut1 (x : V) (ys : List V) : cutV (x :: ys) (some 1) none = ys := by
  have e : HT.sIx (x :: ys).length 0 (some 1) = 1 := by
    have := HT.sIx_nat (x :: ys).length 0 1
    rw [List.length_cons] at this ⊢
    rw [show (some (1 : Int)) = some ((1 : Nat) : Int) from rfl, this]
    omega
  unfold cutV
  rw [e, HT.sIx_none]
  simp
theorem ned_same {K : W.Frag} {H : Hp} {a b : Addr} {xs : List V} {ds : List PyData} {Q : VK} (ha : SqL K H a xs) (hb : SqL K H b xs) (d : DpAll K H xs ds) (hs : SeqAt.shaped (.list ds) = true) (q : Q (.bl false) H) : rNeD K (.ref a) (.ref b) H Q :=
  ⟨.list ds, .list ds, .lst ha d, .lst hb d, hs, hs, by rw [SeqAt.eqv_refl _ (SeqAt.canLay_of_shaped hs)]; exact q⟩
def shs (rs : List Rat) : List V := rs.map fun r => V.str (Am.shown r)
theorem shs_snoc (rs : List Rat) (r : Rat) : shs (rs ++ [r]) = shs rs ++ [.str (Am.shown r)] := by
  unfold shs
  rw [List.map_append]
  rfl
theorem shs_len (rs : List Rat) : (shs rs).length = rs.length := List.length_map _
theorem shs_dp {K : W.Frag} {H : Hp} (rs : List Rat) : DpAll K H (shs rs) ((rs.map Am.shown).map PyData.str) := by
  have := dp_strs (K := K) (H := H) (rs.map Am.shown)
  rw [List.map_map] at this
  exact this
theorem shs_ok (rs : List Rat) : SeqAt.shaped (.list ((rs.map Am.shown).map PyData.str)) = true := shaped_strs fun x m => by
  obtain ⟨r, _, rfl⟩ := List.mem_map.mp m
  exact sok_shown r
/-- what alone_right asks -/
structure Al (P : Program) (w : World) (K : W.Frag) (mg : Str → Option Value) (base : Heap) (C : Addr) : Prop where
  nb : base.NoDigits
  fr : Frees mg
  B : Base P w K mg base C
  O : Of P w K mg base C
  OK : OfK P w K mg base C
  R : Rep P w K mg base C
  N : Neg P w K mg base C
  ab : Una P w K mg base C "__abs__" 4 (spUn C aq)
  bo : Una P w K mg base C "__bool__" 1 (spBool C)
  st : Una P w K mg base C "__str__" 1 (spText C written)
  pw : Pow P w K mg base C
  rn : Rnd P w K mg base C
  DD : DnD P w K mg base
  DM : Dn P w K mg base CX0 4 "_law_made" ["_law_pot_here", "_law_part_here", "_law_is_plain"] (spMade K C)
  DH : Dn P w K mg base CX0 1 "_law_shown" ["_law_part_here"] (spTxt K shown)
  DW : Dn P w K mg base CX0 1 "_law_written" ["_law_part_here"] (spTxt K written)
  DF : Dn P w K mg base CX0 1 "_law_floor" ["_law_part_here"] (spFloor K)
  DC : Dn P w K mg base CX0 2 "_law_decimal" ["_law_part_here", "_law_size"] (spDec K)
  DT : Dn P w K mg base CX0 2 "_law_times" ["_law_left", "_law_right_here"] (spPair K fun q p => q * p)
abbrev nAl : List Str := ["_law_pot_here", "_law_part_here", "_law_made_here", "_law_told", "_law_due", "_law_size", "_law_powers", "_law_turn", "_law_some", "_law_each"]
def spTrue2 (K : W.Frag) : Sp := fun vs H Q _ => ∃ (p t : Addr) (q : Rat), vs = [.ref p, .ref t] ∧ Pot H p ∧ t ≠ p ∧ H t = some (.tup [.int q.num, .int q.den]) ∧ Low 112 q ∧ ∀ H', Kp p H H' → Q (.bl true) H'
section
variable {P : Program} {w : World} {K : W.Frag} {mg : Str → Option Value} {base : Heap} {f C : Addr} {fd : FuncData}
end
end KA

set_option Elab.async false
set_option linter.all false
set_option maxRecDepth 100000
set_option maxHeartbeats 1000000
set_option exponentiation.threshold 20000
namespace KA
open PySem PySem.Spec PyProof.Rows L2 Oo Gd Am
/-- a def whose code object stands at c -/
structure FunC (K : W.Frag) (x qual : Str) (st : Stmt) (f c : Addr) (fd : FuncData) : Prop where
  ex : ∃ (oc : Value) (od : Option Addr) (kV doc pm : Value) (an : Option Addr) (ct : Value) (osl : Array (Option Value)),
    fd = W.fnOf x qual (defArgs st) (defBody st) (defScope st) .none kV doc pm an (.ref c) ct ∧ K.lookup f = some ⟨oc, od, .func fd, osl⟩ ∧ W.codeIn K (.ref c) qual = true
  kp : W.keepIn K (.ref f) = true
section
variable {P : Program} {w : World} {K : W.Frag} {mg : Str → Option Value} {base : Heap}
theorem okGc {x qual : Str} {st : Stmt} {f c : Addr} {fd : FuncData} {N ps : List Str} {k : Nat} {sp : Sp} (F : FunC K x qual st f c fd) (S : FnScope N ps (defScope st)) (len : ∀ vs H Q E, sp vs H Q E → vs.length = ps.length)
    (walk : ∀ (A : Around) (outer : List Env) (s : Shared) (H : Hp) (vs : List V) (Q : VK) (E : XK), Bare (A.deeper (envOfC qual (defScope st) s.heap.objs.size f (.ref c))) →
      Room k (A.deeper (envOfC qual (defScope st) s.heap.objs.size f (.ref c))) → sp vs H Q E →
      ∃ t, PSs (cxOf CX0 P w K mg base N qual (defScope st) f (.ref c) A outer s H E).nox (defBody st) t ∧ t { nx := fun _ H' => Q .non H', rt := Q } (start N vs) H) :
    FnG P w K mg base CX0 (k + 1) f fd ps sp := by
  obtain ⟨oc, od, kV, doc, pm, an, ct, osl, rfl, at_, code⟩ := F.ex
  refine fnG_of at_ code S len (fun A outer s H vs Q E hg hr want => ?_)
  obtain ⟨t, h, q⟩ := walk A outer s H vs Q E hg hr want
  exact ⟨t, h.nox, q⟩
end
/-! ### // and % of NUMBERS, one an Amount -/
structure DvI (P : Program) (w : World) (K : W.Frag) (mg : Str → Option Value) (base : Heap) (C Z : Addr) (nm : String) (n k : Nat) (R : Rat → Rat → Hp → VK → Prop) : Prop where
  of : ∃ f g fd gd ps qs, OwnBin K C nm f (some g) ∧ NoIn K C nm ∧ FnOk P w K mg base (L2.CX P w) k f fd ps (spDiv n C Z R) ∧ Binds K fd ps [] ∧ FnOk P w K mg base (L2.CX P w) k g gd qs (spDivR n C Z R) ∧ Binds K gd qs []
def rDN (n : Nat) (C Z : Addr) (R : Rat → Rat → Hp → VK → Prop) (E : XK) : R2 := fun x y H Q => ∃ q p, Num C H x q ∧ Num C H y p ∧ ((∃ a, x = .ref a) ∨ ∃ a, y = .ref a) ∧ Low n q ∧ Low n p ∧ (p ≠ 0 → R q p H Q) ∧ (p = 0 → Refuse Z H E)
theorem conv_div {n : Nat} {C Z : Addr} {R : Rat → Rat → Hp → VK → Prop} {E : XK} {H : Hp} {x y : V} {Q : VK} (hh : rDN n C Z R E x y H Q) : rBin C (spDiv n C Z R) (spDivR n C Z R) E x y H Q := by
  obtain ⟨q, p, nx, ny, one, lq, lp, h1, h2⟩ := hh
  rcases id nx with ⟨i, rfl, _⟩ | ⟨a, rfl, ia⟩
  · rcases id ny with ⟨j, rfl, _⟩ | ⟨b, rfl, ib⟩
    · rcases one with ⟨_, z⟩ | ⟨_, z⟩ <;> cases z
    · obtain ⟨dy, eb⟩ := id ib
      exact .inr (.inr ⟨b, dy, _, i, rfl, rfl, eb, b, _, q, p, rfl, ib, nx, lq, lp, h1, h2⟩)
  · obtain ⟨dx, ea⟩ := id ia
    have z : spDiv n C Z R [V.ref a, y] H Q E := ⟨a, y, q, p, rfl, ia, ny, lq, lp, h1, h2⟩
    rcases id ny with ⟨j, rfl, _⟩ | ⟨b, rfl, dy, eb⟩
    · exact .inr (.inl ⟨a, dx, _, j, rfl, rfl, ea, z⟩)
    · exact .inl ⟨a, dx, _, b, dy, _, rfl, rfl, ea, eb, z⟩
section
variable {X : Cx} {C Z : Addr} {op : Operator} {n k : Nat} {R : Rat → Rat → Hp → VK → Prop} {E : XK}
theorem op_DN (h5 : Five op) (D : DvI X.prog X.w X.K X.mg X.base C Z op.info.2 n k R) (hx : Passes (L2.CX X.prog X.w) X E) (hr : Room k X.A) : OpR X (binaryOp op) (rDN n C Z R E) := fun pins s σ H x y v u Q I rx ry hh => by
  obtain ⟨f, g, fd, gd, ps, qs, B, N, F, b, G, b2⟩ := D.of
  exact op_bin h5 B F b G b2 hx hr pins s σ H x y v u Q I rx ry (conv_div hh)
theorem ip_DN (h5 : Five op) (D : DvI X.prog X.w X.K X.mg X.base C Z op.info.2 n k R) (hx : Passes (L2.CX X.prog X.w) X E) (hr : Room k X.A) : PIp X op (rDN n C Z R E) := fun pins s σ H x y v u Q I rx ry hh => by
  obtain ⟨f, g, fd, gd, ps, qs, B, N, F, b, G, b2⟩ := D.of
  exact iop_bin h5 B N F b G b2 hx hr pins s σ H x y v u Q I rx ry (conv_div hh)
end
end KA

set_option Elab.async false
set_option linter.all false
set_option maxRecDepth 100000
set_option maxHeartbeats 2000000
set_option exponentiation.threshold 20000
namespace KA
open PySem PySem.Spec PyProof.Rows L2 Oo Gd Am
structure OverK (P : Program) (w : World) (K : W.Frag) (mg : Str → Option Value) (base : Heap) (C Z : Addr) : Prop where
  of : ∃ f fd, Meth K C "over" f ∧ FnOk P w K mg base (L2.CX P w) 5 f fd ["self", "other"] (spDiv 4000 C Z fun q p H Q => New C H Q (q / p)) ∧ Binds K fd ["self", "other"] [] ∧ KBn K fd ["self", "other"] 1 [("other" : Str)] (fun us ws => us ++ ws) (fun us ws => us ++ ws)
abbrev nTw : List Str := ["_law_x", "_law_y", "_law_left", "_law_right_here", "_law_shown_here", "_law_held", "_law_told", "_law_due", "_law_kinds", "_law_whole", "_law_rest", "_law_part_here"]
theorem smN_of {C : Addr} {H : Hp} {v : V} {q : Rat} (h : Num C H v q) (l : Low 1900 q) : SmN v q := by
  rcases h with ⟨i, rfl, rfl⟩ | ⟨a, rfl, _⟩
  · have b : i.natAbs < 2 ^ 1900 := l.1
    show i.natAbs.log2 < 1920
    by_cases z : i.natAbs = 0
    · rw [z]; decide
    · exact (Nat.log2_lt z).mpr (Nat.lt_of_lt_of_le b (Nat.pow_le_pow_right (by decide) (by decide)))
  · exact l.more (by decide)
theorem Pt.ns {K : W.Frag} {H H' : Hp} {t : Addr} {q : Rat} (h : Pt K H t q) (n : Ns H H') : Pt K H' t q := by
  rcases h with (h | ⟨o, h⟩) | h
  · exact .inl (.inl (n _ _ (fun _ => HO.noConfusion) h))
  · exact .inl (.inr ⟨o, n _ _ (fun _ => HO.noConfusion) h⟩)
  · exact .inr h
theorem Num.ns {C : Addr} {H H' : Hp} {v : V} {q : Rat} (h : Num C H v q) (n : Ns H H') : Num C H' v q := h.imp (fun z => z) fun ⟨a, e, i⟩ => ⟨a, e, Is.ns i n⟩
theorem Low.sub {n m : Nat} {q p : Rat} (h : Low n q) (h' : Low m p) : Low (n + m + 1) (q - p) := by
  rw [Rat.sub_eq_add_neg]
  exact h.add (low_neg h')
theorem add_sub_self (q r : Rat) : q + r - q = r := by
  rw [Rat.add_comm q r, Rat.sub_eq_add_neg, Rat.add_assoc, Rat.add_neg_cancel, Rat.add_zero]
def PtK (K : W.Frag) (H : Hp) (x : V) (r : Rat) : Prop := ∃ t, x = .ref t ∧ Pt K H t r
theorem ne_str (T : Str) {H : Hp} {Q : VK} (z : Q (.bl false) H) : rNe (.str T) (.str T) H Q := ⟨rfl, by
  rw [decide_eq_true (rfl : V.str T = V.str T)]
  exact z⟩
theorem told_rp {H : Hp} {t : Addr} (h : H t = some (.tup [.non, .bl true, .bl true, .bl false])) : Rp H [t] 1 (.ref t) toldZ := by
  refine .tup (as0 := []) h (by simp) (fun b hb => hb) rfl ?_
  intro i x tt h1 h2
  match i, h1, h2 with
  | 0, h1, h2 => cases h1; cases h2; exact .non
  | 1, h1, h2 => cases h1; cases h2; exact .bl true
  | 2, h1, h2 => cases h1; cases h2; exact .bl true
  | 3, h1, h2 => cases h1; cases h2; exact .bl false
  | i + 4, h1, _ => simp at h1
theorem told_len : toldZ.length ≤ sizeLine := by decide +kernel
theorem told_ok : PyData.strOk toldZ = true := by decide +kernel
theorem Num.xn {C : Addr} {H H' : Hp} {v : V} {q : Rat} (h : Num C H v q) (n : LamX.ExtN H H') : Num C H' v q := h.imp (fun z => z) fun ⟨a, e, dx, i⟩ => ⟨a, e, dx, n _ _ i fun _ => HO.noConfusion⟩
theorem xn_put {H H' : Hp} {a : Addr} {o : HO} (n : LamX.ExtN H H') (z : ∀ u, (∀ ps, u ≠ .tbl ps) → H a ≠ some u) : LamX.ExtN H (upd H' a o) := fun b u h k => by
  rw [upd_ne (fun e => z u k (by rw [← e]; exact h))]
  exact n b u h k
theorem tabs_put {T : List (Addr × Str)} {H : Hp} {a : Addr} {l : List V} {o : HO} (t : LamX.Tabs T H) (h : H a = some (.lst l)) : LamX.Tabs T (upd H a o) := fun p hp => by
  obtain ⟨ps, h1, h2, h3⟩ := t p hp
  refine ⟨ps, ?_, h2, fun pos cv hc => ?_⟩
  · rw [upd_ne (fun z => by rw [z, h] at h1; cases h1)]
    exact h1
  · obtain ⟨c, e1, e2⟩ := h3 pos cv hc
    refine ⟨c, e1, ?_⟩
    rw [upd_ne (fun z => by
      rw [z, h] at e2
      unfold LamX.CodeO at e2
      cases e2)]
    exact e2
theorem low_div {n m : Nat} {q p : Rat} (h : Low n q) (h' : Low m p) (p0 : p ≠ 0) : Low (n + m) (q / p) := by
  rw [← div_rat]
  have pn : p.num ≠ 0 := fun e => p0 (Rat.num_eq_zero.mp e)
  obtain ⟨b1, b2⟩ := divInt_le (q.num * (p.den : Int)) ((q.den : Int) * p.num) (Int.mul_ne_zero (den0 q) pn)
  exact ⟨Nat.lt_of_le_of_lt b1 (mul_bits h.1 (KA.low_den h')), Nat.lt_of_le_of_lt b2 (mul_bits (KA.low_den h) h'.1)⟩
theorem low_int {n : Nat} {i : Int} (h : i.natAbs < 2 ^ n) (hn : 0 < n) : Low n (i : Rat) := ⟨h, by
  show 1 < 2 ^ n
  exact Nat.one_lt_two_pow (by omega)⟩
theorem add_sub_all (q r : Rat) : r + (q - r) = q := by
  rw [Rat.sub_eq_add_neg, Rat.add_comm q, ← Rat.add_assoc, Rat.add_neg_cancel, Rat.zero_add]
theorem eq_str (T : Str) {H : Hp} {Q : VK} (z : Q (.bl true) H) : rEq (.str T) (.str T) H Q := ⟨rfl, by
  rw [decide_eq_true (rfl : V.str T = V.str T)]
  exact z⟩
def tabs (p : Addr) : List (Addr × Str) := [(p, "_law_two_right.<locals>.<lambda>")]
def spTwo (K : W.Frag) (C p : Addr) : Sp := fun vs H Q _ => ∃ x y t u q r, vs = [x, y, .ref t, .ref u] ∧ Num C H x q ∧ Num C H y r ∧ ((∃ a, x = .ref a) ∨ ∃ a, y = .ref a) ∧ Pt K H t q ∧ Pt K H u r ∧ Low 112 q ∧ Low 112 r ∧ LamX.Tabs (tabs p) H ∧
  ∀ H', LamX.ExtN H H' → LamX.Tabs (tabs p) H' → Q (.bl true) H'
section
variable {P : Program} {w : World} {K : W.Frag} {mg : Str → Option Value} {base : Heap} {f C Z ZA c p : Addr} {fd : FuncData}
end
end KA

set_option Elab.async false
set_option linter.all false
set_option maxRecDepth 100000
set_option maxHeartbeats 1000000
set_option exponentiation.threshold 20000
namespace KA
open PySem PySem.Spec PyProof.Rows L2 Oo Gd Am
/-- all but p and the tables stand, at p the pot -/
def KT (p : Addr) (H H' : Hp) : Prop := (∀ b o, b ≠ p → H b = some o → (∀ ps, o ≠ .tbl ps) → H' b = some o) ∧ Pot H' p
theorem KT.trans {p : Addr} {H H1 H2 : Hp} (a : KT p H H1) (b : KT p H1 H2) : KT p H H2 := ⟨fun c o n h k => b.1 c o n (a.1 c o n h k) k, b.2⟩
theorem Kp.kt {p : Addr} {H H' : Hp} (k : Kp p H H') : KT p H H' := ⟨fun b o n h _ => k.1 b o n h, k.2⟩
theorem pot_xn {p : Addr} {H H' : Hp} (hp : Pot H p) (n : LamX.ExtN H H') : KT p H H' := ⟨fun b o _ h k => n b o h k, by
  obtain ⟨a, b, h, r⟩ := hp
  exact ⟨a, b, n _ _ h (fun _ => HO.noConfusion), r⟩⟩
theorem tabs_kp {T : List (Addr × Str)} {p : Addr} {H H' : Hp} (t : LamX.Tabs T H) (hp : Pot H p) (k : Kp p H H') : LamX.Tabs T H' := fun a ha => by
  obtain ⟨x, y, hl, _⟩ := hp
  obtain ⟨ps, h1, h2, h3⟩ := t a ha
  refine ⟨ps, k.1 _ _ (fun e => by rw [e, hl] at h1; cases h1) h1, h2, fun pos cv hc => ?_⟩
  obtain ⟨c, e1, e2⟩ := h3 pos cv hc
  exact ⟨c, e1, k.1 _ _ (fun e => by
    rw [e, hl] at e2
    unfold LamX.CodeO at e2
    cases e2) e2⟩
/-- what right asks -/
structure Ri (P : Program) (w : World) (K : W.Frag) (mg : Str → Option Value) (base : Heap) (C p0 : Addr) : Prop where
  DP : DnP P w K mg base
  DR : Dn P w K mg base CX0 3 "_law_part" ["_law_pot_here"] (spPart K)
  DM : Dn P w K mg base CX0 4 "_law_made" ["_law_pot_here", "_law_part_here", "_law_is_plain"] (spMade K C)
  T2 : DnG P w K mg base 11 "_law_two_right" ["_law_x", "_law_y", "_law_left", "_law_right_here"] (spTwo K C p0)
  T1 : DnG P w K mg base 8 "_law_alone_right" ["_law_pot_here", "_law_part_here"] (spTrue2 K)
  T3 : DnG P w K mg base 7 "_law_row_right" ["_law_pot_here"] spTrue1
abbrev nRi : List Str := ["_law_pot_here", "_law_left", "_law_right_here", "_law_plain", "_law_x", "_law_y"]
/-- all but the pot and the tables stand; the tables tell right -/
def spRi (p0 : Addr) : Sp := fun vs H Q _ => ∃ p : Addr, vs = [.ref p] ∧ Pot H p ∧ LamX.Tabs (tabs p0) H ∧
  ∀ H', (∀ b o, b ≠ p → H b = some o → (∀ ps, o ≠ .tbl ps) → H' b = some o) → Pot H' p → LamX.Tabs (tabs p0) H' → Q (.bl true) H'
section
variable {P : Program} {w : World} {K : W.Frag} {mg : Str → Option Value} {base : Heap} {f C p0 : Addr} {fd : FuncData}
end
end KA

set_option Elab.async false
set_option linter.all false
set_option maxRecDepth 100000
set_option maxHeartbeats 1000000
namespace KA
open PySem PySem.Spec PyProof.Rows L2 Oo Gd Am
abbrev nLaw : List Str := ["_law_script", "_law_k", "_law_pot_here", "_law_turn"]
def spLaw (K : W.Frag) (p0 : Addr) : Sp := fun vs H Q _ => ∃ (a : Addr) (ns : List Int), vs = [.ref a] ∧ ns.length ≤ 63 ∧ SqL K H a (ns.map V.int) ∧ LamX.Tabs (tabs p0) H ∧ ∀ H', Q (.bl true) H'
section
variable {P : Program} {w : World} {K : W.Frag} {mg : Str → Option Value} {base : Heap} {f p0 : Addr} {fd : FuncData}
end
end KA

set_option Elab.async false
set_option linter.all false
set_option maxRecDepth 100000
set_option maxHeartbeats 1000000
/-! repr of a list of NUMBERS. -/
namespace Am
open PySem PySem.Spec PyProof.Rows L2 Oo
open PySem.Builtin PySem.Builtin.List
abbrev inLp (A : Around) (args : Args) : Around := A.in1.under (.builtin "list.__repr__.loop" args)
theorem inLp_room {k : Nat} {A : Around} {args : Args} (r : Room (k + 2) A) : Room k (inLp A args) :=
  ⟨r.hd, by
    have := r.dp
    have e : (inLp A args).depth = A.depth + 1 := by first | rfl | simp [inLp, Around.under, Code.weight, Code.isCreation, Code.isGuard, Code.isCaller, Code.frames, Code.isFrame, guardIds]
    rw [e]; omega, by
    have := r.un
    have e : (inLp A args).units ≤ A.units + 2 := by
      show A.in1.units + _ ≤ _
      first | exact Nat.le_refl _ | (simp [Code.cUnits, Code.frames, Code.isFrame])
    omega⟩
theorem inLp_env {P : Program} {w : World} {K : W.Frag} {mg : Str → Option Value} {base : Heap} {A : Around} {outer : List Env} {s : Shared} {H : Hp} {args : Args} (e : Env0 P w K mg base A outer s H) : Env0 P w K mg base (inLp A args) outer s H :=
  ⟨by first | exact e.frames | (simpa [inLp, Around.under, Code.envs, Code.isFrame, pushEnvs] using e.frames), e.mod, e.bs, e.bsz, e.funs, e.frf, e.hok, e.bare⟩
theorem inLp_guards {A : Around} {args : Args} (hg : A.guards = some []) : ∃ g, (inLp A args).guards = some g := by
  have e : A.in1.guards = some [] := hg
  exact ⟨_, guards_under_guard (isGuard_list_loop _) e⟩
/-- NUMBERS and the texts of their reprs -/
inductive NumsT (C : Addr) (H : Hp) : List V → List Str → Prop
  | nil : NumsT C H [] []
  | cons {v : V} {q : Rat} {xs : List V} {ts : List Str} : Num C H v q → SmN v q → NumsT C H xs ts → NumsT C H (v :: xs) (numText v q :: ts)
theorem NumsT.len {C : Addr} {H : Hp} : ∀ {xs : List V} {ts : List Str}, NumsT C H xs ts → ts.length = xs.length
  | _, _, .nil => rfl
  | _, _, .cons _ _ r => by rw [List.length_cons, List.length_cons, r.len]
theorem NumsT.get {C : Addr} {H : Hp} : ∀ {xs : List V} {ts : List Str} {i : Nat} {x : V}, NumsT C H xs ts → xs[i]? = some x → ∃ q, Num C H x q ∧ SmN x q ∧ ts[i]? = some (numText x q)
  | _, _, i, x, .nil, h => by simp at h
  | _, _, 0, x, .cons n s _, e => by
    cases (show some _ = some x from e)
    exact ⟨_, n, s, rfl⟩
  | _, _, i + 1, x, .cons _ _ r, e => NumsT.get (i := i) r e
theorem NumsT.ext {C : Addr} {H H' : Hp} (e : Ext H H') : ∀ {xs : List V} {ts : List Str}, NumsT C H xs ts → NumsT C H' xs ts
  | _, _, .nil => .nil
  | _, _, .cons n s r => .cons (n.ext e) s (r.ext e)
theorem NumsT.piled {C : Addr} {H : Hp} : ∀ {xs : List V} {ts : List Str}, NumsT C H xs ts → piled ts ≤ 6102 * ts.length
  | _, _, .nil => Nat.zero_le _
  | _, _, .cons _ s r => by
    have := r.piled
    have := num_len s
    rw [piled_cons, List.length_cons]
    omega
theorem vals_strs : ∀ {ts : List Str} {its : List Value}, Vals (ts.map V.str) its → ∃ done : List (Str × Tok), its = strValues done ∧ done.map (·.1) = ts
  | [], _, h => by
    cases h
    exact ⟨[], rfl, rfl⟩
  | t :: ts, _, h => by
    cases h with
    | cons r1 r2 =>
      obtain ⟨tk, rfl⟩ := (show ∃ tk, _ = Value.str t tk from r1)
      obtain ⟨done, rfl, e⟩ := vals_strs r2
      exact ⟨(t, tk) :: done, rfl, by rw [List.map_cons, e]⟩
section
variable {X : Cx} {C : Addr} {pins : List (Addr × Obj)} {σ : L2.St} {H : Hp} {s : Shared} {k : Nat}
theorem num_underL (R : Rep X.prog X.w X.K X.mg X.base C) {args : Args} {b : Nat} {v : V} {u : Value} {q : Rat} (hr : Room (k + 3) X.A) (hG : Gd.Bare X.A) (I : Inv X pins σ H s) (nv : Num C H v q) (sm : SmN v q) (rv : RelV v u) (hb : b ≤ 500000) :
    wpAny (model X.prog X.w) (inLp X.A args) (pyReprUnder b u) (fun r s1 => r = numText v q ∧ Inv X pins σ H s1) X.xe s := by
  have hR : Room 1 (inLp X.A args) := inLp_room (hr.mono (by omega))
  have big : (1000000 : Nat) ≤ sizeLine := by decide
  rcases nv with ⟨i, rfl, _⟩ | ⟨x, rfl, ix⟩
  · obtain ⟨g, hg⟩ := inLp_guards (args := args) hG
    have rk : ReprK X.prog X.w [] s.heap 1 u (toString i : String) := (Gd.Rp.int (H := H) (as := []) (d := 1) i sm).repr I.hok u rv
    have l := num_len (v := .int i) (q := q) sm
    exact rk b (by show b + (numText (.int i) q).length ≤ sizeLine; omega) _ g _ s _ hg (fun b h => nomatch h) (by have := hR.units; omega) (fun _ _ e => e) fun h' tk kp => ⟨rfl, I.kept kp⟩
  · obtain rfl : u = Value.ref x := rv
    obtain ⟨f, fd, hs, hf, F, bd⟩ := R.of
    obtain ⟨dx, ex⟩ := id ix
    obtain ⟨od, J, _⟩ := inst_at I ex
    refine own_under (by omega) hR.units0 I.kIn J hs hf ?_
    have lw : KA.Low 8000 q := ⟨Nat.lt_trans sm.1 (by decide), Nat.lt_trans sm.2 (by decide)⟩
    refine wpAny_mono (run_atO (Q := fun z H' => z = .str (shown q) ∧ H' = H) (us := [.ref x]) (ws := [.ref x]) F bd hR (inLp_env I.env0) pass0 I (.cons rfl .nil) ⟨x, q, rfl, ix, lw, rfl, rfl⟩) (fun v s' ⟨z, H', I', rz, ez, eh⟩ => ?_) fun _ _ z => z
    subst ez eh
    obtain ⟨t, rfl⟩ := (show ∃ t, v = Value.str (shown q) t from rz)
    exact ⟨_, _, rfl, rfl, I'⟩
theorem lp_loop (R : Rep X.prog X.w X.K X.mg X.base C) {a P : Addr} {xs : List V} {ts : List Str} {Q : Value → Shared → Prop} (hr : Room (k + 3) X.A) (hG : Gd.Bare X.A) (ha : H a = some (.lst xs)) (hP : H P = none) (nt : NumsT C H xs ts)
    (hl : ts.length ≤ 70) (hQ : ∀ s' u, Inv X pins σ (upd H P (.lst (ts.map V.str))) s' → Q (.str (listText ts) u) s') :
    ∀ (n i : Nat) (s : Shared), ts.length - i = n → i ≤ ts.length → Inv X pins σ (upd H P (.lst ((ts.take i).map V.str))) s →
      codeAny (model X.prog X.w) X.A.in1 (.builtin "list.__repr__.loop" ⟨[.ref a, rawInt i, .ref P, rawInt ((piled (ts.take i) : Nat) : Int)], []⟩) (callEnd Q X.xe) s := by
  have big : (1000000 : Nat) ≤ sizeLine := by decide
  have nl := nt.len
  have np := nt.piled
  have lt := Gd.listText_le ts
  intro n
  induction n with
  | zero =>
    intro i s hn hi I
    have hin : i = ts.length := by omega
    subst hin
    rw [List.take_length] at I ⊢
    obtain ⟨_, its, m, rv, l1, e1⟩ := I.lstM (l := a) (by rw [upd_ne (ne_of_none ha hP)]; exact ha)
    obtain ⟨_, acc, c, rw', l2, e2⟩ := I.lstM (l := P) upd_same
    refine codeAny_builtin F.entry_list_repr_loop ?_
    show wpAny _ _ («list.__repr__.loop» ⟨[.ref a, .int (ts.length : Nat) 0, .ref P, .int ((piled ts : Nat) : Int) 0], []⟩) _ _ s
    rw [repr_loop_tree]
    refine wpAny_bind (wpAny_listItems e1 rfl ?_)
    have hnone : its.toArray[((ts.length : Nat) : Int).toNat]? = none := by simp [nl, l1]
    simp only [hnone]
    unfold reprEnd
    refine wpAny_bind (wpAny_listItems e2 rfl ?_)
    obtain ⟨done, rfl, ed⟩ := vals_strs rw'
    rw [show (strValues done).toArray.toList = strValues done from rfl, repr_fold]
    refine wpAny_bind (wpAny_pure ?_)
    rw [ed]
    refine wpAny_bind (wpAny_mkStr (wpAny_pure ?_) (by show (listText ts).length ≤ sizeLine; omega))
    exact hQ _ _ (I.tok _)
  | succ n ih =>
    intro i s hn hi I
    obtain ⟨_, its, m, rv, l1, e1⟩ := I.lstM (l := a) (by rw [upd_ne (ne_of_none ha hP)]; exact ha)
    obtain ⟨_, acc, c, rw', l2, e2⟩ := I.lstM (l := P) upd_same
    have hlt : i < xs.length := by omega
    obtain ⟨q, nx, sm, et⟩ := nt.get (List.getElem?_eq_getElem hlt)
    obtain ⟨u, hu, ru⟩ := rv.get (List.getElem?_eq_getElem hlt)
    refine codeAny_builtin F.entry_list_repr_loop ?_
    show wpAny _ _ («list.__repr__.loop» ⟨[.ref a, .int (i : Nat) 0, .ref P, .int ((piled (ts.take i) : Nat) : Int) 0], []⟩) _ _ s
    rw [repr_loop_tree]
    refine wpAny_bind (wpAny_listItems e1 rfl ?_)
    have hsome : its.toArray[((i : Nat) : Int).toNat]? = some u := by simpa using hu
    simp only [hsome]
    rw [Int.toNat_natCast]
    have p1 := piled_take_le ts i
    have p2 := piled_take_succ et
    have ex : Ext H (upd H P (.lst ((ts.take i).map V.str))) := Ext.new hP
    refine wpAny_bind (wpAny_holding (wpAny_mono (num_underL R hr hG I (nx.ext ex) sm ru (by omega)) (fun t s1 ⟨et1, I1⟩ => ?_) fun _ _ z => z))
    subst et1
    have nl6 := num_len sm
    obtain ⟨_, acc, c, rw', l2, e2⟩ := I1.lstM (l := P) upd_same
    refine wpAny_bind (wpAny_mkStr ?_ (by omega))
    refine wpAny_bind ?_
    show wpAny _ _ (updateSeq P _) _ _ _
    have al : acc.toArray.size ≤ sizeLine := by
      rw [List.size_toArray, ← l2, List.length_map, List.length_take]
      omega
    refine wpAny_updateSeq e2 rfl (wpAny_pure ⟨F.quiet_list_repr_loop _, ?_⟩) al
    have k1 : ((i : Int) + 1) = ((i + 1 : Nat) : Int) := by omega
    have k2 : piled (ts.take i) + ((numText (xs[i]) q).length + 2) = piled (ts.take (i + 1)) := by omega
    rw [k1, k2]
    refine ih (i + 1) _ (by omega) (by omega) ?_
    have J := I1.lset (l := P) (xs := (ts.take i).map V.str) (ys := (ts.take (i + 1)).map V.str) (its := acc) (its' := acc ++ [.str (numText (xs[i]) q) s1.toks]) (f := fun a => a.push (.str (numText (xs[i]) q) s1.toks)) (t' := s1.toks + 1) upd_same e2 (by simp) (by
      rw [List.take_add_one, et, List.map_append]
      exact rw'.append (.cons ⟨_, rfl⟩ .nil)) (by rw [List.length_map, List.length_take]; omega)
    rw [upd_upd] at J
    exact J
def rNums (C : Addr) : List V → Hp → VK → Prop := fun vs H Q => ∃ (a : Addr) (x : V) (xs : List V) (ts : List Str), vs = [.ref a] ∧ H a = some (.lst (x :: xs)) ∧ NumsT C H (x :: xs) ts ∧ ts.length ≤ 70 ∧ ∀ H', Ext H H' → Q (.str (listText ts)) H'
theorem call_reprNums (R : Rep X.prog X.w X.K X.mg X.base C) (hG : Gd.Bare X.A) (hr : Room (k + 3) X.A) : CallR X (.builtin "repr") (rNums C) := by
  intro pins s σ H vs us Q I r h
  obtain ⟨a, x, xs, ts, rfl, ha, nt, hl, z⟩ := h
  obtain ⟨u, rfl, ru⟩ := r.one
  cases (show u = Value.ref a from ru)
  obtain ⟨_, its, n, rv, l1, ho⟩ := I.lstM ha
  refine Gd.repr_slot ⟨_, ho, rfl⟩ F.slot_list_repr.toG (by have := hr.units; omega) ?_
  cases rv with
  | @cons _ y _ l r1 rvt =>
    refine wpAny_call (codeAny_call_builtin F.slot_list_repr.plain F.entry_list_repr (F.slot_list_repr.check _ _ _ _ _ _ _ _ ⟨_, ho, rfl⟩ (F.args_list_repr_1 _) ?_))
    refine wpAny_list_repr_head (b := 0) (A := X.A.in1.in1) hG (fun v rest kw hm => nomatch hm) ho rfl ?_
    refine wpAny_bind (m := newList []) (wpAny_newObj_type ?_)
    refine wpAny_pure ⟨F.quiet_list_repr_loop _, ?_⟩
    have hf : H s.heap.objs.size = none := I.hok.fresh (Nat.le_refl _)
    have I1 := I.lnew (ys := []) (its := []) (t' := s.toks) .nil (Nat.zero_le _)
    refine lp_loop (k := k) R hr hG ha hf nt hl (fun s' u J => ⟨⟨_, _, rfl⟩, .str (listText ts), _, J, ⟨_, rfl⟩, z _ (Ext.new hf)⟩) ts.length 0 _ (by omega) (Nat.zero_le _) I1
end
end Am

set_option Elab.async false
set_option linter.all false
set_option maxRecDepth 100000
set_option maxHeartbeats 1000000
/-! Comparisons by own methods: an own instance on the left, or on the right of a built-in value. -/
namespace Oo
open PySem PySem.Spec PySem.W PyProof.Rows
section
variable {prog : Program} {w : World} {A : Around} {E : Value → Shared → Prop} {s : Shared} {K : Frag} {x y C f g : Addr} {ox oy : Obj} {od oe : Option Obj} {T : String} {i : Int} {u : Tok} {dx : Addr}
/-- a's own comparison declines -/
def DeclinesC (prog : Program) (w : World) (A : Around) (E : Value → Shared → Prop) (s : Shared) (nm : Str) (a : Value) (y : Addr) : Prop :=
  ∀ R : Option Value → Shared → Prop, (∀ t, R none { s with toks := t }) → wpAny (model prog w) A (tryCompare a nm (.ref y)) R E s
theorem declC_of {nm : Str} {id : String} {B : Builtin} {a : Value} (hT : s.TypeIs a T) (slot : Slot T nm id) (entry : entryFor table id = some B) (args : argsOk id ⟨[a, .ref y], []⟩)
    (body : ∀ (E' : Value → Shared → Prop) (R : Fin → Shared → Prop), (∀ t, R (.done (.ret .notImplemented)) { s with toks := t }) → wpAny (model prog w) A.in1 (B ⟨[a, .ref y], []⟩) R E' s) : DeclinesC prog w A E s nm a y := by
  intro R hR
  refine wpAny_tryCompare_declines hT slot (GQ.call_here slot hT entry args (body _ _ fun t => ?_))
  exact ⟨rfl, hR t⟩
theorem bin_noB {b : Bool} {name : String} {f : Int → Int → Sem Fin} (hy : s.heap.get? y = some (instObj C dx))
    {R : Fin → Shared → Prop} (hR : ∀ t, R (.done (.ret .notImplemented)) { s with toks := t }) : wpAny (model prog w) A (Builtin.Int.intBinary name f false ⟨[Value.bool b, Value.ref y], []⟩) R E s := by
  unfold Builtin.Int.intBinary
  have hs : PySem.slotArgs name 1 ⟨[Value.bool b, Value.ref y], []⟩ = pure (Value.bool b, [Value.ref y]) := rfl
  refine wpAny_bind (wpAny_of_eq hs ?_)
  dsimp only
  cases b
  · refine wpAny_bind (wpAny_of_eq (a := 0) rfl ?_)
    refine wpAny_bind (asInt_inst hy ?_)
    exact wpAny_bind (wpAny_rule (wpAny_pure (hR _)))
  · refine wpAny_bind (wpAny_of_eq (a := 1) rfl ?_)
    refine wpAny_bind (asInt_inst hy ?_)
    exact wpAny_bind (wpAny_rule (wpAny_pure (hR _)))
theorem asStr_inst {R : Option Str → Shared → Prop} {M : Model} (hy : s.heap.get? y = some (instObj C dx)) (h : R none s) : wpAny M A (asStr? (.ref y)) R E s := by
  unfold asStr?
  refine wpAny_bind (wpAny_load hy ?_)
  exact wpAny_pure h
theorem str_no {m : String} {f : List Nat → List Nat → Bool} {z : Str} (hy : s.heap.get? y = some (instObj C dx)) {R : Fin → Shared → Prop} (hR : ∀ t, R (.done (.ret .notImplemented)) { s with toks := t }) :
    wpAny (model prog w) A (Builtin.Str.strCompare m f ⟨[Value.str z u, Value.ref y], []⟩) R E s := by
  unfold Builtin.Str.strCompare
  refine wpAny_bind (wpAny_of_eq (a := (Value.str z u, z, [Value.ref y])) rfl ?_)
  dsimp only
  refine wpAny_bind (asStr_inst hy ?_)
  exact wpAny_bind (wpAny_rule (wpAny_pure (hR _)))
theorem inst_no {T : String} {R : Bool → Shared → Prop} (X : K.In s.heap) (J : InstAt s.heap y oy C oe) (hs : subIn K (.ref C) (.type T) = some false) (h : R false s) : wpAny (model prog w) A (isInstance (.ref y) (.type T)) R E s := by
  unfold isInstance
  exact wpAny_bind (J.type.here ((looks_subIn X hs).here h))

theorem c_int_lt (hy : s.heap.get? y = some (instObj C dx)) : DeclinesC prog w A E s (cmpInfo .Lt).2.1 (Value.int i u) y :=
  declC_of (typeIs_int _ _ _) F.slot_int_lt F.entry_int_lt (F.args_int_lt_2 _ _) fun E' R hR => by
    unfold Builtin.«int.__lt__»
    exact bin_no hy hR
theorem c_bool_lt {b : Bool} (hy : s.heap.get? y = some (instObj C dx)) : DeclinesC prog w A E s (cmpInfo .Lt).2.1 (Value.bool b) y :=
  declC_of (T := "bool") rfl F.slot_bool_lt F.entry_int_lt (F.args_int_lt_2 _ _) fun E' R hR => by
    unfold Builtin.«int.__lt__»
    exact bin_noB hy hR
theorem c_none_lt : DeclinesC prog w A E s (cmpInfo .Lt).2.1 Value.none y :=
  declC_of (T := "NoneType") rfl F.slot_NoneType_lt F.entry_NoneType_lt (F.args_NoneType_lt_2 _ _) fun E' R hR => by
    unfold Builtin.«NoneType.__lt__»
    exact wpAny_bind (wpAny_of_eq (a := (Value.none, [Value.ref y])) rfl (wpAny_pure (hR _)))
theorem c_str_lt {z : Str} (hy : s.heap.get? y = some (instObj C dx)) : DeclinesC prog w A E s (cmpInfo .Lt).2.1 (Value.str z u) y :=
  declC_of (T := "str") rfl F.slot_str_lt F.entry_str_lt (F.args_str_lt_2 _ _) fun E' R hR => by
    unfold Builtin.«str.__lt__»
    exact str_no hy hR
theorem c_tup_lt {a : Addr} {oa : Obj} (X : K.In s.heap) (J : InstAt s.heap y oy C oe) (hs : subIn K (.ref C) (.type "tuple") = some false) (ha : s.heap.get? a = some oa) (hc : oa.cls = .type "tuple") : DeclinesC prog w A E s (cmpInfo .Lt).2.1 (Value.ref a) y :=
  declC_of (T := "tuple") ⟨_, ha, hc⟩ F.slot_tuple_lt F.entry_tuple_lt (F.args_tuple_lt_2 _ _) fun E' R hR => by
    unfold Builtin.«tuple.__lt__»
    refine wpAny_bind (wpAny_of_eq (a := (Value.ref a, [Value.ref y])) rfl ?_)
    dsimp only
    refine wpAny_bind (inst_no X J hs ?_)
    exact wpAny_pure (hR _)
theorem c_lst_lt {a : Addr} {oa : Obj} (X : K.In s.heap) (J : InstAt s.heap y oy C oe) (hs : subIn K (.ref C) (.type "list") = some false) (ha : s.heap.get? a = some oa) (hc : oa.cls = .type "list") : DeclinesC prog w A E s (cmpInfo .Lt).2.1 (Value.ref a) y :=
  declC_of (T := "list") ⟨_, ha, hc⟩ F.slot_list_lt F.entry_list_lt (F.args_list_lt_2 _ _) fun E' R hR => by
    unfold Builtin.«list.__lt__»
    refine wpAny_bind (wpAny_of_eq (a := (Value.ref a, [Value.ref y])) rfl ?_)
    dsimp only
    refine wpAny_bind (inst_no X J hs ?_)
    exact wpAny_pure (hR _)

theorem c_int_le (hy : s.heap.get? y = some (instObj C dx)) : DeclinesC prog w A E s (cmpInfo .LtE).2.1 (Value.int i u) y :=
  declC_of (typeIs_int _ _ _) F.slot_int_le F.entry_int_le (F.args_int_le_2 _ _) fun E' R hR => by
    unfold Builtin.«int.__le__»
    exact bin_no hy hR
theorem c_bool_le {b : Bool} (hy : s.heap.get? y = some (instObj C dx)) : DeclinesC prog w A E s (cmpInfo .LtE).2.1 (Value.bool b) y :=
  declC_of (T := "bool") rfl F.slot_bool_le F.entry_int_le (F.args_int_le_2 _ _) fun E' R hR => by
    unfold Builtin.«int.__le__»
    exact bin_noB hy hR
theorem c_none_le : DeclinesC prog w A E s (cmpInfo .LtE).2.1 Value.none y :=
  declC_of (T := "NoneType") rfl F.slot_NoneType_le F.entry_NoneType_le (F.args_NoneType_le_2 _ _) fun E' R hR => by
    unfold Builtin.«NoneType.__le__»
    exact wpAny_bind (wpAny_of_eq (a := (Value.none, [Value.ref y])) rfl (wpAny_pure (hR _)))
theorem c_str_le {z : Str} (hy : s.heap.get? y = some (instObj C dx)) : DeclinesC prog w A E s (cmpInfo .LtE).2.1 (Value.str z u) y :=
  declC_of (T := "str") rfl F.slot_str_le F.entry_str_le (F.args_str_le_2 _ _) fun E' R hR => by
    unfold Builtin.«str.__le__»
    exact str_no hy hR
theorem c_tup_le {a : Addr} {oa : Obj} (X : K.In s.heap) (J : InstAt s.heap y oy C oe) (hs : subIn K (.ref C) (.type "tuple") = some false) (ha : s.heap.get? a = some oa) (hc : oa.cls = .type "tuple") : DeclinesC prog w A E s (cmpInfo .LtE).2.1 (Value.ref a) y :=
  declC_of (T := "tuple") ⟨_, ha, hc⟩ F.slot_tuple_le F.entry_tuple_le (F.args_tuple_le_2 _ _) fun E' R hR => by
    unfold Builtin.«tuple.__le__»
    refine wpAny_bind (wpAny_of_eq (a := (Value.ref a, [Value.ref y])) rfl ?_)
    dsimp only
    refine wpAny_bind (inst_no X J hs ?_)
    exact wpAny_pure (hR _)
theorem c_lst_le {a : Addr} {oa : Obj} (X : K.In s.heap) (J : InstAt s.heap y oy C oe) (hs : subIn K (.ref C) (.type "list") = some false) (ha : s.heap.get? a = some oa) (hc : oa.cls = .type "list") : DeclinesC prog w A E s (cmpInfo .LtE).2.1 (Value.ref a) y :=
  declC_of (T := "list") ⟨_, ha, hc⟩ F.slot_list_le F.entry_list_le (F.args_list_le_2 _ _) fun E' R hR => by
    unfold Builtin.«list.__le__»
    refine wpAny_bind (wpAny_of_eq (a := (Value.ref a, [Value.ref y])) rfl ?_)
    dsimp only
    refine wpAny_bind (inst_no X J hs ?_)
    exact wpAny_pure (hR _)

theorem c_int_gt (hy : s.heap.get? y = some (instObj C dx)) : DeclinesC prog w A E s (cmpInfo .Gt).2.1 (Value.int i u) y :=
  declC_of (typeIs_int _ _ _) F.slot_int_gt F.entry_int_gt (F.args_int_gt_2 _ _) fun E' R hR => by
    unfold Builtin.«int.__gt__»
    exact bin_no hy hR
theorem c_bool_gt {b : Bool} (hy : s.heap.get? y = some (instObj C dx)) : DeclinesC prog w A E s (cmpInfo .Gt).2.1 (Value.bool b) y :=
  declC_of (T := "bool") rfl F.slot_bool_gt F.entry_int_gt (F.args_int_gt_2 _ _) fun E' R hR => by
    unfold Builtin.«int.__gt__»
    exact bin_noB hy hR
theorem c_none_gt : DeclinesC prog w A E s (cmpInfo .Gt).2.1 Value.none y :=
  declC_of (T := "NoneType") rfl F.slot_NoneType_gt F.entry_NoneType_gt (F.args_NoneType_gt_2 _ _) fun E' R hR => by
    unfold Builtin.«NoneType.__gt__»
    exact wpAny_bind (wpAny_of_eq (a := (Value.none, [Value.ref y])) rfl (wpAny_pure (hR _)))
theorem c_str_gt {z : Str} (hy : s.heap.get? y = some (instObj C dx)) : DeclinesC prog w A E s (cmpInfo .Gt).2.1 (Value.str z u) y :=
  declC_of (T := "str") rfl F.slot_str_gt F.entry_str_gt (F.args_str_gt_2 _ _) fun E' R hR => by
    unfold Builtin.«str.__gt__»
    exact str_no hy hR
theorem c_tup_gt {a : Addr} {oa : Obj} (X : K.In s.heap) (J : InstAt s.heap y oy C oe) (hs : subIn K (.ref C) (.type "tuple") = some false) (ha : s.heap.get? a = some oa) (hc : oa.cls = .type "tuple") : DeclinesC prog w A E s (cmpInfo .Gt).2.1 (Value.ref a) y :=
  declC_of (T := "tuple") ⟨_, ha, hc⟩ F.slot_tuple_gt F.entry_tuple_gt (F.args_tuple_gt_2 _ _) fun E' R hR => by
    unfold Builtin.«tuple.__gt__»
    refine wpAny_bind (wpAny_of_eq (a := (Value.ref a, [Value.ref y])) rfl ?_)
    dsimp only
    refine wpAny_bind (inst_no X J hs ?_)
    exact wpAny_pure (hR _)
theorem c_lst_gt {a : Addr} {oa : Obj} (X : K.In s.heap) (J : InstAt s.heap y oy C oe) (hs : subIn K (.ref C) (.type "list") = some false) (ha : s.heap.get? a = some oa) (hc : oa.cls = .type "list") : DeclinesC prog w A E s (cmpInfo .Gt).2.1 (Value.ref a) y :=
  declC_of (T := "list") ⟨_, ha, hc⟩ F.slot_list_gt F.entry_list_gt (F.args_list_gt_2 _ _) fun E' R hR => by
    unfold Builtin.«list.__gt__»
    refine wpAny_bind (wpAny_of_eq (a := (Value.ref a, [Value.ref y])) rfl ?_)
    dsimp only
    refine wpAny_bind (inst_no X J hs ?_)
    exact wpAny_pure (hR _)

theorem c_int_ge (hy : s.heap.get? y = some (instObj C dx)) : DeclinesC prog w A E s (cmpInfo .GtE).2.1 (Value.int i u) y :=
  declC_of (typeIs_int _ _ _) F.slot_int_ge F.entry_int_ge (F.args_int_ge_2 _ _) fun E' R hR => by
    unfold Builtin.«int.__ge__»
    exact bin_no hy hR
theorem c_bool_ge {b : Bool} (hy : s.heap.get? y = some (instObj C dx)) : DeclinesC prog w A E s (cmpInfo .GtE).2.1 (Value.bool b) y :=
  declC_of (T := "bool") rfl F.slot_bool_ge F.entry_int_ge (F.args_int_ge_2 _ _) fun E' R hR => by
    unfold Builtin.«int.__ge__»
    exact bin_noB hy hR
theorem c_none_ge : DeclinesC prog w A E s (cmpInfo .GtE).2.1 Value.none y :=
  declC_of (T := "NoneType") rfl F.slot_NoneType_ge F.entry_NoneType_ge (F.args_NoneType_ge_2 _ _) fun E' R hR => by
    unfold Builtin.«NoneType.__ge__»
    exact wpAny_bind (wpAny_of_eq (a := (Value.none, [Value.ref y])) rfl (wpAny_pure (hR _)))
theorem c_str_ge {z : Str} (hy : s.heap.get? y = some (instObj C dx)) : DeclinesC prog w A E s (cmpInfo .GtE).2.1 (Value.str z u) y :=
  declC_of (T := "str") rfl F.slot_str_ge F.entry_str_ge (F.args_str_ge_2 _ _) fun E' R hR => by
    unfold Builtin.«str.__ge__»
    exact str_no hy hR
theorem c_tup_ge {a : Addr} {oa : Obj} (X : K.In s.heap) (J : InstAt s.heap y oy C oe) (hs : subIn K (.ref C) (.type "tuple") = some false) (ha : s.heap.get? a = some oa) (hc : oa.cls = .type "tuple") : DeclinesC prog w A E s (cmpInfo .GtE).2.1 (Value.ref a) y :=
  declC_of (T := "tuple") ⟨_, ha, hc⟩ F.slot_tuple_ge F.entry_tuple_ge (F.args_tuple_ge_2 _ _) fun E' R hR => by
    unfold Builtin.«tuple.__ge__»
    refine wpAny_bind (wpAny_of_eq (a := (Value.ref a, [Value.ref y])) rfl ?_)
    dsimp only
    refine wpAny_bind (inst_no X J hs ?_)
    exact wpAny_pure (hR _)
theorem c_lst_ge {a : Addr} {oa : Obj} (X : K.In s.heap) (J : InstAt s.heap y oy C oe) (hs : subIn K (.ref C) (.type "list") = some false) (ha : s.heap.get? a = some oa) (hc : oa.cls = .type "list") : DeclinesC prog w A E s (cmpInfo .GtE).2.1 (Value.ref a) y :=
  declC_of (T := "list") ⟨_, ha, hc⟩ F.slot_list_ge F.entry_list_ge (F.args_list_ge_2 _ _) fun E' R hR => by
    unfold Builtin.«list.__ge__»
    refine wpAny_bind (wpAny_of_eq (a := (Value.ref a, [Value.ref y])) rfl ?_)
    dsimp only
    refine wpAny_bind (inst_no X J hs ?_)
    exact wpAny_pure (hR _)

theorem c_int_eq (hy : s.heap.get? y = some (instObj C dx)) : DeclinesC prog w A E s (cmpInfo .Eq).2.1 (Value.int i u) y :=
  declC_of (typeIs_int _ _ _) F.slot_int_eq F.entry_int_eq (F.args_int_eq_2 _ _) fun E' R hR => by
    unfold Builtin.«int.__eq__»
    exact bin_no hy hR
theorem dic_no {nm : String} {a : Addr} (hT : s.TypeIs (.ref a) "dict") {R : Fin → Shared → Prop} (hR : ∀ t, R (.done (.ret .notImplemented)) { s with toks := t }) : wpAny (model prog w) A (do
    let _ ← Builtin.Dict.dictSlotArgs nm ⟨[Value.ref a, Value.ref y], []⟩
    ret .notImplemented) R E s := by
  refine wpAny_bind ?_
  unfold Builtin.Dict.dictSlotArgs
  refine wpAny_bind (wpAny_notOrdered_dict hT ?_)
  refine wpAny_bind (wpAny_of_eq (a := (Value.ref a, [Value.ref y])) rfl ?_)
  exact wpAny_pure (wpAny_pure (hR _))
theorem c_dic_lt {a : Addr} {oa : Obj} (ha : s.heap.get? a = some oa) (hc : oa.cls = .type "dict") : DeclinesC prog w A E s (cmpInfo .Lt).2.1 (Value.ref a) y :=
  declC_of (T := "dict") ⟨_, ha, hc⟩ F.slot_dict_lt F.entry_dict_lt (F.args_dict_lt_2 _ _) fun E' R hR => by
    exact dic_no (nm := "__lt__") ⟨_, ha, hc⟩ hR
theorem c_dic_le {a : Addr} {oa : Obj} (ha : s.heap.get? a = some oa) (hc : oa.cls = .type "dict") : DeclinesC prog w A E s (cmpInfo .LtE).2.1 (Value.ref a) y :=
  declC_of (T := "dict") ⟨_, ha, hc⟩ F.slot_dict_le F.entry_dict_le (F.args_dict_le_2 _ _) fun E' R hR => by
    exact dic_no (nm := "__le__") ⟨_, ha, hc⟩ hR
theorem c_dic_gt {a : Addr} {oa : Obj} (ha : s.heap.get? a = some oa) (hc : oa.cls = .type "dict") : DeclinesC prog w A E s (cmpInfo .Gt).2.1 (Value.ref a) y :=
  declC_of (T := "dict") ⟨_, ha, hc⟩ F.slot_dict_gt F.entry_dict_gt (F.args_dict_gt_2 _ _) fun E' R hR => by
    exact dic_no (nm := "__gt__") ⟨_, ha, hc⟩ hR
theorem c_dic_ge {a : Addr} {oa : Obj} (ha : s.heap.get? a = some oa) (hc : oa.cls = .type "dict") : DeclinesC prog w A E s (cmpInfo .GtE).2.1 (Value.ref a) y :=
  declC_of (T := "dict") ⟨_, ha, hc⟩ F.slot_dict_ge F.entry_dict_ge (F.args_dict_ge_2 _ _) fun E' R hR => by
    exact dic_no (nm := "__ge__") ⟨_, ha, hc⟩ hR
/-- a built-in value on the left, an own instance on the right -/
theorem cmp_right {op : CmpOp} {a : Value} {Q : Value → Shared → Prop} (hu : A.units < cLine) (X : K.In s.heap) (J : InstAt s.heap y oy C oe) (ha : s.TypeIs a T) (hsub : subIn K (.ref C) (.type T) = some false)
    (no : DeclinesC prog w A E s (cmpInfo op).2.1 a y) (hs : findIn K (.ref C) (cmpInfo op).2.2 = some (some (.ref g))) (hg : isFn K (.ref g) = true)
    (h : ∀ t, wpAny (model prog w) A (call (.ref g) [.ref y, a]) (W.CmpBack Q) E { s with toks := t }) : wpAny (model prog w) A (richCompare op a (.ref y)) Q E s := by
  have one : ∀ t, wpAny (model prog w) A (tryCompare (.ref y) (cmpInfo op).2.2 a) (fun r s' => ∃ v, r = some v ∧ Q v s') E { s with toks := t } := fun t => by
    unfold tryCompare
    refine wpAny_bind (ifBound_K (s := { s with toks := t }) X J hs hg (wpAny_mono (h t) (fun v s' hv => ?_) fun _ _ e => e))
    cases v <;> first | exact hv.elim | exact wpAny_pure ⟨_, rfl, hv⟩
  unfold richCompare
  simp only [ha.oneThing_none]
  refine wpAny_holding (wpAny_bind (wpAny_cRoomFor hu ?_))
  refine wpAny_bind (wpAny_typeOf ha (wpAny_bind (J.type.here ?_)))
  have hne : (Value.type T != Value.ref C) = true := rfl
  simp only [hne, if_true]
  refine wpAny_bind ((looks_subIn X hsub).here ?_)
  simp only [Bool.false_eq_true, if_false, Bool.not_false, if_true]
  refine wpAny_bind (no _ fun t => ?_)
  dsimp only
  refine wpAny_bind (wpAny_mono (one t) (fun r s' z => ?_) fun _ _ e => e)
  obtain ⟨v, rfl, hq⟩ := z
  exact wpAny_pure hq
end
end Oo

set_option Elab.async false
set_option linter.all false
set_option maxRecDepth 100000
set_option maxHeartbeats 1000000
namespace Oo
open PySem PySem.Spec PyProof.Rows L2
/-- a built-in value, its type -/
inductive Bt (H : Hp) : V → String → Prop where
  | non : Bt H .non "NoneType"
  | bl (b : Bool) : Bt H (.bl b) "bool"
  | int (i : Int) : Bt H (.int i) "int"
  | str (z : Str) : Bt H (.str z) "str"
  | lst {a : Addr} {xs : List V} (e : H a = some (.lst xs)) : Bt H (.ref a) "list"
  | tup {a : Addr} {xs : List V} (e : H a = some (.tup xs)) : Bt H (.ref a) "tuple"
  | dK {a : Addr} {kvs : List (Key × V)} (e : H a = some (.dK kvs)) : Bt H (.ref a) "dict"
def seven : List String := ["NoneType", "bool", "int", "str", "list", "tuple", "dict"]
theorem Bt.mem {H : Hp} {x : V} {T : String} (b : Bt H x T) : T ∈ seven := by cases b <;> decide
theorem Bt.ty {K : W.Frag} {H : Hp} {x : V} {T : String} (b : Bt H x T) : TyX K H x (.type T) := .base (by
  cases b with
  | non => exact .non
  | bl b => exact .bl b
  | int i => exact .int i
  | str z => exact .str z
  | lst e => exact .lst e
  | tup e => exact .tup e
  | dK e => exact .dK e)
theorem Bt.ext {H H' : Hp} {x : V} {T : String} (b : Bt H x T) (e : ∀ a o, H a = some o → H' a = some o) : Bt H' x T := by
  cases b with
  | non => exact .non
  | bl b => exact .bl b
  | int i => exact .int i
  | str z => exact .str z
  | lst h => exact .lst (e _ _ h)
  | tup h => exact .tup (e _ _ h)
  | dK h => exact .dK (e _ _ h)
section
variable {X : Cx} {CX : CXT} {pins : List (Addr × Obj)} {σ : L2.St} {H : Hp} {s : Shared} {C f g : Addr} {k : Nat} {sp sq : Sp} {E : XK} {fd gd : FuncData} {ps qs : List Str} {T : String} {K : W.Frag}
theorem Bt.is {x : V} {v : Value} (I : Inv X pins σ H s) (rx : RelV x v) (b : Bt H x T) : s.TypeIs v T := by
  cases b with
  | non => cases (show v = Value.none from rx); rfl
  | bl b => cases (show v = Value.bool b from rx); rfl
  | int i => obtain ⟨t, rfl⟩ := (show ∃ t, v = Value.int i t from rx); rfl
  | str z => obtain ⟨t, rfl⟩ := (show ∃ t, v = Value.str z t from rx); rfl
  | @lst a xs e =>
    cases (show v = Value.ref a from rx)
    obtain ⟨_, _, n, _, h1⟩ := (show ObjOk X.prog X.w H s.heap a (.lst xs) from I.hok a _ e)
    exact ⟨_, h1, rfl⟩
  | @tup a xs e =>
    cases (show v = Value.ref a from rx)
    obtain ⟨_, _, _, o, h1, h2, _⟩ := (show ObjOk X.prog X.w H s.heap a (.tup xs) from I.hok a _ e)
    exact ⟨o, h1, h2⟩
  | @dK a kvs e =>
    cases (show v = Value.ref a from rx)
    obtain ⟨_, _, vs, _, o, es, ep, h1, h2, _⟩ := (show ObjOk X.prog X.w H s.heap a (.dK kvs) from I.hok a _ e)
    exact ⟨o, h1, h2.1⟩
theorem is_keeps {s s' : Shared} {v : Value} (h : s.TypeIs v T) (kp : ∀ b o, s.heap.get? b = some o → s'.heap.get? b = some o) : s'.TypeIs v T := by
  cases v with
  | ref a =>
    obtain ⟨o, e, c⟩ := h
    exact ⟨o, kp _ _ e, c⟩
  | _ => exact h
/-- a class right below object -/
def Plain (K : W.Frag) (C : Addr) : Prop := ∃ cd, W.clsIn K C = some cd ∧ cd.mro = [.ref C, .type "object"]
theorem sub_C (p : Plain K C) (h : T ≠ "object") : W.subIn K (.ref C) (.type T) = some false := by
  obtain ⟨cd, e, m⟩ := p
  show W.mroIn K C (.type T) = _
  unfold W.mroIn
  rw [e]
  show (if cd.mro.isEmpty then none else some (cd.mro.contains (.type T))) = _
  rw [m]
  show some ([Value.ref C, Value.type "object"].contains (.type T)) = some false
  congr 1
  rw [Bool.eq_false_iff]
  intro z
  rw [List.contains_iff_mem] at z
  simp at z
  exact h z
theorem sub_T (h : T ∈ seven) : W.subIn K (.type T) (.ref C) = some false := by
  have key : ∀ l : List String, (l.map Value.type).contains (.ref C) = false := fun l => by
    rw [Bool.eq_false_iff]
    intro z
    rw [List.contains_iff_mem] at z
    obtain ⟨a, _, e⟩ := List.mem_map.mp z
    cases e
  have m : ∀ {T : String} {l : List String}, fastBuiltinMro T = some (l.map Value.type) → W.subIn K (.type T) (.ref C) = some false := fun {T l} e => by
    show (fastBuiltinMro T).map (·.contains (.ref C)) = _
    rw [e]
    exact congrArg some (key l)
  simp only [seven, List.mem_cons, List.not_mem_nil, or_false] at h
  rcases h with rfl | rfl | rfl | rfl | rfl | rfl | rfl
  · exact m (l := ["NoneType", "object"]) (by decide +kernel)
  · exact m (l := ["bool", "int", "object"]) (by decide +kernel)
  · exact m (l := ["int", "object"]) (by decide +kernel)
  · exact m (l := ["str", "object"]) (by decide +kernel)
  · exact m (l := ["list", "object"]) (by decide +kernel)
  · exact m (l := ["tuple", "object"]) (by decide +kernel)
  · exact m (l := ["dict", "object"]) (by decide +kernel)
theorem not_obj (h : T ∈ seven) : T ≠ "object" := fun e => by
  subst e
  revert h
  decide
theorem kit_no (h : T ∈ seven) (ks : (W.clsIn K C).isSome = true) (kt : W.typeIn K (.ref C) = some (.type "type")) : W.kitOne K (.type T) (.ref C) = some false := by
  unfold W.kitOne
  rw [if_neg (by simp)]
  unfold W.kitCls
  simp only [ks, kt, Bool.true_and, beq_self_eq_true, if_true]
  exact sub_T h
/-! ### comparisons -/
def Four (op : CmpOp) : Prop := op = .Lt ∨ op = .LtE ∨ op = .Gt ∨ op = .GtE
theorem four_rich {op : CmpOp} (h : Four op) {M : Model} {A : Around} {E : Value → Shared → Prop} {a b : Value} {Q : Value → Shared → Prop} (z : wpAny M A (richCompare op a b) Q E s) : wpAny M A (compareOp op a b) Q E s := by
  rcases h with rfl | rfl | rfl | rfl <;> exact z
/-- an own instance on the left -/
def rCmpL (C : Addr) (sp : Sp) (E : XK) : R2 := fun x y H Q => ∃ a dx fs, x = .ref a ∧ H a = some (.ins C dx fs) ∧ ((∃ b dy gs, y = .ref b ∧ H b = some (.ins C dy gs)) ∨ ∃ T, Bt H y T) ∧ sp [x, y] H Q E
theorem op_cmpL {op : CmpOp} (h6 : ∀ (M : Model) (A : Around) (E : Value → Shared → Prop) (s : Shared) (a b : Value) (Q : Value → Shared → Prop), wpAny M A (richCompare op a b) Q E s → wpAny M A (compareOp op a b) Q E s)
    (hs : W.findIn X.K (.ref C) (cmpInfo op).2.1 = some (some (.ref f))) (hf : W.isFn X.K (.ref f) = true) (F : FnOk X.prog X.w X.K X.mg X.base CX k f fd ps sp) (hb : Binds X.K fd ps []) (hx : Passes CX X E) (hr : Room k X.A) :
    OpR X (compareOp op) (rCmpL C sp E) := fun pins s σ H x y v u Q I rx ry h => by
  obtain ⟨a, dx, fs, rfl, ha, hy, z⟩ := h
  cases (show v = Value.ref a from rx)
  obtain ⟨od, J, _⟩ := inst_at I ha
  obtain ⟨m, hF⟩ := I.fr
  refine h6 _ _ _ _ _ _ _ ?_
  have go := wpAny_mono (run_fn (E := E) (us := [.ref a, u]) (vs := [.ref a, y]) F hr hb .nil hx I (.cons rfl (.cons ry .nil)) (by simpa using z)) (fun v' s' ⟨z', H', I', rz, qz⟩ => SlX.cmpback (P := EP X pins σ Q) rz ⟨z', H', I', rz, qz⟩) fun _ _ z => z
  rcases hy with ⟨b, dy, gs, rfl, hb2⟩ | ⟨T, bt⟩
  · cases (show u = Value.ref b from ry)
    obtain ⟨oe, J2, _⟩ := inst_at I hb2
    refine W.cmp_K (op := op) (tb := .ref C) hr.units0 hF I.ok.mod.kin J J2.type ?_ hs hf go
    unfold W.notFirst
    rw [beq_self_eq_true]
    rfl
  · refine W.cmp_K (op := op) (tb := .type T) hr.units0 hF I.ok.mod.kin J (fun A Q E s' kp q => wpAny_typeOf (is_keeps (bt.is I ry) kp) q) ?_ hs hf go
    unfold W.notFirst
    rw [sub_T bt.mem]
    simp
theorem decl_any {op : CmpOp} (h4 : Four op) {x : V} {v : Value} {b dy : Addr} {oe : Option Obj} (p : Plain X.K C) (I : Inv X pins σ H s) (rx : RelV x v) (bt : Bt H x T) (J : W.InstAt s.heap b (W.instObj C dy) C oe) {E' : Value → Shared → Prop} :
    DeclinesC X.prog X.w X.A E' s (cmpInfo op).2.1 v b := by
  have hy := J.at_
  cases bt with
  | non =>
    cases (show v = Value.none from rx)
    rcases h4 with rfl | rfl | rfl | rfl
    · exact c_none_lt
    · exact c_none_le
    · exact c_none_gt
    · exact c_none_ge
  | bl c =>
    cases (show v = Value.bool c from rx)
    rcases h4 with rfl | rfl | rfl | rfl
    · exact c_bool_lt hy
    · exact c_bool_le hy
    · exact c_bool_gt hy
    · exact c_bool_ge hy
  | int i =>
    obtain ⟨t, rfl⟩ := (show ∃ t, v = Value.int i t from rx)
    rcases h4 with rfl | rfl | rfl | rfl
    · exact c_int_lt hy
    · exact c_int_le hy
    · exact c_int_gt hy
    · exact c_int_ge hy
  | str z =>
    obtain ⟨t, rfl⟩ := (show ∃ t, v = Value.str z t from rx)
    rcases h4 with rfl | rfl | rfl | rfl
    · exact c_str_lt hy
    · exact c_str_le hy
    · exact c_str_gt hy
    · exact c_str_ge hy
  | @lst a xs e =>
    cases (show v = Value.ref a from rx)
    obtain ⟨_, _, n, _, h1⟩ := (show ObjOk X.prog X.w H s.heap a (.lst xs) from I.hok a _ e)
    have hs := sub_C (K := X.K) (T := "list") p (by decide)
    rcases h4 with rfl | rfl | rfl | rfl
    · exact c_lst_lt I.kIn J hs h1 rfl
    · exact c_lst_le I.kIn J hs h1 rfl
    · exact c_lst_gt I.kIn J hs h1 rfl
    · exact c_lst_ge I.kIn J hs h1 rfl
  | @tup a xs e =>
    cases (show v = Value.ref a from rx)
    obtain ⟨_, _, _, o, h1, h2, _⟩ := (show ObjOk X.prog X.w H s.heap a (.tup xs) from I.hok a _ e)
    have hs := sub_C (K := X.K) (T := "tuple") p (by decide)
    rcases h4 with rfl | rfl | rfl | rfl
    · exact c_tup_lt I.kIn J hs h1 h2
    · exact c_tup_le I.kIn J hs h1 h2
    · exact c_tup_gt I.kIn J hs h1 h2
    · exact c_tup_ge I.kIn J hs h1 h2
  | @dK a kvs e =>
    cases (show v = Value.ref a from rx)
    obtain ⟨_, _, vs, _, o, es, ep, h1, h2, _⟩ := (show ObjOk X.prog X.w H s.heap a (.dK kvs) from I.hok a _ e)
    rcases h4 with rfl | rfl | rfl | rfl
    · exact c_dic_lt h1 h2.1
    · exact c_dic_le h1 h2.1
    · exact c_dic_gt h1 h2.1
    · exact c_dic_ge h1 h2.1
/-- a built-in value on the left, an own instance on the right -/
def rCmpR (C : Addr) (sq : Sp) (E : XK) : R2 := fun x y H Q => ∃ b dy gs T, y = .ref b ∧ H b = some (.ins C dy gs) ∧ Bt H x T ∧ sq [y, x] H Q E
theorem op_cmpR {op : CmpOp} (h4 : Four op) (p : Plain X.K C) (hs : W.findIn X.K (.ref C) (cmpInfo op).2.2 = some (some (.ref g))) (hf : W.isFn X.K (.ref g) = true) (G : FnOk X.prog X.w X.K X.mg X.base CX k g gd qs sq) (hb : Binds X.K gd qs []) (hx : Passes CX X E) (hr : Room k X.A) :
    OpR X (compareOp op) (rCmpR C sq E) := fun pins s σ H x y v u Q I rx ry h => by
  obtain ⟨b, dy, gs, T, rfl, hb2, bt, z⟩ := h
  cases (show u = Value.ref b from ry)
  obtain ⟨oe, J2, e2⟩ := inst_at I hb2
  refine four_rich h4 ?_
  refine cmp_right hr.units0 I.kIn J2 (bt.is I rx) (sub_C p (not_obj bt.mem)) (decl_any h4 p I rx bt J2) hs hf fun t => ?_
  have I2 : Inv X pins σ H { s with toks := t } := I.tok t
  exact wpAny_mono (run_fn (E := E) (us := [.ref b, v]) (vs := [.ref b, x]) G hr hb .nil hx I2 (.cons rfl (.cons rx .nil)) (by simpa using z)) (fun v' s' ⟨z', H', I', rz, qz⟩ => SlX.cmpback (P := EP X pins σ Q) rz ⟨z', H', I', rz, qz⟩) fun _ _ z => z
end
end Oo

set_option Elab.async false
set_option linter.all false
set_option maxRecDepth 100000
set_option maxHeartbeats 1000000
/-! Operators of an own instance and any built-in value. -/
namespace Oo
open PySem PySem.Spec PySem.W PyProof.Rows
section
variable {prog : Program} {w : World} {A : Around} {E : Value → Shared → Prop} {s : Shared} {K : Frag} {x y C f g : Addr} {ox oy : Obj} {od oe : Option Obj} {nm T : String}
theorem b1_leftL {b : Value} {fo ro rc : Option Value} {Q : Value → Shared → Prop} (X : K.In s.heap) (I : InstAt s.heap x ox C od) (hb : s.TypeIs b T) (hc : selfFirst K C = true)
    (hs : findIn K (.ref C) (PySem.dunder nm) = some (some (.ref f))) (hf : isFn K (.ref f) = true) (hr : findIn K (.ref C) (dunderR nm) = some rc) (hp : rc = none ∨ ∃ g : Addr, rc = some (.ref g))
    (h1 : findIn K (.type T) (PySem.dunder nm) = some fo) (h2 : findIn K (.type T) (dunderR nm) = some ro) (hsub : subIn K (.type T) (.ref C) = some false)
    (h : wpAny (model prog w) A (call (.ref f) [.ref x, b]) (W.CmpBack Q) E s) : wpAny (model prog w) A (binaryOp1 nm (.ref x) b) (fun r s' => ∃ v, r = some v ∧ Q v s') E s := by
  obtain ⟨cd, rest, hcd, hm⟩ := ksp_first hc
  have one := ksp_try X I hs hf h
  obtain ⟨hh, gg, d, tt, os⟩ := s
  have L1 : Looks (model prog w) hh (typeOf (.ref x)) (.ref C) := I.type
  have L2 : Looks (model prog w) hh (typeOf b) (.type T) := fun A Q E s' kp q => wpAny_typeOf (is_keeps hb kp) q
  have L3 : Looks (model prog w) hh (fillsNumberSlot (.ref C) nm) true := fills_K X hcd hm hs
  have L4 : Looks (model prog w) hh (fillsNumberSlot (.type T) nm) ((fo.isSome && !isSeqSlot fo) || (ro.isSome && !isSeqSlot ro)) := ksp_fillsT X h1 h2
  have L5 : Looks (model prog w) hh (isSubtype (.type T) (.ref C)) false := looks_subIn X hsub
  have L6 : Looks (model prog w) hh (numberSlotInPython (.ref C) nm) true := ksp_inPy X hs hr hp
  have L7 : Looks (model prog w) hh (numberSlotInPython (.type T) nm) false := Looks.of_pure rfl
  have L8 : Looks (model prog w) hh (typeLookup (.type T) (dunderR nm)) ro := looks_findIn X h2
  generalize ((fo.isSome && !isSeqSlot fo) || (ro.isSome && !isSeqSlot ro)) = right at L4
  have hne : (Value.ref C == Value.type T) = false := Bool.eq_false_iff.mpr fun q => by cases beq_iff_eq.mp q
  unfold binaryOp1
  refine wpAny_bind (L1.at (wpAny_bind (L2.at (wpAny_bind (L3.at ?_)))))
  simp only [hne, Bool.false_eq_true, if_false]
  cases right with
  | false =>
    ksp_lk
    refine wpAny_mono one (fun r s' hr' => ?_) fun _ _ e => e
    obtain ⟨v, rfl, hq⟩ := hr'
    ksp_lk
    exact ⟨v, rfl, hq⟩
  | true =>
    ksp_lk
    refine wpAny_mono one (fun r s' hr' => ?_) fun _ _ e => e
    obtain ⟨v, rfl, hq⟩ := hr'
    ksp_lk
    exact ⟨v, rfl, hq⟩

theorem b1_rightL {a : Value} {fo ro : Option Value} {Q : Value → Shared → Prop} (X : K.In s.heap) (J : InstAt s.heap y oy C oe) (ha : s.TypeIs a T) (hc : selfFirst K C = true)
    (hs : findIn K (.ref C) (PySem.dunder nm) = some (some (.ref f))) (hr : findIn K (.ref C) (dunderR nm) = some (some (.ref g))) (hg : isFn K (.ref g) = true)
    (h1 : findIn K (.type T) (PySem.dunder nm) = some fo) (h2 : findIn K (.type T) (dunderR nm) = some ro) (hsub : subIn K (.ref C) (.type T) = some false)
    (no : ((fo.isSome && !isSeqSlot fo) || (ro.isSome && !isSeqSlot ro)) = true → Declines prog w A E s nm a y)
    (h : ∀ t, wpAny (model prog w) A (call (.ref g) [.ref y, a]) (W.CmpBack Q) E { s with toks := t }) : wpAny (model prog w) A (binaryOp1 nm a (.ref y)) (fun r s' => ∃ v, r = some v ∧ Q v s') E s := by
  obtain ⟨cd, rest, hcd, hm⟩ := ksp_first hc
  have one : ∀ t, wpAny (model prog w) A (tryMethod (.ref y) (dunderR nm) a) (fun r s' => ∃ v, r = some v ∧ Q v s') E { s with toks := t } := fun t => ksp_try (s := { s with toks := t }) X J hr hg (h t)
  obtain ⟨hh, gg, d, tt, os⟩ := s
  have L1 : Looks (model prog w) hh (typeOf a) (.type T) := fun A Q E s' kp q => wpAny_typeOf (is_keeps ha kp) q
  have L2 : Looks (model prog w) hh (typeOf (.ref y)) (.ref C) := J.type
  have L3 : Looks (model prog w) hh (fillsNumberSlot (.ref C) nm) true := fills_K X hcd hm hs
  have L4 : Looks (model prog w) hh (fillsNumberSlot (.type T) nm) ((fo.isSome && !isSeqSlot fo) || (ro.isSome && !isSeqSlot ro)) := ksp_fillsT X h1 h2
  have L5 : Looks (model prog w) hh (isSubtype (.ref C) (.type T)) false := looks_subIn X hsub
  have L7 : Looks (model prog w) hh (numberSlotInPython (.type T) nm) false := Looks.of_pure rfl
  have hne : (Value.type T == Value.ref C) = false := Bool.eq_false_iff.mpr fun q => by cases beq_iff_eq.mp q
  generalize hl : ((fo.isSome && !isSeqSlot fo) || (ro.isSome && !isSeqSlot ro)) = left at L4 no
  unfold binaryOp1
  refine wpAny_bind (L1.at (wpAny_bind (L2.at (wpAny_bind (L4.at ?_)))))
  simp only [hne, Bool.false_eq_true, if_false]
  cases left with
  | false =>
    ksp_lk
    refine wpAny_mono (one tt) (fun r s' hr' => ?_) fun _ _ e => e
    obtain ⟨v, rfl, hq⟩ := hr'
    ksp_lk
    exact ⟨v, rfl, hq⟩
  | true =>
    ksp_lk
    refine no rfl _ fun t => ?_
    ksp_lk
    refine wpAny_mono (one t) (fun r s' hr' => ?_) fun _ _ e => e
    obtain ⟨v, rfl, hq⟩ := hr'
    ksp_lk
    exact ⟨v, rfl, hq⟩


variable {b : Bool} {dx : Addr}
theorem decl_ofB {id : String} {B : Builtin} (slot : Slot "bool" (PySem.dunder nm) id) (entry : entryFor table id = some B) (args : argsOk id ⟨[.bool b, .ref y], []⟩)
    (body : ∀ (E' : Value → Shared → Prop) (R : Fin → Shared → Prop), (∀ t, R (.done (.ret .notImplemented)) { s with toks := t }) → wpAny (model prog w) A.in1 (B ⟨[.bool b, .ref y], []⟩) R E' s) : Declines prog w A E s nm (.bool b) y := by
  intro R hR
  have hT : s.TypeIs (.bool b) "bool" := rfl
  unfold tryMethod
  refine wpAny_bind (wpAny_callSpecial?_slot hT slot (GQ.call_here slot hT entry args (body _ _ fun t => ?_)))
  exact wpAny_pure (hR t)
theorem pylong_noB {R : Unit → Shared → Prop} {M : Model} (hy : s.heap.get? y = some (instObj C dx)) (h : R () s) : wpAny M A (Builtin.exactOperandsForPylong false ⟨[Value.bool b, Value.ref y], []⟩) R E s := by
  unfold Builtin.exactOperandsForPylong
  refine wpAny_ite_true rfl ?_
  cases b
  · refine wpAny_bind (wpAny_of_eq (a := some 0) rfl ?_)
    refine wpAny_bind (asInt_inst hy ?_)
    exact wpAny_pure h
  · refine wpAny_bind (wpAny_of_eq (a := some 1) rfl ?_)
    refine wpAny_bind (asInt_inst hy ?_)
    exact wpAny_pure h
theorem add_noB {R : Fin → Shared → Prop} (hy : s.heap.get? y = some (instObj C dx)) (hR : ∀ t, R (.done (.ret .notImplemented)) { s with toks := t }) : wpAny (model prog w) A (Builtin.«int.__add__» ⟨[Value.bool b, Value.ref y], []⟩) R E s := by
  unfold Builtin.«int.__add__»
  exact bin_noB hy hR
theorem addB2 : entryFor table "int.__add__" = some Builtin.«int.__add__» := F.entry_int_add
theorem addB3 : argsOk "int.__add__" ⟨[Value.bool b, Value.ref y], []⟩ := F.args_int_add_2 _ _
theorem addBd' {B : Builtin} (hB : Builtin.«int.__add__» = B) (h2 : entryFor table "int.__add__" = some B) (hy : s.heap.get? y = some (instObj C dx)) : Declines prog w A E s "add" (Value.bool b) y :=
  decl_ofB (nm := "add") (id := "int.__add__") (B := B) (b := b) F.slot_bool_add h2 addB3 (hB ▸ fun E' R hR => add_noB hy hR)
theorem addBd (hy : s.heap.get? y = some (instObj C dx)) : Declines prog w A E s "add" (Value.bool b) y := addBd' rfl addB2 hy
theorem sub_noB {R : Fin → Shared → Prop} (hy : s.heap.get? y = some (instObj C dx)) (hR : ∀ t, R (.done (.ret .notImplemented)) { s with toks := t }) : wpAny (model prog w) A (Builtin.«int.__sub__» ⟨[Value.bool b, Value.ref y], []⟩) R E s := by
  unfold Builtin.«int.__sub__»
  exact bin_noB hy hR
theorem subB2 : entryFor table "int.__sub__" = some Builtin.«int.__sub__» := F.entry_int_sub
theorem subB3 : argsOk "int.__sub__" ⟨[Value.bool b, Value.ref y], []⟩ := F.args_int_sub_2 _ _
theorem subBd' {B : Builtin} (hB : Builtin.«int.__sub__» = B) (h2 : entryFor table "int.__sub__" = some B) (hy : s.heap.get? y = some (instObj C dx)) : Declines prog w A E s "sub" (Value.bool b) y :=
  decl_ofB (nm := "sub") (id := "int.__sub__") (B := B) (b := b) F.slot_bool_sub h2 subB3 (hB ▸ fun E' R hR => sub_noB hy hR)
theorem subBd (hy : s.heap.get? y = some (instObj C dx)) : Declines prog w A E s "sub" (Value.bool b) y := subBd' rfl subB2 hy
theorem mul_noB {R : Fin → Shared → Prop} (hy : s.heap.get? y = some (instObj C dx)) (hR : ∀ t, R (.done (.ret .notImplemented)) { s with toks := t }) : wpAny (model prog w) A (Builtin.«int.__mul__» ⟨[Value.bool b, Value.ref y], []⟩) R E s := by
  unfold Builtin.«int.__mul__»
  exact bin_noB hy hR
theorem mulB2 : entryFor table "int.__mul__" = some Builtin.«int.__mul__» := F.entry_int_mul
theorem mulB3 : argsOk "int.__mul__" ⟨[Value.bool b, Value.ref y], []⟩ := F.args_int_mul_2 _ _
theorem mulBd' {B : Builtin} (hB : Builtin.«int.__mul__» = B) (h2 : entryFor table "int.__mul__" = some B) (hy : s.heap.get? y = some (instObj C dx)) : Declines prog w A E s "mul" (Value.bool b) y :=
  decl_ofB (nm := "mul") (id := "int.__mul__") (B := B) (b := b) F.slot_bool_mul h2 mulB3 (hB ▸ fun E' R hR => mul_noB hy hR)
theorem mulBd (hy : s.heap.get? y = some (instObj C dx)) : Declines prog w A E s "mul" (Value.bool b) y := mulBd' rfl mulB2 hy
theorem mod_noB {R : Fin → Shared → Prop} (hy : s.heap.get? y = some (instObj C dx)) (hR : ∀ t, R (.done (.ret .notImplemented)) { s with toks := t }) : wpAny (model prog w) A (Builtin.«int.__mod__» ⟨[Value.bool b, Value.ref y], []⟩) R E s := by
  unfold Builtin.«int.__mod__»
  exact bin_noB hy hR
theorem modB2 : entryFor table "int.__mod__" = some Builtin.«int.__mod__» := F.entry_int_mod
theorem modB3 : argsOk "int.__mod__" ⟨[Value.bool b, Value.ref y], []⟩ := F.args_int_mod_2 _ _
theorem modBd' {B : Builtin} (hB : Builtin.«int.__mod__» = B) (h2 : entryFor table "int.__mod__" = some B) (hy : s.heap.get? y = some (instObj C dx)) : Declines prog w A E s "mod" (Value.bool b) y :=
  decl_ofB (nm := "mod") (id := "int.__mod__") (B := B) (b := b) F.slot_bool_mod h2 modB3 (hB ▸ fun E' R hR => mod_noB hy hR)
theorem modBd (hy : s.heap.get? y = some (instObj C dx)) : Declines prog w A E s "mod" (Value.bool b) y := modBd' rfl modB2 hy
theorem floordiv_noB {R : Fin → Shared → Prop} (hy : s.heap.get? y = some (instObj C dx)) (hR : ∀ t, R (.done (.ret .notImplemented)) { s with toks := t }) : wpAny (model prog w) A (Builtin.«int.__floordiv__» ⟨[Value.bool b, Value.ref y], []⟩) R E s := by
  unfold Builtin.«int.__floordiv__»
  exact wpAny_bind (pylong_noB hy (bin_noB hy hR))
theorem floordivB2 : entryFor table "int.__floordiv__" = some Builtin.«int.__floordiv__» := F.entry_int_floordiv
theorem floordivB3 : argsOk "int.__floordiv__" ⟨[Value.bool b, Value.ref y], []⟩ := F.args_int_floordiv_2 _ _
theorem floordivBd' {B : Builtin} (hB : Builtin.«int.__floordiv__» = B) (h2 : entryFor table "int.__floordiv__" = some B) (hy : s.heap.get? y = some (instObj C dx)) : Declines prog w A E s "floordiv" (Value.bool b) y :=
  decl_ofB (nm := "floordiv") (id := "int.__floordiv__") (B := B) (b := b) F.slot_bool_floordiv h2 floordivB3 (hB ▸ fun E' R hR => floordiv_noB hy hR)
theorem floordivBd (hy : s.heap.get? y = some (instObj C dx)) : Declines prog w A E s "floordiv" (Value.bool b) y := floordivBd' rfl floordivB2 hy
theorem decl_fiveB {op : Operator} (h : Five op) (hy : s.heap.get? y = some (instObj C dx)) : Declines prog w A E s op.info.2 (Value.bool b) y := by
  rcases h with rfl | rfl | rfl | rfl | rfl
  · exact addBd hy
  · exact subBd hy
  · exact mulBd hy
  · exact modBd hy
  · exact floordivBd hy
/-! ### what the built-in types have -/
def nm5 : List String := ["add", "sub", "mul", "mod", "floordiv"]
theorem seven_has : (seven.all fun T => nm5.all fun nm => (fastLookup T (PySem.dunder nm)).isSome && (fastLookup T (dunderR nm)).isSome) = true := by decide +kernel
/-- what no number slot of a type answers -/
def noSlot (T nm : String) : Bool := match fastLookup T (PySem.dunder nm), fastLookup T (dunderR nm) with
  | some fo, some ro => !((fo.isSome && !isSeqSlot fo) || (ro.isSome && !isSeqSlot ro))
  | _, _ => false
theorem seven_no : ((["NoneType", "list", "tuple", "dict"] : List String).all fun T => nm5.all fun nm => noSlot T nm) = true := by decide +kernel
theorem str_noS : ((["add", "sub", "mul", "floordiv"] : List String).all fun nm => noSlot "str" nm) = true := by decide +kernel
theorem five_mem {op : Operator} (h : Five op) : op.info.2 ∈ nm5 := by rcases h with rfl | rfl | rfl | rfl | rfl <;> decide
theorem has_of {op : Operator} (h5 : Five op) (h : T ∈ seven) : (∃ fo, findIn K (.type T) (PySem.dunder op.info.2) = some fo) ∧ ∃ ro, findIn K (.type T) (dunderR op.info.2) = some ro := by
  obtain ⟨a, b⟩ := Bool.and_eq_true_iff.mp (List.all_eq_true.mp (List.all_eq_true.mp seven_has T h) _ (five_mem h5))
  exact ⟨Option.isSome_iff_exists.mp a, Option.isSome_iff_exists.mp b⟩
end
end Oo
namespace Oo
open PySem PySem.Spec PyProof.Rows L2
section
variable {X : Cx} {CX : CXT} {pins : List (Addr × Obj)} {σ : L2.St} {H : Hp} {s : Shared} {C f : Addr} {g : Option Addr} {k : Nat} {sp sq : Sp} {E : XK} {fd gd : FuncData} {ps qs : List Str} {op : Operator}
/-- an own instance on the left, any built-in value on the right -/
def rBinL (C : Addr) (sp : Sp) (E : XK) : R2 := fun x y H Q => ∃ a dx fs T, x = .ref a ∧ H a = some (.ins C dx fs) ∧ Bt H y T ∧ sp [x, y] H Q E
theorem op_binL (h5 : Five op) (B : OwnBin X.K C op.info.2 f g) (F : FnOk X.prog X.w X.K X.mg X.base CX k f fd ps sp) (hb : Binds X.K fd ps []) (hx : Passes CX X E) (hr : Room k X.A) : OpR X (binaryOp op) (rBinL C sp E) := fun pins s σ H x y v u Q I rx ry h => by
  obtain ⟨a, dx, fs, T, rfl, ha, bt, q⟩ := h
  cases (show v = Value.ref a from rx)
  obtain ⟨od, J, _⟩ := inst_at I ha
  obtain ⟨⟨fo, h1⟩, ro, h2⟩ := has_of (K := X.K) h5 bt.mem
  refine bin_of (b1_leftL I.kIn J (bt.is I ry) B.sf B.hs B.hf B.hr ?_ h1 h2 (sub_T bt.mem) (wpAny_mono (run_fn (us := [.ref a, u]) (vs := [.ref a, y]) F hr hb .nil hx I (.cons rfl (.cons ry .nil)) (by simpa using q)) (fun z s' ⟨z', H', I', rz, q⟩ => SlX.cmpback rz ⟨z', H', I', rz, q⟩) fun _ _ z => z))
  cases g with
  | none => exact .inl rfl
  | some a => exact .inr ⟨a, rfl⟩
/-- any built-in value on the left, an own instance on the right; a text is not formatted -/
def rBinR (C : Addr) (sq : Sp) (E : XK) (nm : String) : R2 := fun x y H Q => ∃ b dy gs T, y = .ref b ∧ H b = some (.ins C dy gs) ∧ Bt H x T ∧ (T = "str" → nm ≠ "mod") ∧ sq [y, x] H Q E
theorem op_binR {g : Addr} (h5 : Five op) (B : OwnBin X.K C op.info.2 f (some g)) (G : FnOk X.prog X.w X.K X.mg X.base CX k g gd qs sq) (hb : Binds X.K gd qs []) (p : Plain X.K C) (hx : Passes CX X E) (hr : Room k X.A) : OpR X (binaryOp op) (rBinR C sq E op.info.2) := fun pins s σ H x y v u Q I rx ry h => by
  obtain ⟨b, dy, gs, T, rfl, hb2, bt, nm, q⟩ := h
  cases (show u = Value.ref b from ry)
  obtain ⟨oe, J2, e2⟩ := inst_at I hb2
  obtain ⟨⟨fo, h1⟩, ro, h2⟩ := has_of (K := X.K) h5 bt.mem
  have hr2 : W.findIn X.K (.ref C) (dunderR op.info.2) = some (some (.ref g)) := by rw [B.hr]; rfl
  have off : noSlot T op.info.2 = true → ((fo.isSome && !isSeqSlot fo) || (ro.isSome && !isSeqSlot ro)) = true → Declines X.prog X.w X.A X.xe s op.info.2 v b := fun n z => by
    unfold noSlot at n
    rw [show fastLookup T (PySem.dunder op.info.2) = some fo from h1, show fastLookup T (dunderR op.info.2) = some ro from h2] at n
    dsimp only at n
    rw [z] at n
    cases n
  refine bin_of (b1_rightL I.kIn J2 (bt.is I rx) B.sf B.hs hr2 (B.hg g rfl) h1 h2 (sub_C p (not_obj bt.mem)) ?_ fun t => ?_)
  · cases bt with
    | non => exact off (List.all_eq_true.mp (List.all_eq_true.mp seven_no "NoneType" (by decide)) _ (five_mem h5))
    | bl c =>
      cases (show v = Value.bool c from rx)
      exact fun _ => decl_fiveB h5 e2
    | int i =>
      obtain ⟨t, rfl⟩ := (show ∃ t, v = Value.int i t from rx)
      exact fun _ => decl_five h5 e2
    | str z =>
      refine off (List.all_eq_true.mp str_noS _ ?_)
      have := nm rfl
      rcases h5 with rfl | rfl | rfl | rfl | rfl
      · decide
      · decide
      · decide
      · exact absurd rfl this
      · decide
    | lst e => exact off (List.all_eq_true.mp (List.all_eq_true.mp seven_no "list" (by decide)) _ (five_mem h5))
    | tup e => exact off (List.all_eq_true.mp (List.all_eq_true.mp seven_no "tuple" (by decide)) _ (five_mem h5))
    | dK e => exact off (List.all_eq_true.mp (List.all_eq_true.mp seven_no "dict" (by decide)) _ (five_mem h5))
  · have I2 : Inv X pins σ H { s with toks := t } := I.tok t
    exact wpAny_mono (run_fn (us := [.ref b, v]) (vs := [.ref b, x]) G hr hb .nil hx I2 (.cons rfl (.cons rx .nil)) (by simpa using q)) (fun z s' ⟨z', H', I', rz, q⟩ => SlX.cmpback rz ⟨z', H', I', rz, q⟩) fun _ _ z => z
end
end Oo

set_option Elab.async false
set_option linter.all false
set_option maxRecDepth 100000
set_option maxHeartbeats 1000000
/-! == and != of an own instance and any value. -/
namespace Oo
open PySem PySem.Spec PySem.W PyProof.Rows
section
variable {prog : Program} {w : World} {A : Around} {E : Value → Shared → Prop} {s : Shared} {K : Frag} {x C f : Addr} {B : String} {bm : List Value} {b : Value} {T : String}
/-- what the own == says of b, turned -/
def Turned (prog : Program) (w : World) (A : Around) (E : Value → Shared → Prop) (f x : Addr) (b : Value) (R : Bool → Shared → Prop) (s : Shared) : Prop :=
  wpAny (model prog w) A (call (.ref f) [.ref x, b]) (fun v s' => ∃ c, v = .bool c ∧ R (!c) s') E s
theorem ne_entry {Q : Fin → Shared → Prop} (X : s.heap.OwnEqNoNe x C f B bm) (hu : A.units < cLine) (go : Turned prog w A E f x b (fun c s' => Q (.done (.ret (.bool c))) s') s) :
    wpAny (model prog w) A (Builtin.«object.__ne__» ⟨[.ref x, b], []⟩) Q E s := by
  obtain ⟨h, g, d, t, os⟩ := s
  have own := X.ownEq
  have first := wpAny_callSpecialIfBound?_own (A := A) (E := E) (M := model prog w) (args := [b]) (g := g) (d := d) (t := t) (os := os) own (Q := fun r s' => ∃ c, r = some (.bool c) ∧ Q (.done (.ret (.bool (!c)))) s')
    (wpAny_mono go (fun r s' hr => let ⟨c, e, q⟩ := hr; ⟨c, by rw [e], q⟩) fun _ _ e => e)
  unfold Builtin.«object.__ne__»
  repeat (first
    | with_reducible refine wpAny_cRoomFor hu ?_
    | (refine wpAny_bind (m := callSpecialIfBound? (.ref x) (Str.ofString "__eq__") [b]) (wpAny_mono first (fun r s' hr => by
        obtain ⟨c, rfl, hq⟩ := hr
        repeat (first | exact hq | exact wpAny_pure hq | exact wpAny_truthy_bool hq | (refine wpAny_bind (m := truthy (.bool _)) (wpAny_truthy_bool ?_)) | wp_step)) fun _ _ e => e))
    | wp_step)
theorem ne_try {Q : Option Value → Shared → Prop} (FB : CmpFacts B bm) (X : s.heap.OwnEqNoNe x C f B bm) (hu : A.units + 1 < cLine) (go : Turned prog w A.in1 E f x b (fun c s' => Q (some (.bool c)) s') s) :
    wpAny (model prog w) A (tryCompare (.ref x) "__ne__" b) Q E s := by
  obtain ⟨h, g, d, t, os⟩ := s
  obtain ⟨o, of, nm, q, N, bs, hdct, sn, sub, ab, col, dd, k0, k1, k2, k3, k5, nid, mN, yv, p1, p2, p3, p4, _, _, _, _, _, p5⟩ := id X
  simp only [tryCompare]
  have body : ∀ (R : Fin → Shared → Prop) (E' : Value → Shared → Prop), (∀ c s', Q (some (.bool c)) s' → R (.done (.ret (.bool c))) s') → (∀ e s', E e s' → E' e s') → wpAny (model prog w) A.in1 (Builtin.«object.__ne__» ⟨[.ref x, b], []⟩) R E' ⟨h, g, d, t, os⟩ := fun R E' hR hE =>
    ne_entry (A := A.in1) X hu (wpAny_mono go (fun v s' hv => let ⟨c, e, hq⟩ := hv; ⟨c, e, hR _ _ hq⟩) hE)
  refine wpAny_bind (wpAny_callSpecialIfBound?_inst p1 p2 p3 p4 p5 FB.mro FB.ne (wpAny_call (codeAny_call_builtin FB.ne.plain F.cmpEntry_ne
    (wpAny_check_slot_inst F.cmpKind_ne F.cmpSplit_ne (F.cmpArgs_ne _ _) FB.hasObject p1 p2 p3 (body _ _ (fun c s' hq => ?_) fun e s' z => z)))))
  first | exact wpAny_pure hq | exact wpAny_pure (wpAny_pure hq) | exact hq
theorem ne_rich {Q : Value → Shared → Prop} (FB : CmpFacts B bm) (X : s.heap.OwnEqNoNe x C f B bm) (hT : s.TypeIs b T) (sub : subIn K (.type T) (.ref C) = some false) (kin : K.In s.heap) (hu : A.units + 1 < cLine)
    (go : Turned prog w A.in1 E f x b (fun c s' => Q (.bool c) s') s) : wpAny (model prog w) A (richCompare .NotEq (.ref x) b) Q E s := by
  obtain ⟨h, g, d, t, os⟩ := s
  obtain ⟨o, of, nm, q, N, bs, hdct, sn, sb, ab, col, dd, k0, k1, k2, k3, k5, nid, mN, yv, p1, p2, _⟩ := id X
  unfold richCompare
  simp only [oneThing_ref]
  refine wpAny_holding (wpAny_bind (wpAny_cRoomFor (Nat.lt_of_succ_lt hu) ?_))
  rw [cmpInfo_NotEq]
  dsimp only
  refine wpAny_bind (wpAny_typeOf_ref p1 ?_)
  rw [p2]
  refine wpAny_bind (wpAny_typeOf hT ?_)
  have ne : (Value.ref C != Value.type T) = true := rfl
  simp only [ne, if_true]
  refine wpAny_bind ((looks_subIn kin sub).here ?_)
  simp only [Bool.false_eq_true, if_false]
  refine wpAny_bind (wpAny_mono (ne_try (Q := fun r s' => ∃ c, r = some (.bool c) ∧ Q (.bool c) s') FB X hu (wpAny_mono go (fun v s' hv => ?_) fun _ _ e => e)) (fun r s' hr => ?_) fun _ _ e => e)
  · obtain ⟨c, rfl, hq⟩ := hv
    exact ⟨c, rfl, _, rfl, hq⟩
  · obtain ⟨c, rfl, hq⟩ := hr
    exact wpAny_pure hq
end
end Oo

set_option Elab.async false
set_option linter.all false
set_option maxRecDepth 100000
set_option maxHeartbeats 1000000
set_option exponentiation.threshold 9000
/-! What is no number is refused. -/
namespace KA
open PySem PySem.Spec PyProof.Rows L2 Oo Gd Am
/-- refused: the error of the class at Wc, which tells v, lies in a heap where all stands on -/
def RefV (Wc : Addr) (v : V) (H : Hp) (E : XK) : Prop := ∀ (d : Addr) (H' : Hp), Am.Ext H H' → H d = none → H' d = some (.xd [("value", v)]) → E (.ref Wc) (some d) H'
theorem RefV.on {Wc : Addr} {v : V} {H H1 : Hp} {E : XK} (r : RefV Wc v H E) (e : Am.Ext H H1) : RefV Wc v H1 E := fun d H' x n h => r d H' (e.trans x) (e.gone n) h
theorem RefV.here {Wc : Addr} {v : V} {H : Hp} {E : XK} (r : RefV Wc v H E) : ∀ e d, H e = none → H d = none → d ≠ e → E (.ref Wc) (some d) (Gx.leftH H Wc e d [("value", v)]) := fun e d he hd ne => by
  obtain ⟨x1, x2⟩ := left_ext (Z := Wc) (fs := [("value", v)]) he hd
  exact r d _ x1 hd x2
/-- what the text says of an error that tells a value -/
structure Wr (K : W.Frag) (mg : Str → Option Value) (x : Str) (Wc : Addr) : Prop where
  e1 : Ge.E1 K Wc "value"
  mgW : mg x = some (.ref Wc)
  rs : ∀ {X : Cx}, X.K = K → Raises X (.ref Wc)
/-- no INTEGER, no Amount -/
def Odd (H : Hp) (v : V) : Prop := ∃ T, Bt H v T ∧ T ≠ "int"
theorem Odd.ext {H H' : Hp} {v : V} (o : Odd H v) (e : Am.Ext H H') : Odd H' v := let ⟨T, b, n⟩ := o; ⟨T, b.ext e, n⟩
/-- the class stands right below object -/
structure Kc (K : W.Frag) (C : Addr) : Prop where
  ks : (W.clsIn K C).isSome = true
  kt : W.typeIn K (.ref C) = some (.type "type")
  pl : Plain K C
theorem never_op {X : Cx} {f : Value → Value → Sem Value} : OpR X f (fun _ _ _ _ => False) := fun _ _ _ _ _ _ _ _ _ _ _ _ h => h.elim
theorem never_un {X : Cx} {f : Value → Sem Value} : UnR X f (fun _ _ _ => False) := fun _ _ _ _ _ _ _ _ _ h => h.elim
section
variable {P : Program} {w : World} {K : W.Frag} {mg : Str → Option Value} {base : Heap} {C Wc f : Addr} {fd : FuncData}
def spWholeO : Sp := fun vs H Q _ => ∃ v, vs = [v] ∧ Odd H v ∧ Q (.bl false) H
theorem ok_wholeO (fr : Frees mg) (F : Fun K "is_whole" "is_whole" (top 9) f fd) : FnOk P w K mg base CX0 1 f fd ["value"] spWholeO := by
  refine F.ok scWhole (fun vs H Q E h => ?_) (fun cdv A outer s H vs Q E hr h => ?_)
  · obtain ⟨v, rfl, _⟩ := h
    rfl
  · obtain ⟨v, rfl, ⟨T, bt, ni⟩, q⟩ := h
    refine ⟨_, pss_one (ps_ret (pe_and (pe_callB call_isi rfl (fr.h _ (by decide +kernel)) (by decide +kernel) (pa_cons (pv 0) (pa_cons (pe_bltn (v := V.ty "int") rfl (fr.h _ (by decide +kernel)) (by rfl) rfl) pa_nil)))
      (pe_one (pe_not (pe_callB call_isi rfl (fr.h _ (by decide +kernel)) (by decide +kernel) (pa_cons (pv 0) (pa_cons (pe_bltn (v := V.ty "bool") rfl (fr.h _ (by decide +kernel)) (by rfl) rfl) pa_nil))))))), ?_⟩
    cases bt with
    | int i => exact absurd rfl ni
    | bl b =>
      refine ⟨_, rfl, _, _, _, _, true, rfl, ClsV.ty "int", TyX.base (TyOf.bl b), kit_ty (by decide +kernel), true, rfl, ?_⟩
      exact ⟨_, rfl, _, _, _, _, true, rfl, ClsV.ty "bool", TyX.base (TyOf.bl b), kit_ty (by decide +kernel), true, rfl, q⟩
    | non => exact ⟨_, rfl, _, _, _, _, false, rfl, ClsV.ty "int", TyX.base TyOf.non, kit_ty (by decide +kernel), false, rfl, q⟩
    | str z => exact ⟨_, rfl, _, _, _, _, false, rfl, ClsV.ty "int", TyX.base (TyOf.str z), kit_ty (by decide +kernel), false, rfl, q⟩
    | lst e => exact ⟨_, rfl, _, _, _, _, false, rfl, ClsV.ty "int", TyX.base (TyOf.lst e), kit_ty (by decide +kernel), false, rfl, q⟩
    | tup e => exact ⟨_, rfl, _, _, _, _, false, rfl, ClsV.ty "int", TyX.base (TyOf.tup e), kit_ty (by decide +kernel), false, rfl, q⟩
    | dK e => exact ⟨_, rfl, _, _, _, _, false, rfl, ClsV.ty "int", TyX.base (TyOf.dK e), kit_ty (by decide +kernel), false, rfl, q⟩
theorem ok_countO (DW : Dn P w K mg base CX0 1 "is_whole" ["value"] spWholeO) (F : Fun K "is_count" "is_count" (top 10) f fd) : FnOk P w K mg base CX0 2 f fd ["value"] spWholeO := by
  refine F.ok scCount (fun vs H Q E h => ?_) (fun cdv A outer s H vs Q E hr h => ?_)
  · obtain ⟨v, rfl, _⟩ := h
    rfl
  · obtain ⟨v, rfl, od, q⟩ := h
    refine ⟨_, pss_one (ps_ret (pe_and (pe_dn DW hr (by rfl) (by decide) (pa_cons (pv 0) pa_nil)) (pe_one (pe_cmpR op_ge (pv 0) pe_int (nomark _))))), ?_⟩
    exact ⟨_, rfl, v, rfl, od, false, rfl, q⟩
/-! ### __init__, of -/
def spInitO (C Wc : Addr) : Sp := fun vs H Q E => ∃ x dx v d, vs = [.ref x, v, d] ∧ H x = some (.ins C dx []) ∧ Odd H v ∧ RefV Wc v H E
theorem ok_initO (DW : Dn P w K mg base CX0 1 "is_whole" ["value"] spWholeO) (WR : Wr K mg "InvalidAmount" Wc) (F : FunI K f fd) : FnOk P w K mg base (L2.CX P w) 2 f fd ["self", "top", "bottom"] (spInitO C Wc) := by
  refine F.ok (CX := L2.CX P w) scInit (fun vs H Q E h => ?_) (fun cdv A outer s H vs Q E hr h => ?_)
  · obtain ⟨x, dx, v, d, rfl, _⟩ := h
    rfl
  · obtain ⟨x, dx, v, d, rfl, hx, od, rv⟩ := h
    refine ⟨_, pss_cons (ps_if (pt_not (pt_val (pe_dn DW hr (by rfl) (by decide) (pa_cons (pv 1) pa_nil)))) (pss_one (ps_raise rfl (takes_of rfl rfl rfl rfl) (Gx.pmk1 WR.e1 (WR.rs rfl) hr rfl WR.mgW (pa_cons (pv 1) pa_nil)))) pss_nil) pss_never, ?_⟩
    exact ⟨_, rfl, v, rfl, od, _, rfl, iteT ⟨_, rfl, _, rfl, rv.here⟩⟩
structure BaseO (P : Program) (w : World) (K : W.Frag) (mg : Str → Option Value) (base : Heap) (C Wc : Addr) : Prop where
  mgA : mg "Amount" = some (.ref C)
  make : ∃ fI fd, Mk K C fI ∧ FnOk P w K mg base (L2.CX P w) 2 fI fd ["self", "top", "bottom"] (spInitO C Wc) ∧ ∃ ds, Vals [V.int 1] ds ∧ Binds K fd ["self", "top", "bottom"] ds
def tMkO (Wc : Addr) (E : XK) (t : TA) : TE := fun σ H Q => t σ H fun vs H1 => ∃ v, vs = [v] ∧ Odd H1 v ∧ RefV Wc v H1 E
end
section
variable {X : Cx} {C Wc : Addr} {p pos : Pos} {e : Expr} {es : List Expr} {t : TA} {E : XK}
theorem pe_mkO (B : BaseO X.prog X.w X.K X.mg X.base C Wc) (hr : Room 3 X.A) (hg : Gl X "Amount") (hx : Passes (L2.CX X.prog X.w) X E) (ha : PA X (e :: es) t) (he : starEach (e :: es) X.env = (false, eval e X.env) :: starEach es X.env := by rfl) (hpl : (backTo pos (starEach es X.env)).any (·.1) = false := by rfl) :
    PE X (.Call (.Name "Amount" p) (e :: es) [] pos) (tMkO Wc E t) := by
  obtain ⟨fI, fd, M, F, ds, hv, b1⟩ := B.make
  refine ⟨fun pins s σ H Q I h => ?_⟩
  refine wpAny_Call_Name_kw (ld_glob I hg B.mgA ?_ (by decide))
  refine PySem.W.callWith_K (h₀ := X.base) I.ok.mod.kin M.kp (thn (ha.run pos pins s σ H _ I h) fun us s1 ⟨vs, H1, I1, r, v, ev, od, rv⟩ => ⟨I1.kIn, ?_⟩) he hpl
  subst ev
  refine run_make (E := E) M F hr b1 hv hx I1 r fun x dx hx hdx ne => ?_
  have ex : Am.Ext H1 (upd (upd H1 dx (.own x)) x (.ins C dx [])) := fun b u e => by
    have nx := ne_of_none e hx
    rw [upd_ne nx, upd_ne (ne_of_none e hdx)]
    exact e
  exact ⟨x, dx, v, .int 1, rfl, upd_same, od.ext ex, rv.on ex⟩
end
section
variable {P : Program} {w : World} {K : W.Frag} {mg : Str → Option Value} {base : Heap} {C Wc f : Addr} {fd : FuncData}
def spOfO (Wc : Addr) : Sp := fun vs H Q E => ∃ v, vs = [v] ∧ Odd H v ∧ RefV Wc v H E
theorem ok_ofO (fr : Frees mg) (B : BaseO P w K mg base C Wc) (kc : Kc K C) (F : Fun K "of" "Amount.of" (am 1) f fd) : FnOk P w K mg base (L2.CX P w) 4 f fd ["number"] (spOfO Wc) := by
  refine F.okX scOf (fun vs H Q E h => ?_) (fun cdv A outer s H vs Q E hr h => ?_)
  · obtain ⟨v, rfl, _⟩ := h
    rfl
  · obtain ⟨v, rfl, od, rv⟩ := h
    refine ⟨_, pss_cons (ps_if (pt_val (pe_callB call_isi rfl (fr.h _ (by decide +kernel)) (by decide +kernel) (pa_cons (pv 0) (pa_cons (pe_glob (v := V.ref C) rfl B.mgA rfl) pa_nil)))) (pss_one (ps_ret (pv 0))) pss_nil)
      (pss_one (ps_ret (pe_mkO (E := E) B hr rfl (passes_call (takes_of rfl rfl rfl rfl) fun _ _ _ _ h => h) (pa_cons (pv 0) pa_nil)))), ?_⟩
    obtain ⟨T, bt, ni⟩ := id od
    exact ⟨_, rfl, _, _, _, _, false, rfl, ClsV.own C, bt.ty, kit_no bt.mem kc.ks kc.kt, _, rfl, iteF ⟨_, rfl, v, rfl, od, rv⟩⟩
structure OfO (P : Program) (w : World) (K : W.Frag) (mg : Str → Option Value) (base : Heap) (C Wc : Addr) : Prop where
  mgA : mg "Amount" = some (.ref C)
  of : ∃ mc p g fd, ClX.CRead K C mc ∧ SMet K C mc "of" p g ∧ FnOk P w K mg base (L2.CX P w) 4 g fd ["number"] (spOfO Wc) ∧ Binds K fd ["number"] []
end
section
variable {X : Cx} {C Wc : Addr} {p pos apos : Pos} {e o : Expr} {t : TA} {ta : TE} {E : XK}
theorem pe_ofO (O : OfO X.prog X.w X.K X.mg X.base C Wc) (hr : Room 4 X.A) (hx : Passes (L2.CX X.prog X.w) X E) (ho : PE X o ta) (ha : PA X [e] t) {pl : Sem Bool}
    (hst : starEach [e] X.env = (false, eval e X.env) :: starEach [] X.env := by rfl) (hpl : (backTo pos (starEach [] X.env)).any (·.1) = false := by rfl)
    (ht : eval (.Call (.Attribute o "of" apos) [e] [] pos) X.env = (do
      let ov ← eval o X.env
      standAt apos.atName
      let (f, first) ← holding [ov] (getMethod ov "of" pl)
      callWith pos f first (backTo pos (starEach [e] X.env)) (backToKw pos (keywordEach [] X.env))) := by rfl) : PE X (.Call (.Attribute o "of" apos) [e] [] pos) (tSMeth C (spOfO Wc) E ta t) := by
  obtain ⟨mc, p, g, fd, R, S, F, b⟩ := O.of
  exact pe_smeth (pl := pl) ho R S F b hr hx ha hst hpl ht
end
section
variable {P : Program} {w : World} {K : W.Frag} {mg : Str → Option Value} {base : Heap} {C Wc f : Addr} {fd : FuncData}
/-- a method of two, refused what is no number -/
def spOpO (C Wc : Addr) : Sp := fun vs H Q E => ∃ a y q, vs = [.ref a, y] ∧ Is C H a q ∧ Odd H y ∧ RefV Wc y H E
theorem ok_subO (O : OfO P w K mg base C Wc) (F : Fun K "__sub__" "Amount.__sub__" (am 8) f fd) : FnOk P w K mg base (L2.CX P w) 6 f fd ["self", "other"] (spOpO C Wc) := by
  refine F.okX scSub (fun vs H Q E h => ?_) (fun cdv A outer s H vs Q E hr h => ?_)
  · obtain ⟨a, y, q, rfl, _⟩ := h
    rfl
  · obtain ⟨a, y, q, rfl, ia, od, rv⟩ := h
    have h4 := hr.mono (show 4 ≤ 5 by decide)
    refine ⟨_, pss_one (ps_ret (pe_op never_op (pv 0) (pe_un never_un (pe_ofO (E := E) O h4 (passes_call (takes_of rfl rfl rfl rfl) fun _ _ _ _ h => h) (pe_glob (v := V.ref C) rfl O.mgA rfl) (pa_cons (pv 1) pa_nil))))), ?_⟩
    exact ⟨_, rfl, rfl, _, rfl, y, rfl, od, rv⟩
theorem ok_overO (O : OfO P w K mg base C Wc) (F : Fun K "over" "Amount.over" (am 12) f fd) : FnOk P w K mg base (L2.CX P w) 5 f fd ["self", "other"] (spOpO C Wc) := by
  refine F.okX scOver (fun vs H Q E h => ?_) (fun cdv A outer s H vs Q E hr h => ?_)
  · obtain ⟨a, y, q, rfl, _⟩ := h
    rfl
  · obtain ⟨a, y, q, rfl, ia, od, rv⟩ := h
    have nd := scOver.nd
    refine ⟨_, pss_cons (ps_set (i := 2) nd rfl (.inl rfl) (pe_ofO (E := E) O hr (passes_call (takes_of rfl rfl rfl rfl) fun _ _ _ _ h => h) (pe_glob (v := V.ref C) rfl O.mgA rfl) (pa_cons (pv 1) pa_nil))) pss_never, ?_⟩
    exact ⟨rfl, _, rfl, y, rfl, od, rv⟩
theorem ok_modO (O : OfO P w K mg base C Wc) (F : Fun K "__mod__" "Amount.__mod__" (am 15) f fd) : FnOk P w K mg base (L2.CX P w) 5 f fd ["self", "other"] (spOpO C Wc) := by
  refine F.okX scMod (fun vs H Q E h => ?_) (fun cdv A outer s H vs Q E hr h => ?_)
  · obtain ⟨a, y, q, rfl, _⟩ := h
    rfl
  · obtain ⟨a, y, q, rfl, ia, od, rv⟩ := h
    have nd := scMod.nd
    refine ⟨_, pss_cons (ps_set (i := 2) nd rfl (.inl rfl) (pe_ofO (E := E) O hr (passes_call (takes_of rfl rfl rfl rfl) fun _ _ _ _ h => h) (pe_glob (v := V.ref C) rfl O.mgA rfl) (pa_cons (pv 1) pa_nil))) pss_never, ?_⟩
    exact ⟨rfl, _, rfl, y, rfl, od, rv⟩
theorem ok_rfdO (O : OfO P w K mg base C Wc) (F : Fun K "__rfloordiv__" "Amount.__rfloordiv__" (am 14) f fd) : FnOk P w K mg base (L2.CX P w) 5 f fd ["self", "other"] (spOpO C Wc) := by
  refine F.okX scRfd (fun vs H Q E h => ?_) (fun cdv A outer s H vs Q E hr h => ?_)
  · obtain ⟨a, y, q, rfl, _⟩ := h
    rfl
  · obtain ⟨a, y, q, rfl, ia, od, rv⟩ := h
    refine ⟨_, pss_one (ps_ret (pe_op never_op (pe_ofO (E := E) O hr (passes_call (takes_of rfl rfl rfl rfl) fun _ _ _ _ h => h) (pe_glob (v := V.ref C) rfl O.mgA rfl) (pa_cons (pv 1) pa_nil)) (pv 0))), ?_⟩
    exact ⟨rfl, _, rfl, y, rfl, od, rv⟩
structure OverO (P : Program) (w : World) (K : W.Frag) (mg : Str → Option Value) (base : Heap) (C Wc : Addr) : Prop where
  of : ∃ f fd, Meth K C "over" f ∧ FnOk P w K mg base (L2.CX P w) 5 f fd ["self", "other"] (spOpO C Wc) ∧ Binds K fd ["self", "other"] []
theorem ok_fdO (cl : Cls K C) (V1 : OverO P w K mg base C Wc) (F : Fun K "__floordiv__" "Amount.__floordiv__" (am 13) f fd) : FnOk P w K mg base (L2.CX P w) 6 f fd ["self", "other"] (spOpO C Wc) := by
  refine F.okX scFd (fun vs H Q E h => ?_) (fun cdv A outer s H vs Q E hr h => ?_)
  · obtain ⟨a, y, q, rfl, _⟩ := h
    rfl
  · obtain ⟨a, y, q, rfl, ia, od, rv⟩ := h
    have nd := scFd.nd
    obtain ⟨fo, fdo, hm, G, b⟩ := V1.of
    refine ⟨_, pss_cons (ps_set (i := 2) nd rfl (.inl rfl) (pe_meth (pv 0) cl hm G hr b .nil (passes_call (takes_of rfl rfl rfl rfl) fun _ _ _ _ h => h) (pa_cons (pv 1) pa_nil))) pss_never, ?_⟩
    obtain ⟨dx, ea⟩ := id ia
    exact ⟨_, rfl, a, dx, _, rfl, ea, no_over q, _, rfl, a, y, q, rfl, ia, od, rv⟩
/-! ### **, rounded, == -/
def spPowO (C Wc : Addr) : Sp := fun vs H Q E => ∃ a q i, vs = [.ref a, .int i] ∧ Is C H a q ∧ 12 < i ∧ RefV Wc (.int i) H E
theorem ok_powO {t : Tok} (DC : Dn P w K mg base CX0 2 "is_count" ["value"] spCount) (WR : Wr K mg "InvalidAmount" Wc) (mgP : mg "MOST_POWER" = some (.int 12 t)) (F : Fun K "__pow__" "Amount.__pow__" (am 17) f fd) :
    FnOk P w K mg base (L2.CX P w) 3 f fd ["self", "other"] (spPowO C Wc) := by
  refine F.okX scPow (fun vs H Q E h => ?_) (fun cdv A' outer s H vs Q E hr h => ?_)
  · obtain ⟨a, q, i, rfl, _⟩ := h
    rfl
  · obtain ⟨a, q, i, rfl, ia, i12, rv⟩ := h
    refine ⟨_, pss_cons (ps_if (PW.pt (pw_or (pt_not (pt_val (pe_dn DC hr (by rfl) (by decide) (pa_cons (pv 1) pa_nil)))) (pw_or1 (pt_cmpR op_gt (pv 1) (pe_glob (v := V.int 12) rfl mgP ⟨t, rfl⟩) (nomark _))))) (pss_one (ps_raise rfl (takes_of rfl rfl rfl rfl) (Gx.pmk1 WR.e1 (WR.rs rfl) hr rfl WR.mgW (pa_cons (pv 1) pa_nil)))) pss_nil) pss_never, ?_⟩
    refine ⟨_, rfl, i, rfl, _, rfl, ?_⟩
    rw [decide_eq_true (show (0 : Int) ≤ i by omega)]
    exact iteF ⟨_, rfl, _, _, rfl, rfl, _, rfl, ite2 (fun _ => ⟨_, rfl, _, rfl, rv.here⟩) (fun h => absurd (decide_eq_true (show (12 : Int) < i from i12)) h)⟩
def spRndO (C Wc : Addr) : Sp := fun vs H Q E => ∃ a q v, vs = [.ref a, v] ∧ Is C H a q ∧ (Odd H v ∨ ∃ i, v = .int i ∧ (i < 0 ∨ 12 < i)) ∧ RefV Wc v H E
theorem ok_rndO {t : Tok} (DC : Dn P w K mg base CX0 2 "is_count" ["value"] spCount) (DO : Dn P w K mg base CX0 2 "is_count" ["value"] spWholeO) (WR : Wr K mg "InvalidCount" Wc) (mgP : mg "MOST_PLACES" = some (.int 12 t)) (F : Fun K "rounded" "Amount.rounded" (am 28) f fd) :
    FnOk P w K mg base (L2.CX P w) 3 f fd ["self", "places"] (spRndO C Wc) := by
  refine F.okX scRnd (fun vs H Q E h => ?_) (fun cdv A' outer s H vs Q E hr h => ?_)
  · obtain ⟨a, q, v, rfl, _⟩ := h
    rfl
  · obtain ⟨a, q, v, rfl, ia, od | ⟨i, rfl, hi⟩, rv⟩ := h
    · refine ⟨_, pss_cons (ps_if (PW.pt (pw_or (pt_not (pt_val (pe_dn DO hr (by rfl) (by decide) (pa_cons (pv 1) pa_nil)))) (pw_or1 (pt_cmpR op_gt (pv 1) (pe_glob (v := V.int 12) rfl mgP ⟨t, rfl⟩) (nomark _))))) (pss_one (ps_raise rfl (takes_of rfl rfl rfl rfl) (Gx.pmk1 WR.e1 (WR.rs rfl) hr rfl WR.mgW (pa_cons (pv 1) pa_nil)))) pss_nil) pss_never, ?_⟩
      exact ⟨_, rfl, v, rfl, od, _, rfl, iteT ⟨_, rfl, _, rfl, rv.here⟩⟩
    · refine ⟨_, pss_cons (ps_if (PW.pt (pw_or (pt_not (pt_val (pe_dn DC hr (by rfl) (by decide) (pa_cons (pv 1) pa_nil)))) (pw_or1 (pt_cmpR op_gt (pv 1) (pe_glob (v := V.int 12) rfl mgP ⟨t, rfl⟩) (nomark _))))) (pss_one (ps_raise rfl (takes_of rfl rfl rfl rfl) (Gx.pmk1 WR.e1 (WR.rs rfl) hr rfl WR.mgW (pa_cons (pv 1) pa_nil)))) pss_nil) pss_never, ?_⟩
      refine ⟨_, rfl, i, rfl, _, rfl, ?_⟩
      by_cases h0 : 0 ≤ i
      · rw [decide_eq_true h0]
        refine iteF ⟨_, rfl, _, _, rfl, rfl, _, rfl, ite2 (fun _ => ⟨_, rfl, _, rfl, rv.here⟩) (fun h => absurd (decide_eq_true (show (12 : Int) < i by omega)) h)⟩
      · rw [decide_eq_false h0]
        exact iteT ⟨_, rfl, _, rfl, rv.here⟩
def spEqO (C : Addr) : Sp := fun vs H Q _ => ∃ a y q T, vs = [.ref a, y] ∧ Is C H a q ∧ Bt H y T ∧ Q (.bl false) H
end
end KA

set_option Elab.async false
set_option linter.all false
set_option maxRecDepth 100000
set_option maxHeartbeats 1000000
set_option exponentiation.threshold 9000
/-! Comparisons of Amounts. -/
namespace KA
open PySem PySem.Spec PyProof.Rows L2 Oo Gd Am
theorem ltz (q p : Rat) : (q - p).num.sign < 0 ↔ q < p := by
  rw [Int.sign_neg_iff, ← Int.not_le, Rat.num_nonneg, ← Rat.le_iff_sub_nonneg, Rat.not_le]
theorem gtz (q p : Rat) : 0 < (q - p).num.sign ↔ p < q := by
  rw [Int.sign_pos_iff, ← ltz p q, Int.sign_neg_iff, ← Rat.neg_sub]
  show 0 < (-(p - q)).num ↔ _
  rw [show (-(p - q)).num = -(p - q).num from rfl]
  omega
theorem lez (q p : Rat) : (q - p).num.sign ≤ 0 ↔ q ≤ p := by
  rw [← Int.not_lt, gtz, Rat.not_lt]
theorem gez (q p : Rat) : 0 ≤ (q - p).num.sign ↔ p ≤ q := by
  rw [← Int.not_lt, ltz, Rat.not_lt]
/-- o.f of what is not reached -/
theorem pe_fld0 {X : Cx} {o : Expr} {to : TE} {f : Str} {pos : Pos} (he : PE X o to) (hb : attributeBase o f X.env (eval o X.env) = eval o X.env := by rfl) : PE X (.Attribute o f pos) (fun σ H Q => to σ H fun _ _ => False) :=
  ⟨fun pins s σ H Q I h => attr_of hb (thn (he.run pins s σ H _ I h) fun u s1 ⟨_, _, _, _, z⟩ => z.elim)⟩
section
variable {P : Program} {w : World} {K : W.Frag} {mg : Str → Option Value} {base : Heap} {C Wc f : Addr} {fd : FuncData}
def spCmp (C : Addr) (g : Rat → Rat → Bool) : Sp := fun vs H Q _ => ∃ a y q p, vs = [.ref a, y] ∧ Is C H a q ∧ Num C H y p ∧ Sz q ∧ Sz p ∧ ∀ H', Am.Ext H H' → Q (.bl (g q p)) H'
/-- x - y, y no number -/
structure SubO (P : Program) (w : World) (K : W.Frag) (mg : Str → Option Value) (base : Heap) (C Wc : Addr) : Prop where
  of : ∃ f g fd ps, OwnBin K C (Operator.Sub).info.2 f g ∧ FnOk P w K mg base (L2.CX P w) 6 f fd ps (spOpO C Wc) ∧ Binds K fd ps []
theorem op_sO {X : Cx} {E : XK} (S : SubO X.prog X.w X.K X.mg X.base C Wc) (hx : Passes (L2.CX X.prog X.w) X E) (hr : Room 6 X.A) : OpR X (binaryOp .Sub) (rBinL C (spOpO C Wc) E) := by
  obtain ⟨f, g, fd, ps, B, F, b⟩ := S.of
  exact op_binL (.inr (.inl rfl)) B F b hx hr
theorem sc_lt : FnScope ["self", "other"] ["self", "other"] (defScope (am 22)) := ⟨rfl, rfl, rfl, by decide +kernel, rfl, by decide +kernel, by decide +kernel⟩
theorem ok_lt (B : Base P w K mg base C) (S : Op P w K mg base C (Operator.Sub).info.2 6 fun q p => q - p) (F : Fun K "__lt__" "Amount.__lt__" (am 22) f fd) : FnOk P w K mg base CX0 7 f fd ["self", "other"] (spCmp C fun q p => decide (q < p)) := by
  refine F.ok sc_lt (fun vs H Q E h => ?_) (fun cdv A outer s H vs Q E hr h => ?_)
  · obtain ⟨a, y, q, p, rfl, _⟩ := h
    rfl
  · obtain ⟨a, y, q, p, rfl, ia, ny, sq, sp, z⟩ := h
    have h2 := hr.mono (show 2 ≤ 6 by decide)
    refine ⟨_, pss_one (ps_ret (pe_cmpR op_lt (pe_pSgn B h2 (pe_op (op_O S hr) (pv 0) (pv 1))) pe_int (nomark _))), ?_⟩
    refine ⟨_, rfl, _, rfl, a, q, p, rfl, ia, ny, sq, sp, fun r H1 e1 n1 i1 => ⟨r, q - p, rfl, i1, _, _, rfl, rfl, ?_⟩⟩
    show Q (.bl (decide ((q - p).num.sign < 0))) H1
    rw [show decide ((q - p).num.sign < 0) = decide (q < p) from decide_eq_decide.mpr (ltz q p)]
    exact z H1 e1
theorem ok_ltO (S : SubO P w K mg base C Wc) (F : Fun K "__lt__" "Amount.__lt__" (am 22) f fd) : FnOk P w K mg base (L2.CX P w) 7 f fd ["self", "other"] (spOpO C Wc) := by
  refine F.okX sc_lt (fun vs H Q E h => ?_) (fun cdv A outer s H vs Q E hr h => ?_)
  · obtain ⟨a, y, q, rfl, _⟩ := h
    rfl
  · obtain ⟨a, y, q, rfl, ia, od, rv⟩ := h
    refine ⟨_, pss_one (ps_ret (pe_cmpR op_lt (pe_fld0 (f := "sign") (pe_op (op_sO (E := E) S (passes_call (takes_of rfl rfl rfl rfl) fun _ _ _ _ h => h) hr) (pv 0) (pv 1))) pe_int (nomark _))), ?_⟩
    obtain ⟨T, bt, ni⟩ := id od
    obtain ⟨dx, ea⟩ := id ia
    exact ⟨_, rfl, _, rfl, a, dx, _, T, rfl, ea, bt, a, y, q, rfl, ia, od, rv⟩
theorem sc_le : FnScope ["self", "other"] ["self", "other"] (defScope (am 23)) := ⟨rfl, rfl, rfl, by decide +kernel, rfl, by decide +kernel, by decide +kernel⟩
theorem ok_le (B : Base P w K mg base C) (S : Op P w K mg base C (Operator.Sub).info.2 6 fun q p => q - p) (F : Fun K "__le__" "Amount.__le__" (am 23) f fd) : FnOk P w K mg base CX0 7 f fd ["self", "other"] (spCmp C fun q p => decide (q ≤ p)) := by
  refine F.ok sc_le (fun vs H Q E h => ?_) (fun cdv A outer s H vs Q E hr h => ?_)
  · obtain ⟨a, y, q, p, rfl, _⟩ := h
    rfl
  · obtain ⟨a, y, q, p, rfl, ia, ny, sq, sp, z⟩ := h
    have h2 := hr.mono (show 2 ≤ 6 by decide)
    refine ⟨_, pss_one (ps_ret (pe_cmpR op_le (pe_pSgn B h2 (pe_op (op_O S hr) (pv 0) (pv 1))) pe_int (nomark _))), ?_⟩
    refine ⟨_, rfl, _, rfl, a, q, p, rfl, ia, ny, sq, sp, fun r H1 e1 n1 i1 => ⟨r, q - p, rfl, i1, _, _, rfl, rfl, ?_⟩⟩
    show Q (.bl (decide ((q - p).num.sign ≤ 0))) H1
    rw [show decide ((q - p).num.sign ≤ 0) = decide (q ≤ p) from decide_eq_decide.mpr (lez q p)]
    exact z H1 e1
theorem ok_leO (S : SubO P w K mg base C Wc) (F : Fun K "__le__" "Amount.__le__" (am 23) f fd) : FnOk P w K mg base (L2.CX P w) 7 f fd ["self", "other"] (spOpO C Wc) := by
  refine F.okX sc_le (fun vs H Q E h => ?_) (fun cdv A outer s H vs Q E hr h => ?_)
  · obtain ⟨a, y, q, rfl, _⟩ := h
    rfl
  · obtain ⟨a, y, q, rfl, ia, od, rv⟩ := h
    refine ⟨_, pss_one (ps_ret (pe_cmpR op_le (pe_fld0 (f := "sign") (pe_op (op_sO (E := E) S (passes_call (takes_of rfl rfl rfl rfl) fun _ _ _ _ h => h) hr) (pv 0) (pv 1))) pe_int (nomark _))), ?_⟩
    obtain ⟨T, bt, ni⟩ := id od
    obtain ⟨dx, ea⟩ := id ia
    exact ⟨_, rfl, _, rfl, a, dx, _, T, rfl, ea, bt, a, y, q, rfl, ia, od, rv⟩
theorem sc_gt : FnScope ["self", "other"] ["self", "other"] (defScope (am 24)) := ⟨rfl, rfl, rfl, by decide +kernel, rfl, by decide +kernel, by decide +kernel⟩
theorem ok_gt (B : Base P w K mg base C) (S : Op P w K mg base C (Operator.Sub).info.2 6 fun q p => q - p) (F : Fun K "__gt__" "Amount.__gt__" (am 24) f fd) : FnOk P w K mg base CX0 7 f fd ["self", "other"] (spCmp C fun q p => decide (p < q)) := by
  refine F.ok sc_gt (fun vs H Q E h => ?_) (fun cdv A outer s H vs Q E hr h => ?_)
  · obtain ⟨a, y, q, p, rfl, _⟩ := h
    rfl
  · obtain ⟨a, y, q, p, rfl, ia, ny, sq, sp, z⟩ := h
    have h2 := hr.mono (show 2 ≤ 6 by decide)
    refine ⟨_, pss_one (ps_ret (pe_cmpR op_gt (pe_pSgn B h2 (pe_op (op_O S hr) (pv 0) (pv 1))) pe_int (nomark _))), ?_⟩
    refine ⟨_, rfl, _, rfl, a, q, p, rfl, ia, ny, sq, sp, fun r H1 e1 n1 i1 => ⟨r, q - p, rfl, i1, _, _, rfl, rfl, ?_⟩⟩
    show Q (.bl (decide (0 < (q - p).num.sign))) H1
    rw [show decide (0 < (q - p).num.sign) = decide (p < q) from decide_eq_decide.mpr (gtz q p)]
    exact z H1 e1
theorem ok_gtO (S : SubO P w K mg base C Wc) (F : Fun K "__gt__" "Amount.__gt__" (am 24) f fd) : FnOk P w K mg base (L2.CX P w) 7 f fd ["self", "other"] (spOpO C Wc) := by
  refine F.okX sc_gt (fun vs H Q E h => ?_) (fun cdv A outer s H vs Q E hr h => ?_)
  · obtain ⟨a, y, q, rfl, _⟩ := h
    rfl
  · obtain ⟨a, y, q, rfl, ia, od, rv⟩ := h
    refine ⟨_, pss_one (ps_ret (pe_cmpR op_gt (pe_fld0 (f := "sign") (pe_op (op_sO (E := E) S (passes_call (takes_of rfl rfl rfl rfl) fun _ _ _ _ h => h) hr) (pv 0) (pv 1))) pe_int (nomark _))), ?_⟩
    obtain ⟨T, bt, ni⟩ := id od
    obtain ⟨dx, ea⟩ := id ia
    exact ⟨_, rfl, _, rfl, a, dx, _, T, rfl, ea, bt, a, y, q, rfl, ia, od, rv⟩
theorem sc_ge : FnScope ["self", "other"] ["self", "other"] (defScope (am 25)) := ⟨rfl, rfl, rfl, by decide +kernel, rfl, by decide +kernel, by decide +kernel⟩
theorem ok_ge (B : Base P w K mg base C) (S : Op P w K mg base C (Operator.Sub).info.2 6 fun q p => q - p) (F : Fun K "__ge__" "Amount.__ge__" (am 25) f fd) : FnOk P w K mg base CX0 7 f fd ["self", "other"] (spCmp C fun q p => decide (p ≤ q)) := by
  refine F.ok sc_ge (fun vs H Q E h => ?_) (fun cdv A outer s H vs Q E hr h => ?_)
  · obtain ⟨a, y, q, p, rfl, _⟩ := h
    rfl
  · obtain ⟨a, y, q, p, rfl, ia, ny, sq, sp, z⟩ := h
    have h2 := hr.mono (show 2 ≤ 6 by decide)
    refine ⟨_, pss_one (ps_ret (pe_cmpR op_ge (pe_pSgn B h2 (pe_op (op_O S hr) (pv 0) (pv 1))) pe_int (nomark _))), ?_⟩
    refine ⟨_, rfl, _, rfl, a, q, p, rfl, ia, ny, sq, sp, fun r H1 e1 n1 i1 => ⟨r, q - p, rfl, i1, _, _, rfl, rfl, ?_⟩⟩
    show Q (.bl (decide (0 ≤ (q - p).num.sign))) H1
    rw [show decide (0 ≤ (q - p).num.sign) = decide (p ≤ q) from decide_eq_decide.mpr (gez q p)]
    exact z H1 e1
theorem ok_geO (S : SubO P w K mg base C Wc) (F : Fun K "__ge__" "Amount.__ge__" (am 25) f fd) : FnOk P w K mg base (L2.CX P w) 7 f fd ["self", "other"] (spOpO C Wc) := by
  refine F.okX sc_ge (fun vs H Q E h => ?_) (fun cdv A outer s H vs Q E hr h => ?_)
  · obtain ⟨a, y, q, rfl, _⟩ := h
    rfl
  · obtain ⟨a, y, q, rfl, ia, od, rv⟩ := h
    refine ⟨_, pss_one (ps_ret (pe_cmpR op_ge (pe_fld0 (f := "sign") (pe_op (op_sO (E := E) S (passes_call (takes_of rfl rfl rfl rfl) fun _ _ _ _ h => h) hr) (pv 0) (pv 1))) pe_int (nomark _))), ?_⟩
    obtain ⟨T, bt, ni⟩ := id od
    obtain ⟨dx, ea⟩ := id ia
    exact ⟨_, rfl, _, rfl, a, dx, _, T, rfl, ea, bt, a, y, q, rfl, ia, od, rv⟩
end
end KA

set_option Elab.async false
set_option linter.all false
set_option maxRecDepth 100000
set_option maxHeartbeats 1000000
set_option exponentiation.threshold 9000
/-! Comparisons by values. -/
namespace KA
open PySem PySem.Spec PyProof.Rows L2 Oo Gd Am
section
variable {P : Program} {w : World} {K : W.Frag} {mg : Str → Option Value} {base : Heap} {C Wc f : Addr} {fd : FuncData}
structure CmpD (P : Program) (w : World) (K : W.Frag) (mg : Str → Option Value) (base : Heap) (C Wc : Addr) (nm : Str) (g : Rat → Rat → Bool) : Prop where
  of : ∃ f fd, W.findIn K (.ref C) nm = some (some (.ref f)) ∧ W.isFn K (.ref f) = true ∧ FnOk P w K mg base CX0 7 f fd ["self", "other"] (spCmp C g) ∧ FnOk P w K mg base (L2.CX P w) 7 f fd ["self", "other"] (spOpO C Wc) ∧ Binds K fd ["self", "other"] []
/-- two NUMBERS, one an Amount -/
def rNC (C : Addr) (g : Rat → Rat → Bool) : R2 := fun x y H Q => ∃ q p, Num C H x q ∧ Num C H y p ∧ ((∃ a, x = .ref a) ∨ ∃ a, y = .ref a) ∧ Sz q ∧ Sz p ∧ ∀ H', Am.Ext H H' → Q (.bl (g q p)) H'
theorem op_NC {X : Cx} {op : CmpOp} {g g' : Rat → Rat → Bool} (h4 : Four op) (hg : ∀ q p, g' p q = g q p) (pl : Plain X.K C) (D : CmpD X.prog X.w X.K X.mg X.base C Wc (cmpInfo op).2.1 g) (D' : CmpD X.prog X.w X.K X.mg X.base C Wc (cmpInfo op).2.2 g') (hr : Room 7 X.A) :
    OpR X (compareOp op) (rNC C g) := fun pins s σ H x y v u Q I rx ry h => by
  obtain ⟨f, fd, hs, hf, F, _, b⟩ := D.of
  obtain ⟨f', fd', hs', hf', F', _, b'⟩ := D'.of
  obtain ⟨q, p, nx, ny, one, sq, sp, z⟩ := h
  rcases id nx with ⟨i, rfl, _⟩ | ⟨a, rfl, ia⟩
  · rcases id ny with ⟨j, rfl, _⟩ | ⟨c, rfl, ic⟩
    · rcases one with ⟨_, e⟩ | ⟨_, e⟩ <;> cases e
    · obtain ⟨dy, ec⟩ := id ic
      exact op_cmpR (E := E0) h4 pl hs' hf' F' b' pass0 hr pins s σ H _ _ v u Q I rx ry ⟨c, dy, _, "int", rfl, ec, .int i, c, .int i, p, q, rfl, ic, nx, sp, sq, fun H' e => by rw [hg]; exact z H' e⟩
  · obtain ⟨dx, ea⟩ := id ia
    refine op_cmpL (E := E0) (fun M A E s a b Q z => four_rich h4 z) hs hf F b pass0 hr pins s σ H _ _ v u Q I rx ry ⟨a, dx, _, rfl, ea, ?_, a, y, q, p, rfl, ia, ny, sq, sp, z⟩
    rcases id ny with ⟨j, rfl, _⟩ | ⟨c, rfl, dy, ec⟩
    · exact .inr ⟨_, .int j⟩
    · exact .inl ⟨c, dy, _, rfl, ec⟩
/-- an Amount and what is no number -/
def rXC (C Wc : Addr) (E : XK) : R2 := fun x y H Q => (∃ a q, x = .ref a ∧ Is C H a q ∧ Odd H y ∧ RefV Wc y H E) ∨ (∃ b p T, y = .ref b ∧ Is C H b p ∧ Bt H x T ∧ T ≠ "int" ∧ RefV Wc x H E)
theorem op_XC {X : Cx} {op : CmpOp} {g g' : Rat → Rat → Bool} {E : XK} (h4 : Four op) (pl : Plain X.K C) (D : CmpD X.prog X.w X.K X.mg X.base C Wc (cmpInfo op).2.1 g) (D' : CmpD X.prog X.w X.K X.mg X.base C Wc (cmpInfo op).2.2 g') (hx : Passes (L2.CX X.prog X.w) X E) (hr : Room 7 X.A) :
    OpR X (compareOp op) (rXC C Wc E) := fun pins s σ H x y v u Q I rx ry h => by
  obtain ⟨f, fd, hs, hf, _, F, b⟩ := D.of
  obtain ⟨f', fd', hs', hf', _, F', b'⟩ := D'.of
  rcases h with ⟨a, q, rfl, ia, od, rv⟩ | ⟨c, p, T, rfl, ic, bt, n1, rv⟩
  · obtain ⟨dx, ea⟩ := id ia
    obtain ⟨T, bt, _⟩ := id od
    exact op_cmpL (E := E) (fun M A E s a b Q z => four_rich h4 z) hs hf F b hx hr pins s σ H _ _ v u Q I rx ry ⟨a, dx, _, rfl, ea, .inr ⟨T, bt⟩, a, y, q, rfl, ia, od, rv⟩
  · obtain ⟨dy, ec⟩ := id ic
    exact op_cmpR (E := E) h4 pl hs' hf' F' b' hx hr pins s σ H _ _ v u Q I rx ry ⟨c, dy, _, T, rfl, ec, bt, c, x, p, rfl, ic, ⟨T, bt, n1⟩, rv⟩
/-! ### == and != with what is no Amount -/
theorem ok_eqO (fr : Frees mg) (mgA : mg "Amount" = some (.ref C)) (kc : Kc K C) (F : Fun K "__eq__" "Amount.__eq__" (am 21) f fd) (T : Cl K C) : FnOk P w K mg base CX0 1 f fd ["self", "other"] (spEqO C) := by
  refine F.ok scEq (fun vs H Q E h => ?_) (fun cdv A' outer s H vs Q E hr h => ?_)
  · obtain ⟨a, y, q, T, rfl, _⟩ := h
    rfl
  · obtain ⟨a, y, q, Ty, rfl, ia, bt, z⟩ := h
    refine ⟨_, pss_one (ps_ret (pe_and (pe_callB call_isi rfl (fr.h _ (by decide +kernel)) (by decide +kernel) (pa_cons (pv 1) (pa_cons (pe_glob (v := V.ref C) rfl mgA rfl) pa_nil)))
      (pe_and (pe_cmpR op_eq (pe_top T (pv 0)) (pe_top T (pv 1)) (nomark _)) (pe_one (pe_cmpR op_eq (pe_bot T (pv 0)) (pe_bot T (pv 1)) (nomark _)))))), ?_⟩
    exact ⟨_, rfl, _, _, _, _, false, rfl, ClsV.own C, bt.ty, kit_no bt.mem kc.ks kc.kt, false, rfl, z⟩
structure EqO (P : Program) (w : World) (K : W.Frag) (mg : Str → Option Value) (base : Heap) (C : Addr) : Prop where
  of : ∃ f fd, W.findIn K (.ref C) "__eq__" = some (some (.ref f)) ∧ W.isFn K (.ref f) = true ∧ FnOk P w K mg base CX0 1 f fd ["self", "other"] (spEqO C) ∧ Binds K fd ["self", "other"] [] ∧
    ∃ B bm, CmpFacts B bm ∧ ∀ (h : Heap) (x dx : Addr), K.In h → h.get? x = some (W.instObj C dx) → h.OwnEqNoNe x C f B bm
def rEqX (C : Addr) (c : Bool) : R2 := fun x y H Q => ∃ a q T, x = .ref a ∧ Is C H a q ∧ Bt H y T ∧ Q (.bl c) H
theorem op_eqX {X : Cx} {k : Nat} (T : EqO X.prog X.w X.K X.mg X.base C) (hr : Room (k + 2) X.A) : OpR X (compareOp .Eq) (rEqX C false) := fun pins s σ H x y v u Q I rx ry h => by
  obtain ⟨f, fd, hs, hf, F, b, _⟩ := T.of
  obtain ⟨a, q, Ty, rfl, ia, bt, z⟩ := h
  obtain ⟨dx, ea⟩ := id ia
  exact op_cmpL (E := E0) (fun M A E s a b Q z => W.cmp_ofEq z) hs hf F b pass0 (hr.mono (by omega)) pins s σ H _ _ v u Q I rx ry ⟨a, dx, _, rfl, ea, .inr ⟨Ty, bt⟩, a, y, q, Ty, rfl, ia, bt, z⟩
theorem op_neX {X : Cx} {k : Nat} (T : EqO X.prog X.w X.K X.mg X.base C) (hr : Room (k + 2) X.A) : OpR X (compareOp .NotEq) (rEqX C true) := fun pins s σ H x y v u Q I rx ry h => by
  obtain ⟨f, fd, hs, hf, F, b, B, bm, FB, ne⟩ := T.of
  obtain ⟨a, q, Ty, rfl, ia, bt, z⟩ := h
  obtain ⟨dx, ea⟩ := id ia
  cases (show v = Value.ref a from rx)
  obtain ⟨od, J, e1⟩ := inst_at I ea
  refine W.cmp_ofNotEq (ne_rich FB (ne s.heap a dx I.kIn e1) (bt.is I ry) (sub_T bt.mem) I.kIn (by have := hr.units; omega) ?_)
  refine wpAny_mono (run_atO (Q := fun w' H' => w' = .bl false ∧ H' = H) (us := [.ref a, u]) (ws := [.ref a, y]) F b ((hr.mono (show 2 ≤ k + 2 by omega)).in1) I.env0.in1 pass0 I (.cons rfl (.cons ry .nil)) ⟨a, y, q, Ty, rfl, ia, bt, rfl, rfl⟩) (fun v' s' ⟨z', H', I', rz, ez, eh⟩ => ?_) fun _ _ z => z
  subst ez eh
  cases (show v' = Value.bool false from rz)
  exact ⟨false, rfl, .bl true, _, I', rfl, z⟩
/-- an INTEGER == an Amount -/
def rEqI (C : Addr) : R2 := fun x y H Q => ∃ i b q, x = .int i ∧ y = .ref b ∧ Is C H b q ∧ Q (.bl false) H
theorem op_eqI {X : Cx} {k : Nat} (pl : Plain X.K C) (T : EqO X.prog X.w X.K X.mg X.base C) (hr : Room (k + 2) X.A) : OpR X (compareOp .Eq) (rEqI C) := fun pins s σ H x y v u Q I rx ry h => by
  obtain ⟨f, fd, hs, hf, F, b, _⟩ := T.of
  obtain ⟨i, c, q, rfl, rfl, ic, z⟩ := h
  obtain ⟨dy, ec⟩ := id ic
  obtain ⟨t, rfl⟩ := (show ∃ t, v = Value.int i t from rx)
  cases (show u = Value.ref c from ry)
  obtain ⟨oe, J2, e2⟩ := inst_at I ec
  refine W.cmp_ofEq (cmp_right (op := .Eq) (T := "int") hr.units0 I.kIn J2 rfl (sub_C pl (by decide)) (c_int_eq e2) hs hf fun t' => ?_)
  have I2 : Inv X pins σ H { s with toks := t' } := I.tok t'
  exact wpAny_mono (run_fn (E := E0) (us := [.ref c, .int i t]) (vs := [.ref c, .int i]) F (hr.mono (by omega)) b .nil pass0 I2 (.cons rfl (.cons ⟨t, rfl⟩ .nil)) (show spEqO C ([V.ref c, V.int i] ++ []) H Q E0 from ⟨c, .int i, q, "int", rfl, ic, .int i, z⟩)) (fun v' s' ⟨z', H', I', rz, qz⟩ => SlX.cmpback (P := EP X pins σ Q) rz ⟨z', H', I', rz, qz⟩) fun _ _ z => z
end
end KA

set_option Elab.async false
set_option linter.all false
set_option maxRecDepth 100000
set_option maxHeartbeats 1000000
set_option exponentiation.threshold 20000
/-! repr of own instances while an error is handled. -/
namespace Am
open PySem PySem.Spec PyProof.Rows L2 Oo Gd KA
/-- a def's promise, whatever is handled around it -/
structure FnU (P : Program) (w : World) (K : W.Frag) (mg : Str → Option Value) (base : Heap) (k : Nat) (f : Addr) (fd : FuncData) (ps : List Str) (sp : Sp) : Prop where
  ln : ∀ vs H Q E, sp vs H Q E → vs.length = ps.length
  go : ∀ (A : Around) (outer : List Env) (s : Shared) (H : Hp) (args : Args) (us : List Value) (vs : List V) (Q : VK) (E : XK), L2H.RoomH k A → Env0 P w K mg base A outer s H → BindsTo s fd args (ps.zip us) → Vals vs us → sp vs H Q E →
    codeAny (model P w) A (.call (.ref f) args) (CR CX0 outer P w H s Q E) s
def cxU (P : Program) (w : World) (K : W.Frag) (mg : Str → Option Value) (base : Heap) (N : List Str) (qual : Str) (scope : Scope) (f : Addr) (cd : Value) (A : Around) (outer : List Env) (s : Shared) (H : Hp) (E : XK) : Cx :=
  { cxOf CX0 P w K mg base N qual scope f cd A outer s H E with calm := false }
theorem inv_hot {X : Cx} {pins : List (Addr × Obj)} {σ : L2.St} {H : Hp} {s : Shared} (I : Inv X pins σ H s) {A' : Around} {xe' : Value → Shared → Prop} (ha : A'.frames = X.A.frames) : Inv { X with A := A', calm := false, xe := xe' } pins σ H s :=
  ⟨⟨I.ok.mod, I.ok.kind, I.ok.glob, I.ok.blt, I.ok.above, I.ok.inj, I.ok.has, I.ok.cab, (fun z => Bool.noConfusion (show false = true from z)), ha.trans I.ok.frames, I.ok.stk, I.ok.exf, I.ok.bs, I.ok.bsz, I.ok.noex, I.ok.exfs, I.ok.funs, I.ok.frf⟩, I.os, I.bare, I.base, I.loc, I.cell, I.free, I.freeC, I.pin, I.hok, I.len⟩
theorem env0_cold {P : Program} {w : World} {K : W.Frag} {mg : Str → Option Value} {base : Heap} {A : Around} {outer : List Env} {s : Shared} {H : Hp} (e : Env0 P w K mg base A outer s H) : Env0 P w K mg base { A with handled := none } outer s H :=
  ⟨e.frames, e.mod, e.bs, e.bsz, e.funs, e.frf, e.hok, e.bare⟩
theorem fn_u {P : Program} {w : World} {K : W.Frag} {mg : Str → Option Value} {base : Heap} {x qual : Str} {st : Stmt} {f : Addr} {fd : FuncData} {N ps : List Str} {k : Nat} {sp : Sp} (F : Fun K x qual st f fd) (S : FnScope N ps (defScope st)) (ln : ∀ vs H Q E, sp vs H Q E → vs.length = ps.length)
    (hb : ∀ (cdv : Value) (A : Around) (outer : List Env) (s : Shared) (H : Hp) (vs : List V) (Q : VK) (E : XK), L2H.RoomH k (A.deeper (envOfC qual (defScope st) s.heap.objs.size f cdv)) → sp vs H Q E →
      ∃ t, PSs (cxU P w K mg base N qual (defScope st) f cdv A outer s H E).nox (defBody st) t ∧ t { nx := fun _ H' => Q .non H', rt := Q } (L2.start N vs) H) : FnU P w K mg base (k + 1) f fd ps sp := by
  obtain ⟨oc, od, kV, doc, pm, an, cdv, ct, osl, rfl, lk, hcd⟩ := F.ex
  refine ⟨ln, fun A outer s H args us vs Q E hr e0 hbd r hsp => ?_⟩
  have hl := ln _ _ _ _ hsp
  have kin : K.In s.heap := e0.mod.kin.keeps fun b o e => (e0.bs b o e).1
  have nl : s.heap.NoLimit := e0.mod.nolimit.keeps fun b o e => (e0.bs b o e).1
  have hk : ∀ y ∈ ps.zip us, (defScope st).names.lookup y.1 = some .local ∨ ((defScope st).names.lookup y.1 = some .cell ∧ ((cellsFrom (s.heap.objs.size + 1) (defScope st).names []).lookup y.1).isSome = true) := by
    rintro ⟨n, v⟩ hy
    exact (S.par n (List.of_mem_zip hy).1).imp (fun q => q) fun q => ⟨q, W.cellsFrom_some _ _ _ (.inl q)⟩
  refine codeAny_call_function hr.depth (kin _ _ lk) rfl S.co S.gen rfl (W.codeRec_of kin hcd) (hbd _ _ _ _ ?_)
  refine wpAny_newFunctionEnv_cells S.kind hk ?_
  intro env he s1 x
  subst he
  refine ⟨nl.keeps x.toInCall.keep, codeAny_func ?_⟩
  obtain ⟨t, ht, hq⟩ := hb cdv A outer s H vs Q E (hr.deeper _) hsp
  have I0 := inv_start (CX := CX0) (P := P) (w := w) (K := K) (mg := mg) (base := base) (qual := qual) (f := f) (cd := cdv) (A := { A with handled := none }) (E := E) S rfl (env0_cold e0) hl r x
  have I : Inv (cxU P w K mg base N qual (defScope st) f cdv A outer s H E) [] (L2.start N vs) H s1 := inv_hot I0 (A' := A.deeper (envOfC qual (defScope st) s.heap.objs.size f cdv)) rfl
  refine wpAny_mono (ht.nox.run [] s1 (L2.start N vs) H _ I hq) ?_ fun _ _ z => z
  intro fl s' hs
  have fin : ∀ {σ' : L2.St} {H' : Hp} {v : V} {u : Value}, Inv (cxU P w K mg base N qual (defScope st) f cdv A outer s H E) [] σ' H' s' → RelV v u → Q v H' → CE outer P w H s Q u s' := fun {_ _ _ _} J rv q => ⟨_, _, J.os, J.bare, J.base, J.hok, rv, q⟩
  match fl, hs with
  | .ret _, ⟨_, _, _, J, rv, q⟩ => exact fin J rv q
  | .next, ⟨_, _, J, q⟩ => exact fin (v := V.non) (u := Value.none) J rfl q
  | .brk, ⟨_, _, _, q⟩ => exact q.elim
  | .cont, ⟨_, _, _, q⟩ => exact q.elim
/-! ### the text of an Amount -/
section
variable {X : Cx}
def tFmtS (te : TE) : TE := fun σ H Q => te σ H fun x H1 => ∃ i : Int, x = .int i ∧ i.natAbs.log2 < 1920 ∧ Q (.str (toString i)) H1
theorem pe_fmtS {e : Expr} {te : TE} {pos : Pos} (he : PE X e te) : PE X (.FormattedValue e (-1) none pos) (tFmtS te) := by
  refine ⟨fun pins s σ H Q I h => ?_⟩
  refine wpAny_FormattedValue_plain (thn (he.run pins s σ H _ I h) ?_)
  rintro v s1 ⟨x, H1, I1, r1, i, rfl, hz, q⟩
  obtain ⟨t, rfl⟩ := (show ∃ t, v = Value.int i t from r1)
  exact formatField_int_small hz ⟨.str (toString i), H1, I1.tok _, ⟨_, rfl⟩, q⟩
end
def Low1 (q : Rat) : Prop := Low 1000 q
def spShort (C : Addr) : Sp := fun vs H Q _ => ∃ a q, vs = [.ref a] ∧ Is C H a q ∧ Low 1000 q ∧ Q (.str (shown q)) H
theorem log_low {i : Int} (h : i.natAbs < 2 ^ 1000) : i.natAbs.log2 < 1920 := by
  by_cases z : i.natAbs = 0
  · rw [z]; decide
  · exact Nat.lt_of_lt_of_le ((Nat.log2_lt z).mpr h) (by decide)
theorem ok_reprU {P : Program} {w : World} {K : W.Frag} {mg : Str → Option Value} {base : Heap} {C f : Addr} {fd : FuncData} (T : Cl K C) (F : Fun K "__repr__" "Amount.__repr__" (am 27) f fd) : FnU P w K mg base 1 f fd ["self"] (spShort C) := by
  refine fn_u F scRepr (fun vs H Q E h => ?_) (fun cdv A outer s H vs Q E hr h => ?_)
  · obtain ⟨a, q, rfl, _⟩ := h
    rfl
  · obtain ⟨a, q, rfl, ia, lw, z⟩ := h
    refine ⟨_, pss_one (ps_ret (pe_joined (.cons pe_str (.cons (pe_fmtS (pe_top T (pv 0))) (.cons pe_str (.cons (pe_fmtS (pe_bot T (pv 0))) (.cons pe_str .nil))))))), ?_⟩
    have l1 := big_len (Nat.lt_trans lw.1 (show (2 : Nat) ^ 1000 < 2 ^ 8000 by decide))
    have l2 := big_len (Nat.lt_trans (KA.low_den lw) (show (2 : Nat) ^ 1000 < 2 ^ 8000 by decide))
    have k1 : (Str.ofString "Amount(").length = 7 := by decide
    have k2 : (Str.ofString ", ").length = 2 := by decide
    have k3 : (Str.ofString ")").length = 1 := by decide
    have k0 : (Str.empty).length = 0 := by decide
    refine ⟨_, rfl, ?_, _, rfl, a, q, rfl, ia, _, rfl, log_low lw.1, _, rfl, ?_, _, rfl, ?_, _, rfl, a, q, rfl, ia, _, rfl, log_low (KA.low_den lw), _, rfl, ?_, _, rfl, ?_, z⟩ <;> (simp only [strLen_append, k1, k2, k3, k0]; have := line_ge; omega)
/-- what the class's own repr promises, whatever is handled -/
structure RepU (P : Program) (w : World) (K : W.Frag) (mg : Str → Option Value) (base : Heap) (C : Addr) : Prop where
  of : ∃ f fd, W.findIn K (.ref C) "__repr__" = some (some (.ref f)) ∧ W.isFn K (.ref f) = true ∧ FnU P w K mg base 1 f fd ["self"] (spShort C) ∧ Binds K fd ["self"] []
/-- a value and the text of its repr -/
def Shw (C : Addr) (H : Hp) (v : V) (x : Str) : Prop := x.length ≤ 100000 ∧ ((∃ as n, Rp H as n v x ∧ n ≤ 40) ∨ ∃ a q, v = .ref a ∧ Is C H a q ∧ Low 1000 q ∧ x = shown q)
def rShw (C : Addr) : List V → Hp → VK → Prop := fun vs H Q => ∃ v x, vs = [v] ∧ Shw C H v x ∧ Q (.str x) H
section
variable {X : Cx} {C f : Addr} {fd : FuncData} {ps : List Str} {sp : Sp} {k : Nat} {pins : List (Addr × Obj)} {σ : L2.St} {H : Hp} {s : Shared}
theorem run_u {A : Around} {Q : VK} {us : List Value} {ws : List V} (F : FnU X.prog X.w X.K X.mg X.base k f fd ps sp) (hb : Binds X.K fd ps []) (hr : L2H.RoomH k A) (e0 : Env0 X.prog X.w X.K X.mg X.base A X.stack s H) (I : Inv X pins σ H s)
    (r : Vals ws us) (h : sp ws H Q E0) : wpAny (model X.prog X.w) A (call (.ref f) us) (EP X pins σ Q) X.xe s := by
  have hl : (us ++ []).length = ps.length := by rw [List.append_nil, ← r.length]; exact F.ln _ _ _ _ h
  have bt := hb s us I.kIn hl
  rw [List.append_nil] at bt
  refine wpAny_call (codeAny_mono (F.go A X.stack s H ⟨us, []⟩ us ws Q E0 hr e0 bt r h) ?_)
  intro r s' hq
  match r, hq with
  | .error _, hq => exact False.elim hq
  | .ok (.ret _), hq => exact I.after hq
  | .ok .next, hq => exact False.elim hq
  | .ok .brk, hq => exact False.elim hq
  | .ok .cont, hq => exact False.elim hq
theorem call_reprH (R : RepU X.prog X.w X.K X.mg X.base C) (hG : Bare X.A) (hr : L2H.RoomH 2 X.A) : CallR X (.builtin "repr") (rShw C) := by
  intro pins s σ H xs us Q I r h
  obtain ⟨v, x, rfl, ⟨lx, ⟨as, n, rp, hn⟩ | ⟨a, q, rfl, ia, lw, rfl⟩⟩, z⟩ := h
  · exact call_reprU hG (by have := hr.un; omega) pins s σ H _ us Q I r ⟨v, as, n, x, rfl, rp, hn, Nat.le_trans lx (by decide), z⟩
  · obtain ⟨fR, fdR, hs, hf, F, b⟩ := R.of
    obtain ⟨u, rfl, ru⟩ := r.one
    cases (show u = Value.ref a from ru)
    obtain ⟨dx, ea⟩ := id ia
    obtain ⟨od, J, _⟩ := inst_at I ea
    obtain ⟨m, hF⟩ := I.fr
    have hr1 : L2H.RoomH 1 X.A.in1 := ⟨by have := hr.dp; show X.A.depth + 3 * 1 + 5 < _; omega, by have := hr.un; show X.A.units + 1 + 16 * 1 + 200 < _; omega⟩
    refine W.repr_K (by have := hr.un; show X.A.units + 1 < _; omega) hF I.ok.mod.kin J hs hf (wpAny_mono (run_u (Q := fun z' H' => z' = .str (shown q) ∧ H' = H) (us := [.ref a]) (ws := [.ref a]) F b hr1 I.env0.in1 I (.cons rfl .nil) ⟨a, q, rfl, ia, lw, rfl, rfl⟩) ?_ fun _ _ z => z)
    rintro v' s' ⟨z', H', I', rz, rfl, rfl⟩
    obtain ⟨t', rfl⟩ := (show ∃ t', v' = Value.str (shown q) t' from rz)
    exact ⟨.str (shown q), H', I', ⟨t', rfl⟩, z⟩
end
end Am

set_option Elab.async false
set_option linter.all false
set_option maxRecDepth 100000
set_option maxHeartbeats 1000000
set_option exponentiation.threshold 20000
/-! told: what a call makes, or which of three errors it raises. -/
namespace KC
open PySem PySem.Spec PyProof.Rows L2 Oo Gd Am KA
theorem ps_exists {X : Cx} {st : Stmt} {α : Type _} {t : α → TS} (h : ∀ a, PS X st (t a)) : PS X st (fun D σ H => ∃ a, t a D σ H) := ⟨fun pins s σ H D I ⟨a, z⟩ => (h a).run pins s σ H D I z⟩
theorem ps_cond {X : Cx} {st : Stmt} {p : Prop} {t : TS} (h : p → PS X st t) : PS X st (fun D σ H => p ∧ t D σ H) := ⟨fun pins s σ H D I ⟨a, z⟩ => (h a).run pins s σ H D I z⟩
theorem ps_of {X : Cx} {st : Stmt} {t t' : TS} (h : PS X st t) (e : ∀ D σ H, t' D σ H → t D σ H) : PS X st t' := ⟨fun pins s σ H D I z => h.run pins s σ H D I (e D σ H z)⟩
structure Er (K : W.Frag) (C : Addr) (fld : Str) : Prop where
  xf : XfC K C
  no : W.findIn K (.ref C) fld = some none
  ea : Ge.EA K C
/-- the errors that told tells apart -/
structure Tq (K : W.Frag) (mg : Str → Option Value) (WA WC WT ZF : Addr) : Prop where
  mA : mg "InvalidAmount" = some (.ref WA)
  mC : mg "InvalidCount" = some (.ref WC)
  mT : mg "InvalidText" = some (.ref WT)
  mF : mg "FormError" = some (.ref ZF)
  eA : Er K WA "value"
  eC : Er K WC "value"
  eT : Er K WT "line"
  xAA : W.exmOne K (.ref WA) (.ref WA) = some true
  xCA : W.exmOne K (.ref WC) (.ref WA) = some false
  xCC : W.exmOne K (.ref WC) (.ref WC) = some true
  xTA : W.exmOne K (.ref WT) (.ref WA) = some false
  xTC : W.exmOne K (.ref WT) (.ref WC) = some false
  xTT : W.exmOne K (.ref WT) (.ref WT) = some true
  kA : W.kitOne K (.ref WA) (.ref ZF) = some true
  kC : W.kitOne K (.ref WC) (.ref ZF) = some true
  kT : W.kitOne K (.ref WT) (.ref ZF) = some true
abbrev nTo : List Str := ["_law_call", "_law_told_here", "e"]
theorem scTo : FnScope nTo ["_law_call"] (defScope (top 27)) := ⟨rfl, rfl, rfl, by decide +kernel, rfl, by decide +kernel, by decide +kernel⟩
/-- told: the error of the class at C, which tells v -/
def TTo (Ca C : Addr) (fld : Str) (v : V) (nm : Str) : (XK → Hp → VK → Prop) → Hp → VK → Prop := fun tl H Q =>
  ∀ L, H L = none → ∀ Q', tl (fun cls d H' => cls = .ref C ∧ ∃ dx, d = some dx ∧ H' dx = some (.xd [(fld, v)]) ∧ ∃ x, Shw Ca H' v x ∧ ∀ D, H' D = none → Q (.ref D) (upd H' D (.lst [.str nm, .str x, .bl true]))) (upd H L (.lst [.str "none"])) Q'
/-- told: an Amount is made -/
def TTm (C : Addr) : (XK → Hp → VK → Prop) → Hp → VK → Prop := fun tl H Q =>
  ∀ L, H L = none → ∀ Qc : VK, (∀ a q H', Is C H' a q → Low 3000 q → (∀ D H2, Am.Ext H' H2 → H2 D = none → Q (.ref D) (upd H2 D (.lst [.str "made", .str (Am.shown q)]))) → Qc (.ref a) H') → tl (fun _ _ _ => False) (upd H L (.lst [.str "none"])) Qc
def TTt (C WA WC WT : Addr) : (XK → Hp → VK → Prop) → Hp → VK → Prop := fun tl H Q => (∃ v, TTo C WA "value" v "amount" tl H Q) ∨ (∃ v, TTo C WC "value" v "count" tl H Q) ∨ (∃ v, TTo C WT "line" v "text" tl H Q) ∨ TTm C tl H Q
theorem told_gives {X : Cx} {C WA WC WT ZF g : Addr} {cdg : Value} {q : Str} {k : Nat} (R : Rep X.prog X.w X.K X.mg X.base C) (RU : RepU X.prog X.w X.K X.mg X.base C) (tq : Tq X.K X.mg WA WC WT ZF) (fr : Frees X.mg) (hG : Bare X.A) (hr : Room (k + 4) X.A) :
    LamX.GivesTo X nTo "_law_told" (defScope (top 27)) g cdg (defBody (top 27)) "_law_call" q (TTt C WA WC WT) := by
  intro f c' s H Q tl act hc h
  have nd := scTo.nd
  have isk : IsK X.K := ⟨trivial⟩
  have hr2 := hr.deeper (envOfC "_law_told" (defScope (top 27)) s.heap.objs.size g cdg)
  have rh := L2H.roomH_of (hr2.mono (show 2 ≤ k + 3 by omega))
  refine ⟨_, pss_cons (ps_set (i := 1) nd rfl (.inl rfl) (pe_lst (pa_cons pe_str pa_nil))) (pss_cons
    (Gx.ps_tryAs (i := 2) (tb := fun W D σ H => ∃ Ech : XK, (∀ cls d σ' H', Ech cls d H' → σ'.length = 3 → W cls d σ' H') ∧ σ[0]? = some (some (.ref f)) ∧ H c' = some (LamX.CodeO c' q) ∧ tl Ech H fun v H1 => rReprN C [v] H1 fun x H2 => [V.str "made", x].length ≤ sizeLine ∧ ∀ D', H2 D' = none → D.nx (σ.set 1 (some (.ref D'))) (upd H2 D' (.lst [.str "made", x]))) (Wout := fun _ _ _ _ => False) rfl rfl nd rfl rfl takes0 (fun W pn xe tk => ?b1)
      (.cons (c := .ref WA) ⟨rfl, by decide, .inl tq.mA⟩ (fun a oe cls d pn z hv => pss_one (ps_set (i := 1) nd rfl (.inl rfl)
        (pe_lst (pa_cons pe_str (pa_cons (pe_callB (call_reprH (C := C) ?r1 ?g1 ?u1) rfl (fr.h _ (by decide +kernel)) (by decide +kernel) (pa_cons (pe_xf tq.eA.xf tq.eA.no z hv (pv 2)) pa_nil)) (pa_cons (pe_callB (heldK isk List.mem_cons_self z hv) rfl (fr.h _ (by decide +kernel)) (by decide +kernel) (pa_cons (pv 2) (pa_cons (pe_glob (v := V.ref ZF) rfl tq.mF rfl) pa_nil))) pa_nil))))))
      (.cons (c := .ref WC) ⟨rfl, by decide, .inl tq.mC⟩ (fun a oe cls d pn z hv => pss_one (ps_set (i := 1) nd rfl (.inl rfl)
        (pe_lst (pa_cons pe_str (pa_cons (pe_callB (call_reprH (C := C) ?r2 ?g2 ?u2) rfl (fr.h _ (by decide +kernel)) (by decide +kernel) (pa_cons (pe_xf tq.eC.xf tq.eC.no z hv (pv 2)) pa_nil)) (pa_cons (pe_callB (heldK isk List.mem_cons_self z hv) rfl (fr.h _ (by decide +kernel)) (by decide +kernel) (pa_cons (pv 2) (pa_cons (pe_glob (v := V.ref ZF) rfl tq.mF rfl) pa_nil))) pa_nil))))))
      (.cons (c := .ref WT) ⟨rfl, by decide, .inl tq.mT⟩ (fun a oe cls d pn z hv => pss_one (ps_set (i := 1) nd rfl (.inl rfl)
        (pe_lst (pa_cons pe_str (pa_cons (pe_callB (call_reprH (C := C) ?r3 ?g3 ?u3) rfl (fr.h _ (by decide +kernel)) (by decide +kernel) (pa_cons (pe_xf tq.eT.xf tq.eT.no z hv (pv 2)) pa_nil)) (pa_cons (pe_callB (heldK isk List.mem_cons_self z hv) rfl (fr.h _ (by decide +kernel)) (by decide +kernel) (pa_cons (pv 2) (pa_cons (pe_glob (v := V.ref ZF) rfl tq.mF rfl) pa_nil))) pa_nil)))))) .nil)))) (pss_one (ps_ret (pv 1)))), ?r⟩
  case b1 =>
    refine pss_one ?_
    refine ps_exists fun Ech => ?_
    refine ps_cond fun hW => ?_
    refine ps_of (ps_set (i := 1) nd rfl (.inl rfl) (pe_lst (pa_cons pe_str (pa_cons (pe_callB (call_reprN (k := k) R ?hg ?hrr) rfl (fr.h _ (by decide +kernel)) (by decide +kernel) (pa_cons (act (fun cls d σ' H' => σ'.length = 3 → W cls d σ' H') pn xe Ech _ _ (takes_len tk) hW) pa_nil)) pa_nil)))) (fun D σ H h => ?_)
    case hg => exact hG
    case hrr => exact hr2
    obtain ⟨h1, h2, h3⟩ := h
    exact ⟨h1, h2, h3⟩
  case g1 => exact hG
  case r1 => exact RU
  case u1 => exact ⟨rh.dp, rh.un⟩
  case g2 => exact hG
  case r2 => exact RU
  case u2 => exact ⟨rh.dp, rh.un⟩
  case g3 => exact hG
  case r3 => exact RU
  case u3 => exact ⟨rh.dp, rh.un⟩
  case r =>
    have len3 : ∀ σ' : L2.St, σ'.length = 3 → ∃ x0 x1 x2, σ' = [x0, x1, x2] := fun σ' hl => by
      match σ', hl with
      | [x0, x1, x2], _ => exact ⟨x0, x1, x2, rfl⟩
    refine ⟨(by show 1 ≤ sizeLine; decide), fun L hL => ?_⟩
    have hc' : (upd H L (.lst [V.str "none"])) c' = some (LamX.CodeO c' q) := by rw [upd_ne (ne_of_none hc hL)]; exact hc
    rcases h with ⟨v, h⟩ | ⟨v, h⟩ | ⟨v, h⟩ | h
    · refine ⟨_, ?_, rfl, hc', h L hL _⟩
      rintro cls d σ' H' ⟨rfl, dx, rfl, hdx, T, shw, z⟩ hl
      obtain ⟨x0, x1, x2, rfl⟩ := len3 σ' hl
      have hh : ∀ dy, some dx = some dy → ∃ fs, H' dy = some (.xd fs) := fun dy e => ⟨_, by cases e; exact hdx⟩
      refine ⟨true, tq.xAA, fun _ a na => ?_, fun e => absurd e (by decide)⟩
      exact ⟨_, rfl, rfl, rfl, dx, _, v, rfl, hdx, rfl, v, T, rfl, shw, _, rfl, WA, _, true, rfl, rfl, tq.eA.ea, hh, .inl ⟨_, .own ZF, tq.kA⟩, (by show 3 ≤ sizeLine; decide), fun D hD => ⟨_, rfl, z D hD⟩⟩
    · refine ⟨_, ?_, rfl, hc', h L hL _⟩
      rintro cls d σ' H' ⟨rfl, dx, rfl, hdx, T, shw, z⟩ hl
      obtain ⟨x0, x1, x2, rfl⟩ := len3 σ' hl
      have hh : ∀ dy, some dx = some dy → ∃ fs, H' dy = some (.xd fs) := fun dy e => ⟨_, by cases e; exact hdx⟩
      refine ⟨false, tq.xCA, fun e => absurd e (by decide), fun _ => ⟨true, tq.xCC, fun _ a na => ?_, fun e => absurd e (by decide)⟩⟩
      exact ⟨_, rfl, rfl, rfl, dx, _, v, rfl, hdx, rfl, v, T, rfl, shw, _, rfl, WC, _, true, rfl, rfl, tq.eC.ea, hh, .inl ⟨_, .own ZF, tq.kC⟩, (by show 3 ≤ sizeLine; decide), fun D hD => ⟨_, rfl, z D hD⟩⟩
    · refine ⟨_, ?_, rfl, hc', h L hL _⟩
      rintro cls d σ' H' ⟨rfl, dx, rfl, hdx, T, shw, z⟩ hl
      obtain ⟨x0, x1, x2, rfl⟩ := len3 σ' hl
      have hh : ∀ dy, some dx = some dy → ∃ fs, H' dy = some (.xd fs) := fun dy e => ⟨_, by cases e; exact hdx⟩
      refine ⟨false, tq.xTA, fun e => absurd e (by decide), fun _ => ⟨false, tq.xTC, fun e => absurd e (by decide), fun _ => ⟨true, tq.xTT, fun _ a na => ?_, fun e => absurd e (by decide)⟩⟩⟩
      exact ⟨_, rfl, rfl, rfl, dx, _, v, rfl, hdx, rfl, v, T, rfl, shw, _, rfl, WT, _, true, rfl, rfl, tq.eT.ea, hh, .inl ⟨_, .own ZF, tq.kT⟩, (by show 3 ≤ sizeLine; decide), fun D hD => ⟨_, rfl, z D hD⟩⟩
    · refine ⟨fun _ _ _ => False, fun _ _ _ _ z => z.elim, rfl, hc', h L hL _ fun a q H' ia lq z => ?_⟩
      exact ⟨.ref a, q, rfl, .inr ⟨a, rfl, ia⟩, lq, (by show 2 ≤ sizeLine; decide), fun D hD => ⟨_, rfl, z D H' (Am.Ext.refl _) hD⟩⟩
end KC

set_option Elab.async false
set_option linter.all false
set_option maxRecDepth 100000
set_option maxHeartbeats 1000000
set_option exponentiation.threshold 20000
namespace KC
open PySem PySem.Spec PyProof.Rows L2 Oo Gd Am KA
section
variable {P : Program} {w : World} {K : W.Frag} {mg : Str → Option Value} {base : Heap} {f C : Addr} {fd : FuncData}
theorem scGreat : FnScope ["_law_pot_here"] ["_law_pot_here"] (defScope (top 23)) := ⟨rfl, rfl, rfl, by decide +kernel, rfl, by decide +kernel, by decide +kernel⟩
theorem ok_great (D1 : DnD P w K mg base) (F : Fun K "_law_great" "_law_great" (top 23) f fd) : FnOk P w K mg base CX0 2 f fd ["_law_pot_here"] spGreat := by
  refine F.ok scGreat (fun vs H Q E h => ?_) (fun cdv A outer s H vs Q E hr h => ?_)
  · obtain ⟨p, rfl, _⟩ := h
    rfl
  · obtain ⟨p, rfl, hp, q⟩ := h
    have ten : PE (cxOf CX0 P w K mg base ["_law_pot_here"] "_law_great" (defScope (top 23)) f cdv A outer s H E).nox = PE (cxOf CX0 P w K mg base ["_law_pot_here"] "_law_great" (defScope (top 23)) f cdv A outer s H E).nox := rfl
    refine ⟨_, pss_one (ps_ret (pe_op op_add (pe_op op_add (pe_op op_mulW (pe_op op_add pe_int (pe_dn D1 hr (by rfl) (by decide) (pa_cons (pv 0) (pa_cons (pe_op op_pow pe_int pe_int) pa_nil)))) (pe_op op_pow pe_int pe_int))
      (pe_op op_mulW (pe_dn D1 hr (by rfl) (by decide) (pa_cons (pv 0) (pa_cons (pe_op op_pow pe_int pe_int) pa_nil))) (pe_op op_pow pe_int pe_int))) (pe_dn D1 hr (by rfl) (by decide) (pa_cons (pv 0) (pa_cons (pe_op op_pow pe_int pe_int) pa_nil))))), ?_⟩
    refine ⟨_, rfl, 10, 9, rfl, rfl, ⟨by decide, by decide, by decide⟩, p, _, rfl, hp, by decide, by decide, fun a H1 a0 a1 k1 => ?_⟩
    replace a1 : a < 1000000000 := a1
    refine ⟨_, _, rfl, rfl, 10, 24, rfl, rfl, ⟨by decide, by decide, by decide⟩, _, _, rfl, rfl, mulW (by omega) (by decide), ?_⟩
    refine ⟨_, rfl, 10, 12, rfl, rfl, ⟨by decide, by decide, by decide⟩, p, _, rfl, k1.pot, by decide, by decide, fun b H2 b0 b1 k2 => ?_⟩
    replace b1 : b < 1000000000000 := b1
    refine ⟨10, 12, rfl, rfl, ⟨by decide, by decide, by decide⟩, _, _, rfl, rfl, mulW (by omega) (by decide), _, _, rfl, rfl, ?_⟩
    refine ⟨_, rfl, 10, 12, rfl, rfl, ⟨by decide, by decide, by decide⟩, p, _, rfl, k2.pot, by decide, by decide, fun c H3 c0 c1 k3 => ?_⟩
    replace c1 : c < 1000000000000 := c1
    refine ⟨_, _, rfl, rfl, q _ _ ?_ ?_ ((k1.trans k2).trans k3)⟩
    · show (0 : Int) < (1 + a) * 1000000000000000000000000 + b * 1000000000000 + c
      omega
    · show (1 + a) * 1000000000000000000000000 + b * 1000000000000 + c < (2 : Int) ^ 112
      have : (2 : Int) ^ 112 = 5192296858534827628530496329220096 := by decide
      omega
theorem scPart : FnScope ["_law_pot_here", "_law_high"] ["_law_pot_here"] (defScope (top 24)) := ⟨rfl, rfl, rfl, by decide +kernel, rfl, by decide +kernel, by decide +kernel⟩
theorem ok_part (D1 : DnP P w K mg base) (D2 : Dn P w K mg base CX0 2 "_law_great" ["_law_pot_here"] spGreat) (D3 : DnL P w K mg base) (F : Fun K "_law_part" "_law_part" (top 24) f fd) : FnOk P w K mg base CX0 3 f fd ["_law_pot_here"] (spPart K) := by
  refine F.ok scPart (fun vs H Q E h => ?_) (fun cdv A outer s H vs Q E hr h => ?_)
  · obtain ⟨p, rfl, _⟩ := h
    rfl
  · obtain ⟨p, rfl, hp, q⟩ := h
    have nd := scPart.nd
    refine ⟨_, pss_cons (ps_set (i := 1) nd rfl (.inl rfl) (pe_op op_mulW
        (pe_dn D1 hr (by rfl) (by decide) (pa_cons (pv 0) (pa_cons (pe_lst (pa_cons pe_int (pa_cons pe_int (pa_cons pe_int (pa_cons pe_int (pa_cons pe_int (pa_cons pe_int (pa_cons (pe_dn D2 hr (by rfl) (by decide) (pa_cons (pv 0) pa_nil)) pa_nil)))))))) pa_nil)))
        (pe_dn D1 hr (by rfl) (by decide) (pa_cons (pv 0) (pa_cons (pe_lst (pa_cons pe_int (pa_cons (pe_un un_neg pe_int) pa_nil))) pa_nil)))))
      (pss_one (ps_ret (pe_dn D3 hr (by rfl) (by decide) (pa_cons (pv 1) (pa_cons (pe_dn D1 hr (by rfl) (by decide) (pa_cons (pv 0) (pa_cons (pe_lst (pa_cons pe_int (pa_cons pe_int (pa_cons pe_int (pa_cons pe_int (pa_cons pe_int (pa_cons (pe_dn D2 hr (by rfl) (by decide) (pa_cons (pv 0) pa_nil)) pa_nil))))))) pa_nil))) pa_nil))))), ?_⟩
    refine ⟨_, rfl, _, rfl, p, rfl, hp, fun g H1 g0 g1 k1 => ⟨(by show 7 ≤ sizeLine; decide), fun l hl => ?_⟩⟩
    refine ⟨p, l, _, rfl, k1.pot.new hl, ne_pot k1.pot hl, SqL.of upd_same, (fun z => by cases z), (by show 7 ≤ 1000000; decide), fun x H2 hx k2 => ?_⟩
    have num : ∃ z : Int, x = .int z ∧ z.natAbs < 2 ^ 112 := by
      simp only [List.mem_cons, List.not_mem_nil, or_false] at hx
      rcases hx with rfl | rfl | rfl | rfl | rfl | rfl | rfl
      all_goals first | exact ⟨_, rfl, by decide⟩ | exact ⟨_, rfl, by omega⟩
    obtain ⟨z, rfl, zb⟩ := num
    have k12 := k1.trans ((Kp.new k1.pot hl).trans k2)
    clear hx k2
    refine ⟨_, rfl, 1, rfl, (by show 2 ≤ sizeLine; decide), fun m hm => ⟨p, m, _, rfl, k12.pot.new hm, ne_pot k12.pot hm, SqL.of upd_same, (fun z => by cases z), (by show 2 ≤ 1000000; decide), fun y H3 hy k3 => ?_⟩⟩
    have sgn : ∃ e : Int, y = .int e ∧ e.natAbs = 1 := by
      simp only [List.mem_cons, List.not_mem_nil, or_false] at hy
      rcases hy with rfl | rfl <;> exact ⟨_, rfl, by decide⟩
    obtain ⟨e, rfl, e1⟩ := sgn
    have k13 := k12.trans ((Kp.new k12.pot hm).trans k3)
    clear hy k3
    refine ⟨_, _, rfl, rfl, mulOk (n := 112) (m := 1) zb (by omega) (by decide) (by decide), ?_⟩
    have zeb : (z * e).natAbs < 2 ^ 112 := by rw [Int.natAbs_mul, e1, Nat.mul_one]; exact zb
    refine ⟨_, rfl, _, rfl, _, rfl, p, rfl, k13.pot, fun g2 H4 h0 h1 k4 => ⟨(by show 6 ≤ sizeLine; decide), fun l2 hl2 => ?_⟩⟩
    have k14 := k13.trans k4
    refine ⟨p, l2, _, rfl, k14.pot.new hl2, ne_pot k14.pot hl2, SqL.of upd_same, (fun z => by cases z), (by show 6 ≤ 1000000; decide), fun x2 H5 hx2 k5 => ?_⟩
    have num2 : ∃ z2 : Int, x2 = .int z2 ∧ 0 < z2 ∧ z2.natAbs < 2 ^ 112 := by
      simp only [List.mem_cons, List.not_mem_nil, or_false] at hx2
      rcases hx2 with rfl | rfl | rfl | rfl | rfl | rfl
      all_goals first | exact ⟨_, rfl, by decide, by decide⟩ | exact ⟨_, rfl, h0, by omega⟩
    obtain ⟨z2, rfl, z20, z2b⟩ := num2
    have k15 := k14.trans ((Kp.new k14.pot hl2).trans k5)
    refine ⟨_, _, rfl, z20, Nat.lt_trans zeb (by decide), Nat.lt_trans z2b (by decide), fun t H6 e6 n6 t6 => ?_⟩
    obtain ⟨b1, b2⟩ := divInt_le (z * e) z2 (by omega)
    have tp : t ≠ p := ne_pot k15.pot n6
    refine q t _ H6 (k15.gone tp n6) tp t6 ⟨Nat.lt_of_le_of_lt b1 zeb, Nat.lt_of_le_of_lt b2 z2b⟩ ⟨fun c o nc hc => e6 _ _ (k15.1 c o nc hc), ?_⟩
    obtain ⟨a, b, hpp, r⟩ := k15.2
    exact ⟨a, b, e6 _ _ hpp, r⟩
theorem scWritten : FnScope ["_law_part_here"] ["_law_part_here"] (defScope (top 25)) := ⟨rfl, rfl, rfl, by decide +kernel, rfl, by decide +kernel, by decide +kernel⟩
theorem ok_written (nb : base.NoDigits) (fr : Frees mg) (F : Fun K "_law_written" "_law_written" (top 25) f fd) : FnOk P w K mg base CX0 1 f fd ["_law_part_here"] (spTxt K written) := by
  refine F.ok scWritten (fun vs H Q E h => ?_) (fun cdv A outer s H vs Q E hr h => ?_)
  · obtain ⟨t, q, rfl, _⟩ := h
    rfl
  · obtain ⟨t, q, rfl, ht, lw, z⟩ := h
    refine ⟨_, pss_one (ps_ret (pe_ifExp (pt_cmpR op_eq (pe_ix ix_tup (pv 0) pe_int (fun _ _ => rfl)) pe_int (nomark _)) (pe_callTy (call_strI nb rfl) rfl (fr.h _ (by decide +kernel)) (by decide +kernel) (pa_cons (pe_ix ix_tup (pv 0) pe_int (fun _ _ => rfl)) pa_nil))
      (pe_op op_add_str (pe_op op_add_str (pe_callTy (call_strI nb rfl) rfl (fr.h _ (by decide +kernel)) (by decide +kernel) (pa_cons (pe_ix ix_tup (pv 0) pe_int (fun _ _ => rfl)) pa_nil)) pe_str) (pe_callTy (call_strI nb rfl) rfl (fr.h _ (by decide +kernel)) (by decide +kernel) (pa_cons (pe_ix ix_tup (pv 0) pe_int (fun _ _ => rfl)) pa_nil))))), ?_⟩
    have l1 := big_len lw.1
    have l2 := big_len (KA.low_den lw)
    have k1 : (Str.ofString "/").length = 1 := by decide
    refine ⟨_, rfl, _, _, 1, _, rfl, rfl, ht, rfl, rfl, _, rfl, ite2 (fun h => ?_) (fun h => ?_)⟩
    · have e : (q.den : Int) = 1 := by simpa using h
      unfold written at z
      rw [if_pos e] at z
      exact ⟨_, rfl, _, _, 0, _, rfl, rfl, ht, rfl, _, rfl, lw.1, z⟩
    · have e : ¬ (q.den : Int) = 1 := fun e => h (by simpa using e)
      unfold written at z
      rw [if_neg e, emp] at z
      refine ⟨_, rfl, _, _, 0, _, rfl, rfl, ht, rfl, _, rfl, lw.1, _, _, rfl, rfl, ?_, _, rfl, _, _, 1, _, rfl, rfl, ht, rfl, _, rfl, KA.low_den lw, _, _, rfl, rfl, ?_, z⟩ <;> (simp only [strLen_append, k1]; have := line_ge; omega)
end
/-! ### values that are no numbers -/
/-- a value that is no number, with the text of its repr, as long as all but tables stand -/
def OdV (H : Hp) (v : V) (x : Str) : Prop := x.length ≤ 1000 ∧ PyData.strOk x = true ∧ (∃ T, T ≠ "int" ∧ ∀ H', LamX.ExtN H H' → Bt H' v T) ∧ ∃ as n, n ≤ 40 ∧ ∀ H', LamX.ExtN H H' → Rp H' as n v x
theorem OdV.xn {H H' : Hp} {v : V} {x : Str} (o : OdV H v x) (n : LamX.ExtN H H') : OdV H' v x := let ⟨l, k, ⟨T, n1, b⟩, as, m, hm, r⟩ := o; ⟨l, k, ⟨T, n1, fun H2 n2 => b H2 (n.trans n2)⟩, as, m, hm, fun H2 n2 => r H2 (n.trans n2)⟩
theorem OdV.ext {H H' : Hp} {v : V} {x : Str} (o : OdV H v x) (e : Am.Ext H H') : OdV H' v x := o.xn (LamX.ExtN.of e)
theorem OdV.odd {H : Hp} {v : V} {x : Str} (o : OdV H v x) : Odd H v := let ⟨_, _, ⟨T, n1, b⟩, _⟩ := o; ⟨T, b H (LamX.ExtN.refl H), n1⟩
theorem OdV.bt {H : Hp} {v : V} {x : Str} (o : OdV H v x) : ∃ T, Bt H v T ∧ T ≠ "int" := let ⟨_, _, ⟨T, n1, b⟩, _⟩ := o; ⟨T, b H (LamX.ExtN.refl H), n1⟩
theorem odd_non {H : Hp} : OdV H .non (Str.ofString "None") := ⟨by decide, by decide +kernel, ⟨"NoneType", by decide, fun _ _ => .non⟩, [], 0, by decide, fun _ _ => .non⟩
theorem odd_bl {H : Hp} (b : Bool) : OdV H (.bl b) (if b = true then Str.ofString "True" else Str.ofString "False") := ⟨by split <;> decide, by split <;> decide +kernel, ⟨"bool", by decide, fun _ _ => .bl b⟩, [], 0, by decide, fun _ _ => .bl b⟩
theorem odd_str {H : Hp} (s : Str) (l : (reprText s).length ≤ 1000) (k : PyData.strOk (reprText s) = true) : OdV H (.str s) (reprText s) := ⟨l, k, ⟨"str", by decide, fun _ _ => .str _⟩, [], 0, by decide, fun _ _ => .str _ (Nat.le_trans l (by decide))⟩
theorem odd_tup {H : Hp} {a : Addr} {xs : List V} {ts : List Str} (h : H a = some (.tup xs)) (l : (tupleText ts).length ≤ 1000) (k : PyData.strOk (tupleText ts) = true) (n : ts.length = xs.length) (r : ∀ (H' : Hp) (i : Nat) (x : V) (t : Str), xs[i]? = some x → ts[i]? = some t → Rp H' [] 0 x t) : OdV H (.ref a) (tupleText ts) :=
  ⟨l, k, ⟨"tuple", by decide, fun H' n => .tup (n _ _ h fun _ => HO.noConfusion)⟩, [a], 1, by decide, fun H' m => .tup (as0 := []) (m _ _ h fun _ => HO.noConfusion) (by simp) (fun b hb => hb) n (r H')⟩
theorem odd_lst {H : Hp} {a : Addr} {xs : List V} {ts : List Str} (h : H a = some (.lst xs)) (l : (listText ts).length ≤ 1000) (k : PyData.strOk (listText ts) = true) (n : ts.length = xs.length) (r : ∀ (H' : Hp) (i : Nat) (x : V) (t : Str), xs[i]? = some x → ts[i]? = some t → Rp H' [] 0 x t) : OdV H (.ref a) (listText ts) :=
  ⟨l, k, ⟨"list", by decide, fun H' n => .lst (n _ _ h fun _ => HO.noConfusion)⟩, [a], 1, by decide, fun H' m => .lst (as0 := []) (m _ _ h fun _ => HO.noConfusion) (by simp) (fun b hb => hb) n (r H')⟩
theorem odd_emp {H : Hp} {a : Addr} (h : H a = some (.dK [])) : OdV H (.ref a) (dictText []) :=
  ⟨by decide +kernel, by decide +kernel, ⟨"dict", by decide, fun H' n => .dK (n _ _ h fun _ => HO.noConfusion)⟩, [a], 1, by decide, fun H' m => .dic (as0 := []) (ps := []) (m _ _ h fun _ => HO.noConfusion) (by simp) (fun b hb => hb) rfl (fun i x t h _ => by simp at h) (fun i x t h _ => by simp at h)⟩
theorem odd_dic {H : Hp} {a : Addr} (h : H a = some (.dK [(.inr "a", .int 1)])) : OdV H (.ref a) (dictText [reprText "a" ++ ": " ++ Str.ofString "1"]) :=
  ⟨by decide +kernel, by decide +kernel, ⟨"dict", by decide, fun H' n => .dK (n _ _ h fun _ => HO.noConfusion)⟩, [a], 1, by decide, fun H' m => .dic (as0 := []) (ps := [(reprText "a", Str.ofString "1")]) (m _ _ h fun _ => HO.noConfusion) (by simp) (fun b hb => hb) rfl (fun i q p h1 h2 => by
    cases i with
    | zero => cases h1; cases h2; exact .str _ (Nat.le_trans (show (reprText "a").length ≤ 1000 by decide +kernel) (by decide))
    | succ i => simp at h1) (fun i q p h1 h2 => by
    cases i with
    | zero => cases h1; cases h2; exact .int 1 (by decide)
    | succ i => simp at h1)⟩
section
variable {P : Program} {w : World} {K : W.Frag} {mg : Str → Option Value} {base : Heap} {f C : Addr} {fd : FuncData}
theorem scOdd : FnScope ["_law_pot_here"] ["_law_pot_here"] (defScope (top 26)) := ⟨rfl, rfl, rfl, by decide +kernel, rfl, by decide +kernel, by decide +kernel⟩
def spOdd : Sp := fun vs H Q _ => ∃ p : Addr, vs = [.ref p] ∧ Pot H p ∧ ∀ v x H', (∀ H2, KT p H' H2 → OdV H2 v x) → v ≠ .ref p → Kp p H H' → Q v H'
theorem ok_odd (DP : DnP P w K mg base) (F : Fun K "_law_odd" "_law_odd" (top 26) f fd) : FnOk P w K mg base CX0 3 f fd ["_law_pot_here"] spOdd := by
  refine F.ok scOdd (fun vs H Q E h => ?_) (fun cdv A outer s H vs Q E hr h => ?_)
  · obtain ⟨p, rfl, _⟩ := h
    rfl
  · obtain ⟨p, rfl, hp, z⟩ := h
    have nd := scOdd.nd
    refine ⟨_, pss_one (ps_ret (pe_dn DP hr (by rfl) (by decide) (pa_cons (pv 0) (pa_cons (pe_lst (pa_cons pe_non (pa_cons pe_bl (pa_cons pe_bl (pa_cons pe_str (pa_cons pe_str (pa_cons (pe_lst (pa_cons pe_int pa_nil)) (pa_cons (pe_tup (pa_cons pe_int (pa_cons pe_int pa_nil))) (pa_cons pe_dnewK (pa_cons (pe_disp (pps_cons pe_str pe_int pps_nil) rfl rfl (fun z => by cases z) (by decide)) (pa_cons (pe_lst (pa_cons pe_str pa_nil)) (pa_cons (pe_tup pa_nil) (pa_cons pe_str pa_nil))))))))))))) pa_nil)))), ?_⟩
    refine ⟨_, rfl, (by show 1 ≤ sizeLine; decide), fun l1 h1 => ⟨(by show 2 ≤ sizeLine; decide), fun t1 h2 d0 h3 d1 h4 => ⟨upd_same, [(.inr "a", .int 1)], rfl, (by show 1 ≤ 15; decide), (by show 1 ≤ sizeLine; decide), fun l2 h5 => ⟨(by show 0 ≤ sizeLine; decide), fun t2 h6 => ⟨(by show 12 ≤ sizeLine; decide), fun O hO => ?_⟩⟩⟩⟩⟩
    have e1 := Am.Ext.new (o := .lst [V.int 1]) h1
    have p1 := Kp.ext hp e1
    have n1 := ne_pot hp h1
    have a1 : (upd H l1 (.lst [V.int 1])) l1 = some (.lst [V.int 1]) := upd_same
    generalize upd H l1 (.lst [V.int 1]) = G1 at h2 h3 h4 h5 h6 hO e1 p1 a1 ⊢
    have e2 := Am.Ext.new (o := .tup [V.int 1, .int 2]) h2
    have p2 := p1.trans (Kp.ext p1.pot e2)
    have n2 := ne_pot p1.pot h2
    have a2 : (upd G1 t1 (.tup [V.int 1, .int 2])) t1 = some (.tup [V.int 1, .int 2]) := upd_same
    replace a1 := e2 _ _ a1
    generalize upd G1 t1 (.tup [V.int 1, .int 2]) = G2 at h3 h4 h5 h6 hO e2 p2 a1 a2 ⊢
    have e3 := Am.Ext.new (o := .dK []) h3
    have p3 := p2.trans (Kp.ext p2.pot e3)
    have n3 := ne_pot p2.pot h3
    have a3 : (upd G2 d0 (.dK [])) d0 = some (.dK []) := upd_same
    replace a1 := e3 _ _ a1
    replace a2 := e3 _ _ a2
    generalize upd G2 d0 (.dK []) = G3 at h4 h5 h6 hO e3 p3 a1 a2 a3 ⊢
    have e4 : Am.Ext G3 (upd (upd G3 d1 (.dK [])) d1 (.dK [(.inr "a", .int 1)])) := fun b o h => by
      rw [upd_ne (ne_of_none h h4), upd_ne (ne_of_none h h4)]
      exact h
    have p4 := p3.trans (Kp.ext p3.pot e4)
    have n4 := ne_pot p3.pot h4
    have a4 : (upd (upd G3 d1 (.dK [])) d1 (.dK [(.inr "a", .int 1)])) d1 = some (.dK [(.inr "a", .int 1)]) := upd_same
    replace a1 := e4 _ _ a1
    replace a2 := e4 _ _ a2
    replace a3 := e4 _ _ a3
    show spPick K _ (upd (upd (upd (upd (upd G3 d1 (.dK [])) d1 (.dK [(.inr "a", .int 1)])) l2 (.lst [V.str "a"])) t2 (.tup [])) O (.lst [V.non, .bl true, .bl false, .str "1", .str "", .ref l1, .ref t1, .ref d0, .ref d1, .ref l2, .ref t2, .str "a/b"])) _ E0
    replace h5 : (upd (upd G3 d1 (.dK [])) d1 (.dK [(.inr "a", .int 1)])) l2 = none := h5
    replace h6 : (upd (upd (upd G3 d1 (.dK [])) d1 (.dK [(.inr "a", .int 1)])) l2 (.lst [V.str "a"])) t2 = none := h6
    replace hO : (upd (upd (upd (upd G3 d1 (.dK [])) d1 (.dK [(.inr "a", .int 1)])) l2 (.lst [V.str "a"])) t2 (.tup [])) O = none := hO
    generalize upd (upd G3 d1 (.dK [])) d1 (.dK [(.inr "a", .int 1)]) = G4 at h5 h6 hO e4 p4 a1 a2 a3 a4 ⊢
    have e5 := Am.Ext.new (o := .lst [V.str "a"]) h5
    have p5 := p4.trans (Kp.ext p4.pot e5)
    have n5 := ne_pot p4.pot h5
    have a5 : (upd G4 l2 (.lst [V.str "a"])) l2 = some (.lst [V.str "a"]) := upd_same
    generalize upd G4 l2 (.lst [V.str "a"]) = G5 at h6 hO e5 p5 a5 ⊢
    have e6 := Am.Ext.new (o := .tup []) h6
    have p6 := p5.trans (Kp.ext p5.pot e6)
    have n6 := ne_pot p5.pot h6
    have a6 : (upd G5 t2 (.tup [])) t2 = some (.tup []) := upd_same
    replace a5 := e6 _ _ a5
    generalize upd G5 t2 (.tup []) = G6 at hO e6 p6 a5 a6 ⊢
    have eO := Am.Ext.new (o := .lst [V.non, .bl true, .bl false, .str "1", .str "", .ref l1, .ref t1, .ref d0, .ref d1, .ref l2, .ref t2, .str "a/b"]) hO
    have pO := p6.trans (Kp.ext p6.pot eO)
    have e46 := (e5.trans e6).trans eO
    refine ⟨p, O, _, rfl, pO.pot, ne_pot p6.pot hO, SqL.of upd_same, (fun z => by cases z), (by show 12 ≤ 1000000; decide), fun x H' hx k => ?_⟩
    have kk := pO.trans k
    simp only [List.mem_cons, List.not_mem_nil, or_false] at hx
    rcases hx with rfl | rfl | rfl | rfl | rfl | rfl | rfl | rfl | rfl | rfl | rfl | rfl
    · exact z _ _ _ (fun H2 k2 => odd_non) (fun e => by cases e) kk
    · exact z _ _ _ (fun H2 k2 => odd_bl true) (fun e => by cases e) kk
    · exact z _ _ _ (fun H2 k2 => odd_bl false) (fun e => by cases e) kk
    · exact z _ _ _ (fun H2 k2 => odd_str "1" (by decide +kernel) (by decide +kernel)) (fun e => by cases e) kk
    · exact z _ _ _ (fun H2 k2 => odd_str "" (by decide +kernel) (by decide +kernel)) (fun e => by cases e) kk
    · exact z _ _ _ (fun H2 k2 => odd_lst (ts := [Str.ofString "1"]) (((Kp.kt k).trans k2).1 _ _ n1 (e46 _ _ a1) (fun _ => HO.noConfusion)) (by decide +kernel) (by decide +kernel) rfl fun H' i x t h1 h2 => by
        match i, h1, h2 with
        | 0, h1, h2 => cases h1; cases h2; exact .int 1 (by decide)
        | i + 1, h1, _ => simp at h1) (fun e => n1 (V.ref.inj e)) kk
    · exact z _ _ _ (fun H2 k2 => odd_tup (ts := [Str.ofString "1", Str.ofString "2"]) (((Kp.kt k).trans k2).1 _ _ n2 (e46 _ _ a2) (fun _ => HO.noConfusion)) (by decide +kernel) (by decide +kernel) rfl fun H' i x t h1 h2 => by
        match i, h1, h2 with
        | 0, h1, h2 => cases h1; cases h2; exact .int 1 (by decide)
        | 1, h1, h2 => cases h1; cases h2; exact .int 2 (by decide)
        | i + 2, h1, _ => simp at h1) (fun e => n2 (V.ref.inj e)) kk
    · exact z _ _ _ (fun H2 k2 => odd_emp (((Kp.kt k).trans k2).1 _ _ n3 (e46 _ _ a3) (fun _ => HO.noConfusion))) (fun e => n3 (V.ref.inj e)) kk
    · exact z _ _ _ (fun H2 k2 => odd_dic (((Kp.kt k).trans k2).1 _ _ n4 (e46 _ _ a4) (fun _ => HO.noConfusion))) (fun e => n4 (V.ref.inj e)) kk
    · exact z _ _ _ (fun H2 k2 => odd_lst (ts := [reprText "a"]) (((Kp.kt k).trans k2).1 _ _ n5 (eO _ _ a5) (fun _ => HO.noConfusion)) (by decide +kernel) (by decide +kernel) rfl fun H' i x t h1 h2 => by
        match i, h1, h2 with
        | 0, h1, h2 => cases h1; cases h2; exact .str _ (Nat.le_trans (show (reprText "a").length ≤ 1000 by decide +kernel) (by decide))
        | i + 1, h1, _ => simp at h1) (fun e => n5 (V.ref.inj e)) kk
    · exact z _ _ _ (fun H2 k2 => odd_tup (ts := []) (((Kp.kt k).trans k2).1 _ _ n6 (eO _ _ a6) (fun _ => HO.noConfusion)) (by decide +kernel) (by decide +kernel) rfl fun H' i x t h1 h2 => by simp at h1) (fun e => n6 (V.ref.inj e)) kk
    · exact z _ _ _ (fun H2 k2 => odd_str "a/b" (by decide +kernel) (by decide +kernel)) (fun e => by cases e) kk
end
end KC

set_option Elab.async false
set_option linter.all false
set_option maxRecDepth 100000
set_option maxHeartbeats 4000000
set_option exponentiation.threshold 20000
/-! What is no number is refused: the other operators; an Amount on the left, an Amount on the right. -/
namespace KC
open PySem PySem.Spec PyProof.Rows L2 Oo Gd Am KA
section
variable {P : Program} {w : World} {K : W.Frag} {mg : Str → Option Value} {base : Heap} {C Wc f : Addr} {fd : FuncData}
theorem ok_addO (O : OfO P w K mg base C Wc) (F : Fun K "__add__" "Amount.__add__" (am 6) f fd) : FnOk P w K mg base (L2.CX P w) 5 f fd ["self", "other"] (spOpO C Wc) := by
  refine F.okX scAdd (fun vs H Q E h => ?_) (fun cdv A outer s H vs Q E hr h => ?_)
  · obtain ⟨a, y, q, rfl, _⟩ := h
    rfl
  · obtain ⟨a, y, q, rfl, ia, od, rv⟩ := h
    have nd := scAdd.nd
    refine ⟨_, pss_cons (ps_set (i := 2) nd rfl (.inl rfl) (pe_ofO (E := E) O hr (passes_call (takes_of rfl rfl rfl rfl) fun _ _ _ _ h => h) (pe_glob (v := V.ref C) rfl O.mgA rfl) (pa_cons (pv 1) pa_nil))) pss_never, ?_⟩
    exact ⟨rfl, _, rfl, y, rfl, od, rv⟩
theorem ok_mulO (O : OfO P w K mg base C Wc) (F : Fun K "__mul__" "Amount.__mul__" (am 10) f fd) : FnOk P w K mg base (L2.CX P w) 5 f fd ["self", "other"] (spOpO C Wc) := by
  refine F.okX scMul (fun vs H Q E h => ?_) (fun cdv A outer s H vs Q E hr h => ?_)
  · obtain ⟨a, y, q, rfl, _⟩ := h
    rfl
  · obtain ⟨a, y, q, rfl, ia, od, rv⟩ := h
    have nd := scMul.nd
    refine ⟨_, pss_cons (ps_set (i := 2) nd rfl (.inl rfl) (pe_ofO (E := E) O hr (passes_call (takes_of rfl rfl rfl rfl) fun _ _ _ _ h => h) (pe_glob (v := V.ref C) rfl O.mgA rfl) (pa_cons (pv 1) pa_nil))) pss_never, ?_⟩
    exact ⟨rfl, _, rfl, y, rfl, od, rv⟩
theorem ok_raddO (O : OfO P w K mg base C Wc) (F : Fun K "__radd__" "Amount.__radd__" (am 7) f fd) : FnOk P w K mg base (L2.CX P w) 5 f fd ["self", "other"] (spOpO C Wc) := by
  refine F.okX scRadd (fun vs H Q E h => ?_) (fun cdv A outer s H vs Q E hr h => ?_)
  · obtain ⟨a, y, q, rfl, _⟩ := h
    rfl
  · obtain ⟨a, y, q, rfl, ia, od, rv⟩ := h
    refine ⟨_, pss_one (ps_ret (pe_op never_op (pe_ofO (E := E) O hr (passes_call (takes_of rfl rfl rfl rfl) fun _ _ _ _ h => h) (pe_glob (v := V.ref C) rfl O.mgA rfl) (pa_cons (pv 1) pa_nil)) (pv 0))), ?_⟩
    exact ⟨rfl, _, rfl, y, rfl, od, rv⟩
theorem ok_rsubO (O : OfO P w K mg base C Wc) (F : Fun K "__rsub__" "Amount.__rsub__" (am 9) f fd) : FnOk P w K mg base (L2.CX P w) 5 f fd ["self", "other"] (spOpO C Wc) := by
  refine F.okX scRsub (fun vs H Q E h => ?_) (fun cdv A outer s H vs Q E hr h => ?_)
  · obtain ⟨a, y, q, rfl, _⟩ := h
    rfl
  · obtain ⟨a, y, q, rfl, ia, od, rv⟩ := h
    refine ⟨_, pss_one (ps_ret (pe_op never_op (pe_ofO (E := E) O hr (passes_call (takes_of rfl rfl rfl rfl) fun _ _ _ _ h => h) (pe_glob (v := V.ref C) rfl O.mgA rfl) (pa_cons (pv 1) pa_nil)) (pv 0))), ?_⟩
    exact ⟨rfl, _, rfl, y, rfl, od, rv⟩
theorem ok_rmulO (O : OfO P w K mg base C Wc) (F : Fun K "__rmul__" "Amount.__rmul__" (am 11) f fd) : FnOk P w K mg base (L2.CX P w) 5 f fd ["self", "other"] (spOpO C Wc) := by
  refine F.okX scRmul (fun vs H Q E h => ?_) (fun cdv A outer s H vs Q E hr h => ?_)
  · obtain ⟨a, y, q, rfl, _⟩ := h
    rfl
  · obtain ⟨a, y, q, rfl, ia, od, rv⟩ := h
    refine ⟨_, pss_one (ps_ret (pe_op never_op (pe_ofO (E := E) O hr (passes_call (takes_of rfl rfl rfl rfl) fun _ _ _ _ h => h) (pe_glob (v := V.ref C) rfl O.mgA rfl) (pa_cons (pv 1) pa_nil)) (pv 0))), ?_⟩
    exact ⟨rfl, _, rfl, y, rfl, od, rv⟩
theorem ok_rmodO (O : OfO P w K mg base C Wc) (F : Fun K "__rmod__" "Amount.__rmod__" (am 16) f fd) : FnOk P w K mg base (L2.CX P w) 5 f fd ["self", "other"] (spOpO C Wc) := by
  refine F.okX scRmod (fun vs H Q E h => ?_) (fun cdv A outer s H vs Q E hr h => ?_)
  · obtain ⟨a, y, q, rfl, _⟩ := h
    rfl
  · obtain ⟨a, y, q, rfl, ia, od, rv⟩ := h
    refine ⟨_, pss_one (ps_ret (pe_op never_op (pe_ofO (E := E) O hr (passes_call (takes_of rfl rfl rfl rfl) fun _ _ _ _ h => h) (pe_glob (v := V.ref C) rfl O.mgA rfl) (pa_cons (pv 1) pa_nil)) (pv 0))), ?_⟩
    exact ⟨rfl, _, rfl, y, rfl, od, rv⟩
/-- an operator refuses on both sides -/
structure BnO (P : Program) (w : World) (K : W.Frag) (mg : Str → Option Value) (base : Heap) (C Wc : Addr) (nm : String) : Prop where
  of : ∃ f g fd ps gd qs, OwnBin K C nm f (some g) ∧ FnOk P w K mg base (L2.CX P w) 6 f fd ps (spOpO C Wc) ∧ Binds K fd ps [] ∧ FnOk P w K mg base (L2.CX P w) 6 g gd qs (spOpO C Wc) ∧ Binds K gd qs []
structure Tol (K : W.Frag) (mg : Str → Option Value) : Prop where
  of : ∃ g gd, Fun K "_law_told" "_law_told" (top 27) g gd ∧ mg "_law_told" = some (.ref g) ∧ Binds K gd ["_law_call"] []
structure Tq1 (T : List (Addr × Str)) (p : Addr) (q : Str) : Prop where
  mem : (p, q) ∈ T
  uq : ∀ x ∈ T, x.1 = p → x.2 = q
/-- the four comparisons -/
structure Fo (P : Program) (w : World) (K : W.Frag) (mg : Str → Option Value) (base : Heap) (C Wc : Addr) : Prop where
  pl : Plain K C
  lt : CmpD P w K mg base C Wc "__lt__" fun q p => decide (q < p)
  le : CmpD P w K mg base C Wc "__le__" fun q p => decide (q ≤ p)
  gt : CmpD P w K mg base C Wc "__gt__" fun q p => decide (p < q)
  ge : CmpD P w K mg base C Wc "__ge__" fun q p => decide (p ≤ q)
structure Lr (P : Program) (w : World) (K : W.Frag) (mg : Str → Option Value) (base : Heap) (C WA WC WT ZF : Addr) : Prop where
  fr : Frees mg
  cl : Cls K C
  R : Rep P w K mg base C
  RU : RepU P w K mg base C
  tq : Tq K mg WA WC WT ZF
  tol : Tol K mg
  fo : Fo P w K mg base C WA
  b1 : BnO P w K mg base C WA (Operator.Add).info.2
  b2 : BnO P w K mg base C WA (Operator.Sub).info.2
  b3 : BnO P w K mg base C WA (Operator.Mult).info.2
  b4 : BnO P w K mg base C WA (Operator.FloorDiv).info.2
  b5 : BnO P w K mg base C WA (Operator.Mod).info.2
  ov : OverO P w K mg base C WA
end
/-- told, the reading: an error that tells a value of data -/
theorem told_amt {C WA WC WT : Addr} {v : V} {x : Str} {tl : XK → Hp → VK → Prop} {H : Hp} {Q : VK} (ov : OdV H v x) (hh : ∀ L, H L = none → ∀ E Q', RefV WA v (upd H L (.lst [.str "none"])) E → tl E (upd H L (.lst [.str "none"])) Q') (z : ∀ D H', Am.Ext H H' → H' D = none → Q (.ref D) (upd H' D (.lst [.str "amount", .str x, .bl true]))) : TTt C WA WC WT tl H Q :=
  .inl ⟨v, fun L hL Q' => hh L hL _ Q' fun d H' e _ hd => by
    obtain ⟨l, _, _, as, n, n40, rp⟩ := ov
    have eL := (Am.Ext.new (o := .lst [V.str "none"]) hL).trans e
    exact ⟨rfl, d, rfl, hd, x, ⟨by omega, .inl ⟨as, n, rp H' (LamX.ExtN.of eL), n40⟩⟩, fun D hD => z D H' eL hD⟩⟩
theorem is_xn {C : Addr} {H H' : Hp} {a : Addr} {q : Rat} (h : Is C H a q) (n : LamX.ExtN H H') : Is C H' a q := let ⟨dx, i⟩ := h; ⟨dx, n _ _ i fun _ => HO.noConfusion⟩
/-! ### rows of what was told -/
def row (nm x : Str) : List V := [.str nm, .str x, .bl true]
def rowD (nm x : Str) : PyData := .list [.str nm, .str x, .bool true]
structure Rows (D : Addr) (rw : List V) (j : Nat) (T : List (Addr × Str)) (H H5 : Hp) : Prop where
  k : LamX.ExtN H H5
  t : LamX.Tabs T H5
  ex : ∃ rs : List Addr, H5 D = some (.lst (rs.map V.ref)) ∧ rs.length = j ∧ ∀ r ∈ rs, H5 r = some (.lst rw) ∧ r ≠ D
  dn : ∀ o, (∀ ps, o ≠ .tbl ps) → H D ≠ some o
theorem Rows.first {D R : Addr} {rw : List V} {T : List (Addr × Str)} {H H3 H4 : Hp} (n : LamX.ExtN H H3) (t : LamX.Tabs T H3) (e : Am.Ext H3 H4) (hR : H4 R = none) (hD : (upd H4 R (.lst rw)) D = none) : Rows D rw 1 T H (upd (upd H4 R (.lst rw)) D (.lst [.ref R])) := by
  have e2 := (e.trans (Am.Ext.new (o := .lst rw) hR)).trans (Am.Ext.new (o := .lst [.ref R]) hD)
  refine ⟨n.trans (LamX.ExtN.of e2), t.ext e2, ⟨[R], upd_same, rfl, fun r hr => ?_⟩, fun o k hz => ?_⟩
  · obtain rfl := List.mem_singleton.mp hr
    have ne : r ≠ D := ne_of_none upd_same hD
    exact ⟨by rw [upd_ne ne]; exact upd_same, ne⟩
  · have := (e.trans (Am.Ext.new (o := .lst rw) hR)) _ _ (n _ _ hz k)
    rw [hD] at this
    cases this
theorem Rows.step {D R : Addr} {rw : List V} {j : Nat} {T : List (Addr × Str)} {H H5 H6 H7 : Hp} (W : Rows D rw j T H H5) (n6 : LamX.ExtN H5 H6) (t6 : LamX.Tabs T H6) (e7 : Am.Ext H6 H7) (hR : H7 R = none) :
    ∃ xs, (upd H7 R (.lst rw)) D = some (.lst xs) ∧ xs.length = j ∧ Rows D rw (j + 1) T H (upd (upd H7 R (.lst rw)) D (.lst (xs ++ [.ref R]))) := by
  obtain ⟨rs, hD, ln, al⟩ := W.ex
  have nl : ∀ {xs : List V} (ps), HO.lst xs ≠ .tbl ps := fun _ => HO.noConfusion
  have e8 := e7.trans (Am.Ext.new (o := .lst rw) hR)
  have d8 := e8 _ _ (n6 _ _ hD nl)
  have nRD : R ≠ D := fun e => by
    rw [e, e7 _ _ (n6 _ _ hD nl)] at hR
    cases hR
  refine ⟨rs.map V.ref, d8, by rw [List.length_map, ln], xn_put ((W.k.trans n6).trans (LamX.ExtN.of e8)) W.dn, tabs_put (t6.ext e8) d8, ⟨rs ++ [R], ?_, by rw [List.length_append, ln]; rfl, fun r hr => ?_⟩, W.dn⟩
  · rw [upd_same, List.map_append]
    rfl
  · rcases List.mem_append.mp hr with h | h
    · obtain ⟨h1, h2⟩ := al r h
      exact ⟨by rw [upd_ne h2]; exact e8 _ _ (n6 _ _ h1 nl), h2⟩
    · obtain rfl := List.mem_singleton.mp h
      exact ⟨by rw [upd_ne nRD]; exact upd_same, nRD⟩
theorem dp_rows {K : W.Frag} {H : Hp} {nm x : Str} : ∀ rs : List Addr, (∀ r ∈ rs, H r = some (.lst (row nm x))) → DpAll K H (rs.map V.ref) (List.replicate rs.length (rowD nm x))
  | [], _ => .nil
  | r :: rs, h => .cons (.lst (SqL.of (h r List.mem_cons_self)) (.cons (.str _) (.cons (.str _) (.cons (.bl _) .nil)))) (dp_rows rs fun r' m => h r' (List.mem_cons_of_mem _ m))
theorem lay_rep {d : PyData} (h : d.canLay0 = true) : ∀ j, PyData.canLayAll0 (List.replicate j d) = true
  | 0 => by simp only [List.replicate, PyData.canLayAll0]
  | j + 1 => by simp only [List.replicate, PyData.canLayAll0, h, lay_rep h j, Bool.and_self]
theorem dep_rep {d : PyData} : ∀ j, PyData.depthAll (List.replicate j d) ≤ d.depth
  | 0 => by simp only [List.replicate, PyData.depthAll]; exact Nat.zero_le _
  | j + 1 => by
    simp only [List.replicate, PyData.depthAll]
    exact Nat.max_le.mpr ⟨Nat.le_refl _, dep_rep j⟩
theorem sh_rows {nm x : Str} (h1 : PyData.strOk nm = true) (h2 : PyData.strOk x = true) (j : Nat) : SeqAt.shaped (.list (List.replicate j (rowD nm x))) = true := by
  have a : (rowD nm x).canLay0 = true := by
    unfold rowD
    simp only [PyData.canLay0, PyData.canLayAll0, h1, h2, Bool.and_self]
  have b : (rowD nm x).depth = 1 := by
    unfold rowD
    simp only [PyData.depth, PyData.depthAll, Nat.max_self]
  unfold SeqAt.shaped
  simp only [PyData.canLay0, lay_rep a j, Bool.true_and, PyData.depth]
  have := dep_rep (d := rowD nm x) j
  exact decide_eq_true (by omega)
theorem rep_flat {α : Type} (a : α) : ∀ j, (List.replicate j [a]).flatten = List.replicate j a
  | 0 => rfl
  | j + 1 => by
    show a :: (List.replicate j [a]).flatten = a :: List.replicate j a
    rw [rep_flat a j]
theorem rows_eqd {K : W.Frag} {D M N : Addr} {nm x : Str} {j : Nat} {T : List (Addr × Str)} {H H5 H6 : Hp} {Q : VK} (W : Rows D (row nm x) j T H H5) (e : Am.Ext H5 H6) (h1 : PyData.strOk nm = true) (h2 : PyData.strOk x = true) (hM : H6 M = some (.lst (row nm x))) (hN : H6 N = some (.lst (List.replicate j [V.ref M]).flatten)) (z : Q (.bl true) H6) : rEqD K (.ref D) (.ref N) H6 Q := by
  obtain ⟨rs, hD, ln, al⟩ := W.ex
  rw [rep_flat, show List.replicate j (V.ref M) = (List.replicate j M).map V.ref from (List.map_replicate).symm] at hN
  have d1 := dp_rows (K := K) (H := H6) (nm := nm) (x := x) rs fun r m => e _ _ (al r m).1
  have d2 := dp_rows (K := K) (H := H6) (nm := nm) (x := x) (List.replicate j M) fun r m => by rw [List.eq_of_mem_replicate m]; exact hM
  rw [ln] at d1
  rw [List.length_replicate] at d2
  have sh := sh_rows h1 h2 j
  refine ⟨_, _, .lst (SqL.of (e _ _ hD)) d1, .lst (SqL.of hN) d2, sh, sh, ?_⟩
  rw [SeqAt.eqv_refl _ (SeqAt.canLay_of_shaped sh)]
  exact z
def spLr (C : Addr) (T : List (Addr × Str)) : Sp := fun vs H Q _ => ∃ a q v x, vs = [.ref a, v] ∧ Is C H a q ∧ OdV H v x ∧ LamX.Tabs T H ∧ ∀ H', LamX.ExtN H H' → LamX.Tabs T H' → Q (.bl true) H'
section
variable {P : Program} {w : World} {K : W.Frag} {mg : Str → Option Value} {base : Heap} {f C WA WC WT ZF c p : Addr} {fd : FuncData} {T : List (Addr × Str)}
abbrev nLf : List Str := ["_law_made", "_law_odd_here", "_law_told_here"]
theorem scLf : FnScope nLf ["_law_made", "_law_odd_here"] (defScope (top 29)) := ⟨rfl, rfl, rfl, by decide +kernel, rfl, by decide +kernel, by decide +kernel⟩
theorem ok_Lf (S : Lr P w K mg base C WA WC WT ZF) (TB : LamX.TabB base mg c p) (tp : Tq1 T p "_law_left_right.<locals>.<lambda>") (F : FunC K "_law_left_right" "_law_left_right" (top 29) f c fd) : FnG P w K mg base CX0 10 f fd ["_law_made", "_law_odd_here"] (spLr C T) := by
  refine okGc F scLf (fun vs H Q E h => ?_) (fun A outer s H vs Q E hG hr h => ?_)
  · obtain ⟨a, q, v, x, rfl, _⟩ := h
    rfl
  · obtain ⟨a, q, v, x, rfl, ia, ov, hT, z⟩ := h
    have nd := scLf.nd
    have fr := S.fr
    obtain ⟨g, gd, RF, gm, gb⟩ := S.tol.of
    have gk := RF.kp
    obtain ⟨goc, god, gkV, gdoc, gpm, gan, gcdv, gct, gosl, rfl, glk, gcode⟩ := RF.ex
    obtain ⟨f1, g1, fd1, ps1, gd1, qs1, B1, F1, c1, G1, e1⟩ := S.b1.of
    obtain ⟨f2, g2, fd2, ps2, gd2, qs2, B2, F2, c2, G2, e2⟩ := S.b2.of
    obtain ⟨f3, g3, fd3, ps3, gd3, qs3, B3, F3, c3, G3, e3⟩ := S.b3.of
    obtain ⟨f4, g4, fd4, ps4, gd4, qs4, B4, F4, c4, G4, e4⟩ := S.b4.of
    obtain ⟨f5, g5, fd5, ps5, gd5, qs5, B5, F5, c5, G5, e5⟩ := S.b5.of
    obtain ⟨fO, fdO, mO, FO, bO⟩ := S.ov.of
    refine ⟨_, pss_cons (ps_set (i := 2) nd rfl (.inl rfl) (pe_lst (pa_cons (LamX.pe_lamcall (k := 7) (T := T) (TT := TTt C WA WC WT) rfl gm gk glk gcode gb scTo rfl (.inl rfl) (told_gives (k := 5) S.R S.RU S.tq fr hG hr) TB rfl tp.mem tp.uq hr (LamX.lamS_by (show LamX.lamSB (defScope (top 29)) _ = true by decide +kernel)) rfl (fun _ _ _ _ _ => rfl) (fun A outer s H E f c' hl => pe_op (op_binL (E := E) (.inl rfl) B1 F1 c1 (passes_call (takes_of rfl rfl rfl rfl) fun _ _ _ _ h => h) (hl.mono (by decide))) (pv 0) (pv 1))) pa_nil)))
      (pss_cons (ps_expr (pe_bm PySem.F.plainAttrs_list PySem.F.slot_list_append PySem.F.type_list_append mt_append (pv 2) (pa_cons (LamX.pe_lamcall (k := 7) (T := T) (TT := TTt C WA WC WT) rfl gm gk glk gcode gb scTo rfl (.inl rfl) (told_gives (k := 5) S.R S.RU S.tq fr hG hr) TB rfl tp.mem tp.uq hr (LamX.lamS_by (show LamX.lamSB (defScope (top 29)) _ = true by decide +kernel)) rfl (fun _ _ _ _ _ => rfl) (fun A outer s H E f c' hl => pe_op (op_binL (E := E) (.inr (.inl rfl)) B2 F2 c2 (passes_call (takes_of rfl rfl rfl rfl) fun _ _ _ _ h => h) (hl.mono (by decide))) (pv 0) (pv 1))) pa_nil)))
      (pss_cons (ps_expr (pe_bm PySem.F.plainAttrs_list PySem.F.slot_list_append PySem.F.type_list_append mt_append (pv 2) (pa_cons (LamX.pe_lamcall (k := 7) (T := T) (TT := TTt C WA WC WT) rfl gm gk glk gcode gb scTo rfl (.inl rfl) (told_gives (k := 5) S.R S.RU S.tq fr hG hr) TB rfl tp.mem tp.uq hr (LamX.lamS_by (show LamX.lamSB (defScope (top 29)) _ = true by decide +kernel)) rfl (fun _ _ _ _ _ => rfl) (fun A outer s H E f c' hl => pe_op (op_binL (E := E) (.inr (.inr (.inl rfl))) B3 F3 c3 (passes_call (takes_of rfl rfl rfl rfl) fun _ _ _ _ h => h) (hl.mono (by decide))) (pv 0) (pv 1))) pa_nil)))
      (pss_cons (ps_expr (pe_bm PySem.F.plainAttrs_list PySem.F.slot_list_append PySem.F.type_list_append mt_append (pv 2) (pa_cons (LamX.pe_lamcall (k := 7) (T := T) (TT := TTt C WA WC WT) rfl gm gk glk gcode gb scTo rfl (.inl rfl) (told_gives (k := 5) S.R S.RU S.tq fr hG hr) TB rfl tp.mem tp.uq hr (LamX.lamS_by (show LamX.lamSB (defScope (top 29)) _ = true by decide +kernel)) rfl (fun _ _ _ _ _ => rfl) (fun A outer s H E f c' hl => pe_op (op_binL (E := E) (.inr (.inr (.inr (.inr rfl)))) B4 F4 c4 (passes_call (takes_of rfl rfl rfl rfl) fun _ _ _ _ h => h) (hl.mono (by decide))) (pv 0) (pv 1))) pa_nil)))
      (pss_cons (ps_expr (pe_bm PySem.F.plainAttrs_list PySem.F.slot_list_append PySem.F.type_list_append mt_append (pv 2) (pa_cons (LamX.pe_lamcall (k := 7) (T := T) (TT := TTt C WA WC WT) rfl gm gk glk gcode gb scTo rfl (.inl rfl) (told_gives (k := 5) S.R S.RU S.tq fr hG hr) TB rfl tp.mem tp.uq hr (LamX.lamS_by (show LamX.lamSB (defScope (top 29)) _ = true by decide +kernel)) rfl (fun _ _ _ _ _ => rfl) (fun A outer s H E f c' hl => pe_op (op_binL (E := E) (.inr (.inr (.inr (.inl rfl)))) B5 F5 c5 (passes_call (takes_of rfl rfl rfl rfl) fun _ _ _ _ h => h) (hl.mono (by decide))) (pv 0) (pv 1))) pa_nil)))
      (pss_cons (ps_expr (pe_bm PySem.F.plainAttrs_list PySem.F.slot_list_append PySem.F.type_list_append mt_append (pv 2) (pa_cons (LamX.pe_lamcall (k := 7) (T := T) (TT := TTt C WA WC WT) rfl gm gk glk gcode gb scTo rfl (.inl rfl) (told_gives (k := 5) S.R S.RU S.tq fr hG hr) TB rfl tp.mem tp.uq hr (LamX.lamS_by (show LamX.lamSB (defScope (top 29)) _ = true by decide +kernel)) rfl (fun _ _ _ _ _ => rfl) (fun A outer s H E f c' hl => pe_meth (E := E) (pv 0) S.cl mO FO (hl.mono (by decide)) bO .nil (passes_call (takes_of rfl rfl rfl rfl) fun _ _ _ _ h => h) (pa_cons (pv 1) pa_nil))) pa_nil)))
      (pss_cons (ps_expr (pe_bm PySem.F.plainAttrs_list PySem.F.slot_list_append PySem.F.type_list_append mt_append (pv 2) (pa_cons (LamX.pe_lamcall (k := 7) (T := T) (TT := TTt C WA WC WT) rfl gm gk glk gcode gb scTo rfl (.inl rfl) (told_gives (k := 5) S.R S.RU S.tq fr hG hr) TB rfl tp.mem tp.uq hr (LamX.lamS_by (show LamX.lamSB (defScope (top 29)) _ = true by decide +kernel)) rfl (fun _ _ _ _ _ => rfl) (fun A outer s H E f c' hl => pe_cmpR (op_XC (E := E) (.inl rfl) S.fo.pl S.fo.lt S.fo.gt (passes_call (takes_of rfl rfl rfl rfl) fun _ _ _ _ h => h) (hl.mono (by decide))) (pv 0) (pv 1) (nomark _))) pa_nil)))
      (pss_cons (ps_expr (pe_bm PySem.F.plainAttrs_list PySem.F.slot_list_append PySem.F.type_list_append mt_append (pv 2) (pa_cons (LamX.pe_lamcall (k := 7) (T := T) (TT := TTt C WA WC WT) rfl gm gk glk gcode gb scTo rfl (.inl rfl) (told_gives (k := 5) S.R S.RU S.tq fr hG hr) TB rfl tp.mem tp.uq hr (LamX.lamS_by (show LamX.lamSB (defScope (top 29)) _ = true by decide +kernel)) rfl (fun _ _ _ _ _ => rfl) (fun A outer s H E f c' hl => pe_cmpR (op_XC (E := E) (.inr (.inl rfl)) S.fo.pl S.fo.le S.fo.ge (passes_call (takes_of rfl rfl rfl rfl) fun _ _ _ _ h => h) (hl.mono (by decide))) (pv 0) (pv 1) (nomark _))) pa_nil)))
      (pss_cons (ps_expr (pe_bm PySem.F.plainAttrs_list PySem.F.slot_list_append PySem.F.type_list_append mt_append (pv 2) (pa_cons (LamX.pe_lamcall (k := 7) (T := T) (TT := TTt C WA WC WT) rfl gm gk glk gcode gb scTo rfl (.inl rfl) (told_gives (k := 5) S.R S.RU S.tq fr hG hr) TB rfl tp.mem tp.uq hr (LamX.lamS_by (show LamX.lamSB (defScope (top 29)) _ = true by decide +kernel)) rfl (fun _ _ _ _ _ => rfl) (fun A outer s H E f c' hl => pe_cmpR (op_XC (E := E) (.inr (.inr (.inl rfl))) S.fo.pl S.fo.gt S.fo.lt (passes_call (takes_of rfl rfl rfl rfl) fun _ _ _ _ h => h) (hl.mono (by decide))) (pv 0) (pv 1) (nomark _))) pa_nil)))
      (pss_cons (ps_expr (pe_bm PySem.F.plainAttrs_list PySem.F.slot_list_append PySem.F.type_list_append mt_append (pv 2) (pa_cons (LamX.pe_lamcall (k := 7) (T := T) (TT := TTt C WA WC WT) rfl gm gk glk gcode gb scTo rfl (.inl rfl) (told_gives (k := 5) S.R S.RU S.tq fr hG hr) TB rfl tp.mem tp.uq hr (LamX.lamS_by (show LamX.lamSB (defScope (top 29)) _ = true by decide +kernel)) rfl (fun _ _ _ _ _ => rfl) (fun A outer s H E f c' hl => pe_cmpR (op_XC (E := E) (.inr (.inr (.inr rfl))) S.fo.pl S.fo.ge S.fo.le (passes_call (takes_of rfl rfl rfl rfl) fun _ _ _ _ h => h) (hl.mono (by decide))) (pv 0) (pv 1) (nomark _))) pa_nil)))
      (pss_one (ps_ret (pe_cmpR (op_eqD hr.units) (pv 2) (pe_op op_rep (pe_lst (pa_cons (pe_lst (pa_cons pe_str (pa_cons (pe_callB (call_repr hG hr) rfl (fr.h _ (by decide +kernel)) (by decide +kernel) (pa_cons (pv 1) pa_nil)) (pa_cons pe_bl pa_nil)))) pa_nil)) pe_int) (nomark _))))))))))))), ?_⟩
    obtain ⟨xl, xk, _, as, n, n40, rp⟩ := id ov
    have big : (200000 : Nat) ≤ sizeLine := by decide
    have x6 : x.length ≤ sizeLine := by omega
    refine ⟨hT, fun H3 n3 T3 => told_amt (ov.xn n3) (fun L hL E Q' rf => (fun nn : LamX.ExtN H (upd H3 L (.lst [.str "none"])) => (let ⟨T', b, m1⟩ := (ov.xn nn).bt; let ⟨dx, ea⟩ := is_xn ia nn; ⟨_, rfl, _, rfl, a, dx, _, T', rfl, ea, b, a, v, q, rfl, ⟨dx, ea⟩, (ov.xn nn).odd, rf⟩)) (n3.trans (LamX.ExtN.of (Am.Ext.new hL)))) fun R H4 e4 hR => ⟨(by show 1 ≤ sizeLine; decide), fun D hD => ?_⟩⟩
    have W : Rows D (row "amount" x) 1 T H (upd (upd H4 R (.lst [V.str "amount", .str x, .bl true])) D (.lst [V.ref R])) := Rows.first (rw := row "amount" x) n3 T3 e4 hR hD
    obtain ⟨rs, hD5, ln5, al5⟩ := id W.ex
    refine ⟨_, rfl, tyL hD5, W.t, fun H6 n6 T6 => told_amt (ov.xn (W.k.trans n6)) (fun L hL E Q' rf => (fun nn : LamX.ExtN H (upd H6 L (.lst [.str "none"])) => (let ⟨T', b, m1⟩ := (ov.xn nn).bt; let ⟨dx, ea⟩ := is_xn ia nn; ⟨_, rfl, _, rfl, a, dx, _, T', rfl, ea, b, a, v, q, rfl, ⟨dx, ea⟩, (ov.xn nn).odd, rf⟩)) ((W.k.trans n6).trans (LamX.ExtN.of (Am.Ext.new hL)))) fun R H7 e7 hR => ?_⟩
    obtain ⟨xs, d7, l7, W7⟩ := W.step n6 T6 e7 hR
    replace d7 : (upd H7 R (.lst [V.str "amount", .str x, .bl true])) D = some (.lst xs) := d7
    replace W7 : Rows D (row "amount" x) _ T H (upd (upd H7 R (.lst [V.str "amount", .str x, .bl true])) D (.lst (xs ++ [V.ref R]))) := W7
    refine ⟨D, _, _, rfl, rfl, d7, (by omega), ?_⟩
    replace W := W7
    clear W7
    obtain ⟨rs, hD5, ln5, al5⟩ := id W.ex
    refine ⟨_, rfl, tyL hD5, W.t, fun H6 n6 T6 => told_amt (ov.xn (W.k.trans n6)) (fun L hL E Q' rf => (fun nn : LamX.ExtN H (upd H6 L (.lst [.str "none"])) => (let ⟨T', b, m1⟩ := (ov.xn nn).bt; let ⟨dx, ea⟩ := is_xn ia nn; ⟨_, rfl, _, rfl, a, dx, _, T', rfl, ea, b, a, v, q, rfl, ⟨dx, ea⟩, (ov.xn nn).odd, rf⟩)) ((W.k.trans n6).trans (LamX.ExtN.of (Am.Ext.new hL)))) fun R H7 e7 hR => ?_⟩
    obtain ⟨xs, d7, l7, W7⟩ := W.step n6 T6 e7 hR
    replace d7 : (upd H7 R (.lst [V.str "amount", .str x, .bl true])) D = some (.lst xs) := d7
    replace W7 : Rows D (row "amount" x) _ T H (upd (upd H7 R (.lst [V.str "amount", .str x, .bl true])) D (.lst (xs ++ [V.ref R]))) := W7
    refine ⟨D, _, _, rfl, rfl, d7, (by omega), ?_⟩
    replace W := W7
    clear W7
    obtain ⟨rs, hD5, ln5, al5⟩ := id W.ex
    refine ⟨_, rfl, tyL hD5, W.t, fun H6 n6 T6 => told_amt (ov.xn (W.k.trans n6)) (fun L hL E Q' rf => (fun nn : LamX.ExtN H (upd H6 L (.lst [.str "none"])) => (let ⟨T', b, m1⟩ := (ov.xn nn).bt; let ⟨dx, ea⟩ := is_xn ia nn; ⟨_, rfl, _, rfl, a, dx, _, T', rfl, ea, b, a, v, q, rfl, ⟨dx, ea⟩, (ov.xn nn).odd, rf⟩)) ((W.k.trans n6).trans (LamX.ExtN.of (Am.Ext.new hL)))) fun R H7 e7 hR => ?_⟩
    obtain ⟨xs, d7, l7, W7⟩ := W.step n6 T6 e7 hR
    replace d7 : (upd H7 R (.lst [V.str "amount", .str x, .bl true])) D = some (.lst xs) := d7
    replace W7 : Rows D (row "amount" x) _ T H (upd (upd H7 R (.lst [V.str "amount", .str x, .bl true])) D (.lst (xs ++ [V.ref R]))) := W7
    refine ⟨D, _, _, rfl, rfl, d7, (by omega), ?_⟩
    replace W := W7
    clear W7
    obtain ⟨rs, hD5, ln5, al5⟩ := id W.ex
    refine ⟨_, rfl, tyL hD5, W.t, fun H6 n6 T6 => told_amt (ov.xn (W.k.trans n6)) (fun L hL E Q' rf => (fun nn : LamX.ExtN H (upd H6 L (.lst [.str "none"])) => (let ⟨T', b, m1⟩ := (ov.xn nn).bt; let ⟨dx, ea⟩ := is_xn ia nn; ⟨_, rfl, _, rfl, a, dx, _, T', rfl, ea, b, a, v, q, rfl, ⟨dx, ea⟩, (ov.xn nn).odd, rf⟩)) ((W.k.trans n6).trans (LamX.ExtN.of (Am.Ext.new hL)))) fun R H7 e7 hR => ?_⟩
    obtain ⟨xs, d7, l7, W7⟩ := W.step n6 T6 e7 hR
    replace d7 : (upd H7 R (.lst [V.str "amount", .str x, .bl true])) D = some (.lst xs) := d7
    replace W7 : Rows D (row "amount" x) _ T H (upd (upd H7 R (.lst [V.str "amount", .str x, .bl true])) D (.lst (xs ++ [V.ref R]))) := W7
    refine ⟨D, _, _, rfl, rfl, d7, (by omega), ?_⟩
    replace W := W7
    clear W7
    obtain ⟨rs, hD5, ln5, al5⟩ := id W.ex
    refine ⟨_, rfl, tyL hD5, W.t, fun H6 n6 T6 => told_amt (ov.xn (W.k.trans n6)) (fun L hL E Q' rf => (fun nn : LamX.ExtN H (upd H6 L (.lst [.str "none"])) => (let ⟨dx, ea⟩ := is_xn ia nn; ⟨_, rfl, a, dx, _, rfl, ea, no_over q, _, rfl, a, v, q, rfl, ⟨dx, ea⟩, (ov.xn nn).odd, rf⟩)) ((W.k.trans n6).trans (LamX.ExtN.of (Am.Ext.new hL)))) fun R H7 e7 hR => ?_⟩
    obtain ⟨xs, d7, l7, W7⟩ := W.step n6 T6 e7 hR
    replace d7 : (upd H7 R (.lst [V.str "amount", .str x, .bl true])) D = some (.lst xs) := d7
    replace W7 : Rows D (row "amount" x) _ T H (upd (upd H7 R (.lst [V.str "amount", .str x, .bl true])) D (.lst (xs ++ [V.ref R]))) := W7
    refine ⟨D, _, _, rfl, rfl, d7, (by omega), ?_⟩
    replace W := W7
    clear W7
    obtain ⟨rs, hD5, ln5, al5⟩ := id W.ex
    refine ⟨_, rfl, tyL hD5, W.t, fun H6 n6 T6 => told_amt (ov.xn (W.k.trans n6)) (fun L hL E Q' rf => (fun nn : LamX.ExtN H (upd H6 L (.lst [.str "none"])) => ⟨_, rfl, _, rfl, .inl ⟨a, q, rfl, is_xn ia nn, (ov.xn nn).odd, rf⟩⟩) ((W.k.trans n6).trans (LamX.ExtN.of (Am.Ext.new hL)))) fun R H7 e7 hR => ?_⟩
    obtain ⟨xs, d7, l7, W7⟩ := W.step n6 T6 e7 hR
    replace d7 : (upd H7 R (.lst [V.str "amount", .str x, .bl true])) D = some (.lst xs) := d7
    replace W7 : Rows D (row "amount" x) _ T H (upd (upd H7 R (.lst [V.str "amount", .str x, .bl true])) D (.lst (xs ++ [V.ref R]))) := W7
    refine ⟨D, _, _, rfl, rfl, d7, (by omega), ?_⟩
    replace W := W7
    clear W7
    obtain ⟨rs, hD5, ln5, al5⟩ := id W.ex
    refine ⟨_, rfl, tyL hD5, W.t, fun H6 n6 T6 => told_amt (ov.xn (W.k.trans n6)) (fun L hL E Q' rf => (fun nn : LamX.ExtN H (upd H6 L (.lst [.str "none"])) => ⟨_, rfl, _, rfl, .inl ⟨a, q, rfl, is_xn ia nn, (ov.xn nn).odd, rf⟩⟩) ((W.k.trans n6).trans (LamX.ExtN.of (Am.Ext.new hL)))) fun R H7 e7 hR => ?_⟩
    obtain ⟨xs, d7, l7, W7⟩ := W.step n6 T6 e7 hR
    replace d7 : (upd H7 R (.lst [V.str "amount", .str x, .bl true])) D = some (.lst xs) := d7
    replace W7 : Rows D (row "amount" x) _ T H (upd (upd H7 R (.lst [V.str "amount", .str x, .bl true])) D (.lst (xs ++ [V.ref R]))) := W7
    refine ⟨D, _, _, rfl, rfl, d7, (by omega), ?_⟩
    replace W := W7
    clear W7
    obtain ⟨rs, hD5, ln5, al5⟩ := id W.ex
    refine ⟨_, rfl, tyL hD5, W.t, fun H6 n6 T6 => told_amt (ov.xn (W.k.trans n6)) (fun L hL E Q' rf => (fun nn : LamX.ExtN H (upd H6 L (.lst [.str "none"])) => ⟨_, rfl, _, rfl, .inl ⟨a, q, rfl, is_xn ia nn, (ov.xn nn).odd, rf⟩⟩) ((W.k.trans n6).trans (LamX.ExtN.of (Am.Ext.new hL)))) fun R H7 e7 hR => ?_⟩
    obtain ⟨xs, d7, l7, W7⟩ := W.step n6 T6 e7 hR
    replace d7 : (upd H7 R (.lst [V.str "amount", .str x, .bl true])) D = some (.lst xs) := d7
    replace W7 : Rows D (row "amount" x) _ T H (upd (upd H7 R (.lst [V.str "amount", .str x, .bl true])) D (.lst (xs ++ [V.ref R]))) := W7
    refine ⟨D, _, _, rfl, rfl, d7, (by omega), ?_⟩
    replace W := W7
    clear W7
    obtain ⟨rs, hD5, ln5, al5⟩ := id W.ex
    refine ⟨_, rfl, tyL hD5, W.t, fun H6 n6 T6 => told_amt (ov.xn (W.k.trans n6)) (fun L hL E Q' rf => (fun nn : LamX.ExtN H (upd H6 L (.lst [.str "none"])) => ⟨_, rfl, _, rfl, .inl ⟨a, q, rfl, is_xn ia nn, (ov.xn nn).odd, rf⟩⟩) ((W.k.trans n6).trans (LamX.ExtN.of (Am.Ext.new hL)))) fun R H7 e7 hR => ?_⟩
    obtain ⟨xs, d7, l7, W7⟩ := W.step n6 T6 e7 hR
    replace d7 : (upd H7 R (.lst [V.str "amount", .str x, .bl true])) D = some (.lst xs) := d7
    replace W7 : Rows D (row "amount" x) _ T H (upd (upd H7 R (.lst [V.str "amount", .str x, .bl true])) D (.lst (xs ++ [V.ref R]))) := W7
    refine ⟨D, _, _, rfl, rfl, d7, (by omega), ?_⟩
    replace W := W7
    clear W7
    refine ⟨_, rfl, _, rfl, v, as, n, x, rfl, rp _ W.k, n40, x6, (by show 3 ≤ sizeLine; decide), fun M hM => ⟨(by show 1 ≤ sizeLine; decide), fun M2 hM2 => ⟨M2, 10, _, rfl, rfl, upd_same, by decide, by decide, (by show 10 ≤ sizeLine; decide), fun N hN => ?_⟩⟩⟩
    have eN := ((Am.Ext.new (o := .lst [V.str "amount", .str x, .bl true]) hM).trans (Am.Ext.new (o := .lst [V.ref M]) hM2)).trans (Am.Ext.new (o := .lst (List.replicate 10 [V.ref M]).flatten) hN)
    exact rows_eqd W eN (sok_of _) xk (Am.Ext.new hN _ _ (Am.Ext.new hM2 _ _ upd_same)) upd_same (z _ (W.k.trans (LamX.ExtN.of eN)) (W.t.ext eN))
end
end KC

set_option Elab.async false
set_option linter.all false
set_option maxRecDepth 100000
set_option maxHeartbeats 4000000
set_option exponentiation.threshold 20000
namespace KC
open PySem PySem.Spec PyProof.Rows L2 Oo Gd Am KA
section
variable {P : Program} {w : World} {K : W.Frag} {mg : Str → Option Value} {base : Heap} {f C WA WC WT ZF c p : Addr} {fd : FuncData} {T : List (Addr × Str)}
abbrev nRg : List Str := ["_law_made", "_law_odd_here", "_law_told_here"]
theorem scRg : FnScope nRg ["_law_made", "_law_odd_here"] (defScope (top 30)) := ⟨rfl, rfl, rfl, by decide +kernel, rfl, by decide +kernel, by decide +kernel⟩
theorem ok_Rg (S : Lr P w K mg base C WA WC WT ZF) (TB : LamX.TabB base mg c p) (tp : Tq1 T p "_law_right_right.<locals>.<lambda>") (F : FunC K "_law_right_right" "_law_right_right" (top 30) f c fd) : FnG P w K mg base CX0 10 f fd ["_law_made", "_law_odd_here"] (spLr C T) := by
  refine okGc F scRg (fun vs H Q E h => ?_) (fun A outer s H vs Q E hG hr h => ?_)
  · obtain ⟨a, q, v, x, rfl, _⟩ := h
    rfl
  · obtain ⟨a, q, v, x, rfl, ia, ov, hT, z⟩ := h
    have nd := scRg.nd
    have fr := S.fr
    obtain ⟨g, gd, RF, gm, gb⟩ := S.tol.of
    have gk := RF.kp
    obtain ⟨goc, god, gkV, gdoc, gpm, gan, gcdv, gct, gosl, rfl, glk, gcode⟩ := RF.ex
    obtain ⟨f1, g1, fd1, ps1, gd1, qs1, B1, F1, c1, G1, e1⟩ := S.b1.of
    obtain ⟨f2, g2, fd2, ps2, gd2, qs2, B2, F2, c2, G2, e2⟩ := S.b2.of
    obtain ⟨f3, g3, fd3, ps3, gd3, qs3, B3, F3, c3, G3, e3⟩ := S.b3.of
    obtain ⟨f4, g4, fd4, ps4, gd4, qs4, B4, F4, c4, G4, e4⟩ := S.b4.of
    obtain ⟨f5, g5, fd5, ps5, gd5, qs5, B5, F5, c5, G5, e5⟩ := S.b5.of
    obtain ⟨fO, fdO, mO, FO, bO⟩ := S.ov.of
    refine ⟨_, pss_cons (ps_set (i := 2) nd rfl (.inl rfl) (pe_lst (pa_cons (LamX.pe_lamcall (k := 7) (T := T) (TT := TTt C WA WC WT) rfl gm gk glk gcode gb scTo rfl (.inl rfl) (told_gives (k := 5) S.R S.RU S.tq fr hG hr) TB rfl tp.mem tp.uq hr (LamX.lamS_by (show LamX.lamSB (defScope (top 30)) _ = true by decide +kernel)) rfl (fun _ _ _ _ _ => rfl) (fun A outer s H E f c' hl => pe_op (op_binR (E := E) (.inl rfl) B1 G1 e1 S.fo.pl (passes_call (takes_of rfl rfl rfl rfl) fun _ _ _ _ h => h) (hl.mono (by decide))) (pv 1) (pv 0))) pa_nil)))
      (pss_cons (ps_expr (pe_bm PySem.F.plainAttrs_list PySem.F.slot_list_append PySem.F.type_list_append mt_append (pv 2) (pa_cons (LamX.pe_lamcall (k := 7) (T := T) (TT := TTt C WA WC WT) rfl gm gk glk gcode gb scTo rfl (.inl rfl) (told_gives (k := 5) S.R S.RU S.tq fr hG hr) TB rfl tp.mem tp.uq hr (LamX.lamS_by (show LamX.lamSB (defScope (top 30)) _ = true by decide +kernel)) rfl (fun _ _ _ _ _ => rfl) (fun A outer s H E f c' hl => pe_op (op_binR (E := E) (.inr (.inl rfl)) B2 G2 e2 S.fo.pl (passes_call (takes_of rfl rfl rfl rfl) fun _ _ _ _ h => h) (hl.mono (by decide))) (pv 1) (pv 0))) pa_nil)))
      (pss_cons (ps_expr (pe_bm PySem.F.plainAttrs_list PySem.F.slot_list_append PySem.F.type_list_append mt_append (pv 2) (pa_cons (LamX.pe_lamcall (k := 7) (T := T) (TT := TTt C WA WC WT) rfl gm gk glk gcode gb scTo rfl (.inl rfl) (told_gives (k := 5) S.R S.RU S.tq fr hG hr) TB rfl tp.mem tp.uq hr (LamX.lamS_by (show LamX.lamSB (defScope (top 30)) _ = true by decide +kernel)) rfl (fun _ _ _ _ _ => rfl) (fun A outer s H E f c' hl => pe_op (op_binR (E := E) (.inr (.inr (.inl rfl))) B3 G3 e3 S.fo.pl (passes_call (takes_of rfl rfl rfl rfl) fun _ _ _ _ h => h) (hl.mono (by decide))) (pv 1) (pv 0))) pa_nil)))
      (pss_cons (ps_expr (pe_bm PySem.F.plainAttrs_list PySem.F.slot_list_append PySem.F.type_list_append mt_append (pv 2) (pa_cons (LamX.pe_lamcall (k := 7) (T := T) (TT := TTt C WA WC WT) rfl gm gk glk gcode gb scTo rfl (.inl rfl) (told_gives (k := 5) S.R S.RU S.tq fr hG hr) TB rfl tp.mem tp.uq hr (LamX.lamS_by (show LamX.lamSB (defScope (top 30)) _ = true by decide +kernel)) rfl (fun _ _ _ _ _ => rfl) (fun A outer s H E f c' hl => pe_op (op_binR (E := E) (.inr (.inr (.inr (.inr rfl)))) B4 G4 e4 S.fo.pl (passes_call (takes_of rfl rfl rfl rfl) fun _ _ _ _ h => h) (hl.mono (by decide))) (pv 1) (pv 0))) pa_nil)))
      (pss_cons (ps_expr (pe_bm PySem.F.plainAttrs_list PySem.F.slot_list_append PySem.F.type_list_append mt_append (pv 2) (pa_cons (LamX.pe_lamcall (k := 7) (T := T) (TT := TTt C WA WC WT) rfl gm gk glk gcode gb scTo rfl (.inl rfl) (told_gives (k := 5) S.R S.RU S.tq fr hG hr) TB rfl tp.mem tp.uq hr (LamX.lamS_by (show LamX.lamSB (defScope (top 30)) _ = true by decide +kernel)) rfl (fun _ _ _ _ _ => rfl) (fun A outer s H E f c' hl => pe_cmpR (op_XC (E := E) (.inl rfl) S.fo.pl S.fo.lt S.fo.gt (passes_call (takes_of rfl rfl rfl rfl) fun _ _ _ _ h => h) (hl.mono (by decide))) (pv 1) (pv 0) (nomark _))) pa_nil)))
      (pss_cons (ps_expr (pe_bm PySem.F.plainAttrs_list PySem.F.slot_list_append PySem.F.type_list_append mt_append (pv 2) (pa_cons (LamX.pe_lamcall (k := 7) (T := T) (TT := TTt C WA WC WT) rfl gm gk glk gcode gb scTo rfl (.inl rfl) (told_gives (k := 5) S.R S.RU S.tq fr hG hr) TB rfl tp.mem tp.uq hr (LamX.lamS_by (show LamX.lamSB (defScope (top 30)) _ = true by decide +kernel)) rfl (fun _ _ _ _ _ => rfl) (fun A outer s H E f c' hl => pe_cmpR (op_XC (E := E) (.inr (.inl rfl)) S.fo.pl S.fo.le S.fo.ge (passes_call (takes_of rfl rfl rfl rfl) fun _ _ _ _ h => h) (hl.mono (by decide))) (pv 1) (pv 0) (nomark _))) pa_nil)))
      (pss_cons (ps_expr (pe_bm PySem.F.plainAttrs_list PySem.F.slot_list_append PySem.F.type_list_append mt_append (pv 2) (pa_cons (LamX.pe_lamcall (k := 7) (T := T) (TT := TTt C WA WC WT) rfl gm gk glk gcode gb scTo rfl (.inl rfl) (told_gives (k := 5) S.R S.RU S.tq fr hG hr) TB rfl tp.mem tp.uq hr (LamX.lamS_by (show LamX.lamSB (defScope (top 30)) _ = true by decide +kernel)) rfl (fun _ _ _ _ _ => rfl) (fun A outer s H E f c' hl => pe_cmpR (op_XC (E := E) (.inr (.inr (.inl rfl))) S.fo.pl S.fo.gt S.fo.lt (passes_call (takes_of rfl rfl rfl rfl) fun _ _ _ _ h => h) (hl.mono (by decide))) (pv 1) (pv 0) (nomark _))) pa_nil)))
      (pss_cons (ps_expr (pe_bm PySem.F.plainAttrs_list PySem.F.slot_list_append PySem.F.type_list_append mt_append (pv 2) (pa_cons (LamX.pe_lamcall (k := 7) (T := T) (TT := TTt C WA WC WT) rfl gm gk glk gcode gb scTo rfl (.inl rfl) (told_gives (k := 5) S.R S.RU S.tq fr hG hr) TB rfl tp.mem tp.uq hr (LamX.lamS_by (show LamX.lamSB (defScope (top 30)) _ = true by decide +kernel)) rfl (fun _ _ _ _ _ => rfl) (fun A outer s H E f c' hl => pe_cmpR (op_XC (E := E) (.inr (.inr (.inr rfl))) S.fo.pl S.fo.ge S.fo.le (passes_call (takes_of rfl rfl rfl rfl) fun _ _ _ _ h => h) (hl.mono (by decide))) (pv 1) (pv 0) (nomark _))) pa_nil)))
      (C8.pss_cut (ps_if (pt_not (pt_val (pe_callB call_isi rfl (fr.h _ (by decide +kernel)) (by decide +kernel) (pa_cons (pv 1) (pa_cons (pe_bltn (v := V.ty "str") rfl (fr.h _ (by decide +kernel)) (by rfl) rfl) pa_nil))))) (pss_one (ps_expr (pe_bm PySem.F.plainAttrs_list PySem.F.slot_list_append PySem.F.type_list_append mt_append (pv 2) (pa_cons (LamX.pe_lamcall (k := 7) (T := T) (TT := TTt C WA WC WT) rfl gm gk glk gcode gb scTo rfl (.inl rfl) (told_gives (k := 5) S.R S.RU S.tq fr hG hr) TB rfl tp.mem tp.uq hr (LamX.lamS_by (show LamX.lamSB (defScope (top 30)) _ = true by decide +kernel)) rfl (fun _ _ _ _ _ => rfl) (fun A outer s H E f c' hl => pe_op (op_binR (E := E) (.inr (.inr (.inr (.inl rfl)))) B5 G5 e5 S.fo.pl (passes_call (takes_of rfl rfl rfl rfl) fun _ _ _ _ h => h) (hl.mono (by decide))) (pv 1) (pv 0))) pa_nil)))) pss_nil)
      (pss_one (ps_ret (pe_cmpR (op_eqD hr.units) (pv 2) (pe_op op_rep (pe_lst (pa_cons (pe_lst (pa_cons pe_str (pa_cons (pe_callB (call_repr hG hr) rfl (fr.h _ (by decide +kernel)) (by decide +kernel) (pa_cons (pv 1) pa_nil)) (pa_cons pe_bl pa_nil)))) pa_nil)) (pe_callB call_len_seq rfl (fr.h _ (by decide +kernel)) (by decide +kernel) (pa_cons (pv 2) pa_nil))) (nomark _)))))))))))), ?_⟩
    obtain ⟨xl, xk, _, as, n, n40, rp⟩ := id ov
    have big : (200000 : Nat) ≤ sizeLine := by decide
    have x6 : x.length ≤ sizeLine := by omega
    refine ⟨hT, fun H3 n3 T3 => told_amt (ov.xn n3) (fun L hL E Q' rf => (fun nn : LamX.ExtN H (upd H3 L (.lst [.str "none"])) => (let ⟨T', b, m1⟩ := (ov.xn nn).bt; let ⟨dx, ea⟩ := is_xn ia nn; ⟨_, rfl, _, rfl, a, dx, _, T', rfl, ea, b, (fun _ => by decide), a, v, q, rfl, ⟨dx, ea⟩, (ov.xn nn).odd, rf⟩)) (n3.trans (LamX.ExtN.of (Am.Ext.new hL)))) fun R H4 e4 hR => ⟨(by show 1 ≤ sizeLine; decide), fun D hD => ?_⟩⟩
    have W : Rows D (row "amount" x) 1 T H (upd (upd H4 R (.lst [V.str "amount", .str x, .bl true])) D (.lst [V.ref R])) := Rows.first (rw := row "amount" x) n3 T3 e4 hR hD
    obtain ⟨rs, hD5, ln5, al5⟩ := id W.ex
    refine ⟨_, rfl, tyL hD5, W.t, fun H6 n6 T6 => told_amt (ov.xn (W.k.trans n6)) (fun L hL E Q' rf => (fun nn : LamX.ExtN H (upd H6 L (.lst [.str "none"])) => (let ⟨T', b, m1⟩ := (ov.xn nn).bt; let ⟨dx, ea⟩ := is_xn ia nn; ⟨_, rfl, _, rfl, a, dx, _, T', rfl, ea, b, (fun _ => by decide), a, v, q, rfl, ⟨dx, ea⟩, (ov.xn nn).odd, rf⟩)) ((W.k.trans n6).trans (LamX.ExtN.of (Am.Ext.new hL)))) fun R H7 e7 hR => ?_⟩
    obtain ⟨xs, d7, l7, W7⟩ := W.step n6 T6 e7 hR
    replace d7 : (upd H7 R (.lst [V.str "amount", .str x, .bl true])) D = some (.lst xs) := d7
    replace W7 : Rows D (row "amount" x) _ T H (upd (upd H7 R (.lst [V.str "amount", .str x, .bl true])) D (.lst (xs ++ [V.ref R]))) := W7
    refine ⟨D, _, _, rfl, rfl, d7, (by omega), ?_⟩
    replace W := W7
    clear W7
    obtain ⟨rs, hD5, ln5, al5⟩ := id W.ex
    refine ⟨_, rfl, tyL hD5, W.t, fun H6 n6 T6 => told_amt (ov.xn (W.k.trans n6)) (fun L hL E Q' rf => (fun nn : LamX.ExtN H (upd H6 L (.lst [.str "none"])) => (let ⟨T', b, m1⟩ := (ov.xn nn).bt; let ⟨dx, ea⟩ := is_xn ia nn; ⟨_, rfl, _, rfl, a, dx, _, T', rfl, ea, b, (fun _ => by decide), a, v, q, rfl, ⟨dx, ea⟩, (ov.xn nn).odd, rf⟩)) ((W.k.trans n6).trans (LamX.ExtN.of (Am.Ext.new hL)))) fun R H7 e7 hR => ?_⟩
    obtain ⟨xs, d7, l7, W7⟩ := W.step n6 T6 e7 hR
    replace d7 : (upd H7 R (.lst [V.str "amount", .str x, .bl true])) D = some (.lst xs) := d7
    replace W7 : Rows D (row "amount" x) _ T H (upd (upd H7 R (.lst [V.str "amount", .str x, .bl true])) D (.lst (xs ++ [V.ref R]))) := W7
    refine ⟨D, _, _, rfl, rfl, d7, (by omega), ?_⟩
    replace W := W7
    clear W7
    obtain ⟨rs, hD5, ln5, al5⟩ := id W.ex
    refine ⟨_, rfl, tyL hD5, W.t, fun H6 n6 T6 => told_amt (ov.xn (W.k.trans n6)) (fun L hL E Q' rf => (fun nn : LamX.ExtN H (upd H6 L (.lst [.str "none"])) => (let ⟨T', b, m1⟩ := (ov.xn nn).bt; let ⟨dx, ea⟩ := is_xn ia nn; ⟨_, rfl, _, rfl, a, dx, _, T', rfl, ea, b, (fun _ => by decide), a, v, q, rfl, ⟨dx, ea⟩, (ov.xn nn).odd, rf⟩)) ((W.k.trans n6).trans (LamX.ExtN.of (Am.Ext.new hL)))) fun R H7 e7 hR => ?_⟩
    obtain ⟨xs, d7, l7, W7⟩ := W.step n6 T6 e7 hR
    replace d7 : (upd H7 R (.lst [V.str "amount", .str x, .bl true])) D = some (.lst xs) := d7
    replace W7 : Rows D (row "amount" x) _ T H (upd (upd H7 R (.lst [V.str "amount", .str x, .bl true])) D (.lst (xs ++ [V.ref R]))) := W7
    refine ⟨D, _, _, rfl, rfl, d7, (by omega), ?_⟩
    replace W := W7
    clear W7
    obtain ⟨rs, hD5, ln5, al5⟩ := id W.ex
    refine ⟨_, rfl, tyL hD5, W.t, fun H6 n6 T6 => told_amt (ov.xn (W.k.trans n6)) (fun L hL E Q' rf => (fun nn : LamX.ExtN H (upd H6 L (.lst [.str "none"])) => (let ⟨T', b, m1⟩ := (ov.xn nn).bt; ⟨_, rfl, _, rfl, .inr ⟨a, q, T', rfl, is_xn ia nn, b, m1, rf⟩⟩)) ((W.k.trans n6).trans (LamX.ExtN.of (Am.Ext.new hL)))) fun R H7 e7 hR => ?_⟩
    obtain ⟨xs, d7, l7, W7⟩ := W.step n6 T6 e7 hR
    replace d7 : (upd H7 R (.lst [V.str "amount", .str x, .bl true])) D = some (.lst xs) := d7
    replace W7 : Rows D (row "amount" x) _ T H (upd (upd H7 R (.lst [V.str "amount", .str x, .bl true])) D (.lst (xs ++ [V.ref R]))) := W7
    refine ⟨D, _, _, rfl, rfl, d7, (by omega), ?_⟩
    replace W := W7
    clear W7
    obtain ⟨rs, hD5, ln5, al5⟩ := id W.ex
    refine ⟨_, rfl, tyL hD5, W.t, fun H6 n6 T6 => told_amt (ov.xn (W.k.trans n6)) (fun L hL E Q' rf => (fun nn : LamX.ExtN H (upd H6 L (.lst [.str "none"])) => (let ⟨T', b, m1⟩ := (ov.xn nn).bt; ⟨_, rfl, _, rfl, .inr ⟨a, q, T', rfl, is_xn ia nn, b, m1, rf⟩⟩)) ((W.k.trans n6).trans (LamX.ExtN.of (Am.Ext.new hL)))) fun R H7 e7 hR => ?_⟩
    obtain ⟨xs, d7, l7, W7⟩ := W.step n6 T6 e7 hR
    replace d7 : (upd H7 R (.lst [V.str "amount", .str x, .bl true])) D = some (.lst xs) := d7
    replace W7 : Rows D (row "amount" x) _ T H (upd (upd H7 R (.lst [V.str "amount", .str x, .bl true])) D (.lst (xs ++ [V.ref R]))) := W7
    refine ⟨D, _, _, rfl, rfl, d7, (by omega), ?_⟩
    replace W := W7
    clear W7
    obtain ⟨rs, hD5, ln5, al5⟩ := id W.ex
    refine ⟨_, rfl, tyL hD5, W.t, fun H6 n6 T6 => told_amt (ov.xn (W.k.trans n6)) (fun L hL E Q' rf => (fun nn : LamX.ExtN H (upd H6 L (.lst [.str "none"])) => (let ⟨T', b, m1⟩ := (ov.xn nn).bt; ⟨_, rfl, _, rfl, .inr ⟨a, q, T', rfl, is_xn ia nn, b, m1, rf⟩⟩)) ((W.k.trans n6).trans (LamX.ExtN.of (Am.Ext.new hL)))) fun R H7 e7 hR => ?_⟩
    obtain ⟨xs, d7, l7, W7⟩ := W.step n6 T6 e7 hR
    replace d7 : (upd H7 R (.lst [V.str "amount", .str x, .bl true])) D = some (.lst xs) := d7
    replace W7 : Rows D (row "amount" x) _ T H (upd (upd H7 R (.lst [V.str "amount", .str x, .bl true])) D (.lst (xs ++ [V.ref R]))) := W7
    refine ⟨D, _, _, rfl, rfl, d7, (by omega), ?_⟩
    replace W := W7
    clear W7
    obtain ⟨rs, hD5, ln5, al5⟩ := id W.ex
    refine ⟨_, rfl, tyL hD5, W.t, fun H6 n6 T6 => told_amt (ov.xn (W.k.trans n6)) (fun L hL E Q' rf => (fun nn : LamX.ExtN H (upd H6 L (.lst [.str "none"])) => (let ⟨T', b, m1⟩ := (ov.xn nn).bt; ⟨_, rfl, _, rfl, .inr ⟨a, q, T', rfl, is_xn ia nn, b, m1, rf⟩⟩)) ((W.k.trans n6).trans (LamX.ExtN.of (Am.Ext.new hL)))) fun R H7 e7 hR => ?_⟩
    obtain ⟨xs, d7, l7, W7⟩ := W.step n6 T6 e7 hR
    replace d7 : (upd H7 R (.lst [V.str "amount", .str x, .bl true])) D = some (.lst xs) := d7
    replace W7 : Rows D (row "amount" x) _ T H (upd (upd H7 R (.lst [V.str "amount", .str x, .bl true])) D (.lst (xs ++ [V.ref R]))) := W7
    refine ⟨D, _, _, rfl, rfl, d7, (by omega), ?_⟩
    replace W := W7
    clear W7
    have kst : ∀ {T' : String}, T' ∈ seven → PySem.W.kitOne K (.type T') (.type "str") = some (decide (T' = "str")) := fun {T'} hm => by
      simp only [seven, List.mem_cons, List.not_mem_nil, or_false] at hm
      rcases hm with rfl | rfl | rfl | rfl | rfl | rfl | rfl <;> exact kit_ty (by decide +kernel)
    obtain ⟨_, _, ⟨T', m1, bts⟩, _⟩ := id ov
    have bt := bts _ W.k
    refine ⟨fun σ H' => ∃ D j, σ = [some (.ref a), some v, some (.ref D)] ∧ j ≤ 9 ∧ Rows D (row "amount" x) j T H H', ?_, ?_⟩
    · refine ⟨_, rfl, _, _, _, _, _, rfl, ClsV.ty "str", bt.ty, kst bt.mem, _, rfl, ite2 (fun hs => ?_) (fun hs => ⟨D, 8, rfl, by decide, W⟩)⟩
      have ns : T' ≠ "str" := fun e => by rw [e] at hs; exact absurd hs (by decide)
      obtain ⟨rs, hD5, ln5, al5⟩ := id W.ex
      refine ⟨_, rfl, tyL hD5, W.t, fun H6 n6 T6 => told_amt (ov.xn (W.k.trans n6)) (fun L hL E Q' rf => ?_) fun R H7 e7 hR => ?_⟩
      · have nn := n6.trans (LamX.ExtN.of (Am.Ext.new (o := .lst [V.str "none"]) hL))
        obtain ⟨dx, ea⟩ := is_xn ia (W.k.trans nn)
        exact ⟨_, rfl, _, rfl, a, dx, _, T', rfl, ea, bts _ (W.k.trans nn), (fun e => absurd e ns), a, v, q, rfl, ⟨dx, ea⟩, (ov.xn (W.k.trans nn)).odd, rf⟩
      · obtain ⟨xs, d7, l7, W7⟩ := W.step n6 T6 e7 hR
        exact ⟨D, _, _, rfl, rfl, d7, (by omega), D, 9, rfl, by decide, W7⟩
    rintro σ H8 ⟨D, j, rfl, hj, W⟩
    obtain ⟨rs, hD8, ln8, al8⟩ := id W.ex
    have ll : (rs.map V.ref).length = j := by rw [List.length_map, ln8]
    refine ⟨_, rfl, _, rfl, v, as, n, x, rfl, rp _ W.k, n40, x6, (by show 3 ≤ sizeLine; decide), fun M hM => ⟨(by show 1 ≤ sizeLine; decide), fun M2 hM2 => ?_⟩⟩
    have e1 := (Am.Ext.new (o := .lst [V.str "amount", .str x, .bl true]) hM).trans (Am.Ext.new (o := .lst [V.ref M]) hM2)
    refine ⟨_, rfl, D, rs.map V.ref, rfl, .inl (SqL.of (e1 _ _ hD8)), ?_⟩
    rw [ll]
    refine ⟨M2, (j : Int), _, rfl, rfl, upd_same, by omega, by omega, (by rw [Int.toNat_natCast]; show 1 * j ≤ sizeLine; omega), fun N hN => ?_⟩
    rw [Int.toNat_natCast]
    have eN := e1.trans (Am.Ext.new (o := .lst (List.replicate j [V.ref M]).flatten) hN)
    exact rows_eqd W eN (sok_of _) xk (Am.Ext.new hN _ _ (Am.Ext.new hM2 _ _ upd_same)) upd_same (z _ (W.k.trans (LamX.ExtN.of eN)) (W.t.ext eN))
end
end KC

set_option Elab.async false
set_option linter.all false
set_option maxRecDepth 100000
set_option maxHeartbeats 1000000
/-! The texts of fractions, as lists of codes. -/
namespace TX
open PySem L2 NumText
open TL (numL spl par)
def sg (n : Int) : List Nat := if n < 0 then [45] else []
/-- the text of a fraction -/
def wr (q : Rat) : List Nat := sg q.num ++ (numL q.num.natAbs ++ (if q.den = 1 then [] else 47 :: numL q.den))
/-- the text without a first - -/
def bd (l : List Nat) : List Nat := if l.take 1 = [45] then l.drop 1 else l
def ng (l : List Nat) : Bool := decide (l.take 1 = [45])
def fig (c : Nat) : Bool := decide (48 ≤ c) && decide (c ≤ 57)
/-- figures without a needless zero -/
def cnt (l : List Nat) : Bool := !l.isEmpty && (l.all fig && (decide (l = [48]) || !decide (l.take 1 = [48])))
theorem all_fig {l : List Nat} : l.all fig = true ↔ AllDigits l := by
  rw [List.all_eq_true]
  unfold AllDigits fig
  simp only [Bool.and_eq_true, decide_eq_true_eq]
theorem numL_take (n : Nat) (h : 0 < n) : (numL n).take 1 ≠ [48] := by
  induction n using Nat.strongRecOn with
  | _ n ih =>
    by_cases h9 : n < 10
    · rw [TL.numL_lt h9]
      intro e
      have e' : 48 + n = 48 := by simpa using e
      omega
    · rw [TL.numL_step (by omega), List.take_append_of_le_length (List.length_pos_iff.mpr (TL.numL_ne _))]
      exact ih (n / 10) (by omega) (by omega)
theorem numL_zero : numL 0 = [48] := by rw [TL.numL_lt (by decide)]
theorem cnt_numL (n : Nat) : cnt (numL n) = true := by
  have a : (numL n).all fig = true := all_fig.mpr (TL.numL_digits n)
  have b : (numL n).isEmpty = false := by
    cases e : numL n with
    | nil => exact absurd e (TL.numL_ne n)
    | cons _ _ => rfl
  unfold cnt
  rw [a, b]
  by_cases h : n = 0
  · subst h
    rw [numL_zero]
    rfl
  · rw [decide_eq_false (numL_take n (by omega))]
    simp
theorem numL_head (n : Nat) (r : List Nat) : (numL n ++ r).take 1 ≠ [45] := by
  rw [List.take_append_of_le_length (List.length_pos_iff.mpr (TL.numL_ne _))]
  intro e
  cases z : numL n with
  | nil => exact TL.numL_ne n z
  | cons c t =>
    rw [z] at e
    have e' : c = 45 := by simpa using e
    have := TL.numL_digits n c (by rw [z]; exact List.mem_cons_self)
    omega
theorem bd_wr (q : Rat) : bd (wr q) = numL q.num.natAbs ++ (if q.den = 1 then [] else 47 :: numL q.den) := by
  unfold bd wr sg
  by_cases h : q.num < 0
  · rw [if_pos h]
    rfl
  · rw [if_neg h, List.nil_append, if_neg (numL_head _ _)]
theorem ng_wr (q : Rat) : ng (wr q) = decide (q.num < 0) := by
  unfold ng wr sg
  by_cases h : q.num < 0
  · rw [if_pos h, decide_eq_true h]
    rfl
  · rw [if_neg h, List.nil_append, decide_eq_false h, decide_eq_false (numL_head _ _)]
/-- the halves of a text -/
def hv (l : List Nat) : List (List Nat) := spl [47] 0 [] (bd l)
theorem hv_wr (q : Rat) : hv (wr q) = if q.den = 1 then [numL q.num.natAbs] else [numL q.num.natAbs, numL q.den] := by
  have f : ∀ n, 47 ∉ numL n := fun n => TL.numL_free (by decide)
  unfold hv
  rw [bd_wr]
  split
  · rw [List.append_nil, TL.spl_last1 (f _), List.nil_append]
  · have e := TL.spl_part1 (s := 47) (S := []) (acc := []) (rest := numL q.den) (f q.num.natAbs)
    rw [show [47] ++ numL q.den = 47 :: numL q.den from rfl, List.nil_append] at e
    rw [e, TL.spl_last1 (f _), List.nil_append]
/-- the number that a text tells by its sign and its halves -/
def hi (l : List Nat) : Int := if ng l then -((digitsVal ((hv l).getD 0 []) : Nat) : Int) else ((digitsVal ((hv l).getD 0 []) : Nat) : Int)
def lo (l : List Nat) : Nat := if (hv l).length = 2 then digitsVal ((hv l).getD 1 []) else 1
theorem hi_wr (q : Rat) : hi (wr q) = q.num := by
  unfold hi
  rw [ng_wr, hv_wr]
  have e : (if q.den = 1 then [numL q.num.natAbs] else [numL q.num.natAbs, numL q.den]).getD 0 [] = numL q.num.natAbs := by split <;> rfl
  rw [e, TL.numL_val]
  by_cases h : q.num < 0
  · rw [if_pos (decide_eq_true h)]
    omega
  · rw [if_neg (by rw [decide_eq_false h]; decide)]
    omega
theorem lo_wr (q : Rat) : lo (wr q) = q.den := by
  unfold lo
  rw [hv_wr]
  by_cases h : q.den = 1
  · rw [if_pos h, if_neg (show ¬ ([numL q.num.natAbs] : List (List Nat)).length = 2 from fun e => by cases e), h]
  · rw [if_neg h, if_pos (show ([numL q.num.natAbs, numL q.den] : List (List Nat)).length = 2 from rfl)]
    exact TL.numL_val _
theorem val_wr (q : Rat) : Rat.divInt (hi (wr q)) (lo (wr q) : Int) = q := by
  rw [hi_wr, lo_wr]
  exact Rat.num_divInt_den q
theorem wr_inj {q p : Rat} (h : wr q = wr p) : q = p := by rw [← val_wr q, h, val_wr p]
/-- the same, as the program reads: by the first / -/
theorem par_free {p rest : List Nat} (h : 47 ∉ p) : par [47] [] (p ++ 47 :: rest) = some (p, rest) := by
  have e := TL.par_part1 (s := 47) (S := []) (acc := []) (rest := rest) h
  rw [show [47] ++ rest = 47 :: rest from rfl, List.nil_append] at e
  exact e
theorem sg_free {n : Int} {m : Nat} : 47 ∉ sg n ++ numL m := by
  intro h
  rcases List.mem_append.mp h with h | h
  · unfold sg at h
    split at h <;> simp at h
  · exact TL.numL_free (s := 47) (by decide) h
theorem par_wr (q : Rat) : par [47] [] (wr q) = if q.den = 1 then none else some (sg q.num ++ numL q.num.natAbs, numL q.den) := by
  unfold wr
  split
  · rw [List.append_nil]
    exact TL.par_none1 sg_free
  · rw [← List.append_assoc]
    exact par_free sg_free
theorem bd_num (q : Rat) : bd (sg q.num ++ numL q.num.natAbs) = numL q.num.natAbs := by
  unfold bd sg
  by_cases h : q.num < 0
  · rw [if_pos h]
    rfl
  · have := numL_head q.num.natAbs []
    rw [List.append_nil] at this
    rw [if_neg h, List.nil_append, if_neg this]
theorem fold_lt : ∀ (l : List Nat) (a : Nat), AllDigits l → l.foldl (fun acc c => acc * 10 + (c - 48)) a < (a + 1) * 10 ^ l.length
  | [], a, _ => by simp
  | c :: l, a, h => by
    have hc := h.head
    have ih := fold_lt l (a * 10 + (c - 48)) h.tail
    rw [List.foldl_cons, List.length_cons, Nat.pow_succ]
    refine Nat.lt_of_lt_of_le ih ?_
    have e : (a + 1) * (10 ^ l.length * 10) = ((a + 1) * 10) * 10 ^ l.length := by
      rw [Nat.mul_comm (10 ^ l.length) 10, Nat.mul_assoc]
    rw [e]
    exact Nat.mul_le_mul_right _ (by omega)
theorem val_lt {l : List Nat} (h : AllDigits l) : digitsVal l < 10 ^ l.length := by
  have := fold_lt l 0 h
  unfold digitsVal
  omega
theorem pow_le_two (n : Nat) : 10 ^ n ≤ 2 ^ (4 * n) := by
  rw [Nat.pow_mul]
  exact Nat.pow_le_pow_left (by decide) n
theorem val_bits {l : List Nat} {n : Nat} (h : AllDigits l) (hl : l.length ≤ n) : digitsVal l < 2 ^ (4 * n) :=
  Nat.lt_of_lt_of_le (val_lt h) (Nat.le_trans (pow_le_two _) (Nat.pow_le_pow_right (by decide) (by omega)))
/-- the text without its - ahead -/
theorem tl_rp (x : Str) : TL.tl (Txt.removeprefix x "-") = bd (TL.tl x) := by
  rw [StrLaws.removeprefix_eq, StrLaws.subAt_eq]
  have e1 : (Str.ofString "-").length = 1 := by decide
  have e2 : (Str.ofString "-").cps.toList = [45] := by decide
  have el : x.length = (TL.tl x).length := TL.len_tl x
  rw [e1, e2, List.drop_zero]
  unfold bd
  show TL.tl (if _ then _ else _) = _
  by_cases h : (TL.tl x).take 1 = [45]
  · have l1 : 1 ≤ (TL.tl x).length := by
      have := congrArg List.length h
      rw [List.length_take] at this
      simp only [List.length_cons, List.length_nil] at this
      omega
    rw [if_pos h, if_pos]
    · show ((TL.tl x).drop 1).take (x.length - 1) = _
      rw [List.take_of_length_le]
      rw [List.length_drop]
      omega
    · rw [decide_eq_true (by omega), Bool.true_and]
      exact beq_iff_eq.mpr h
  · rw [if_neg h, if_neg]
    intro e
    rw [Bool.and_eq_true, beq_iff_eq] at e
    exact h e.2
theorem bd_len (l : List Nat) : (bd l).length ≤ l.length := by
  unfold bd
  split
  · rw [List.length_drop]; omega
  · exact Nat.le_refl _
/-- int of such a text -/
theorem int_bd {x : Str} (h : AllDigits (bd (TL.tl x))) (h1 : bd (TL.tl x) ≠ []) (h2 : x.length ≤ 4300) : PySem.intText? x = some (if ng (TL.tl x) then -((digitsVal (bd (TL.tl x)) : Nat) : Int) else ((digitsVal (bd (TL.tl x)) : Nat) : Int)) := by
  unfold ng
  by_cases e : (TL.tl x).take 1 = [45]
  · rw [if_pos (decide_eq_true e)]
    have eb : bd (TL.tl x) = (TL.tl x).drop 1 := by unfold bd; rw [if_pos e]
    have ex : TL.tl x = 45 :: bd (TL.tl x) := by
      rw [eb]
      conv => lhs; rw [← List.take_append_drop 1 (TL.tl x), e]
      rfl
    exact intText_neg ex h h1 h2
  · rw [if_neg (by rw [decide_eq_false e]; decide)]
    have eb : bd (TL.tl x) = TL.tl x := by unfold bd; rw [if_neg e]
    rw [eb] at h h1 ⊢
    exact intText_digits h h1 h2
end TX

set_option Elab.async false
set_option linter.all false
set_option maxRecDepth 100000
set_option maxHeartbeats 1000000
set_option exponentiation.threshold 20000
/-! The texts of Amounts: figures, read. -/
namespace TX
open PySem PySem.Spec PyProof.Rows L2 Oo Gd Am KA NumText
open TL (numL spl par)
theorem tl_int (n : Int) : TL.tl (Str.ofString (toString n)) = sg n ++ numL n.natAbs := by
  cases n with
  | ofNat m =>
    have e : sg (Int.ofNat m) = [] := if_neg (by show ¬ (Int.ofNat m) < 0; exact Int.not_lt.mpr (Int.natCast_nonneg m))
    rw [e]
    exact TL.tl_num m
  | negSucc m =>
    have e : sg (Int.negSucc m) = [45] := if_pos (Int.negSucc_lt_zero m)
    rw [e, TL.tl_ofString]
    have e2 := TL.tl_num (m + 1)
    rw [TL.tl_ofString] at e2
    show (String.append "-" (Nat.repr (m + 1))).toList.map Char.toNat = _
    show ("-" ++ Nat.repr (m + 1)).toList.map Char.toNat = _
    rw [String.toList_append, List.map_append]
    show [45] ++ _ = [45] ++ numL (m + 1)
    rw [← e2]
    rfl
theorem tl_written (q : Rat) : TL.tl (written q) = wr q := by
  unfold written wr
  by_cases h : q.den = 1
  · rw [if_pos (show (q.den : Int) = 1 by omega), if_pos h, List.append_nil]
    exact tl_int q.num
  · rw [if_neg (show ¬ (q.den : Int) = 1 by omega), if_neg h, TL.tl_append, TL.tl_append, TL.tl_append, tl_int]
    have e1 : TL.tl (Str.ofString "/") = [47] := by decide
    have e2 : TL.tl Str.empty = [] := rfl
    have e3 : TL.tl (Str.ofString (toString (q.den : Int))) = numL q.den := TL.tl_num q.den
    show TL.tl Str.empty ++ (sg q.num ++ numL q.num.natAbs) ++ TL.tl (Str.ofString "/") ++ TL.tl (Str.ofString (toString (q.den : Int))) = _
    rw [e1, e2, e3, List.nil_append, List.append_assoc, List.append_assoc]
    rfl
theorem written_inj {q p : Rat} (h : written q = written p) : q = p := wr_inj (by rw [← tl_written, h, tl_written])
theorem par_len : ∀ (l acc a b : List Nat), par [47] acc l = some (a, b) → a.length + b.length ≤ acc.length + l.length
  | [], _, _, _, h => by cases h
  | c :: r, acc, a, b, h => by
    unfold par at h
    split at h
    · cases h
      show acc.length + r.length ≤ _
      rw [List.length_cons]
      omega
    · have := par_len r (acc ++ [c]) a b h
      rw [List.length_append] at this
      simp only [List.length_cons, List.length_nil] at this ⊢
      omega
/-- the parts of a text at its first /, as the program takes them -/
structure Cut (x T B : Str) : Prop where
  l1 : T.length ≤ x.length
  l2 : B.length ≤ x.length + 1
  ok : ∀ q, x = written q → TL.tl T = sg q.num ++ numL q.num.natAbs ∧ TL.tl B = numL q.den
theorem numL_one : numL 1 = [49] := by rw [TL.numL_lt (by decide)]
theorem cut_of (x : Str) : Cut x (Txt.partition x "/").1 (if (Txt.partition x "/").2.1 = Str.ofString "" then "1" else (Txt.partition x "/").2.2) := by
  have e1 : TL.tl (Str.ofString "/") = [47] := by decide
  have lx := TL.len_tl x
  have L1 : (Str.ofString "1").length = 1 := by decide
  have T1 : TL.tl (Str.ofString "1") = [49] := by decide
  have n0 : ¬ Str.ofString "/" = Str.ofString "" := by decide
  have z0 : Str.empty = Str.ofString "" := by decide
  rw [TL.partition_par x _ (by rw [e1]; decide), e1]
  cases hp : par [47] [] (TL.tl x) with
  | none =>
    show Cut x x (if Str.empty = Str.ofString "" then (Str.ofString "1") else Str.empty)
    rw [if_pos z0]
    refine ⟨Nat.le_refl _, by rw [L1]; omega, fun q e => ?_⟩
    subst e
    rw [tl_written, par_wr] at hp
    split at hp
    · next h1 =>
      rw [tl_written, T1, h1, numL_one]
      refine ⟨?_, rfl⟩
      unfold wr
      rw [if_pos h1, List.append_nil]
    · cases hp
  | some ab =>
    obtain ⟨a, b⟩ := ab
    have hl := par_len _ _ _ _ hp
    show Cut x ⟨a.toArray⟩ (if Str.ofString "/" = Str.ofString "" then (Str.ofString "1") else ⟨b.toArray⟩)
    rw [if_neg n0]
    have la : (⟨a.toArray⟩ : Str).length = a.length := TL.len_tl _
    have lb : (⟨b.toArray⟩ : Str).length = b.length := TL.len_tl _
    simp only [List.length_nil, Nat.zero_add] at hl
    refine ⟨by omega, by omega, fun q e => ?_⟩
    subst e
    rw [tl_written, par_wr] at hp
    split at hp
    · cases hp
    · cases hp
      exact ⟨rfl, rfl⟩
/-- what a text of figures is worth -/
theorem val_cut {x T B : Str} (c : Cut x T B) {q : Rat} (e : x = written q) : (if ng (TL.tl T) then -((digitsVal (bd (TL.tl T)) : Nat) : Int) else ((digitsVal (bd (TL.tl T)) : Nat) : Int)) = q.num ∧ digitsVal (TL.tl B) = q.den ∧ AllDigits (bd (TL.tl T)) ∧ bd (TL.tl T) ≠ [] ∧ AllDigits (TL.tl B) ∧ TL.tl B ≠ [] := by
  obtain ⟨e1, e2⟩ := c.ok q e
  rw [e1, e2, bd_num, TL.numL_val, TL.numL_val]
  refine ⟨?_, rfl, TL.numL_digits _, TL.numL_ne _, TL.numL_digits _, TL.numL_ne _⟩
  unfold ng sg
  by_cases h : q.num < 0
  · rw [if_pos h]
    have e : decide (List.take 1 ([45] ++ numL q.num.natAbs) = [45]) = true := decide_eq_true rfl
    rw [e, if_pos rfl]
    omega
  · have := numL_head q.num.natAbs []
    rw [List.append_nil] at this
    rw [if_neg h, List.nil_append, decide_eq_false this, if_neg (by decide)]
    omega
/-- figures, some -/
def digB (x : Str) : Bool := decide (1 ≤ x.length) && (TL.tl x).all fig
theorem digB_iff {x : Str} : digB x = true ↔ AllDigits (TL.tl x) ∧ TL.tl x ≠ [] := by
  unfold digB
  rw [Bool.and_eq_true, all_fig, decide_eq_true_eq, TL.len_tl]
  refine ⟨fun h => ⟨h.2, fun e => ?_⟩, fun h => ⟨List.length_pos_iff.mpr h.2, h.1⟩⟩
  rw [e] at h
  exact absurd h.1 (by decide)
end TX

set_option Elab.async false
set_option linter.all false
set_option maxRecDepth 100000
set_option maxHeartbeats 1000000
set_option exponentiation.threshold 20000
/-! _are_digits, Amount.read. -/
namespace KC
open PySem PySem.Spec PyProof.Rows L2 Oo Gd Am KA TX NumText
section
variable {P : Program} {w : World} {K : W.Frag} {mg : Str → Option Value} {base : Heap} {f C WT : Addr} {fd : FuncData} {t : Tok}
def spDig : Sp := fun vs H Q _ => ∃ x : Str, vs = [.str x] ∧ x.length ≤ 3000 ∧ ∀ H', Am.Ext H H' → Q (.bl (digB x)) H'
theorem scDig : FnScope ["text", "sign"] ["text"] (defScope (top 17)) := ⟨rfl, rfl, rfl, by decide +kernel, rfl, by decide +kernel, by decide +kernel⟩
theorem tl_get (x : Str) (i c : Nat) (h : x.cps[i]? = some c) : (TL.tl x)[i]? = some c := by
  rw [← h]
  exact Array.getElem?_toList
theorem in_digits (c : Nat) : decide (c ∈ (Str.ofString "0123456789").cps.toList) = fig c := by
  have e : (Str.ofString "0123456789").cps.toList = [48, 49, 50, 51, 52, 53, 54, 55, 56, 57] := by decide
  rw [e]
  unfold fig
  by_cases h : 48 ≤ c ∧ c ≤ 57
  · rw [decide_eq_true h.1, decide_eq_true h.2, decide_eq_true]
    · rfl
    · simp only [List.mem_cons, List.not_mem_nil, or_false]
      omega
  · rw [decide_eq_false]
    · symm
      rw [Bool.and_eq_false_iff, decide_eq_false_iff_not, decide_eq_false_iff_not]
      omega
    · simp only [List.mem_cons, List.not_mem_nil, or_false]
      omega
theorem take_succ {l : List Nat} {i c : Nat} (h : l[i]? = some c) : l.take (i + 1) = l.take i ++ [c] := by
  rw [List.take_succ, h]
  rfl
theorem ok_dig {t2 : Tok} (fr : Frees mg) (mD : mg "DIGITS" = some (.str "0123456789" t)) (mM : mg "MOST_DIGITS" = some (.int 4000 t2)) (F : Fun K "_are_digits" "_are_digits" (top 17) f fd) : FnOk P w K mg base CX0 1 f fd ["text"] spDig := by
  refine F.ok scDig (fun vs H Q E h => ?_) (fun cdv A outer s H vs Q E hr h => ?_)
  · obtain ⟨x, rfl, _⟩ := h
    rfl
  · obtain ⟨x, rfl, lx, z⟩ := h
    have nd := scDig.nd
    have isk : IsK K := ⟨trivial⟩
    refine ⟨_, pss_one (ps_ret (pe_and (pe_chain op_le op_le pe_int (pe_callB call_len_str rfl (fr.h _ (by decide +kernel)) (by decide +kernel) (pa_cons (pv 0) pa_nil)) (pe_glob (v := V.int 4000) rfl mM ⟨t2, rfl⟩))
      (pe_one (pe_callB (allK isk rfl) rfl (fr.h _ (by decide +kernel)) (by decide +kernel) (pa_cons (pe_lc (own := [("sign", 1)]) (g := gName 1) (tt := tYes) rfl nd (pi_str (pv 0)) (blkOk_by (N := ["text", "sign"]) (sc := defScope (top 17)) (by decide +kernel)) (fun _ _ _ _ _ => pg_name (i := 1) nd rfl (Or.inl rfl)) (fun _ _ _ _ _ => pts_nil) (fun _ _ _ _ _ => pe_cmpR op_in_sign (pv 1) (pe_glob (v := V.str "0123456789") rfl mD ⟨t, rfl⟩) rfl)) pa_nil))))), ?_⟩
    have big : (3000 : Nat) < sizeLine := by decide
    have lt := TL.len_tl x
    refine ⟨_, rfl, _, rfl, (by omega), _, _, rfl, rfl, _, rfl, ?_⟩
    have key : digB x = (decide ((1 : Int) ≤ (x.length : Int)) && (TL.tl x).all fig) := by
      unfold digB
      rw [show decide ((1 : Int) ≤ (x.length : Int)) = decide (1 ≤ x.length) from decide_eq_decide.mpr (by omega)]
    by_cases h1 : (1 : Int) ≤ (x.length : Int)
    · rw [decide_eq_true h1, Bool.true_and] at key
      rw [decide_eq_true h1]
      refine iteT ⟨_, _, rfl, rfl, _, rfl, ?_⟩
      rw [decide_eq_true (show (x.length : Int) ≤ 4000 by omega)]
      refine ⟨_, rfl, _, rfl, fun D hD => ?_⟩
      refine lc_it walk_str (fun i H' => Am.Ext H H' ∧ H' D = some (.lst (((TL.tl x).take i).map fun c => V.bl (fig c)))) ⟨Am.Ext.new hD, by rw [upd_same]; rfl⟩ (fun _ _ _ _ => trivial) ?_ ?_
      · rintro i y H' H2 hi ⟨e, d⟩ ⟨rfl, c, hc, rfl⟩
        have hc' := tl_get x i c hc
        refine ⟨rfl, _, rfl, c, _, rfl, rfl, _, d, ?_, ⟨fun b o hb => ?_, ?_⟩⟩
        · rw [List.length_map, List.length_take]
          omega
        · rw [upd_ne (ne_of_none hb hD)]
          exact e b o hb
        · rw [upd_same, take_succ hc', List.map_append, in_digits]
          rfl
      · rintro H' ⟨e, d⟩
        rw [show x.cps.size = (TL.tl x).length from lt, List.take_length] at d
        refine ⟨D, (TL.tl x).map fig, rfl, SqL.of (by rw [d, List.map_map]; rfl), ?_⟩
        have : ((TL.tl x).map fig).all id = (TL.tl x).all fig := by rw [List.all_map]; rfl
        rw [this, ← key]
        exact z H' e
    · rw [decide_eq_false h1]
      rw [decide_eq_false h1, Bool.false_and] at key
      have := z H (Am.Ext.refl H)
      rw [key] at this
      exact ⟨_, rfl, this⟩
end
end KC

set_option Elab.async false
set_option linter.all false
set_option maxRecDepth 100000
set_option maxHeartbeats 1000000
set_option exponentiation.threshold 20000
/-! Amount.read. -/
namespace KC
open PySem PySem.Spec PyProof.Rows L2 Oo Gd Am KA TX NumText
/-- refused: the error of the class at WT, which tells line 1 -/
def RefT (WT : Addr) (H : Hp) (E : XK) : Prop := ∀ (d : Addr) (H' : Hp), Am.Ext H H' → H d = none → H' d = some (.xd [("line", .int 1)]) → E (.ref WT) (some d) H'
theorem RefT.on {WT : Addr} {H H1 : Hp} {E : XK} (r : RefT WT H E) (e : Am.Ext H H1) : RefT WT H1 E := fun d H' x n h => r d H' (e.trans x) (e.gone n) h
theorem RefT.here {WT : Addr} {H : Hp} {E : XK} (r : RefT WT H E) : ∀ e d, H e = none → H d = none → d ≠ e → E (.ref WT) (some d) (Gx.leftH H WT e d [("line", .int 1)]) := fun e d he hd ne => by
  obtain ⟨x1, x2⟩ := left_ext (Z := WT) (fs := [("line", .int 1)]) he hd
  exact r d _ x1 hd x2
structure WrL (K : W.Frag) (mg : Str → Option Value) (x : Str) (Wc : Addr) : Prop where
  e1 : Ge.E1 K Wc "line"
  mgW : mg x = some (.ref Wc)
  rs : ∀ {X : Cx}, X.K = K → Raises X (.ref Wc)
/-- the text is a fraction's, or it is refused -/
def spRead (C WT : Addr) : Sp := fun vs H Q E => ∃ x : Str, vs = [.str x] ∧ x.length ≤ 600 ∧ ((∃ q, x = written q ∧ New C H Q q) ∨ ((∀ q, x ≠ written q) ∧ RefT WT H E))
theorem scRead : FnScope ["text", "top", "slash", "bottom", "amount"] ["text"] (defScope (am 2)) := ⟨rfl, rfl, rfl, by decide +kernel, rfl, by decide +kernel, by decide +kernel⟩
section
variable {P : Program} {w : World} {K : W.Frag} {mg : Str → Option Value} {base : Heap} {f C WT : Addr} {fd : FuncData}
theorem all_bits {l : List Nat} (h : AllDigits l) (hl : l.length ≤ 601) : (digitsVal l) < 2 ^ 2404 := val_bits h hl
theorem ok_read (fr : Frees mg) (B : Base P w K mg base C) (U : Una P w K mg base C "__str__" 1 (spText C written)) (DD : Dn P w K mg base CX0 1 "_are_digits" ["text"] spDig) (WR : WrL K mg "InvalidText" WT) (F : Fun K "read" "Amount.read" (am 2) f fd) :
    FnOk P w K mg base (L2.CX P w) 4 f fd ["text"] (spRead C WT) := by
  refine F.okX scRead (fun vs H Q E h => ?_) (fun cdv A outer s H vs Q E hr h => ?_)
  · obtain ⟨x, rfl, _⟩ := h
    rfl
  · obtain ⟨x, rfl, lx, h⟩ := h
    have nd := scRead.nd
    refine ⟨_, pss_cons (ps_if (pt_not (pt_val (pe_callB call_isi rfl (fr.h _ (by decide +kernel)) (by decide +kernel) (pa_cons (pv 0) (pa_cons (pe_bltn (v := V.ty "str") rfl (fr.h _ (by decide +kernel)) (by rfl) rfl) pa_nil))))) (pss_one ps_never) pss_nil)
      (pss_cons (ps_asg (pe_partition (pv 0) pe_str) (pg_tup rfl (pgs_cons (pg_name (i := 1) nd rfl (.inl rfl)) (pgs_cons (pg_name (i := 2) nd rfl (.inl rfl)) (pgs_cons (pg_name (i := 3) nd rfl (.inl rfl)) pgs_nil)))))
      (C8.pss_cut (ps_if (pt_cmpR op_eq (pv 2) pe_str (nomark _)) (pss_one (ps_set (i := 3) nd rfl (.inl rfl) pe_str)) pss_nil)
      (pss_cons (ps_if (PW.pt (pw_or (pt_not (pt_val (pe_dn DD hr (by rfl) (by decide) (pa_cons (pe_bm PySem.F.plainAttrs_str PySem.F.slot_str_removeprefix PySem.F.type_str_removeprefix mt_removeprefix (pv 1) (pa_cons pe_str pa_nil)) pa_nil)))) (pw_or (pt_not (pt_val (pe_dn DD hr (by rfl) (by decide) (pa_cons (pv 3) pa_nil)))) (pw_or1 (pt_cmpR op_eq (pe_callTy call_int_str rfl (fr.h _ (by decide +kernel)) (by decide +kernel) (pa_cons (pv 3) pa_nil)) pe_int (nomark _))))))
          (pss_one (ps_raise rfl (takes_of rfl rfl rfl rfl) (Gx.pmk1 WR.e1 (WR.rs rfl) hr rfl WR.mgW (pa_cons pe_int pa_nil)))) pss_nil)
      (pss_cons (ps_set (i := 4) nd rfl (.inl rfl) (pe_mk2 B hr rfl (pa_cons (pe_callTy call_int_str rfl (fr.h _ (by decide +kernel)) (by decide +kernel) (pa_cons (pv 1) pa_nil)) (pa_cons (pe_callTy call_int_str rfl (fr.h _ (by decide +kernel)) (by decide +kernel) (pa_cons (pv 3) pa_nil)) pa_nil))))
      (pss_cons (ps_if (pt_cmpR op_ne (pe_callTy (call_strN U hr) rfl (fr.h _ (by decide +kernel)) (by decide +kernel) (pa_cons (pv 4) pa_nil)) (pv 0) (nomark _)) (pss_one (ps_raise rfl (takes_of rfl rfl rfl rfl) (Gx.pmk1 WR.e1 (WR.rs rfl) hr rfl WR.mgW (pa_cons pe_int pa_nil)))) pss_nil)
      (pss_one (ps_ret (pv 4)))))))), ?_⟩
    have big : (3000 : Nat) < sizeLine := by decide
    refine ⟨_, rfl, _, _, _, _, true, rfl, ClsV.ty "str", TyX.base (TyOf.str x), kit_ty (by decide +kernel), _, rfl, iteF ?_⟩
    refine ⟨_, rfl, ⟨_, rfl⟩, x, _, rfl, rfl, by decide, by omega, fun p hp => ?_⟩
    refine ⟨p, _, rfl, SqT.of upd_same, rfl, _, _, rfl, _, _, rfl, _, _, rfl, rfl, ?_⟩
    have c := cut_of x
    have e1 := Am.Ext.new (o := .tup [V.str (Txt.partition x "/").1, .str (Txt.partition x "/").2.1, .str (Txt.partition x "/").2.2]) hp
    generalize upd H p (.tup [V.str (Txt.partition x "/").1, .str (Txt.partition x "/").2.1, .str (Txt.partition x "/").2.2]) = G at e1 ⊢
    generalize (Txt.partition x "/").1 = T at c ⊢
    generalize (Txt.partition x "/").2.1 = S at c ⊢
    generalize (Txt.partition x "/").2.2 = B0 at c ⊢
    refine ⟨fun σ H' => ∃ Bt : Str, σ = [some (.str x), some (.str T), some (.str S), some (.str Bt), none] ∧ H' = G ∧ Cut x T Bt, ?_, ?_⟩
    · refine ⟨_, rfl, rfl, _, rfl, ite2 (fun h => ?_) (fun h => ?_)⟩
      · have e : S = Str.ofString "" := by simpa using h
        rw [if_pos e] at c
        exact ⟨"1", rfl, rfl, c⟩
      · have e : ¬ S = Str.ofString "" := by simpa using h
        rw [if_neg e] at c
        exact ⟨B0, rfl, rfl, c⟩
    clear c
    rintro σ H' ⟨Bt, rfl, rfl, c⟩
    have l1 := c.l1
    have l2 := c.l2
    have tr := tl_rp T
    have lr := len_removeprefix T "-"
    have vc := fun q e => val_cut c (q := q) e
    refine ⟨_, rfl, rfl, T, _, rfl, rfl, (by omega), _, rfl, (by omega), fun H1 f1 => ⟨_, rfl, ?_⟩⟩
    have x1 := e1.trans f1
    by_cases hd1 : digB (Txt.removeprefix T "-") = true
    rotate_left
    · rw [Bool.eq_false_iff.mpr hd1]
      rcases h with ⟨q, e, _⟩ | ⟨_, rf⟩
      · obtain ⟨_, _, a1, a2, _⟩ := vc q e
        exact absurd (digB_iff.mpr ⟨by rw [tr]; exact a1, by rw [tr]; exact a2⟩) hd1
      · exact iteT ⟨_, rfl, (rf.on x1).here⟩
    rw [hd1]
    refine iteF ⟨_, rfl, _, rfl, (by omega), fun H2 f2 => ⟨_, rfl, ?_⟩⟩
    have x2 := x1.trans f2
    by_cases hd2 : digB Bt = true
    rotate_left
    · rw [Bool.eq_false_iff.mpr hd2]
      rcases h with ⟨q, e, _⟩ | ⟨_, rf⟩
      · obtain ⟨_, _, _, _, a1, a2⟩ := vc q e
        exact absurd (digB_iff.mpr ⟨a1, a2⟩) hd2
      · exact iteT ⟨_, rfl, (rf.on x2).here⟩
    rw [hd2]
    obtain ⟨a1, a2⟩ := digB_iff.mp hd1
    rw [tr] at a1 a2
    obtain ⟨a3, a4⟩ := digB_iff.mp hd2
    have iB := intText_digits a3 a4 (show Bt.length ≤ 4300 by omega)
    have iT := int_bd a1 a2 (show T.length ≤ 4300 by omega)
    have lB : (TL.tl Bt).length ≤ 601 := by rw [← TL.len_tl]; omega
    have lT : (bd (TL.tl T)).length ≤ 601 := by
      have := bd_len (TL.tl T)
      rw [← TL.len_tl] at this
      omega
    have bB := all_bits a3 lB
    have bT := all_bits a1 lT
    replace vc : ∀ q, x = written q → (if ng (TL.tl T) then -((digitsVal (bd (TL.tl T)) : Nat) : Int) else ((digitsVal (bd (TL.tl T)) : Nat) : Int)) = q.num ∧ digitsVal (TL.tl Bt) = q.den := fun q e => ⟨(vc q e).1, (vc q e).2.1⟩
    have bT2 : (if ng (TL.tl T) then -((digitsVal (bd (TL.tl T)) : Nat) : Int) else ((digitsVal (bd (TL.tl T)) : Nat) : Int)).natAbs < 2 ^ 2404 := by split <;> omega
    generalize (if ng (TL.tl T) then -((digitsVal (bd (TL.tl T)) : Nat) : Int) else ((digitsVal (bd (TL.tl T)) : Nat) : Int)) = n at iT vc bT2
    change PySem.intText? Bt = some ((digitsVal (TL.tl Bt) : Nat) : Int) at iB
    generalize digitsVal (TL.tl Bt) = d at iB vc bB
    refine iteF ⟨_, rfl, Bt, _, rfl, iB, (by omega), rfl, _, rfl, ite2 (fun hz => ?_) (fun hz => ?_)⟩
    · have d0 : d = 0 := by simpa using hz
      rcases h with ⟨q, e, _⟩ | ⟨_, rf⟩
      · have := (vc q e).2
        have := q.den_pos
        omega
      · exact ⟨_, rfl, (rf.on x2).here⟩
    have d0 : (d : Int) ≠ 0 := by simpa using hz
    have bD : ((d : Int)).natAbs < 2 ^ 2404 := by omega
    refine ⟨_, rfl, T, n, rfl, iT, (by omega), _, rfl, Bt, _, rfl, iB, (by omega), n, d, rfl, d0, Nat.lt_trans bT2 (by decide), Nat.lt_trans bD (by decide), fun r H3 f3 n3 i3 => ?_⟩
    have x3 := x2.trans f3
    obtain ⟨g1, g2⟩ := divInt_le n d d0
    have lw : Low 8000 (Rat.divInt n d) := ⟨Nat.lt_of_le_of_lt g1 (Nat.lt_trans bT2 (by decide)), Nat.lt_of_le_of_lt g2 (Nat.lt_trans bD (by decide))⟩
    refine ⟨_, rfl, r, _, rfl, i3, lw, _, rfl, rfl, _, rfl, ite2 (fun hz => ?_) (fun hz => ?_)⟩
    · have ne : written (Rat.divInt n d) ≠ x := by simpa using hz
      rcases h with ⟨q, e, _⟩ | ⟨_, rf⟩
      · obtain ⟨v1, v2⟩ := vc q e
        rw [v1, v2, Rat.num_divInt_den] at ne
        exact absurd e.symm ne
      · exact ⟨_, rfl, (rf.on x3).here⟩
    · have eq : written (Rat.divInt n d) = x := by simpa using hz
      rcases h with ⟨q, e, nw⟩ | ⟨ne, rf⟩
      · obtain ⟨v1, v2⟩ := vc q e
        rw [v1, v2, Rat.num_divInt_den] at i3
        exact ⟨_, rfl, nw r H3 x3 (x2.gone n3) i3⟩
      · exact absurd eq.symm (ne _)
end
end KC

set_option Elab.async false
set_option linter.all false
set_option maxRecDepth 100000
set_option maxHeartbeats 1000000
set_option exponentiation.threshold 20000
/-! What is no INTEGER (an Amount among it) is refused. -/
namespace KC
open PySem PySem.Spec PyProof.Rows L2 Oo Gd Am KA TX NumText
/-- no INTEGER -/
def NoI (C : Addr) (H : Hp) (v : V) : Prop := Odd H v ∨ ∃ a q, v = .ref a ∧ Is C H a q
theorem NoI.ext {C : Addr} {H H' : Hp} {v : V} (o : NoI C H v) (e : Am.Ext H H') : NoI C H' v := o.imp (fun o => o.ext e) fun ⟨a, q, h, i⟩ => ⟨a, q, h, i.ext e⟩
/-- what the text says of the class's kin -/
structure Kn (K : W.Frag) (C : Addr) : Prop where
  ins : C8.InsC K C
  nI : W.kitOne K (.ref C) (.type "int") = some false
  nS : W.kitOne K (.ref C) (.type "str") = some false
section
variable {P : Program} {w : World} {K : W.Frag} {mg : Str → Option Value} {base : Heap} {C Wc WT f : Addr} {fd : FuncData}
def spWholeN (C : Addr) : Sp := fun vs H Q _ => ∃ v, vs = [v] ∧ NoI C H v ∧ Q (.bl false) H
theorem ok_wholeN (fr : Frees mg) (kn : Kn K C) (F : Fun K "is_whole" "is_whole" (top 9) f fd) : FnOk P w K mg base CX0 1 f fd ["value"] (spWholeN C) := by
  refine F.ok scWhole (fun vs H Q E h => ?_) (fun cdv A outer s H vs Q E hr h => ?_)
  · obtain ⟨v, rfl, _⟩ := h
    rfl
  · obtain ⟨v, rfl, ni, q⟩ := h
    refine ⟨_, pss_one (ps_ret (pe_and (pe_callB call_isi rfl (fr.h _ (by decide +kernel)) (by decide +kernel) (pa_cons (pv 0) (pa_cons (pe_bltn (v := V.ty "int") rfl (fr.h _ (by decide +kernel)) (by rfl) rfl) pa_nil)))
      (pe_one (pe_not (pe_callB call_isi rfl (fr.h _ (by decide +kernel)) (by decide +kernel) (pa_cons (pv 0) (pa_cons (pe_bltn (v := V.ty "bool") rfl (fr.h _ (by decide +kernel)) (by rfl) rfl) pa_nil))))))), ?_⟩
    rcases ni with ⟨T, bt, ni⟩ | ⟨a, r, rfl, dx, ea⟩
    · cases bt with
      | int i => exact absurd rfl ni
      | bl b =>
        refine ⟨_, rfl, _, _, _, _, true, rfl, ClsV.ty "int", TyX.base (TyOf.bl b), kit_ty (by decide +kernel), true, rfl, ?_⟩
        exact ⟨_, rfl, _, _, _, _, true, rfl, ClsV.ty "bool", TyX.base (TyOf.bl b), kit_ty (by decide +kernel), true, rfl, q⟩
      | non => exact ⟨_, rfl, _, _, _, _, false, rfl, ClsV.ty "int", TyX.base TyOf.non, kit_ty (by decide +kernel), false, rfl, q⟩
      | str z => exact ⟨_, rfl, _, _, _, _, false, rfl, ClsV.ty "int", TyX.base (TyOf.str z), kit_ty (by decide +kernel), false, rfl, q⟩
      | lst e => exact ⟨_, rfl, _, _, _, _, false, rfl, ClsV.ty "int", TyX.base (TyOf.lst e), kit_ty (by decide +kernel), false, rfl, q⟩
      | tup e => exact ⟨_, rfl, _, _, _, _, false, rfl, ClsV.ty "int", TyX.base (TyOf.tup e), kit_ty (by decide +kernel), false, rfl, q⟩
      | dK e => exact ⟨_, rfl, _, _, _, _, false, rfl, ClsV.ty "int", TyX.base (TyOf.dK e), kit_ty (by decide +kernel), false, rfl, q⟩
    · exact ⟨_, rfl, _, _, _, _, false, rfl, ClsV.ty "int", TyX.base (TyOf.ins ea kn.ins.cl kn.ins.ha kn.ins.hn kn.ins.htk kn.ins.hm), kn.nI, false, rfl, q⟩
theorem ok_countN (DW : Dn P w K mg base CX0 1 "is_whole" ["value"] (spWholeN C)) (F : Fun K "is_count" "is_count" (top 10) f fd) : FnOk P w K mg base CX0 2 f fd ["value"] (spWholeN C) := by
  refine F.ok scCount (fun vs H Q E h => ?_) (fun cdv A outer s H vs Q E hr h => ?_)
  · obtain ⟨v, rfl, _⟩ := h
    rfl
  · obtain ⟨v, rfl, od, q⟩ := h
    refine ⟨_, pss_one (ps_ret (pe_and (pe_dn DW hr (by rfl) (by decide) (pa_cons (pv 0) pa_nil)) (pe_one (pe_cmpR op_ge (pv 0) pe_int (nomark _))))), ?_⟩
    exact ⟨_, rfl, v, rfl, od, false, rfl, q⟩
/-! ### __init__ -/
def spInitN (C Wc : Addr) : Sp := fun vs H Q E => ∃ x dx v d, vs = [.ref x, v, d] ∧ H x = some (.ins C dx []) ∧ ((NoI C H v ∧ RefV Wc v H E) ∨ (∃ n : Int, v = .int n ∧ (NoI C H d ∨ d = .int 0) ∧ RefV Wc d H E))
theorem ok_initN (DW : Dn P w K mg base CX0 1 "is_whole" ["value"] spWhole) (DN : Dn P w K mg base CX0 1 "is_whole" ["value"] (spWholeN C)) (WR : Wr K mg "InvalidAmount" Wc) (F : FunI K f fd) : FnOk P w K mg base (L2.CX P w) 2 f fd ["self", "top", "bottom"] (spInitN C Wc) := by
  refine F.ok (CX := L2.CX P w) scInit (fun vs H Q E h => ?_) (fun cdv A outer s H vs Q E hr h => ?_)
  · obtain ⟨x, dx, v, d, rfl, _⟩ := h
    rfl
  · obtain ⟨x, dx, v, d, rfl, hx, ⟨od, rv⟩ | ⟨n, rfl, od | rfl, rv⟩⟩ := h
    · refine ⟨_, pss_cons (ps_if (pt_not (pt_val (pe_dn DN hr (by rfl) (by decide) (pa_cons (pv 1) pa_nil)))) (pss_one (ps_raise rfl (takes_of rfl rfl rfl rfl) (Gx.pmk1 WR.e1 (WR.rs rfl) hr rfl WR.mgW (pa_cons (pv 1) pa_nil)))) pss_nil) pss_never, ?_⟩
      exact ⟨_, rfl, v, rfl, od, _, rfl, iteT ⟨_, rfl, _, rfl, rv.here⟩⟩
    · refine ⟨_, pss_cons (ps_if (pt_not (pt_val (pe_dn DW hr (by rfl) (by decide) (pa_cons (pv 1) pa_nil)))) (pss_one ps_never) pss_nil) (pss_cons (ps_if (PW.pt (pw_or (pt_not (pt_val (pe_dn DN hr (by rfl) (by decide) (pa_cons (pv 2) pa_nil)))) (pw_or1 (pt_cmpR op_eq (pv 2) pe_int (nomark _))))) (pss_one (ps_raise rfl (takes_of rfl rfl rfl rfl) (Gx.pmk1 WR.e1 (WR.rs rfl) hr rfl WR.mgW (pa_cons (pv 2) pa_nil)))) pss_nil) pss_never), ?_⟩
      refine ⟨_, rfl, n, rfl, _, rfl, iteF ?_⟩
      exact ⟨_, rfl, d, rfl, od, _, rfl, iteT ⟨_, rfl, _, rfl, rv.here⟩⟩
    · refine ⟨_, pss_cons (ps_if (pt_not (pt_val (pe_dn DW hr (by rfl) (by decide) (pa_cons (pv 1) pa_nil)))) (pss_one ps_never) pss_nil) (pss_cons (ps_if (PW.pt (pw_or (pt_not (pt_val (pe_dn DW hr (by rfl) (by decide) (pa_cons (pv 2) pa_nil)))) (pw_or1 (pt_cmpR op_eq (pv 2) pe_int (nomark _))))) (pss_one (ps_raise rfl (takes_of rfl rfl rfl rfl) (Gx.pmk1 WR.e1 (WR.rs rfl) hr rfl WR.mgW (pa_cons (pv 2) pa_nil)))) pss_nil) pss_never), ?_⟩
      refine ⟨_, rfl, n, rfl, _, rfl, iteF ?_⟩
      refine ⟨_, rfl, 0, rfl, _, rfl, iteF ⟨_, rfl, rfl, _, rfl, ite2 (fun _ => ⟨_, rfl, _, rfl, rv.here⟩) (fun h => absurd (decide_eq_true rfl) h)⟩⟩
structure BaseN (P : Program) (w : World) (K : W.Frag) (mg : Str → Option Value) (base : Heap) (C Wc : Addr) : Prop where
  mgA : mg "Amount" = some (.ref C)
  make : ∃ fI fd, Mk K C fI ∧ FnOk P w K mg base (L2.CX P w) 2 fI fd ["self", "top", "bottom"] (spInitN C Wc) ∧ Binds K fd ["self", "top", "bottom"] [] ∧ (∃ ds, Vals [V.int 1] ds ∧ Binds K fd ["self", "top", "bottom"] ds) ∧
    KBn K fd ["self", "top", "bottom"] 1 [("bottom" : Str), "top"] (fun us ws => us ++ ws.reverse) (fun us ws => us ++ ws.reverse)
def tMkN (C Wc : Addr) (E : XK) (t : TA) : TE := fun σ H Q => t σ H fun vs H1 => ∃ v d, vs = [v, d] ∧ ((NoI C H1 v ∧ RefV Wc v H1 E) ∨ (∃ n : Int, v = .int n ∧ (NoI C H1 d ∨ d = .int 0) ∧ RefV Wc d H1 E))
def tMkN1 (C Wc : Addr) (E : XK) (t : TA) : TE := fun σ H Q => t σ H fun vs H1 => ∃ v, vs = [v] ∧ NoI C H1 v ∧ RefV Wc v H1 E
theorem made_ext {H1 : Hp} {x dx : Addr} (hx : H1 x = none) (hdx : H1 dx = none) : Am.Ext H1 (upd (upd H1 dx (.own x)) x (.ins C dx [])) := fun b u e => by
  have nx := ne_of_none e hx
  rw [upd_ne nx, upd_ne (ne_of_none e hdx)]
  exact e
end
section
variable {X : Cx} {C Wc : Addr} {p pos : Pos} {e e2 : Expr} {es : List Expr} {kws : List Keyword} {t : TA} {E : XK}
theorem pe_mkN (B : BaseN X.prog X.w X.K X.mg X.base C Wc) (hr : Room 3 X.A) (hg : Gl X "Amount") (hx : Passes (L2.CX X.prog X.w) X E) (ha : PA X (e :: es) t) (he : starEach (e :: es) X.env = (false, eval e X.env) :: starEach es X.env := by rfl) (hpl : (backTo pos (starEach es X.env)).any (·.1) = false := by rfl) :
    PE X (.Call (.Name "Amount" p) (e :: es) [] pos) (tMkN C Wc E t) := by
  obtain ⟨fI, fd, M, F, b2, _⟩ := B.make
  refine ⟨fun pins s σ H Q I h => ?_⟩
  refine wpAny_Call_Name_kw (ld_glob I hg B.mgA ?_ (by decide))
  refine PySem.W.callWith_K (h₀ := X.base) I.ok.mod.kin M.kp (thn (ha.run pos pins s σ H _ I h) fun us s1 ⟨vs, H1, I1, r, v, d, ev, z⟩ => ⟨I1.kIn, ?_⟩) he hpl
  subst ev
  refine run_make (E := E) M F hr b2 .nil hx I1 r fun x dx hx hdx ne => ?_
  have ex := made_ext (C := C) hx hdx
  exact ⟨x, dx, v, d, rfl, upd_same, z.imp (fun ⟨a, b⟩ => ⟨a.ext ex, b.on ex⟩) fun ⟨n, a, b, c⟩ => ⟨n, a, b.imp (fun b => b.ext ex) fun b => b, c.on ex⟩⟩
theorem pe_mkN1 (B : BaseN X.prog X.w X.K X.mg X.base C Wc) (hr : Room 3 X.A) (hg : Gl X "Amount") (hx : Passes (L2.CX X.prog X.w) X E) (ha : PA X (e :: es) t) (he : starEach (e :: es) X.env = (false, eval e X.env) :: starEach es X.env := by rfl) (hpl : (backTo pos (starEach es X.env)).any (·.1) = false := by rfl) :
    PE X (.Call (.Name "Amount" p) (e :: es) [] pos) (tMkN1 C Wc E t) := by
  obtain ⟨fI, fd, M, F, _, ⟨ds, hv, b1⟩, _⟩ := B.make
  refine ⟨fun pins s σ H Q I h => ?_⟩
  refine wpAny_Call_Name_kw (ld_glob I hg B.mgA ?_ (by decide))
  refine PySem.W.callWith_K (h₀ := X.base) I.ok.mod.kin M.kp (thn (ha.run pos pins s σ H _ I h) fun us s1 ⟨vs, H1, I1, r, v, ev, a, b⟩ => ⟨I1.kIn, ?_⟩) he hpl
  subst ev
  refine run_make (E := E) M F hr b1 hv hx I1 r fun x dx hx hdx ne => ?_
  have ex := made_ext (C := C) hx hdx
  exact ⟨x, dx, v, .int 1, rfl, upd_same, .inl ⟨a.ext ex, b.on ex⟩⟩
/-- Amount(bottom=.., top=..): what the new instance asks -/
theorem mk_kw {H : Hp} {v d : V} (Q : Addr → VK) (z : (NoI C H v ∧ RefV Wc v H E) ∨ (∃ n : Int, v = .int n ∧ (NoI C H d ∨ d = .int 0) ∧ RefV Wc d H E)) : ∀ x dx, H x = none → H dx = none → dx ≠ x →
    spInitN C Wc ((fun us ws : List V => us ++ ws.reverse) [V.ref x] [d, v]) (upd (upd H dx (.own x)) x (.ins C dx [])) (Q x) E := fun x dx hx hdx ne => by
  have ex := made_ext (C := C) hx hdx
  exact ⟨x, dx, v, d, rfl, upd_same, z.imp (fun ⟨a, b⟩ => ⟨a.ext ex, b.on ex⟩) fun ⟨n, a, b, c⟩ => ⟨n, a, b.imp (fun b => b.ext ex) fun b => b, c.on ex⟩⟩
end
/-! ### rounded, read -/
section
variable {P : Program} {w : World} {K : W.Frag} {mg : Str → Option Value} {base : Heap} {C Wc WT f : Addr} {fd : FuncData}
def spRndN (C Wc : Addr) : Sp := fun vs H Q E => ∃ a q v, vs = [.ref a, v] ∧ Is C H a q ∧ (NoI C H v ∨ ∃ i, v = .int i ∧ (i < 0 ∨ 12 < i)) ∧ RefV Wc v H E
theorem ok_rndN {t : Tok} (DC : Dn P w K mg base CX0 2 "is_count" ["value"] spCount) (DO : Dn P w K mg base CX0 2 "is_count" ["value"] (spWholeN C)) (WR : Wr K mg "InvalidCount" Wc) (mgP : mg "MOST_PLACES" = some (.int 12 t)) (F : Fun K "rounded" "Amount.rounded" (am 28) f fd) :
    FnOk P w K mg base (L2.CX P w) 3 f fd ["self", "places"] (spRndN C Wc) := by
  refine F.okX scRnd (fun vs H Q E h => ?_) (fun cdv A' outer s H vs Q E hr h => ?_)
  · obtain ⟨a, q, v, rfl, _⟩ := h
    rfl
  · obtain ⟨a, q, v, rfl, ia, od | ⟨i, rfl, hi⟩, rv⟩ := h
    · refine ⟨_, pss_cons (ps_if (PW.pt (pw_or (pt_not (pt_val (pe_dn DO hr (by rfl) (by decide) (pa_cons (pv 1) pa_nil)))) (pw_or1 (pt_cmpR op_gt (pv 1) (pe_glob (v := V.int 12) rfl mgP ⟨t, rfl⟩) (nomark _))))) (pss_one (ps_raise rfl (takes_of rfl rfl rfl rfl) (Gx.pmk1 WR.e1 (WR.rs rfl) hr rfl WR.mgW (pa_cons (pv 1) pa_nil)))) pss_nil) pss_never, ?_⟩
      exact ⟨_, rfl, v, rfl, od, _, rfl, iteT ⟨_, rfl, _, rfl, rv.here⟩⟩
    · refine ⟨_, pss_cons (ps_if (PW.pt (pw_or (pt_not (pt_val (pe_dn DC hr (by rfl) (by decide) (pa_cons (pv 1) pa_nil)))) (pw_or1 (pt_cmpR op_gt (pv 1) (pe_glob (v := V.int 12) rfl mgP ⟨t, rfl⟩) (nomark _))))) (pss_one (ps_raise rfl (takes_of rfl rfl rfl rfl) (Gx.pmk1 WR.e1 (WR.rs rfl) hr rfl WR.mgW (pa_cons (pv 1) pa_nil)))) pss_nil) pss_never, ?_⟩
      refine ⟨_, rfl, i, rfl, _, rfl, ?_⟩
      by_cases h0 : 0 ≤ i
      · rw [decide_eq_true h0]
        refine iteF ⟨_, rfl, _, _, rfl, rfl, _, rfl, ite2 (fun _ => ⟨_, rfl, _, rfl, rv.here⟩) (fun h => absurd (decide_eq_true (show (12 : Int) < i by omega)) h)⟩
      · rw [decide_eq_false h0]
        exact iteT ⟨_, rfl, _, rfl, rv.here⟩
/-- what is no text -/
def NoS (C : Addr) (H : Hp) (v : V) : Prop := (∃ T, Bt H v T ∧ T ≠ "str") ∨ ∃ a q, v = .ref a ∧ Is C H a q
theorem NoS.ext {H H' : Hp} {v : V} (o : NoS C H v) (e : Am.Ext H H') : NoS C H' v := o.imp (fun ⟨T, b, n⟩ => ⟨T, b.ext e, n⟩) fun ⟨a, q, h, i⟩ => ⟨a, q, h, i.ext e⟩
def spReadO (C WT : Addr) : Sp := fun vs H Q E => ∃ v, vs = [v] ∧ NoS C H v ∧ RefT WT H E
theorem ok_readO (fr : Frees mg) (kn : Kn K C) (WR : WrL K mg "InvalidText" WT) (F : Fun K "read" "Amount.read" (am 2) f fd) : FnOk P w K mg base (L2.CX P w) 4 f fd ["text"] (spReadO C WT) := by
  refine F.okX scRead (fun vs H Q E h => ?_) (fun cdv A outer s H vs Q E hr h => ?_)
  · obtain ⟨v, rfl, _⟩ := h
    rfl
  · obtain ⟨v, rfl, no, rf⟩ := h
    refine ⟨_, pss_cons (ps_if (pt_not (pt_val (pe_callB call_isi rfl (fr.h _ (by decide +kernel)) (by decide +kernel) (pa_cons (pv 0) (pa_cons (pe_bltn (v := V.ty "str") rfl (fr.h _ (by decide +kernel)) (by rfl) rfl) pa_nil))))) (pss_one (ps_raise rfl (takes_of rfl rfl rfl rfl) (Gx.pmk1 WR.e1 (WR.rs rfl) hr rfl WR.mgW (pa_cons pe_int pa_nil)))) pss_nil) pss_never, ?_⟩
    rcases no with ⟨T, bt, ns⟩ | ⟨a, r, rfl, dx, ea⟩
    · have kst : ∀ {T' : String}, T' ∈ seven → T' ≠ "str" → PySem.W.kitOne K (.type T') (.type "str") = some false := fun {T'} hm n => by
        simp only [seven, List.mem_cons, List.not_mem_nil, or_false] at hm
        rcases hm with rfl | rfl | rfl | rfl | rfl | rfl | rfl
        all_goals first | exact kit_ty (by decide +kernel) | exact absurd rfl n
      exact ⟨_, rfl, _, _, _, _, false, rfl, ClsV.ty "str", bt.ty, kst bt.mem ns, _, rfl, iteT ⟨_, rfl, rf.here⟩⟩
    · exact ⟨_, rfl, _, _, _, _, false, rfl, ClsV.ty "str", TyX.base (TyOf.ins ea kn.ins.cl kn.ins.ha kn.ins.hn kn.ins.htk kn.ins.hm), kn.nS, _, rfl, iteT ⟨_, rfl, rf.here⟩⟩
end
end KC

set_option Elab.async false
set_option linter.all false
set_option maxRecDepth 100000
set_option maxHeartbeats 1000000
set_option exponentiation.threshold 20000
/-! _law_is_count. -/
namespace TX
open PySem PySem.Spec PyProof.Rows L2 Oo Gd Am KA NumText
open TL (numL spl par)
theorem spl_ne (S : List Nat) : ∀ (l : List Nat) (k : Nat) (acc : List Nat), spl S k acc l ≠ []
  | [], k, acc => by rw [TL.spl_nil]; simp
  | c :: r, 0, acc => by
    unfold spl
    split
    · simp
    · exact spl_ne S r 0 _
  | c :: r, k + 1, acc => spl_ne S r k acc
theorem spl_len (S : List Nat) : ∀ (l : List Nat) (k : Nat) (acc a : List Nat), a ∈ spl S k acc l → a.length ≤ acc.length + l.length
  | [], k, acc, a, h => by
    rw [TL.spl_nil] at h
    rw [List.mem_singleton.mp h]
    simp
  | c :: r, 0, acc, a, h => by
    unfold spl at h
    split at h
    · rcases List.mem_cons.mp h with e | h
      · rw [e]; omega
      · have := spl_len S r _ [] a h
        simp only [List.length_nil, List.length_cons] at this ⊢
        omega
    · have := spl_len S r 0 _ a h
      rw [List.length_append] at this
      simp only [List.length_cons, List.length_nil] at this ⊢
      omega
  | c :: r, k + 1, acc, a, h => by
    have := spl_len S r k acc a h
    rw [List.length_cons]
    omega
theorem hv_len {l a : List Nat} (h : a ∈ hv l) : a.length ≤ l.length := by
  have := spl_len _ _ _ _ _ h
  have := bd_len l
  simp only [List.length_nil] at *
  omega
theorem hv_ne (l : List Nat) : hv l ≠ [] := spl_ne _ _ _ _
/-- the first signs of a text, and the rest -/
theorem cut_take (x : Str) : cutS x none (some 1) = SX.S ((TL.tl x).take 1) := by
  rw [C8.cutS_slice, ← SX.S_tl x]
  exact SX.slice_to (by decide)
theorem cut_drop (x : Str) : cutS x (some 1) none = SX.S ((TL.tl x).drop 1) := by
  rw [C8.cutS_slice, ← SX.S_tl x]
  exact SX.slice_from (by decide)
theorem take_neg (x : Str) : decide (V.str (cutS x none (some 1)) = V.str "-") = ng (TL.tl x) := by
  rw [cut_take]
  unfold ng
  refine decide_eq_decide.mpr ⟨fun h => ?_, fun h => ?_⟩
  · have e := congrArg (fun v : V => match v with | .str y => TL.tl y | _ => []) h
    exact e
  · rw [h]
    rfl
end TX
namespace KC
open PySem PySem.Spec PyProof.Rows L2 Oo Gd Am KA TX NumText
section
variable {P : Program} {w : World} {K : W.Frag} {mg : Str → Option Value} {base : Heap} {f C WT : Addr} {fd : FuncData}
def spCnt : Sp := fun vs H Q _ => ∃ x : Str, vs = [.str x] ∧ x.length ≤ 3000 ∧ ∀ H', Am.Ext H H' → Q (.bl (TX.cnt (TL.tl x))) H'
theorem scCnt : FnScope ["_law_wording", "_law_sign"] ["_law_wording"] (defScope (top 33)) := ⟨rfl, rfl, rfl, by decide +kernel, rfl, by decide +kernel, by decide +kernel⟩
theorem str_eq {x y : Str} : decide (V.str x = V.str y) = decide (TL.tl x = TL.tl y) := decide_eq_decide.mpr ⟨fun h => by rw [V.str.inj h], fun h => by rw [TL.ext_tl h]⟩
theorem ok_cnt (fr : Frees mg) (F : Fun K "_law_is_count" "_law_is_count" (top 33) f fd) : FnOk P w K mg base CX0 1 f fd ["_law_wording"] spCnt := by
  refine F.ok scCnt (fun vs H Q E h => ?_) (fun cdv A outer s H vs Q E hr h => ?_)
  · obtain ⟨x, rfl, _⟩ := h
    rfl
  · obtain ⟨x, rfl, lx, z⟩ := h
    have nd := scCnt.nd
    have isk : IsK K := ⟨trivial⟩
    refine ⟨_, pss_cons (ps_if (PW.pt (pw_or (pt_cmpR op_eq (pv 0) pe_str (nomark _)) (pw_or1 (pt_not (pt_val (pe_callB (allK isk rfl) rfl (fr.h _ (by decide +kernel)) (by decide +kernel) (pa_cons (pe_lc (own := [("_law_sign", 1)]) (g := gName 1) (tt := tYes) rfl nd (pi_str (pv 0)) (blkOk_by (N := ["_law_wording", "_law_sign"]) (sc := defScope (top 33)) (by decide +kernel)) (fun _ _ _ _ _ => pg_name (i := 1) nd rfl (Or.inl rfl)) (fun _ _ _ _ _ => pts_nil) (fun _ _ _ _ _ => pe_cmpR op_in_sign (pv 1) pe_str rfl)) pa_nil))))))) (pss_one (ps_ret pe_bl)) pss_nil)
      (pss_one (ps_ret (pe_or (pe_cmpR op_eq (pv 0) pe_str (nomark _)) (pe_one (pe_cmpR op_ne (pe_ix ix_str (pv 0) pe_int (fun _ _ => rfl)) pe_str (nomark _)))))), ?_⟩
    have big : (3000 : Nat) < sizeLine := by decide
    have lt := TL.len_tl x
    have t0 : TL.tl (Str.ofString "") = [] := by decide
    have t1 : TL.tl (Str.ofString "0") = [48] := by decide
    refine ⟨_, rfl, rfl, _, rfl, ?_⟩
    rw [str_eq, t0]
    cases el : TL.tl x with
    | nil =>
      rw [decide_eq_true rfl]
      rw [el] at z
      exact iteT (z H (Am.Ext.refl H))
    | cons c r =>
      rw [decide_eq_false (by simp)]
      refine iteF ⟨_, rfl, _, rfl, fun D hD => ?_⟩
      refine lc_it walk_str (fun i H' => Am.Ext H H' ∧ H' D = some (.lst (((TL.tl x).take i).map fun c => V.bl (fig c)))) ⟨Am.Ext.new hD, by rw [upd_same]; rfl⟩ (fun _ _ _ _ => trivial) ?_ ?_
      · rintro i y H' H2 hi ⟨e, d⟩ ⟨rfl, c, hc, rfl⟩
        have hc' := tl_get x i c hc
        refine ⟨rfl, _, rfl, c, _, rfl, rfl, _, d, ?_, ⟨fun b o hb => ?_, ?_⟩⟩
        · rw [List.length_map, List.length_take]
          omega
        · rw [upd_ne (ne_of_none hb hD)]
          exact e b o hb
        · rw [upd_same, take_succ hc', List.map_append, in_digits]
          rfl
      · rintro H' ⟨e, d⟩
        rw [show x.cps.size = (TL.tl x).length from lt, List.take_length] at d
        refine ⟨D, (TL.tl x).map fig, rfl, SqL.of (by rw [d, List.map_map]; rfl), ?_⟩
        have ea : ((TL.tl x).map fig).all id = (TL.tl x).all fig := by rw [List.all_map]; rfl
        have key : TX.cnt (TL.tl x) = ((TL.tl x).all fig && (decide (TL.tl x = [48]) || !decide ((TL.tl x).take 1 = [48]))) := by
          unfold TX.cnt
          rw [el]
          rfl
        have zz := z H' e
        rw [key] at zz
        rw [ea]
        cases hf : (TL.tl x).all fig with
        | false =>
          rw [hf, Bool.false_and] at zz
          exact ⟨_, rfl, iteT zz⟩
        | true =>
          rw [hf, Bool.true_and] at zz
          refine ⟨_, rfl, iteF ⟨_, rfl, rfl, _, rfl, ?_⟩⟩
          rw [str_eq, t1]
          cases h48 : decide (TL.tl x = [48]) with
          | true =>
            rw [h48, Bool.true_or] at zz
            exact zz
          | false =>
            rw [h48, Bool.false_or] at zz
            refine ⟨_, rfl, x, _, c, rfl, rfl, (by omega), ?_, rfl, ?_⟩
            · show atI x.cps.toList ((0 : Nat) : Int) = some c
              exact atI_nat (by rw [show x.cps.toList = c :: r from el]; rfl)
            · rw [str_eq, t1]
              rw [el] at zz
              exact zz
end
end KC

set_option Elab.async false
set_option linter.all false
set_option maxRecDepth 100000
set_option maxHeartbeats 2000000
set_option exponentiation.threshold 20000
/-! _law_fraction_in. -/
namespace TX
open PySem PySem.Spec PyProof.Rows L2 Oo Gd Am KA NumText
open TL (numL spl par)
theorem cnt_all {l : List Nat} (h : TX.cnt l = true) : AllDigits l ∧ l ≠ [] := by
  unfold TX.cnt at h
  rw [Bool.and_eq_true, Bool.and_eq_true] at h
  refine ⟨all_fig.mp h.2.1, fun e => ?_⟩
  rw [e] at h
  exact absurd h.1 (by decide)
theorem hv_cnt (q : Rat) : (hv (wr q)).length ≤ 2 ∧ (hv (wr q)).all TX.cnt = true := by
  rw [hv_wr]
  split
  · exact ⟨by simp, by simp [cnt_numL]⟩
  · exact ⟨by simp, by simp [cnt_numL]⟩
theorem split_hv (x y : Str) (h : TL.tl y = bd (TL.tl x)) : (Txt.split y "/").map V.str = (hv (TL.tl x)).map fun a => V.str (SX.S a) := by
  have e : (Str.ofString "/") = SX.S [47] := by decide
  rw [e, ← SX.S_tl y, SX.split_S (by decide) (by decide), List.map_map]
  show List.map _ (spl [47] 0 [] (TL.tl y)) = List.map _ (spl [47] 0 [] (bd (TL.tl x)))
  rw [h]
  rfl
theorem tl_S (a : List Nat) : TL.tl (SX.S a) = a := rfl
end TX
namespace KC
open PySem PySem.Spec PyProof.Rows L2 Oo Gd Am KA TX NumText
section
variable {P : Program} {w : World} {K : W.Frag} {mg : Str → Option Value} {base : Heap} {f C WT : Addr} {fd : FuncData}
/-- the fraction of a text, or None -/
def spFr : Sp := fun vs H Q _ => ∃ x : Str, vs = [.str x] ∧ x.length ≤ 600 ∧ ((∃ q, x = written q ∧ ∀ t H', Am.Ext H H' → H' t = some (.tup [.int q.num, .int q.den]) → Q (.ref t) H') ∨ ((∀ q, x ≠ written q) ∧ ∀ H', Am.Ext H H' → Q .non H'))
abbrev nFr : List Str := ["_law_wording", "_law_halves", "_law_high", "_law_low", "_law_part_here", "_law_half"]
theorem scFr : FnScope nFr ["_law_wording"] (defScope (top 34)) := ⟨rfl, rfl, rfl, by decide +kernel, rfl, by decide +kernel, by decide +kernel⟩
theorem ok_fr (fr : Frees mg) (DC : Dn P w K mg base CX0 1 "_law_is_count" ["_law_wording"] spCnt) (DL : DnL P w K mg base) (DW : Dn P w K mg base CX0 1 "_law_written" ["_law_part_here"] (spTxt K written)) (F : Fun K "_law_fraction_in" "_law_fraction_in" (top 34) f fd) : FnOk P w K mg base CX0 2 f fd ["_law_wording"] spFr := by
  refine F.ok scFr (fun vs H Q E h => ?_) (fun cdv A outer s H vs Q E hr h => ?_)
  · obtain ⟨x, rfl, _⟩ := h
    rfl
  · obtain ⟨x, rfl, lx, h⟩ := h
    have nd := scFr.nd
    have isk : IsK K := ⟨trivial⟩
    refine ⟨_, C8.pss_cut (ps_set (i := 1) nd rfl (.inl rfl) (pe_split (pe_ifExp (pt_cmpR op_eq (pe_slice sl_str (pv 0) po_none (po_some pe_int)) pe_str (nomark _)) (pe_slice sl_str (pv 0) (po_some pe_int) po_none) (pv 0)) pe_str))
      (pss_cons (ps_if (PW.pt (pw_or (pt_cmpR op_gt (pe_callB call_len_seq rfl (fr.h _ (by decide +kernel)) (by decide +kernel) (pa_cons (pv 1) pa_nil)) pe_int (nomark _)) (pw_or1 (pt_not (pt_val (pe_callB (allK isk rfl) rfl (fr.h _ (by decide +kernel)) (by decide +kernel) (pa_cons (pe_lc (own := [("_law_half", 5)]) (g := gName 5) (tt := tYes) rfl nd (listK isk (pv 1)) (blkOk_by (N := nFr) (sc := defScope (top 34)) (by decide +kernel)) (fun _ _ _ _ _ => pg_name (i := 5) nd rfl (Or.inl rfl)) (fun _ _ _ _ _ => pts_nil) (fun _ _ _ _ _ => pe_dn DC hr (by rfl) (by decide) (pa_cons (pv 5) pa_nil))) pa_nil))))))) (pss_one (ps_ret pe_non)) pss_nil)
      (C8.pss_cut (ps_par (i := 2) (j := 3) rfl nd rfl rfl (by decide) rfl rfl (pa_cons (pe_callTy call_int_str rfl (fr.h _ (by decide +kernel)) (by decide +kernel) (pa_cons (pe_ix ix_list (pv 1) pe_int (fun _ _ => rfl)) pa_nil)) (pa_cons (pe_ifExp (pt_cmpR op_eq (pe_callB call_len_seq rfl (fr.h _ (by decide +kernel)) (by decide +kernel) (pa_cons (pv 1) pa_nil)) pe_int (nomark _)) (pe_callTy call_int_str rfl (fr.h _ (by decide +kernel)) (by decide +kernel) (pa_cons (pe_ix ix_list (pv 1) pe_int (fun _ _ => rfl)) pa_nil)) pe_int) pa_nil)) (by rfl))
      (pss_cons (ps_if (pt_cmpR op_eq (pv 3) pe_int (nomark _)) (pss_one (ps_ret pe_non)) pss_nil)
      (C8.pss_cut (ps_set (i := 4) nd rfl (.inl rfl) (pe_dn DL hr (by rfl) (by decide) (pa_cons (pe_ifExp (pt_cmpR op_eq (pe_slice sl_str (pv 0) po_none (po_some pe_int)) pe_str (nomark _)) (pe_op op_sub pe_int (pv 2)) (pv 2)) (pa_cons (pv 3) pa_nil))))
      (pss_one (ps_ret (pe_ifExp (pt_cmpR op_eq (pe_dn DW hr (by rfl) (by decide) (pa_cons (pv 4) pa_nil)) (pv 0) (nomark _)) (pv 4) pe_non))))))), ?_⟩
    have big : (3000 : Nat) < sizeLine := by decide
    have lt := TL.len_tl x
    have e1 : ∀ y : Str, TL.tl y = bd (TL.tl x) → (Txt.split y "/").map V.str = (hv (TL.tl x)).map fun a => V.str (SX.S a) := fun y h => split_hv x y h
    have vc : ∀ q, x = written q → TL.tl x = wr q := fun q e => by rw [e, tl_written]
    generalize hl : TL.tl x = l at *
    refine ⟨fun σ H' => ∃ h0, σ = [some (.str x), some (.ref h0), none, none, none, none] ∧ H' h0 = some (.lst ((hv l).map fun a => V.str (SX.S a))) ∧ Am.Ext H H', ?_, ?_⟩
    · refine ⟨_, rfl, _, rfl, x, rfl, (by omega), rfl, _, rfl, ?_⟩
      rw [take_neg, hl]
      cases hn : ng l with
      | true =>
        have eb : bd l = l.drop 1 := by
          unfold ng at hn
          unfold bd
          rw [if_pos (by simpa using hn)]
        refine iteT ⟨_, rfl, _, rfl, x, rfl, (by omega), ⟨_, rfl⟩, _, _, rfl, rfl, by decide, ?_, fun p hp => ?_⟩
        · have := cutS_length x (some 1) none
          omega
        · refine ⟨p, rfl, ?_, Am.Ext.new hp⟩
          rw [upd_same, e1 _ (by rw [cut_drop, hl, eb])]
      | false =>
        have eb : bd l = l := by
          unfold ng at hn
          unfold bd
          rw [if_neg (by simpa using hn)]
        refine iteF ⟨_, rfl, ⟨_, rfl⟩, _, _, rfl, rfl, by decide, by omega, fun p hp => ?_⟩
        refine ⟨p, rfl, ?_, Am.Ext.new hp⟩
        rw [upd_same, e1 _ (by rw [hl, eb])]
    rintro σ H1 ⟨h0, rfl, hh, x1⟩
    have no : ∀ {H'}, Am.Ext H H' → (∀ q, l = wr q → False) → Q .non H' := fun {H'} e k => by
      rcases h with ⟨q, e, _⟩ | ⟨_, z⟩
      · exact (k q (vc q e)).elim
      · exact z _ ‹_›
    have hlen : ((hv l).map fun a => V.str (SX.S a)).length = (hv l).length := List.length_map ..
    refine ⟨_, rfl, h0, _, rfl, .inl (SqL.of hh), _, _, rfl, rfl, _, rfl, ?_⟩
    rw [hlen]
    by_cases h2 : (2 : Int) < ((hv l).length : Int)
    · rw [decide_eq_true h2]
      refine iteT (no x1 fun q e => ?_)
      have := (hv_cnt q).1
      rw [e] at h2
      omega
    rw [decide_eq_false h2]
    refine iteF ⟨_, rfl, h0, rfl, ⟨_, SqL.of hh⟩, fun D hD => ?_⟩
    have hh2 := Am.Ext.new (o := .lst []) hD _ _ hh
    have nD := ne_of_none hh hD
    refine lc_list (xs := (hv l).map fun a => V.str (SX.S a)) (fun i H' => Am.Ext H1 H' ∧ H' D = some (.lst (((hv l).take i).map fun a => V.bl (TX.cnt a)))) ⟨Am.Ext.new hD, upd_same⟩ (fun i H' _ p => SqL.of (p.1 _ _ hh)) ?_ ?_
    · rintro i y H' hy ⟨e, d⟩
      rw [List.getElem?_map] at hy
      cases ha : (hv l)[i]? with
      | none => rw [ha] at hy; cases hy
      | some a =>
        rw [ha] at hy
        cases hy
        have la := hv_len (List.mem_of_getElem? ha)
        have lS : (SX.S a).length = a.length := TL.len_tl _
        refine ⟨rfl, _, rfl, SX.S a, rfl, (by omega), fun H2 f2 => ⟨_, f2 _ _ d, ?_, fun b o hb => ?_, ?_⟩⟩
        · rw [List.length_map, List.length_take]
          omega
        · rw [upd_ne (ne_of_none hb hD)]
          exact f2 _ _ (e b o hb)
        · have : (hv l).take (i + 1) = (hv l).take i ++ [a] := by rw [List.take_succ, ha]; rfl
          rw [upd_same, this, List.map_append]
          rfl
    rintro H2 ⟨x2, d⟩
    rw [hlen, List.take_length] at d
    refine ⟨D, (hv l).map TX.cnt, rfl, SqL.of (by rw [d, List.map_map]; rfl), ?_⟩
    have ea : ((hv l).map TX.cnt).all id = (hv l).all TX.cnt := by rw [List.all_map]; rfl
    rw [ea]
    have y2 := x2
    replace x2 := x1.trans x2
    cases hc : (hv l).all TX.cnt with
    | false =>
      refine ⟨_, rfl, iteT (no x2 fun q e => ?_)⟩
      have := (hv_cnt q).2
      rw [← e, hc] at this
      cases this
    | true =>
    refine ⟨_, rfl, iteF ?_⟩
    have hh3 : H2 h0 = some (.lst ((hv l).map fun a => V.str (SX.S a))) := by
      exact y2 _ _ hh
    clear d nD hh2 hD
    rw [List.all_eq_true] at hc
    have pos := List.length_pos_iff.mpr (hv_ne l)
    -- the first half
    obtain ⟨a0, ha0⟩ : ∃ a, (hv l)[0]? = some a := ⟨_, List.getElem?_eq_getElem pos⟩
    have g0 : (hv l).getD 0 [] = a0 := by rw [List.getD_eq_getElem?_getD, ha0]; rfl
    obtain ⟨dg0, ne0⟩ := cnt_all (hc a0 (List.mem_of_getElem? ha0))
    have la0 := hv_len (List.mem_of_getElem? ha0)
    have lS0 : (SX.S a0).length = a0.length := TL.len_tl _
    have i0 : PySem.intText? (SX.S a0) = some ((digitsVal a0 : Nat) : Int) := intText_digits dg0 ne0 (by omega)
    have b0 : digitsVal a0 < 2 ^ 2400 := val_bits (n := 600) dg0 (by omega)
    have at0 : atI ((hv l).map fun a => V.str (SX.S a)) 0 = some (.str (SX.S a0)) := atI_nat (by rw [List.getElem?_map, ha0]; rfl)
    have bl : lo l < 2 ^ 2400 := by
      unfold TX.lo
      split
      · next h2 =>
        obtain ⟨a1, ha1⟩ : ∃ a, (hv l)[1]? = some a := ⟨_, List.getElem?_eq_getElem (by omega)⟩
        have g1 : (hv l).getD 1 [] = a1 := by rw [List.getD_eq_getElem?_getD, ha1]; rfl
        rw [g1]
        have := hv_len (List.mem_of_getElem? ha1)
        exact val_bits (n := 600) (cnt_all (hc a1 (List.mem_of_getElem? ha1))).1 (by omega)
      · exact Nat.lt_of_lt_of_le (by decide) (Nat.pow_le_pow_right (show 1 ≤ 2 by decide) (show 1 ≤ 2400 by decide))
    refine ⟨fun σ H' => H' = H2 ∧ σ = [some (.str x), some (.ref h0), some (.int ((digitsVal a0 : Nat) : Int)), some (.int (lo l : Int)), none, none], ?_, ?_⟩
    · refine ⟨_, rfl, h0, _, 0, _, rfl, rfl, SqL.of hh3, at0, _, _, rfl, i0, (by omega), ?_⟩
      refine ⟨_, rfl, h0, _, rfl, .inl (SqL.of hh3), rfl, _, rfl, ?_⟩
      have el : decide (V.int ((((hv l).map fun a => V.str (SX.S a)).length : Nat) : Int) = V.int 2) = decide ((hv l).length = 2) := decide_eq_decide.mpr ⟨fun h => by have := V.int.inj h; rw [hlen] at this; omega, fun h => by rw [hlen, h]; rfl⟩
      rw [el]
      by_cases h3 : (hv l).length = 2
      · obtain ⟨a1, ha1⟩ : ∃ a, (hv l)[1]? = some a := ⟨_, List.getElem?_eq_getElem (by omega)⟩
        have g1 : (hv l).getD 1 [] = a1 := by rw [List.getD_eq_getElem?_getD, ha1]; rfl
        have el1 : lo l = digitsVal a1 := by unfold TX.lo; rw [if_pos h3, g1]
        obtain ⟨dg1, ne1⟩ := cnt_all (hc a1 (List.mem_of_getElem? ha1))
        have la1 := hv_len (List.mem_of_getElem? ha1)
        have lS1 : (SX.S a1).length = a1.length := TL.len_tl _
        have i1 : PySem.intText? (SX.S a1) = some ((digitsVal a1 : Nat) : Int) := intText_digits dg1 ne1 (by omega)
        have at1 : atI ((hv l).map fun a => V.str (SX.S a)) 1 = some (.str (SX.S a1)) := atI_nat (by rw [List.getElem?_map, ha1]; rfl)
        rw [decide_eq_true h3, el1]
        exact iteT ⟨_, rfl, h0, _, 1, _, rfl, rfl, SqL.of hh3, at1, _, _, rfl, i1, (by omega), _, _, rfl, rfl, rfl⟩
      · have el1 : lo l = 1 := by unfold TX.lo; rw [if_neg h3]
        rw [decide_eq_false h3, el1]
        exact iteF ⟨_, _, rfl, rfl, rfl⟩
    rintro σ H3 ⟨rfl, rfl⟩
    refine ⟨_, rfl, rfl, _, rfl, ite2 (fun hz => ?_) (fun hz => ?_)⟩
    · have z0 : lo l = 0 := by simpa using hz
      refine no x2 fun q e => ?_
      rw [e, lo_wr] at z0
      have := q.den_pos
      omega
    have z0 : 0 < lo l := by
      have : lo l ≠ 0 := by simpa using hz
      omega
    have ehi : hi l = if ng l then -((digitsVal a0 : Nat) : Int) else ((digitsVal a0 : Nat) : Int) := by unfold hi; rw [g0]
    have bhi : (hi l).natAbs < 2 ^ 2400 := by rw [ehi]; split <;> omega
    have bD : ((lo l : Int)).natAbs < 2 ^ 2400 := by omega
    refine ⟨fun σ H' => ∃ t, σ = [some (.str x), some (.ref h0), some (.int ((digitsVal a0 : Nat) : Int)), some (.int (lo l : Int)), some (.ref t), none] ∧ H' t = some (.tup [.int (Rat.divInt (hi l) (lo l)).num, .int (Rat.divInt (hi l) (lo l)).den]) ∧ Am.Ext H H', ?_, ?_⟩
    · refine ⟨_, rfl, _, rfl, x, rfl, (by omega), rfl, _, rfl, ?_⟩
      rw [take_neg, hl]
      cases hn : ng l with
      | true =>
        rw [hn, if_pos rfl] at ehi
        refine iteT ⟨_, rfl, _, _, rfl, rfl, _, rfl, hi l, (lo l : Int), ?_, by omega, Nat.lt_trans bhi (by decide), Nat.lt_trans bD (by decide), fun t H4 f4 n4 t4 => ⟨t, rfl, t4, x2.trans f4⟩⟩
        rw [ehi]
        show [V.int (0 - ((digitsVal a0 : Nat) : Int)), V.int _] = _
        rw [Int.zero_sub]
      | false =>
        rw [hn, if_neg (by decide)] at ehi
        refine iteF ⟨_, rfl, _, rfl, hi l, (lo l : Int), ?_, by omega, Nat.lt_trans bhi (by decide), Nat.lt_trans bD (by decide), fun t H4 f4 n4 t4 => ⟨t, rfl, t4, x2.trans f4⟩⟩
        rw [ehi]
        rfl
    rintro σ H4 ⟨t, rfl, ht, x4⟩
    obtain ⟨g1, g2⟩ := divInt_le (hi l) (lo l) (by omega)
    have lw : Low 8000 (Rat.divInt (hi l) (lo l)) := ⟨Nat.lt_of_le_of_lt g1 (Nat.lt_trans bhi (by decide)), Nat.lt_of_le_of_lt g2 (Nat.lt_trans bD (by decide))⟩
    refine ⟨_, rfl, t, _, rfl, SqT.of ht, lw, _, rfl, rfl, _, rfl, ite2 (fun hz => ?_) (fun hz => ?_)⟩
    · have eq : written (Rat.divInt (hi l) (lo l)) = x := by simpa using hz
      rcases h with ⟨q, e, z⟩ | ⟨ne, _⟩
      · have := vc q e
        rw [this, hi_wr, lo_wr, Rat.num_divInt_den] at ht
        exact ⟨_, rfl, z t H4 x4 ht⟩
      · exact absurd eq.symm (ne _)
    · have ne : written (Rat.divInt (hi l) (lo l)) ≠ x := by simpa using hz
      refine no x4 fun q e => ?_
      rw [e, hi_wr, lo_wr, Rat.num_divInt_den] at ne
      rw [← hl, ← tl_written] at e
      exact ne (TL.ext_tl e).symm
end
end KC

set_option Elab.async false
set_option linter.all false
set_option maxRecDepth 100000
set_option maxHeartbeats 2000000
set_option exponentiation.threshold 20000
/-! _law_bent. -/
namespace TX
open PySem PySem.Spec PyProof.Rows L2 Oo Gd Am KA NumText
open TL (numL spl par joinL)
theorem spl_sum : ∀ (l acc : List Nat), ((spl [47] 0 acc l).map (·.length)).sum + (spl [47] 0 acc l).length ≤ acc.length + l.length + 1
  | [], acc => by
    rw [TL.spl_nil]
    simp
  | c :: r, acc => by
    unfold spl
    split
    · have ih := spl_sum r []
      show ((acc :: spl [47] 0 [] r).map (·.length)).sum + (acc :: spl [47] 0 [] r).length ≤ _
      rw [List.map_cons, List.sum_cons, List.length_cons]
      simp only [List.length_nil, List.length_cons] at ih ⊢
      omega
    · have ih := spl_sum r (acc ++ [c])
      rw [List.length_append] at ih
      simp only [List.length_cons, List.length_nil] at ih ⊢
      omega
theorem joinL_len (S : List Nat) : ∀ ps : List (List Nat), (joinL S ps).length ≤ (ps.map (·.length)).sum + ps.length * S.length
  | [] => by simp [joinL]
  | [p] => by simp [joinL]
  | p :: q :: r => by
    have ih := joinL_len S (q :: r)
    show (p ++ (S ++ joinL S (q :: r))).length ≤ _
    rw [List.length_append, List.length_append, List.map_cons, List.sum_cons, List.length_cons, Nat.succ_mul]
    omega
end TX
namespace KC
open PySem PySem.Spec PyProof.Rows L2 Oo Gd Am KA TX NumText
section
variable {P : Program} {w : World} {K : W.Frag} {mg : Str → Option Value} {base : Heap} {f C WT : Addr} {fd : FuncData}
/-- pick of a text: one of its signs -/
def spPickS : Sp := fun vs H Q _ => ∃ (p : Addr) (x : Str), vs = [.ref p, .str x] ∧ Pot H p ∧ 0 < x.length ∧ x.length ≤ 1000 ∧ ∀ (c : Nat) (H' : Hp), Kp p H H' → Q (.str ⟨#[c]⟩) H'
theorem scPk : FnScope ["_law_pot_here", "_law_some"] ["_law_pot_here", "_law_some"] (defScope (top 21)) := ⟨rfl, rfl, rfl, by decide +kernel, rfl, by decide +kernel, by decide +kernel⟩
theorem ok_pickS (fr : Frees mg) (D1 : DnD P w K mg base) (F : Fun K "_law_pick" "_law_pick" (top 21) f fd) : FnOk P w K mg base CX0 2 f fd ["_law_pot_here", "_law_some"] spPickS := by
  refine F.ok scPk (fun vs H Q E h => ?_) (fun cdv A outer s H vs Q E hr h => ?_)
  · obtain ⟨p, x, rfl, _⟩ := h
    rfl
  · obtain ⟨p, x, rfl, hp, l0, l1, z⟩ := h
    refine ⟨_, pss_one (ps_ret (pe_ix ix_str (pv 1) (pe_dn D1 hr (by rfl) (by decide) (pa_cons (pv 0) (pa_cons (pe_callB call_len_str rfl (fr.h _ (by decide +kernel)) (by decide +kernel) (pa_cons (pv 1) pa_nil)) pa_nil))) (fun _ _ => rfl))), ?_⟩
    have big : (3000 : Nat) < sizeLine := by decide
    have lt := TL.len_tl x
    refine ⟨_, rfl, _, rfl, _, rfl, _, rfl, (by omega), p, _, rfl, hp, (by omega), (by omega), fun d H1 d0 d1 k1 => ?_⟩
    have hd : d.toNat < (TL.tl x).length := by omega
    exact ⟨x, d, (TL.tl x)[d.toNat], rfl, rfl, (by omega), atI_int d0 (List.getElem?_eq_getElem hd), z _ _ k1⟩
def spBent : Sp := fun vs H Q _ => ∃ (p : Addr) (x : Str), vs = [.ref p, .str x] ∧ Pot H p ∧ x.length ≤ 400 ∧ ∀ (y : Str) (H' : Hp), y.length ≤ 2 * x.length + 4 → Kp p H H' → Q (.str y) H'
theorem scBent : FnScope ["_law_pot_here", "_law_wording", "_law_way", "_law_at"] ["_law_pot_here", "_law_wording"] (defScope (top 32)) := ⟨rfl, rfl, rfl, by decide +kernel, rfl, by decide +kernel, by decide +kernel⟩
theorem ok_bent (fr : Frees mg) (D1 : DnD P w K mg base) (DP : DnP P w K mg base) (DS : Dn P w K mg base CX0 2 "_law_pick" ["_law_pot_here", "_law_some"] spPickS) (F : Fun K "_law_bent" "_law_bent" (top 32) f fd) : FnOk P w K mg base CX0 3 f fd ["_law_pot_here", "_law_wording"] spBent := by
  refine F.ok scBent (fun vs H Q E h => ?_) (fun cdv A outer s H vs Q E hr h => ?_)
  · obtain ⟨p, x, rfl, _⟩ := h
    rfl
  · obtain ⟨p, x, rfl, hp, lx, z⟩ := h
    have nd := scBent.nd
    refine ⟨_, pss_cons (ps_par (i := 2) (j := 3) rfl nd rfl rfl (by decide) rfl rfl (pa_cons (pe_dn D1 hr (by rfl) (by decide) (pa_cons (pv 0) (pa_cons pe_int pa_nil))) (pa_cons (pe_dn D1 hr (by rfl) (by decide) (pa_cons (pv 0) (pa_cons (pe_op op_add (pe_callB call_len_str rfl (fr.h _ (by decide +kernel)) (by decide +kernel) (pa_cons (pv 1) pa_nil)) pe_int) pa_nil))) pa_nil)) (by rfl))
      (pss_cons (ps_if (pt_cmpR op_eq (pv 2) pe_int (nomark _)) (pss_one (ps_ret (pe_op op_add_str (pe_op op_add_str (pe_slice sl_str (pv 1) po_none (po_some (pv 3))) (pe_dn DS hr (by rfl) (by decide) (pa_cons (pv 0) (pa_cons pe_str pa_nil)))) (pe_slice sl_str (pv 1) (po_some (pv 3)) po_none)))) pss_nil)
      (pss_cons (ps_if (pt_cmpR op_eq (pv 2) pe_int (nomark _)) (pss_one (ps_ret (pe_op op_add_str (pe_slice sl_str (pv 1) po_none (po_some (pv 3))) (pe_slice sl_str (pv 1) (po_some (pe_op op_add (pv 3) pe_int)) po_none)))) pss_nil)
      (pss_cons (ps_if (pt_cmpR op_eq (pv 2) pe_int (nomark _)) (pss_one (ps_ret (pe_op op_add_str (pe_op op_add_str (pe_slice sl_str (pv 1) po_none (po_some (pv 3))) (pe_dn DS hr (by rfl) (by decide) (pa_cons (pv 0) (pa_cons pe_str pa_nil)))) (pe_slice sl_str (pv 1) (po_some (pe_op op_add (pv 3) pe_int)) po_none)))) pss_nil)
      (pss_cons (ps_if (pt_cmpR op_eq (pv 2) pe_int (nomark _)) (pss_one (ps_ret (pe_op op_add_str (pe_dn DP hr (by rfl) (by decide) (pa_cons (pv 0) (pa_cons (pe_lst (pa_cons pe_str (pa_cons pe_str (pa_cons pe_str (pa_cons pe_str (pa_cons pe_str (pa_cons pe_str pa_nil))))))) pa_nil))) (pv 1)))) pss_nil)
      (pss_cons (ps_if (pt_cmpR op_eq (pv 2) pe_int (nomark _)) (pss_one (ps_ret (pe_op op_add_str (pv 1) (pe_dn DP hr (by rfl) (by decide) (pa_cons (pv 0) (pa_cons (pe_lst (pa_cons pe_str (pa_cons pe_str (pa_cons pe_str (pa_cons pe_str (pa_cons pe_str (pa_cons pe_str (pa_cons pe_str (pa_cons pe_str (pa_cons pe_str pa_nil)))))))))) pa_nil)))))) pss_nil)
      (pss_cons (ps_if (pt_cmpR op_eq (pv 2) pe_int (nomark _)) (pss_one (ps_ret (pe_join pe_str (pe_revL (pe_split (pv 1) pe_str))))) pss_nil)
      (pss_one (ps_ret (pe_ifExp (pt_cmpR op_eq (pv 2) pe_int (nomark _)) (pv 1) (pe_op op_add_str (pv 1) (pe_slice sl_str (pv 1) po_none (po_some pe_int)))))))))))), ?_⟩
    have big : (3000 : Nat) < sizeLine := by decide
    have lt := TL.len_tl x
    refine ⟨_, rfl, p, 8, rfl, hp, by decide, by decide, fun d H1 d0 d1 k1 => ?_⟩
    refine ⟨_, rfl, _, rfl, _, rfl, (by omega), _, _, rfl, rfl, p, _, rfl, k1.pot, (by omega), (by omega), fun a H2 a0 a1 k2 => ?_⟩
    refine ⟨_, _, rfl, ?_⟩
    replace k2 := k1.trans k2
    have c1 : ∀ (lo hi : Option Int), (cutS x lo hi).length ≤ x.length := cutS_length x
    have s1 : ∀ c : Nat, (⟨#[c]⟩ : Str).length = 1 := fun _ => rfl
    have al := strLen_append
    refine ⟨_, rfl, rfl, _, rfl, ite2 (fun _ => ?_) (fun _ => ?_)⟩
    · have b1 := c1 none (some a)
      have b2 := c1 (some a) none
      refine ⟨_, rfl, _, rfl, _, rfl, x, rfl, (by omega), _, rfl, p, _, rfl, k2.pot, (by decide), (by decide), fun c H3 k3 => ⟨_, _, rfl, rfl, ?_, _, rfl, _, rfl, _, rfl, x, rfl, (by omega), _, _, rfl, rfl, ?_, z _ _ ?_ (k2.trans k3)⟩⟩ <;> simp only [al, s1] <;> omega
    refine ⟨_, rfl, rfl, _, rfl, ite2 (fun _ => ?_) (fun _ => ?_)⟩
    · have b1 := c1 none (some a)
      have b2 := c1 (some (a + 1)) none
      refine ⟨_, rfl, _, rfl, _, rfl, x, rfl, (by omega), _, rfl, _, rfl, _, _, rfl, rfl, _, rfl, x, rfl, (by omega), _, _, rfl, rfl, ?_, z _ _ ?_ k2⟩ <;> (try simp only [al, s1]) <;> omega
    refine ⟨_, rfl, rfl, _, rfl, ite2 (fun _ => ?_) (fun _ => ?_)⟩
    · have b1 := c1 none (some a)
      have b2 := c1 (some (a + 1)) none
      refine ⟨_, rfl, _, rfl, _, rfl, x, rfl, (by omega), _, rfl, p, _, rfl, k2.pot, (by decide), (by decide), fun c H3 k3 => ⟨_, _, rfl, rfl, ?_, _, rfl, _, rfl, _, _, rfl, rfl, _, rfl, x, rfl, (by omega), _, _, rfl, rfl, ?_, z _ _ ?_ (k2.trans k3)⟩⟩ <;> simp only [al, s1] <;> omega
    refine ⟨_, rfl, rfl, _, rfl, ite2 (fun _ => ?_) (fun _ => ?_)⟩
    · refine ⟨_, rfl, (by show 6 ≤ sizeLine; decide), fun l hl => ⟨p, l, _, rfl, k2.pot.new hl, ne_pot k2.pot hl, SqL.of upd_same, (fun z => by cases z), (by show 6 ≤ 1000000; decide), fun y H3 hy k3 => ?_⟩⟩
      have tx : ∃ y', y = .str y' ∧ y'.length ≤ 2 := by
        simp only [List.mem_cons, List.not_mem_nil, or_false] at hy
        rcases hy with rfl | rfl | rfl | rfl | rfl | rfl <;> exact ⟨_, rfl, by decide⟩
      obtain ⟨y', rfl, ly⟩ := tx
      refine ⟨_, rfl, _, _, rfl, rfl, (by omega), z _ _ ?_ (k2.trans ((Kp.new k2.pot hl).trans k3))⟩
      rw [al]
      omega
    refine ⟨_, rfl, rfl, _, rfl, ite2 (fun _ => ?_) (fun _ => ?_)⟩
    · refine ⟨_, rfl, _, rfl, (by show 9 ≤ sizeLine; decide), fun l hl => ⟨p, l, _, rfl, k2.pot.new hl, ne_pot k2.pot hl, SqL.of upd_same, (fun z => by cases z), (by show 9 ≤ 1000000; decide), fun y H3 hy k3 => ?_⟩⟩
      have tx : ∃ y', y = .str y' ∧ y'.length ≤ 3 := by
        simp only [List.mem_cons, List.not_mem_nil, or_false] at hy
        rcases hy with rfl | rfl | rfl | rfl | rfl | rfl | rfl | rfl | rfl <;> exact ⟨_, rfl, by decide⟩
      obtain ⟨y', rfl, ly⟩ := tx
      refine ⟨_, _, rfl, rfl, (by omega), z _ _ ?_ (k2.trans ((Kp.new k2.pot hl).trans k3))⟩
      rw [al]
      omega
    refine ⟨_, rfl, rfl, _, rfl, ite2 (fun _ => ?_) (fun _ => ?_)⟩
    · have es : (Str.ofString "/") = SX.S [47] := by decide
      have el : Txt.split x "/" = (TL.spl [47] 0 [] (TL.tl x)).map SX.S := by
        rw [es, ← SX.S_tl x, SX.split_S (by decide) (by decide)]
      have sm := spl_sum (TL.tl x) []
      have sm2 : ((TL.spl [47] 0 [] (TL.tl x)).reverse.map (·.length)).sum = ((TL.spl [47] 0 [] (TL.tl x)).map (·.length)).sum := by rw [List.map_reverse, List.sum_reverse]
      have jl := joinL_len [47] (TL.spl [47] 0 [] (TL.tl x)).reverse
      rw [sm2, List.length_reverse] at jl
      simp only [List.length_nil, List.length_cons] at sm jl
      refine ⟨⟨_, rfl⟩, _, rfl, ⟨_, rfl⟩, _, _, rfl, rfl, by decide, by omega, fun p1 hp1 => ⟨p1, _, rfl, SqL.of upd_same, fun p2 hp2 => ?_⟩⟩
      rw [el]
      have er : (((TL.spl [47] 0 [] (TL.tl x)).map SX.S).map V.str).reverse = (((TL.spl [47] 0 [] (TL.tl x)).reverse).map SX.S).map V.str := by rw [List.map_reverse, List.map_reverse]
      have eq2 : Txt.join "/" (((TL.spl [47] 0 [] (TL.tl x)).reverse).map SX.S) = SX.S (TL.joinL [47] (TL.spl [47] 0 [] (TL.tl x)).reverse) := by rw [es, SX.join_S]
      have e4 := (Am.Ext.new (o := .lst (((TL.spl [47] 0 [] (TL.tl x)).map SX.S).map V.str)) hp1).trans (Am.Ext.new (o := .lst (((TL.spl [47] 0 [] (TL.tl x)).map SX.S).map V.str).reverse) (by rw [el] at hp2; exact hp2))
      have lj : (SX.S (TL.joinL [47] (TL.spl [47] 0 [] (TL.tl x)).reverse)).length = (TL.joinL [47] (TL.spl [47] 0 [] (TL.tl x)).reverse).length := TL.len_tl _
      refine ⟨_, _, _, rfl, rfl, .inl (SqL.of (by rw [upd_same, er])), ?_, ?_⟩
      · rw [SX.lens, sm2, List.length_map, List.length_reverse]
        have : (Str.ofString "/").length = 1 := by decide
        rw [this]
        omega
      · rw [eq2]
        exact z _ _ (by omega) (k2.trans (Kp.ext k2.pot e4))
    refine ⟨_, rfl, rfl, _, rfl, ite2 (fun _ => ?_) (fun _ => ?_)⟩
    · exact ⟨_, rfl, z _ _ (by omega) k2⟩
    · have b1 := c1 none (some 2)
      refine ⟨_, rfl, _, rfl, _, rfl, x, rfl, (by omega), _, _, rfl, rfl, (by omega), z _ _ ?_ k2⟩
      rw [al]
      omega
end
end KC

set_option Elab.async false
set_option linter.all false
set_option maxRecDepth 100000
set_option maxHeartbeats 1000000
set_option exponentiation.threshold 20000
/-! Rows of what was told, each of its own. -/
namespace KC
open PySem PySem.Spec PyProof.Rows L2 Oo Gd Am KA TX NumText
inductive Z2 {α β : Type} (R : α → β → Prop) : List α → List β → Prop
  | nil : Z2 R [] []
  | cons {a : α} {b : β} {as : List α} {bs : List β} : R a b → Z2 R as bs → Z2 R (a :: as) (b :: bs)
theorem Z2.imp {α β : Type} {R S : α → β → Prop} (f : ∀ a b, R a b → S a b) : ∀ {as : List α} {bs : List β}, Z2 R as bs → Z2 S as bs
  | _, _, .nil => .nil
  | _, _, .cons h t => .cons (f _ _ h) (t.imp f)
theorem Z2.snoc {α β : Type} {R : α → β → Prop} {a : α} {b : β} (h : R a b) : ∀ {as : List α} {bs : List β}, Z2 R as bs → Z2 R (as ++ [a]) (bs ++ [b])
  | _, _, .nil => .cons h .nil
  | _, _, .cons h' t => .cons h' (t.snoc h)
theorem Z2.len {α β : Type} {R : α → β → Prop} : ∀ {as : List α} {bs : List β}, Z2 R as bs → as.length = bs.length
  | _, _, .nil => rfl
  | _, _, .cons _ t => by rw [List.length_cons, List.length_cons, t.len]
inductive Rw | err (nm x : Str) | made (x : Str)
def Rw.vs : Rw → List V
  | .err nm x => [.str nm, .str x, .bl true]
  | .made x => [.str "made", .str x]
def Rw.d : Rw → PyData
  | .err nm x => .list [.str nm, .str x, .bool true]
  | .made x => .list [.str "made", .str x]
def Rw.ok : Rw → Prop
  | .err nm x => PyData.strOk nm = true ∧ PyData.strOk x = true
  | .made x => PyData.strOk x = true
theorem Rw.dp {K : W.Frag} {H : Hp} {r : Addr} : ∀ {p : Rw}, H r = some (.lst p.vs) → Dp K H (.ref r) p.d
  | .err _ _, h => .lst (SqL.of h) (.cons (.str _) (.cons (.str _) (.cons (.bl _) .nil)))
  | .made _, h => .lst (SqL.of h) (.cons (.str _) (.cons (.str _) .nil))
theorem Rw.lay : ∀ {p : Rw}, p.ok → p.d.canLay0 = true ∧ p.d.depth = 1
  | .err nm x, ⟨h1, h2⟩ => by
    unfold Rw.d
    simp only [PyData.canLay0, PyData.canLayAll0, h1, h2, Bool.and_self, PyData.depth, PyData.depthAll, Nat.max_self, and_self]
  | .made x, h => by
    have h' : PyData.strOk x = true := h
    have h0 : PyData.strOk (Str.ofString "made") = true := sok_of _
    unfold Rw.d
    simp only [PyData.canLay0, PyData.canLayAll0, h', h0, Bool.and_self, PyData.depth, PyData.depthAll, Nat.max_self, and_self]
theorem dp_rws {K : W.Frag} {H : Hp} {Rd : Addr → Rw → Prop} (f : ∀ r p, Rd r p → H r = some (.lst p.vs)) : ∀ {rs : List Addr} {ps : List Rw}, Z2 Rd rs ps → DpAll K H (rs.map V.ref) (ps.map Rw.d)
  | _, _, .nil => .nil
  | _, _, .cons h t => .cons (Rw.dp (f _ _ h)) (dp_rws f t)
theorem lay_rws : ∀ {ps : List Rw}, (∀ p ∈ ps, p.ok) → PyData.canLayAll0 (ps.map Rw.d) = true ∧ PyData.depthAll (ps.map Rw.d) ≤ 1
  | [], _ => by
    simp only [List.map_nil, PyData.canLayAll0, PyData.depthAll]
    exact ⟨trivial, Nat.zero_le _⟩
  | p :: ps, h => by
    obtain ⟨a, b⟩ := Rw.lay (h p List.mem_cons_self)
    obtain ⟨c, d⟩ := lay_rws fun q hq => h q (List.mem_cons_of_mem _ hq)
    simp only [List.map_cons, PyData.canLayAll0, PyData.depthAll, a, b, c, Bool.and_self, true_and]
    omega
theorem sh_rws {ps : List Rw} (h : ∀ p ∈ ps, p.ok) : SeqAt.shaped (.list (ps.map Rw.d)) = true := by
  obtain ⟨a, b⟩ := lay_rws h
  unfold SeqAt.shaped
  simp only [PyData.canLay0, a, Bool.true_and, PyData.depth]
  exact decide_eq_true (by omega)
theorem no_tab {xs : List V} (ps) : HO.lst xs ≠ .tbl ps := HO.noConfusion
/-- at D the rows ps; all but tables stands since H -/
structure RwV (D : Addr) (ps : List Rw) (T : List (Addr × Str)) (H H5 : Hp) : Prop where
  k : LamX.ExtN H H5
  t : LamX.Tabs T H5
  ex : ∃ rs : List Addr, H5 D = some (.lst (rs.map V.ref)) ∧ Z2 (fun r p => H5 r = some (.lst p.vs) ∧ r ≠ D) rs ps
  dn : ∀ o, (∀ ps, o ≠ .tbl ps) → H D ≠ some o
section
variable {D R : Addr} {ps : List Rw} {p : Rw} {T : List (Addr × Str)} {H H3 H4 H5 H6 H7 : Hp}
theorem RwV.nil (hD : H D = none) (t : LamX.Tabs T H) : RwV D [] T H (upd H D (.lst [])) :=
  ⟨LamX.ExtN.of (Am.Ext.new hD), t.ext (Am.Ext.new hD), ⟨[], upd_same, .nil⟩, fun o _ h => by rw [hD] at h; cases h⟩
theorem RwV.first (n : LamX.ExtN H H3) (t : LamX.Tabs T H3) (e : Am.Ext H3 H4) (hR : H4 R = none) (hD : (upd H4 R (.lst p.vs)) D = none) : RwV D [p] T H (upd (upd H4 R (.lst p.vs)) D (.lst [.ref R])) := by
  have e1 := e.trans (Am.Ext.new (o := .lst p.vs) hR)
  have e2 := e1.trans (Am.Ext.new (o := .lst [.ref R]) hD)
  have ne : R ≠ D := ne_of_none upd_same hD
  refine ⟨n.trans (LamX.ExtN.of e2), t.ext e2, ⟨[R], upd_same, .cons ⟨by rw [upd_ne ne]; exact upd_same, ne⟩ .nil⟩, fun o k hz => ?_⟩
  have := e1 _ _ (n _ _ hz k)
  rw [hD] at this
  cases this
theorem RwV.on (W : RwV D ps T H H5) (n : LamX.ExtN H5 H6) (t : LamX.Tabs T H6) : RwV D ps T H H6 := by
  obtain ⟨rs, hD, z⟩ := W.ex
  exact ⟨W.k.trans n, t, ⟨rs, n _ _ hD no_tab, z.imp fun r p h => ⟨n _ _ h.1 no_tab, h.2⟩⟩, W.dn⟩
theorem RwV.put (W : RwV D ps T H H5) (hR : H5 R = none) :
    ∃ xs, (upd H5 R (.lst p.vs)) D = some (.lst xs) ∧ xs.length = ps.length ∧ RwV D (ps ++ [p]) T H (upd (upd H5 R (.lst p.vs)) D (.lst (xs ++ [.ref R]))) := by
  obtain ⟨rs, hD, z⟩ := W.ex
  have e := Am.Ext.new (o := .lst p.vs) hR
  have d8 := e _ _ hD
  have nRD : R ≠ D := fun h => by
    rw [h, hD] at hR
    cases hR
  refine ⟨rs.map V.ref, d8, by rw [List.length_map, z.len], xn_put (W.k.trans (LamX.ExtN.of e)) W.dn, tabs_put (W.t.ext e) d8, ⟨rs ++ [R], ?_, (z.imp fun r p h => ?_).snoc ?_⟩, W.dn⟩
  · rw [upd_same, List.map_append]
    rfl
  · exact ⟨by rw [upd_ne h.2]; exact e _ _ h.1, h.2⟩
  · exact ⟨by rw [upd_ne nRD]; exact upd_same, nRD⟩
theorem RwV.step (W : RwV D ps T H H5) (n6 : LamX.ExtN H5 H6) (t6 : LamX.Tabs T H6) (e7 : Am.Ext H6 H7) (hR : H7 R = none) :
    ∃ xs, (upd H7 R (.lst p.vs)) D = some (.lst xs) ∧ xs.length = ps.length ∧ RwV D (ps ++ [p]) T H (upd (upd H7 R (.lst p.vs)) D (.lst (xs ++ [.ref R]))) :=
  (W.on (n6.trans (LamX.ExtN.of e7)) (t6.ext e7)).put hR
theorem RwV.lst (W : RwV D ps T H H5) : ∃ xs, H5 D = some (.lst xs) := let ⟨_, h, _⟩ := W.ex; ⟨_, h⟩
theorem rwv_eq {K : W.Frag} {D1 D2 : Addr} {H1 H2 : Hp} {T1 T2 : List (Addr × Str)} {Q : VK} (W1 : RwV D1 ps T1 H1 H) (W2 : RwV D2 ps T2 H2 H) (ok : ∀ p ∈ ps, p.ok) (z : Q (.bl true) H) : rEqD K (.ref D1) (.ref D2) H Q := by
  obtain ⟨r1, h1, z1⟩ := W1.ex
  obtain ⟨r2, h2, z2⟩ := W2.ex
  have sh := sh_rws ok
  refine ⟨_, _, .lst (SqL.of h1) (dp_rws (fun _ _ h => h.1) z1), .lst (SqL.of h2) (dp_rws (fun _ _ h => h.1) z2), sh, sh, ?_⟩
  rw [SeqAt.eqv_refl _ (SeqAt.canLay_of_shaped sh)]
  exact z
end
/-! ### told -/
/-- a value, the text of its repr, as long as all but tables stands -/
def ShV (C : Addr) (H : Hp) (v : V) (x : Str) : Prop := x.length ≤ 1000 ∧ PyData.strOk x = true ∧ ∀ H', LamX.ExtN H H' → Shw C H' v x
theorem ShV.xn {C : Addr} {H H' : Hp} {v : V} {x : Str} (s : ShV C H v x) (n : LamX.ExtN H H') : ShV C H' v x := ⟨s.1, s.2.1, fun H2 n2 => s.2.2 H2 (n.trans n2)⟩
theorem ShV.odd {C : Addr} {H : Hp} {v : V} {x : Str} (o : OdV H v x) : ShV C H v x := by
  obtain ⟨l, k, _, as, n, n40, rp⟩ := o
  exact ⟨l, k, fun H' x => ⟨by omega, .inl ⟨as, n, rp H' x, n40⟩⟩⟩
theorem ShV.int {C : Addr} {H : Hp} {i : Int} (h : i.natAbs < 2 ^ 900) : ShV C H (.int i) (Str.ofString (toString i)) := by
  have l : i.natAbs.log2 < 900 := by
    by_cases z : i.natAbs = 0
    · rw [z]; decide
    · exact (Nat.log2_lt z).mpr h
  have ll := len_of (n := 900) (by decide) h
  exact ⟨by omega, sok_of _, fun H' _ => ⟨by omega, .inl ⟨[], 0, Rp.int i (by omega), by decide⟩⟩⟩
theorem ShV.is {C : Addr} {H : Hp} {a : Addr} {q : Rat} (i : Is C H a q) (h : Low 400 q) : ShV C H (.ref a) (shown q) := by
  have l1 := len_of (n := 400) (by decide) h.1
  have l2 := len_of (n := 400) (i := (q.den : Int)) (by decide) (KA.low_den h)
  have k1 : (Str.ofString "Amount(").length = 7 := by decide
  have k2 : (Str.ofString ", ").length = 2 := by decide
  have k3 : (Str.ofString ")").length = 1 := by decide
  have k0 : (Str.empty).length = 0 := by decide
  have ls : (shown q).length ≤ 1000 := by
    unfold Am.shown
    simp only [strLen_append, k1, k2, k3, k0]
    omega
  exact ⟨ls, sok_shown q, fun H' x => ⟨by omega, .inr ⟨a, q, rfl, is_xn i x, ⟨Nat.lt_trans h.1 (by decide), Nat.lt_trans h.2 (by decide)⟩, rfl⟩⟩⟩
/-- no INTEGER, as long as all but tables stands -/
def NoX (C : Addr) (H : Hp) (v : V) : Prop := ∀ H', LamX.ExtN H H' → NoI C H' v
theorem NoX.xn {C : Addr} {H H' : Hp} {v : V} (s : NoX C H v) (n : LamX.ExtN H H') : NoX C H' v := fun H2 n2 => s H2 (n.trans n2)
theorem NoX.odd {C : Addr} {H : Hp} {v : V} {x : Str} (o : OdV H v x) : NoX C H v := fun H' n => .inl (o.xn n).odd
theorem NoX.is {C : Addr} {H : Hp} {a : Addr} {q : Rat} (i : Is C H a q) : NoX C H (.ref a) := fun H' n => .inr ⟨a, q, rfl, is_xn i n⟩
section
variable {C WA WC WT : Addr} {v : V} {x : Str} {tl : XK → Hp → VK → Prop} {H : Hp} {Q : VK}
theorem toldA (sv : ShV C H v x) (hh : ∀ L, H L = none → ∀ E Q', RefV WA v (upd H L (.lst [.str "none"])) E → tl E (upd H L (.lst [.str "none"])) Q') (z : ∀ D H', Am.Ext H H' → H' D = none → Q (.ref D) (upd H' D (.lst (Rw.err "amount" x).vs))) : TTt C WA WC WT tl H Q :=
  .inl ⟨v, fun L hL Q' => hh L hL _ Q' fun d H' e _ hd => by
    have eL := (Am.Ext.new (o := .lst [V.str "none"]) hL).trans e
    exact ⟨rfl, d, rfl, hd, x, sv.2.2 H' (LamX.ExtN.of eL), fun D hD => z D H' eL hD⟩⟩
theorem toldC (sv : ShV C H v x) (hh : ∀ L, H L = none → ∀ E Q', RefV WC v (upd H L (.lst [.str "none"])) E → tl E (upd H L (.lst [.str "none"])) Q') (z : ∀ D H', Am.Ext H H' → H' D = none → Q (.ref D) (upd H' D (.lst (Rw.err "count" x).vs))) : TTt C WA WC WT tl H Q :=
  .inr (.inl ⟨v, fun L hL Q' => hh L hL _ Q' fun d H' e _ hd => by
    have eL := (Am.Ext.new (o := .lst [V.str "none"]) hL).trans e
    exact ⟨rfl, d, rfl, hd, x, sv.2.2 H' (LamX.ExtN.of eL), fun D hD => z D H' eL hD⟩⟩)
theorem toldT (hh : ∀ L, H L = none → ∀ E Q', RefT WT (upd H L (.lst [.str "none"])) E → tl E (upd H L (.lst [.str "none"])) Q') (z : ∀ D H', Am.Ext H H' → H' D = none → Q (.ref D) (upd H' D (.lst (Rw.err "text" "1").vs))) : TTt C WA WC WT tl H Q :=
  .inr (.inr (.inl ⟨.int 1, fun L hL Q' => hh L hL _ Q' fun d H' e _ hd => by
    have eL := (Am.Ext.new (o := .lst [V.str "none"]) hL).trans e
    have e1 : Str.ofString (toString (1 : Int)) = Str.ofString "1" := by decide
    have s := ShV.int (C := C) (H := H') (i := 1) (by decide)
    rw [e1] at s
    exact ⟨rfl, d, rfl, hd, "1", s.2.2 H' (LamX.ExtN.refl _), fun D hD => z D H' eL hD⟩⟩))
theorem toldM (hh : ∀ L, H L = none → ∀ Qc : VK, (∀ a q' H', Is C H' a q' → Low 3000 q' → Am.Ext H H' → q' = q → Qc (.ref a) H') → tl (fun _ _ _ => False) (upd H L (.lst [.str "none"])) Qc) (z : ∀ D H', Am.Ext H H' → H' D = none → Q (.ref D) (upd H' D (.lst (Rw.made (shown q)).vs))) : TTt C WA WC WT tl H Q :=
  .inr (.inr (.inr fun L hL Qc f => hh L hL Qc fun a q' H' i l e eq => f a q' H' i l fun D H2 e2 n2 => by
    subst eq
    exact z D H2 (e.trans e2) n2))
end
end KC

set_option Elab.async false
set_option linter.all false
set_option maxRecDepth 100000
set_option maxHeartbeats 4000000
set_option exponentiation.threshold 20000
/-! _law_parts_right. -/
namespace KC
open PySem PySem.Spec PyProof.Rows L2 Oo Gd Am KA TX NumText
theorem is_kt {C p a : Addr} {H H' : Hp} {q : Rat} (hp : Pot H p) (i : Is C H a q) (k : KT p H H') : Is C H' a q := by
  obtain ⟨dx, e⟩ := i
  obtain ⟨x, y, hl, _⟩ := hp
  exact ⟨dx, k.1 _ _ (fun z => by rw [z, hl] at e; cases e) e fun _ => HO.noConfusion⟩
theorem kt_xn {p : Addr} {H H' H2 : Hp} (k : KT p H H') (n : LamX.ExtN H' H2) : KT p H H2 := k.trans (pot_xn k.2 n)
theorem kt_ext {p : Addr} {H H' H2 : Hp} (k : KT p H H') (e : Am.Ext H' H2) : KT p H H2 := kt_xn k (LamX.ExtN.of e)
theorem kt_new {p a : Addr} {H H' : Hp} {o : HO} (k : KT p H H') (n : H' a = none) : KT p H (upd H' a o) := kt_ext k (Am.Ext.new n)
theorem ixtK {X : Cx} {K : W.Frag} (_ : IsK K) (h : X.K = K := by rfl) : IxR X (rIxT K) := h ▸ ix_tup
/-- a value that is no INTEGER, whatever the pot draws -/
def VP (C p : Addr) (H : Hp) (v : V) (x : Str) : Prop := ∀ H2, KT p H H2 → ShV C H2 v x ∧ NoX C H2 v
theorem VP.kt {C p : Addr} {H H' : Hp} {v : V} {x : Str} (h : VP C p H v x) (k : KT p H H') : VP C p H' v x := fun H2 k2 => h H2 (k.trans k2)
section
variable {P : Program} {w : World} {K : W.Frag} {mg : Str → Option Value} {base : Heap} {f C WA WC WT ZF c p0 : Addr} {fd : FuncData} {T : List (Addr × Str)}
abbrev DnO (P : Program) (w : World) (K : W.Frag) (mg : Str → Option Value) (base : Heap) : Prop := Dn P w K mg base CX0 3 "_law_odd" ["_law_pot_here"] spOdd
structure Pr (P : Program) (w : World) (K : W.Frag) (mg : Str → Option Value) (base : Heap) (C WA WC WT ZF : Addr) : Prop where
  fr : Frees mg
  B : Base P w K mg base C
  R : Rep P w K mg base C
  RU : RepU P w K mg base C
  tq : Tq K mg WA WC WT ZF
  tol : Tol K mg
  BN : BaseN P w K mg base C WA
  OO : OfO P w K mg base C WA
  DP : DnP P w K mg base
  DT : Dn P w K mg base CX0 3 "_law_part" ["_law_pot_here"] (spPart K)
  DO : DnO P w K mg base
def spPT (T : List (Addr × Str)) : Sp := fun vs H Q _ => ∃ p : Addr, vs = [.ref p] ∧ Pot H p ∧ LamX.Tabs T H ∧ ∀ H', KT p H H' → LamX.Tabs T H' → Q (.bl true) H'
abbrev nPr : List Str := ["_law_pot_here", "_law_part_here", "_law_odd_here", "_law_more", "_law_told_here", "_law_each"]
theorem scPr : FnScope nPr ["_law_pot_here"] (defScope (top 28)) := ⟨rfl, rfl, rfl, by decide +kernel, rfl, by decide +kernel, by decide +kernel⟩
theorem ok_Pr (S : Pr P w K mg base C WA WC WT ZF) (TB : LamX.TabB base mg c p0) (tp : Tq1 T p0 "_law_parts_right.<locals>.<lambda>") (F : FunC K "_law_parts_right" "_law_parts_right" (top 28) f c fd) : FnG P w K mg base CX0 10 f fd ["_law_pot_here"] (spPT T) := by
  refine okGc F scPr (fun vs H Q E h => ?_) (fun A outer s H vs Q E hG hr h => ?_)
  · obtain ⟨p, rfl, _⟩ := h
    rfl
  · obtain ⟨p, rfl, hp, hT, z⟩ := h
    have nd := scPr.nd
    have fr := S.fr
    have isk : IsK K := ⟨trivial⟩
    have B := S.B
    have h3 := hr.mono (show 3 ≤ 9 by decide)
    obtain ⟨g, gd, RF, gm, gb⟩ := S.tol.of
    have gk := RF.kp
    obtain ⟨goc, god, gkV, gdoc, gpm, gan, gcdv, gct, gosl, rfl, glk, gcode⟩ := RF.ex
    obtain ⟨fI, fdI, MI, FI, _, _, kb⟩ := S.BN.make
    refine ⟨_, pss_cons (ps_set (i := 1) nd rfl (.inr rfl) (pe_dn S.DT hr (by rfl) (by decide) (pa_cons (pv 0) pa_nil)))
      (pss_cons (ps_asg (pe_tup (pa_cons (pe_dn S.DP hr (by rfl) (by decide) (pa_cons (pv 0) (pa_cons (pe_lst (pa_cons (pe_dn S.DO hr (by rfl) (by decide) (pa_cons (pv 0) pa_nil)) (pa_cons (pe_mk1 B h3 rfl (pa_cons pe_int pa_nil)) pa_nil))) pa_nil))) (pa_cons (pe_dn S.DO hr (by rfl) (by decide) (pa_cons (pv 0) pa_nil)) pa_nil))) (pg_tup rfl (pgs_cons (pg_name (i := 2) nd rfl (.inr rfl)) (pgs_cons (pg_name (i := 3) nd rfl (.inr rfl)) pgs_nil))))
      (pss_cons (ps_set (i := 4) nd rfl (.inl rfl) (pe_lst (pa_cons (LamX.pe_lamcall (k := 7) (T := T) (TT := TTt C WA WC WT) rfl gm gk glk gcode gb scTo rfl (.inl rfl) (told_gives (k := 5) S.R S.RU S.tq fr hG hr) TB rfl tp.mem tp.uq hr (LamX.lamS_by (show LamX.lamSB (defScope (top 28)) _ = true by decide +kernel)) rfl (fun _ _ _ _ _ => rfl) (fun A outer s H E f c' hl => pe_mkN (E := E) S.BN (hl.mono (by decide)) rfl (passes_call (takes_of rfl rfl rfl rfl) fun _ _ _ _ h => h) (pa_cons (pv 2) (pa_cons (pv 3) pa_nil)))) pa_nil)))
      (pss_cons (ps_expr (pe_bm PySem.F.plainAttrs_list PySem.F.slot_list_append PySem.F.type_list_append mt_append (pv 4) (pa_cons (LamX.pe_lamcall (k := 7) (T := T) (TT := TTt C WA WC WT) rfl gm gk glk gcode gb scTo rfl (.inl rfl) (told_gives (k := 5) S.R S.RU S.tq fr hG hr) TB rfl tp.mem tp.uq hr (LamX.lamS_by (show LamX.lamSB (defScope (top 28)) _ = true by decide +kernel)) rfl (fun _ _ _ _ _ => rfl) (fun A outer s H E f c' hl => pe_mkN (E := E) S.BN (hl.mono (by decide)) rfl (passes_call (takes_of rfl rfl rfl rfl) fun _ _ _ _ h => h) (pa_cons (pe_ix (ixtK isk) (pv 1) pe_int (fun _ _ => rfl)) (pa_cons (pv 2) pa_nil)))) pa_nil)))
      (pss_cons (ps_expr (pe_bm PySem.F.plainAttrs_list PySem.F.slot_list_append PySem.F.type_list_append mt_append (pv 4) (pa_cons (LamX.pe_lamcall (k := 7) (T := T) (TT := TTt C WA WC WT) rfl gm gk glk gcode gb scTo rfl (.inl rfl) (told_gives (k := 5) S.R S.RU S.tq fr hG hr) TB rfl tp.mem tp.uq hr (LamX.lamS_by (show LamX.lamSB (defScope (top 28)) _ = true by decide +kernel)) rfl (fun _ _ _ _ _ => rfl) (fun A outer s H E f c' hl => pe_mkN (E := E) S.BN (hl.mono (by decide)) rfl (passes_call (takes_of rfl rfl rfl rfl) fun _ _ _ _ h => h) (pa_cons (pe_ix (ixtK isk) (pv 1) pe_int (fun _ _ => rfl)) (pa_cons pe_int pa_nil)))) pa_nil)))
      (pss_cons (ps_expr (pe_bm PySem.F.plainAttrs_list PySem.F.slot_list_append PySem.F.type_list_append mt_append (pv 4) (pa_cons (LamX.pe_lamcall (k := 7) (T := T) (TT := TTt C WA WC WT) rfl gm gk glk gcode gb scTo rfl (.inl rfl) (told_gives (k := 5) S.R S.RU S.tq fr hG hr) TB rfl tp.mem tp.uq hr (LamX.lamS_by (show LamX.lamSB (defScope (top 28)) _ = true by decide +kernel)) rfl (fun _ _ _ _ _ => rfl) (fun A outer s H E f c' hl => pe_mkN1 (E := E) S.BN (hl.mono (by decide)) rfl (passes_call (takes_of rfl rfl rfl rfl) fun _ _ _ _ h => h) (pa_cons (pv 2) pa_nil))) pa_nil)))
      (pss_cons (ps_expr (pe_bm PySem.F.plainAttrs_list PySem.F.slot_list_append PySem.F.type_list_append mt_append (pv 4) (pa_cons (LamX.pe_lamcall (k := 7) (T := T) (TT := TTt C WA WC WT) rfl gm gk glk gcode gb scTo rfl (.inl rfl) (told_gives (k := 5) S.R S.RU S.tq fr hG hr) TB rfl tp.mem tp.uq hr (LamX.lamS_by (show LamX.lamSB (defScope (top 28)) _ = true by decide +kernel)) rfl (fun _ _ _ _ _ => rfl) (fun A outer s H E f c' hl => pe_makeK0 (E := E) MI FI (hl.mono (by decide)) rfl S.BN.mgA kb (passes_call (takes_of rfl rfl rfl rfl) fun _ _ _ _ h => h) (pk_cons pe_int (pk_cons (pv 3) pk_nil)))) pa_nil)))
      (pss_cons (ps_expr (pe_bm PySem.F.plainAttrs_list PySem.F.slot_list_append PySem.F.type_list_append mt_append (pv 4) (pa_cons (LamX.pe_lamcall (k := 7) (T := T) (TT := TTt C WA WC WT) rfl gm gk glk gcode gb scTo rfl (.inl rfl) (told_gives (k := 5) S.R S.RU S.tq fr hG hr) TB rfl tp.mem tp.uq hr (LamX.lamS_by (show LamX.lamSB (defScope (top 28)) _ = true by decide +kernel)) rfl (fun _ _ _ _ _ => rfl) (fun A outer s H E f c' hl => pe_ofO (E := E) S.OO (hl.mono (by decide)) (passes_call (takes_of rfl rfl rfl rfl) fun _ _ _ _ h => h) (pe_glob (v := V.ref C) rfl S.OO.mgA rfl) (pa_cons (pv 3) pa_nil))) pa_nil)))
      (pss_one (ps_ret (pe_cmpR (op_eqD hr.units) (pv 4) (pe_lc (own := [("_law_each", 5)]) (g := gName 5) (tt := tYes) rfl nd (listK isk (pe_lst (pa_cons (pv 2) (pa_cons (pv 2) (pa_cons pe_int (pa_cons (pv 2) (pa_cons (pv 3) (pa_cons (pv 3) pa_nil)))))))) (blkOk_by (N := nPr) (sc := defScope (top 28)) (by decide +kernel)) (fun _ _ _ _ _ => pg_name (i := 5) nd rfl (Or.inl rfl)) (fun _ _ _ _ _ => pts_nil)
        (fun _ _ _ _ _ => pe_lst (pa_cons pe_str (pa_cons (pe_callB (call_reprH (C := C) S.RU hG (L2H.roomH_of (hr.mono (show 2 ≤ 9 by decide)))) rfl (fr.h _ (by decide +kernel)) (by decide +kernel) (pa_cons (pv 5) pa_nil)) (pa_cons pe_bl pa_nil))))) (nomark _))))))))))), ?_⟩
    refine ⟨_, rfl, p, rfl, hp, fun t q H1 _ ntp ht lq k1 => ?_⟩
    refine ⟨_, rfl, _, rfl, p, rfl, k1.pot, fun v x H2 ov nv k2 => ?_⟩
    refine ⟨2, rfl, (by decide), fun r H3 e3 n3 i3 => ⟨(by show 2 ≤ sizeLine; decide), fun L hL => ?_⟩⟩
    have kp3 := Kp.ext k2.pot e3
    have kpL : Kp p H3 (upd H3 L (.lst [v, .ref r])) := Kp.new kp3.pot hL
    refine ⟨p, L, _, rfl, kpL.pot, ne_pot kp3.pot hL, SqL.of upd_same, (fun z => by cases z), (by show 2 ≤ 1000000; decide), fun y H4 hy k4 => ?_⟩
    have kA : KT p H2 H4 := ((Kp.kt kp3).trans (Kp.kt kpL)).trans (Kp.kt k4)
    have vp : ∃ x1, VP C p H4 y x1 := by
      simp only [List.mem_cons, List.not_mem_nil, or_false] at hy
      rcases hy with rfl | rfl
      · exact ⟨x, fun Hz kz => ⟨ShV.odd (ov Hz (kA.trans kz)), NoX.odd (ov Hz (kA.trans kz))⟩⟩
      · have iz : ∀ Hz, KT p H4 Hz → Is C Hz r ((2 : Int) : Rat) := fun Hz kz => is_kt kp3.pot i3 (((Kp.kt kpL).trans (Kp.kt k4)).trans kz)
        exact ⟨_, fun Hz kz => ⟨ShV.is (iz Hz kz) ⟨by decide, by decide⟩, NoX.is (iz Hz kz)⟩⟩
    obtain ⟨x1, vp⟩ := vp
    clear hy
    refine ⟨_, rfl, p, rfl, k4.pot, fun v2 x2 H5 ov2 nv2 k5 => ⟨(by show 2 ≤ sizeLine; decide), fun T2 hT2 => ⟨T2, _, rfl, SqT.of upd_same, rfl, _, _, rfl, _, _, rfl, rfl, ?_⟩⟩⟩
    have kt2 : Kp p H5 (upd H5 T2 (.tup [y, v2])) := Kp.new k5.pot hT2
    have kB : KT p H4 (upd H5 T2 (.tup [y, v2])) := (Kp.kt k5).trans (Kp.kt kt2)
    have kG : KT p H (upd H5 T2 (.tup [y, v2])) := (((Kp.kt k1).trans (Kp.kt k2)).trans kA).trans kB
    have TG : LamX.Tabs T (upd H5 T2 (.tup [y, v2])) := tabs_kp (tabs_kp (tabs_kp (tabs_kp (tabs_kp (tabs_kp (tabs_kp hT hp k1) k1.pot k2) k2.pot kp3) kp3.pot kpL) kpL.pot k4) k4.pot k5) k5.pot kt2
    obtain ⟨S1, N1⟩ := vp _ kB
    have O2 := ov2 _ (Kp.kt kt2)
    have S2 : ShV C (upd H5 T2 (.tup [y, v2])) v2 x2 := ShV.odd O2
    have N2 : NoX C (upd H5 T2 (.tup [y, v2])) v2 := NoX.odd O2
    have no_tbl : ∀ {xs : List V} (ps), HO.tup xs ≠ .tbl ps := fun _ => HO.noConfusion
    have ht : (upd H5 T2 (.tup [y, v2])) t = some (.tup [.int q.num, .int q.den]) := ((Kp.kt k2).trans (kA.trans kB)).1 _ _ ntp ht no_tbl
    generalize upd H5 T2 (.tup [y, v2]) = G at kG TG S1 N1 O2 S2 N2 ht ⊢
    clear kB kt2 vp kA kpL kp3 ov2 nv2 ov k1 k2 k4 k5 hT2 hL e3 n3 i3
    have S0 : ShV C G (.int 0) (Str.ofString (toString (0 : Int))) := ShV.int (by decide)
    generalize Str.ofString (toString (0 : Int)) = i0 at S0
    show tSeq _ _ _ [some (.ref p), some (.ref t), some y, some v2, none, none] G
    refine ⟨TG, fun H3 n3 T3 => toldA (S1.xn n3) (fun L hL E Q' rf => ?_) fun R H4 e4 hR => ⟨(by show 1 ≤ sizeLine; decide), fun D hD => ?_⟩⟩
    · have nn : LamX.ExtN G (upd H3 L (.lst [.str "none"])) := n3.trans (LamX.ExtN.of (Am.Ext.new hL))
      exact ⟨_, rfl, _, rfl, y, v2, rfl, .inl ⟨N1.xn nn _ (LamX.ExtN.refl _), rf⟩⟩
    have W : RwV D [.err "amount" x1] T G (upd (upd H4 R (.lst (Rw.err "amount" x1).vs)) D (.lst [V.ref R])) := RwV.first n3 T3 e4 hR hD
    generalize upd (upd H4 R (.lst (Rw.err "amount" x1).vs)) D (.lst [V.ref R]) = G1 at W ⊢
    clear hD hR e4 T3 n3
    obtain ⟨xs, hD5⟩ := W.lst
    refine ⟨_, rfl, tyL hD5, W.t, fun H6 n6 T6 => toldA (S1.xn (W.k.trans n6)) (fun L hL E Q' rf => ?_) fun R H7 e7 hR => ?_⟩
    · have nn : LamX.ExtN G (upd H6 L (.lst [.str "none"])) := (W.k.trans n6).trans (LamX.ExtN.of (Am.Ext.new hL))
      exact ⟨_, rfl, t, _, 0, _, rfl, rfl, SqT.of (nn _ _ ht no_tbl), rfl, _, rfl, .int q.num, y, rfl, .inr ⟨_, rfl, .inl (N1.xn nn _ (LamX.ExtN.refl _)), rf⟩⟩
    obtain ⟨xs, d7, l7, W7⟩ := W.step (p := .err "amount" x1) n6 T6 e7 hR
    replace W7 : RwV D [.err "amount" x1, .err "amount" x1] T G (upd (upd H7 R (.lst (Rw.err "amount" x1).vs)) D (.lst (xs ++ [V.ref R]))) := W7
    refine ⟨D, _, _, rfl, rfl, d7, (by rw [l7]; show 1 < sizeLine; decide), ?_⟩
    clear W
    replace W := W7
    clear W7
    generalize upd (upd H7 R (.lst (Rw.err "amount" x1).vs)) D (.lst (xs ++ [V.ref R])) = G2 at W ⊢
    clear l7 d7 hR e7 T6 n6 hD5
    obtain ⟨xs, hD5⟩ := W.lst
    refine ⟨_, rfl, tyL hD5, W.t, fun H6 n6 T6 => toldA (S0.xn (W.k.trans n6)) (fun L hL E Q' rf => ?_) fun R H7 e7 hR => ?_⟩
    · have nn : LamX.ExtN G (upd H6 L (.lst [.str "none"])) := (W.k.trans n6).trans (LamX.ExtN.of (Am.Ext.new hL))
      exact ⟨_, rfl, t, _, 0, _, rfl, rfl, SqT.of (nn _ _ ht no_tbl), rfl, .int q.num, .int 0, rfl, .inr ⟨_, rfl, .inr rfl, rf⟩⟩
    obtain ⟨xs, d7, l7, W7⟩ := W.step (p := .err "amount" i0) n6 T6 e7 hR
    replace W7 : RwV D [.err "amount" x1, .err "amount" x1, .err "amount" i0] T G (upd (upd H7 R (.lst (Rw.err "amount" i0).vs)) D (.lst (xs ++ [V.ref R]))) := W7
    refine ⟨D, _, _, rfl, rfl, d7, (by rw [l7]; show 2 < sizeLine; decide), ?_⟩
    clear W
    replace W := W7
    clear W7
    generalize upd (upd H7 R (.lst (Rw.err "amount" i0).vs)) D (.lst (xs ++ [V.ref R])) = G3 at W ⊢
    clear l7 d7 hR e7 T6 n6 hD5
    obtain ⟨xs, hD5⟩ := W.lst
    refine ⟨_, rfl, tyL hD5, W.t, fun H6 n6 T6 => toldA (S1.xn (W.k.trans n6)) (fun L hL E Q' rf => ?_) fun R H7 e7 hR => ?_⟩
    · have nn : LamX.ExtN G (upd H6 L (.lst [.str "none"])) := (W.k.trans n6).trans (LamX.ExtN.of (Am.Ext.new hL))
      exact ⟨_, rfl, y, rfl, N1.xn nn _ (LamX.ExtN.refl _), rf⟩
    obtain ⟨xs, d7, l7, W7⟩ := W.step (p := .err "amount" x1) n6 T6 e7 hR
    replace W7 : RwV D [.err "amount" x1, .err "amount" x1, .err "amount" i0, .err "amount" x1] T G (upd (upd H7 R (.lst (Rw.err "amount" x1).vs)) D (.lst (xs ++ [V.ref R]))) := W7
    refine ⟨D, _, _, rfl, rfl, d7, (by rw [l7]; show 3 < sizeLine; decide), ?_⟩
    clear W
    replace W := W7
    clear W7
    generalize upd (upd H7 R (.lst (Rw.err "amount" x1).vs)) D (.lst (xs ++ [V.ref R])) = G4 at W ⊢
    clear l7 d7 hR e7 T6 n6 hD5
    obtain ⟨xs, hD5⟩ := W.lst
    refine ⟨_, rfl, tyL hD5, W.t, fun H6 n6 T6 => toldA (S2.xn (W.k.trans n6)) (fun L hL E Q' rf => ?_) fun R H7 e7 hR => ?_⟩
    · have nn : LamX.ExtN G (upd H6 L (.lst [.str "none"])) := (W.k.trans n6).trans (LamX.ExtN.of (Am.Ext.new hL))
      exact ⟨_, rfl, rfl, rfl, mk_kw (fun x v H3 => v = .non ∧ Q' (.ref x) H3) (.inl ⟨N2.xn nn _ (LamX.ExtN.refl _), rf⟩)⟩
    obtain ⟨xs, d7, l7, W7⟩ := W.step (p := .err "amount" x2) n6 T6 e7 hR
    replace W7 : RwV D [.err "amount" x1, .err "amount" x1, .err "amount" i0, .err "amount" x1, .err "amount" x2] T G (upd (upd H7 R (.lst (Rw.err "amount" x2).vs)) D (.lst (xs ++ [V.ref R]))) := W7
    refine ⟨D, _, _, rfl, rfl, d7, (by rw [l7]; show 4 < sizeLine; decide), ?_⟩
    clear W
    replace W := W7
    clear W7
    generalize upd (upd H7 R (.lst (Rw.err "amount" x2).vs)) D (.lst (xs ++ [V.ref R])) = G5 at W ⊢
    clear l7 d7 hR e7 T6 n6 hD5
    obtain ⟨xs, hD5⟩ := W.lst
    refine ⟨_, rfl, tyL hD5, W.t, fun H6 n6 T6 => toldA (S2.xn (W.k.trans n6)) (fun L hL E Q' rf => ?_) fun R H7 e7 hR => ?_⟩
    · have nn : LamX.ExtN G (upd H6 L (.lst [.str "none"])) := (W.k.trans n6).trans (LamX.ExtN.of (Am.Ext.new hL))
      exact ⟨rfl, _, rfl, v2, rfl, (O2.xn nn).odd, rf⟩
    obtain ⟨xs, d7, l7, W7⟩ := W.step (p := .err "amount" x2) n6 T6 e7 hR
    replace W7 : RwV D [.err "amount" x1, .err "amount" x1, .err "amount" i0, .err "amount" x1, .err "amount" x2, .err "amount" x2] T G (upd (upd H7 R (.lst (Rw.err "amount" x2).vs)) D (.lst (xs ++ [V.ref R]))) := W7
    refine ⟨D, _, _, rfl, rfl, d7, (by rw [l7]; show 5 < sizeLine; decide), ?_⟩
    clear W
    replace W := W7
    clear W7
    generalize upd (upd H7 R (.lst (Rw.err "amount" x2).vs)) D (.lst (xs ++ [V.ref R])) = G6 at W ⊢
    clear l7 d7 hR e7 T6 n6 hD5
    refine ⟨_, rfl, _, rfl, _, rfl, _, rfl, _, rfl, _, rfl, (by show 6 ≤ sizeLine; decide), fun L hL => ⟨L, rfl, ⟨_, SqL.of upd_same⟩, fun D2 hD2 => ?_⟩⟩
    have eL := Am.Ext.new (o := .lst [y, y, .int 0, y, v2, v2]) hL
    have WL := W.on (LamX.ExtN.of eL) (W.t.ext eL)
    have hL2 : (upd G6 L (.lst [y, y, .int 0, y, v2, v2])) L = some (.lst [y, y, .int 0, y, v2, v2]) := upd_same
    generalize upd G6 L (.lst [y, y, .int 0, y, v2, v2]) = GL at WL hL2 hD2 ⊢
    have item : ∀ (i : Nat) (u : V), [y, y, .int 0, y, v2, v2][i]? = some u → ∃ tx, [Rw.err "amount" x1, .err "amount" x1, .err "amount" i0, .err "amount" x1, .err "amount" x2, .err "amount" x2][i]? = some (.err "amount" tx) ∧ ShV C GL u tx := fun i u h => by
      match i, h with
      | 0, h => cases h; exact ⟨_, rfl, S1.xn WL.k⟩
      | 1, h => cases h; exact ⟨_, rfl, S1.xn WL.k⟩
      | 2, h => cases h; exact ⟨_, rfl, S0.xn WL.k⟩
      | 3, h => cases h; exact ⟨_, rfl, S1.xn WL.k⟩
      | 4, h => cases h; exact ⟨_, rfl, S2.xn WL.k⟩
      | 5, h => cases h; exact ⟨_, rfl, S2.xn WL.k⟩
      | i + 6, h => simp at h
    generalize hps : [Rw.err "amount" x1, .err "amount" x1, .err "amount" i0, .err "amount" x1, .err "amount" x2, .err "amount" x2] = ps at WL item
    have okp : ∀ p ∈ ps, p.ok := by
      rw [← hps]
      have sa : PyData.strOk (Str.ofString "amount") = true := sok_of _
      intro p hp
      simp only [List.mem_cons, List.not_mem_nil, or_false] at hp
      rcases hp with rfl | rfl | rfl | rfl | rfl | rfl
      · exact ⟨sa, S1.2.1⟩
      · exact ⟨sa, S1.2.1⟩
      · exact ⟨sa, S0.2.1⟩
      · exact ⟨sa, S1.2.1⟩
      · exact ⟨sa, S2.2.1⟩
      · exact ⟨sa, S2.2.1⟩
    have lps : ps.length = 6 := by rw [← hps]; rfl
    refine lc_list (xs := [y, y, .int 0, y, v2, v2]) (fun i H' => RwV D2 (ps.take i) T GL H') (RwV.nil hD2 WL.t) (fun i H' _ w => SqL.of (w.k _ _ hL2 no_tab)) ?_ ?_
    · rintro i u H' hu w
      obtain ⟨tx, htx, sh⟩ := item i u hu
      obtain ⟨xs2, d2⟩ := w.lst
      refine ⟨rfl, _, rfl, u, tx, rfl, sh.2.2 _ w.k, (by show 3 ≤ sizeLine; decide), fun R hR => ?_⟩
      obtain ⟨xs3, d3, l3, w3⟩ := w.put (p := .err "amount" tx) hR
      have hi : i < 6 := by
        have := (List.getElem?_eq_some_iff.mp htx).1
        omega
      have l4 : (ps.take i).length ≤ 6 := by rw [List.length_take]; omega
      have big : (3000 : Nat) < sizeLine := by decide
      refine ⟨xs3, d3, by omega, ?_⟩
      have : ps.take (i + 1) = ps.take i ++ [.err "amount" tx] := by rw [List.take_succ, htx]; rfl
      rw [this]
      exact w3
    rintro H' w
    rw [show ([y, y, .int 0, y, v2, v2] : List V).length = 6 from rfl, ← lps, List.take_length] at w
    exact rwv_eq (WL.on w.k w.t) w okp (z H' (kt_xn kG (WL.k.trans w.k)) w.t)
end
end KC

set_option Elab.async false
set_option linter.all false
set_option maxRecDepth 100000
set_option maxHeartbeats 4000000
set_option exponentiation.threshold 20000
/-! _law_refused_right. -/
namespace KC
open PySem PySem.Spec PyProof.Rows L2 Oo Gd Am KA TX NumText
section
variable {P : Program} {w : World} {K : W.Frag} {mg : Str → Option Value} {base : Heap} {f C WA WC WT ZF c p0 : Addr} {fd : FuncData} {T : List (Addr × Str)}
structure PwO (P : Program) (w : World) (K : W.Frag) (mg : Str → Option Value) (base : Heap) (C Wc : Addr) : Prop where
  of : ∃ f g fd ps, OwnBin K C (Operator.Pow).info.2 f g ∧ FnOk P w K mg base (L2.CX P w) 3 f fd ps (spPowO C Wc) ∧ Binds K fd ps []
structure RnN (P : Program) (w : World) (K : W.Frag) (mg : Str → Option Value) (base : Heap) (C Wc : Addr) : Prop where
  of : ∃ f fd, Meth K C "rounded" f ∧ FnOk P w K mg base (L2.CX P w) 3 f fd ["self", "places"] (spRndN C Wc) ∧ Binds K fd ["self", "places"] [] ∧ KBn K fd ["self", "places"] 1 [("places" : Str)] (fun us ws => us ++ ws) (fun us ws => us ++ ws)
structure Rf (P : Program) (w : World) (K : W.Frag) (mg : Str → Option Value) (base : Heap) (C WA WC WT ZF : Addr) (T : List (Addr × Str)) : Prop where
  fr : Frees mg
  B : Base P w K mg base C
  R : Rep P w K mg base C
  RU : RepU P w K mg base C
  tq : Tq K mg WA WC WT ZF
  tol : Tol K mg
  DP : DnP P w K mg base
  DT : Dn P w K mg base CX0 3 "_law_part" ["_law_pot_here"] (spPart K)
  DO : DnO P w K mg base
  EO : EqO P w K mg base C
  pw : PwO P w K mg base C WA
  rn : RnN P w K mg base C WC
  TL : DnG P w K mg base 10 "_law_left_right" ["_law_made", "_law_odd_here"] (spLr C T)
  TR : DnG P w K mg base 10 "_law_right_right" ["_law_made", "_law_odd_here"] (spLr C T)
abbrev nRf : List Str := ["_law_pot_here", "_law_made", "_law_odd_here", "_law_shown", "_law_far", "_law_told_here", "_law_due"]
theorem scRf : FnScope nRf ["_law_pot_here"] (defScope (top 31)) := ⟨rfl, rfl, rfl, by decide +kernel, rfl, by decide +kernel, by decide +kernel⟩
theorem ok_Rf (S : Rf P w K mg base C WA WC WT ZF T) (TB : LamX.TabB base mg c p0) (tp : Tq1 T p0 "_law_refused_right.<locals>.<lambda>") (F : FunC K "_law_refused_right" "_law_refused_right" (top 31) f c fd) : FnG P w K mg base CX0 11 f fd ["_law_pot_here"] (spPT T) := by
  refine okGc F scRf (fun vs H Q E h => ?_) (fun A outer s H vs Q E hG hr h => ?_)
  · obtain ⟨p, rfl, _⟩ := h
    rfl
  · obtain ⟨p, rfl, hp, hT, z⟩ := h
    have nd := scRf.nd
    have fr := S.fr
    have isk : IsK K := ⟨trivial⟩
    have B := S.B
    have h3 := hr.mono (show 3 ≤ 10 by decide)
    obtain ⟨g, gd, RF, gm, gb⟩ := S.tol.of
    have gk := RF.kp
    obtain ⟨goc, god, gkV, gdoc, gpm, gan, gcdv, gct, gosl, rfl, glk, gcode⟩ := RF.ex
    obtain ⟨fP, gP, fdP, psP, BP, FP, bP⟩ := S.pw.of
    obtain ⟨fR, fdR, mR, FR, bR, kR⟩ := S.rn.of
    refine ⟨_, pss_cons (ps_asg (pe_tup (pa_cons (pe_mk2 B h3 rfl (pa_cons (pe_ix (ixtK isk) (pe_dn S.DT hr (by rfl) (by decide) (pa_cons (pv 0) pa_nil)) pe_int (fun _ _ => rfl)) (pa_cons pe_int pa_nil))) (pa_cons (pe_dn S.DO hr (by rfl) (by decide) (pa_cons (pv 0) pa_nil)) pa_nil))) (pg_tup rfl (pgs_cons (pg_name (i := 1) nd rfl (.inr rfl)) (pgs_cons (pg_name (i := 2) nd rfl (.inl rfl)) pgs_nil))))
      (pss_cons (ps_set (i := 3) nd rfl (.inl rfl) (pe_callB (call_reprH (C := C) S.RU hG (L2H.roomH_of (hr.mono (show 2 ≤ 10 by decide)))) rfl (fr.h _ (by decide +kernel)) (by decide +kernel) (pa_cons (pv 1) pa_nil)))
      (pss_cons (ps_if (PW.pt (pw_or (pt_not (pt_val (pe_dnG S.TL hG hr (by rfl) (by decide) (pa_cons (pv 1) (pa_cons (pv 2) pa_nil))))) (pw_or (pt_not (pt_val (pe_dnG S.TR hG hr (by rfl) (by decide) (pa_cons (pv 1) (pa_cons (pv 2) pa_nil))))) (pw_or (pt_cmpR (op_eqX (k := 6) S.EO (hr.mono (by decide))) (pv 1) (pv 2) (nomark _)) (pw_or1 (pt_not (pt_cmpR (op_neX (k := 6) S.EO (hr.mono (by decide))) (pv 1) (pv 2) (nomark _)))))))) (pss_one (ps_ret pe_bl)) pss_nil)
      (pss_cons (ps_set (i := 4) nd rfl (.inr rfl) (pe_dn S.DP hr (by rfl) (by decide) (pa_cons (pv 0) (pa_cons (pe_lst (pa_cons (pv 2) (pa_cons (pe_un un_neg pe_int) (pa_cons pe_int (pa_cons (pe_op op_pow pe_int pe_int) (pa_cons (pe_op op_sub pe_int (pe_op op_pow pe_int pe_int)) (pa_cons (pe_mk1 B h3 rfl (pa_cons pe_int pa_nil)) (pa_cons (pe_mk2 B h3 rfl (pa_cons (pe_un un_neg pe_int) (pa_cons pe_int pa_nil))) pa_nil)))))))) pa_nil))))
      (pss_cons (ps_set (i := 5) nd rfl (.inl rfl) (pe_lst (pa_cons (LamX.pe_lamcall (k := 8) (T := T) (TT := TTt C WA WC WT) rfl gm gk glk gcode gb scTo rfl (.inl rfl) (told_gives (k := 6) S.R S.RU S.tq fr hG hr) TB rfl tp.mem tp.uq hr (LamX.lamS_by (show LamX.lamSB (defScope (top 31)) _ = true by decide +kernel)) rfl (fun _ _ _ _ _ => rfl) (fun A outer s H E f c' hl => pe_op (op_left (E := E) BP FP bP (passes_call (takes_of rfl rfl rfl rfl) fun _ _ _ _ h => h) (hl.mono (by decide))) (pv 1) pe_int)) pa_nil)))
      (pss_cons (ps_expr (pe_bm PySem.F.plainAttrs_list PySem.F.slot_list_append PySem.F.type_list_append mt_append (pv 5) (pa_cons (LamX.pe_lamcall (k := 8) (T := T) (TT := TTt C WA WC WT) rfl gm gk glk gcode gb scTo rfl (.inl rfl) (told_gives (k := 6) S.R S.RU S.tq fr hG hr) TB rfl tp.mem tp.uq hr (LamX.lamS_by (show LamX.lamSB (defScope (top 31)) _ = true by decide +kernel)) rfl (fun _ _ _ _ _ => rfl) (fun A outer s H E f c' hl => pe_op (op_left (E := E) BP FP bP (passes_call (takes_of rfl rfl rfl rfl) fun _ _ _ _ h => h) (hl.mono (by decide))) (pv 1) pe_int)) pa_nil)))
      (pss_cons (ps_expr (pe_bm PySem.F.plainAttrs_list PySem.F.slot_list_append PySem.F.type_list_append mt_append (pv 5) (pa_cons (LamX.pe_lamcall (k := 8) (T := T) (TT := TTt C WA WC WT) rfl gm gk glk gcode gb scTo rfl (.inl rfl) (told_gives (k := 6) S.R S.RU S.tq fr hG hr) TB rfl tp.mem tp.uq hr (LamX.lamS_by (show LamX.lamSB (defScope (top 31)) _ = true by decide +kernel)) rfl (fun _ _ _ _ _ => rfl) (fun A outer s H E f c' hl => pe_meth (E := E) (pv 1) S.B.T.cl mR FR (hl.mono (by decide)) bR .nil (passes_call (takes_of rfl rfl rfl rfl) fun _ _ _ _ h => h) (pa_cons (pv 4) pa_nil))) pa_nil)))
      (pss_cons (ps_expr (pe_bm PySem.F.plainAttrs_list PySem.F.slot_list_append PySem.F.type_list_append mt_append (pv 5) (pa_cons (LamX.pe_lamcall (k := 8) (T := T) (TT := TTt C WA WC WT) rfl gm gk glk gcode gb scTo rfl (.inl rfl) (told_gives (k := 6) S.R S.RU S.tq fr hG hr) TB rfl tp.mem tp.uq hr (LamX.lamS_by (show LamX.lamSB (defScope (top 31)) _ = true by decide +kernel)) rfl (fun _ _ _ _ _ => rfl) (fun A outer s H E f c' hl => pe_methK (E := E) (pv 1) S.B.T.cl mR FR (hl.mono (by decide)) kR (passes_call (takes_of rfl rfl rfl rfl) fun _ _ _ _ h => h) (pk_cons (pv 4) pk_nil))) pa_nil)))
      (pss_cons (ps_set (i := 6) nd rfl (.inl rfl) (pe_lst (pa_cons (pe_lst (pa_cons pe_str (pa_cons pe_str (pa_cons pe_bl pa_nil)))) (pa_cons (pe_lst (pa_cons pe_str (pa_cons pe_str (pa_cons pe_bl pa_nil)))) (pa_cons (pe_lst (pa_cons pe_str (pa_cons (pe_callB (call_reprH (C := C) S.RU hG (L2H.roomH_of (hr.mono (show 2 ≤ 10 by decide)))) rfl (fr.h _ (by decide +kernel)) (by decide +kernel) (pa_cons (pv 4) pa_nil)) (pa_cons pe_bl pa_nil)))) (pa_cons (pe_lst (pa_cons pe_str (pa_cons (pe_callB (call_reprH (C := C) S.RU hG (L2H.roomH_of (hr.mono (show 2 ≤ 10 by decide)))) rfl (fr.h _ (by decide +kernel)) (by decide +kernel) (pa_cons (pv 4) pa_nil)) (pa_cons pe_bl pa_nil)))) pa_nil))))))
      (pss_one (ps_ret (pe_and (pe_cmpR (op_eqD hr.units) (pv 5) (pv 6) (nomark _)) (pe_one (pe_cmpR op_eq (pe_callB (call_reprH (C := C) S.RU hG (L2H.roomH_of (hr.mono (show 2 ≤ 10 by decide)))) rfl (fr.h _ (by decide +kernel)) (by decide +kernel) (pa_cons (pv 1) pa_nil)) (pv 3) (nomark _)))))))))))))), ?_⟩
    refine ⟨_, rfl, p, rfl, hp, fun t q H1 _ ntp ht lq k1 => ?_⟩
    refine ⟨t, _, 0, _, rfl, rfl, SqT.of ht, rfl, q.num, 3, rfl, (by decide), Nat.lt_trans lq.1 (by decide), (by decide), fun r H2 e2 n2 i2 => ?_⟩
    have kp2 := Kp.ext k1.pot e2
    have lm : Low 113 (Rat.divInt q.num 3) := by
      obtain ⟨b1, b2⟩ := divInt_le q.num 3 (by decide)
      exact ⟨Nat.lt_of_le_of_lt b1 (Nat.lt_trans lq.1 (by decide)), Nat.lt_of_le_of_lt b2 (by decide)⟩
    generalize Rat.divInt q.num 3 = qm at i2 lm
    refine ⟨_, rfl, p, rfl, kp2.pot, fun v x H3 ov nv k3 => ⟨(by show 2 ≤ sizeLine; decide), fun T2 hT2 => ⟨T2, _, rfl, SqT.of upd_same, rfl, _, _, rfl, _, _, rfl, rfl, ?_⟩⟩⟩
    have kt2 : Kp p H3 (upd H3 T2 (.tup [.ref r, v])) := Kp.new k3.pot hT2
    have kG : KT p H (upd H3 T2 (.tup [.ref r, v])) := (((Kp.kt k1).trans (Kp.kt kp2)).trans (Kp.kt k3)).trans (Kp.kt kt2)
    have TG : LamX.Tabs T (upd H3 T2 (.tup [.ref r, v])) := tabs_kp (tabs_kp (tabs_kp (tabs_kp hT hp k1) k1.pot kp2) kp2.pot k3) k3.pot kt2
    have iG : Is C (upd H3 T2 (.tup [.ref r, v])) r qm := is_kt kp2.pot i2 ((Kp.kt k3).trans (Kp.kt kt2))
    have ovG : ∀ Hz, KT p (upd H3 T2 (.tup [.ref r, v])) Hz → OdV Hz v x := fun Hz kz => ov Hz ((Kp.kt kt2).trans kz)
    have pG := kt2.pot
    generalize upd H3 T2 (.tup [.ref r, v]) = G at kG TG iG ovG pG ⊢
    clear ov kt2 hT2 k3 nv n2 e2 i2 ht ntp k1 kp2
    have sm := ShV.is iG (C := C) ⟨Nat.lt_trans lm.1 (by decide), Nat.lt_trans lm.2 (by decide)⟩
    refine ⟨_, rfl, .ref r, Am.shown qm, rfl, sm.2.2 G (LamX.ExtN.refl _), ?_⟩
    have oG := ovG G ⟨fun _ _ _ h _ => h, pG⟩
    refine ⟨_, rfl, _, rfl, r, qm, v, x, rfl, iG, oG, TG, fun G1 n1 T1 => ⟨_, rfl, iteF ?_⟩⟩
    refine ⟨_, rfl, _, rfl, r, qm, v, x, rfl, is_xn iG n1, oG.xn n1, T1, fun G2 m2 T2 => ⟨_, rfl, iteF ?_⟩⟩
    have n2 := n1.trans m2
    obtain ⟨Ty, bt, _⟩ := (oG.xn n2).bt
    refine ⟨_, rfl, _, rfl, r, qm, Ty, rfl, is_xn iG n2, bt, _, rfl, iteF ?_⟩
    refine ⟨_, rfl, _, rfl, r, qm, Ty, rfl, is_xn iG n2, bt, _, rfl, iteF ?_⟩
    have kG2 : KT p G G2 := pot_xn pG n2
    have pG2 := kG2.2
    clear bt m2 T1 n1 oG sm
    refine ⟨_, rfl, _, rfl, 1, rfl, 10, 30, rfl, rfl, ⟨by decide, by decide, by decide⟩, 10, 30, rfl, rfl, ⟨by decide, by decide, by decide⟩, _, _, rfl, rfl, ?_⟩
    refine ⟨2, rfl, (by decide), fun r1 H4 e4 n4 i4 => ?_⟩
    refine ⟨1, rfl, -1, 2, rfl, (by decide), (by decide), (by decide), fun r2 H5 e5 n5 i5 => ⟨(by show 7 ≤ sizeLine; decide), fun L hL => ?_⟩⟩
    have e45 := e4.trans e5
    have kp5 := Kp.ext pG2 e45
    have i4' := i4.ext e5
    have kpL : Kp p H5 (upd H5 L (.lst [v, .int (-1), .int 13, .int (10 ^ (30 : Int).toNat), .int (0 - 10 ^ (30 : Int).toNat), .ref r1, .ref r2])) := Kp.new kp5.pot hL
    refine ⟨p, L, _, rfl, kpL.pot, ne_pot kp5.pot hL, SqL.of upd_same, (fun z => by cases z), (by show 7 ≤ 1000000; decide), fun y H6 hy k6 => ?_⟩
    have kL6 : KT p H5 H6 := (Kp.kt kpL).trans (Kp.kt k6)
    have k26 : KT p G2 H6 := (Kp.kt kp5).trans kL6
    have VF : ∃ xf, ShV C H6 y xf ∧ (NoX C H6 y ∨ ∃ i : Int, y = .int i ∧ (i < 0 ∨ 12 < i)) := by
      simp only [List.mem_cons, List.not_mem_nil, or_false] at hy
      rcases hy with rfl | rfl | rfl | rfl | rfl | rfl | rfl
      · have o := ovG H6 (kG2.trans k26)
        exact ⟨x, ShV.odd o, .inl (NoX.odd o)⟩
      · exact ⟨_, ShV.int (by decide), .inr ⟨_, rfl, by decide⟩⟩
      · exact ⟨_, ShV.int (by decide), .inr ⟨_, rfl, by decide⟩⟩
      · exact ⟨_, ShV.int (by decide), .inr ⟨_, rfl, by decide⟩⟩
      · exact ⟨_, ShV.int (by decide), .inr ⟨_, rfl, by decide⟩⟩
      · have iz := is_kt kp5.pot i4' kL6
        exact ⟨_, ShV.is iz ⟨by decide, by decide⟩, .inl (NoX.is iz)⟩
      · have iz := is_kt kp5.pot i5 kL6
        exact ⟨_, ShV.is iz ⟨by decide +kernel, by decide +kernel⟩, .inl (NoX.is iz)⟩
    obtain ⟨xf, SF, NF⟩ := VF
    have T6 : LamX.Tabs T H6 := tabs_kp (tabs_kp (tabs_kp T2 pG2 kp5) kp5.pot kpL) kpL.pot k6
    have i6 : Is C H6 r qm := is_kt pG iG (kG2.trans k26)
    have kH6 : KT p H H6 := kG.trans (kG2.trans k26)
    clear hy k6 kpL hL i5 e5 i4 e4 n4 n5 i4' e45 kp5 kL6 k26 kG2 T2 iG ovG TG
    have s13 := ShV.int (C := C) (H := H6) (i := 13) (by decide)
    have s60 := ShV.int (C := C) (H := H6) (i := 60) (by decide)
    rw [show Str.ofString (toString (13 : Int)) = Str.ofString "13" by decide +kernel] at s13
    rw [show Str.ofString (toString (60 : Int)) = Str.ofString "60" by decide +kernel] at s60
    have sr := ShV.is i6 ⟨Nat.lt_trans lm.1 (by decide), Nat.lt_trans lm.2 (by decide)⟩
    generalize e13 : Str.ofString "13" = t13 at s13
    generalize e60 : Str.ofString "60" = t60 at s60
    show tSeq _ _ _ [some (.ref p), some (.ref r), some v, some (.str (Am.shown qm)), some y, none, none] H6
    refine ⟨T6, fun H3 n3 T3 => toldA (s13.xn n3) (fun L hL E Q' rf => ?_) fun R H4 e4 hR => ⟨(by show 1 ≤ sizeLine; decide), fun D hD => ?_⟩⟩
    · obtain ⟨dx, ea⟩ := is_xn i6 (n3.trans (LamX.ExtN.of (Am.Ext.new (o := .lst [.str "none"]) hL)))
      exact ⟨_, rfl, .inr (.inl ⟨r, dx, _, 13, rfl, rfl, ea, r, qm, 13, rfl, ⟨dx, ea⟩, by decide, rf⟩)⟩
    have W : RwV D [.err "amount" t13] T H6 (upd (upd H4 R (.lst (Rw.err "amount" t13).vs)) D (.lst [V.ref R])) := RwV.first n3 T3 e4 hR hD
    generalize upd (upd H4 R (.lst (Rw.err "amount" t13).vs)) D (.lst [V.ref R]) = G1 at W ⊢
    clear hD hR e4 T3 n3
    obtain ⟨xs, hD5⟩ := W.lst
    refine ⟨_, rfl, tyL hD5, W.t, fun H6' n6 T6 => toldA (s60.xn (W.k.trans n6)) (fun L hL E Q' rf => ?_) fun R H7 e7 hR => ?_⟩
    · obtain ⟨dx, ea⟩ := is_xn i6 ((W.k.trans n6).trans (LamX.ExtN.of (Am.Ext.new (o := .lst [.str "none"]) hL)))
      exact ⟨_, rfl, .inr (.inl ⟨r, dx, _, 60, rfl, rfl, ea, r, qm, 60, rfl, ⟨dx, ea⟩, by decide, rf⟩)⟩
    obtain ⟨xs, d7, l7, W7⟩ := W.step (p := .err "amount" t60) n6 T6 e7 hR
    replace W7 : RwV D [.err "amount" t13, .err "amount" t60] T H6 (upd (upd H7 R (.lst (Rw.err "amount" t60).vs)) D (.lst (xs ++ [V.ref R]))) := W7
    refine ⟨D, _, _, rfl, rfl, d7, (by rw [l7]; show 1 < sizeLine; decide), ?_⟩
    clear W
    replace W := W7
    clear W7
    generalize upd (upd H7 R (.lst (Rw.err "amount" t60).vs)) D (.lst (xs ++ [V.ref R])) = G2 at W ⊢
    clear l7 d7 hR e7 T6 n6 hD5
    have NR : ∀ {Hz}, LamX.ExtN H6 Hz → (NoI C Hz y ∨ ∃ i : Int, y = .int i ∧ (i < 0 ∨ 12 < i)) := fun nz => NF.imp (fun h => h _ nz) fun h => h
    obtain ⟨xs, hD5⟩ := W.lst
    refine ⟨_, rfl, tyL hD5, W.t, fun H6' n6 T6 => toldC (SF.xn (W.k.trans n6)) (fun L hL E Q' rf => ?_) fun R H7 e7 hR => ?_⟩
    · have nn : LamX.ExtN H6 (upd H6' L (.lst [.str "none"])) := (W.k.trans n6).trans (LamX.ExtN.of (Am.Ext.new hL))
      obtain ⟨dx, ea⟩ := is_xn i6 nn
      exact ⟨_, rfl, r, dx, _, rfl, ea, no_rnd qm, _, rfl, r, qm, y, rfl, ⟨dx, ea⟩, NR nn, rf⟩
    obtain ⟨xs, d7, l7, W7⟩ := W.step (p := .err "count" xf) n6 T6 e7 hR
    replace W7 : RwV D [.err "amount" t13, .err "amount" t60, .err "count" xf] T H6 (upd (upd H7 R (.lst (Rw.err "count" xf).vs)) D (.lst (xs ++ [V.ref R]))) := W7
    refine ⟨D, _, _, rfl, rfl, d7, (by rw [l7]; show 2 < sizeLine; decide), ?_⟩
    clear W
    replace W := W7
    clear W7
    generalize upd (upd H7 R (.lst (Rw.err "count" xf).vs)) D (.lst (xs ++ [V.ref R])) = G3 at W ⊢
    clear l7 d7 hR e7 T6 n6 hD5
    obtain ⟨xs, hD5⟩ := W.lst
    refine ⟨_, rfl, tyL hD5, W.t, fun H6' n6 T6 => toldC (SF.xn (W.k.trans n6)) (fun L hL E Q' rf => ?_) fun R H7 e7 hR => ?_⟩
    · have nn : LamX.ExtN H6 (upd H6' L (.lst [.str "none"])) := (W.k.trans n6).trans (LamX.ExtN.of (Am.Ext.new hL))
      obtain ⟨dx, ea⟩ := is_xn i6 nn
      exact ⟨_, rfl, r, dx, _, rfl, ea, no_rnd qm, _, rfl, rfl, r, qm, y, rfl, ⟨dx, ea⟩, NR nn, rf⟩
    obtain ⟨xs, d7, l7, W7⟩ := W.step (p := .err "count" xf) n6 T6 e7 hR
    replace W7 : RwV D [.err "amount" t13, .err "amount" t60, .err "count" xf, .err "count" xf] T H6 (upd (upd H7 R (.lst (Rw.err "count" xf).vs)) D (.lst (xs ++ [V.ref R]))) := W7
    refine ⟨D, _, _, rfl, rfl, d7, (by rw [l7]; show 3 < sizeLine; decide), ?_⟩
    clear W
    replace W := W7
    clear W7
    generalize upd (upd H7 R (.lst (Rw.err "count" xf).vs)) D (.lst (xs ++ [V.ref R])) = G4 at W ⊢
    clear l7 d7 hR e7 T6 n6 hD5
    refine ⟨(by show 3 ≤ sizeLine; decide), fun R1 h1 => ⟨(by show 3 ≤ sizeLine; decide), fun R2 h2 => ⟨_, rfl, y, xf, rfl, SF.2.2 _ ((W.k.trans (LamX.ExtN.of (Am.Ext.new h1))).trans (LamX.ExtN.of (Am.Ext.new h2))), (by show 3 ≤ sizeLine; decide), fun R3 h3 =>
      ⟨_, rfl, y, xf, rfl, SF.2.2 _ (((W.k.trans (LamX.ExtN.of (Am.Ext.new h1))).trans (LamX.ExtN.of (Am.Ext.new h2))).trans (LamX.ExtN.of (Am.Ext.new h3))), (by show 3 ≤ sizeLine; decide), fun R4 h4 => ⟨(by show 4 ≤ sizeLine; decide), fun N hN => ?_⟩⟩⟩⟩⟩
    have okp : ∀ p ∈ [Rw.err "amount" t13, .err "amount" t60, .err "count" xf, .err "count" xf], p.ok := by
      have sa : PyData.strOk (Str.ofString "amount") = true := sok_of _
      have sc : PyData.strOk (Str.ofString "count") = true := sok_of _
      intro p hp
      simp only [List.mem_cons, List.not_mem_nil, or_false] at hp
      rcases hp with rfl | rfl | rfl | rfl
      · exact ⟨sa, s13.2.1⟩
      · exact ⟨sa, s60.2.1⟩
      · exact ⟨sc, SF.2.1⟩
      · exact ⟨sc, SF.2.1⟩
    subst e13 e60
    have E1 := Am.Ext.new (o := .lst (Rw.err "amount" "13").vs) h1
    have E2 := Am.Ext.new (o := .lst (Rw.err "amount" "60").vs) h2
    have E3 := Am.Ext.new (o := .lst (Rw.err "count" xf).vs) h3
    have E4 := Am.Ext.new (o := .lst (Rw.err "count" xf).vs) h4
    have E5 := Am.Ext.new (o := .lst [.ref R1, .ref R2, .ref R3, .ref R4]) hN
    have a1 := E5 _ _ (E4 _ _ (E3 _ _ (E2 _ _ (upd_same (H := G4) (a := R1) (o := .lst (Rw.err "amount" "13").vs)))))
    have a2 := E5 _ _ (E4 _ _ (E3 _ _ (upd_same (H := upd G4 R1 (.lst (Rw.err "amount" "13").vs)) (a := R2) (o := .lst (Rw.err "amount" "60").vs))))
    have a3 := E5 _ _ (E4 _ _ (upd_same (H := upd (upd G4 R1 (.lst (Rw.err "amount" "13").vs)) R2 (.lst (Rw.err "amount" "60").vs)) (a := R3) (o := .lst (Rw.err "count" xf).vs)))
    have a4 := E5 _ _ (upd_same (H := upd (upd (upd G4 R1 (.lst (Rw.err "amount" "13").vs)) R2 (.lst (Rw.err "amount" "60").vs)) R3 (.lst (Rw.err "count" xf).vs)) (a := R4) (o := .lst (Rw.err "count" xf).vs))
    have nRN : ∀ {b o}, (upd (upd (upd (upd G4 R1 (.lst (Rw.err "amount" "13").vs)) R2 (.lst (Rw.err "amount" "60").vs)) R3 (.lst (Rw.err "count" xf).vs)) R4 (.lst (Rw.err "count" xf).vs)) b = some o → b ≠ N := fun h => ne_of_none h hN
    have EE := (((E1.trans E2).trans E3).trans E4).trans E5
    have hN0 : G4 N = none := (((E1.trans E2).trans E3).trans E4).gone hN
    have W2 : RwV N [Rw.err "amount" "13", .err "amount" "60", .err "count" xf, .err "count" xf] T G4 (upd (upd (upd (upd (upd G4 R1 (.lst (Rw.err "amount" "13").vs)) R2 (.lst (Rw.err "amount" "60").vs)) R3 (.lst (Rw.err "count" xf).vs)) R4 (.lst (Rw.err "count" xf).vs)) N (.lst [.ref R1, .ref R2, .ref R3, .ref R4])) := by
      refine ⟨LamX.ExtN.of EE, W.t.ext EE, ⟨[R1, R2, R3, R4], upd_same, ?_⟩, fun o _ h => by rw [hN0] at h; cases h⟩
      refine .cons ⟨a1, nRN (E4 _ _ (E3 _ _ (E2 _ _ upd_same)))⟩ (.cons ⟨a2, nRN (E4 _ _ (E3 _ _ upd_same))⟩ (.cons ⟨a3, nRN (E4 _ _ upd_same)⟩ (.cons ⟨a4, nRN upd_same⟩ .nil)))
    have WN := W.on (LamX.ExtN.of EE) (W.t.ext EE)
    refine ⟨_, rfl, _, rfl, rwv_eq WN W2 okp ⟨_, rfl, _, rfl, .ref r, Am.shown qm, rfl, sr.2.2 _ WN.k, _, rfl, rfl, ?_⟩⟩
    rw [show decide (V.str (Am.shown qm) = V.str (Am.shown qm)) = true from decide_eq_true rfl]
    exact z _ (kt_xn kH6 WN.k) WN.t
end
end KC

set_option Elab.async false
set_option linter.all false
set_option maxRecDepth 100000
set_option maxHeartbeats 1000000
set_option exponentiation.threshold 20000
/-! What is told of a text that is read. -/
namespace KC
open PySem PySem.Spec PyProof.Rows L2 Oo Gd Am KA TX NumText
theorem written_low {q : Rat} {n : Nat} (h : (written q).length ≤ n) (hn : 0 < n) : Low (4 * n) q := by
  rw [TL.len_tl, tl_written] at h
  unfold wr at h
  rw [List.length_append, List.length_append] at h
  have b1 := val_bits (n := n) (TL.numL_digits q.num.natAbs) (by omega)
  rw [TL.numL_val] at b1
  refine ⟨b1, ?_⟩
  by_cases e : q.den = 1
  · rw [e]
    exact Nat.lt_of_lt_of_le (by decide) (Nat.pow_le_pow_right (show 1 ≤ 2 by decide) (show 1 ≤ 4 * n by omega))
  · rw [if_neg e, List.length_cons] at h
    have b2 := val_bits (n := n) (TL.numL_digits q.den) (by omega)
    rw [TL.numL_val] at b2
    exact b2
theorem int_len {i : Int} {k : Nat} (hk : 0 < k) (h : i.natAbs < 10 ^ k) : (Str.ofString (toString i)).length ≤ k + 1 := by
  rw [TL.len_tl, tl_int, List.length_append]
  have := TL.numL_len hk h
  unfold sg
  split
  · rw [List.length_cons, List.length_nil]; omega
  · rw [List.length_nil]; omega
theorem written_len {q : Rat} (h : Low 112 q) : (written q).length ≤ 71 := by
  have l1 := int_len (i := q.num) (k := 34) (by decide) (Nat.lt_trans h.1 (by decide))
  have l2 := int_len (i := (q.den : Int)) (k := 34) (by decide) (Nat.lt_trans (KA.low_den h) (by decide))
  unfold written
  split
  · show (Str.ofString (toString q.num)).length ≤ 71
    omega
  · have k1 : (Str.ofString "/").length = 1 := by decide
    have k0 : (Str.empty).length = 0 := by decide
    simp only [strLen_append, k1, k0]
    omega
/-- what is told of a text: an Amount, or line 1 -/
def Ans (x : Str) (rw : Rw) : Prop := (∃ q, x = written q ∧ rw = .made (Am.shown q)) ∨ ((∀ q, x ≠ written q) ∧ rw = .err "text" "1")
theorem ans_of (x : Str) : ∃ rw, Ans x rw := by
  by_cases h : ∃ q, x = written q
  · obtain ⟨q, e⟩ := h
    exact ⟨_, .inl ⟨q, e, rfl⟩⟩
  · exact ⟨_, .inr ⟨fun q e => h ⟨q, e⟩, rfl⟩⟩
theorem Ans.ok {x : Str} {rw : Rw} (a : Ans x rw) : rw.ok := by
  rcases a with ⟨q, _, rfl⟩ | ⟨_, rfl⟩
  · exact sok_shown q
  · exact ⟨sok_of _, sok_of _⟩
theorem told_ans {C WA WC WT : Addr} {x : Str} {rw : Rw} {tl : XK → Hp → VK → Prop} {H : Hp} {Q : VK} (a : Ans x rw) (lx : x.length ≤ 600)
    (hh : ∀ L, H L = none → ∀ E Q', ((∃ q, x = written q ∧ New C (upd H L (.lst [.str "none"])) Q' q) ∨ ((∀ q, x ≠ written q) ∧ RefT WT (upd H L (.lst [.str "none"])) E)) → tl E (upd H L (.lst [.str "none"])) Q')
    (z : ∀ D H', Am.Ext H H' → H' D = none → Q (.ref D) (upd H' D (.lst rw.vs))) : TTt C WA WC WT tl H Q := by
  rcases a with ⟨q, e, rfl⟩ | ⟨ne, rfl⟩
  · have lw := written_low (q := q) (n := 600) (by rw [← e]; exact lx) (by decide)
    exact toldM (fun L hL Qc f => hh L hL _ Qc (.inl ⟨q, e, fun r H' e2 _ i => f r q H' i ⟨Nat.lt_trans lw.1 (by decide), Nat.lt_trans lw.2 (by decide)⟩ ((Am.Ext.new hL).trans e2) rfl⟩)) z
  · exact toldT (fun L hL E Q' rf => hh L hL E Q' (.inr ⟨ne, rf⟩)) z
theorem rwv_ne {K : W.Frag} {D1 D2 : Addr} {ps : List Rw} {H H1 H2 : Hp} {T1 T2 : List (Addr × Str)} {Q : VK} (W1 : RwV D1 ps T1 H1 H) (W2 : RwV D2 ps T2 H2 H) (ok : ∀ p ∈ ps, p.ok) (z : Q (.bl false) H) : rNeD K (.ref D1) (.ref D2) H Q := by
  obtain ⟨r1, h1, z1⟩ := W1.ex
  obtain ⟨r2, h2, z2⟩ := W2.ex
  have sh := sh_rws ok
  refine ⟨_, _, .lst (SqL.of h1) (dp_rws (fun _ _ h => h.1) z1), .lst (SqL.of h2) (dp_rws (fun _ _ h => h.1) z2), sh, sh, ?_⟩
  rw [SeqAt.eqv_refl _ (SeqAt.canLay_of_shaped sh)]
  exact z
theorem row_eq {K : W.Frag} {r1 r2 : Addr} {p : Rw} {H : Hp} {Q : VK} (h1 : H r1 = some (.lst p.vs)) (h2 : H r2 = some (.lst p.vs)) (ok : p.ok) (z : Q (.bl true) H) : rEqD K (.ref r1) (.ref r2) H Q := by
  obtain ⟨a, b⟩ := Rw.lay ok
  have sh : SeqAt.shaped p.d = true := by
    unfold SeqAt.shaped
    rw [a, b]
    rfl
  refine ⟨_, _, Rw.dp h1, Rw.dp h2, sh, sh, ?_⟩
  rw [SeqAt.eqv_refl _ (SeqAt.canLay_of_shaped sh)]
  exact z
section
variable {P : Program} {w : World} {K : W.Frag} {mg : Str → Option Value} {base : Heap} {C WT : Addr}
structure RdS (P : Program) (w : World) (K : W.Frag) (mg : Str → Option Value) (base : Heap) (C WT : Addr) : Prop where
  mgA : mg "Amount" = some (.ref C)
  of : ∃ mc p g fd, ClX.CRead K C mc ∧ SMet K C mc "read" p g ∧ FnOk P w K mg base (L2.CX P w) 4 g fd ["text"] (spRead C WT) ∧ FnOk P w K mg base (L2.CX P w) 4 g fd ["text"] (spReadO C WT) ∧ Binds K fd ["text"] [] ∧ KBn K fd ["text"] 0 [("text" : Str)] (fun us ws => us ++ ws) (fun us ws => us ++ ws)
end
end KC

set_option Elab.async false
set_option linter.all false
set_option maxRecDepth 100000
set_option maxHeartbeats 4000000
set_option exponentiation.threshold 20000
/-! _law_texts_right. -/
namespace KC
open PySem PySem.Spec PyProof.Rows L2 Oo Gd Am KA TX NumText
section
variable {P : Program} {w : World} {K : W.Frag} {mg : Str → Option Value} {base : Heap} {f C WA WC WT ZF c p0 : Addr} {fd : FuncData} {T : List (Addr × Str)}
structure Tx (P : Program) (w : World) (K : W.Frag) (mg : Str → Option Value) (base : Heap) (C WA WC WT ZF : Addr) : Prop where
  fr : Frees mg
  nb : base.NoDigits
  B : Base P w K mg base C
  U : Una P w K mg base C "__str__" 1 (spText C written)
  R : Rep P w K mg base C
  RU : RepU P w K mg base C
  tq : Tq K mg WA WC WT ZF
  tol : Tol K mg
  rd : RdS P w K mg base C WT
  DP : DnP P w K mg base
  DL : DnL P w K mg base
  DT : Dn P w K mg base CX0 3 "_law_part" ["_law_pot_here"] (spPart K)
  DW : Dn P w K mg base CX0 1 "_law_written" ["_law_part_here"] (spTxt K written)
  DB : Dn P w K mg base CX0 3 "_law_bent" ["_law_pot_here", "_law_wording"] spBent
  DF : Dn P w K mg base CX0 2 "_law_fraction_in" ["_law_wording"] spFr
abbrev nTx : List Str := ["_law_pot_here", "_law_part_here", "_law_size", "_law_wording", "_law_by", "_law_some", "_law_each", "_law_found", "_law_due", "_law_told_here", "_law_odd_here"]
theorem scTx : FnScope nTx ["_law_pot_here"] (defScope (top 35)) := ⟨rfl, rfl, rfl, by decide +kernel, rfl, by decide +kernel, by decide +kernel⟩
theorem ok_Tx (S : Tx P w K mg base C WA WC WT ZF) (TB : LamX.TabB base mg c p0) (tp : Tq1 T p0 "_law_texts_right.<locals>.<lambda>") (F : FunC K "_law_texts_right" "_law_texts_right" (top 35) f c fd) : FnG P w K mg base CX0 10 f fd ["_law_pot_here"] (spPT T) := by
  refine okGc F scTx (fun vs H Q E h => ?_) (fun A outer s H vs Q E hG hr h => ?_)
  · obtain ⟨p, rfl, _⟩ := h
    rfl
  · obtain ⟨p, rfl, hp, hT, z⟩ := h
    have nd := scTx.nd
    have fr := S.fr
    have isk : IsK K := ⟨trivial⟩
    have B := S.B
    have h3 := hr.mono (show 3 ≤ 9 by decide)
    obtain ⟨g, gd, RF, gm, gb⟩ := S.tol.of
    have gk := RF.kp
    obtain ⟨goc, god, gkV, gdoc, gpm, gan, gcdv, gct, gosl, rfl, glk, gcode⟩ := RF.ex
    obtain ⟨Rmc, Rp, Rg, Rfd, RR, RM, RF1, RF2, Rb, Rk⟩ := S.rd.of
    refine ⟨_, pss_cons (ps_par (i := 1) (j := 2) rfl nd rfl rfl (by decide) rfl rfl (pa_cons (pe_dn S.DT hr (by rfl) (by decide) (pa_cons (pv 0) pa_nil)) (pa_cons (pe_op op_pow pe_int pe_int) pa_nil)) (by rfl))
      (C8.pss_cut (ps_if (pt_cmpR op_gt (pe_ix (ixtK isk) (pv 1) pe_int (fun _ _ => rfl)) pe_int (nomark _)) (pss_one (ps_set (i := 1) nd rfl (.inl rfl) (pe_dn S.DL hr (by rfl) (by decide) (pa_cons (pe_op op_mulW (pe_op op_modN (pe_ix (ixtK isk) (pv 1) pe_int (fun _ _ => rfl)) (pv 2)) (pe_dn S.DP hr (by rfl) (by decide) (pa_cons (pv 0) (pa_cons (pe_lst (pa_cons pe_int (pa_cons (pe_un un_neg pe_int) pa_nil))) pa_nil)))) (pa_cons (pe_op op_add pe_int (pe_op op_modN (pe_ix (ixtK isk) (pv 1) pe_int (fun _ _ => rfl)) (pv 2))) pa_nil))))) pss_nil)
      (pss_cons (ps_par (i := 3) (j := 4) rfl nd rfl rfl (by decide) rfl rfl (pa_cons (pe_dn S.DW hr (by rfl) (by decide) (pa_cons (pv 1) pa_nil)) (pa_cons (pe_dn S.DP hr (by rfl) (by decide) (pa_cons (pv 0) (pa_cons (pe_lst (pa_cons pe_int (pa_cons pe_int (pa_cons pe_int pa_nil)))) pa_nil))) pa_nil)) (by rfl))
      (pss_cons (ps_set (i := 5) nd rfl (.inl rfl) (pe_lst (pa_cons (pv 3) (pa_cons (pe_dn S.DB hr (by rfl) (by decide) (pa_cons (pv 0) (pa_cons (pv 3) pa_nil))) (pa_cons (pe_dn S.DB hr (by rfl) (by decide) (pa_cons (pv 0) (pa_cons (pe_dn S.DB hr (by rfl) (by decide) (pa_cons (pv 0) (pa_cons (pv 3) pa_nil))) pa_nil))) pa_nil)))))
      (pss_cons (ps_expr (pe_bm PySem.F.plainAttrs_list PySem.F.slot_list_append PySem.F.type_list_append mt_append (pv 5) (pa_cons (pe_op op_add_str (pe_op op_add_str (pe_callTy (call_strI S.nb rfl) rfl (fr.h _ (by decide +kernel)) (by decide +kernel) (pa_cons (pe_op op_mulW (pe_ix (ixtK isk) (pv 1) pe_int (fun _ _ => rfl)) (pv 4)) pa_nil)) pe_str) (pe_callTy (call_strI S.nb rfl) rfl (fr.h _ (by decide +kernel)) (by decide +kernel) (pa_cons (pe_op op_mulW (pe_ix (ixtK isk) (pv 1) pe_int (fun _ _ => rfl)) (pv 4)) pa_nil))) pa_nil)))
      (pss_cons (ps_for PassesOwn.never rfl (listK isk (pv 5)) (pg_name (i := 6) nd rfl (.inr rfl)) (C8.pss_cut (ps_set (i := 7) nd rfl (.inl rfl) (pe_dn S.DF hr (by rfl) (by decide) (pa_cons (pv 6) pa_nil)))
      (pss_cons (ps_set (i := 8) nd rfl (.inl rfl) (pe_lst (pa_cons pe_str (pa_cons pe_str (pa_cons pe_bl pa_nil)))))
      (C8.pss_cut (ps_if (pt_cmpR op_notN (pv 7) pe_non (nomark _)) (pss_cons (ps_set (i := 8) nd rfl (.inl rfl) (pe_lst (pa_cons pe_str (pa_cons (pe_op op_add_str (pe_op op_add_str (pe_op op_add_str (pe_op op_add_str pe_str (pe_callTy (call_strI S.nb rfl) rfl (fr.h _ (by decide +kernel)) (by decide +kernel) (pa_cons (pe_ix (ixtK isk) (pv 7) pe_int (fun _ _ => rfl)) pa_nil))) pe_str) (pe_callTy (call_strI S.nb rfl) rfl (fr.h _ (by decide +kernel)) (by decide +kernel) (pa_cons (pe_ix (ixtK isk) (pv 7) pe_int (fun _ _ => rfl)) pa_nil))) pe_str) pa_nil))))
      (pss_one (ps_if (pt_cmpR op_ne (pe_callTy (call_strN S.U (hr.mono (by decide))) rfl (fr.h _ (by decide +kernel)) (by decide +kernel) (pa_cons (pe_smeth (E := E0) (pe_glob (v := V.ref C) rfl S.rd.mgA rfl) RR RM RF1 Rb (hr.mono (by decide)) (passes_call takes0 fun _ _ _ _ h => h) (pa_cons (pv 6) pa_nil)) pa_nil)) (pv 6) (nomark _)) (pss_one (ps_ret pe_bl)) pss_nil))) pss_nil)
      (pss_cons (ps_set (i := 9) nd rfl (.inl rfl) (pe_lst (pa_cons (LamX.pe_lamcall (k := 7) (T := T) (TT := TTt C WA WC WT) rfl gm gk glk gcode gb scTo rfl (.inl rfl) (told_gives (k := 5) S.R S.RU S.tq fr hG hr) TB rfl tp.mem tp.uq hr (LamX.lamS_by (show LamX.lamSB (defScope (top 35)) _ = true by decide +kernel)) rfl (fun _ _ _ _ _ => rfl) (fun A outer s H E f c' hl => pe_smeth (E := E) (pe_glob (v := V.ref C) rfl S.rd.mgA rfl) RR RM RF1 Rb (hl.mono (by decide)) (passes_call (takes_of rfl rfl rfl rfl) fun _ _ _ _ h => h) (pa_cons (pv 6) pa_nil))) pa_nil)))
      (pss_cons (ps_expr (pe_bm PySem.F.plainAttrs_list PySem.F.slot_list_append PySem.F.type_list_append mt_append (pv 9) (pa_cons (LamX.pe_lamcall (k := 7) (T := T) (TT := TTt C WA WC WT) rfl gm gk glk gcode gb scTo rfl (.inl rfl) (told_gives (k := 5) S.R S.RU S.tq fr hG hr) TB rfl tp.mem tp.uq hr (LamX.lamS_by (show LamX.lamSB (defScope (top 35)) _ = true by decide +kernel)) rfl (fun _ _ _ _ _ => rfl) (fun A outer s H E f c' hl => pe_smethK (E := E) (pe_glob (v := V.ref C) rfl S.rd.mgA rfl) RR RM RF1 (hl.mono (by decide)) Rk (passes_call (takes_of rfl rfl rfl rfl) fun _ _ _ _ h => h) (pk_cons (pv 6) pk_nil))) pa_nil)))
      (pss_one (ps_if (pt_cmpR (op_neD hr.units) (pv 9) (pe_lst (pa_cons (pv 8) (pa_cons (pv 8) pa_nil))) (nomark _)) (pss_one (ps_ret pe_bl)) pss_nil))))))))
      (pss_cons (ps_set (i := 10) nd rfl (.inr rfl) (pe_dn S.DP hr (by rfl) (by decide) (pa_cons (pv 0) (pa_cons (pe_lst (pa_cons pe_non (pa_cons pe_int (pa_cons (pe_mk1 B h3 rfl (pa_cons pe_int pa_nil)) (pa_cons pe_bl (pa_cons (pe_lst (pa_cons pe_str pa_nil)) (pa_cons (pe_tup (pa_cons pe_str pa_nil)) (pa_cons pe_dnewK (pa_cons pe_int pa_nil))))))))) pa_nil))))
      (pss_one (ps_ret (pe_cmpR (op_eqD hr.units) (LamX.pe_lamcall (k := 7) (T := T) (TT := TTt C WA WC WT) rfl gm gk glk gcode gb scTo rfl (.inl rfl) (told_gives (k := 5) S.R S.RU S.tq fr hG hr) TB rfl tp.mem tp.uq hr (LamX.lamS_by (show LamX.lamSB (defScope (top 35)) _ = true by decide +kernel)) rfl (fun _ _ _ _ _ => rfl) (fun A outer s H E f c' hl => pe_smeth (E := E) (pe_glob (v := V.ref C) rfl S.rd.mgA rfl) RR RM RF2 Rb (hl.mono (by decide)) (passes_call (takes_of rfl rfl rfl rfl) fun _ _ _ _ h => h) (pa_cons (pv 10) pa_nil))) (pe_lst (pa_cons pe_str (pa_cons pe_str (pa_cons pe_bl pa_nil)))) (nomark _)))))))))), ?_⟩
    have big : (3000 : Nat) < sizeLine := by decide
    have nt : ∀ {xs : List V} (ps), HO.tup xs ≠ .tbl ps := fun _ => HO.noConfusion
    refine ⟨_, rfl, p, rfl, hp, fun t q H1 _ ntp ht lq k1 => ?_⟩
    refine ⟨10, 17, rfl, rfl, ⟨by decide, by decide, by decide⟩, _, _, rfl, ?_⟩
    refine ⟨fun σ H' => ∃ t q, σ = [some (.ref p), some (.ref t), some (.int (10 ^ (17 : Int).toNat)), none, none, none, none, none, none, none, none] ∧ t ≠ p ∧ H' t = some (.tup [.int q.num, .int q.den]) ∧ Low 112 q ∧ Kp p H H', ?_, ?_⟩
    · refine ⟨_, rfl, t, _, 1, _, rfl, rfl, SqT.of ht, rfl, _, _, rfl, rfl, _, rfl, ite2 (fun _ => ?_) (fun _ => ⟨t, q, rfl, ntp, ht, lq, k1⟩)⟩
      refine ⟨_, rfl, t, _, 0, _, rfl, rfl, SqT.of ht, rfl, _, rfl, _, _, rfl, rfl, (by show (10 : Int) ^ (17 : Int).toNat ≠ 0; decide), _, rfl, 1, rfl, (by show 2 ≤ sizeLine; decide), fun l hl => ⟨p, l, _, rfl, k1.pot.new hl, ne_pot k1.pot hl, SqL.of upd_same, (fun z => by cases z), (by show 2 ≤ 1000000; decide), fun y H2 hy k2 => ?_⟩⟩
      have sgn : ∃ e : Int, y = .int e ∧ e.natAbs = 1 := by
        simp only [List.mem_cons, List.not_mem_nil, or_false] at hy
        rcases hy with rfl | rfl <;> exact ⟨_, rfl, by decide⟩
      obtain ⟨e, rfl, e1⟩ := sgn
      have k12 := k1.trans ((Kp.new k1.pot hl).trans k2)
      have ht2 := ((Kp.new (o := .lst [.int 1, .int (-1)]) k1.pot hl).trans k2).1 _ _ ntp ht
      have md : ∀ n : Int, 0 ≤ n.fmod (10 ^ (17 : Int).toNat) ∧ n.fmod (10 ^ (17 : Int).toNat) < 10 ^ 17 := fun n => by
        have a := Int.fmod_nonneg_of_pos n (show (0 : Int) < 10 ^ (17 : Int).toNat by decide)
        have b := Int.fmod_lt_of_pos n (show (0 : Int) < 10 ^ (17 : Int).toNat by decide)
        exact ⟨a, b⟩
      obtain ⟨m1, m2⟩ := md q.num
      obtain ⟨m3, m4⟩ := md (q.den : Int)
      have bn : (q.num.fmod (10 ^ (17 : Int).toNat)).natAbs < 2 ^ 60 := by omega
      have be : (q.num.fmod (10 ^ (17 : Int).toNat) * e).natAbs < 2 ^ 60 := by rw [Int.natAbs_mul, e1, Nat.mul_one]; exact bn
      have bd0 : (1 + (q.den : Int).fmod (10 ^ (17 : Int).toNat)).natAbs < 2 ^ 60 := by omega
      have po : 0 < 1 + (q.den : Int).fmod (10 ^ (17 : Int).toNat) := by omega
      refine ⟨_, _, rfl, rfl, mulOk (n := 60) (m := 1) bn (by omega) (by decide) (by decide), _, rfl, t, _, 1, _, rfl, rfl, SqT.of ht2, rfl, _, rfl, _, _, rfl, rfl, (by show (10 : Int) ^ (17 : Int).toNat ≠ 0; decide), _, _, rfl, rfl, _, _, rfl, po, Nat.lt_trans be (by decide), Nat.lt_trans bd0 (by decide), fun t' H3 e3 n3 t3 => ?_⟩
      obtain ⟨b1, b2⟩ := divInt_le (q.num.fmod (10 ^ (17 : Int).toNat) * e) (1 + (q.den : Int).fmod (10 ^ (17 : Int).toNat)) (by omega)
      exact ⟨t', _, rfl, ne_pot k12.pot n3, t3, ⟨Nat.lt_of_le_of_lt b1 (Nat.lt_trans be (by decide)), Nat.lt_of_le_of_lt b2 (Nat.lt_trans bd0 (by decide))⟩, k12.trans (Kp.ext k12.pot e3)⟩
    rintro σ H1' ⟨t, q, rfl, ntp, ht, lq, k1⟩
    refine ⟨_, rfl, t, q, rfl, Pt.of ht, ⟨Nat.lt_trans lq.1 (by decide), Nat.lt_trans lq.2 (by decide)⟩, _, rfl, (by show 3 ≤ sizeLine; decide), fun l hl => ⟨p, l, _, rfl, k1.pot.new hl, ne_pot k1.pot hl, SqL.of upd_same, (fun z => by cases z), (by show 3 ≤ 1000000; decide), fun y H2 hy k2 => ⟨_, _, rfl, ?_⟩⟩⟩
    have byv : ∃ b : Int, y = .int b ∧ b.natAbs ≤ 10 := by
      simp only [List.mem_cons, List.not_mem_nil, or_false] at hy
      rcases hy with rfl | rfl | rfl <;> exact ⟨_, rfl, by decide⟩
    obtain ⟨b, rfl, b10⟩ := byv
    have kl := Kp.new (o := .lst [.int 1, .int 2, .int 10]) k1.pot hl
    have ht2 := (kl.trans k2).1 _ _ ntp ht
    have lw := written_len lq
    have T2 : LamX.Tabs T H2 := tabs_kp (tabs_kp (tabs_kp hT hp k1) k1.pot kl) kl.pot k2
    replace k2 := k1.trans (kl.trans k2)
    generalize hw : written q = w0 at lw
    refine ⟨_, rfl, _, rfl, _, rfl, p, w0, rfl, k2.pot, (by omega), fun y1 H3 l1 k3 => ?_⟩
    refine ⟨_, rfl, _, rfl, _, rfl, p, w0, rfl, k3.pot, (by omega), fun y2 H4 l2 k4 => ⟨p, y2, rfl, k4.pot, (by omega), fun y3 H5 l3 k5 => ⟨(by show 3 ≤ sizeLine; decide), fun L hL => ?_⟩⟩⟩
    have k35 := k3.trans (k4.trans k5)
    have ht5 := k35.1 _ _ ntp ht2
    have T5 := tabs_kp T2 k2.pot k35
    replace k2 := k2.trans k35
    have htL : (upd H5 L (.lst [.str w0, .str y1, .str y3])) t = some (.tup [.int q.num, .int q.den]) := Am.Ext.new hL _ _ ht5
    have bm : ∀ {i : Int}, i.natAbs < 2 ^ 112 → (i * b).natAbs < 10 ^ 35 := fun {i} hi => by
      rw [Int.natAbs_mul]
      have : i.natAbs * b.natAbs ≤ i.natAbs * 10 := Nat.mul_le_mul_left _ b10
      have : (2 : Nat) ^ 112 < 10 ^ 34 := by decide
      omega
    have bn := bm lq.1
    have bd := bm (KA.low_den lq)
    have sn := int_len (by decide) bn
    have sd := int_len (by decide) bd
    have mo : ∀ {i : Int}, i.natAbs < 2 ^ 112 → CMulW i b := fun {i} hi => mulOk (n := 112) (m := 4) hi (by omega) (by decide) (by decide)
    have k1s : (Str.ofString "/").length = 1 := by decide
    have p35 : ∀ {i : Int}, i.natAbs < 10 ^ 35 → i.natAbs < 2 ^ 8000 := fun hi => Nat.lt_trans hi (by decide)
    generalize e5 : (toString (q.num * b) : String) = s5 at sn
    generalize e6 : (toString ((q.den : Int) * b) : String) = s6 at sd
    refine ⟨_, rfl, tyL upd_same, _, rfl, t, _, 0, _, rfl, rfl, SqT.of htL, rfl, _, rfl, _, _, rfl, rfl, mo lq.1, _, rfl, p35 bn, ?_⟩
    refine ⟨_, _, rfl, rfl, ?_, _, rfl, t, _, 1, _, rfl, rfl, SqT.of htL, rfl, _, rfl, _, _, rfl, rfl, mo (KA.low_den lq), _, rfl, p35 bd, _, _, rfl, rfl, ?_, L, _, _, rfl, rfl, upd_same, (by show 3 < sizeLine; decide), ?_⟩
    · rw [e5, k1s]
      omega
    · rw [e5, e6]
      simp only [strLen_append, k1s]
      omega
    rw [upd_upd]
    have kL : KT p H (upd H5 L (.lst ([V.str w0, .str y1, .str y3] ++ [.str (Str.ofString (toString (q.num * b)) ++ Str.ofString "/" ++ Str.ofString (toString ((q.den : Int) * b)))]))) := kt_new (Kp.kt k2) hL
    have TL : LamX.Tabs T (upd H5 L (.lst ([V.str w0, .str y1, .str y3] ++ [.str (Str.ofString (toString (q.num * b)) ++ Str.ofString "/" ++ Str.ofString (toString ((q.den : Int) * b)))]))) := T5.ext (Am.Ext.new hL)
    have hL5 : (upd H5 L (.lst ([V.str w0, .str y1, .str y3] ++ [.str (Str.ofString (toString (q.num * b)) ++ Str.ofString "/" ++ Str.ofString (toString ((q.den : Int) * b)))]))) L = some (.lst ([V.str w0, .str y1, .str y3] ++ [.str (Str.ofString (toString (q.num * b)) ++ Str.ofString "/" ++ Str.ofString (toString ((q.den : Int) * b)))])) := upd_same
    have l4 : (Str.ofString (toString (q.num * b)) ++ Str.ofString "/" ++ Str.ofString (toString ((q.den : Int) * b))).length ≤ 600 := by
      rw [e5, e6]
      simp only [strLen_append, k1s]
      omega
    generalize (Str.ofString (toString (q.num * b)) ++ Str.ofString "/" ++ Str.ofString (toString ((q.den : Int) * b))) = w4 at kL TL hL5 l4 ⊢
    have tx : ∀ (i : Nat) (u : V), ([V.str w0, .str y1, .str y3] ++ [.str w4])[i]? = some u → ∃ x : Str, u = .str x ∧ x.length ≤ 600 := fun i u h => by
      match i, h with
      | 0, h => cases h; exact ⟨_, rfl, by omega⟩
      | 1, h => cases h; exact ⟨_, rfl, by omega⟩
      | 2, h => cases h; exact ⟨_, rfl, by omega⟩
      | 3, h => cases h; exact ⟨_, rfl, by omega⟩
      | i + 4, h => simp at h
    generalize [V.str w0, .str y1, .str y3] ++ [.str w4] = xs at kL TL hL5 tx ⊢
    generalize upd H5 L (.lst xs) = G at kL TL hL5 ⊢
    refine ⟨_, rfl, L, rfl, ⟨_, SqL.of hL5⟩, ?_⟩
    refine for_list (xs := xs) (fun i σ H' => (∃ a6 a7 a8 a9, σ = [some (.ref p), some (.ref t), some (.int (10 ^ (17 : Int).toNat)), some (.str w0), some (.int b), some (.ref L), a6, a7, a8, a9, none]) ∧ LamX.ExtN G H' ∧ LamX.Tabs T H') ⟨⟨_, _, _, _, rfl⟩, LamX.ExtN.refl _, TL⟩ (fun i σ H' _ h => SqL.of (h.2.1 _ _ hL5 no_tab)) ?_ ?_
    · rintro i u σ H6 hu ⟨⟨a6, a7, a8, a9, rfl⟩, n6, T6⟩
      obtain ⟨x, rfl, lx⟩ := tx i u hu
      obtain ⟨rw', ans⟩ := ans_of x
      refine ⟨fun σ H' => ∃ v7, σ = [some (.ref p), some (.ref t), some (.int (10 ^ (17 : Int).toNat)), some (.str w0), some (.int b), some (.ref L), some (.str x), some v7, a8, a9, none] ∧ Am.Ext H6 H' ∧ ((∃ q t2, x = written q ∧ rw' = .made (Am.shown q) ∧ v7 = .ref t2 ∧ H' t2 = some (.tup [.int q.num, .int q.den])) ∨ (v7 = .non ∧ rw' = .err "text" "1")), ?_, ?_⟩
      · refine ⟨_, rfl, x, rfl, lx, ?_⟩
        rcases id ans with ⟨q, e, er⟩ | ⟨ne, er⟩
        · exact .inl ⟨q, e, fun t2 H' f2 ht2 => ⟨_, rfl, f2, .inl ⟨q, t2, e, er, rfl, ht2⟩⟩⟩
        · exact .inr ⟨ne, fun H' f2 => ⟨_, rfl, f2, .inr ⟨rfl, er⟩⟩⟩
      rintro σ H7 ⟨v7, rfl, f7, st⟩
      replace n6 := n6.trans (LamX.ExtN.of f7)
      replace T6 := T6.ext f7
      refine ⟨(by show 3 ≤ sizeLine; decide), fun du hdu => ?_⟩
      have fd := Am.Ext.new (o := .lst [V.str "text", .str "1", .bl true]) hdu
      have hd8 : (upd H7 du (.lst [V.str "text", .str "1", .bl true])) du = some (.lst [V.str "text", .str "1", .bl true]) := upd_same
      replace n6 := n6.trans (LamX.ExtN.of fd)
      replace T6 := T6.ext fd
      replace st : ((∃ q t2, x = written q ∧ rw' = .made (Am.shown q) ∧ v7 = .ref t2 ∧ (upd H7 du (.lst [V.str "text", .str "1", .bl true])) t2 = some (.tup [.int q.num, .int q.den])) ∨ (v7 = .non ∧ rw' = .err "text" "1")) := st.imp (fun ⟨q, t2, a, b, c, d⟩ => ⟨q, t2, a, b, c, fd _ _ d⟩) fun h => h
      generalize upd H7 du (.lst [V.str "text", .str "1", .bl true]) = G8 at n6 T6 hd8 st ⊢
      refine ⟨fun σ H' => ∃ d2, σ = [some (.ref p), some (.ref t), some (.int (10 ^ (17 : Int).toNat)), some (.str w0), some (.int b), some (.ref L), some (.str x), some v7, some (.ref d2), a9, none] ∧ Am.Ext G8 H' ∧ H' d2 = some (.lst rw'.vs), ?_, ?_⟩
      · rcases st with ⟨q, t2, e, er, rfl, ht2⟩ | ⟨rfl, er⟩
        · subst er
          refine ⟨_, rfl, rfl, _, rfl, iteT ?_⟩
          have lq2 := written_low (q := q) (n := 600) (by rw [← e]; exact lx) (by decide)
          have lz : Low 8000 q := ⟨Nat.lt_trans lq2.1 (by decide), Nat.lt_trans lq2.2 (by decide)⟩
          have c1 := big_len lz.1
          have c2 := big_len (KA.low_den lz)
          have g1 : (Str.ofString "Amount(").length = 7 := by decide
          have g2 : (Str.ofString ", ").length = 2 := by decide
          have g3 : (Str.ofString ")").length = 1 := by decide
          have ln := KA.line_ge
          refine ⟨_, rfl, t2, _, 0, _, rfl, rfl, SqT.of ht2, rfl, _, rfl, lz.1, _, _, rfl, rfl, ?_, _, _, rfl, rfl, ?_, _, rfl, t2, _, 1, _, rfl, rfl, SqT.of ht2, rfl, _, rfl, KA.low_den lz, _, _, rfl, rfl, ?_, _, _, rfl, rfl, ?_, (by show 2 ≤ sizeLine; decide), fun d2 hd2 => ?_⟩
          · rw [g1]; omega
          · simp only [strLen_append, g1, g2]; omega
          · simp only [strLen_append, g1, g2]; omega
          · simp only [strLen_append, g1, g2, g3]; omega
          have es : Str.ofString "Amount(" ++ Str.ofString (toString q.num) ++ Str.ofString ", " ++ Str.ofString (toString (q.den : Int)) ++ Str.ofString ")" = Am.shown q := by
            unfold Am.shown
            rw [emp]
          rw [es]
          have fe := Am.Ext.new (o := .lst [V.str "made", .str (Am.shown q)]) hd2
          have h2 : (upd G8 d2 (.lst [V.str "made", .str (Am.shown q)])) d2 = some (.lst [V.str "made", .str (Am.shown q)]) := upd_same
          generalize upd G8 d2 (.lst [V.str "made", .str (Am.shown q)]) = G9 at fe h2 ⊢
          refine ⟨rfl, _, rfl, x, rfl, lx, .inl ⟨q, e, fun r HA fA nA iA => ⟨r, q, rfl, iA, lz, _, rfl, ?_⟩⟩⟩
          subst e
          exact ne_str (written q) ⟨_, rfl, iteF ⟨d2, rfl, fe.trans fA, fA _ _ h2⟩⟩
        · subst er
          exact ⟨_, rfl, rfl, _, rfl, iteF ⟨du, rfl, Am.Ext.refl _, hd8⟩⟩
      rintro σ G9 ⟨d2, rfl, f9, h9⟩
      replace n6 := n6.trans (LamX.ExtN.of f9)
      replace T6 := T6.ext f9
      refine ⟨T6, fun H3 n3 T3 => told_ans ans lx (fun L hL E Q' hh => ⟨rfl, _, rfl, x, rfl, lx, hh⟩) fun R H4 e4 hR => ⟨(by show 1 ≤ sizeLine; decide), fun D hD => ?_⟩⟩
      have W : RwV D [rw'] T G9 (upd (upd H4 R (.lst rw'.vs)) D (.lst [V.ref R])) := RwV.first n3 T3 e4 hR hD
      generalize upd (upd H4 R (.lst rw'.vs)) D (.lst [V.ref R]) = G1 at W ⊢
      clear hD hR e4 T3 n3
      obtain ⟨xs2, hD5⟩ := W.lst
      refine ⟨_, rfl, tyL hD5, W.t, fun H6' n6' T6' => told_ans ans lx (fun L hL E Q' hh => ⟨rfl, _, rfl, rfl, x, rfl, lx, hh⟩) fun R H7 e7 hR => ?_⟩
      obtain ⟨xs3, d7, l7, W7⟩ := W.step (p := rw') n6' T6' e7 hR
      replace W7 : RwV D [rw', rw'] T G9 (upd (upd H7 R (.lst rw'.vs)) D (.lst (xs3 ++ [V.ref R]))) := W7
      refine ⟨D, _, _, rfl, rfl, d7, (by rw [l7]; show 1 < sizeLine; decide), ?_⟩
      clear W
      generalize upd (upd H7 R (.lst rw'.vs)) D (.lst (xs3 ++ [V.ref R])) = GB at W7 ⊢
      refine ⟨_, rfl, _, rfl, _, rfl, (by show 2 ≤ sizeLine; decide), fun N hN => ?_⟩
      have eN := Am.Ext.new (o := .lst [V.ref d2, .ref d2]) hN
      have hB := W7.k _ _ h9 no_tab
      have W2 : RwV N [rw', rw'] T GB (upd GB N (.lst [V.ref d2, .ref d2])) :=
        ⟨LamX.ExtN.of eN, W7.t.ext eN, ⟨[d2, d2], upd_same, .cons ⟨eN _ _ hB, ne_of_none hB hN⟩ (.cons ⟨eN _ _ hB, ne_of_none hB hN⟩ .nil)⟩, fun o _ h => by rw [hN] at h; cases h⟩
      have WN := W7.on (LamX.ExtN.of eN) (W7.t.ext eN)
      refine rwv_ne WN W2 (fun p hp => ?_) ⟨_, rfl, iteF ⟨⟨_, _, _, _, rfl⟩, n6.trans WN.k, WN.t⟩⟩
      simp only [List.mem_cons, List.not_mem_nil, or_false, or_self] at hp
      subst hp
      exact ans.ok
    rintro σ H6 ⟨⟨a6, a7, a8, a9, rfl⟩, n6, T6⟩
    have k6 : KT p H H6 := kt_xn kL n6
    have p6 := k6.2
    refine ⟨_, rfl, 7, rfl, (by decide), fun r1 H7 e7 n7 i7 => ⟨(by show 1 ≤ sizeLine; decide), fun l1 hl1 => ⟨(by show 1 ≤ sizeLine; decide), fun t1 ht1 d1 hd1 => ⟨(by show 8 ≤ sizeLine; decide), fun O hO => ?_⟩⟩⟩⟩
    have E7 := e7
    have E8 := Am.Ext.new (o := .lst [V.str "7"]) hl1
    have E9 := Am.Ext.new (o := .tup [V.str "7"]) ht1
    have E10 := Am.Ext.new (o := .dK []) hd1
    have E11 := Am.Ext.new (o := .lst [V.non, .int 7, .ref r1, .bl true, .ref l1, .ref t1, .ref d1, .int 0]) hO
    have EA := (((E7.trans E8).trans E9).trans E10).trans E11
    have kA := Kp.ext p6 EA
    have jl := E11 _ _ (E10 _ _ (E9 _ _ (upd_same (H := H7) (a := l1) (o := .lst [V.str "7"]))))
    have jt := E11 _ _ (E10 _ _ (upd_same (H := upd H7 l1 (.lst [V.str "7"])) (a := t1) (o := .tup [V.str "7"])))
    have jd := E11 _ _ (upd_same (H := upd (upd H7 l1 (.lst [V.str "7"])) t1 (.tup [V.str "7"])) (a := d1) (o := .dK []))
    have jr := i7.ext (((E8.trans E9).trans E10).trans E11)
    have hO2 : (upd (upd (upd (upd H7 l1 (.lst [V.str "7"])) t1 (.tup [V.str "7"])) d1 (.dK [])) O (.lst [V.non, .int 7, .ref r1, .bl true, .ref l1, .ref t1, .ref d1, .int 0])) O = some (.lst [V.non, .int 7, .ref r1, .bl true, .ref l1, .ref t1, .ref d1, .int 0]) := upd_same
    have nO : O ≠ p := ne_pot (Kp.ext p6 (((E7.trans E8).trans E9).trans E10)).pot hO
    have TA := T6.ext EA
    generalize upd (upd (upd (upd H7 l1 (.lst [V.str "7"])) t1 (.tup [V.str "7"])) d1 (.dK [])) O (.lst [V.non, .int 7, .ref r1, .bl true, .ref l1, .ref t1, .ref d1, .int 0]) = GA at kA jl jt jd jr hO2 TA ⊢
    refine ⟨p, O, _, rfl, kA.pot, nO, SqL.of hO2, (fun z => by cases z), (by show 8 ≤ 1000000; decide), fun y HB hy kB => ?_⟩
    have nl : l1 ≠ p := fun e => by
      obtain ⟨u, v, e2, _⟩ := kA.pot
      rw [← e, jl] at e2
      cases e2
    have ntt : t1 ≠ p := fun e => by
      obtain ⟨u, v, e2, _⟩ := kA.pot
      rw [← e, jt] at e2
      cases e2
    have ndd : d1 ≠ p := fun e => by
      obtain ⟨u, v, e2, _⟩ := kA.pot
      rw [← e, jd] at e2
      cases e2
    have ql := kB.1 _ _ nl jl
    have qt := kB.1 _ _ ntt jt
    have qd := kB.1 _ _ ndd jd
    have qr := is_kt kA.pot jr (Kp.kt kB)
    have ns : ∀ Hz, LamX.ExtN HB Hz → NoS C Hz y := fun Hz nz => by
      simp only [List.mem_cons, List.not_mem_nil, or_false] at hy
      rcases hy with rfl | rfl | rfl | rfl | rfl | rfl | rfl | rfl
      · exact .inl ⟨_, .non, by decide⟩
      · exact .inl ⟨_, .int _, by decide⟩
      · exact .inr ⟨r1, _, rfl, is_xn qr nz⟩
      · exact .inl ⟨_, .bl _, by decide⟩
      · exact .inl ⟨_, .lst (nz _ _ ql fun _ => HO.noConfusion), by decide⟩
      · exact .inl ⟨_, .tup (nz _ _ qt fun _ => HO.noConfusion), by decide⟩
      · exact .inl ⟨_, .dK (nz _ _ qd fun _ => HO.noConfusion), by decide⟩
      · exact .inl ⟨_, .int _, by decide⟩
    have kHB : KT p H HB := (k6.trans (Kp.kt kA)).trans (Kp.kt kB)
    have TB' := tabs_kp TA kA.pot kB
    refine ⟨TB', fun H3 n3 T3 => toldT (fun L hL E Q' rf => ⟨rfl, _, rfl, y, rfl, ns _ (n3.trans (LamX.ExtN.of (Am.Ext.new hL))), rf⟩) fun R H4 e4 hR => ⟨(by show 3 ≤ sizeLine; decide), fun N hN => ?_⟩⟩
    have f1 := Am.Ext.new (o := .lst (Rw.err "text" "1").vs) hR
    have f2 := Am.Ext.new (o := .lst (Rw.err "text" "1").vs) hN
    have xx := n3.trans (LamX.ExtN.of ((e4.trans f1).trans f2))
    exact row_eq (p := .err "text" "1") (f2 _ _ upd_same) upd_same ⟨sok_of _, sok_of _⟩ (z _ (kt_xn kHB xx) (T3.ext ((e4.trans f1).trans f2)))
end
end KC

set_option Elab.async false
set_option linter.all false
set_option maxRecDepth 100000
set_option maxHeartbeats 2000000
set_option exponentiation.threshold 20000
/-! _law_right, law. -/
namespace KC
open PySem PySem.Spec PyProof.Rows L2 Oo Gd Am KA TX NumText
theorem no_frac {x : Str} {l : List Nat} (e : TL.tl x = l) (h : wr (Rat.divInt (TX.hi l) (TX.lo l : Int)) ≠ l) : ∀ q, x ≠ written q := fun q z => by
  rw [z, tl_written] at e
  subst e
  rw [val_wr] at h
  exact h rfl
theorem KT.over {p D : Addr} {H H' : Hp} {o : HO} (k : KT p H H') (n : D ≠ p) (h : H D = none) : KT p H (upd H' D o) := by
  refine ⟨fun b u nb e nt => ?_, ?_⟩
  · rw [upd_ne (ne_of_none e h)]
    exact k.1 b u nb e nt
  · obtain ⟨a, b, e, r⟩ := k.2
    exact ⟨a, b, by rw [upd_ne (Ne.symm n)]; exact e, r⟩
theorem all_rep (n : Nat) : (List.replicate n true).all id = true := by
  rw [List.all_eq_true]
  intro x h
  exact List.eq_of_mem_replicate h
section
variable {P : Program} {w : World} {K : W.Frag} {mg : Str → Option Value} {base : Heap} {f : Addr} {fd : FuncData} {T : List (Addr × Str)}
theorem scRight : FnScope ["_law_pot_here"] ["_law_pot_here"] (defScope (top 36)) := ⟨rfl, rfl, rfl, by decide +kernel, rfl, by decide +kernel, by decide +kernel⟩
theorem ok_right (D1 : DnG P w K mg base 10 "_law_parts_right" ["_law_pot_here"] (spPT T)) (D2 : DnG P w K mg base 11 "_law_refused_right" ["_law_pot_here"] (spPT T)) (D3 : DnG P w K mg base 10 "_law_texts_right" ["_law_pot_here"] (spPT T))
    (F : Fun K "_law_right" "_law_right" (top 36) f fd) : FnG P w K mg base CX0 12 f fd ["_law_pot_here"] (spPT T) := by
  refine Gd.okG F scRight (fun vs H Q E h => ?_) (fun cdv A outer s H vs Q E hG hr h => ?_)
  · obtain ⟨p, rfl, _⟩ := h
    rfl
  · obtain ⟨p, rfl, hp, hT, z⟩ := h
    refine ⟨_, pss_one (ps_ret (pe_and (pe_dnG D1 hG hr (by rfl) (by decide) (pa_cons (pv 0) pa_nil)) (pe_and (pe_dnG D2 hG hr (by rfl) (by decide) (pa_cons (pv 0) pa_nil)) (pe_one (pe_dnG D3 hG hr (by rfl) (by decide) (pa_cons (pv 0) pa_nil)))))), ?_⟩
    refine ⟨_, rfl, p, rfl, hp, hT, fun H1 k1 t1 => ⟨true, rfl, ?_⟩⟩
    refine ⟨_, rfl, p, rfl, k1.2, t1, fun H2 k2 t2 => ⟨true, rfl, ?_⟩⟩
    exact ⟨_, rfl, p, rfl, k2.2, t2, fun H3 k3 t3 => z H3 ((k1.trans k2).trans k3) t3⟩
abbrev nLaw : List Str := ["_law_script", "_law_k", "_law_pot_here", "_law_each", "_law_turn"]
theorem scLaw : FnScope nLaw ["_law_script"] (defScope (top 37)) := ⟨rfl, rfl, rfl, by decide +kernel, rfl, by decide +kernel, by decide +kernel⟩
def spLaw (K : W.Frag) (T : List (Addr × Str)) : Sp := fun vs H Q _ => ∃ (a : Addr) (ns : List Int), vs = [.ref a] ∧ ns.length ≤ 63 ∧ SqL K H a (ns.map V.int) ∧ LamX.Tabs T H ∧ ∀ H', Q (.bl true) H'
def fiveB : List Bool := [false, false, false, false, true]
def itB (H : Hp) (D : Addr) (v : V) (b : Bool) : Prop := (b = true ∧ ∃ t, v = .ref t ∧ t ≠ D ∧ H t = some (.tup [.int (-3), .int 2])) ∨ (b = false ∧ v = .non)
def datB (b : Bool) : PyData := if b then .tuple [.int (-3), .int 2] else .none
theorem dp_five {H : Hp} {D : Addr} : ∀ {vs : List V} {bs : List Bool}, Z2 (itB H D) vs bs → DpAll K H vs (bs.map datB)
  | _, _, .nil => .nil
  | _, _, .cons (b := b) h t => by
    refine .cons ?_ (dp_five t)
    rcases h with ⟨rfl, t', rfl, _, ht⟩ | ⟨rfl, rfl⟩
    · exact .tup (SqT.of ht) (.cons (.int _) (.cons (.int _) .nil))
    · exact .non
theorem ok_law (fr : Frees mg) (DF : Dn P w K mg base CX0 2 "_law_fraction_in" ["_law_wording"] spFr) (D0 : Dn P w K mg base CX0 1 "_law_pot" ["_law_script", "_law_k"] (spPot K)) (D1 : DnG P w K mg base 12 "_law_right" ["_law_pot_here"] (spPT T))
    (F : Fun K "law" "law" (top 37) f fd) : FnG P w K mg base CX0 13 f fd ["_law_script"] (spLaw K T) := by
  refine Gd.okG F scLaw (fun vs H Q E h => ?_) (fun cdv A outer s H vs Q E hG hr h => ?_)
  · obtain ⟨a, ns, rfl, _⟩ := h
    rfl
  · obtain ⟨a, ns, rfl, ln, sq, hT, q⟩ := h
    have nd := scLaw.nd
    have isk : IsK K := ⟨trivial⟩
    refine ⟨_, pss_cons (ps_if (pt_cmpR (op_neD hr.units) (pe_lc (own := [("_law_each", 3)]) (g := gName 3) (tt := tYes) rfl nd (listK isk (pe_lst (pa_cons pe_str (pa_cons pe_str (pa_cons pe_str (pa_cons pe_str (pa_cons pe_str pa_nil))))))) (blkOk_by (N := nLaw) (sc := defScope (top 37)) (by decide +kernel)) (fun _ _ _ _ _ => pg_name (i := 3) nd rfl (Or.inl rfl)) (fun _ _ _ _ _ => pts_nil) (fun _ _ _ _ _ => pe_dn DF hr (by rfl) (by decide) (pa_cons (pv 3) pa_nil)))
          (pe_lst (pa_cons pe_non (pa_cons pe_non (pa_cons pe_non (pa_cons pe_non (pa_cons (pe_tup (pa_cons (pe_un un_neg pe_int) (pa_cons pe_int pa_nil))) pa_nil)))))) (nomark _)) (pss_one (ps_ret pe_bl)) pss_nil)
      (pss_cons (ps_for PassesOwn.never rfl (pi_range1 rfl (fr.h _ (by decide +kernel)) (pa_cons (pe_callB (call_max2 rfl) rfl (fr.h _ (by decide +kernel)) (by decide +kernel) (pa_cons pe_int (pa_cons (pe_callB (call_min2 rfl) rfl (fr.h _ (by decide +kernel)) (by decide +kernel) (pa_cons (pe_callB (lenK isk) rfl (fr.h _ (by decide +kernel)) (by decide +kernel) (pa_cons (pv 0) pa_nil)) (pa_cons pe_int pa_nil))) pa_nil))) pa_nil)) (pg_name (i := 1) nd rfl (.inl rfl))
        (pss_cons (ps_set (i := 2) nd rfl (.inr rfl) (pe_dn D0 hr (by rfl) (by decide) (pa_cons (pv 0) (pa_cons (pv 1) pa_nil))))
        (pss_one (ps_if (pt_not (pt_val (pe_callB (allK isk rfl) rfl (fr.h _ (by decide +kernel)) (by decide +kernel) (pa_cons (pe_lc (own := [("_law_turn", 4)]) (g := gName 4) (tt := tYes) rfl nd (pi_range1 rfl (fr.h _ (by decide +kernel)) (pa_cons pe_int pa_nil)) (blkOk_by (N := nLaw) (sc := defScope (top 37)) (by decide +kernel)) (fun _ _ _ _ _ => pg_name (i := 4) nd rfl (Or.inl rfl)) (fun _ _ _ _ _ => pts_nil) (fun _ _ _ _ _ => pe_dnG D1 hG hr (by rfl) (by decide) (pa_cons (pv 2) pa_nil))) pa_nil)))) (pss_one (ps_ret pe_bl)) pss_nil))))
      (pss_one (ps_ret pe_bl))), ?_⟩
    have big : (10000 : Nat) < sizeLine := by decide
    have gs : ∃ G : Hp → Prop, G H ∧ (∀ H', G H' → SqL K H' a (ns.map V.int)) ∧ ∀ H1 H2, G H1 → (∀ o, (∀ ps, o ≠ .tbl ps) → H1 a = some o → H2 a = some o) → G H2 := by
      rcases sq with (h | ⟨o, h⟩) | h
      · exact ⟨fun H' => H' a = some (.lst (ns.map V.int)), h, fun H' h => .inl (.inl h), fun H1 H2 g k => k _ (fun _ => HO.noConfusion) g⟩
      · exact ⟨fun H' => H' a = some (.frz o (.lst (ns.map V.int))), h, fun H' h => .inl (.inr ⟨o, h⟩), fun H1 H2 g k => k _ (fun _ => HO.noConfusion) g⟩
      · exact ⟨fun _ => True, trivial, fun H' _ => .inr h, fun _ _ _ _ => trivial⟩
    obtain ⟨G, g0, g1, g2⟩ := gs
    have item : ∀ (i : Nat) (u : V), ([V.str "-0", .str "00", .str "6/4", .str "3/1", .str "-3/2"] : List V)[i]? = some u → ∃ (x : Str) (b : Bool), u = .str x ∧ fiveB[i]? = some b ∧ x.length ≤ 600 ∧ ((b = true ∧ x = written (Rat.divInt (-3) 2)) ∨ (b = false ∧ ∀ q, x ≠ written q)) := fun i u h => by
      match i, h with
      | 0, h => cases h; exact ⟨_, false, rfl, rfl, by decide, .inr ⟨rfl, no_frac (l := [45, 48]) (by decide) (by decide +kernel)⟩⟩
      | 1, h => cases h; exact ⟨_, false, rfl, rfl, by decide, .inr ⟨rfl, no_frac (l := [48, 48]) (by decide) (by decide +kernel)⟩⟩
      | 2, h => cases h; exact ⟨_, false, rfl, rfl, by decide, .inr ⟨rfl, no_frac (l := [54, 47, 52]) (by decide) (by decide +kernel)⟩⟩
      | 3, h => cases h; exact ⟨_, false, rfl, rfl, by decide, .inr ⟨rfl, no_frac (l := [51, 47, 49]) (by decide) (by decide +kernel)⟩⟩
      | 4, h => cases h; exact ⟨_, true, rfl, rfl, by decide, .inl ⟨rfl, TL.ext_tl (by rw [tl_written]; decide +kernel)⟩⟩
      | i + 5, h => simp at h
    refine ⟨(by show 5 ≤ sizeLine; decide), fun L hL => ⟨L, rfl, ⟨_, SqL.of upd_same⟩, fun D hD => ?_⟩⟩
    have eL := Am.Ext.new (o := .lst [V.str "-0", .str "00", .str "6/4", .str "3/1", .str "-3/2"]) hL
    have hL2 : (upd H L (.lst [V.str "-0", .str "00", .str "6/4", .str "3/1", .str "-3/2"])) L = some (.lst [V.str "-0", .str "00", .str "6/4", .str "3/1", .str "-3/2"]) := upd_same
    have TL := hT.ext eL
    have nL := LamX.ExtN.of eL
    have lx : ([V.str "-0", .str "00", .str "6/4", .str "3/1", .str "-3/2"] : List V).length = 5 := rfl
    generalize ([V.str "-0", .str "00", .str "6/4", .str "3/1", .str "-3/2"] : List V) = xs at hL2 hD nL TL eL item lx ⊢
    generalize upd H L (.lst xs) = HL at hL2 hD nL TL ⊢
    refine lc_list (xs := xs) (fun i H' => LamX.ExtN HL H' ∧ LamX.Tabs T H' ∧ ∃ acc, H' D = some (.lst acc) ∧ Z2 (itB H' D) acc (fiveB.take i)) ⟨LamX.ExtN.of (Am.Ext.new hD), TL.ext (Am.Ext.new hD), [], upd_same, .nil⟩ (fun i H' _ w => SqL.of (w.1 _ _ hL2 no_tab)) ?_ ?_
    · rintro i u H' hu ⟨n1, t1, acc, d1, z1⟩
      obtain ⟨x, b, rfl, hb, lx, hx⟩ := item i u hu
      have lacc : acc.length < sizeLine := by
        rw [z1.len, List.length_take]
        show min i 5 < sizeLine
        omega
      have tk : fiveB.take (i + 1) = fiveB.take i ++ [b] := by rw [List.take_succ, hb]; rfl
      have fin : ∀ {H2 : Hp} {v : V}, Am.Ext H' H2 → itB H2 D v b → ∃ acc, H2 D = some (.lst acc) ∧ acc.length < sizeLine ∧ LamX.ExtN HL (upd H2 D (.lst (acc ++ [v]))) ∧ LamX.Tabs T (upd H2 D (.lst (acc ++ [v]))) ∧ ∃ acc', (upd H2 D (.lst (acc ++ [v]))) D = some (.lst acc') ∧ Z2 (itB (upd H2 D (.lst (acc ++ [v]))) D) acc' (fiveB.take (i + 1)) := fun {H2 v} f2 hv => by
        have d2 := f2 _ _ d1
        have mv : ∀ {v : V} {b : Bool}, itB H2 D v b → itB (upd H2 D (.lst (acc ++ [v]))) D v b := fun h => h.imp (fun ⟨e, t', e2, n, ht⟩ => ⟨e, t', e2, n, by rw [upd_ne n]; exact ht⟩) fun h => h
        refine ⟨acc, d2, lacc, xn_put (n1.trans (LamX.ExtN.of f2)) (fun o _ h => by rw [hD] at h; cases h), tabs_put (t1.ext f2) d2, _, upd_same, ?_⟩
        rw [tk]
        refine Z2.snoc ?_ (z1.imp fun v' b' h => ?_)
        · exact hv.imp (fun ⟨e, t', e2, n, ht⟩ => ⟨e, t', e2, n, by rw [upd_ne n]; exact ht⟩) fun h => h
        · exact h.imp (fun ⟨e, t', e2, n, ht⟩ => ⟨e, t', e2, n, by rw [upd_ne n]; exact f2 _ _ ht⟩) fun h => h
      refine ⟨rfl, _, rfl, x, rfl, lx, ?_⟩
      rcases hx with ⟨rfl, e⟩ | ⟨rfl, ne⟩
      · refine .inl ⟨_, e, fun t2 H2 f2 h2 => fin f2 (.inl ⟨rfl, t2, rfl, fun e => ?_, h2⟩)⟩
        rw [e, f2 _ _ d1] at h2
        cases h2
      · exact .inr ⟨ne, fun H2 f2 => fin f2 (.inr ⟨rfl, rfl⟩)⟩
    rintro H1 ⟨n1, t1, acc, d1, z1⟩
    rw [lx] at z1
    replace n1 := nL.trans n1
    refine ⟨3, rfl, (by show 2 ≤ sizeLine; decide), fun tt htt => ⟨(by show 5 ≤ sizeLine; decide), fun N hN => ?_⟩⟩
    have f1 := Am.Ext.new (o := .tup [.int (-3), .int 2]) htt
    have f2 := Am.Ext.new (o := .lst [.non, .non, .non, .non, .ref tt]) hN
    have zN : Z2 (itB (upd (upd H1 tt (.tup [.int (-3), .int 2])) N (.lst [.non, .non, .non, .non, .ref tt])) N) [V.non, .non, .non, .non, .ref tt] fiveB :=
      .cons (.inr ⟨rfl, rfl⟩) (.cons (.inr ⟨rfl, rfl⟩) (.cons (.inr ⟨rfl, rfl⟩) (.cons (.inr ⟨rfl, rfl⟩) (.cons (.inl ⟨rfl, tt, rfl, ne_of_none upd_same hN, f2 _ _ upd_same⟩) .nil))))
    have z2 : Z2 (itB (upd (upd H1 tt (.tup [.int (-3), .int 2])) N (.lst [.non, .non, .non, .non, .ref tt])) D) acc fiveB := z1.imp fun v b h => h.imp (fun ⟨e, t', e2, n, ht⟩ => ⟨e, t', e2, n, f2 _ _ (f1 _ _ ht)⟩) fun h => h
    have dD := f2 _ _ (f1 _ _ d1)
    have nn := n1.trans (LamX.ExtN.of (f1.trans f2))
    have t2 := t1.ext (f1.trans f2)
    have hNN : (upd (upd H1 tt (.tup [.int (-3), .int 2])) N (.lst [.non, .non, .non, .non, .ref tt])) N = some (.lst [.non, .non, .non, .non, .ref tt]) := upd_same
    generalize upd (upd H1 tt (.tup [.int (-3), .int 2])) N (.lst [.non, .non, .non, .non, .ref tt]) = H2 at zN z2 dD nn t2 hNN ⊢
    have sh : SeqAt.shaped (.list (fiveB.map datB)) = true := by decide +kernel
    refine ⟨_, _, .lst (SqL.of dD) (dp_five z2), .lst (SqL.of hNN) (dp_five zN), sh, sh, ?_⟩
    rw [SeqAt.eqv_refl _ (SeqAt.canLay_of_shaped sh)]
    refine ⟨_, rfl, iteF ?_⟩
    obtain ⟨m, em, m0, m6⟩ : ∃ m : Int, (if (if (5 : Int) < ((ns.map V.int).length : Int) then (5 : Int) else ((ns.map V.int).length : Int)) > 1 then (if (5 : Int) < ((ns.map V.int).length : Int) then (5 : Int) else ((ns.map V.int).length : Int)) else (1 : Int)) = m ∧ 0 ≤ m ∧ m ≤ 5 :=
      ⟨_, rfl, by split <;> split <;> omega, by split <;> split <;> omega⟩
    have sq2 : SqL K H2 a (ns.map V.int) := g1 _ (g2 _ _ g0 fun o no h => nn _ _ h no)
    refine ⟨_, rfl, .inl ⟨a, _, rfl, .inl sq2, _, 5, rfl, 1, _, rfl, m, congrArg (fun z => [V.int z]) em, by omega, by omega, ?_⟩⟩
    refine for_range (lo := 0) (n := m.toNat) (fun j σ H' => (∃ e1 e2, σ = [some (.ref a), e1, e2, none, none]) ∧ LamX.Tabs T H' ∧ ∀ o, (∀ ps, o ≠ .tbl ps) → H a = some o → H' a = some o) ⟨⟨none, none, rfl⟩, t2, fun o no h => nn _ _ h no⟩ ?_ ?_
    · rintro j σ H3 hj ⟨⟨e1, e2, rfl⟩, t3, a3⟩
      refine ⟨_, rfl, _, rfl, a, ns, (0 : Int) + (j : Int), rfl, g1 _ (g2 _ _ g0 a3), by omega, by omega, fun p H4 np sm pt => ?_⟩
      refine ⟨6, rfl, by decide, by decide, fun D hD => ?_⟩
      have nDp := ne_pot pt hD
      refine lc_range (lo := 0) (n := 6) (fun i H' => KT p H4 H' ∧ LamX.Tabs T H' ∧ H' D = some (.lst ((List.replicate i true).map V.bl))) ⟨kt_new (pot_xn pt (LamX.ExtN.refl _)) hD, (t3.ext sm).ext (Am.Ext.new hD), upd_same⟩ ?_ ?_
      · rintro i H5 hi ⟨k5, t5, d5⟩
        refine ⟨rfl, _, rfl, p, rfl, k5.2, t5, fun H6 k6 t6 => ?_⟩
        have d6 := k6.1 _ _ nDp d5 no_tab
        refine ⟨_, d6, ?_, KT.over (k5.trans k6) nDp hD, tabs_put t6 d6, ?_⟩
        · simp only [List.length_map, List.length_replicate]
          omega
        · rw [upd_same, List.replicate_succ', List.map_append]
          rfl
      · rintro H5 ⟨k5, t5, d5⟩
        refine ⟨D, List.replicate 6 true, rfl, SqL.of d5, ?_⟩
        rw [all_rep]
        exact ⟨_, rfl, iteF ⟨⟨_, _, rfl⟩, t5, fun o no h => k5.1 _ _ (ne_of_none (a3 o no h) np) (sm _ _ (a3 o no h)) no⟩⟩
    · rintro σ H3 ⟨⟨e1, e2, rfl⟩, _⟩
      exact q _
end
end KC

set_option Elab.async false
set_option linter.all false
set_option maxRecDepth 100000
set_option maxHeartbeats 2000000
/-! The end of a law of ours that makes code objects: several tables, no repr under way, no limit of digits. -/
namespace Gd
open PySem PySem.Spec PyProof.Rows L2
/-- where the module of the built-ins stands -/
def Bltn (mg : Str → Option Value) (h : Heap) : Prop := ∃ (m : Addr) (u : Obj), mg "__builtins__" = some (.ref m) ∧ m ≠ builtinsNs ∧ h.get? m = some u ∧ u.cls = .type "module" ∧ u.dict = some builtinsNs ∧ u.data = .plain
abbrev noTab : Obj := { cls := .none, data := .fields #[] }
theorem lawGTs {P : Program} {w : World} {K : PySem.W.Frag} {mg mb : Str → Option Value} {k : Nat} {fa a : Addr} {cf : Addr → Addr} {T : List (Addr × Str)} {fd : FuncData} {x : Str} {sp : Sp} {s₁ : Shared} {vs : List Value} {ns : List Int}
    (inK : K.In s₁.heap) (hmg : s₁.heap.Ns mainGlobals mg) (hmb : s₁.heap.Ns builtinsNs mb) (hbt : ∀ y : Str, y ≠ "__name__" → mb y = bootBuiltins y) (lim : s₁.heap.NoLimit) (dig : s₁.heap.NoDigits) (hbm : Bltn mg s₁.heap) (hgen : s₁.gens = #[])
    (tab : ∀ p ∈ T.map (·.1), s₁.heap.get? p = some noTab) (out : ∀ p ∈ T.map (·.1), K.lookup p = none) (head : ∀ p ∈ T.map (·.1), PySem.W.CodeHd s₁.heap (cf p) p)
    (hobj : s₁.heap.get? a = some { cls := .type "list", data := .seq vs.toArray }) (hints : IntsAre vs ns) (hlen : ns.length ≤ sizeLine) (room : Room k callerA)
    (F : ∀ base : Heap, K.In base → base.Ns mainGlobals mg → base.NoDigits → (∀ p ∈ T.map (·.1), LamX.TabB base mg (cf p) p) → FnG P w K mg base CX0 k fa fd [x] sp) (hbd : ∀ (s : Shared) (u : Value), BindsTo s fd ⟨[u], []⟩ [(x, u)])
    (hsp : ∀ H : Hp, LamX.Tabs T H → SqL K H a (ns.map V.int) → sp [.ref a] H (fun v _ => v = .bl true) fun _ _ _ => False) :
    codeAny (model P w) callerA (.call (.ref fa) ⟨[.ref a], []⟩) (fun r s' => r = .ok (.ret (.bool true)) ∧ OldK s₁.heap s'.heap ∧ s'.os = s₁.os ∧ AllBare s'.gens) s₁ := by
  have rv := vals_ints hints
  have nvs := hints.length
  have nap : a ∉ T.map (·.1) := fun e => by
    rw [tab a e] at hobj
    have z : Data.fields #[] = Data.seq vs.toArray _ := congrArg Obj.data (Option.some.inj hobj)
    cases z
  have core : ∀ H : Hp, (∀ p ∈ T.map (·.1), H p = some (.tbl #[])) → (∀ b, b ∉ T.map (·.1) → H b = none ∨ ∃ ob xs, H b = some (.frz ob (.lst xs))) → SqL K H a (ns.map V.int) → HOk P w H s₁.heap → (∀ b, H b ≠ none → b = a ∨ b ∈ T.map (·.1)) → (H a ≠ none → K.lookup a = none) →
      codeAny (model P w) callerA (.call (.ref fa) ⟨[.ref a], []⟩) (fun r s' => r = .ok (.ret (.bool true)) ∧ OldK s₁.heap s'.heap ∧ s'.os = s₁.os ∧ AllBare s'.gens) s₁ := by
    intro H tp only sq hok onlyA notK
    have free_of : ∀ {b : Addr} {o : Obj}, s₁.heap.get? b = some o → (∀ us m, o.data ≠ .seq us m) → o.data ≠ .fields #[] → H b = none := by
      intro b o e no1 no2
      cases z : H b with
      | none => rfl
      | some u =>
        rcases onlyA b (by rw [z]; simp) with eb | eb
        · rw [eb, hobj] at e
          cases e
          exact absurd rfl (no1 _ _)
        · rw [tab b eb] at e
          cases e
          exact absurd rfl no2
    have dict_of : ∀ {b : Addr} {o : Obj} {es : Array DictEntry} {ep : Nat}, s₁.heap.get? b = some o → o.data = .dict es ep → H b = none := fun {b o es ep} e d =>
      free_of e (fun us m z => by rw [d] at z; cases z) (fun z => by rw [d] at z; cases z)
    have ns_of : ∀ {b : Addr} {m : Str → Option Value}, s₁.heap.Ns b m → (hidT s₁.heap H).Ns b m := by
      rintro b m ⟨o, es, ep, e, d, r⟩
      exact ⟨o, es, ep, hidT_get e (dict_of e d), d, r⟩
    have inB : K.In (hidT s₁.heap H) := by
      intro b o e
      refine hidT_get (inK b o e) ?_
      cases z : H b with
      | none => rfl
      | some u =>
        rcases onlyA b (by rw [z]; simp) with eb | eb
        · subst eb
          rw [notK (by rw [z]; simp)] at e
          cases e
        · rw [out b eb] at e
          cases e
    obtain ⟨mc, l1, l2⟩ := lim
    obtain ⟨md', d1, d2⟩ := dig
    have md : Mod K mg (hidT s₁.heap H) := ⟨inB, ns_of hmg, ⟨mb, ns_of hmb, hbt⟩, ⟨mc, ns_of l1, l2⟩⟩
    have nil : ∀ b : Addr, b ∉ ([] : List Addr) := fun b z => nomatch z
    have e0 : Env0 P w K mg (hidT s₁.heap H) callerA [] s₁ H :=
      ⟨rfl, md, fun b o e => of_hidT e, Nat.le_of_eq (hidT_size _ _), trivial, fun b hb => absurd (show b ∈ ([] : List Addr) from hb) (nil b), hok, .of_eq hgen⟩
    have gp : ∀ p ∈ T.map (·.1), mainGlobals ≠ p := fun p hp e => by
      obtain ⟨o, es, ep, e1, d, _⟩ := hmg
      rw [e, tab p hp] at e1
      cases e1
      cases d
    have tb : ∀ p ∈ T.map (·.1), LamX.TabB (hidT s₁.heap H) mg (cf p) p := by
      intro p hp
      refine ⟨?_, ?_, gp p hp⟩
      · obtain ⟨o, us, fi, tf, fl, tg, iF, tx, tt, e, r1, r2, r3, r⟩ := head p hp
        refine ⟨o, us, fi, tf, fl, tg, iF, tx, tt, hidT_get e (free_of e (fun us' m z => ?_) fun z => ?_), r1, r2, r3, r⟩
        · rw [r2] at z
          cases z
        · rw [r2] at z
          injection z with z
          rw [z] at r3
          cases r3
      · obtain ⟨m, u, b1, b2, b3, b4, b5, b6⟩ := hbm
        have n1 : m ≠ mainGlobals := fun e => by
          obtain ⟨o, es, ep, e1, d, _⟩ := hmg
          rw [e, e1] at b3
          cases b3
          rw [b6] at d
          cases d
        have n2 : m ≠ p := fun e => by
          rw [e, tab p hp] at b3
          cases b3
          cases b6
        exact ⟨m, u, b1, b2, n1, n2, hidT_get b3 (free_of b3 (fun us' m' z => by rw [b6] at z; cases z) fun z => by rw [b6] at z; cases z), b4, b5, b6⟩
    have tT : LamX.Tabs T H := fun r hr => LamX.TabS.nil (tp r.1 (List.mem_map_of_mem hr))
    refine codeAny_mono ((F _ inB (ns_of hmg) ⟨md', ns_of d1, d2⟩ tb).go callerA [] s₁ H ⟨[.ref a], []⟩ [.ref a] [.ref a] _ _ rfl room e0 (hbd s₁ (.ref a)) (.cons rfl .nil) (hsp H tT sq)) (fun r s2 z => ?_)
    cases r with
    | error er => exact z.elim
    | ok fl =>
      cases fl with
      | next => exact z.elim
      | brk => exact z.elim
      | cont => exact z.elim
      | ret u =>
        obtain ⟨v, H2, os, bare, un, hok2, rr, qq⟩ := z
        have ev : v = .bl true := qq
        subst ev
        obtain rfl : u = Value.bool true := rr
        have kept : ∀ b o, b ∉ T.map (·.1) → s₁.heap.get? b = some o → s2.heap.get? b = some o := fun b o nb e => by
          cases q2 : H b with
          | none => exact un.keep b o e q2 (nil b) (nil b)
          | some u =>
            cases only b nb with
            | inl z => rw [q2] at z; cases z
            | inr z =>
              obtain ⟨ob, xs, z⟩ := z
              obtain ⟨e1, _⟩ := hok b _ z
              obtain ⟨e2, _⟩ := hok2 b _ (un.frzs b ob _ z)
              rw [e] at e1
              cases e1
              exact e2
        refine ⟨rfl, ⟨fun b o e => ?_, fun b o e => ?_⟩, os, bare⟩
        · by_cases eb : b ∈ T.map (·.1)
          · obtain ⟨new, hn⟩ := un.tbls b #[] (tp b eb)
            have at2 := hok2 b _ hn
            rw [tab b eb] at e
            cases e
            refine .inr (.inl ⟨((head b eb).tab (tab b eb)).isCodeTable, rfl, #[], new, rfl, ?_⟩)
            rw [Array.empty_append] at at2 ⊢
            exact at2
          · exact .inl (kept b o eb e)
        · by_cases eb : b ∈ T.map (·.1)
          · obtain ⟨new, hn⟩ := un.tbls b #[] (tp b eb)
            exact ⟨_, hok2 b _ hn⟩
          · exact ⟨o, kept b o eb e⟩
  cases hk : K.lookup a with
  | some o =>
    have e := inK a o hk
    rw [hobj] at e
    cases e
    refine core (fun b => if b ∈ T.map (·.1) then some (.tbl #[]) else none) (fun p hp => if_pos hp) (fun b nb => .inl (if_neg nb)) (.inr ⟨_, vs.toArray, _, hk, rfl, rfl, rfl, by rw [List.size_toArray, nvs]; exact hlen, by simpa using rv⟩) (fun b u z => ?_) (fun b z => ?_) (fun z => absurd (if_neg nap) z)
    · by_cases eb : b ∈ T.map (·.1)
      · have z2 := (if_pos eb).symm.trans z
        cases z2
        exact tab b eb
      · have z2 := (if_neg eb).symm.trans z
        cases z2
    · by_cases eb : b ∈ T.map (·.1)
      · exact .inr eb
      · exact absurd (if_neg eb) z
  | none =>
    refine core (fun b => if b ∈ T.map (·.1) then some (.tbl #[]) else if b = a then some (.frz { cls := .type "list", data := .seq vs.toArray } (.lst (ns.map V.int))) else none) (fun p hp => if_pos hp) (fun b nb => ?_) (.inl (.inr ⟨_, (if_neg nap).trans (if_pos rfl)⟩)) (fun b u z => ?_) (fun b z => ?_) (fun _ => hk)
    · by_cases hb : b = a
      · exact .inr ⟨_, _, (if_neg nb).trans (if_pos hb)⟩
      · exact .inl ((if_neg nb).trans (if_neg hb))
    · by_cases eb : b ∈ T.map (·.1)
      · have z2 := (if_pos eb).symm.trans z
        cases z2
        exact tab b eb
      · have z1 := (if_neg eb).symm.trans z
        by_cases hb : b = a
        · have z2 := (if_pos hb).symm.trans z1
          cases z2
          subst hb
          exact ⟨hobj, by rw [List.length_map]; exact hlen, vs, _, rv, hobj⟩
        · have z2 := (if_neg hb).symm.trans z1
          cases z2
    · by_cases eb : b ∈ T.map (·.1)
      · exact .inr eb
      · by_cases hb : b = a
        · exact .inl hb
        · exact absurd ((if_neg eb).trans (if_neg hb)) z
/-- a law over a head by facts, a table told -/
theorem walkGTs {l : PySem.W.OpenLaw} {n k : Nat} {q : Program} {loose : List Str} {XP : (Str → Option Value) → Heap → Prop} {YP : World → Heap → Prop} {d : DefRec} {x : Str}
    (hn : l.most = some n) (hn2 : n ≤ sizeLine) (hdf : d.params.defaults = []) (room : Room k callerA)
    (F : ∀ (w : World) (mg : Str → Option Value) (fa : Addr) (h : Heap), YP w h → h.Ns mainGlobals mg → mg d.name = some (.ref fa) →
      ∃ (K : PySem.W.Frag) (fd : FuncData) (sp : Sp) (cf : Addr → Addr) (T : List (Addr × Str)), K.In h ∧ (∀ p ∈ T.map (·.1), h.get? p = some noTab) ∧ (∀ p ∈ T.map (·.1), K.lookup p = none) ∧ (∀ p ∈ T.map (·.1), PySem.W.CodeHd h (cf p) p) ∧ (∀ (s : Shared) (u : Value), BindsTo s fd ⟨[u], []⟩ [(x, u)]) ∧
        (∀ (H : Hp) (a : Addr) (ns : List Int), ns.length ≤ n → LamX.Tabs T H → SqL K H a (ns.map V.int) → sp [.ref a] H (fun v _ => v = .bl true) fun _ _ _ => False) ∧
        ∀ base : Heap, K.In base → base.Ns mainGlobals mg → base.NoDigits → (∀ p ∈ T.map (·.1), LamX.TabB base mg (cf p) p) → FnG l.prog w K mg base CX0 k fa fd [x] sp) :
    PySem.W.WalkO q loose XP YP l.row.toRowW d [] (fun f vs => PySem.call f vs) := by
  refine Att.attach_call hn hdf (fun w s₀ s₁ mg mb fa o pm cd doc a vs ns G Y ho hd hcd hmg hobj hints hlen hg => ?_)
  obtain ⟨K, fd, sp, cf, T, inK, tab, out, head, hbd, hsp, hF⟩ := F w mg fa _ Y G.T.g hmg
  exact lawGTs (T := T) inK G.T.g G.T.b G.T.builtins G.T.nolimit G.T.nodigits G.T.bmain hg tab out head hobj hints (Nat.le_trans hlen hn2) room hF hbd (fun H tT sq => hsp H a ns hlen tT sq)
end Gd

set_option Elab.async false
set_option linter.all false
set_option maxRecDepth 100000
set_option maxHeartbeats 1000000
namespace KB
open PySem PySem.Spec PyProof.Rows L2 Oo Gd Am KA
section
variable {K : W.Frag} {C Z ZA : Addr} {h : Heap} {mg : Str → Option Value}
theorem una_ok {m : Str} (e : unaB K C m = true) : W.findIn K (.ref C) m = some (some (.ref (He.ma K C m))) ∧ W.isFn K (.ref (He.ma K C m)) = true := let ⟨a, b⟩ := He.ba e; ⟨He.eqO_ok a, b⟩
theorem some_of {α : Type} {o : Option α} (h : o.isSome = true) : ∃ x, o = some x := Option.isSome_iff_exists.mp h
theorem bin_ok {nm : String} (e : binB K C nm true = true) : OwnBin K C nm (He.ma K C (PySem.dunder nm)) (some (He.ma K C (dunderR nm))) := by
  obtain ⟨a1, e⟩ := He.ba e
  obtain ⟨a2, e⟩ := He.ba e
  obtain ⟨a3, e⟩ := He.ba e
  obtain ⟨a4, e⟩ := He.ba e
  obtain ⟨a5, e⟩ := He.ba e
  obtain ⟨a6, a7⟩ := He.ba e
  obtain ⟨b1, b2⟩ := una_ok a2
  obtain ⟨c1, c2⟩ := una_ok (show unaB K C (dunderR nm) = true from a3)
  exact ⟨a1, b1, b2, c1, fun a h => by cases h; exact c2, some_of a4, some_of a5, of_decide_eq_true a6, of_decide_eq_true a7⟩
theorem bin_no {nm : String} (e : binB K C nm false = true) : OwnBin K C nm (He.ma K C (PySem.dunder nm)) none := by
  obtain ⟨a1, e⟩ := He.ba e
  obtain ⟨a2, e⟩ := He.ba e
  obtain ⟨a3, e⟩ := He.ba e
  obtain ⟨a4, e⟩ := He.ba e
  obtain ⟨a5, e⟩ := He.ba e
  obtain ⟨a6, a7⟩ := He.ba e
  obtain ⟨b1, b2⟩ := una_ok a2
  exact ⟨a1, b1, b2, He.eqO_ok a3, fun a h => (by cases h), some_of a4, some_of a5, of_decide_eq_true a6, of_decide_eq_true a7⟩
theorem mro_ok {bm : List Value} (e : mroB K C bm = true) : ∃ cd, W.clsIn K C = some cd ∧ cd.mro = .ref C :: bm := by
  unfold mroB at e
  cases z : W.clsIn K C with
  | none => rw [z] at e; cases e
  | some cd =>
    rw [z] at e
    exact ⟨cd, rfl, of_decide_eq_true e⟩
theorem no_ok {nm : String} (m : mroB K C [.type "object"] = true) (e : noB K C nm = true) : NoIn K C nm := by
  obtain ⟨a1, e⟩ := He.ba e
  obtain ⟨a2, a3⟩ := He.ba e
  exact ⟨mro_ok m, He.eqO_ok a1, He.eqO_ok a2, He.eqO_ok a3⟩
theorem prop_ok {m : Str} (e : propB K C m = true) : PropOf K C m (He.ma K C m) (He5.wf K C "property" m) := by
  obtain ⟨a1, e⟩ := He.ba e
  obtain ⟨a2, e⟩ := He.ba e
  obtain ⟨a3, a4⟩ := He.ba e
  refine ⟨He.eqO_ok a1, He.eqO_ok a2, of_decide_eq_true a3, ?_⟩
  unfold He5.wf
  split at a4
  · rename_i f r z
    exact ⟨r, by rw [z]⟩
  · cases a4
theorem stat_ok {m : Str} (e : statB K C m = true) : ClX.CRead K C (.type "type") ∧ (W.findCls K (.ref C) (.type "type") m = some (.get (.builtin "staticmethod.__get__") (.ref (He.ma K C m)) .none (.ref C)) ∧ W.typeIn K (.ref C) = some (.type "type") ∧ (∃ rest, W.recIn K (He.ma K C m) "staticmethod" = some (.ref (He5.wf K C "staticmethod" m) :: rest)) ∧ W.keepIn K (.ref (He5.wf K C "staticmethod" m)) = true) := by
  obtain ⟨a1, e⟩ := He.ba e
  obtain ⟨a2, e⟩ := He.ba e
  obtain ⟨a3, e⟩ := He.ba e
  obtain ⟨a4, a5⟩ := He.ba e
  obtain ⟨b1, b2⟩ := He5.wrapB_ok a1
  exact ⟨⟨a4, He.eqO_ok a5⟩, b1, of_decide_eq_true a2, b2, a3⟩
theorem smet_ok {m : Str} (e : statB K C m = true) : SMet K C (.type "type") m (He.ma K C m) (He5.wf K C "staticmethod" m) := let ⟨_, b1, b2, b3, b4⟩ := stat_ok e; ⟨b1, b2, b3, b4⟩
theorem ns_ok {N : Addr} {es : Array DictEntry} {n : Str} {v : Value} (hf : ∃ oc od ep sl, K.lookup N = some ⟨oc, od, .dict es ep, sl⟩) (e : W.nsIn K N n = some (some v)) : nsFind es n = some v := by
  obtain ⟨oc, od, ep, sl, q⟩ := hf
  unfold W.nsIn at e
  rw [q] at e
  dsimp only at e
  split at e
  · rename_i en he
    cases e
    unfold nsFind findBy
    rw [← Array.find?_toList, he]
    rfl
  · split at e <;> cases e
theorem ns_no {N : Addr} {es : Array DictEntry} {n : Str} (hf : ∃ oc od ep sl, K.lookup N = some ⟨oc, od, .dict es ep, sl⟩) (e : W.nsIn K N n = some none) : nsFind es n = none := by
  obtain ⟨oc, od, ep, sl, q⟩ := hf
  unfold W.nsIn at e
  rw [q] at e
  dsimp only at e
  split at e
  · cases e
  · rename_i he
    unfold nsFind findBy
    rw [← Array.find?_toList, he]
    rfl
theorem slots_of {sl : Array (Option Value)} (h : (match sl.toList with
      | [_, _, _, _, some (.builtin _), _] => true
      | _ => false) = true) : ∃ k0 k1 k2 k3 k5 n, sl = #[k0, k1, k2, k3, some (.builtin n), k5] := by
  split at h
  · rename_i k0 k1 k2 k3 n k5 z
    refine ⟨k0, k1, k2, k3, k5, n, ?_⟩
    have y := congrArg List.toArray z
    rwa [Array.toArray_toList] at y
  · cases h
theorem eqc_ok (e : eqcB K C = true) (fn : W.isFn K (.ref (He.ma K C "__eq__")) = true) (h : Heap) (x dx : Addr) (X : K.In h) (hx : h.get? x = some (W.instObj C dx)) : h.OwnEqNoNe x C (He.ma K C "__eq__") "object" [.type "object"] := by
  unfold eqcB at e
  split at e
  · rename_i t dd cd sl hC
    obtain ⟨a1, e⟩ := He.ba e
    obtain ⟨a2, e⟩ := He.ba e
    obtain ⟨a3, e⟩ := He.ba e
    obtain ⟨a4, e⟩ := He.ba e
    obtain ⟨a5, e⟩ := He.ba e
    obtain ⟨a6, a7⟩ := He.ba e
    split at a7
    · rename_i oc od es ep osl hN
      have hN' : ∃ oc od ep sl, K.lookup cd.ns = some ⟨oc, od, .dict es ep, sl⟩ := ⟨_, _, _, _, hN⟩
      obtain ⟨k0, k1, k2, k3, k5, n, rfl⟩ := slots_of a4
      obtain ⟨nm, bs, mro, ns, qn, hdct, sn, sub, ab, col, hd⟩ := cd
      have m1 : mro = [.ref C, .type "object"] := of_decide_eq_true a2
      subst m1
      have m2 : hd = false := by simpa using a3
      subst m2
      have t1 : t = "type" := of_decide_eq_true a1
      subst t1
      have f1 : ((K.lookup (He.ma K C "__eq__")).map (·.cls) == some (Value.type "function")) = true := fn
      cases q : K.lookup (He.ma K C "__eq__") with
      | none => rw [q] at f1; cases f1
      | some of =>
        rw [q] at f1
        have f2 : of.cls = .type "function" := by
          have : (some of.cls == some (Value.type "function")) = true := f1
          simpa using this
        refine ⟨_, of, nm, qn, ns, bs, hdct, sn, sub, ab, col, dd, k0, k1, k2, k3, k5, n, nsFind es, _, hx, rfl, X _ _ hC, ⟨_, es, ep, X _ _ hN, rfl, ?_, fun _ => rfl⟩, ns_ok hN' (He.eqO_ok a5), X _ _ q, f2, PySem.F.cmp_object.mro, rfl, ns_no hN' (He.eqO_ok a6)⟩
        intro en hen
        have k := List.all_eq_true.mp a7 en (Array.mem_toList_iff.mpr hen)
        split at k
        · rename_i s tk z
          exact ⟨s, tk, z⟩
        · cases k
    · cases a7
  · cases e
end
end KB

set_option Elab.async false
set_option linter.all false
set_option maxRecDepth 100000
set_option maxHeartbeats 1000000
namespace KB
open PySem PySem.Spec PyProof.Rows L2 Oo Gd Am KA KC
section
variable {K : W.Frag} {C Z ZA : Addr} {h : Heap} {mg : Str → Option Value}
structure ErF (K : W.Frag) (Z : Addr) (E nw ini : String) (bm : List Value) (fld : Str) : Prop where
  ec : Ge.EC K Z (He.ma K Z "__init__") E nw ini bm [fld]
  ty : W.typeIn K (.ref Z) = some (.type "type")
  ga : W.findIn K (.ref Z) "__getattribute__" = some (some (.builtin "BaseException.__getattribute__"))
  gg : W.findIn K (.ref Z) "__getattr__" = some none
  cl : W.findIn K (.ref Z) "__class__" = some (some (.builtin "object.__class__"))
  no : W.findIn K (.ref Z) fld = some none
  sb : W.subIn K (.ref Z) (.type "BaseException") = some true
  ob : W.mroIn K Z (.type "object") = some true
abbrev ErV (K : W.Frag) (Z : Addr) (fld : Str) : Prop := ErF K Z "ValueError" "ValueError.__new__" "ValueError.__init__" bmV fld
theorem err_okV {U : Addr} {fld : Str} (e : errB K Z U bmV "ValueError.__new__" fld = true) : ErV K Z fld := by
  obtain ⟨a1, e⟩ := He.ba e
  obtain ⟨a2, e⟩ := He.ba e
  obtain ⟨a3, e⟩ := He.ba e
  obtain ⟨a4, e⟩ := He.ba e
  obtain ⟨a5, e⟩ := He.ba e
  obtain ⟨a6, e⟩ := He.ba e
  obtain ⟨a7, e⟩ := He.ba e
  obtain ⟨a8, e⟩ := He.ba e
  obtain ⟨a9, e⟩ := He.ba e
  obtain ⟨a10, e⟩ := He.ba e
  obtain ⟨a11, e⟩ := He.ba e
  obtain ⟨a12, e⟩ := He.ba e
  obtain ⟨a13, e⟩ := He.ba e
  obtain ⟨a14, e⟩ := He.ba e
  obtain ⟨a15, a16⟩ := He.ba e
  refine ⟨⟨PySem.F.excBase_ValueError, PySem.F.store_ValueError, a2, a3, a4, He.eqO_ok a7, of_decide_eq_true a8, He.eqO_ok a9, a5, fun f hf => ?_⟩, of_decide_eq_true a6, He.eqO_ok a10, He.eqO_ok a11, He.eqO_ok a12, He.eqO_ok a14, of_decide_eq_true a15, of_decide_eq_true a16⟩
  obtain rfl := List.mem_singleton.mp hf
  exact He.eqO_ok a13
theorem e1A (z : ErV K Z "value") (F : ∃ fd, FunD K "__init__" "InvalidAmount.__init__" (defArgs wa) (defBody wa) (defScope wa) [] [] (He.ma K Z "__init__") fd) : Ge.E1 K Z "value" := by
  obtain ⟨fd, F⟩ := F
  obtain ⟨oc, od, dV, kV, doc, pm, an, cdv, ct, osl, rfl, lk, code, dfl, _⟩ := F.ex
  have hb : ∃ q1 q2 q3 q4, defBody wa = Ge.iBody1 "value" q1 q2 q3 q4 := ⟨_, _, _, _, rfl⟩
  have hs : defScope wa = Ge.iScope ["self", "value"] := rfl
  obtain ⟨q1, q2, q3, q4, hb⟩ := hb
  have e : dV = .none := by
    rcases dfl with ⟨_, e⟩ | ⟨e, _⟩
    · exact e
    · exact absurd rfl e
  subst e
  rw [hb, hs] at lk
  exact Ge.e1_of z.ec (List.mem_singleton.mpr rfl) code lk (fun x v => rfl) (fun x v => rfl)
theorem e1T (z : ErV K Z "line") (F : ∃ fd, FunD K "__init__" "InvalidText.__init__" (defArgs wt) (defBody wt) (defScope wt) [] [] (He.ma K Z "__init__") fd) : Ge.E1 K Z "line" := by
  obtain ⟨fd, F⟩ := F
  obtain ⟨oc, od, dV, kV, doc, pm, an, cdv, ct, osl, rfl, lk, code, dfl, _⟩ := F.ex
  have hb : ∃ q1 q2 q3 q4, defBody wt = Ge.iBody1 "line" q1 q2 q3 q4 := ⟨_, _, _, _, rfl⟩
  have hs : defScope wt = Ge.iScope ["self", "line"] := rfl
  obtain ⟨q1, q2, q3, q4, hb⟩ := hb
  have e : dV = .none := by
    rcases dfl with ⟨_, e⟩ | ⟨e, _⟩
    · exact e
    · exact absurd rfl e
  subst e
  rw [hb, hs] at lk
  exact Ge.e1_of z.ec (List.mem_singleton.mpr rfl) code lk (fun x v => rfl) (fun x v => rfl)
theorem e1C (z : ErV K Z "value") (F : ∃ fd, FunD K "__init__" "InvalidCount.__init__" (defArgs wc) (defBody wc) (defScope wc) [] [] (He.ma K Z "__init__") fd) : Ge.E1 K Z "value" := by
  obtain ⟨fd, F⟩ := F
  obtain ⟨oc, od, dV, kV, doc, pm, an, cdv, ct, osl, rfl, lk, code, dfl, _⟩ := F.ex
  have hb : ∃ q1 q2 q3 q4, defBody wc = Ge.iBody1 "value" q1 q2 q3 q4 := ⟨_, _, _, _, rfl⟩
  have hs : defScope wc = Ge.iScope ["self", "value"] := rfl
  obtain ⟨q1, q2, q3, q4, hb⟩ := hb
  have e : dV = .none := by
    rcases dfl with ⟨_, e⟩ | ⟨e, _⟩
    · exact e
    · exact absurd rfl e
  subst e
  rw [hb, hs] at lk
  exact Ge.e1_of z.ec (List.mem_singleton.mpr rfl) code lk (fun x v => rfl) (fun x v => rfl)
theorem wr_of {x : Str} (z : ErV K Z "value") (e1 : Ge.E1 K Z "value") (mgZ : mg x = some (.ref Z)) : Wr K mg x Z := ⟨e1, mgZ, fun {X} h => raises_own (by rw [h]; exact z.sb) (by rw [h]; exact z.ty)⟩
theorem wrl_of {x : Str} (z : ErV K Z "line") (e1 : Ge.E1 K Z "line") (mgZ : mg x = some (.ref Z)) : WrL K mg x Z := ⟨e1, mgZ, fun {X} h => raises_own (by rw [h]; exact z.sb) (by rw [h]; exact z.ty)⟩
structure ClsF (K : W.Frag) (C : Addr) : Prop where
  ha : W.findIn K (.ref C) "__class__" = some (some (.builtin "object.__class__"))
  hn : W.specialIn K (.builtin "object.__class__") "__get__" = some (some (.builtin "getset_descriptor.__get__"))
  tk : W.takesIn K (.builtin "object.__class__") = some true
  ob : W.mroIn K C (.type "object") = some true
  me : W.kitOne K (.ref C) (.ref C) = some true
  kI : W.kitOne K (.type "int") (.ref C) = some false
theorem cls_ok (e : clsB K C = true) : ClsF K C := by
  obtain ⟨a1, e⟩ := He.ba e
  obtain ⟨a2, e⟩ := He.ba e
  obtain ⟨a3, e⟩ := He.ba e
  obtain ⟨a4, e⟩ := He.ba e
  obtain ⟨a5, a6⟩ := He.ba e
  exact ⟨He.eqO_ok a1, He.eqO_ok a2, of_decide_eq_true a3, of_decide_eq_true a4, of_decide_eq_true a5, of_decide_eq_true a6⟩
theorem er_of {E nw ini : String} {bm : List Value} {fld : Str} (z : ErF K Z E nw ini bm fld) (c : ClsF K C) : KC.Er K Z fld := ⟨⟨z.ga, z.gg, z.sb, z.ec.hd⟩, z.no, ⟨z.ga, z.gg, z.sb, z.ec.hd, z.cl, z.ob, c.hn, c.tk⟩⟩
theorem tq_of {WA WC WT ZF : Addr} (t : tqB K ZF WA WC WT = true) (c : ClsF K C) (a : ErV K WA "value") (b : ErV K WC "value") (d : ErV K WT "line") (mA : mg "InvalidAmount" = some (.ref WA)) (mC : mg "InvalidCount" = some (.ref WC)) (mT : mg "InvalidText" = some (.ref WT)) (mZF : mg "FormError" = some (.ref ZF)) : Tq K mg WA WC WT ZF := by
  obtain ⟨b1, t⟩ := He.ba t
  obtain ⟨b2, t⟩ := He.ba t
  obtain ⟨b3, t⟩ := He.ba t
  obtain ⟨b4, t⟩ := He.ba t
  obtain ⟨b5, t⟩ := He.ba t
  obtain ⟨b6, t⟩ := He.ba t
  obtain ⟨b7, t⟩ := He.ba t
  obtain ⟨b8, b9⟩ := He.ba t
  exact ⟨mA, mC, mT, mZF, er_of a c, er_of b c, er_of d c, of_decide_eq_true b1, of_decide_eq_true b2, of_decide_eq_true b3, of_decide_eq_true b4, of_decide_eq_true b5, of_decide_eq_true b6, of_decide_eq_true b7, of_decide_eq_true b8, of_decide_eq_true b9⟩
theorem cl2_of (cl : Cls K C) (c : ClsF K C) : Cl2 K C := ⟨⟨cl, c.ha, c.hn, c.tk, c.ob, c.me⟩, c.kI⟩
end
/-! ### how a def binds what it is called with, by keywords too -/
section
variable {K : W.Frag} {x qual : Str} {st : Stmt} {f : Addr} {fd : FuncData}
theorem kbn_of {n : Nat} {ps ks : List Str} {g : List Value → List Value → List Value} {gV : List V → List V → List V} (F : FunD K x qual (defArgs st) (defBody st) (defScope st) [] [] f fd)
    (h : ∀ (kV doc pm : Value) (an : Option Addr) (cdv ct : Value) (us ws : List Value), us.length = n → ws.length = ks.length → bindArgs (W.fnOf x qual (defArgs st) (defBody st) (defScope st) .none kV doc pm an cdv ct) ⟨us, ks.zip ws⟩ = pure (ps.zip (g us ws)))
    (hr : ∀ {vs : List V} {us : List Value} {zs : List V} {ws : List Value}, Vals vs us → Vals zs ws → Vals (gV vs zs) (g us ws)) : KBn K fd ps n ks g gV := by
  obtain ⟨oc, od, dV, kV, doc, pm, an, cdv, ct, osl, rfl, lk, hcd, hD, hK⟩ := F.ex
  rcases hD with ⟨_, rfl⟩ | ⟨e, _⟩
  · exact ⟨fun s us ws _ l1 l2 => .of_eq (h kV doc pm an cdv ct us ws l1 l2), hr⟩
  · exact absurd rfl e
theorem fun_of'' (F : FunD K x qual (defArgs st) (defBody st) (defScope st) [] [] f fd) : Fun K x qual st f fd := He5.fun_of F
theorem vals_rev : ∀ {vs : List V} {us : List Value}, Vals vs us → Vals vs.reverse us.reverse
  | _, _, .nil => .nil
  | _, _, .cons h r => by
    rw [List.reverse_cons, List.reverse_cons]
    exact (vals_rev r).append (.cons h .nil)
theorem kb_other (F : FunD K "over" "Amount.over" (defArgs (am 12)) (defBody (am 12)) (defScope (am 12)) [] [] f fd) : KBn K fd ["self", "other"] 1 [("other" : Str)] (fun us ws => us ++ ws) (fun us ws => us ++ ws) :=
  kbn_of F (fun kV doc pm an cdv ct us ws l1 l2 => by
    match us, l1, ws, l2 with
    | [a], _, [b], _ => rfl) fun a b => a.append b
theorem kb_round (F : FunD K "rounded" "Amount.rounded" (defArgs (am 28)) (defBody (am 28)) (defScope (am 28)) [] [] f fd) : KBn K fd ["self", "places"] 1 [("places" : Str)] (fun us ws => us ++ ws) (fun us ws => us ++ ws) :=
  kbn_of F (fun kV doc pm an cdv ct us ws l1 l2 => by
    match us, l1, ws, l2 with
    | [a], _, [b], _ => rfl) fun a b => a.append b
theorem kb_read (F : FunD K "read" "Amount.read" (defArgs (am 2)) (defBody (am 2)) (defScope (am 2)) [] [] f fd) : KBn K fd ["text"] 0 [("text" : Str)] (fun us ws => us ++ ws) (fun us ws => us ++ ws) :=
  kbn_of F (fun kV doc pm an cdv ct us ws l1 l2 => by
    match us, l1, ws, l2 with
    | [], _, [b], _ => rfl) fun a b => a.append b
/-- Amount(n, d) | Amount(n) | Amount(bottom = d, top = n) -/
theorem init_binds (F : FunI K f fd) : Binds K fd ["self", "top", "bottom"] [] ∧ (∃ ds, Vals [V.int 1] ds ∧ Binds K fd ["self", "top", "bottom"] ds) ∧ KBn K fd ["self", "top", "bottom"] 1 [("bottom" : Str), "top"] (fun us ws => us ++ ws.reverse) (fun us ws => us ++ ws.reverse) := by
  refine ⟨?_, ?_, ?_⟩
  · obtain ⟨ds, v, b⟩ := F.binds1 (ps := ["self", "top", "bottom"]) 3 1 (by decide) (by decide) (fun T kV doc pm an cdv ct us its l1 l2 => by
      match us, l1, its, l2 with
      | [a, b, c], _, [d], _ => exact ⟨_, rfl, rfl⟩)
    cases v
    exact b
  · exact F.binds1 (ps := ["self", "top", "bottom"]) 2 0 (by decide) (by decide) (fun T kV doc pm an cdv ct us its l1 l2 => by
      match us, l1, its, l2 with
      | [a, b], _, [c], _ => exact ⟨_, rfl, rfl⟩)
  · obtain ⟨its, k⟩ := F.kbindsD (ps := ["self", "top", "bottom"]) 1 [("bottom" : Str), "top"] (fun us _ ws => us ++ ws.reverse) (by decide) (fun a _ b => a.append (vals_rev b)) (fun T kV doc pm an cdv ct us its ws l1 l2 l3 => by
      match us, l1, its, l2, ws, l3 with
      | [a], _, [c], _, [d, e], _ => exact ⟨_, rfl, rfl⟩)
    exact k
end
end KB

set_option Elab.async false
set_option linter.all false
set_option maxRecDepth 100000
set_option maxHeartbeats 4000000
namespace KB
open PySem PySem.Spec PyProof.Rows L2 Oo Gd Am KA KC
theorem factM {K : W.Frag} (c : He5.SaysA fa fn K) {f : He.Fa} (h : f ∈ fa) : f.ok K = true := by
  have c1 := (He.ba (show ((fa.all fun f => f.ok K) && fn.all fun d => d.ok K) = true from congrArg (fun z : He.AlD => z.1) c)).1
  exact List.all_eq_true.mp c1 f h
theorem nd_find {K : W.Frag} : ∀ {l : List (He.Defn × Str)}, (l.map fun r => (He.cT K r.1).2).Nodup → ∀ r ∈ l, l.find? (fun x => decide ((He.cT K x.1).2 = (He.cT K r.1).2)) = some r
  | [], _, r, h => by cases h
  | a :: l, nd, r, h => by
    rw [List.map_cons, List.nodup_cons] at nd
    rw [List.find?_cons]
    rcases List.mem_cons.mp h with rfl | h
    · rw [decide_eq_true rfl]
    · have ne : ¬ (He.cT K a.1).2 = (He.cT K r.1).2 := fun e => nd.1 (e ▸ List.mem_map_of_mem (f := fun r => (He.cT K r.1).2) h)
      rw [decide_eq_false ne]
      exact nd_find nd.2 r h
theorem cf_eq {K : W.Frag} (di : diB K = true) {r : He.Defn × Str} (h : r ∈ tl5) : cf K (He.cT K r.1).2 = (He.cT K r.1).1 := by
  unfold cf
  rw [nd_find (of_decide_eq_true di) r h]
  rfl
theorem tq1_of {K : W.Frag} (di : diB K = true) {r : He.Defn × Str} (h : r ∈ tl5) : Tq1 (TT5 K) (He.cT K r.1).2 r.2 := by
  refine ⟨List.mem_map_of_mem (f := fun r => ((He.cT K r.1).2, r.2)) h, fun x hx e => ?_⟩
  obtain ⟨y, hy, rfl⟩ := List.mem_map.mp hx
  have e1 := nd_find (K := K) (of_decide_eq_true di) r h
  have e2 := nd_find (K := K) (of_decide_eq_true di) y hy
  rw [show (He.cT K y.1).2 = (He.cT K r.1).2 from e, e1] at e2
  rw [Option.some.inj e2]
theorem tab_of {K : W.Frag} {M : Addr → Addr → Prop} (di : diB K = true) (H : ∀ p ∈ (TT5 K).map (·.1), M (cf K p) p) {r : He.Defn × Str} (h : r ∈ tl5) : M (He.cT K r.1).1 (He.cT K r.1).2 := by
  have := H (He.cT K r.1).2 (List.mem_map_of_mem (f := (·.1)) (List.mem_map_of_mem (f := fun r => ((He.cT K r.1).2, r.2)) h))
  rwa [cf_eq di h] at this
theorem facts {P : Program} {w : World} {K : W.Frag} {h : Heap} {mg : Str → Option Value} (X : K.In h) (G : h.Ns mainGlobals mg) (S : SayK h K) :
    mg ("law" : Str) = some (.ref (He.ga K "law")) ∧ ∃ fd : FuncData, (∀ (s : Shared) (v : Value), BindsTo s fd ⟨[v], []⟩ [("_law_script", v)]) ∧
      ∀ base : Heap, K.In base → base.Ns mainGlobals mg → base.NoDigits → (∀ p ∈ (TT5 K).map (·.1), LamX.TabB base mg (cf K p) p) → FnG P w K mg base CX0 13 (He.ga K "law") fd ["_law_script"] (KC.spLaw K (TT5 K)) := by
  have fr : Frees mg := ⟨fun x hx => He.free_ok X G (factM S.a (f := .free x) (List.mem_append_right _ (List.mem_append_left _ (List.mem_map_of_mem (List.contains_iff_mem.mp hx)))))⟩
  have gw : ∀ x, (ownNames ++ lawNames ++ [("law" : Str)]).contains x = true → mg x = some (.ref (He.ga K x)) := fun x hx => He.glo_ok X G (factM S.a (f := .glo x) (List.mem_append_left _ (List.mem_map_of_mem (List.contains_iff_mem.mp hx))))
  obtain ⟨tk1, mP⟩ := He.int_ok X G (S.a.fact 51 (f := .int "MOST_POWER" 12) rfl)
  obtain ⟨tk2, mQ⟩ := He.int_ok X G (S.a.fact 52 (f := .int "MOST_PLACES" 12) rfl)
  obtain ⟨tk3, mM⟩ := He.int_ok X G (S.a.fact 53 (f := .int "MOST_DIGITS" 4000) rfl)
  obtain ⟨tk4, mD⟩ := He.str_ok X G (S.a.fact 54 (f := .str "DIGITS" "0123456789") rfl)
  have cls := He.cls_ok (S.a.fact 55 (f := .cls "Amount") rfl)
  have T : Cl K (kC K) := ⟨cls, He.noat_ok (S.a.fact 56 (f := .noat "Amount" "_top") rfl), He.noat_ok (S.a.fact 57 (f := .noat "Amount" "_bottom") rfl)⟩
  have mOver := He.meth_ok (S.a.fact 58 (f := .meth "Amount" "over") rfl)
  have mRnd := He.meth_ok (S.a.fact 59 (f := .meth "Amount" "rounded") rfl)
  have mMk := He.mkr_ok (S.a.fact 60 (f := .mkr "Amount") rfl)
  obtain ⟨x1, ex⟩ := He.ba S.ex
  obtain ⟨x2, ex⟩ := He.ba ex
  obtain ⟨x3, ex⟩ := He.ba ex
  obtain ⟨x4, ex⟩ := He.ba ex
  obtain ⟨x5, ex⟩ := He.ba ex
  obtain ⟨x6, ex⟩ := He.ba ex
  obtain ⟨x7, ex⟩ := He.ba ex
  obtain ⟨x8, ex⟩ := He.ba ex
  obtain ⟨x9, ex⟩ := He.ba ex
  obtain ⟨x10, ex⟩ := He.ba ex
  obtain ⟨x11, ex⟩ := He.ba ex
  obtain ⟨x12, ex⟩ := He.ba ex
  obtain ⟨x13, ex⟩ := He.ba ex
  obtain ⟨x14, x15⟩ := He.ba ex
  have mG : mg "gcd" = some (.builtin "math.gcd") := W.mg_of X G (He.eqO_ok x15)
  have bin : ∀ nm, nm ∈ op5 → OwnBin K (kC K) nm (He.ma K (kC K) (PySem.dunder nm)) (some (He.ma K (kC K) (dunderR nm))) := fun nm hn => bin_ok (List.all_eq_true.mp x1 nm hn)
  have una : ∀ m, m ∈ six → W.findIn K (.ref (kC K)) (Str.ofString m) = some (some (.ref (He.ma K (kC K) (Str.ofString m)))) ∧ W.isFn K (.ref (He.ma K (kC K) (Str.ofString m))) = true := fun m hm => una_ok (List.all_eq_true.mp x4 m hm)
  have prp : ∀ m, m ∈ (["top", "bottom", "sign"] : List String) → PropOf K (kC K) (Str.ofString m) (He.ma K (kC K) (Str.ofString m)) (He5.wf K (kC K) "property" (Str.ofString m)) := fun m hm => prop_ok (List.all_eq_true.mp x5 m hm)
  have sm := smet_ok x6
  have cr := (stat_ok x6).1
  have smR := smet_ok x9
  have cF := cls_ok x8
  have aF := err_okV x10
  have nF := err_okV x11
  have tF := err_okV x12
  have T2 : Cl2 K (kC K) := cl2_of cls cF
  have pl : Plain K (kC K) := mro_ok x3
  have kc : Kc K (kC K) := ⟨by obtain ⟨cd, e, _⟩ := pl; rw [e]; rfl, (stat_ok x6).2.2.1, pl⟩
  obtain ⟨kn1, kn2⟩ := He.ba x14
  have kn : Kn K (kC K) := ⟨T2.ins, of_decide_eq_true kn1, of_decide_eq_true kn2⟩
  have gA := gw "Amount" (by decide +kernel)
  have gZF := gw "FormError" (by decide +kernel)
  have gWA := gw "InvalidAmount" (by decide +kernel)
  have gWC := gw "InvalidCount" (by decide +kernel)
  have gWT := gw "InvalidText" (by decide +kernel)
  have wrA : Wr K mg "InvalidAmount" (kWA K) := wr_of aF (e1A aF (S.a.def_ 49 (d := ⟨fun K => He.ma K (kWA K) "__init__", "__init__", "InvalidAmount.__init__", defArgs wa, defBody wa, defScope wa, [], []⟩) rfl)) gWA
  have wrC : Wr K mg "InvalidCount" (kWC K) := wr_of nF (e1C nF (S.a.def_ 50 (d := ⟨fun K => He.ma K (kWC K) "__init__", "__init__", "InvalidCount.__init__", defArgs wc, defBody wc, defScope wc, [], []⟩) rfl)) gWC
  have wrT : WrL K mg "InvalidText" (kWT K) := wrl_of tF (e1T tF (S.a.def_ 51 (d := ⟨fun K => He.ma K (kWT K) "__init__", "__init__", "InvalidText.__init__", defArgs wt, defBody wt, defScope wt, [], []⟩) rfl)) gWT
  have tq : KC.Tq K mg (kWA K) (kWC K) (kWT K) (kZF K) := tq_of x13 cF aF nF tF gWA gWC gWT gZF
  obtain ⟨d_is_whole, E_is_whole⟩ := S.a.def_ 0 (d := dOf "is_whole" 9) rfl
  have E_is_whole : FunD K "is_whole" "is_whole" (defArgs (top 9)) (defBody (top 9)) (defScope (top 9)) [] [] (He.ga K "is_whole") d_is_whole := E_is_whole
  have F_is_whole : Fun K "is_whole" "is_whole" (top 9) (He.ga K "is_whole") d_is_whole := He5.fun_of E_is_whole
  have b_is_whole : Binds K d_is_whole ["value"] [] := E_is_whole.bindsN (ps := ["value"]) (fun kV doc pm an cdv ct us l => by
    match us, l with
    | [a], _ => rfl)
  obtain ⟨d_is_count, E_is_count⟩ := S.a.def_ 1 (d := dOf "is_count" 10) rfl
  have E_is_count : FunD K "is_count" "is_count" (defArgs (top 10)) (defBody (top 10)) (defScope (top 10)) [] [] (He.ga K "is_count") d_is_count := E_is_count
  have F_is_count : Fun K "is_count" "is_count" (top 10) (He.ga K "is_count") d_is_count := He5.fun_of E_is_count
  have b_is_count : Binds K d_is_count ["value"] [] := E_is_count.bindsN (ps := ["value"]) (fun kV doc pm an cdv ct us l => by
    match us, l with
    | [a], _ => rfl)
  obtain ⟨d_are_digits, E_are_digits⟩ := S.a.def_ 2 (d := dOf "_are_digits" 17) rfl
  have E_are_digits : FunD K "_are_digits" "_are_digits" (defArgs (top 17)) (defBody (top 17)) (defScope (top 17)) [] [] (He.ga K "_are_digits") d_are_digits := E_are_digits
  have F_are_digits : Fun K "_are_digits" "_are_digits" (top 17) (He.ga K "_are_digits") d_are_digits := He5.fun_of E_are_digits
  have b_are_digits : Binds K d_are_digits ["text"] [] := E_are_digits.bindsN (ps := ["text"]) (fun kV doc pm an cdv ct us l => by
    match us, l with
    | [a], _ => rfl)
  obtain ⟨d_l_pot, E_l_pot⟩ := S.a.def_ 3 (d := dOf "_law_pot" 19) rfl
  have E_l_pot : FunD K "_law_pot" "_law_pot" (defArgs (top 19)) (defBody (top 19)) (defScope (top 19)) [] [] (He.ga K "_law_pot") d_l_pot := E_l_pot
  have F_l_pot : Fun K "_law_pot" "_law_pot" (top 19) (He.ga K "_law_pot") d_l_pot := He5.fun_of E_l_pot
  have b_l_pot : Binds K d_l_pot ["_law_script", "_law_k"] [] := E_l_pot.bindsN (ps := ["_law_script", "_law_k"]) (fun kV doc pm an cdv ct us l => by
    match us, l with
    | [a, b], _ => rfl)
  obtain ⟨d_l_draw, E_l_draw⟩ := S.a.def_ 4 (d := dOf "_law_draw" 20) rfl
  have E_l_draw : FunD K "_law_draw" "_law_draw" (defArgs (top 20)) (defBody (top 20)) (defScope (top 20)) [] [] (He.ga K "_law_draw") d_l_draw := E_l_draw
  have F_l_draw : Fun K "_law_draw" "_law_draw" (top 20) (He.ga K "_law_draw") d_l_draw := He5.fun_of E_l_draw
  have b_l_draw : Binds K d_l_draw ["_law_pot_here", "_law_sides"] [] := E_l_draw.bindsN (ps := ["_law_pot_here", "_law_sides"]) (fun kV doc pm an cdv ct us l => by
    match us, l with
    | [a, b], _ => rfl)
  obtain ⟨d_l_pick, E_l_pick⟩ := S.a.def_ 5 (d := dOf "_law_pick" 21) rfl
  have E_l_pick : FunD K "_law_pick" "_law_pick" (defArgs (top 21)) (defBody (top 21)) (defScope (top 21)) [] [] (He.ga K "_law_pick") d_l_pick := E_l_pick
  have F_l_pick : Fun K "_law_pick" "_law_pick" (top 21) (He.ga K "_law_pick") d_l_pick := He5.fun_of E_l_pick
  have b_l_pick : Binds K d_l_pick ["_law_pot_here", "_law_some"] [] := E_l_pick.bindsN (ps := ["_law_pot_here", "_law_some"]) (fun kV doc pm an cdv ct us l => by
    match us, l with
    | [a, b], _ => rfl)
  obtain ⟨d_l_lowest, E_l_lowest⟩ := S.a.def_ 6 (d := dOf "_law_lowest" 22) rfl
  have E_l_lowest : FunD K "_law_lowest" "_law_lowest" (defArgs (top 22)) (defBody (top 22)) (defScope (top 22)) [] [] (He.ga K "_law_lowest") d_l_lowest := E_l_lowest
  have F_l_lowest : Fun K "_law_lowest" "_law_lowest" (top 22) (He.ga K "_law_lowest") d_l_lowest := He5.fun_of E_l_lowest
  have b_l_lowest : Binds K d_l_lowest ["_law_high", "_law_low"] [] := E_l_lowest.bindsN (ps := ["_law_high", "_law_low"]) (fun kV doc pm an cdv ct us l => by
    match us, l with
    | [a, b], _ => rfl)
  obtain ⟨d_l_great, E_l_great⟩ := S.a.def_ 7 (d := dOf "_law_great" 23) rfl
  have E_l_great : FunD K "_law_great" "_law_great" (defArgs (top 23)) (defBody (top 23)) (defScope (top 23)) [] [] (He.ga K "_law_great") d_l_great := E_l_great
  have F_l_great : Fun K "_law_great" "_law_great" (top 23) (He.ga K "_law_great") d_l_great := He5.fun_of E_l_great
  have b_l_great : Binds K d_l_great ["_law_pot_here"] [] := E_l_great.bindsN (ps := ["_law_pot_here"]) (fun kV doc pm an cdv ct us l => by
    match us, l with
    | [a], _ => rfl)
  obtain ⟨d_l_part, E_l_part⟩ := S.a.def_ 8 (d := dOf "_law_part" 24) rfl
  have E_l_part : FunD K "_law_part" "_law_part" (defArgs (top 24)) (defBody (top 24)) (defScope (top 24)) [] [] (He.ga K "_law_part") d_l_part := E_l_part
  have F_l_part : Fun K "_law_part" "_law_part" (top 24) (He.ga K "_law_part") d_l_part := He5.fun_of E_l_part
  have b_l_part : Binds K d_l_part ["_law_pot_here"] [] := E_l_part.bindsN (ps := ["_law_pot_here"]) (fun kV doc pm an cdv ct us l => by
    match us, l with
    | [a], _ => rfl)
  obtain ⟨d_l_written, E_l_written⟩ := S.a.def_ 9 (d := dOf "_law_written" 25) rfl
  have E_l_written : FunD K "_law_written" "_law_written" (defArgs (top 25)) (defBody (top 25)) (defScope (top 25)) [] [] (He.ga K "_law_written") d_l_written := E_l_written
  have F_l_written : Fun K "_law_written" "_law_written" (top 25) (He.ga K "_law_written") d_l_written := He5.fun_of E_l_written
  have b_l_written : Binds K d_l_written ["_law_part_here"] [] := E_l_written.bindsN (ps := ["_law_part_here"]) (fun kV doc pm an cdv ct us l => by
    match us, l with
    | [a], _ => rfl)
  obtain ⟨d_l_odd, E_l_odd⟩ := S.a.def_ 10 (d := dOf "_law_odd" 26) rfl
  have E_l_odd : FunD K "_law_odd" "_law_odd" (defArgs (top 26)) (defBody (top 26)) (defScope (top 26)) [] [] (He.ga K "_law_odd") d_l_odd := E_l_odd
  have F_l_odd : Fun K "_law_odd" "_law_odd" (top 26) (He.ga K "_law_odd") d_l_odd := He5.fun_of E_l_odd
  have b_l_odd : Binds K d_l_odd ["_law_pot_here"] [] := E_l_odd.bindsN (ps := ["_law_pot_here"]) (fun kV doc pm an cdv ct us l => by
    match us, l with
    | [a], _ => rfl)
  obtain ⟨d_l_told, E_l_told⟩ := S.a.def_ 11 (d := dOf "_law_told" 27) rfl
  have E_l_told : FunD K "_law_told" "_law_told" (defArgs (top 27)) (defBody (top 27)) (defScope (top 27)) [] [] (He.ga K "_law_told") d_l_told := E_l_told
  have F_l_told : Fun K "_law_told" "_law_told" (top 27) (He.ga K "_law_told") d_l_told := He5.fun_of E_l_told
  have b_l_told : Binds K d_l_told ["_law_call"] [] := E_l_told.bindsN (ps := ["_law_call"]) (fun kV doc pm an cdv ct us l => by
    match us, l with
    | [a], _ => rfl)
  obtain ⟨d_l_parts_right, E_l_parts_right⟩ := S.a.def_ 12 (d := dOf "_law_parts_right" 28) rfl
  have E_l_parts_right : FunD K "_law_parts_right" "_law_parts_right" (defArgs (top 28)) (defBody (top 28)) (defScope (top 28)) [] [] (He.ga K "_law_parts_right") d_l_parts_right := E_l_parts_right
  have F_l_parts_right : Fun K "_law_parts_right" "_law_parts_right" (top 28) (He.ga K "_law_parts_right") d_l_parts_right := He5.fun_of E_l_parts_right
  have b_l_parts_right : Binds K d_l_parts_right ["_law_pot_here"] [] := E_l_parts_right.bindsN (ps := ["_law_pot_here"]) (fun kV doc pm an cdv ct us l => by
    match us, l with
    | [a], _ => rfl)
  obtain ⟨d_l_left_right, E_l_left_right⟩ := S.a.def_ 13 (d := dOf "_law_left_right" 29) rfl
  have E_l_left_right : FunD K "_law_left_right" "_law_left_right" (defArgs (top 29)) (defBody (top 29)) (defScope (top 29)) [] [] (He.ga K "_law_left_right") d_l_left_right := E_l_left_right
  have F_l_left_right : Fun K "_law_left_right" "_law_left_right" (top 29) (He.ga K "_law_left_right") d_l_left_right := He5.fun_of E_l_left_right
  have b_l_left_right : Binds K d_l_left_right ["_law_made", "_law_odd_here"] [] := E_l_left_right.bindsN (ps := ["_law_made", "_law_odd_here"]) (fun kV doc pm an cdv ct us l => by
    match us, l with
    | [a, b], _ => rfl)
  obtain ⟨d_l_right_right, E_l_right_right⟩ := S.a.def_ 14 (d := dOf "_law_right_right" 30) rfl
  have E_l_right_right : FunD K "_law_right_right" "_law_right_right" (defArgs (top 30)) (defBody (top 30)) (defScope (top 30)) [] [] (He.ga K "_law_right_right") d_l_right_right := E_l_right_right
  have F_l_right_right : Fun K "_law_right_right" "_law_right_right" (top 30) (He.ga K "_law_right_right") d_l_right_right := He5.fun_of E_l_right_right
  have b_l_right_right : Binds K d_l_right_right ["_law_made", "_law_odd_here"] [] := E_l_right_right.bindsN (ps := ["_law_made", "_law_odd_here"]) (fun kV doc pm an cdv ct us l => by
    match us, l with
    | [a, b], _ => rfl)
  obtain ⟨d_l_refused_right, E_l_refused_right⟩ := S.a.def_ 15 (d := dOf "_law_refused_right" 31) rfl
  have E_l_refused_right : FunD K "_law_refused_right" "_law_refused_right" (defArgs (top 31)) (defBody (top 31)) (defScope (top 31)) [] [] (He.ga K "_law_refused_right") d_l_refused_right := E_l_refused_right
  have F_l_refused_right : Fun K "_law_refused_right" "_law_refused_right" (top 31) (He.ga K "_law_refused_right") d_l_refused_right := He5.fun_of E_l_refused_right
  have b_l_refused_right : Binds K d_l_refused_right ["_law_pot_here"] [] := E_l_refused_right.bindsN (ps := ["_law_pot_here"]) (fun kV doc pm an cdv ct us l => by
    match us, l with
    | [a], _ => rfl)
  obtain ⟨d_l_bent, E_l_bent⟩ := S.a.def_ 16 (d := dOf "_law_bent" 32) rfl
  have E_l_bent : FunD K "_law_bent" "_law_bent" (defArgs (top 32)) (defBody (top 32)) (defScope (top 32)) [] [] (He.ga K "_law_bent") d_l_bent := E_l_bent
  have F_l_bent : Fun K "_law_bent" "_law_bent" (top 32) (He.ga K "_law_bent") d_l_bent := He5.fun_of E_l_bent
  have b_l_bent : Binds K d_l_bent ["_law_pot_here", "_law_wording"] [] := E_l_bent.bindsN (ps := ["_law_pot_here", "_law_wording"]) (fun kV doc pm an cdv ct us l => by
    match us, l with
    | [a, b], _ => rfl)
  obtain ⟨d_l_is_count, E_l_is_count⟩ := S.a.def_ 17 (d := dOf "_law_is_count" 33) rfl
  have E_l_is_count : FunD K "_law_is_count" "_law_is_count" (defArgs (top 33)) (defBody (top 33)) (defScope (top 33)) [] [] (He.ga K "_law_is_count") d_l_is_count := E_l_is_count
  have F_l_is_count : Fun K "_law_is_count" "_law_is_count" (top 33) (He.ga K "_law_is_count") d_l_is_count := He5.fun_of E_l_is_count
  have b_l_is_count : Binds K d_l_is_count ["_law_wording"] [] := E_l_is_count.bindsN (ps := ["_law_wording"]) (fun kV doc pm an cdv ct us l => by
    match us, l with
    | [a], _ => rfl)
  obtain ⟨d_l_fraction_in, E_l_fraction_in⟩ := S.a.def_ 18 (d := dOf "_law_fraction_in" 34) rfl
  have E_l_fraction_in : FunD K "_law_fraction_in" "_law_fraction_in" (defArgs (top 34)) (defBody (top 34)) (defScope (top 34)) [] [] (He.ga K "_law_fraction_in") d_l_fraction_in := E_l_fraction_in
  have F_l_fraction_in : Fun K "_law_fraction_in" "_law_fraction_in" (top 34) (He.ga K "_law_fraction_in") d_l_fraction_in := He5.fun_of E_l_fraction_in
  have b_l_fraction_in : Binds K d_l_fraction_in ["_law_wording"] [] := E_l_fraction_in.bindsN (ps := ["_law_wording"]) (fun kV doc pm an cdv ct us l => by
    match us, l with
    | [a], _ => rfl)
  obtain ⟨d_l_texts_right, E_l_texts_right⟩ := S.a.def_ 19 (d := dOf "_law_texts_right" 35) rfl
  have E_l_texts_right : FunD K "_law_texts_right" "_law_texts_right" (defArgs (top 35)) (defBody (top 35)) (defScope (top 35)) [] [] (He.ga K "_law_texts_right") d_l_texts_right := E_l_texts_right
  have F_l_texts_right : Fun K "_law_texts_right" "_law_texts_right" (top 35) (He.ga K "_law_texts_right") d_l_texts_right := He5.fun_of E_l_texts_right
  have b_l_texts_right : Binds K d_l_texts_right ["_law_pot_here"] [] := E_l_texts_right.bindsN (ps := ["_law_pot_here"]) (fun kV doc pm an cdv ct us l => by
    match us, l with
    | [a], _ => rfl)
  obtain ⟨d_l_right, E_l_right⟩ := S.a.def_ 20 (d := dOf "_law_right" 36) rfl
  have E_l_right : FunD K "_law_right" "_law_right" (defArgs (top 36)) (defBody (top 36)) (defScope (top 36)) [] [] (He.ga K "_law_right") d_l_right := E_l_right
  have F_l_right : Fun K "_law_right" "_law_right" (top 36) (He.ga K "_law_right") d_l_right := He5.fun_of E_l_right
  have b_l_right : Binds K d_l_right ["_law_pot_here"] [] := E_l_right.bindsN (ps := ["_law_pot_here"]) (fun kV doc pm an cdv ct us l => by
    match us, l with
    | [a], _ => rfl)
  obtain ⟨d_law, E_law⟩ := S.a.def_ 21 (d := dOf "law" 37) rfl
  have E_law : FunD K "law" "law" (defArgs (top 37)) (defBody (top 37)) (defScope (top 37)) [] [] (He.ga K "law") d_law := E_law
  have F_law : Fun K "law" "law" (top 37) (He.ga K "law") d_law := He5.fun_of E_law
  have b_law : Binds K d_law ["_law_script"] [] := E_law.bindsN (ps := ["_law_script"]) (fun kV doc pm an cdv ct us l => by
    match us, l with
    | [a], _ => rfl)
  obtain ⟨d_init, F_init⟩ := S.a.def_ 22 (d := ⟨fun K => He.ma K (kC K) "__init__", "__init__", "Amount.__init__", defArgs (am 0), defBody (am 0), defScope (am 0), [.int 1], []⟩) rfl
  have FI : FunI K (He.ma K (kC K) "__init__") d_init := F_init
  obtain ⟨d_of, E_of⟩ := S.a.def_ 23 (d := pOf "staticmethod" "of" "Amount.of" 1) rfl
  have E_of : FunD K "of" "Amount.of" (defArgs (am 1)) (defBody (am 1)) (defScope (am 1)) [] [] (He5.wf K (kC K) "staticmethod" "of") d_of := E_of
  have F_of : Fun K "of" "Amount.of" (am 1) (He5.wf K (kC K) "staticmethod" "of") d_of := He5.fun_of E_of
  have b_of : Binds K d_of ["number"] [] := E_of.bindsN (ps := ["number"]) (fun kV doc pm an cdv ct us l => by
    match us, l with
    | [a], _ => rfl)
  obtain ⟨d_read, E_read⟩ := S.a.def_ 24 (d := pOf "staticmethod" "read" "Amount.read" 2) rfl
  have E_read : FunD K "read" "Amount.read" (defArgs (am 2)) (defBody (am 2)) (defScope (am 2)) [] [] (He5.wf K (kC K) "staticmethod" "read") d_read := E_read
  have F_read : Fun K "read" "Amount.read" (am 2) (He5.wf K (kC K) "staticmethod" "read") d_read := He5.fun_of E_read
  have b_read : Binds K d_read ["text"] [] := E_read.bindsN (ps := ["text"]) (fun kV doc pm an cdv ct us l => by
    match us, l with
    | [a], _ => rfl)
  obtain ⟨d_top, E_top⟩ := S.a.def_ 25 (d := pOf "property" "top" "Amount.top" 3) rfl
  have E_top : FunD K "top" "Amount.top" (defArgs (am 3)) (defBody (am 3)) (defScope (am 3)) [] [] (He5.wf K (kC K) "property" "top") d_top := E_top
  have F_top : Fun K "top" "Amount.top" (am 3) (He5.wf K (kC K) "property" "top") d_top := He5.fun_of E_top
  have b_top : Binds K d_top ["self"] [] := E_top.bindsN (ps := ["self"]) (fun kV doc pm an cdv ct us l => by
    match us, l with
    | [a], _ => rfl)
  obtain ⟨d_bottom, E_bottom⟩ := S.a.def_ 26 (d := pOf "property" "bottom" "Amount.bottom" 4) rfl
  have E_bottom : FunD K "bottom" "Amount.bottom" (defArgs (am 4)) (defBody (am 4)) (defScope (am 4)) [] [] (He5.wf K (kC K) "property" "bottom") d_bottom := E_bottom
  have F_bottom : Fun K "bottom" "Amount.bottom" (am 4) (He5.wf K (kC K) "property" "bottom") d_bottom := He5.fun_of E_bottom
  have b_bottom : Binds K d_bottom ["self"] [] := E_bottom.bindsN (ps := ["self"]) (fun kV doc pm an cdv ct us l => by
    match us, l with
    | [a], _ => rfl)
  obtain ⟨d_sign, E_sign⟩ := S.a.def_ 27 (d := pOf "property" "sign" "Amount.sign" 5) rfl
  have E_sign : FunD K "sign" "Amount.sign" (defArgs (am 5)) (defBody (am 5)) (defScope (am 5)) [] [] (He5.wf K (kC K) "property" "sign") d_sign := E_sign
  have F_sign : Fun K "sign" "Amount.sign" (am 5) (He5.wf K (kC K) "property" "sign") d_sign := He5.fun_of E_sign
  have b_sign : Binds K d_sign ["self"] [] := E_sign.bindsN (ps := ["self"]) (fun kV doc pm an cdv ct us l => by
    match us, l with
    | [a], _ => rfl)
  obtain ⟨d_add, E_add⟩ := S.a.def_ 28 (d := mOf "__add__" "Amount.__add__" 6) rfl
  have E_add : FunD K "__add__" "Amount.__add__" (defArgs (am 6)) (defBody (am 6)) (defScope (am 6)) [] [] (He.ma K (kC K) "__add__") d_add := E_add
  have F_add : Fun K "__add__" "Amount.__add__" (am 6) (He.ma K (kC K) "__add__") d_add := He5.fun_of E_add
  have b_add : Binds K d_add ["self", "other"] [] := E_add.bindsN (ps := ["self", "other"]) (fun kV doc pm an cdv ct us l => by
    match us, l with
    | [a, b], _ => rfl)
  obtain ⟨d_radd, E_radd⟩ := S.a.def_ 29 (d := mOf "__radd__" "Amount.__radd__" 7) rfl
  have E_radd : FunD K "__radd__" "Amount.__radd__" (defArgs (am 7)) (defBody (am 7)) (defScope (am 7)) [] [] (He.ma K (kC K) "__radd__") d_radd := E_radd
  have F_radd : Fun K "__radd__" "Amount.__radd__" (am 7) (He.ma K (kC K) "__radd__") d_radd := He5.fun_of E_radd
  have b_radd : Binds K d_radd ["self", "other"] [] := E_radd.bindsN (ps := ["self", "other"]) (fun kV doc pm an cdv ct us l => by
    match us, l with
    | [a, b], _ => rfl)
  obtain ⟨d_sub, E_sub⟩ := S.a.def_ 30 (d := mOf "__sub__" "Amount.__sub__" 8) rfl
  have E_sub : FunD K "__sub__" "Amount.__sub__" (defArgs (am 8)) (defBody (am 8)) (defScope (am 8)) [] [] (He.ma K (kC K) "__sub__") d_sub := E_sub
  have F_sub : Fun K "__sub__" "Amount.__sub__" (am 8) (He.ma K (kC K) "__sub__") d_sub := He5.fun_of E_sub
  have b_sub : Binds K d_sub ["self", "other"] [] := E_sub.bindsN (ps := ["self", "other"]) (fun kV doc pm an cdv ct us l => by
    match us, l with
    | [a, b], _ => rfl)
  obtain ⟨d_rsub, E_rsub⟩ := S.a.def_ 31 (d := mOf "__rsub__" "Amount.__rsub__" 9) rfl
  have E_rsub : FunD K "__rsub__" "Amount.__rsub__" (defArgs (am 9)) (defBody (am 9)) (defScope (am 9)) [] [] (He.ma K (kC K) "__rsub__") d_rsub := E_rsub
  have F_rsub : Fun K "__rsub__" "Amount.__rsub__" (am 9) (He.ma K (kC K) "__rsub__") d_rsub := He5.fun_of E_rsub
  have b_rsub : Binds K d_rsub ["self", "other"] [] := E_rsub.bindsN (ps := ["self", "other"]) (fun kV doc pm an cdv ct us l => by
    match us, l with
    | [a, b], _ => rfl)
  obtain ⟨d_mul, E_mul⟩ := S.a.def_ 32 (d := mOf "__mul__" "Amount.__mul__" 10) rfl
  have E_mul : FunD K "__mul__" "Amount.__mul__" (defArgs (am 10)) (defBody (am 10)) (defScope (am 10)) [] [] (He.ma K (kC K) "__mul__") d_mul := E_mul
  have F_mul : Fun K "__mul__" "Amount.__mul__" (am 10) (He.ma K (kC K) "__mul__") d_mul := He5.fun_of E_mul
  have b_mul : Binds K d_mul ["self", "other"] [] := E_mul.bindsN (ps := ["self", "other"]) (fun kV doc pm an cdv ct us l => by
    match us, l with
    | [a, b], _ => rfl)
  obtain ⟨d_rmul, E_rmul⟩ := S.a.def_ 33 (d := mOf "__rmul__" "Amount.__rmul__" 11) rfl
  have E_rmul : FunD K "__rmul__" "Amount.__rmul__" (defArgs (am 11)) (defBody (am 11)) (defScope (am 11)) [] [] (He.ma K (kC K) "__rmul__") d_rmul := E_rmul
  have F_rmul : Fun K "__rmul__" "Amount.__rmul__" (am 11) (He.ma K (kC K) "__rmul__") d_rmul := He5.fun_of E_rmul
  have b_rmul : Binds K d_rmul ["self", "other"] [] := E_rmul.bindsN (ps := ["self", "other"]) (fun kV doc pm an cdv ct us l => by
    match us, l with
    | [a, b], _ => rfl)
  obtain ⟨d_over, E_over⟩ := S.a.def_ 34 (d := mOf "over" "Amount.over" 12) rfl
  have E_over : FunD K "over" "Amount.over" (defArgs (am 12)) (defBody (am 12)) (defScope (am 12)) [] [] (He.ma K (kC K) "over") d_over := E_over
  have F_over : Fun K "over" "Amount.over" (am 12) (He.ma K (kC K) "over") d_over := He5.fun_of E_over
  have b_over : Binds K d_over ["self", "other"] [] := E_over.bindsN (ps := ["self", "other"]) (fun kV doc pm an cdv ct us l => by
    match us, l with
    | [a, b], _ => rfl)
  obtain ⟨d_floordiv, E_floordiv⟩ := S.a.def_ 35 (d := mOf "__floordiv__" "Amount.__floordiv__" 13) rfl
  have E_floordiv : FunD K "__floordiv__" "Amount.__floordiv__" (defArgs (am 13)) (defBody (am 13)) (defScope (am 13)) [] [] (He.ma K (kC K) "__floordiv__") d_floordiv := E_floordiv
  have F_floordiv : Fun K "__floordiv__" "Amount.__floordiv__" (am 13) (He.ma K (kC K) "__floordiv__") d_floordiv := He5.fun_of E_floordiv
  have b_floordiv : Binds K d_floordiv ["self", "other"] [] := E_floordiv.bindsN (ps := ["self", "other"]) (fun kV doc pm an cdv ct us l => by
    match us, l with
    | [a, b], _ => rfl)
  obtain ⟨d_rfloordiv, E_rfloordiv⟩ := S.a.def_ 36 (d := mOf "__rfloordiv__" "Amount.__rfloordiv__" 14) rfl
  have E_rfloordiv : FunD K "__rfloordiv__" "Amount.__rfloordiv__" (defArgs (am 14)) (defBody (am 14)) (defScope (am 14)) [] [] (He.ma K (kC K) "__rfloordiv__") d_rfloordiv := E_rfloordiv
  have F_rfloordiv : Fun K "__rfloordiv__" "Amount.__rfloordiv__" (am 14) (He.ma K (kC K) "__rfloordiv__") d_rfloordiv := He5.fun_of E_rfloordiv
  have b_rfloordiv : Binds K d_rfloordiv ["self", "other"] [] := E_rfloordiv.bindsN (ps := ["self", "other"]) (fun kV doc pm an cdv ct us l => by
    match us, l with
    | [a, b], _ => rfl)
  obtain ⟨d_mod, E_mod⟩ := S.a.def_ 37 (d := mOf "__mod__" "Amount.__mod__" 15) rfl
  have E_mod : FunD K "__mod__" "Amount.__mod__" (defArgs (am 15)) (defBody (am 15)) (defScope (am 15)) [] [] (He.ma K (kC K) "__mod__") d_mod := E_mod
  have F_mod : Fun K "__mod__" "Amount.__mod__" (am 15) (He.ma K (kC K) "__mod__") d_mod := He5.fun_of E_mod
  have b_mod : Binds K d_mod ["self", "other"] [] := E_mod.bindsN (ps := ["self", "other"]) (fun kV doc pm an cdv ct us l => by
    match us, l with
    | [a, b], _ => rfl)
  obtain ⟨d_rmod, E_rmod⟩ := S.a.def_ 38 (d := mOf "__rmod__" "Amount.__rmod__" 16) rfl
  have E_rmod : FunD K "__rmod__" "Amount.__rmod__" (defArgs (am 16)) (defBody (am 16)) (defScope (am 16)) [] [] (He.ma K (kC K) "__rmod__") d_rmod := E_rmod
  have F_rmod : Fun K "__rmod__" "Amount.__rmod__" (am 16) (He.ma K (kC K) "__rmod__") d_rmod := He5.fun_of E_rmod
  have b_rmod : Binds K d_rmod ["self", "other"] [] := E_rmod.bindsN (ps := ["self", "other"]) (fun kV doc pm an cdv ct us l => by
    match us, l with
    | [a, b], _ => rfl)
  obtain ⟨d_pow, E_pow⟩ := S.a.def_ 39 (d := mOf "__pow__" "Amount.__pow__" 17) rfl
  have E_pow : FunD K "__pow__" "Amount.__pow__" (defArgs (am 17)) (defBody (am 17)) (defScope (am 17)) [] [] (He.ma K (kC K) "__pow__") d_pow := E_pow
  have F_pow : Fun K "__pow__" "Amount.__pow__" (am 17) (He.ma K (kC K) "__pow__") d_pow := He5.fun_of E_pow
  have b_pow : Binds K d_pow ["self", "other"] [] := E_pow.bindsN (ps := ["self", "other"]) (fun kV doc pm an cdv ct us l => by
    match us, l with
    | [a, b], _ => rfl)
  obtain ⟨d_neg, E_neg⟩ := S.a.def_ 40 (d := mOf "__neg__" "Amount.__neg__" 18) rfl
  have E_neg : FunD K "__neg__" "Amount.__neg__" (defArgs (am 18)) (defBody (am 18)) (defScope (am 18)) [] [] (He.ma K (kC K) "__neg__") d_neg := E_neg
  have F_neg : Fun K "__neg__" "Amount.__neg__" (am 18) (He.ma K (kC K) "__neg__") d_neg := He5.fun_of E_neg
  have b_neg : Binds K d_neg ["self"] [] := E_neg.bindsN (ps := ["self"]) (fun kV doc pm an cdv ct us l => by
    match us, l with
    | [a], _ => rfl)
  obtain ⟨d_eq, E_eq⟩ := S.a.def_ 41 (d := mOf "__eq__" "Amount.__eq__" 21) rfl
  have E_eq : FunD K "__eq__" "Amount.__eq__" (defArgs (am 21)) (defBody (am 21)) (defScope (am 21)) [] [] (He.ma K (kC K) "__eq__") d_eq := E_eq
  have F_eq : Fun K "__eq__" "Amount.__eq__" (am 21) (He.ma K (kC K) "__eq__") d_eq := He5.fun_of E_eq
  have b_eq : Binds K d_eq ["self", "other"] [] := E_eq.bindsN (ps := ["self", "other"]) (fun kV doc pm an cdv ct us l => by
    match us, l with
    | [a, b], _ => rfl)
  obtain ⟨d_lt, E_lt⟩ := S.a.def_ 42 (d := mOf "__lt__" "Amount.__lt__" 22) rfl
  have E_lt : FunD K "__lt__" "Amount.__lt__" (defArgs (am 22)) (defBody (am 22)) (defScope (am 22)) [] [] (He.ma K (kC K) "__lt__") d_lt := E_lt
  have F_lt : Fun K "__lt__" "Amount.__lt__" (am 22) (He.ma K (kC K) "__lt__") d_lt := He5.fun_of E_lt
  have b_lt : Binds K d_lt ["self", "other"] [] := E_lt.bindsN (ps := ["self", "other"]) (fun kV doc pm an cdv ct us l => by
    match us, l with
    | [a, b], _ => rfl)
  obtain ⟨d_le, E_le⟩ := S.a.def_ 43 (d := mOf "__le__" "Amount.__le__" 23) rfl
  have E_le : FunD K "__le__" "Amount.__le__" (defArgs (am 23)) (defBody (am 23)) (defScope (am 23)) [] [] (He.ma K (kC K) "__le__") d_le := E_le
  have F_le : Fun K "__le__" "Amount.__le__" (am 23) (He.ma K (kC K) "__le__") d_le := He5.fun_of E_le
  have b_le : Binds K d_le ["self", "other"] [] := E_le.bindsN (ps := ["self", "other"]) (fun kV doc pm an cdv ct us l => by
    match us, l with
    | [a, b], _ => rfl)
  obtain ⟨d_gt, E_gt⟩ := S.a.def_ 44 (d := mOf "__gt__" "Amount.__gt__" 24) rfl
  have E_gt : FunD K "__gt__" "Amount.__gt__" (defArgs (am 24)) (defBody (am 24)) (defScope (am 24)) [] [] (He.ma K (kC K) "__gt__") d_gt := E_gt
  have F_gt : Fun K "__gt__" "Amount.__gt__" (am 24) (He.ma K (kC K) "__gt__") d_gt := He5.fun_of E_gt
  have b_gt : Binds K d_gt ["self", "other"] [] := E_gt.bindsN (ps := ["self", "other"]) (fun kV doc pm an cdv ct us l => by
    match us, l with
    | [a, b], _ => rfl)
  obtain ⟨d_ge, E_ge⟩ := S.a.def_ 45 (d := mOf "__ge__" "Amount.__ge__" 25) rfl
  have E_ge : FunD K "__ge__" "Amount.__ge__" (defArgs (am 25)) (defBody (am 25)) (defScope (am 25)) [] [] (He.ma K (kC K) "__ge__") d_ge := E_ge
  have F_ge : Fun K "__ge__" "Amount.__ge__" (am 25) (He.ma K (kC K) "__ge__") d_ge := He5.fun_of E_ge
  have b_ge : Binds K d_ge ["self", "other"] [] := E_ge.bindsN (ps := ["self", "other"]) (fun kV doc pm an cdv ct us l => by
    match us, l with
    | [a, b], _ => rfl)
  obtain ⟨d_str, E_str⟩ := S.a.def_ 46 (d := mOf "__str__" "Amount.__str__" 26) rfl
  have E_str : FunD K "__str__" "Amount.__str__" (defArgs (am 26)) (defBody (am 26)) (defScope (am 26)) [] [] (He.ma K (kC K) "__str__") d_str := E_str
  have F_str : Fun K "__str__" "Amount.__str__" (am 26) (He.ma K (kC K) "__str__") d_str := He5.fun_of E_str
  have b_str : Binds K d_str ["self"] [] := E_str.bindsN (ps := ["self"]) (fun kV doc pm an cdv ct us l => by
    match us, l with
    | [a], _ => rfl)
  obtain ⟨d_repr, E_repr⟩ := S.a.def_ 47 (d := mOf "__repr__" "Amount.__repr__" 27) rfl
  have E_repr : FunD K "__repr__" "Amount.__repr__" (defArgs (am 27)) (defBody (am 27)) (defScope (am 27)) [] [] (He.ma K (kC K) "__repr__") d_repr := E_repr
  have F_repr : Fun K "__repr__" "Amount.__repr__" (am 27) (He.ma K (kC K) "__repr__") d_repr := He5.fun_of E_repr
  have b_repr : Binds K d_repr ["self"] [] := E_repr.bindsN (ps := ["self"]) (fun kV doc pm an cdv ct us l => by
    match us, l with
    | [a], _ => rfl)
  obtain ⟨d_rounded, E_rounded⟩ := S.a.def_ 48 (d := mOf "rounded" "Amount.rounded" 28) rfl
  have E_rounded : FunD K "rounded" "Amount.rounded" (defArgs (am 28)) (defBody (am 28)) (defScope (am 28)) [] [] (He.ma K (kC K) "rounded") d_rounded := E_rounded
  have F_rounded : Fun K "rounded" "Amount.rounded" (am 28) (He.ma K (kC K) "rounded") d_rounded := He5.fun_of E_rounded
  have b_rounded : Binds K d_rounded ["self", "places"] [] := E_rounded.bindsN (ps := ["self", "places"]) (fun kV doc pm an cdv ct us l => by
    match us, l with
    | [a, b], _ => rfl)
  obtain ⟨bI, bI1, bIk⟩ := init_binds FI
  have kRnd := kb_round E_rounded
  have kRead := kb_read E_read
  have FC_l_parts_right : FunC K "_law_parts_right" "_law_parts_right" (top 28) (He.ga K "_law_parts_right") (He.cT K ("_law_parts_right", none)).1 d_l_parts_right := by
    obtain ⟨oc, od, dV, kV, doc, pm, an, cdv, ct, osl, e, lk, code, dfl, _⟩ := E_l_parts_right.ex
    obtain ⟨c, rfl⟩ := He.codeIn_ref code
    have hc : He.codeOf K ("_law_parts_right", none) = c := He.codeOf_eq (p := ("_law_parts_right", none)) lk (by rw [e])
    have hc2 : (He.cT K ("_law_parts_right", none)).1 = c := hc
    have ed : dV = .none := by
      rcases dfl with ⟨_, e⟩ | ⟨e, _⟩
      · exact e
      · exact absurd rfl e
    subst ed
    rw [hc2]
    exact ⟨⟨oc, od, kV, doc, pm, an, ct, osl, e, lk, code⟩, E_l_parts_right.kp⟩
  have FC_l_left_right : FunC K "_law_left_right" "_law_left_right" (top 29) (He.ga K "_law_left_right") (He.cT K ("_law_left_right", none)).1 d_l_left_right := by
    obtain ⟨oc, od, dV, kV, doc, pm, an, cdv, ct, osl, e, lk, code, dfl, _⟩ := E_l_left_right.ex
    obtain ⟨c, rfl⟩ := He.codeIn_ref code
    have hc : He.codeOf K ("_law_left_right", none) = c := He.codeOf_eq (p := ("_law_left_right", none)) lk (by rw [e])
    have hc2 : (He.cT K ("_law_left_right", none)).1 = c := hc
    have ed : dV = .none := by
      rcases dfl with ⟨_, e⟩ | ⟨e, _⟩
      · exact e
      · exact absurd rfl e
    subst ed
    rw [hc2]
    exact ⟨⟨oc, od, kV, doc, pm, an, ct, osl, e, lk, code⟩, E_l_left_right.kp⟩
  have FC_l_right_right : FunC K "_law_right_right" "_law_right_right" (top 30) (He.ga K "_law_right_right") (He.cT K ("_law_right_right", none)).1 d_l_right_right := by
    obtain ⟨oc, od, dV, kV, doc, pm, an, cdv, ct, osl, e, lk, code, dfl, _⟩ := E_l_right_right.ex
    obtain ⟨c, rfl⟩ := He.codeIn_ref code
    have hc : He.codeOf K ("_law_right_right", none) = c := He.codeOf_eq (p := ("_law_right_right", none)) lk (by rw [e])
    have hc2 : (He.cT K ("_law_right_right", none)).1 = c := hc
    have ed : dV = .none := by
      rcases dfl with ⟨_, e⟩ | ⟨e, _⟩
      · exact e
      · exact absurd rfl e
    subst ed
    rw [hc2]
    exact ⟨⟨oc, od, kV, doc, pm, an, ct, osl, e, lk, code⟩, E_l_right_right.kp⟩
  have FC_l_refused_right : FunC K "_law_refused_right" "_law_refused_right" (top 31) (He.ga K "_law_refused_right") (He.cT K ("_law_refused_right", none)).1 d_l_refused_right := by
    obtain ⟨oc, od, dV, kV, doc, pm, an, cdv, ct, osl, e, lk, code, dfl, _⟩ := E_l_refused_right.ex
    obtain ⟨c, rfl⟩ := He.codeIn_ref code
    have hc : He.codeOf K ("_law_refused_right", none) = c := He.codeOf_eq (p := ("_law_refused_right", none)) lk (by rw [e])
    have hc2 : (He.cT K ("_law_refused_right", none)).1 = c := hc
    have ed : dV = .none := by
      rcases dfl with ⟨_, e⟩ | ⟨e, _⟩
      · exact e
      · exact absurd rfl e
    subst ed
    rw [hc2]
    exact ⟨⟨oc, od, kV, doc, pm, an, ct, osl, e, lk, code⟩, E_l_refused_right.kp⟩
  have FC_l_texts_right : FunC K "_law_texts_right" "_law_texts_right" (top 35) (He.ga K "_law_texts_right") (He.cT K ("_law_texts_right", none)).1 d_l_texts_right := by
    obtain ⟨oc, od, dV, kV, doc, pm, an, cdv, ct, osl, e, lk, code, dfl, _⟩ := E_l_texts_right.ex
    obtain ⟨c, rfl⟩ := He.codeIn_ref code
    have hc : He.codeOf K ("_law_texts_right", none) = c := He.codeOf_eq (p := ("_law_texts_right", none)) lk (by rw [e])
    have hc2 : (He.cT K ("_law_texts_right", none)).1 = c := hc
    have ed : dV = .none := by
      rcases dfl with ⟨_, e⟩ | ⟨e, _⟩
      · exact e
      · exact absurd rfl e
    subst ed
    rw [hc2]
    exact ⟨⟨oc, od, kV, doc, pm, an, ct, osl, e, lk, code⟩, E_l_texts_right.kp⟩
  refine ⟨gw _ (by decide +kernel), d_law, fun s v => E_law.bindsA (ps := ["_law_script"]) (fun kV doc pm an cdv ct us l => by
    match us, l with
    | [a], _ => rfl) s [v] rfl, fun base XB GB nb TB => ?_⟩
  have tabs := fun {r : He.Defn × Str} (h : r ∈ tl5) => tab_of (M := fun c p => LamX.TabB base mg c p) S.di TB h
  have tqs := fun {r : He.Defn × Str} (h : r ∈ tl5) => tq1_of (K := K) S.di h
  have DW : Dn P w K mg base CX0 1 "is_whole" ["value"] spWhole := ⟨_, d_is_whole, ok_whole fr F_is_whole, gw _ (by decide +kernel), F_is_whole.kp, b_is_whole⟩
  have DC : Dn P w K mg base CX0 2 "is_count" ["value"] spCount := ⟨_, d_is_count, ok_count DW F_is_count, gw _ (by decide +kernel), F_is_count.kp, b_is_count⟩
  have oI : FnOk P w K mg base CX0 2 (He.ma K (kC K) "__init__") d_init ["self", "top", "bottom"] (spInit (kC K)) := ok_init T DW mG FI
  have B : Base P w K mg base (kC K) := ⟨T, gA, ⟨_, d_init, mMk, oI, bI, bI1⟩, ⟨_, _, d_top, prp "top" (by decide), ok_top T F_top, b_top⟩, ⟨_, _, d_bottom, prp "bottom" (by decide), ok_bot T F_bottom, b_bottom⟩, ⟨_, _, d_sign, prp "sign" (by decide), ok_sgn T F_sign, b_sign⟩⟩
  have oOf := ok_of fr B T2 F_of
  have O : Of P w K mg base (kC K) := ⟨⟨_, _, _, d_of, cr, sm, oOf, b_of⟩⟩
  have N : Neg P w K mg base (kC K) := ⟨⟨_, d_neg, (una "__neg__" (by decide)).1, (una "__neg__" (by decide)).2, ok_neg T B F_neg, b_neg⟩⟩
  have Rp : Rep P w K mg base (kC K) := ⟨⟨_, d_repr, (una "__repr__" (by decide)).1, (una "__repr__" (by decide)).2, ok_repr nb fr T F_repr, b_repr⟩⟩
  have st : Una P w K mg base (kC K) "__str__" 1 (spText (kC K) written) := ⟨⟨_, d_str, (una "__str__" (by decide)).1, (una "__str__" (by decide)).2, ok_str nb fr T F_str, b_str⟩⟩
  have BAdd := bin "add" (by decide)
  have BSub := bin "sub" (by decide)
  have BMul := bin "mul" (by decide)
  have BDiv := bin "floordiv" (by decide)
  have BMod := bin "mod" (by decide)
  have BPow := bin_no x2
  have OA : Op P w K mg base (kC K) (Operator.Add).info.2 5 fun q p => q + p := ⟨⟨_, _, d_add, _, BAdd, ok_add B O F_add, b_add⟩⟩
  have OS : Op P w K mg base (kC K) (Operator.Sub).info.2 6 fun q p => q - p := ⟨⟨_, _, d_sub, _, BSub, ok_sub B O N OA F_sub, b_sub⟩⟩
  have LD : DnD P w K mg base := ⟨_, d_l_draw, ok_draw fr F_l_draw, gw _ (by decide +kernel), F_l_draw.kp, b_l_draw⟩
  have LP : DnP P w K mg base := ⟨_, d_l_pick, ok_pick fr LD F_l_pick, gw _ (by decide +kernel), F_l_pick.kp, b_l_pick⟩
  have LL : DnL P w K mg base := ⟨_, d_l_lowest, ok_low fr F_l_lowest, gw _ (by decide +kernel), F_l_lowest.kp, b_l_lowest⟩
  have L0 : Dn P w K mg base CX0 1 "_law_pot" ["_law_script", "_law_k"] (spPot K) := ⟨_, d_l_pot, ok_pot fr F_l_pot, gw _ (by decide +kernel), F_l_pot.kp, b_l_pot⟩
  have RU : RepU P w K mg base (kC K) := ⟨⟨_, d_repr, (una "__repr__" (by decide)).1, (una "__repr__" (by decide)).2, ok_reprU T F_repr, b_repr⟩⟩
  have DWO : Dn P w K mg base CX0 1 "is_whole" ["value"] spWholeO := ⟨_, d_is_whole, ok_wholeO fr F_is_whole, gw _ (by decide +kernel), F_is_whole.kp, b_is_whole⟩
  have DWN : Dn P w K mg base CX0 1 "is_whole" ["value"] (spWholeN (kC K)) := ⟨_, d_is_whole, ok_wholeN fr kn F_is_whole, gw _ (by decide +kernel), F_is_whole.kp, b_is_whole⟩
  have DCN : Dn P w K mg base CX0 2 "is_count" ["value"] (spWholeN (kC K)) := ⟨_, d_is_count, ok_countN DWN F_is_count, gw _ (by decide +kernel), F_is_count.kp, b_is_count⟩
  have DDig : Dn P w K mg base CX0 1 "_are_digits" ["text"] spDig := ⟨_, d_are_digits, ok_dig fr mD mM F_are_digits, gw _ (by decide +kernel), F_are_digits.kp, b_are_digits⟩
  have BO : BaseO P w K mg base (kC K) (kWA K) := ⟨gA, ⟨_, d_init, mMk, ok_initO DWO wrA FI, bI1⟩⟩
  have BN : BaseN P w K mg base (kC K) (kWA K) := ⟨gA, ⟨_, d_init, mMk, ok_initN DW DWN wrA FI, bI, bI1, bIk⟩⟩
  have OO : OfO P w K mg base (kC K) (kWA K) := ⟨gA, ⟨_, _, _, d_of, cr, sm, ok_ofO fr BO kc F_of, b_of⟩⟩
  have SO : SubO P w K mg base (kC K) (kWA K) := ⟨⟨_, _, d_sub, _, BSub, ok_subO OO F_sub, b_sub⟩⟩
  have VO : OverO P w K mg base (kC K) (kWA K) := ⟨⟨_, d_over, mOver, ok_overO OO F_over, b_over⟩⟩
  have b1 : BnO P w K mg base (kC K) (kWA K) (Operator.Add).info.2 := ⟨⟨_, _, d_add, _, d_radd, _, BAdd, (ok_addO OO F_add).mono (by decide), b_add, (ok_raddO OO F_radd).mono (by decide), b_radd⟩⟩
  have b2 : BnO P w K mg base (kC K) (kWA K) (Operator.Sub).info.2 := ⟨⟨_, _, d_sub, _, d_rsub, _, BSub, (ok_subO OO F_sub).mono (by decide), b_sub, (ok_rsubO OO F_rsub).mono (by decide), b_rsub⟩⟩
  have b3 : BnO P w K mg base (kC K) (kWA K) (Operator.Mult).info.2 := ⟨⟨_, _, d_mul, _, d_rmul, _, BMul, (ok_mulO OO F_mul).mono (by decide), b_mul, (ok_rmulO OO F_rmul).mono (by decide), b_rmul⟩⟩
  have b4 : BnO P w K mg base (kC K) (kWA K) (Operator.FloorDiv).info.2 := ⟨⟨_, _, d_floordiv, _, d_rfloordiv, _, BDiv, (ok_fdO cls VO F_floordiv).mono (by decide), b_floordiv, (ok_rfdO OO F_rfloordiv).mono (by decide), b_rfloordiv⟩⟩
  have b5 : BnO P w K mg base (kC K) (kWA K) (Operator.Mod).info.2 := ⟨⟨_, _, d_mod, _, d_rmod, _, BMod, (ok_modO OO F_mod).mono (by decide), b_mod, (ok_rmodO OO F_rmod).mono (by decide), b_rmod⟩⟩
  have rnn : RnN P w K mg base (kC K) (kWC K) := ⟨⟨_, d_rounded, mRnd, ok_rndN DC DCN wrC mQ F_rounded, b_rounded, kRnd⟩⟩
  have pwo : KC.PwO P w K mg base (kC K) (kWA K) := ⟨⟨_, _, d_pow, _, BPow, ok_powO DC wrA mP F_pow, b_pow⟩⟩
  have clt : CmpD P w K mg base (kC K) (kWA K) "__lt__" (fun q p => decide (q < p)) := ⟨⟨_, d_lt, (una "__lt__" (by decide)).1, (una "__lt__" (by decide)).2, ok_lt B OS F_lt, ok_ltO SO F_lt, b_lt⟩⟩
  have cle : CmpD P w K mg base (kC K) (kWA K) "__le__" (fun q p => decide (q ≤ p)) := ⟨⟨_, d_le, (una "__le__" (by decide)).1, (una "__le__" (by decide)).2, ok_le B OS F_le, ok_leO SO F_le, b_le⟩⟩
  have cgt : CmpD P w K mg base (kC K) (kWA K) "__gt__" (fun q p => decide (p < q)) := ⟨⟨_, d_gt, (una "__gt__" (by decide)).1, (una "__gt__" (by decide)).2, ok_gt B OS F_gt, ok_gtO SO F_gt, b_gt⟩⟩
  have cge : CmpD P w K mg base (kC K) (kWA K) "__ge__" (fun q p => decide (p ≤ q)) := ⟨⟨_, d_ge, (una "__ge__" (by decide)).1, (una "__ge__" (by decide)).2, ok_ge B OS F_ge, ok_geO SO F_ge, b_ge⟩⟩
  have fo : KC.Fo P w K mg base (kC K) (kWA K) := ⟨pl, clt, cle, cgt, cge⟩
  have eqO : EqO P w K mg base (kC K) := ⟨⟨_, d_eq, (una "__eq__" (by decide)).1, (una "__eq__" (by decide)).2, ok_eqO fr gA kc F_eq T, b_eq, "object", [.type "object"], PySem.F.cmp_object, fun h x dx X hx => eqc_ok x7 (una "__eq__" (by decide)).2 h x dx X hx⟩⟩
  have tol : KC.Tol K mg := ⟨⟨_, d_l_told, F_l_told, gw _ (by decide +kernel), b_l_told⟩⟩
  have rd : RdS P w K mg base (kC K) (kWT K) := ⟨gA, ⟨_, _, _, d_read, cr, smR, ok_read fr B st DDig wrT F_read, ok_readO fr kn wrT F_read, b_read, kRead⟩⟩
  have LG : Dn P w K mg base CX0 2 "_law_great" ["_law_pot_here"] spGreat := ⟨_, d_l_great, ok_great LD F_l_great, gw _ (by decide +kernel), F_l_great.kp, b_l_great⟩
  have LT : Dn P w K mg base CX0 3 "_law_part" ["_law_pot_here"] (spPart K) := ⟨_, d_l_part, ok_part LP LG LL F_l_part, gw _ (by decide +kernel), F_l_part.kp, b_l_part⟩
  have LW : Dn P w K mg base CX0 1 "_law_written" ["_law_part_here"] (spTxt K written) := ⟨_, d_l_written, KC.ok_written nb fr F_l_written, gw _ (by decide +kernel), F_l_written.kp, b_l_written⟩
  have LO : Dn P w K mg base CX0 3 "_law_odd" ["_law_pot_here"] spOdd := ⟨_, d_l_odd, KC.ok_odd LP F_l_odd, gw _ (by decide +kernel), F_l_odd.kp, b_l_odd⟩
  have LPS : Dn P w K mg base CX0 2 "_law_pick" ["_law_pot_here", "_law_some"] spPickS := ⟨_, d_l_pick, ok_pickS fr LD F_l_pick, gw _ (by decide +kernel), F_l_pick.kp, b_l_pick⟩
  have LB : Dn P w K mg base CX0 3 "_law_bent" ["_law_pot_here", "_law_wording"] spBent := ⟨_, d_l_bent, ok_bent fr LD LP LPS F_l_bent, gw _ (by decide +kernel), F_l_bent.kp, b_l_bent⟩
  have LC : Dn P w K mg base CX0 1 "_law_is_count" ["_law_wording"] spCnt := ⟨_, d_l_is_count, ok_cnt fr F_l_is_count, gw _ (by decide +kernel), F_l_is_count.kp, b_l_is_count⟩
  have LF : Dn P w K mg base CX0 2 "_law_fraction_in" ["_law_wording"] spFr := ⟨_, d_l_fraction_in, ok_fr fr LC LL LW F_l_fraction_in, gw _ (by decide +kernel), F_l_fraction_in.kp, b_l_fraction_in⟩
  have lr : KC.Lr P w K mg base (kC K) (kWA K) (kWC K) (kWT K) (kZF K) := ⟨fr, cls, Rp, RU, tq, tol, fo, b1, b2, b3, b4, b5, VO⟩
  have G1 : DnG P w K mg base 10 "_law_left_right" ["_law_made", "_law_odd_here"] (spLr (kC K) (TT5 K)) := ⟨_, d_l_left_right, ok_Lf lr (tabs (r := (("_law_left_right", none), "_law_left_right.<locals>.<lambda>")) (by decide +kernel)) (tqs (r := (("_law_left_right", none), "_law_left_right.<locals>.<lambda>")) (by decide +kernel)) FC_l_left_right, gw _ (by decide +kernel), F_l_left_right.kp, b_l_left_right⟩
  have G2 : DnG P w K mg base 10 "_law_right_right" ["_law_made", "_law_odd_here"] (spLr (kC K) (TT5 K)) := ⟨_, d_l_right_right, ok_Rg lr (tabs (r := (("_law_right_right", none), "_law_right_right.<locals>.<lambda>")) (by decide +kernel)) (tqs (r := (("_law_right_right", none), "_law_right_right.<locals>.<lambda>")) (by decide +kernel)) FC_l_right_right, gw _ (by decide +kernel), F_l_right_right.kp, b_l_right_right⟩
  have G3 : DnG P w K mg base 10 "_law_parts_right" ["_law_pot_here"] (spPT (TT5 K)) := ⟨_, d_l_parts_right, ok_Pr ⟨fr, B, Rp, RU, tq, tol, BN, OO, LP, LT, LO⟩ (tabs (r := (("_law_parts_right", none), "_law_parts_right.<locals>.<lambda>")) (by decide +kernel)) (tqs (r := (("_law_parts_right", none), "_law_parts_right.<locals>.<lambda>")) (by decide +kernel)) FC_l_parts_right, gw _ (by decide +kernel), F_l_parts_right.kp, b_l_parts_right⟩
  have G4 : DnG P w K mg base 11 "_law_refused_right" ["_law_pot_here"] (spPT (TT5 K)) := ⟨_, d_l_refused_right, ok_Rf ⟨fr, B, Rp, RU, tq, tol, LP, LT, LO, eqO, pwo, rnn, G1, G2⟩ (tabs (r := (("_law_refused_right", none), "_law_refused_right.<locals>.<lambda>")) (by decide +kernel)) (tqs (r := (("_law_refused_right", none), "_law_refused_right.<locals>.<lambda>")) (by decide +kernel)) FC_l_refused_right, gw _ (by decide +kernel), F_l_refused_right.kp, b_l_refused_right⟩
  have G5 : DnG P w K mg base 10 "_law_texts_right" ["_law_pot_here"] (spPT (TT5 K)) := ⟨_, d_l_texts_right, ok_Tx ⟨fr, nb, B, st, Rp, RU, tq, tol, rd, LP, LL, LT, LW, LB, LF⟩ (tabs (r := (("_law_texts_right", none), "_law_texts_right.<locals>.<lambda>")) (by decide +kernel)) (tqs (r := (("_law_texts_right", none), "_law_texts_right.<locals>.<lambda>")) (by decide +kernel)) FC_l_texts_right, gw _ (by decide +kernel), F_l_texts_right.kp, b_l_texts_right⟩
  have G6 : DnG P w K mg base 12 "_law_right" ["_law_pot_here"] (spPT (TT5 K)) := ⟨_, d_l_right, ok_right G3 G4 G5 F_l_right, gw _ (by decide +kernel), F_l_right.kp, b_l_right⟩
  exact KC.ok_law fr LF L0 G6 F_law
end KB

set_option Elab.async false
set_option linter.all false
set_option maxRecDepth 100000
set_option maxHeartbeats 0
namespace KB
open PySem PySem.W PySem.Calls PyProof.Rows
abbrev qv : Program := view R.prog [0, 37]
abbrev dL : DefRec := HandSHeadRun.topDef R.prog 37
theorem g3 : defOf qv R.name = some (dL, []) := by kernel_rfl
theorem g4 : R.prog.theDef R.name = some (dL.params, dL.body, dL.scope) := by kernel_rfl
theorem g5 : kwWritten? dL.params.kwonlyargs dL.params.kw_defaults = some [] := by kernel_rfl
theorem g6 : (!R.writes || R.records.isEmpty) = true := by rfl
theorem g7 : R.wellSaid = true := by decide +kernel
theorem g8 : (chainsOk qv && opensWell R.prog && (frees R.toRowW && R.within.isEmpty)) = true := by decide +kernel
theorem g9 : R.prog.bare := ⟨rfl, rfl, rfl, rfl, rfl, by decide +kernel⟩
set_option maxHeartbeats 8000000 in
theorem gwi : R.toRowW.promised := by w_witness2
theorem tt5 {K : PySem.W.Frag} {M : Addr → Addr → Prop} (di : diB K = true) (H : ∀ r ∈ tf, M (He.cT K r).2 (He.cT K r).1) : ∀ p ∈ (TT5 K).map (·.1), M p (cf K p) := by
  intro p hp
  obtain ⟨x, hx, rfl⟩ := List.mem_map.mp hp
  obtain ⟨r, hr, rfl⟩ := List.mem_map.mp hx
  show M (He.cT K r.1).2 (cf K (He.cT K r.1).2)
  rw [cf_eq di hr]
  exact H r.1 (show r.1 ∈ tl5.map (·.1) from List.mem_map_of_mem (f := (·.1)) hr)
set_option maxHeartbeats 8000000 in
theorem gcl : WalkO qv loose (XL qv []) hk.says R.toRowW dL [] fun f vs => PySem.call f vs := by
  refine Gd.walkGTs (l := PySem.Challenge.rw_keptlast_k13_amounts_refused_and_read) (n := 63) (k := 13) (x := "_law_script") rfl (by decide) (by kernel_rfl) ⟨rfl, by decide, by decide⟩ ?F
  intro w mg f h Y G hmg0
  obtain ⟨K, KX, c⟩ := Y
  have hmg : mg ("law" : PySem.Str) = some (.ref f) := by
    have e : dL.name = ("law" : PySem.Str) := by kernel_rfl
    rw [← e]
    exact hmg0
  obtain ⟨gL, fd, hb, hF⟩ := KB.facts (P := (PySem.Challenge.rw_keptlast_k13_amounts_refused_and_read).prog) (w := w) KX G c
  have e2 : f = He.ga K "law" := by
    have z := hmg.symm.trans gL
    injection z with z
    injection z
  subst e2
  refine ⟨K, fd, KC.spLaw K (TT5 K), cf K, TT5 K, KX, fun p hp => ?e, fun p hp => ?o, fun p hp => ?h, hb, fun H a ns hl hT hS => ⟨a, ns, rfl, hl, hS, hT, fun _ => rfl⟩, hF⟩
  case e => exact tt5 (M := fun p _ => h.get? p = some Gd.noTab) c.di (fun r hr => c.emp r hr) p hp
  case o => exact tt5 (M := fun p _ => K.lookup p = none) c.di (fun r hr => c.out r hr) p hp
  case h => exact PySem.W.codeHd_of_K KX (tt5 (M := fun p a => PySem.W.codeHdIn K a p = true) c.di (fun r hr => c.hd r hr) p hp)
end KB
open PySem PySem.W PySem.Calls PyProof.Rows
set_option maxRecDepth 100000 in
set_option maxHeartbeats 8000000 in
theorem PySem.Challenge.cw_keptlast_k13_amounts_refused_and_read_holds : PySem.Challenge.rw_keptlast_k13_amounts_refused_and_read.Holds := by
  w_on; o_law
  exact HandSHeadRun.head_imp (r := KB.R) (q := KB.qv) (H := KB.hk) (ob := KB.ob) (M := 20000) (loose := KB.loose) (d := KB.dL) (kwd := []) KB.ob_eq KB.run KB.g3 KB.g4 KB.g5 KB.g6 KB.g7 KB.g8 KB.g9 KB.gwi KB.gcl
