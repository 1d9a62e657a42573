import PyProof.Rows.All
import HandS.Words
import HandS.Ends
import HandS.Head0
import HandS.Head1
import HandS.Head2
import HandS.Head3
import HandS.HeadEnd
import HandS.HeadHook1
import HandS.HeadHook2
import HandS.HeadHook3
import HandS.HeadHook4
import HandS.HeadNt
import KE.KStateDown
import Lean
import Wide.All
import OpenK.AllK
import Wide.FinOn
import PyProof.EqAt
import PyProof.EqKinds
import PyProof.TupleCall
import PyProof.ReprNest
import PyProof.ReprDict
import HandS.ForMost
import HandS.Exc
import HandS.Defaults
import HandS.ExcInit
import KE.KExcInit
import KE.KExcIs
import KE.KExcMake
import HandS.IsInst
import HandS.Wide
import HandS.WideBits
import HandS.Walk
import HandS.Flow
import HandS.Codes
import HandS.ExcOwn
import HandS.TryMany
import HandS.WordsExc
import KE.KOpsOwn
import HandS.Property
import HandS.Gcd
import HandS.More
import HandS.Slots
import HandS.SlotsOwn
import HandS.OwnEq
import KE.KCallOwn
import HandS.ClsMeth
import HandS.FStr
import HandS.StrMore
import KE.KIntText
import HandS.MakeKwOnly
import PyProof.StrOps2
import HandS.Style
import PyProof.InstNe
import HandS.ExcField
import HandS.Lambda
import KE.GoesMore
import PyProof.EnumMake
import HandS.Steps
import HandS.RaiseMore
import HandS.Small
import KE.SortData
import KE.SortKeyHeap
import HandS.SortKw
import HandS.TupAny
import HandS.DictComp
import HandS.Star
import HandS.Text
import PyProof.FitsReplace
import HandS.DictEq
import PyProof.StrLawsRepr
import HandS.ListItems
import PyProof.StrLawsAffix
import HandS.MakeKw
import HandS.EndBits
import PySem.Challenge.RW_keptlast_k14_rules_by_parts
set_option Elab.async false
set_option linter.all false
set_option maxRecDepth 100000
set_option maxHeartbeats 0
namespace Gd
open PySem PySem.Spec L2
/-- built-ins that no text of ours hides -/
def frees : List Str := ["abs", "max", "min", "len", "int", "divmod", "range", "tuple", "isinstance", "repr", "all", "any", "str", "bool", "list", "dict", "sorted", "enumerate", "zip", "sum", "ValueError", "LookupError", "RuntimeError", "ArithmeticError"]
end Gd
namespace KA
open PySem PySem.Spec PyProof.Rows L2 Gd
def top (i : Nat) : Stmt := PySem.Challenge.pw_keptlast_k14_rules_by_parts.main.body.getD i (.Pass ⟨0, 0, 0, 0⟩)
abbrev am (j : Nat) : Stmt := inClass (top 26) j
end KA
namespace KD
open PySem PySem.Spec PyProof.Rows L2 Gd KA
abbrev lo (j : Nat) : Stmt := inClass (top 32) j
abbrev tot (j : Nat) : Stmt := inClass (top 30) j
abbrev pro (j : Nat) : Stmt := inClass (top 31) j
end KD
namespace KB
open PySem PySem.Spec PyProof.Rows L2 Gd KA KD
/-! ### what the head's look says -/
abbrev kC (K : W.Frag) : Addr := He.ga K "Amount"
abbrev kR (K : W.Frag) : Addr := He.ga K "Rule"
abbrev kT (K : W.Frag) : Addr := He.ga K "Total"
abbrev kP (K : W.Frag) : Addr := He.ga K "Product"
abbrev kL (K : W.Frag) : Addr := He.ga K "Loose"
/-- the empty tuple that is a Product's default -/
abbrev kTP : W.Frag → Addr := He.dflAt ("Product", some "__init__") 0
def unaB (K : W.Frag) (C : Addr) (m : Str) : Bool := He.eqO (W.findIn K (.ref C) m) (some (some (.ref (He.ma K C m)))) && W.isFn K (.ref (He.ma K C m))
def propB (K : W.Frag) (C : Addr) (m : Str) : Bool := He.eqO (W.findIn K (.ref C) m) (some (some (.ref (He.ma K C m)))) && (He.eqO (W.specialIn K (.ref (He.ma K C m)) "__get__") (some (some (.builtin "property.__get__"))) &&
  (decide (W.takesIn K (.ref (He.ma K C m)) = some true) && (match W.recIn K (He.ma K C m) "property" with
    | some (.ref _ :: _) => true
    | _ => false)))
def statB (K : W.Frag) (C : Addr) (m : Str) : Bool := He5.wrapB K C "staticmethod" "staticmethod.__get__" m && (decide (W.typeIn K (.ref C) = some (.type "type")) && (W.keepIn K (.ref (He5.wf K C "staticmethod" m)) && (W.readsIn K C (.type "type") &&
  He.eqO (W.specialIn K (.ref C) "__getattribute__") (some (some (.builtin "type.__getattribute__"))))))
/-- an own == and no own != -/
def eqcB (K : W.Frag) (C : Addr) : Bool := match K.lookup C with
  | some ⟨.type t, _, .cls cd, sl⟩ => decide (t = "type") && (decide (cd.mro = [.ref C, .type "object"]) && (!cd.hasDel && ((match sl.toList with
      | [_, _, _, _, some (.builtin _), _] => true
      | _ => false) && (He.eqO (W.nsIn K cd.ns "__eq__") (some (some (.ref (He.ma K C "__eq__")))) && (He.eqO (W.nsIn K cd.ns "__ne__") (some none) && (match K.lookup cd.ns with
      | some ⟨_, _, .dict es _, _⟩ => es.toList.all fun e => match e.key with
        | .str _ _ => true
        | _ => false
      | _ => false))))))
  | _ => false
def clsB (K : W.Frag) (C : Addr) : Bool := He.eqO (W.findIn K (.ref C) "__class__") (some (some (.builtin "object.__class__"))) && (He.eqO (W.specialIn K (.builtin "object.__class__") "__get__") (some (some (.builtin "getset_descriptor.__get__"))) && (decide (W.takesIn K (.builtin "object.__class__") = some true) &&
  (decide (W.mroIn K C (.type "object") = some true) && (decide (W.kitOne K (.ref C) (.ref C) = some true) && decide (W.kitOne K (.type "int") (.ref C) = some false)))))
/-- a kind of rules, beside the two others -/
def ruB (K : W.Frag) (C D1 D2 R : Addr) : Bool := He.eqO (W.findIn K (.ref C) "__class__") (some (some (.builtin "object.__class__"))) && (decide (W.mroIn K C (.type "object") = some true) && (decide (W.kitOne K (.ref C) (.ref C) = some true) &&
  (decide (W.kitOne K (.ref C) (.ref D1) = some false) && (decide (W.kitOne K (.ref C) (.ref D2) = some false) && (decide (W.kitOne K (.ref C) (.ref R) = some true) && (decide (W.subIn K (.ref D1) (.ref C) = some false) && (decide (W.subIn K (.ref D2) (.ref C) = some false) &&
  (decide (W.typeIn K (.ref C) = some (.type "type")) && ((W.clsIn K C).isSome && (He.eqO (W.findIn K (.ref C) "__ne__") (some (some (.builtin "object.__ne__"))) && (decide (W.subIn K (.ref C) (.type "object") = some true) && (unaB K C "__eq__" && unaB K C "__repr__"))))))))))))
def emptyB (K : W.Frag) (a : Addr) : Bool := match K.lookup a with
  | some ⟨.type t, _, .seq its _, _⟩ => decide (t = "tuple") && its.toList.isEmpty
  | _ => false
def exB (K : W.Frag) : Bool := (["__eq__", "__str__", "__repr__"] : List String).all (fun m => unaB K (kC K) (Str.ofString m)) && ((["top", "bottom", "sign"] : List String).all (fun m => propB K (kC K) (Str.ofString m)) && (statB K (kC K) "of" && (eqcB K (kC K) && (clsB K (kC K) &&
  ((["fields", "ways", "weights", "total"] : List String).all (fun m => propB K (kT K) (Str.ofString m)) && ((["fields", "ways", "left", "right", "factor"] : List String).all (fun m => propB K (kP K) (Str.ofString m)) && ((["fields", "ways"] : List String).all (fun m => propB K (kL K) (Str.ofString m)) &&
  (ruB K (kT K) (kP K) (kL K) (kR K) && (ruB K (kP K) (kT K) (kL K) (kR K) && (ruB K (kL K) (kT K) (kP K) (kR K) && (emptyB K (kTP K) && He.eqO (W.nsIn K mainGlobals "gcd") (some (some (.builtin "math.gcd"))))))))))))))
/-! ### the defs -/
def fn : List He5.DefA := [⟨fun K => He.ga K "is_whole", "is_whole", "is_whole", defArgs (top 15), defBody (top 15), defScope (top 15), [], []⟩,
  ⟨fun K => He.ga K "is_name", "is_name", "is_name", defArgs (top 17), defBody (top 17), defScope (top 17), [], []⟩,
  ⟨fun K => He.ga K "is_list", "is_list", "is_list", defArgs (top 18), defBody (top 18), defScope (top 18), [], []⟩,
  ⟨fun K => He.ga K "wrong_name_at", "wrong_name_at", "wrong_name_at", defArgs (top 19), defBody (top 19), defScope (top 19), [], []⟩,
  ⟨fun K => He.ga K "wrong_choice_at", "wrong_choice_at", "wrong_choice_at", defArgs (top 20), defBody (top 20), defScope (top 20), [], []⟩,
  ⟨fun K => He.ga K "sorted_names", "sorted_names", "sorted_names", defArgs (top 21), defBody (top 21), defScope (top 21), [], []⟩,
  ⟨fun K => He.ga K "_check_weights", "_check_weights", "_check_weights", defArgs (top 33), defBody (top 33), defScope (top 33), [], []⟩,
  ⟨fun K => He.ga K "_check_side", "_check_side", "_check_side", defArgs (top 34), defBody (top 34), defScope (top 34), [], []⟩,
  ⟨fun K => He.ga K "_checked_ways", "_checked_ways", "_checked_ways", defArgs (top 35), defBody (top 35), defScope (top 35), [], []⟩,
  ⟨fun K => He.ga K "_signed_term", "_signed_term", "_signed_term", defArgs (top 36), defBody (top 36), defScope (top 36), [], []⟩,
  ⟨fun K => He.ga K "_ways_text", "_ways_text", "_ways_text", defArgs (top 37), defBody (top 37), defScope (top 37), [], []⟩,
  ⟨fun K => He.ga K "_law_pot", "_law_pot", "_law_pot", defArgs (top 42), defBody (top 42), defScope (top 42), [], []⟩,
  ⟨fun K => He.ga K "_law_draw", "_law_draw", "_law_draw", defArgs (top 43), defBody (top 43), defScope (top 43), [], []⟩,
  ⟨fun K => He.ga K "_law_pick", "_law_pick", "_law_pick", defArgs (top 44), defBody (top 44), defScope (top 44), [], []⟩,
  ⟨fun K => He.ga K "_law_named", "_law_named", "_law_named", defArgs (top 45), defBody (top 45), defScope (top 45), [], []⟩,
  ⟨fun K => He.ga K "_law_some", "_law_some", "_law_some", defArgs (top 46), defBody (top 46), defScope (top 46), [], []⟩,
  ⟨fun K => He.ga K "_law_lowest", "_law_lowest", "_law_lowest", defArgs (top 47), defBody (top 47), defScope (top 47), [], []⟩,
  ⟨fun K => He.ga K "_law_weight", "_law_weight", "_law_weight", defArgs (top 48), defBody (top 48), defScope (top 48), [], []⟩,
  ⟨fun K => He.ga K "_law_fraction", "_law_fraction", "_law_fraction", defArgs (top 49), defBody (top 49), defScope (top 49), [], []⟩,
  ⟨fun K => He.ga K "_law_inside", "_law_inside", "_law_inside", defArgs (top 50), defBody (top 50), defScope (top 50), [], []⟩,
  ⟨fun K => He.ga K "_law_rule", "_law_rule", "_law_rule", defArgs (top 51), defBody (top 51), defScope (top 51), [], []⟩,
  ⟨fun K => He.ga K "_law_wide_tie", "_law_wide_tie", "_law_wide_tie", defArgs (top 52), defBody (top 52), defScope (top 52), [], []⟩,
  ⟨fun K => He.ga K "_law_number", "_law_number", "_law_number", defArgs (top 53), defBody (top 53), defScope (top 53), [], []⟩,
  ⟨fun K => He.ga K "_law_rule_by_names", "_law_rule_by_names", "_law_rule_by_names", defArgs (top 54), defBody (top 54), defScope (top 54), [], []⟩,
  ⟨fun K => He.ga K "_law_due_parts", "_law_due_parts", "_law_due_parts", defArgs (top 55), defBody (top 55), defScope (top 55), [], []⟩,
  ⟨fun K => He.ga K "_law_told_parts", "_law_told_parts", "_law_told_parts", defArgs (top 56), defBody (top 56), defScope (top 56), [], []⟩,
  ⟨fun K => He.ga K "_law_is_right", "_law_is_right", "_law_is_right", defArgs (top 57), defBody (top 57), defScope (top 57), [], []⟩,
  ⟨fun K => He.ga K "_law_is_like", "_law_is_like", "_law_is_like", defArgs (top 58), defBody (top 58), defScope (top 58), [], []⟩,
  ⟨fun K => He.ga K "_law_near_tie", "_law_near_tie", "_law_near_tie", defArgs (top 59), defBody (top 59), defScope (top 59), [], []⟩,
  ⟨fun K => He.ga K "_law_stays_as_it_was", "_law_stays_as_it_was", "_law_stays_as_it_was", defArgs (top 60), defBody (top 60), defScope (top 60), [], []⟩,
  ⟨fun K => He.ga K "_law_defaults_right", "_law_defaults_right", "_law_defaults_right", defArgs (top 61), defBody (top 61), defScope (top 61), [], []⟩,
  ⟨fun K => He.ga K "_law_long_right", "_law_long_right", "_law_long_right", defArgs (top 62), defBody (top 62), defScope (top 62), [], []⟩,
  ⟨fun K => He.ga K "_law_right", "_law_right", "_law_right", defArgs (top 63), defBody (top 63), defScope (top 63), [], []⟩,
  ⟨fun K => He.ga K "law", "law", "law", defArgs (top 64), defBody (top 64), defScope (top 64), [], []⟩,
  ⟨fun K => He.ma K (kC K) "__init__", "__init__", "Amount.__init__", defArgs (am 0), defBody (am 0), defScope (am 0), [.int 1], []⟩,
  ⟨fun K => He5.wf K (kC K) "staticmethod" "of", "of", "Amount.of", defArgs (am 1), defBody (am 1), defScope (am 1), [], []⟩,
  ⟨fun K => He5.wf K (kC K) "property" "top", "top", "Amount.top", defArgs (am 3), defBody (am 3), defScope (am 3), [], []⟩,
  ⟨fun K => He5.wf K (kC K) "property" "bottom", "bottom", "Amount.bottom", defArgs (am 4), defBody (am 4), defScope (am 4), [], []⟩,
  ⟨fun K => He5.wf K (kC K) "property" "sign", "sign", "Amount.sign", defArgs (am 5), defBody (am 5), defScope (am 5), [], []⟩,
  ⟨fun K => He.ma K (kC K) "__eq__", "__eq__", "Amount.__eq__", defArgs (am 21), defBody (am 21), defScope (am 21), [], []⟩,
  ⟨fun K => He.ma K (kC K) "__str__", "__str__", "Amount.__str__", defArgs (am 26), defBody (am 26), defScope (am 26), [], []⟩,
  ⟨fun K => He.ma K (kC K) "__repr__", "__repr__", "Amount.__repr__", defArgs (am 27), defBody (am 27), defScope (am 27), [], []⟩,
  ⟨fun K => He.ma K (kT K) "__init__", "__init__", "Total.__init__", defArgs (tot 0), defBody (tot 0), defScope (tot 0), [.int 0], [("ways", .non)]⟩,
  ⟨fun K => He5.wf K (kT K) "property" "fields", "fields", "Total.fields", defArgs (tot 1), defBody (tot 1), defScope (tot 1), [], []⟩,
  ⟨fun K => He5.wf K (kT K) "property" "ways", "ways", "Total.ways", defArgs (tot 2), defBody (tot 2), defScope (tot 2), [], []⟩,
  ⟨fun K => He5.wf K (kT K) "property" "weights", "weights", "Total.weights", defArgs (tot 3), defBody (tot 3), defScope (tot 3), [], []⟩,
  ⟨fun K => He5.wf K (kT K) "property" "total", "total", "Total.total", defArgs (tot 4), defBody (tot 4), defScope (tot 4), [], []⟩,
  ⟨fun K => He.ma K (kT K) "text", "text", "Total.text", defArgs (tot 8), defBody (tot 8), defScope (tot 8), [], []⟩,
  ⟨fun K => He.ma K (kT K) "__eq__", "__eq__", "Total.__eq__", defArgs (tot 9), defBody (tot 9), defScope (tot 9), [], []⟩,
  ⟨fun K => He.ma K (kT K) "__repr__", "__repr__", "Total.__repr__", defArgs (tot 10), defBody (tot 10), defScope (tot 10), [], []⟩,
  ⟨fun K => He.ma K (kP K) "__init__", "__init__", "Product.__init__", defArgs (pro 0), defBody (pro 0), defScope (pro 0), [.adr kTP, .int 1], [("ways", .non)]⟩,
  ⟨fun K => He5.wf K (kP K) "property" "fields", "fields", "Product.fields", defArgs (pro 1), defBody (pro 1), defScope (pro 1), [], []⟩,
  ⟨fun K => He5.wf K (kP K) "property" "ways", "ways", "Product.ways", defArgs (pro 2), defBody (pro 2), defScope (pro 2), [], []⟩,
  ⟨fun K => He5.wf K (kP K) "property" "left", "left", "Product.left", defArgs (pro 3), defBody (pro 3), defScope (pro 3), [], []⟩,
  ⟨fun K => He5.wf K (kP K) "property" "right", "right", "Product.right", defArgs (pro 4), defBody (pro 4), defScope (pro 4), [], []⟩,
  ⟨fun K => He5.wf K (kP K) "property" "factor", "factor", "Product.factor", defArgs (pro 5), defBody (pro 5), defScope (pro 5), [], []⟩,
  ⟨fun K => He.ma K (kP K) "text", "text", "Product.text", defArgs (pro 8), defBody (pro 8), defScope (pro 8), [], []⟩,
  ⟨fun K => He.ma K (kP K) "__eq__", "__eq__", "Product.__eq__", defArgs (pro 9), defBody (pro 9), defScope (pro 9), [], []⟩,
  ⟨fun K => He.ma K (kP K) "__repr__", "__repr__", "Product.__repr__", defArgs (pro 10), defBody (pro 10), defScope (pro 10), [], []⟩,
  ⟨fun K => He.ma K (kL K) "__init__", "__init__", "Loose.__init__", defArgs (lo 0), defBody (lo 0), defScope (lo 0), [], [("ways", .non)]⟩,
  ⟨fun K => He5.wf K (kL K) "property" "fields", "fields", "Loose.fields", defArgs (lo 1), defBody (lo 1), defScope (lo 1), [], []⟩,
  ⟨fun K => He5.wf K (kL K) "property" "ways", "ways", "Loose.ways", defArgs (lo 2), defBody (lo 2), defScope (lo 2), [], []⟩,
  ⟨fun K => He.ma K (kL K) "text", "text", "Loose.text", defArgs (lo 4), defBody (lo 4), defScope (lo 4), [], []⟩,
  ⟨fun K => He.ma K (kL K) "__eq__", "__eq__", "Loose.__eq__", defArgs (lo 5), defBody (lo 5), defScope (lo 5), [], []⟩,
  ⟨fun K => He.ma K (kL K) "__repr__", "__repr__", "Loose.__repr__", defArgs (lo 6), defBody (lo 6), defScope (lo 6), [], []⟩]
def lawNames : List Str := (["_law_pot", "_law_draw", "_law_pick", "_law_named", "_law_some", "_law_lowest", "_law_weight", "_law_fraction", "_law_inside", "_law_rule", "_law_wide_tie", "_law_number", "_law_rule_by_names", "_law_due_parts", "_law_told_parts", "_law_is_right", "_law_is_like", "_law_near_tie", "_law_stays_as_it_was", "_law_defaults_right", "_law_long_right", "_law_right"] : List String).map Str.ofString
def ownNames : List Str := (["Amount", "Rule", "Total", "Product", "Loose", "is_whole", "is_name", "is_list", "wrong_name_at", "wrong_choice_at", "sorted_names", "_check_weights", "_check_side", "_checked_ways", "_signed_term", "_ways_text"] : List String).map Str.ofString
def restNames : List Str := (["_wall", "FormError", "InvalidAmount", "InvalidWeights", "InvalidSide", "InvalidWays", "InvalidText", "AmountError", "DividedByZero", "LETTERS", "NAME_SIGNS", "LONGEST_NAME", "is_count", "DIGITS", "MOST_DIGITS", "MOST_POWER", "_are_digits", "_readings", "_rule_of", "_weights_of"] : List String).map Str.ofString
def noats : List Str := (["_fields", "_ways", "_weights", "_total", "_factor", "_left", "_right"] : List String).map Str.ofString
def fa : List He.Fa := (ownNames ++ lawNames ++ [("law" : Str)]).map He.Fa.glo ++ (frees.map He.Fa.free ++ ([.int "LONGEST_NAME" 8, .str "LETTERS" "abcdefghijklmnopqrstuvwxyz", .str "NAME_SIGNS" "abcdefghijklmnopqrstuvwxyz0123456789", .cls "Amount", .noat "Amount" "_top", .noat "Amount" "_bottom", .mkr "Amount",
  .cls "Total", .cls "Product", .cls "Loose", .mkr "Total", .mkr "Product", .mkr "Loose", .meth "Total" "text", .meth "Product" "text", .meth "Loose" "text"] ++ (noats.map (He.Fa.noat "Total") ++ (noats.map (He.Fa.noat "Product") ++ noats.map (He.Fa.noat "Loose")))))
abbrev R : PySem.W.OpenRow := PySem.W.OpenLaw.row PySem.Challenge.rw_keptlast_k14_rules_by_parts
def loose : List Str := ownNames ++ lawNames ++ restNames
/-! ### the objects that are looked at -/
def kids (g : Addr → Option Obj) (a : Addr) : List Addr := match g a with
  | some ⟨_, _, .cls cd, _⟩ => [cd.ns]
  | some ⟨_, _, .func fd, _⟩ => He.refV fd.code ++ (He.refV fd.defaults ++ He.refV fd.kwdefaults)
  | some ⟨_, _, .dict es _, _⟩ => es.toList.flatMap fun e => He.refV e.val
  | some ⟨.type t, _, .fields vs, _⟩ => if t = "property" ∨ t = "staticmethod" then vs.toList.flatMap He.refV else []
  | some ⟨.type t, _, .seq its _, _⟩ => if t = "tuple" then its.toList.flatMap He.refV else []
  | _ => []
def as1 (g : Addr → Option Obj) : List Addr := kids g mainGlobals
def as2 (g : Addr → Option Obj) : List Addr := (as1 g).flatMap (kids g)
def as3 (g : Addr → Option Obj) : List Addr := (as2 g).flatMap (kids g)
def as4 (g : Addr → Option Obj) : List Addr := (as3 g).flatMap (kids g)
def as5 (g : Addr → Option Obj) : List Addr := (as4 g).flatMap (kids g)
def frK (g : Addr → Option Obj) : W.Frag := He.frT g (mainGlobals :: cStatics :: (as1 g ++ (as2 g ++ (as3 g ++ (as4 g ++ as5 g)))))
abbrev AlK : Type := He.AlD × Bool
def seeK (K : W.Frag) : AlK := (He5.obsA fa fn K, exB K)
structure SayK (K : W.Frag) : Prop where
  a : He5.SaysA fa fn K
  ex : exB K = true
theorem sayK_of {K : W.Frag} (e : seeK K = (He5.valA fn, true)) : SayK K := ⟨congrArg (fun z : AlK => z.1) e, congrArg (fun z : AlK => z.2) e⟩
def hk : PySem.W.Hook where
  α := AlK
  obs := fun s => seeK (frK s.heap.get?)
  val := fun w => (He5.valA fn, true)
  says := fun w h => ∃ K : W.Frag, K.In h ∧ SayK K
  of := fun _ _ e => ⟨_, He.frT_in, sayK_of e⟩
  keeps := fun _ _ _ ⟨K, hK, c⟩ k => ⟨K, W.Frag.In.keeps hK k, c⟩
def ob (s : PySem.W.SharedT) : AlK := seeK (frK (HandSHeadRun.getT s))
theorem ob_eq (s : PySem.W.SharedT) : ob s = hk.obs s.abs := by
  have e : HandSHeadRun.getT s = s.abs.heap.get? := funext (HandSHeadRun.getT_eq s)
  show seeK (frK (HandSHeadRun.getT s)) = seeK (frK s.abs.heap.get?)
  rw [e]
theorem run (w : World) : HandSHeadRun.RunEqI R (PySem.W.view R.prog [0, 64]) hk ob 20000 loose w := by
  unfold HandSHeadRun.RunEqI
  kernel_rfl
end KB

set_option Elab.async false
set_option linter.all false
set_option maxRecDepth 100000
set_option maxHeartbeats 4000000
/-! Defs that must know that no repr is under way around them. -/
namespace Gd
open PySem PySem.Spec PyProof.Rows L2

/-- nothing that guards a repr runs around -/
abbrev Bare (A : Around) : Prop := A.guards = some []

/-- a def's promise, kept wherever no repr is under way -/
structure FnG (P : Program) (w : World) (K : PySem.W.Frag) (mg : Str → Option Value) (base : Heap) (CX : CXT) (k : Nat) (f : Addr) (fd : FuncData) (ps : List Str) (sp : Sp) : Prop where
  len : ∀ vs H Q E, sp vs H Q E → vs.length = ps.length
  go : ∀ (A : Around) (outer : List Env) (s : Shared) (H : Hp) (args : Args) (us : List Value) (vs : List V) (Q : VK) (E : XK),
    Bare A → Room k A → Env0 P w K mg base A outer s H → BindsTo s fd args (ps.zip us) → Vals vs us → sp vs H Q E →
    codeAny (model P w) A (.call (.ref f) args) (CR CX outer P w H s Q E) s

theorem FnG.of {P : Program} {w : World} {K : PySem.W.Frag} {mg : Str → Option Value} {base : Heap} {CX : CXT} {k : Nat} {f : Addr} {fd : FuncData} {ps : List Str} {sp : Sp}
    (F : FnOk P w K mg base CX k f fd ps sp) : FnG P w K mg base CX k f fd ps sp :=
  ⟨F.len, fun A outer s H args us vs Q E _ hr e0 hb r h => F.run A outer s H args us vs Q E hr e0 hb r h⟩

section
variable {CX : CXT} {P : Program} {w : World} {K : PySem.W.Frag} {mg : Str → Option Value} {base : Heap} {k : Nat} {f : Addr}

/-- such a def by its body -/
theorem fnG_of {name qual : Str} {params : Arguments} {body : List Stmt} {sc : Scope} {dV kV doc pm cdv ct oc : Value} {an od : Option Addr} {osl : Array (Option Value)} {N ps : List Str} {sp : Sp}
    (at_ : K.lookup f = some ⟨oc, od, .func (PySem.W.fnOf name qual params body sc dV kV doc pm an cdv ct), osl⟩)
    (code : PySem.W.codeIn K cdv qual = true) (S : FnScope N ps sc) (len : ∀ vs H Q E, sp vs H Q E → vs.length = ps.length)
    (walk : ∀ (A : Around) (outer : List Env) (s : Shared) (H : Hp) (vs : List V) (Q : VK) (E : XK),
      Bare (A.deeper (envOfC qual sc s.heap.objs.size f cdv)) → Room k (A.deeper (envOfC qual sc s.heap.objs.size f cdv)) → sp vs H Q E →
      ∃ t, PSs (cxOf CX P w K mg base N qual sc f cdv A outer s H E) body t ∧ t { nx := fun _ H' => Q .non H', rt := Q } (start N vs) H) :
    FnG P w K mg base CX (k + 1) f (PySem.W.fnOf name qual params body sc dV kV doc pm an cdv ct) ps sp := by
  refine ⟨len, fun A outer s H args us vs Q E hg room e0 bd rv want => ?_⟩
  have nvs := len _ _ _ _ want
  have inK : K.In s.heap := e0.mod.kin.keeps (fun b o z => (e0.bs b o z).1)
  have noLim : s.heap.NoLimit := e0.mod.nolimit.keeps (fun b o z => (e0.bs b o z).1)
  have kinds : ∀ y ∈ ps.zip us, sc.names.lookup y.1 = some .local ∨
      (sc.names.lookup y.1 = some .cell ∧ ((cellsFrom (s.heap.objs.size + 1) sc.names []).lookup y.1).isSome = true) := by
    rintro ⟨n, v⟩ hy
    cases S.par n (List.of_mem_zip hy).1 with
    | inl z => exact .inl z
    | inr z => exact .inr ⟨z, PySem.W.cellsFrom_some _ _ _ (.inl z)⟩
  refine codeAny_call_function room.depth (inK _ _ at_) rfl S.co S.gen rfl (PySem.W.codeRec_of inK code) (bd _ _ _ _ ?_)
  refine wpAny_newFunctionEnv_cells S.kind kinds (fun env ee s1 ic => ?_)
  subst ee
  refine ⟨noLim.keeps ic.toInCall.keep, codeAny_func ?_⟩
  obtain ⟨t, der, rd⟩ := walk A outer s H vs Q E hg (room.deeper _) want
  have J : Inv (cxOf CX P w K mg base N qual sc f cdv A outer s H E) [] (start N vs) H s1 := inv_start S room.hd e0 nvs rv ic
  refine wpAny_mono (der.run [] s1 (start N vs) H _ J rd) (fun fl s2 hs => ?_) (fun e s2 hs => hs)
  cases fl with
  | ret u =>
    obtain ⟨v, σ2, H2, J2, rv2, q⟩ := hs
    exact ⟨v, H2, J2.os, J2.bare, J2.base, J2.hok, rv2, q⟩
  | next =>
    obtain ⟨σ2, H2, J2, q⟩ := hs
    exact ⟨V.non, H2, J2.os, J2.bare, J2.base, J2.hok, rfl, q⟩
  | brk =>
    obtain ⟨_, _, _, q⟩ := hs
    exact q.elim
  | cont =>
    obtain ⟨_, _, _, q⟩ := hs
    exact q.elim
end

section
variable {P : Program} {w : World} {K : PySem.W.Frag} {mg : Str → Option Value} {base : Heap}
theorem okG {x qual : Str} {st : Stmt} {f : Addr} {fd : FuncData} {N ps : List Str} {k : Nat} {sp : Sp} (F : Fun K x qual st f fd) (S : FnScope N ps (defScope st)) (len : ∀ vs H Q E, sp vs H Q E → vs.length = ps.length)
    (walk : ∀ (cdv : Value) (A : Around) (outer : List Env) (s : Shared) (H : Hp) (vs : List V) (Q : VK) (E : XK), Bare (A.deeper (envOfC qual (defScope st) s.heap.objs.size f cdv)) →
      Room k (A.deeper (envOfC qual (defScope st) s.heap.objs.size f cdv)) → sp vs H Q E →
      ∃ t, PSs (cxOf CX0 P w K mg base N qual (defScope st) f cdv A outer s H E).nox (defBody st) t ∧ t { nx := fun _ H' => Q .non H', rt := Q } (start N vs) H) :
    FnG P w K mg base CX0 (k + 1) f fd ps sp := by
  obtain ⟨oc, od, kV, doc, pm, an, cdv, ct, osl, rfl, at_, code⟩ := F.ex
  refine fnG_of at_ code S len (fun A outer s H vs Q E hg hr want => ?_)
  obtain ⟨t, h, q⟩ := walk cdv A outer s H vs Q E hg hr want
  exact ⟨t, h.nox, q⟩
end

section
variable {X : Cx} {CX : CXT} {k : Nat} {f : Addr} {fd : FuncData} {ps : List Str} {sp : Sp} {dvs : List V} {ds : List Value} {E : XK} {x : Str} {p pos : Pos} {e : Expr} {es : List Expr} {t : TA}
theorem runG {pins : List (Addr × Obj)} {σ : L2.St} {H : Hp} {s : Shared} {Q : VK} {us : List Value} {vs : List V} (hG : Bare X.A) (F : FnG X.prog X.w X.K X.mg X.base CX k f fd ps sp) (hr : Room k X.A) (hb : Binds X.K fd ps ds) (hd : Vals dvs ds)
    (hx : Passes CX X E) (I : Inv X pins σ H s) (r : Vals vs us) (want : sp (vs ++ dvs) H Q E) : wpAny (model X.prog X.w) X.A (call (.ref f) us) (EP X pins σ Q) X.xe s := by
  have all : Vals (vs ++ dvs) (us ++ ds) := r.append hd
  have nl : (us ++ ds).length = ps.length := by
    rw [← all.length]
    exact F.len _ _ _ _ want
  refine wpAny_call (codeAny_mono (F.go X.A X.stack s H ⟨us, []⟩ (us ++ ds) (vs ++ dvs) Q E hG hr I.env0 (hb s us I.kIn nl) all want) (fun res s2 z => ?_))
  cases res with
  | error er => exact hx pins σ H s er s2 I z
  | ok fl =>
    cases fl with
    | ret u => exact I.after z
    | next => exact z.elim
    | brk => exact z.elim
    | cont => exact z.elim
/-- f(e, ..), f a def that wants no repr around -/
theorem pe_callG (hG : Bare X.A) (F : FnG X.prog X.w X.K X.mg X.base CX k f fd ps sp) (hr : Room k X.A) (hg : Gl X x) (hm : X.mg x = some (.ref f)) (hk : PySem.W.keepIn X.K (.ref f) = true) (hb : Binds X.K fd ps ds) (hd : Vals dvs ds)
    (hx : Passes CX X E) (ha : PA X (e :: es) t) (hdb : (x == ("__debug__" : Str)) = false := by decide)
    (he : starEach (e :: es) X.env = (false, eval e X.env) :: starEach es X.env := by rfl) (hpl : (backTo pos (starEach es X.env)).any (·.1) = false := by rfl) :
    PE X (.Call (.Name x p) (e :: es) [] pos) (tCall sp dvs E t) := by
  refine ⟨fun pins s σ H Q I want => wpAny_Call_Name_kw (ld_glob I hg hm ?_ hdb)⟩
  refine PySem.W.callWith_K (h₀ := X.base) I.ok.mod.kin hk (thn (ha.run pos pins s σ H _ I want) fun us s1 ⟨vs, H1, I1, r, q⟩ => ⟨I1.kIn, ?_⟩) he hpl
  exact runG hG F hr hb hd hx I1 r q
end

/-! ### the end of a law -/
theorem lawG {P : Program} {w : World} {K : PySem.W.Frag} {mg mb : Str → Option Value} {k : Nat} {fa a : Addr} {fd : FuncData} {x : Str} {sp : Sp} {s₁ : Shared} {vs : List Value} {ns : List Int}
    (inK : K.In s₁.heap) (hmg : s₁.heap.Ns mainGlobals mg) (hmb : s₁.heap.Ns builtinsNs mb) (hbt : ∀ x : Str, x ≠ "__name__" → mb x = bootBuiltins x) (lim : s₁.heap.NoLimit) (hgen : s₁.gens = #[])
    (hobj : s₁.heap.get? a = some { cls := .type "list", data := .seq vs.toArray }) (hints : IntsAre vs ns) (hlen : ns.length ≤ sizeLine) (room : Room k callerA)
    (F : ∀ base : Heap, K.In base → base.Ns mainGlobals mg → FnG P w K mg base CX0 k fa fd [x] sp) (hbd : ∀ (s : Shared) (u : Value), BindsTo s fd ⟨[u], []⟩ [(x, u)])
    (hsp : ∀ H : Hp, Only H → SqL K H a (ns.map V.int) → sp [.ref a] H (fun v _ => v = .bl true) fun _ _ _ => False) :
    codeAny (model P w) callerA (.call (.ref fa) ⟨[.ref a], []⟩) (fun r s' => r = .ok (.ret (.bool true)) ∧ OldK s₁.heap s'.heap ∧ s'.os = s₁.os ∧ AllBare s'.gens) s₁ := by
  have key : ∀ T : Params → True, True := fun _ => trivial
  -- what the layer's own end proves for defs that run anywhere, at a def that answers at once: its shape is used for ours
  have rv := vals_ints hints
  have nvs := hints.length
  have core : ∀ H : Hp, Only H → SqL K H a (ns.map V.int) → HOk P w H s₁.heap → (∀ b, H b ≠ none → b = a) → (H a ≠ none → K.lookup a = none) →
      codeAny (model P w) callerA (.call (.ref fa) ⟨[.ref a], []⟩) (fun r s' => r = .ok (.ret (.bool true)) ∧ OldK s₁.heap s'.heap ∧ s'.os = s₁.os ∧ AllBare s'.gens) s₁ := by
    intro H only sq hok onlyA notK
    have free_of : ∀ {b : Addr} {o : Obj} {es : Array DictEntry} {ep : Nat}, s₁.heap.get? b = some o → o.data = .dict es ep → H b = none := by
      intro b o es ep e d
      cases q : H b with
      | none => rfl
      | some u =>
        have eb : b = a := onlyA b (by rw [q]; simp)
        rw [eb, hobj] at e
        cases e
        cases (show Data.seq vs.toArray _ = Data.dict es ep from d)
    have ns_of : ∀ {b : Addr} {m : Str → Option Value}, s₁.heap.Ns b m → (hidT s₁.heap H).Ns b m := by
      rintro b m ⟨o, es, ep, e, d, r⟩
      exact ⟨o, es, ep, hidT_get e (free_of e d), d, r⟩
    have inB : K.In (hidT s₁.heap H) := by
      intro b o e
      refine hidT_get (inK b o e) ?_
      cases q : H b with
      | none => rfl
      | some u =>
        have eb : b = a := onlyA b (by rw [q]; simp)
        subst eb
        have z := notK (by rw [q]; simp)
        rw [z] at e
        exact nomatch e
    obtain ⟨mc, l1, l2⟩ := lim
    have md : Mod K mg (hidT s₁.heap H) := ⟨inB, ns_of hmg, ⟨mb, ns_of hmb, hbt⟩, ⟨mc, ns_of l1, l2⟩⟩
    have nil : ∀ b : Addr, b ∉ ([] : List Addr) := fun b z => nomatch z
    have e0 : Env0 P w K mg (hidT s₁.heap H) callerA [] s₁ H :=
      ⟨rfl, md, fun b o e => of_hidT e, Nat.le_of_eq (hidT_size _ _), trivial, fun b hb => absurd (show b ∈ ([] : List Addr) from hb) (nil b), hok, .of_eq hgen⟩
    refine codeAny_mono ((F _ inB (ns_of hmg)).go callerA [] s₁ H ⟨[.ref a], []⟩ [.ref a] [.ref a] _ _ rfl room e0 (hbd s₁ (.ref a)) (.cons rfl .nil) (hsp H only sq)) (fun r s2 z => ?_)
    cases r with
    | error er => exact z.elim
    | ok fl =>
      cases fl with
      | next => exact z.elim
      | brk => exact z.elim
      | cont => exact z.elim
      | ret u =>
        obtain ⟨v, H2, os, bare, un, hok2, rr, q⟩ := z
        have ev : v = .bl true := q
        subst ev
        obtain rfl : u = Value.bool true := rr
        refine ⟨rfl, OldK.of_keep (fun b o e => ?_), os, bare⟩
        cases q2 : H b with
        | none => exact un.keep b o e q2 (nil b) (nil b)
        | some u =>
          cases only b with
          | inl z => rw [q2] at z; cases z
          | inr z =>
            obtain ⟨ob, xs, z⟩ := z
            obtain ⟨e1, _⟩ := hok b _ z
            obtain ⟨e2, _⟩ := hok2 b _ (un.frzs b ob _ z)
            rw [e] at e1
            cases e1
            exact e2
  cases hk : K.lookup a with
  | some o =>
    have e := inK a o hk
    rw [hobj] at e
    cases e
    exact core (fun _ => none) (fun _ => .inl rfl) (.inr ⟨_, vs.toArray, _, hk, rfl, rfl, rfl, by rw [List.size_toArray, nvs]; exact hlen, by simpa using rv⟩)
      (fun b u z => nomatch (show (none : Option HO) = some u from z)) (fun b z => absurd rfl z) (fun z => absurd rfl z)
  | none =>
    refine core (fun b => if b = a then some (.frz { cls := .type "list", data := .seq vs.toArray } (.lst (ns.map V.int))) else none) (fun b => ?_) (.inl (.inr ⟨_, if_pos rfl⟩)) (fun b u z => ?_) (fun b z => ?_) (fun _ => hk)
    · rcases Decidable.em (b = a) with hb | hb
      · exact .inr ⟨_, _, if_pos hb⟩
      · exact .inl (if_neg hb)
    · rcases Decidable.em (b = a) with hb | hb
      · have z2 := (if_pos hb).symm.trans z
        cases z2
        subst hb
        exact ⟨hobj, by rw [List.length_map]; exact hlen, vs, _, rv, hobj⟩
      · have z2 := (if_neg hb).symm.trans z
        cases z2
    · rcases Decidable.em (b = a) with hb | hb
      · exact hb
      · exact absurd (if_neg hb) z
/-- a law over a head by facts -/
theorem walkG {l : PySem.W.OpenLaw} {n k : Nat} {q : Program} {loose : List Str} {XP : (Str → Option Value) → Heap → Prop} {YP : World → Heap → Prop} {d : DefRec} {x : Str}
    (hn : l.most = some n) (hn2 : n ≤ sizeLine) (hdf : d.params.defaults = []) (room : Room k callerA)
    (F : ∀ (w : World) (mg : Str → Option Value) (fa : Addr) (h : Heap), YP w h → h.Ns mainGlobals mg → mg d.name = some (.ref fa) →
      ∃ (K : PySem.W.Frag) (fd : FuncData) (sp : Sp), K.In h ∧ (∀ (s : Shared) (u : Value), BindsTo s fd ⟨[u], []⟩ [(x, u)]) ∧
        (∀ (H : Hp) (a : Addr) (ns : List Int), ns.length ≤ n → Only H → SqL K H a (ns.map V.int) → sp [.ref a] H (fun v _ => v = .bl true) fun _ _ _ => False) ∧
        ∀ base : Heap, K.In base → base.Ns mainGlobals mg → FnG l.prog w K mg base CX0 k fa fd [x] sp) :
    PySem.W.WalkO q loose XP YP l.row.toRowW d [] (fun f vs => PySem.call f vs) := by
  refine Att.attach_call hn hdf (fun w s₀ s₁ mg mb fa o pm cd doc a vs ns G Y ho hd hcd hmg hobj hints hlen hg => ?_)
  obtain ⟨K, fd, sp, inK, hbd, hsp, hF⟩ := F w mg fa _ Y G.T.g hmg
  exact lawG inK G.T.g G.T.b G.T.builtins G.T.nolimit hg hobj hints (Nat.le_trans hlen hn2) room hF hbd (fun H only sq => hsp H a ns hlen only sq)
end Gd

set_option Elab.async false
set_option linter.all false
set_option maxRecDepth 100000
set_option maxHeartbeats 4000000
/-! repr of data at any depth. -/
namespace Gd
open PySem PySem.Spec PyProof.Rows L2

/-- the repr of a key -/
inductive KeyT : Key → Str → Prop
  | int (i : Int) (h : i.natAbs.log2 < 1920) : KeyT (.inl i) (toString i)
  | str (x : Str) (h : (reprText x).length ≤ sizeLine) : KeyT (.inr x) (reprText x)
/-- x is data of depth d at the addresses as, its repr is t -/
inductive Rp (H : Hp) : List Addr → Nat → V → Str → Prop
  | non {as d} : Rp H as d .non "None"
  | bl {as d} (b : Bool) : Rp H as d (.bl b) (if b then "True" else "False")
  | int {as d} (i : Int) (h : i.natAbs.log2 < 1920) : Rp H as d (.int i) (toString i)
  | str {as d} (x : Str) (h : (reprText x).length ≤ sizeLine) : Rp H as d (.str x) (reprText x)
  | lst {as as0 d a xs ts} (h : H a = some (.lst xs)) (na : a ∉ as0) (sub : ∀ b ∈ a :: as0, b ∈ as) (nl : ts.length = xs.length)
      (it : ∀ (i : Nat) (x : V) (t : Str), xs[i]? = some x → ts[i]? = some t → Rp H as0 d x t) : Rp H as (d + 1) (.ref a) (listText ts)
  | tup {as as0 d a xs ts} (h : H a = some (.tup xs)) (na : a ∉ as0) (sub : ∀ b ∈ a :: as0, b ∈ as) (nl : ts.length = xs.length)
      (it : ∀ (i : Nat) (x : V) (t : Str), xs[i]? = some x → ts[i]? = some t → Rp H as0 d x t) : Rp H as (d + 1) (.ref a) (tupleText ts)
  | dic {as as0 d a} {kvs : List (Key × V)} {ps : List (Str × Str)} (h : H a = some (.dK kvs)) (na : a ∉ as0) (sub : ∀ b ∈ a :: as0, b ∈ as) (nl : ps.length = kvs.length)
      (ke : ∀ (i : Nat) (q : Key × V) (p : Str × Str), kvs[i]? = some q → ps[i]? = some p → KeyT q.1 p.1)
      (it : ∀ (i : Nat) (q : Key × V) (p : Str × Str), kvs[i]? = some q → ps[i]? = some p → Rp H as0 d q.2 p.2) : Rp H as (d + 1) (.ref a) (dictText (ps.map fun p => p.1 ++ ": " ++ p.2))

theorem Rp.more {H : Hp} {as as' : List Addr} {d : Nat} {x : V} {t : Str} (r : Rp H as d x t) (h : ∀ b ∈ as, b ∈ as') : Rp H as' d x t := by
  cases r with
  | non => exact .non
  | bl b => exact .bl b
  | int i z => exact .int i z
  | str y z => exact .str y z
  | lst a na sub nl it => exact .lst a na (fun b hb => h b (sub b hb)) nl it
  | tup a na sub nl it => exact .tup a na (fun b hb => h b (sub b hb)) nl it
  | dic a na sub nl ke it => exact .dic a na (fun b hb => h b (sub b hb)) nl ke it
theorem Rp.deep {H : Hp} {as : List Addr} {d : Nat} {x : V} {t : Str} (r : Rp H as d x t) : ∀ d', d ≤ d' → Rp H as d' x t := by
  induction r with
  | non => exact fun _ _ => .non
  | bl b => exact fun _ _ => .bl b
  | int i z => exact fun _ _ => .int i z
  | str y z => exact fun _ _ => .str y z
  | lst a na sub nl it ih =>
    intro d' hd
    obtain ⟨e, rfl⟩ : ∃ e, d' = e + 1 := ⟨d' - 1, by omega⟩
    exact .lst a na sub nl fun i x t h1 h2 => ih i x t h1 h2 e (by omega)
  | tup a na sub nl it ih =>
    intro d' hd
    obtain ⟨e, rfl⟩ : ∃ e, d' = e + 1 := ⟨d' - 1, by omega⟩
    exact .tup a na sub nl fun i x t h1 h2 => ih i x t h1 h2 e (by omega)
  | dic a na sub nl ke it ih =>
    intro d' hd
    obtain ⟨e, rfl⟩ : ∃ e, d' = e + 1 := ⟨d' - 1, by omega⟩
    exact .dic a na sub nl ke fun i q p h1 h2 => ih i q p h1 h2 e (by omega)
/-- what it hangs on stands -/
theorem Rp.keep {H H' : Hp} {as : List Addr} {d : Nat} {x : V} {t : Str} (r : Rp H as d x t) : (∀ b ∈ as, ∀ o, H b = some o → H' b = some o) → Rp H' as d x t := by
  induction r with
  | non => exact fun _ => .non
  | bl b => exact fun _ => .bl b
  | int i z => exact fun _ => .int i z
  | str y z => exact fun _ => .str y z
  | lst a na sub nl it ih => exact fun k => .lst (k _ (sub _ List.mem_cons_self) _ a) na sub nl fun i x t h1 h2 => ih i x t h1 h2 fun b hb => k b (sub b (List.mem_cons_of_mem _ hb))
  | tup a na sub nl it ih => exact fun k => .tup (k _ (sub _ List.mem_cons_self) _ a) na sub nl fun i x t h1 h2 => ih i x t h1 h2 fun b hb => k b (sub b (List.mem_cons_of_mem _ hb))
  | dic a na sub nl ke it ih => exact fun k => .dic (k _ (sub _ List.mem_cons_self) _ a) na sub nl ke fun i q p h1 h2 => ih i q p h1 h2 fun b hb => k b (sub b (List.mem_cons_of_mem _ hb))

section
variable {P : Program} {w : World} {H : Hp} {h : Heap}
theorem keyT_repr {k : Key} {t : Str} {v : Value} (hk : KeyT k t) (e : keyIs k v = true) {as : List Addr} {d : Nat} : ReprK P w as h d v t := by
  cases hk with
  | int i z =>
    obtain ⟨tk, rfl⟩ := Value.isInt_shape (k := i) (v := v) e
    exact .of_is (.int tk z) _ _ _
  | str x z =>
    obtain ⟨tk, rfl⟩ := Value.isStrOf_shape (x := x) (v := v) e
    exact .of_is (.str x tk z) _ _ _
theorem kv_pairs : ∀ {kvs : List (Key × V)} {vs : List (Key × Value)} {es : List DictEntry}, KV kvs vs → Pairs (mixKind P w) es vs →
    es.length = kvs.length ∧ ∀ (i : Nat) (e : DictEntry), es[i]? = some e → ∃ q, kvs[i]? = some q ∧ keyIs q.1 e.key = true ∧ RelV q.2 e.val
  | _, _, _, .nil, .nil => ⟨rfl, fun i e z => nomatch (show none = some e by simpa using z)⟩
  | _, _, _, .cons (a := a) (b := b) r k, .cons (e := e0) hk hv pr => by
    obtain ⟨h1, h2⟩ := kv_pairs k pr
    refine ⟨by simp [h1], fun i e z => ?_⟩
    cases i with
    | zero =>
      have z' : e0 = e := by simpa using z
      subst z'
      refine ⟨a, rfl, ?_, ?_⟩
      · rw [r.1]; exact hk
      · rw [hv]; exact r.2
    | succ i => exact h2 i e (by simpa using z)
theorem Rp.repr (hok : HOk P w H h) {as : List Addr} {d : Nat} {x : V} {t : Str} (r : Rp H as d x t) : ∀ u, RelV x u → ReprK P w as h d u t := by
  induction r with
  | non =>
    rintro u rfl
    exact .of_is .none _ _ _
  | bl b =>
    rintro u rfl
    exact .of_is (.bool b) _ _ _
  | int i z =>
    rintro u ⟨tk, rfl⟩
    exact .of_is (.int tk z) _ _ _
  | str y z =>
    rintro u ⟨tk, rfl⟩
    exact .of_is (.str y tk z) _ _ _
  | @lst as as0 d a xs ts ha na sub nl it ih =>
    intro u ru
    obtain rfl : u = Value.ref a := ru
    obtain ⟨_, its, n, rv, ho⟩ := (show ObjOk P w H h a (.lst xs) from hok a _ ha)
    have nits := rv.length
    cases its with
    | nil =>
      have e1 : ts = [] := List.length_eq_zero_iff.mp (by rw [nl]; simpa using nits)
      subst e1
      exact (ReprK.listEmpty (d := d + 1) ho rfl rfl).more fun b hb => hb
    | cons y l =>
      refine (ReprK.list (as := as0) (d := d) ho rfl rfl na (by rw [nl, nits]; simp) fun i z hz => ?_).more sub
      have hz' : (y :: l)[i]? = some z := by simpa using hz
      have hi : i < xs.length := by
        rw [nits]
        exact (List.getElem?_eq_some_iff.mp hz').1
      obtain ⟨u2, hu2, r2⟩ := rv.get (List.getElem?_eq_getElem hi)
      rw [hz'] at hu2
      cases hu2
      refine ⟨ts[i]'(by omega), List.getElem?_eq_getElem _, ih i _ _ (List.getElem?_eq_getElem hi) (List.getElem?_eq_getElem _) z r2⟩
  | @tup as as0 d a xs ts ha na sub nl it ih =>
    intro u ru
    obtain rfl : u = Value.ref a := ru
    obtain ⟨_, its, rv, o, ho, hc, n, hd⟩ := (show ObjOk P w H h a (.tup xs) from hok a _ ha)
    refine (ReprK.tuple (as := as0) (d := d) ho hc hd na ?_).more sub
    have all : ∀ (xs : List V) (its : List Value) (ts : List Str), Vals xs its → ts.length = xs.length → (∀ (i : Nat) (x : V) (t : Str), xs[i]? = some x → ts[i]? = some t → ∀ u, RelV x u → ReprK P w as0 h d u t) → ReprAllK P w as0 h d its ts := by
      intro xs its ts rv
      induction rv generalizing ts with
      | nil =>
        intro e _
        have e1 : ts = [] := List.length_eq_zero_iff.mp (by simpa using e)
        subst e1
        exact .nil
      | cons r1 _ ihh =>
        intro e k
        cases ts with
        | nil => simp at e
        | cons t ts =>
          exact .cons (k 0 _ _ rfl rfl _ r1) (ihh ts (by simpa using e) fun i x t h1 h2 => k (i + 1) x t (by simpa using h1) (by simpa using h2))
    simpa using all xs its ts rv nl ih
  | @dic as as0 d a kvs ps ha na sub nl ke it ih =>
    intro u ru
    obtain rfl : u = Value.ref a := ru
    obtain ⟨_, hsys, vs, kv, o, es, ep, ho, hx, hd, _, pr, _⟩ := (show ObjOk P w H h a (.dK kvs) from hok a _ ha)
    refine (ReprK.dict (as := as0) (d := d) ho hx.1 hd hsys na ?_).more sub
    obtain ⟨n1, n2⟩ := kv_pairs kv pr
    have all : ∀ (l : List DictEntry) (qs : List (Str × Str)), qs.length = l.length → (∀ (i : Nat) (e : DictEntry) (p : Str × Str), l[i]? = some e → qs[i]? = some p → ReprK P w as0 h d e.key p.1 ∧ ReprK P w as0 h d e.val p.2) →
        ReprEntriesK P w as0 h d l (qs.map fun p => p.1 ++ ": " ++ p.2) := by
      intro l
      induction l with
      | nil =>
        intro qs e _
        have e1 : qs = [] := List.length_eq_zero_iff.mp (by simpa using e)
        subst e1
        exact .nil
      | cons e l ihh =>
        intro qs n k
        cases qs with
        | nil => simp at n
        | cons q qs =>
          obtain ⟨k1, k2⟩ := k 0 e q rfl rfl
          exact .cons k1 k2 (ihh qs (by simpa using n) fun i e p h1 h2 => k (i + 1) e p (by simpa using h1) (by simpa using h2))
    refine all es.toList ps (by rw [nl, n1]) fun i e p h1 h2 => ?_
    obtain ⟨q, hq, hk, hv⟩ := n2 i e h1
    exact ⟨keyT_repr (ke i q p hq h2) hk, ih i q p hq h2 _ hv⟩
end

section
variable {prog : Program} {w : World} {A : Around} {E : Value → Shared → Prop} {s : Shared}
/-- repr(v), by the type's own method -/
theorem repr_slot {T id : String} {v : Value} {Q : Value → Shared → Prop} (hT : s.TypeIs v T) (slot : SlotG T (Str.ofString "__repr__") id) (hu : A.units + 1 < cLine)
    (hc : wpAny (model prog w) A.in1 (call (.builtin id) [v]) (fun r s' => (∃ x u, r = .str x u) ∧ Q r s') E s) : wpAny (model prog w) A (call (.builtin "repr") [v]) Q E s := by
  refine Calls.call_function_entry F.kind_repr F.plain_repr F.entry_repr (F.args_repr1 _) ?_
  unfold Builtin.«repr»
  refine wpAny_bind (m := oneArg "repr" _) (wpAny_pure ?_)
  refine wpAny_bind (wpAny_cRoomFor (by show A.units + 1 < cLine; exact hu) ?_)
  refine wpAny_bind (wpAny_specialOf (name := Str.ofString "__repr__") hT slot.lookup ?_)
  refine wpAny_bind (m := callSpecialIfBound? v (Str.ofString "__repr__")) (wpAny_callSpecialIfBound?_slotG (name := Str.ofString "__repr__") hT slot (wpAny_mono hc (fun r s' hr => ?_) fun _ _ y => y))
  obtain ⟨⟨x, u, rfl⟩, q⟩ := hr
  refine wpAny_bind (wpAny_isInstance (T := "str") (b := true) rfl isSubtype_str_str ?_)
  exact wpAny_pure ⟨_, rfl, q⟩
end

/-- repr(x), x data -/
def rRepr : List V → Hp → VK → Prop := fun vs H Q => ∃ (x : V) (as : List Addr) (d : Nat) (t : Str), vs = [x] ∧ Rp H as d x t ∧ d ≤ 40 ∧ t.length ≤ sizeLine ∧ Q (.str t) H
theorem call_repr {X : Cx} {k : Nat} (hG : Bare X.A) (hr : Room k X.A) : CallR X (.builtin "repr") rRepr := by
  intro pins s σ H vs us Q I r want
  obtain ⟨x, as, d, t, rfl, rp, hd, hz, q⟩ := want
  obtain ⟨u, rfl, ru⟩ := vals1 r
  have hu := hr.units
  have fin : ∀ h' u2 tk, (∀ b o, s.heap.get? b = some o → h'.get? b = some o) → EP X pins σ Q (.str t u2) { s with heap := h', toks := tk } := fun h' u2 tk k => ⟨.str t, H, I.kept k, ⟨u2, rfl⟩, q⟩
  cases rp with
  | non =>
    cases ru
    exact PySem.P.repr_of_none (fin s.heap _ _ fun _ _ e => e)
  | bl b =>
    cases ru
    exact PySem.P.repr_of_bool (fin s.heap _ _ fun _ _ e => e)
  | int i z =>
    obtain ⟨tk, rfl⟩ := ru
    exact PySem.P.repr_of_int z (fin s.heap _ _ fun _ _ e => e)
  | str y z =>
    obtain ⟨tk, rfl⟩ := ru
    exact PySem.P.repr_of_str (fin s.heap _ _ fun _ _ e => e) z
  | @lst _ as0 d a xs ts ha na sub nl it =>
    obtain rfl : u = Value.ref a := ru
    obtain ⟨_, its, n, rv, ho⟩ := (show ObjOk X.prog X.w H s.heap a (.lst xs) from I.hok a _ ha)
    have nits := rv.length
    refine repr_slot ⟨_, ho, rfl⟩ F.slot_list_repr.toG (by omega) ?_
    cases its with
    | nil =>
      have e1 : ts = [] := List.length_eq_zero_iff.mp (by rw [nl]; simpa using nits)
      subst e1
      exact PySem.call_list_repr_empty ⟨_, ho, rfl⟩ ho rfl ⟨⟨_, _, rfl⟩, fin s.heap _ _ fun _ _ e => e⟩
    | cons y l =>
      refine PySem.call_list_reprK (g := []) (as := as0) (d := d) (h₀ := s.heap) ho rfl rfl na (by rw [nl, nits]; simp) (fun i z hz => ?_) hG (fun b _ => Clear.nil b) (by show X.A.units + 1 + (d + 1) < cLine; omega) (fun _ _ e => e)
        (fun h' u2 tk k => ⟨⟨_, _, rfl⟩, fin h' u2 tk k⟩) hz
      have hz' : (y :: l)[i]? = some z := by simpa using hz
      have hi : i < xs.length := by
        rw [nits]
        exact (List.getElem?_eq_some_iff.mp hz').1
      obtain ⟨u2, hu2, r2⟩ := rv.get (List.getElem?_eq_getElem hi)
      rw [hz'] at hu2
      cases hu2
      exact ⟨ts[i]'(by omega), List.getElem?_eq_getElem _, (it i _ _ (List.getElem?_eq_getElem hi) (List.getElem?_eq_getElem _)).repr I.hok z r2⟩
  | @tup _ as0 d a xs ts ha na sub nl it =>
    obtain rfl : u = Value.ref a := ru
    have rk := (Rp.tup ha na sub nl it).repr I.hok (.ref a) rfl
    obtain ⟨_, its, rv, o, ho, hc, n, hdt⟩ := (show ObjOk X.prog X.w H s.heap a (.tup xs) from I.hok a _ ha)
    refine repr_slot ⟨_, ho, hc⟩ F.slot_tuple_repr (by omega) ?_
    refine PySem.call_tuple_reprK (g := []) (as := as0) (d := d) (h₀ := s.heap) ho hc hdt na ?_ hG (fun b _ => Clear.nil b) (by show X.A.units + 1 + (d + 1) < cLine; omega) (fun _ _ e => e)
        (fun h' u2 tk k => ⟨⟨_, _, rfl⟩, fin h' u2 tk k⟩) hz
    have all : ∀ (xs : List V) (its : List Value) (ts : List Str), Vals xs its → ts.length = xs.length → (∀ (i : Nat) (x : V) (t : Str), xs[i]? = some x → ts[i]? = some t → ∀ u, RelV x u → ReprK X.prog X.w as0 s.heap d u t) → ReprAllK X.prog X.w as0 s.heap d its ts := by
      intro xs its ts rv
      induction rv generalizing ts with
      | nil =>
        intro e _
        have e1 : ts = [] := List.length_eq_zero_iff.mp (by simpa using e)
        subst e1
        exact .nil
      | cons r1 _ ihh =>
        intro e k
        cases ts with
        | nil => simp at e
        | cons t ts =>
          exact .cons (k 0 _ _ rfl rfl _ r1) (ihh ts (by simpa using e) fun i x t h1 h2 => k (i + 1) x t (by simpa using h1) (by simpa using h2))
    simpa using all xs its ts rv nl fun i x t h1 h2 => (it i x t h1 h2).repr I.hok
  | @dic _ as0 d a kvs ps ha na sub nl ke it =>
    obtain rfl : u = Value.ref a := ru
    obtain ⟨_, hsys, vs, kv, o, es, ep, ho, hx, hdt, _, pr, _⟩ := (show ObjOk X.prog X.w H s.heap a (.dK kvs) from I.hok a _ ha)
    refine repr_slot ⟨_, ho, hx.1⟩ F.slot_dict_repr (by omega) ?_
    refine PySem.call_dict_reprK (g := []) (as := as0) (d := d) (h₀ := s.heap) ho hx.1 hdt hsys na ?_ hG (fun b _ => Clear.nil b) (by show X.A.units + 1 + (d + 1) < cLine; omega) (fun _ _ e => e)
        (fun h' u2 tk k => ⟨⟨_, _, rfl⟩, fin h' u2 tk k⟩) hz
    obtain ⟨n1, n2⟩ := kv_pairs kv pr
    have all : ∀ (l : List DictEntry) (qs : List (Str × Str)), qs.length = l.length → (∀ (i : Nat) (e : DictEntry) (p : Str × Str), l[i]? = some e → qs[i]? = some p → ReprK X.prog X.w as0 s.heap d e.key p.1 ∧ ReprK X.prog X.w as0 s.heap d e.val p.2) →
        ReprEntriesK X.prog X.w as0 s.heap d l (qs.map fun p => p.1 ++ ": " ++ p.2) := by
      intro l
      induction l with
      | nil =>
        intro qs e _
        have e1 : qs = [] := List.length_eq_zero_iff.mp (by simpa using e)
        subst e1
        exact .nil
      | cons e l ihh =>
        intro qs n k
        cases qs with
        | nil => simp at n
        | cons q qs =>
          obtain ⟨k1, k2⟩ := k 0 e q rfl rfl
          exact .cons k1 k2 (ihh qs (by simpa using n) fun i e p h1 h2 => k (i + 1) e p (by simpa using h1) (by simpa using h2))
    refine all es.toList ps (by rw [nl, n1]) fun i e p h1 h2 => ?_
    obtain ⟨q, hq, hk, hv⟩ := n2 i e h1
    exact ⟨keyT_repr (ke i q p hq h2) hk, (it i q p hq h2).repr I.hok _ hv⟩
end Gd

set_option Elab.async false
set_option linter.all false
set_option maxRecDepth 100000
set_option maxHeartbeats 4000000
/-! Own exceptions made with keywords, over any of the built-in bases. -/
namespace Ge
open PySem
open PySem.Builtin PySem.Builtin.ObjectAttr PySem.HandSPX
section
variable {M : Model} {A : Around} {E : Value → Shared → Prop} {h : Heap} {g : Array GenState} {d : Drawn} {t : Nat} {os : OsState}
variable {nm q : Str} {C N : Addr} {bs bm bmB : List Value} {hdct : Bool} {sn : List Str} {sub : List Value} {ab : Bool} {col : Option Bool} {dd : Option Addr} {k0 k1 k2 k3 k5 : Option Value} {B newId initId : String}
theorem chk_new (F : ExcBaseFacts B newId initId bmB) (hT : ∀ X : String, bm.contains (.type X) = bmB.contains (.type X)) {rest : List Value} {kw : List (Str × Value)} {Q : Unit → Shared → Prop}
    (hC : h.get? C = some (excClassObj nm q C N bs bm hdct sn sub ab col dd k0 k1 k2 k3 k5 newId)) (hq : Q () ⟨h, g, d, t, os⟩) : wpAny M A (checkBuiltinCall newId ⟨.ref C :: rest, kw⟩) Q E ⟨h, g, d, t, os⟩ := by
  have has : (Value.ref C :: bm).contains (.type B) = true := by (rw [List.contains_cons, hT, F.hasB]; exact Bool.or_true _)
  have star := F.noStar
  simp only [checkBuiltinCall, F.newKind, F.newSplit, F.newRow, Bind.checkArgs, Bind.check]
  repeat (first | refine wpAny_loadPart_at hC ?_ | (refine wpAny_isSubtype_exc hC ?_; rw [has]) | refine wpAny_staticBase_exc hC ?_ | refine wpAny_madeBy_exc hC ?_ | simp only [bne_self_eq_false, Bool.false_eq_true, if_false] | wp_step)
  all_goals exact hq
end

section
variable {prog : Program} {w : World} {A : Around} {E : Value → Shared → Prop} {R : Result → Shared → Prop} {h : Heap} {g : Array GenState} {d : Drawn} {t : Nat} {os : OsState}
variable {nm q : Str} {C N : Addr} {bs bm bmB : List Value} {hdct : Bool} {sn : List Str} {sub : List Value} {ab : Bool} {col : Option Bool} {dd : Option Addr} {k0 k1 k2 k3 k5 : Option Value} {B newId initId : String}
/-- what lies behind a class's __new__ -/
abbrev newHeap (h : Heap) (C : Addr) (rest : List Value) : Heap := (h.push (W.kdv_tup rest)).push (excO C h.objs.size)
theorem new_any (F : ExcBaseFacts B newId initId bmB) (hT : ∀ X : String, bm.contains (.type X) = bmB.contains (.type X)) {rest : List Value} {kw : List (Str × Value)}
    (hC : h.get? C = some (excClassObj nm q C N bs bm hdct sn sub ab col dd k0 k1 k2 k3 k5 newId)) (hz : rest.length ≤ sizeLine) (hq : R (.ok (.ret (.ref (h.objs.size + 1)))) ⟨newHeap h C rest, g, d, t, os⟩) :
    codeAny (model prog w) A (.builtin newId ⟨.ref C :: rest, kw⟩) R ⟨h, g, d, t, os⟩ := by
  have ends := F.ends
  have isB : (Value.ref C :: bm).contains (.type B) = true := by (rw [List.contains_cons, hT, F.hasB]; exact Bool.or_true _)
  have noA : (Value.ref C :: bm).contains (.type "AttributeError") = false := by (rw [List.contains_cons, hT, F.noAttr]; exact rfl)
  have noN : (Value.ref C :: bm).contains (.type "NameError") = false := by (rw [List.contains_cons, hT, F.noName]; exact rfl)
  refine codeAny_builtinAt F.entry ?_
  (unfold Builtin.«BaseException.__new__»; refine wpAt_bind ?_)
  show wpAt _ _ _ (stack >>= _) _ _ _
  (refine wpAt_bind (wpAt_stack fun p below => wpAt_of_wpAny ?_); wp_walk; refine wpAt_of_wpAny ?_; rw [F.owner])
  repeat (first | with_reducible refine wpAny_madeHere_exc F.canon hC ?_ | with_reducible refine wpAny_loadPart_at hC ?_ | (with_reducible refine wpAny_isSubtype_exc hC ?_; first | rw [isB] | rw [noA] | rw [noN]) | wp_step)
  show R _ _
  rw [Heap.size_push]
  exact hq
theorem type_call_any (F : ExcBaseFacts B newId initId bmB) (hT : ∀ X : String, bm.contains (.type X) = bmB.contains (.type X)) {rest : List Value} {kw : List (Str × Value)} {fI : Addr} {Q : Fin → Shared → Prop}
    (hC : h.get? C = some (excClassObj nm q C N bs bm hdct sn sub ab col dd k0 k1 k2 k3 k5 newId)) (hi : W.Looks (model prog w) h (typeLookup (.ref C) "__init__") (some (.ref fI)))
    (hb : ∀ self, W.Looks (model prog w) h (bindSpecial (.ref fI) self) (.ref fI, [self])) (hz : rest.length ≤ sizeLine)
    (hq : codeAny (model prog w) A (.call (.ref fI) ⟨.ref (h.objs.size + 1) :: rest, kw⟩)
      (fun r s' => match r with | .ok (.ret v) => v = .none ∧ Q (.done (.ret (.ref (h.objs.size + 1)))) s' | .ok _ => False | .error e => E e s') ⟨newHeap h C rest, g, d, t, os⟩) :
    wpAny (model prog w) A (Builtin.«type.__call__» ⟨.ref C :: rest, kw⟩) Q E ⟨h, g, d, t, os⟩ := by
  repeat (first | with_reducible refine wpAny_loadPart_at hC ?_ | with_reducible refine wpAny_madeBy_exc hC ?_ | wp_step)
  refine codeAny_call_builtin_code (Code.quiet_builtin _ F.quiet) (chk_new F hT hC (new_any F hT hC hz ?_))
  show wpAny _ _ _ _ _ _
  have k : ∀ b o, h.get? b = some o → (newHeap h C rest).get? b = some o := fun b o z => Heap.get?_push_of_some _ (Heap.get?_push_of_some _ z)
  have c1 := k _ _ hC
  have x1 : (newHeap h C rest).get? (h.objs.size + 1) = some (excO C h.objs.size) := by (show ((h.push (W.kdv_tup rest)).push (excO C h.objs.size)).get? (h.objs.size + 1) = _; heap_get)
  have self : (Value.ref C :: bm).contains (.ref C) = true := by simp only [List.contains_cons, beq_self_eq_true, Bool.true_or]
  have i1 := hi.keeps k
  have b1 := (hb (.ref (h.objs.size + 1))).keeps k
  unfold isInstance
  repeat (first | with_reducible refine wpAny_loadPart_at x1 ?_ | (with_reducible refine wpAny_isSubtype_exc c1 ?_; rw [self]) | wp_step)
  show wpAny _ _ (typeLookup (.ref C) _) _ _ _
  refine i1.at (wpAny_holding (wpAny_bind (b1.at ?_)))
  refine wpAny_bind (wpAny_call (codeAny_mono hq fun r s' z => ?_))
  cases r with
  | error e => exact z
  | ok fl =>
    cases fl with
    | ret v =>
      obtain ⟨rfl, z⟩ := z
      first
        | exact wpAny_pure (wpAny_pure z)
        | (wp_walk; exact z)
    | next => exact z.elim
    | brk => exact z.elim
    | cont => exact z.elim
theorem call_any (F : ExcBaseFacts B newId initId bmB) (hT : ∀ X : String, bm.contains (.type X) = bmB.contains (.type X)) {rest : List Value} {kw : List (Str × Value)} {fI : Addr}
    (hC : h.get? C = some (excClassObj nm q C N bs bm hdct sn sub ab col dd k0 k1 k2 k3 k5 newId)) (hi : W.Looks (model prog w) h (typeLookup (.ref C) "__init__") (some (.ref fI)))
    (hb : ∀ self, W.Looks (model prog w) h (bindSpecial (.ref fI) self) (.ref fI, [self])) (hz : rest.length ≤ sizeLine)
    (hq : codeAny (model prog w) (A.under (.builtin "type.__call__" ⟨.ref C :: rest, kw⟩)) (.call (.ref fI) ⟨.ref (h.objs.size + 1) :: rest, kw⟩) (W.InitBack (h.objs.size + 1) R) ⟨newHeap h C rest, g, d, t, os⟩) :
    codeAny (model prog w) A (.call (.ref C) ⟨rest, kw⟩) R ⟨h, g, d, t, os⟩ := by
  have f1 := tc_lookup
  have f2 := tc_bind (.ref C)
  have isT : (⟨h, g, d, t, os⟩ : Shared).TypeIs (.ref C) "type" := ⟨_, hC, rfl⟩
  refine codeAny_of_tree ?_
  show wpAny _ _ (callAny (.ref C) _) _ _ _
  repeat (any_goals (first | assumption | with_reducible refine wpAny_loadPart_at hC ?_ | wp_step))
  refine ⟨rfl, codeAny_call_builtin_at (Code.quiet_builtin _ (by decide +kernel)) entry_typeCall (wpAny_check_type_call_sub hC (type_call_any F hT hC hi hb hz ?_))⟩
  refine codeAny_mono hq fun r s' z => ?_
  cases r with
  | error e => exact z
  | ok fl => cases fl <;> exact z
end
end Ge

set_option Elab.async false
set_option linter.all false
set_option maxRecDepth 100000
set_option maxHeartbeats 4000000
/-! An own error class whose __init__ stores its parameters: made, held, read. -/
namespace Ge
open PySem PySem.Spec L2
open PySem.Builtin PySem.Builtin.ObjectAttr PySem.HandSPX

/-- what the written part says of such a class at C, its __init__ at fI, its fields fs -/
structure EC (K : W.Frag) (C fI : Addr) (B newId initId : String) (bmB : List Value) (fs : List Str) : Prop where
  base : ExcBaseFacts B newId initId bmB
  sto : StoreFacts B bmB "object.__setattr__" "object"
  init : W.excInitIn K C bmB newId = true
  over : W.excOver K C bmB = true
  keep : W.keepIn K (.ref C) = true
  iC : W.findIn K (.ref C) "__init__" = some (some (.ref fI))
  tI : W.typeIn K (.ref fI) = some (.type "function")
  sa : W.findIn K (.ref C) "__setattr__" = some (some (.builtin "object.__setattr__"))
  hd : W.hasDictIn K C = true
  tak : ∀ f ∈ fs, W.takerIn K C f = some none

section
variable {prog : Program} {w : World} {A : Around} {E : Value → Shared → Prop} {R : Result → Shared → Prop} {hp : Heap} {g : Array GenState} {d : Drawn} {t : Nat} {os : OsState}
variable {K : W.Frag} {C fI : Addr} {B newId initId : String} {bmB : List Value} {fs : List Str} {name : Str} {v : Value}
/-- x.name = v, the first one -/
theorem put_new (T : EC K C fI B newId initId bmB fs) {tk : Tok} {x : Addr} {fv : Array Value} (X : K.In hp) (hx : hp.get? x = some { cls := .ref C, data := .fields fv }) (ht : name ∈ fs)
    (hq : ∀ h' tk' dx, (∀ b o, b ≠ x → hp.get? b = some o → h'.get? b = some o) → hp.objs.size ≤ dx → dx ≠ x → h'.get? x = some { cls := .ref C, dict := some dx, data := .fields fv } →
      h'.Ns1 dx (fun y => if y = name then some v else none) → R (.ok (.ret .none)) ⟨h', g, d, tk', os⟩) :
    codeAny (model prog w) A (.call (.builtin "object.__setattr__") ⟨[.ref x, .str name tk, v], []⟩) R ⟨hp, g, d, t, os⟩ := by
  obtain ⟨cd, hc, hdct⟩ := W.any_some T.hd
  have xs : x ≠ hp.objs.size := Nat.ne_of_lt (Heap.lt_size hx)
  have cls : W.Looks (model prog w) hp (classData C) cd := W.looks_clsIn X hc
  refine W.osa_openX (od := none) T.sto X ⟨hx, rfl, rfl, trivial⟩ T.over (T.tak _ ht) (fun b => ?_)
  show wpAny _ _ (storeInOwnDict (.ref x) (.ref C) (.str name tk) name v b) _ _ _
  obtain ⟨nm, bs, mro, ns, qn, has, sn, sb, ab, col, del⟩ := cd
  (dsimp only at hdct; subst hdct)
  (unfold storeInOwnDict ownDictForStores)
  repeat (first | with_reducible refine store_in_new ?_ ?_ | with_reducible refine wpAny_loadPart_at hx ?_ | with_reducible refine cls.at ?_ | wp_step)
  · exact ⟨_, #[], _, (Heap.get?_update_ne _ _ _ _ xs.symm).trans (Heap.get?_push_at rfl rfl), rfl, fun e he => absurd he (by simp), fun _ => rfl⟩
  · intro h' tk' hn' hs
    have hx1 : (hp.push { cls := .type "dict", data := .dict #[] }).get? x = some { cls := .ref C, data := .fields fv } := Heap.get?_push_of_some _ hx
    refine hq h' tk' hp.objs.size (fun b o hb ho => ?_) (Nat.le_refl _) xs.symm ((hs.2 x xs).trans (Heap.get?_update_self _ hx1 rfl)) hn'
    exact (hs.2 b (Nat.ne_of_lt (Heap.lt_size ho))).trans ((Heap.get?_update_ne _ _ _ _ hb).trans (Heap.get?_push_of_some _ ho))
/-- .. a further one -/
theorem put_old (T : EC K C fI B newId initId bmB fs) {tk : Tok} {x dx : Addr} {fv : Array Value} {m0 : Str → Option Value} {nl : List Str} (X : K.In hp) (hx : hp.get? x = some { cls := .ref C, dict := some dx, data := .fields fv }) (hn : hp.Ns1 dx m0)
    (hw : Within m0 nl) (hz : nl.length ≤ 1000) (ht : name ∈ fs)
    (hq : ∀ h' tk', (∀ b o, b ≠ dx → hp.get? b = some o → h'.get? b = some o) → h'.Ns1 dx (fun y => if y = name then some v else m0 y) → R (.ok (.ret .none)) ⟨h', g, d, tk', os⟩) :
    codeAny (model prog w) A (.call (.builtin "object.__setattr__") ⟨[.ref x, .str name tk, v], []⟩) R ⟨hp, g, d, t, os⟩ := by
  obtain ⟨cd, hc, hdct⟩ := W.any_some T.hd
  obtain ⟨oD, esD, epD, hoD, hdD, _⟩ := hn.count hw
  have cls : W.Looks (model prog w) hp (classData C) cd := W.looks_clsIn X hc
  refine W.osa_openX (od := some oD) T.sto X ⟨hx, rfl, rfl, hoD⟩ T.over (T.tak _ ht) (fun b => ?_)
  show wpAny _ _ (storeInOwnDict (.ref x) (.ref C) (.str name tk) name v b) _ _ _
  obtain ⟨nm, bs, mro, ns, qn, has, sn, sb, ab, col, del⟩ := cd
  (dsimp only at hdct; subst hdct)
  (unfold storeInOwnDict ownDictForStores)
  repeat (first | with_reducible refine OEX.store_in_old hn hw hz ?_ | with_reducible refine wpAny_loadPart_at hx ?_ | with_reducible refine cls.at ?_ | wp_step)
  intro h' tk' hn' hs
  exact hq h' tk' (fun b o hb ho => (hs.2 b hb).trans ho) hn'
end

/-- a made error: e, its dict d with the fields m -/
structure Made (h h' : Heap) (e C d : Addr) (m : Str → Option Value) : Prop where
  keep : ∀ b o, h.get? b = some o → h'.get? b = some o
  new : h.objs.size ≤ e
  obj : ∃ t1 : Addr, h'.get? e = some { cls := .ref C, dict := some d, data := .fields #[.ref t1, .none, .none, .none, .bool false, .none] }
  dbig : h.objs.size ≤ d
  dne : d ≠ e
  ns : h'.Ns1 d m
def iBody1 (f : Str) (q1 q2 q3 q4 : Pos) : List Stmt := [.Assign [.Attribute (.Name "self" q1) f q2] (.Name f q3) q4]
def iBody2 (f f2 : Str) (q1 q2 q3 q4 r1 r2 r3 r4 : Pos) : List Stmt := [.Assign [.Attribute (.Name "self" q1) f q2] (.Name f q3) q4, .Assign [.Attribute (.Name "self" r1) f2 r2] (.Name f2 r3) r4]
def iScope (names : List Str) : Scope := { kind := .function, names := names.map fun n => (n, .local), isGenerator := false, isCoroutine := false, more := [] }
section
variable {prog : Program} {w : World} {A : Around} {E : Value → Shared → Prop} {R : Result → Shared → Prop} {s : Shared}
variable {K : W.Frag} {C fI : Addr} {B newId initId : String} {bmB : List Value} {fs : List Str}
variable {qual : Str} {params : Arguments} {oc dV kV doc pm cdv ct : Value} {an od : Option Addr} {osl : Array (Option Value)}
/-- a local read -/
theorem ld {M : Model} {s : Shared} {nm : Str} {sc : Scope} {L a : Addr} {cd : Value} {m : Str → Option Value} {x : Str} {pos : Pos} {v : Value} {Q : Value → Shared → Prop} {A : Around} {E : Value → Shared → Prop} (hn : s.heap.Ns L m) (hv : m x = some v) (h : Q v s)
    (hk : sc.kind = .function) (hl : (PyProof.Rows.envOfC nm sc L a cd).kindOf x = some .local) (hd : (x == ("__debug__" : Str)) = false) : wpAny M A (eval (.Name x pos) (PyProof.Rows.envOfC nm sc L a cd)) Q E s :=
  wpAny_Name (wpAny_loadName_local hk hl hn hv h) hd
theorem init1 (T : EC K C fI B newId initId bmB fs) {f : Str} {q1 q2 q3 q4 : Pos} {x t0 : Addr} {v : Value} {args : Args} (X : K.In s.heap) (lim : s.heap.NoLimit) (hx : s.heap.get? x = some (excO C t0)) (room : A.depth < recursionLimit)
    (at_ : K.lookup fI = some ⟨oc, od, .func (W.fnOf "__init__" qual params (iBody1 f q1 q2 q3 q4) (iScope ["self", f]) dV kV doc pm an cdv ct), osl⟩) (code : W.codeIn K cdv qual = true)
    (bd : BindsTo s (W.fnOf "__init__" qual params (iBody1 f q1 q2 q3 q4) (iScope ["self", f]) dV kV doc pm an cdv ct) args [("self", .ref x), (f, v)])
    (ht : f ∈ fs) (h1 : ("self" == f) = false) (h2 : (f == ("__debug__" : Str)) = false) (h3 : (f == ("self" : Str)) = false)
    (hq : ∀ h' tk dx, (∀ b o, b ≠ x → s.heap.get? b = some o → h'.get? b = some o) → h'.get? x = some { cls := .ref C, dict := some dx, data := .fields #[.ref t0, .none, .none, .none, .bool false, .none] } → s.heap.objs.size ≤ dx → dx ≠ x →
      h'.Ns1 dx (fun y => if y = f then some v else none) → R (.ok (.ret .none)) { s with heap := h', toks := tk }) :
    codeAny (model prog w) A (.call (.ref fI) args) R s := by
  have e1 : ("self" : Str) ≠ f := by simpa using h1
  have look : ∀ y : Str, (y = "self" ∨ y = f) → (iScope ["self", f]).names.lookup y = some .local := by
    intro y hy
    rcases hy with rfl | rfl
    · simp [iScope, List.lookup]
    · simp [iScope, List.lookup, h3]
  refine Att.call_fn (binds := [("self", .ref x), (f, v)]) X lim at_ code room bd (by simp [look]) (fun s₁ IC => ?_) rfl rfl rfl
  obtain ⟨hh, tk1, rfl⟩ := IC.toInCall.same
  have k : ∀ b o, s.heap.get? b = some o → hh.get? b = some o := IC.toInCall.keep
  have hn := IC.toInCall.ns
  have X1 : K.In hh := X.keeps k
  have x1 := k _ _ hx
  have k1 : (PyProof.Rows.envOfC qual (iScope ["self", f]) s.heap.objs.size fI cdv).kindOf "self" = some .local := look _ (.inl rfl)
  have k2 : (PyProof.Rows.envOfC qual (iScope ["self", f]) s.heap.objs.size fI cdv).kindOf f = some .local := look _ (.inr rfl)
  have m1 : bindL (PyProof.Rows.envOfC qual (iScope ["self", f]) s.heap.objs.size fI cdv).kindOf [("self", .ref x), (f, v)] (fun _ => none) "self" = some (.ref x) := by
    simp [bindL, k1, k2, e1]
  have m2 : bindL (PyProof.Rows.envOfC qual (iScope ["self", f]) s.heap.objs.size fI cdv).kindOf [("self", .ref x), (f, v)] (fun _ => none) f = some v := by
    simp [bindL, k1, k2]
  have z : s.heap.objs.size < hh.objs.size := hn.lt
  show wpAny _ _ (execs [.Assign [.Attribute (.Name "self" q1) f q2] (.Name f q3) q4] _) _ _ _
  refine wpAny_execs_cons (plainObj_wpAny_Assign_Attribute ?_)
  refine ld (v := v) hn m2 (ld (v := .ref x) hn m1 ?_ rfl k1 (by decide)) rfl k2 h2
  refine W.set_plain X1 (ox := excO C t0) (od := none) ⟨x1, rfl, rfl, trivial⟩ T.sa (put_new T X1 x1 ht (fun h3 tk3 dx k3 dn dne hx3 hn3 => ?_))
  show wpAny _ _ (execs [] _) _ _ _
  exact wpAny_execs_nil (hq h3 tk3 dx (fun b o hb e => k3 b o hb (k b o e)) hx3 (Nat.le_of_lt (Nat.lt_of_lt_of_le z dn)) dne hn3)
theorem init2 (T : EC K C fI B newId initId bmB fs) {f f2 : Str} {q1 q2 q3 q4 r1 r2 r3 r4 : Pos} {x t0 : Addr} {v v2 : Value} {args : Args} (X : K.In s.heap) (lim : s.heap.NoLimit) (hx : s.heap.get? x = some (excO C t0)) (room : A.depth < recursionLimit)
    (hnx : K.lookup x = none) (at_ : K.lookup fI = some ⟨oc, od, .func (W.fnOf "__init__" qual params (iBody2 f f2 q1 q2 q3 q4 r1 r2 r3 r4) (iScope ["self", f, f2]) dV kV doc pm an cdv ct), osl⟩) (code : W.codeIn K cdv qual = true)
    (bd : BindsTo s (W.fnOf "__init__" qual params (iBody2 f f2 q1 q2 q3 q4 r1 r2 r3 r4) (iScope ["self", f, f2]) dV kV doc pm an cdv ct) args [("self", .ref x), (f, v), (f2, v2)])
    (ht : f ∈ fs) (ht2 : f2 ∈ fs) (h1 : ("self" == f) = false) (h2 : (f == ("__debug__" : Str)) = false) (h3 : (f == ("self" : Str)) = false) (h4 : ("self" == f2) = false) (h5 : (f2 == ("__debug__" : Str)) = false) (h6 : (f2 == ("self" : Str)) = false) (h7 : (f2 == f) = false)
    (hq : ∀ h' tk dx, (∀ b o, b ≠ x → s.heap.get? b = some o → h'.get? b = some o) → h'.get? x = some { cls := .ref C, dict := some dx, data := .fields #[.ref t0, .none, .none, .none, .bool false, .none] } → s.heap.objs.size ≤ dx → dx ≠ x →
      h'.Ns1 dx (fun y => if y = f2 then some v2 else if y = f then some v else none) → R (.ok (.ret .none)) { s with heap := h', toks := tk }) :
    codeAny (model prog w) A (.call (.ref fI) args) R s := by
  have e1 : ("self" : Str) ≠ f := by simpa using h1
  have e4 : ("self" : Str) ≠ f2 := by simpa using h4
  have e7 : f2 ≠ f := by simpa using h7
  have look : ∀ y : Str, (y = "self" ∨ y = f ∨ y = f2) → (iScope ["self", f, f2]).names.lookup y = some .local := by
    intro y hy
    rcases hy with rfl | rfl | rfl
    · simp [iScope, List.lookup]
    · simp [iScope, List.lookup, h3]
    · simp [iScope, List.lookup, h6, h7]
  refine Att.call_fn (binds := [("self", .ref x), (f, v), (f2, v2)]) X lim at_ code room bd (by simp [look]) (fun s₁ IC => ?_) rfl rfl rfl
  obtain ⟨hh, tk1, rfl⟩ := IC.toInCall.same
  have k : ∀ b o, s.heap.get? b = some o → hh.get? b = some o := IC.toInCall.keep
  have hn := IC.toInCall.ns
  have X1 : K.In hh := X.keeps k
  have x1 := k _ _ hx
  have k1 : (PyProof.Rows.envOfC qual (iScope ["self", f, f2]) s.heap.objs.size fI cdv).kindOf "self" = some .local := look _ (.inl rfl)
  have k2 : (PyProof.Rows.envOfC qual (iScope ["self", f, f2]) s.heap.objs.size fI cdv).kindOf f = some .local := look _ (.inr (.inl rfl))
  have k3 : (PyProof.Rows.envOfC qual (iScope ["self", f, f2]) s.heap.objs.size fI cdv).kindOf f2 = some .local := look _ (.inr (.inr rfl))
  have m1 : bindL (PyProof.Rows.envOfC qual (iScope ["self", f, f2]) s.heap.objs.size fI cdv).kindOf [("self", .ref x), (f, v), (f2, v2)] (fun _ => none) "self" = some (.ref x) := by
    simp [bindL, k1, k2, k3, e1, e4]
  have m2 : bindL (PyProof.Rows.envOfC qual (iScope ["self", f, f2]) s.heap.objs.size fI cdv).kindOf [("self", .ref x), (f, v), (f2, v2)] (fun _ => none) f = some v := by
    simp [bindL, k1, k2, k3, Ne.symm e7]
  have m3 : bindL (PyProof.Rows.envOfC qual (iScope ["self", f, f2]) s.heap.objs.size fI cdv).kindOf [("self", .ref x), (f, v), (f2, v2)] (fun _ => none) f2 = some v2 := by
    simp [bindL, k1, k2, k3]
  have z : s.heap.objs.size < hh.objs.size := hn.lt
  have xL : x ≠ s.heap.objs.size := Nat.ne_of_lt (Heap.lt_size hx)
  show wpAny _ _ (execs [.Assign [.Attribute (.Name "self" q1) f q2] (.Name f q3) q4, .Assign [.Attribute (.Name "self" r1) f2 r2] (.Name f2 r3) r4] _) _ _ _
  refine wpAny_execs_cons (plainObj_wpAny_Assign_Attribute ?_)
  refine ld (v := v) hn m2 (ld (v := .ref x) hn m1 ?_ rfl k1 (by decide)) rfl k2 h2
  refine W.set_plain X1 (ox := excO C t0) (od := none) ⟨x1, rfl, rfl, trivial⟩ T.sa (put_new T X1 x1 ht (fun hA tkA dx kA dn dne hxA hnA => ?_))
  obtain ⟨oD, esD, epD, hoD, hdD, _⟩ := hnA.count (Within.cons f v Within.nil)
  have hnL : hA.Ns s.heap.objs.size _ := hn.at fun o q => kA _ o xL.symm q
  have XA : K.In hA := fun b o q => kA b o (fun e => by rw [e, hnx] at q; cases q) (X1 b o q)
  refine wpAny_execs_cons (plainObj_wpAny_Assign_Attribute ?_)
  refine ld (v := v2) hnL m3 (ld (v := .ref x) hnL m1 ?_ rfl k1 (by decide)) rfl k3 h5
  refine W.set_plain XA (ox := { cls := .ref C, dict := some dx, data := .fields #[.ref t0, .none, .none, .none, .bool false, .none] }) (od := some oD) ⟨hxA, rfl, rfl, hoD⟩ T.sa
    (put_old T XA hxA hnA (Within.cons f v Within.nil) (by simp) ht2 (fun hB tkB kB hnB => ?_))
  show wpAny _ _ (execs [] _) _ _ _
  refine wpAny_execs_nil (hq hB tkB dx (fun b o hb e => kB b o ?_ (kA b o hb (k b o e))) (kB x _ (Ne.symm dne) hxA) (Nat.le_of_lt (Nat.lt_of_lt_of_le z dn)) dne hnB)
  exact Nat.ne_of_lt (Nat.lt_of_lt_of_le (Heap.lt_size (k b o e)) dn)
/-- C(..), from what its __init__ does -/
theorem made_by (T : EC K C fI B newId initId bmB fs) {us : List Value} {kw : List (Str × Value)} {m : Str → Option Value} (X : K.In s.heap) (hz : us.length ≤ sizeLine) (room : A.depth + 1 < recursionLimit)
    (hi : ∀ (A' : Around) (s' : Shared) (x t0 : Addr) (R' : Result → Shared → Prop), (∀ b o, s.heap.get? b = some o → s'.heap.get? b = some o) → s'.heap.get? x = some (excO C t0) → K.lookup x = none → A'.depth < recursionLimit →
      (∀ h' tk dx, (∀ b o, b ≠ x → s'.heap.get? b = some o → h'.get? b = some o) → h'.get? x = some { cls := .ref C, dict := some dx, data := .fields #[.ref t0, .none, .none, .none, .bool false, .none] } → s'.heap.objs.size ≤ dx → dx ≠ x →
        h'.Ns1 dx m → R' (.ok (.ret .none)) { s' with heap := h', toks := tk }) → codeAny (model prog w) A' (.call (.ref fI) ⟨.ref x :: us, kw⟩) R' s')
    (hq : ∀ h' tk e d, Made s.heap h' e C d m → R (.ok (.ret (.ref e))) { s with heap := h', toks := tk }) :
    codeAny (model prog w) A (.call (.ref C) ⟨us, kw⟩) R s := by
  obtain ⟨nm, N, qn, bs, bm, hdct, sn, sub, ab, col, dd, k0, k1, k2, k3, k5, hC, hT⟩ := W.excInit_of X T.init
  obtain ⟨hp, g, dr, tk, os⟩ := s
  have k : ∀ b o, hp.get? b = some o → (newHeap hp C us).get? b = some o := fun b o e => Heap.get?_push_of_some _ (Heap.get?_push_of_some _ e)
  have x1 : (newHeap hp C us).get? (hp.objs.size + 1) = some (excO C hp.objs.size) := by (show ((hp.push (W.kdv_tup us)).push (excO C hp.objs.size)).get? (hp.objs.size + 1) = _; heap_get)
  have nx : K.lookup (hp.objs.size + 1) = none := by
    cases e : K.lookup (hp.objs.size + 1) with
    | none => rfl
    | some o => exact absurd (Nat.lt_of_succ_lt (Heap.lt_size (X _ _ e))) (Nat.lt_irrefl _)
  refine call_any T.base hT hC (W.looks_findIn X T.iC) (fun self => W.bind_fn X self T.tI) hz ?_
  refine hi _ ⟨newHeap hp C us, g, dr, tk, os⟩ (hp.objs.size + 1) hp.objs.size _ k x1 nx (by rw [make_depth]; exact room) (fun h' tk' dx k' hx dn dne hns => ?_)
  have z : hp.objs.size + 1 + 1 ≤ dx := by
    have q : (newHeap hp C us).objs.size ≤ dx := dn
    rw [Heap.size_push, Heap.size_push] at q
    exact q
  exact ⟨rfl, hq h' tk' (hp.objs.size + 1) dx ⟨fun b o e => k' b o (Nat.ne_of_lt (Nat.lt_succ_of_lt (Heap.lt_size e))) (k b o e), Nat.le_succ _, ⟨_, hx⟩, (by show hp.objs.size ≤ dx; omega), dne, hns⟩⟩
end

section
variable {X : Cx} {pins : List (Addr × Obj)} {σ : L2.St} {H : Hp} {s : Shared} {C : Addr}
theorem relO_one {v : V} {u : Value} (r : RelV v u) (f y : Str) : RelO (List.lookup y [(f, v)]) (if y = f then some u else none) := relO_put (fs := []) (mA := fun _ => none) r (fun _ => trivial) y
theorem relO_two {v v2 : V} {u u2 : Value} (r : RelV v u) (r2 : RelV v2 u2) (f f2 y : Str) : RelO (List.lookup y [(f2, v2), (f, v)]) (if y = f2 then some u2 else if y = f then some u else none) :=
  relO_put (fs := [(f, v)]) (mA := fun y => if y = f then some u else none) r2 (fun g => relO_one r f g) y
/-- a made error, tracked -/
theorem Inv.err (I : Inv X pins σ H s) {h' : Heap} {tk : Nat} {e d : Addr} {m : Str → Option Value} {fs : List (Str × V)} (M : Made s.heap h' e C d m) (r : ∀ y, RelO (fs.lookup y) (m y)) :
    H e = none ∧ H d = none ∧ Inv X pins σ (upd (upd H d (exd d fs)) e (exo e C (some d))) { s with heap := h', toks := tk } := by
  have ne := I.hok.fresh M.new
  have nd := I.hok.fresh M.dbig
  have be : ∀ {b : Addr} {o : Obj}, s.heap.get? b = some o → b ≠ e := fun q => Nat.ne_of_lt (Nat.lt_of_lt_of_le (Heap.lt_size q) M.new)
  have bd : ∀ {b : Addr} {o : Obj}, s.heap.get? b = some o → b ≠ d := fun q => Nat.ne_of_lt (Nat.lt_of_lt_of_le (Heap.lt_size q) M.dbig)
  have keepH : ∀ {b : Addr} {o : HO}, H b = some o → upd (upd H d (exd d fs)) e (exo e C (some d)) b = some o := fun q => by
    rw [upd_ne (ne_of_none q ne), upd_ne (ne_of_none q nd)]
    exact q
  refine ⟨ne, nd, I.un (t' := tk) { keep := fun b o q _ _ _ => M.keep b o q, slot := fun b o q _ _ _ => ⟨o.slots, M.keep b o q⟩, free := fun b o q n _ => ?_, there := fun b o q _ => ⟨o, M.keep b o q⟩, tups := fun b xs q => keepH q, frzs := fun b o u q => keepH q, tbls := fun b ps q => ⟨#[], by rw [keepH q]; simp⟩ } (fun b o q => ?_)⟩
  · rw [upd_ne (be q), upd_ne (bd q)]
    exact n
  · by_cases hb : b = e
    · subst hb
      rw [upd_same] at q
      cases q
      obtain ⟨t1, ht⟩ := M.obj
      exact exo_ok ht
    · rw [upd_ne hb] at q
      by_cases hd : b = d
      · subst hd
        rw [upd_same] at q
        cases q
        exact exd_ok M.ns r
      · rw [upd_ne hd] at q
        exact (I.hok b o q).stay (fun c v _ z => M.keep c v z) (fun c z => keepH z) fun c xs z => keepH z
end
end Ge

set_option Elab.async false
set_option linter.all false
set_option maxRecDepth 100000
set_option maxHeartbeats 4000000
/-! Rules: an own error made, its field read, isinstance of it. -/
namespace Ge
open PySem PySem.Spec L2 PySem.HandSPX

/-- an error class of one parameter | of two | without an own __init__: what its call makes -/
structure E1 (K : W.Frag) (C : Addr) (f : Str) : Prop where
  keep : W.keepIn K (.ref C) = true
  does : ∀ {prog : Program} {w : World} {A : Around} {R : Result → Shared → Prop} {s : Shared} {us : List Value} {kw : List (Str × Value)} {v : Value}, (us = [v] ∧ kw = []) ∨ (us = [] ∧ kw = [(f, v)]) → K.In s.heap → s.heap.NoLimit → A.depth + 1 < recursionLimit →
    (∀ h' tk e d, Made s.heap h' e C d (fun y => if y = f then some v else none) → R (.ok (.ret (.ref e))) { s with heap := h', toks := tk }) → codeAny (model prog w) A (.call (.ref C) ⟨us, kw⟩) R s
structure E2 (K : W.Frag) (C : Addr) (f f2 : Str) : Prop where
  keep : W.keepIn K (.ref C) = true
  does : ∀ {prog : Program} {w : World} {A : Around} {R : Result → Shared → Prop} {s : Shared} {us : List Value} {kw : List (Str × Value)} {v v2 : Value}, (us = [v, v2] ∧ kw = []) ∨ (us = [] ∧ kw = [(f2, v2), (f, v)]) → K.In s.heap → s.heap.NoLimit → A.depth + 1 < recursionLimit →
    (∀ h' tk e d, Made s.heap h' e C d (fun y => if y = f2 then some v2 else if y = f then some v else none) → R (.ok (.ret (.ref e))) { s with heap := h', toks := tk }) → codeAny (model prog w) A (.call (.ref C) ⟨us, kw⟩) R s
structure E0c (K : W.Frag) (C : Addr) : Prop where
  keep : W.keepIn K (.ref C) = true
  does : ∀ {prog : Program} {w : World} {A : Around} {E : Value → Shared → Prop} {Q : Value → Shared → Prop} {s : Shared}, K.In s.heap →
    (∀ h' e t, (∀ b o, s.heap.get? b = some o → h'.get? b = some o) → s.heap.objs.size ≤ e → h'.get? e = some (W.excObj C t none .none) → Q (.ref e) { s with heap := h' }) → wpAny (model prog w) A (call (.ref C) []) Q E s

section
variable {X : Cx} {C : Addr} {x f f2 : Str} {e e2 : Expr} {es : List Expr} {kws : List Keyword} {te te2 : TE} {ta tk : TA} {p pos kp kp2 : Pos} {k : Nat} {pins : List (Addr × Obj)} {σ : L2.St} {H : Hp} {s : Shared} {Q : VK}
/-- the heap with a new error at e, its dict at d -/
abbrev withErr (H : Hp) (C e d : Addr) (fs : List (Str × V)) : Hp := upd (upd H d (exd d fs)) e (exo e C (some d))
def tMk1 (C : Addr) (f : Str) (ta : TA) : TE := fun σ H Q => ta σ H fun vs H1 => ∃ v, vs = [v] ∧ ∀ e d, H1 e = none → H1 d = none → d ≠ e → Q (.ref e) (withErr H1 C e d [(f, v)])
def tMk2 (C : Addr) (f f2 : Str) (ta : TA) : TE := fun σ H Q => ta σ H fun vs H1 => ∃ v v2, vs = [v, v2] ∧ ∀ e d, H1 e = none → H1 d = none → d ≠ e → Q (.ref e) (withErr H1 C e d [(f2, v2), (f, v)])
def tMk2k (C : Addr) (f f2 : Str) (ta : TA) : TE := fun σ H Q => ta σ H fun vs H1 => ∃ v v2, vs = [v2, v] ∧ ∀ e d, H1 e = none → H1 d = none → d ≠ e → Q (.ref e) (withErr H1 C e d [(f2, v2), (f, v)])
def tMk0 (C : Addr) : TE := fun _ H Q => ∀ e, H e = none → Q (.ref e) (upd H e (exo e C none))
theorem run1 (T : E1 X.K C f) (hr : Room k X.A) (I : Inv X pins σ H s) {us : List Value} {kw : List (Str × Value)} {v : V} {u : Value} (ru : RelV v u) (h : (us = [u] ∧ kw = []) ∨ (us = [] ∧ kw = [(f, u)]))
    (q : ∀ e d, H e = none → H d = none → d ≠ e → Q (.ref e) (withErr H C e d [(f, v)])) : wpAny (model X.prog X.w) X.A (call (.ref C) us kw) (EP X pins σ Q) X.xe s := by
  refine wpAny_call (T.does h I.kIn I.nolimit (by have := hr.dp; omega) (fun h' tk e d M => ?_))
  obtain ⟨ne, nd, J⟩ := Inv.err (tk := tk) I M (relO_one ru f)
  exact ⟨.ref e, _, J, rfl, q e d ne nd M.dne⟩
theorem run2 (T : E2 X.K C f f2) (hr : Room k X.A) (I : Inv X pins σ H s) {us : List Value} {kw : List (Str × Value)} {v v2 : V} {u u2 : Value} (ru : RelV v u) (ru2 : RelV v2 u2) (h : (us = [u, u2] ∧ kw = []) ∨ (us = [] ∧ kw = [(f2, u2), (f, u)]))
    (q : ∀ e d, H e = none → H d = none → d ≠ e → Q (.ref e) (withErr H C e d [(f2, v2), (f, v)])) : wpAny (model X.prog X.w) X.A (call (.ref C) us kw) (EP X pins σ Q) X.xe s := by
  refine wpAny_call (T.does h I.kIn I.nolimit (by have := hr.dp; omega) (fun h' tk e d M => ?_))
  obtain ⟨ne, nd, J⟩ := Inv.err (tk := tk) I M (relO_two ru ru2 f f2)
  exact ⟨.ref e, _, J, rfl, q e d ne nd M.dne⟩
/-- X(e) | X(e, e2) | X() -/
theorem pe_mk1 (T : E1 X.K C f) (hr : Room k X.A) (hg : Gl X x) (hm : X.mg x = some (.ref C)) (ha : PA X (e :: es) ta) (hdb : (x == ("__debug__" : Str)) = false := by decide)
    (hs : starEach (e :: es) X.env = (false, eval e X.env) :: starEach es X.env := by rfl) (hpl : (backTo pos (starEach es X.env)).any (·.1) = false := by rfl) : PE X (.Call (.Name x p) (e :: es) [] pos) (tMk1 C f ta) := by
  refine ⟨fun pins s σ H Q I h => wpAny_Call_Name_kw (ld_glob I hg hm ?_ hdb)⟩
  refine PySem.W.callWith_K (h₀ := X.base) I.ok.mod.kin T.keep (thn (ha.run pos pins s σ H _ I h) fun us s1 ⟨vs, H1, I1, r, v, ev, q⟩ => ⟨I1.kIn, ?_⟩) hs hpl
  subst ev
  obtain ⟨u, rfl, ru⟩ := vals1 r
  exact run1 T hr I1 ru (.inl ⟨rfl, rfl⟩) q
theorem pe_mk2 (T : E2 X.K C f f2) (hr : Room k X.A) (hg : Gl X x) (hm : X.mg x = some (.ref C)) (ha : PA X (e :: es) ta) (hdb : (x == ("__debug__" : Str)) = false := by decide)
    (hs : starEach (e :: es) X.env = (false, eval e X.env) :: starEach es X.env := by rfl) (hpl : (backTo pos (starEach es X.env)).any (·.1) = false := by rfl) : PE X (.Call (.Name x p) (e :: es) [] pos) (tMk2 C f f2 ta) := by
  refine ⟨fun pins s σ H Q I h => wpAny_Call_Name_kw (ld_glob I hg hm ?_ hdb)⟩
  refine PySem.W.callWith_K (h₀ := X.base) I.ok.mod.kin T.keep (thn (ha.run pos pins s σ H _ I h) fun us s1 ⟨vs, H1, I1, r, v, v2, ev, q⟩ => ⟨I1.kIn, ?_⟩) hs hpl
  subst ev
  obtain ⟨u, u2, rfl, ru, ru2⟩ := vals2 r
  exact run2 T hr I1 ru ru2 (.inl ⟨rfl, rfl⟩) q
theorem pe_mk0 (T : E0c X.K C) (hg : Gl X x) (hm : X.mg x = some (.ref C)) (hdb : (x == ("__debug__" : Str)) = false := by decide) : PE X (.Call (.Name x p) [] [] pos) (tMk0 C) := by
  refine ⟨fun pins s σ H Q I h => wpAny_Call_Name_kw (ld_glob I hg hm ?_ hdb)⟩
  refine PySem.W.callWith_K0 I.kIn T.keep ?_
  refine T.does I.kIn (fun h' e t kp new he => ?_)
  obtain ⟨hp, g, dr, tk, os⟩ := s
  exact ⟨.ref e, _, I.laid (t' := tk) kp new (exo_ok he), rfl, h e (I.hok.fresh new)⟩
/-- X(f = e) | X(f2 = e2, f = e) -/
theorem pe_mk1k (T : E1 X.K C f) (hr : Room k X.A) (hg : Gl X x) (hm : X.mg x = some (.ref C)) (hk : PK X kws tk) (hall : (backToKw pos (keywordEach kws X.env)).all (·.1.isSome) = true := by rfl) (hks : (backToKw pos (keywordEach kws X.env)).filterMap (·.1) = [f] := by rfl)
    (hdb : (x == ("__debug__" : Str)) = false := by decide) (hpl : ((backTo pos (starEach [] X.env)).any (·.1) || (backToKw pos (keywordEach kws X.env)).any (·.1.isNone)) = false := by rfl) : PE X (.Call (.Name x p) [] kws pos) (tMk1 C f tk) := by
  refine ⟨fun pins s σ H Q I h => wpAny_Call_Name_kw (ld_glob I hg hm ?_ hdb)⟩
  refine PySem.W.callWith_KW0 (h₀ := X.base) I.ok.mod.kin T.keep hall (thn (hk.run pos pins s σ H _ I h) fun us s1 ⟨vs, H1, I1, r, v, ev, q⟩ => ⟨I1.kIn, ?_⟩) hpl
  subst ev
  obtain ⟨u, rfl, ru⟩ := vals1 r
  rw [hks]
  exact run1 T hr I1 ru (.inr ⟨rfl, rfl⟩) q
theorem pe_mk2k (T : E2 X.K C f f2) (hr : Room k X.A) (hg : Gl X x) (hm : X.mg x = some (.ref C)) (hk : PK X kws tk) (hall : (backToKw pos (keywordEach kws X.env)).all (·.1.isSome) = true := by rfl) (hks : (backToKw pos (keywordEach kws X.env)).filterMap (·.1) = [f2, f] := by rfl)
    (hdb : (x == ("__debug__" : Str)) = false := by decide) (hpl : ((backTo pos (starEach [] X.env)).any (·.1) || (backToKw pos (keywordEach kws X.env)).any (·.1.isNone)) = false := by rfl) : PE X (.Call (.Name x p) [] kws pos) (tMk2k C f f2 tk) := by
  refine ⟨fun pins s σ H Q I h => wpAny_Call_Name_kw (ld_glob I hg hm ?_ hdb)⟩
  refine PySem.W.callWith_KW0 (h₀ := X.base) I.ok.mod.kin T.keep hall (thn (hk.run pos pins s σ H _ I h) fun us s1 ⟨vs, H1, I1, r, v, v2, ev, q⟩ => ⟨I1.kIn, ?_⟩) hpl
  subst ev
  obtain ⟨u2, u, rfl, ru2, ru⟩ := vals2 r
  rw [hks]
  exact run2 T hr I1 ru ru2 (.inr ⟨rfl, rfl⟩) q
end

/-- what a class says, so that its errors are read and asked rightly -/
structure EA (K : W.Frag) (C : Addr) : Prop where
  ga : W.findIn K (.ref C) "__getattribute__" = some (some (.builtin "BaseException.__getattribute__"))
  gg : W.findIn K (.ref C) "__getattr__" = some none
  exC : W.subIn K (.ref C) (.type "BaseException") = some true
  hd : W.hasDictIn K C = true
  cl : W.findIn K (.ref C) "__class__" = some (some (.builtin "object.__class__"))
  ob : W.mroIn K C (.type "object") = some true
  gt : W.specialIn K (.builtin "object.__class__") "__get__" = some (some (.builtin "getset_descriptor.__get__"))
  tk : W.takesIn K (.builtin "object.__class__") = some true
section
variable {X : Cx} {o : Expr} {to : TE} {f : Str} {pos : Pos}
/-- o.f, o an own error -/
def tEf (K : W.Frag) (f : Str) (to : TE) : TE := fun σ H Q => to σ H fun x H1 => ∃ (e C d : Addr) (fs : List (Str × V)) (v : V), x = .ref e ∧ EA K C ∧ W.findIn K (.ref C) f = some none ∧ H1 e = some (exo e C (some d)) ∧ H1 d = some (exd d fs) ∧ fs.lookup f = some v ∧ Q v H1
theorem pe_ef (he : PE X o to) (hb : attributeBase o f X.env (eval o X.env) = eval o X.env := by rfl) : PE X (.Attribute o f pos) (tEf X.K f to) := by
  refine ⟨fun pins s σ H Q I h => ?_⟩
  refine attr_of hb (thn (he.run pins s σ H _ I h) fun u s1 ⟨x, H1, I1, rx, e, C, d, fs, v, ex, T, nf, h1, h2, l, q⟩ => ?_)
  subst ex
  obtain rfl : u = Value.ref e := rx
  obtain ⟨t1, ho⟩ := exo_at I1.hok h1
  obtain ⟨mA, hn, rel⟩ := exd_at I1.hok h2
  obtain ⟨od, hod, lk⟩ := lookIn_ns hn
  obtain ⟨u, hu, ru⟩ := RelO.some_of (v := v) (o := mA f) (by rw [← l]; exact rel f)
  have J : PySem.W.InstAt s1.heap e { cls := .ref C, dict := some d, data := .fields #[.ref t1, .none, .none, .none, .bool false, .none] } C (some od) := ⟨ho, rfl, rfl, hod⟩
  exact HandSPX.exc_get I1.kIn J T.ga T.gg T.exC (PySem.W.findObj_own T.hd nf rfl (by rw [lk, hu])) (handed_of ru) ⟨v, H1, I1.tok _, ru, q⟩
/-- isinstance(e, c), e an own error that is tracked -/
def rIsX (K : W.Frag) : List V → Hp → VK → Prop := fun xs H Q => ∃ (e C : Addr) (d : Option Addr) (c : V) (u : Value) (b : Bool), xs = [.ref e, c] ∧ H e = some (exo e C d) ∧ (∀ dx, d = some dx → ∃ fs, H dx = some (exd dx fs)) ∧ EA K C ∧ ClsV c u ∧ W.kitOne K (.ref C) u = some b ∧ Q (.bl b) H
theorem call_isX : CallR X (.builtin "isinstance") (rIsX X.K) := by
  intro pins s σ H xs us Q I r h
  obtain ⟨e, C, d, c, cu, b, rfl, h1, h2, T, hc, hk, q⟩ := h
  obtain ⟨u1, u2, rfl, r1, r2⟩ := vals2 r
  have e2 := hc.eq r2
  subst e2
  obtain rfl : u1 = Value.ref e := r1
  obtain ⟨t1, ho⟩ := exo_at I.hok h1
  have cl : (PySem.W.clsIn X.K C).isSome = true := by
    obtain ⟨cd, z, _⟩ := PySem.W.any_some T.hd
    rw [z]
    rfl
  have go : ∀ od, PySem.W.InstAt s.heap e { cls := .ref C, dict := d, data := .fields #[.ref t1, .none, .none, .none, .bool false, .none] } C od → wpAny (model X.prog X.w) X.A (call (.builtin "isinstance") [.ref e, u2]) (EP X pins σ Q) X.xe s := fun od J =>
    PySem.W.kia_one (PySem.W.kitx_exc cl T.ga T.gg T.exC T.cl T.gt T.tk T.ob) I.kIn J hk (fun z => nomatch z) fun tk => ⟨.bl b, H, I.tok tk, rfl, q⟩
  cases d with
  | none => exact go none ⟨ho, rfl, rfl, trivial⟩
  | some dx =>
    obtain ⟨fs, hx⟩ := h2 dx rfl
    obtain ⟨mA, hn, _⟩ := exd_at I.hok hx
    obtain ⟨od, hod, _⟩ := lookIn_ns hn
    exact go (some od) ⟨ho, rfl, rfl, hod⟩
end

/-! ### from the text's facts -/
section
variable {K : W.Frag} {C fI : Addr} {B newId initId : String} {bmB : List Value} {fs : List Str} {f f2 qual : Str} {params : Arguments} {oc dV kV doc pm cdv ct : Value} {an od : Option Addr} {osl : Array (Option Value)} {q1 q2 q3 q4 r1 r2 r3 r4 : Pos}
theorem e1_of (T : EC K C fI B newId initId bmB fs) (ht : f ∈ fs) (code : W.codeIn K cdv qual = true)
    (at_ : K.lookup fI = some ⟨oc, od, .func (W.fnOf "__init__" qual params (iBody1 f q1 q2 q3 q4) (iScope ["self", f]) dV kV doc pm an cdv ct), osl⟩)
    (bp : ∀ x v, bindArgs (W.fnOf "__init__" qual params (iBody1 f q1 q2 q3 q4) (iScope ["self", f]) dV kV doc pm an cdv ct) ⟨[x, v], []⟩ = pure [(("self" : Str), x), (f, v)])
    (bk : ∀ x v, bindArgs (W.fnOf "__init__" qual params (iBody1 f q1 q2 q3 q4) (iScope ["self", f]) dV kV doc pm an cdv ct) ⟨[x], [(f, v)]⟩ = pure [(("self" : Str), x), (f, v)])
    (h1 : ("self" == f) = false := by decide) (h2 : (f == ("__debug__" : Str)) = false := by decide) (h3 : (f == ("self" : Str)) = false := by decide) : E1 K C f where
  keep := T.keep
  does := by
    intro prog w A R s us kw v h X lim room hq
    have hz : us.length ≤ sizeLine := by
      rcases h with ⟨rfl, _⟩ | ⟨rfl, _⟩
      · show 1 ≤ sizeLine
        decide
      · exact Nat.zero_le _
    refine made_by T X hz room (fun A' s' x t0 R' kp hx nx room' fin => ?_) hq
    refine init1 T (X.keeps kp) (lim.keeps kp) hx room' at_ code ?_ ht h1 h2 h3 fin
    rcases h with ⟨rfl, rfl⟩ | ⟨rfl, rfl⟩
    · exact .of_eq (bp _ _)
    · exact .of_eq (bk _ _)
theorem e2_of (T : EC K C fI B newId initId bmB fs) (ht : f ∈ fs) (ht2 : f2 ∈ fs) (code : W.codeIn K cdv qual = true)
    (at_ : K.lookup fI = some ⟨oc, od, .func (W.fnOf "__init__" qual params (iBody2 f f2 q1 q2 q3 q4 r1 r2 r3 r4) (iScope ["self", f, f2]) dV kV doc pm an cdv ct), osl⟩)
    (bp : ∀ x v v2, bindArgs (W.fnOf "__init__" qual params (iBody2 f f2 q1 q2 q3 q4 r1 r2 r3 r4) (iScope ["self", f, f2]) dV kV doc pm an cdv ct) ⟨[x, v, v2], []⟩ = pure [(("self" : Str), x), (f, v), (f2, v2)])
    (bk : ∀ x v v2, bindArgs (W.fnOf "__init__" qual params (iBody2 f f2 q1 q2 q3 q4 r1 r2 r3 r4) (iScope ["self", f, f2]) dV kV doc pm an cdv ct) ⟨[x], [(f2, v2), (f, v)]⟩ = pure [(("self" : Str), x), (f, v), (f2, v2)])
    (h1 : ("self" == f) = false := by decide) (h2 : (f == ("__debug__" : Str)) = false := by decide) (h3 : (f == ("self" : Str)) = false := by decide) (h4 : ("self" == f2) = false := by decide) (h5 : (f2 == ("__debug__" : Str)) = false := by decide)
    (h6 : (f2 == ("self" : Str)) = false := by decide) (h7 : (f2 == f) = false := by decide) : E2 K C f f2 where
  keep := T.keep
  does := by
    intro prog w A R s us kw v v2 h X lim room hq
    have hz : us.length ≤ sizeLine := by
      rcases h with ⟨rfl, _⟩ | ⟨rfl, _⟩
      · show 2 ≤ sizeLine
        decide
      · exact Nat.zero_le _
    refine made_by T X hz room (fun A' s' x t0 R' kp hx nx room' fin => ?_) hq
    refine init2 T (X.keeps kp) (lim.keeps kp) hx room' nx at_ code ?_ ht ht2 h1 h2 h3 h4 h5 h6 h7 fin
    rcases h with ⟨rfl, rfl⟩ | ⟨rfl, rfl⟩
    · exact .of_eq (bp _ _ _)
    · exact .of_eq (bk _ _ _)
theorem e0_of (F : ExcBaseFacts B newId initId bmB) (hi : W.findIn K (.ref C) "__init__" = some (some (.builtin initId))) (q : W.excInitIn K C bmB newId = true) (kp : W.keepIn K (.ref C) = true) : E0c K C where
  keep := kp
  does := by
    intro prog w A E Q s X hq
    obtain ⟨nm, N, qn, bs, bm, hdct, sn, sub, ab, col, dd, k0, k1, k2, k3, k5, hC, hT⟩ := W.excInit_of X q
    obtain ⟨hp, g, dr, tk, os⟩ := s
    exact W.call_B F hT hC (W.looks_findIn X hi) (Nat.zero_le _) (fun h' k he _ => hq h' _ _ k (Nat.le_succ _) he)
end
end Ge

set_option Elab.async false
set_option linter.all false
set_option maxRecDepth 100000
set_option maxHeartbeats 4000000
/-! Rules that want no types told; a def by its name. -/
namespace Gd
open PySem PySem.Spec L2
section
variable {X : Cx}
theorem op_addA : OpR X (binaryOp .Add) (fun x y H Q => (rI0 (fun i j => .int (i + j)) x y H Q) ∨ (∃ i j, x = .str i ∧ y = .str j ∧ i.length + j.length ≤ sizeLine ∧ Q (.str (i ++ j)) H) ∨ rCat x y H Q) := op_add.or (op_add_str.or op_cat)
theorem op_mulA : OpR X (binaryOp .Mult) (fun x y H Q => (rI CMulW (fun i j => .int (i * j)) x y H Q) ∨ rRep x y H Q) := op_mulW.or op_rep
theorem op_eqA {k : Nat} (hr : Room k X.A) : OpR X (compareOp .Eq) (fun x y H Q => rEq x y H Q ∨ rEqD X.K x y H Q) := op_eq.or (op_eqD hr.units)
theorem op_neA {k : Nat} (hr : Room k X.A) : OpR X (compareOp .NotEq) (fun x y H Q => rNe x y H Q ∨ rNeD X.K x y H Q) := op_ne.or (op_neD hr.units)
theorem call_lenA : CallR X (.builtin "len") (fun xs H Q => (∃ p ys, xs = [.ref p] ∧ (SqL X.K H p ys ∨ SqT X.K H p ys) ∧ Q (.int ys.length) H) ∨ (∃ z, xs = [.str z] ∧ z.length ≤ sizeLine ∧ Q (.int z.length) H)) := call_len_seq.or call_len_str
end
/-- the written part, told by a letter of its own -/
structure IsK (K : W.Frag) : Prop where
  t : True
section
variable {X : Cx} {K : W.Frag}
theorem ixK (_ : IsK K) (h : X.K = K := by rfl) : IxR X (rIx K) := h ▸ ix_seq
theorem inK (_ : IsK K) (h : X.K = K := by rfl) : OpR X (compareOp .In) (rIn K false) := h ▸ op_in_seq
theorem niK (_ : IsK K) (h : X.K = K := by rfl) : OpR X (compareOp .NotIn) (rIn K true) := h ▸ op_notIn_seq
theorem eqK (_ : IsK K) {k : Nat} (hr : Room k X.A) (h : X.K = K := by rfl) : OpR X (compareOp .Eq) (fun x y H Q => rEq x y H Q ∨ rEqD K x y H Q) := h ▸ op_eqA hr
theorem neK (_ : IsK K) {k : Nat} (hr : Room k X.A) (h : X.K = K := by rfl) : OpR X (compareOp .NotEq) (fun x y H Q => rNe x y H Q ∨ rNeD K x y H Q) := h ▸ op_neA hr
def rLenK (K : W.Frag) : List V → Hp → VK → Prop := fun xs H Q => (∃ p ys, xs = [.ref p] ∧ (SqL K H p ys ∨ SqT K H p ys) ∧ Q (.int ys.length) H) ∨ (∃ z, xs = [.str z] ∧ z.length ≤ sizeLine ∧ Q (.int z.length) H)
theorem lenK (_ : IsK K) (h : X.K = K := by rfl) : CallR X (.builtin "len") (rLenK K) := h ▸ call_lenA
theorem allK (_ : IsK K) (hc : X.calm = true) (h : X.K = K := by rfl) : CallR X (.builtin "all") (rAll K) := h ▸ cr_all hc
def rTupK (K : W.Frag) : List V → Hp → VK → Prop := fun xs H Q => ∃ p ys, xs = [.ref p] ∧ ((SqL K H p ys ∧ ∀ l, H l = none → Q (.ref l) (upd H l (.tup ys))) ∨ (SqT K H p ys ∧ Q (.ref p) H))
theorem tupK (_ : IsK K) (h : X.K = K := by rfl) : CallR X (.type "tuple") (rTupK K) := h ▸ call_tuple_of
theorem isXK (_ : IsK K) (h : X.K = K := by rfl) : CallR X (.builtin "isinstance") (Ge.rIsX K) := h ▸ Ge.call_isX
theorem efK (_ : IsK K) {o : Expr} {to : TE} {f : Str} {pos : Pos} (he : PE X o to) (hb : attributeBase o f X.env (eval o X.env) = eval o X.env := by rfl) (h : X.K = K := by rfl) : PE X (.Attribute o f pos) (Ge.tEf K f to) := h ▸ Ge.pe_ef he hb
theorem listK (_ : IsK K) {tg l : Expr} {tl : TE} (hl : PE X l tl) (h : X.K = K := by rfl) : PI X tg l (iList K tl) := h ▸ pi_list hl
theorem tupiK (_ : IsK K) {tg l : Expr} {tl : TE} (hl : PE X l tl) (h : X.K = K := by rfl) : PI X tg l (iTup K tl) := h ▸ pi_tup hl
def rJoinK (K : W.Frag) : V → List V → Hp → VK → Prop := fun x xs H Q => ∃ a p, ∃ ys : List Str, x = .str a ∧ xs = [.ref p] ∧ (SqL K H p (ys.map V.str) ∨ SqT K H p (ys.map V.str)) ∧ (ys.map (·.length)).sum + ys.length * a.length ≤ 16777216 ∧ Q (.str (Txt.join a ys)) H
theorem joinK (_ : IsK K) {o e : Expr} {to te : TE} {apos pos : Pos} (ho : PE X o to) (he : PE X e te) (hs : starEach [e] X.env = [(false, eval e X.env)] := by rfl) (hbase : attributeBase o "join" X.env (eval o X.env) = eval o X.env := by rfl) (hline : (apos.endLine == pos.line) = true := by rfl) (h : X.K = K := by rfl) :
    PE X (.Call (.Attribute o "join" apos) [e] [] pos) (tM1 (rJoinK K) to te) := h ▸ pe_join ho he hs hbase hline
end
structure Frees (mg : Str → Option Value) : Prop where
  h : ∀ x, frees.contains x = true → mg x = none
/-- names of the module's own objects -/
structure Globs (K : W.Frag) (names : List Str) (mg : Str → Option Value) : Prop where
  h : ∀ x, names.contains x = true → mg x = some (.ref (He.ga K x))
/-- a def by its name: somewhere, keeping sp at level k, wherever it is called | where no repr is under way -/
def Dn (P : Program) (w : World) (K : W.Frag) (mg : Str → Option Value) (base : Heap) (CX : CXT) (k : Nat) (x : Str) (ps : List Str) (sp : Sp) : Prop :=
  ∃ f fd, FnOk P w K mg base CX k f fd ps sp ∧ mg x = some (.ref f) ∧ W.keepIn K (.ref f) = true ∧ Binds K fd ps []
def DnG (P : Program) (w : World) (K : W.Frag) (mg : Str → Option Value) (base : Heap) (k : Nat) (x : Str) (ps : List Str) (sp : Sp) : Prop :=
  ∃ f fd, FnG P w K mg base CX0 k f fd ps sp ∧ mg x = some (.ref f) ∧ W.keepIn K (.ref f) = true ∧ Binds K fd ps []
section
variable {X : Cx} {j k : Nat} {x : Str} {ps : List Str} {sp : Sp} {p pos : Pos} {e : Expr} {es : List Expr} {t : TA}
theorem pe_dn (D : Dn X.prog X.w X.K X.mg X.base CX0 j x ps sp) (hr : Room k X.A) (hg : Gl X x) (hj : j ≤ k) (ha : PA X (e :: es) t) (hdb : (x == ("__debug__" : Str)) = false := by decide)
    (he : starEach (e :: es) X.env = (false, eval e X.env) :: starEach es X.env := by rfl) (hpl : (backTo pos (starEach es X.env)).any (·.1) = false := by rfl) : PE X (.Call (.Name x p) (e :: es) [] pos) (tCall sp [] E0 t) := by
  obtain ⟨f, fd, F, hm, hk, hb⟩ := D
  exact pe_call F (hr.mono hj) hg hm hk hb .nil pass0 ha hdb he hpl
theorem pe_dnG (D : DnG X.prog X.w X.K X.mg X.base j x ps sp) (hG : Bare X.A) (hr : Room k X.A) (hg : Gl X x) (hj : j ≤ k) (ha : PA X (e :: es) t) (hdb : (x == ("__debug__" : Str)) = false := by decide)
    (he : starEach (e :: es) X.env = (false, eval e X.env) :: starEach es X.env := by rfl) (hpl : (backTo pos (starEach es X.env)).any (·.1) = false := by rfl) : PE X (.Call (.Name x p) (e :: es) [] pos) (tCall sp [] E0 t) := by
  obtain ⟨f, fd, F, hm, hk, hb⟩ := D
  exact pe_callG hG F (hr.mono hj) hg hm hk hb .nil pass0 ha hdb he hpl
end

/-! ### the pot -/
/-- at p the pot: what is left of the cell, and the mixed number -/
def Pot (H : Hp) (p : Addr) : Prop := ∃ a b : Int, H p = some (.lst [.int a, .int b]) ∧ 0 ≤ a ∧ 0 ≤ b ∧ b < 2147483648
/-- all but p stands, at p the pot -/
def Kp (p : Addr) (H H' : Hp) : Prop := (∀ b o, b ≠ p → H b = some o → H' b = some o) ∧ Pot H' p
theorem Kp.refl {p : Addr} {H : Hp} (h : Pot H p) : Kp p H H := ⟨fun _ _ _ h => h, h⟩
theorem Kp.trans {p : Addr} {H H1 H2 : Hp} (a : Kp p H H1) (b : Kp p H1 H2) : Kp p H H2 := ⟨fun c o n h => b.1 c o n (a.1 c o n h), b.2⟩
theorem Pot.there {p : Addr} {H : Hp} (h : Pot H p) : ∃ o, H p = some o := let ⟨_, _, e, _⟩ := h; ⟨_, e⟩
theorem Pot.new {p q : Addr} {H : Hp} {o : HO} (h : Pot H p) (n : H q = none) : Pot (upd H q o) p := by
  obtain ⟨a, b, e, r⟩ := h
  exact ⟨a, b, by rw [upd_ne (ne_of_none e n)]; exact e, r⟩
theorem Kp.new {p q : Addr} {H : Hp} {o : HO} (h : Pot H p) (n : H q = none) : Kp p H (upd H q o) := ⟨fun b u _ e => by rw [upd_ne (ne_of_none e n)]; exact e, h.new n⟩
theorem Kp.put {p : Addr} {H : Hp} {a b : Int} (h0 : 0 ≤ a) (h2 : 0 ≤ b) (h3 : b < 2147483648) : Kp p H (upd H p (.lst [.int a, .int b])) := ⟨fun c o n e => by rw [upd_ne n]; exact e, a, b, upd_same, h0, h2, h3⟩
theorem Kp.at {p q : Addr} {H H' : Hp} {o : HO} (k : Kp p H H') (n : q ≠ p) (h : H q = some o) : H' q = some o := k.1 q o n h
theorem Kp.seq {K : W.Frag} {p q : Addr} {H H' : Hp} {xs : List V} (k : Kp p H H') (n : q ≠ p) (h : SqL K H q xs) : SqL K H' q xs := by
  rcases h with (h | ⟨o, h⟩) | h
  · exact .inl (.inl (k.1 _ _ n h))
  · exact .inl (.inr ⟨o, k.1 _ _ n h⟩)
  · exact .inr h
theorem Kp.gone {p q : Addr} {H H' : Hp} (k : Kp p H H') (n : q ≠ p) (h : H' q = none) : H q = none := by
  cases z : H q with
  | none => rfl
  | some o => rw [k.1 q o n z] at h; cases h
theorem Kp.over {p q : Addr} {H H' : Hp} {o : HO} (k : Kp p H H') (n : q ≠ p) (h : H q = none) : Kp p H (upd H' q o) := by
  refine ⟨fun b u nb e => ?_, ?_⟩
  · rw [upd_ne (ne_of_none e h)]
    exact k.1 b u nb e
  · obtain ⟨a, b, e, r⟩ := k.2
    exact ⟨a, b, by rw [upd_ne (Ne.symm n)]; exact e, r⟩
theorem Kp.pot {p : Addr} {H H' : Hp} (k : Kp p H H') : Pot H' p := k.2
theorem ne_pot {p q : Addr} {H : Hp} (h : Pot H p) (n : H q = none) : q ≠ p := fun e => by
  obtain ⟨o, z⟩ := h.there
  rw [← e, n] at z
  cases z
theorem ix0 {K : W.Frag} {H : Hp} {p : Addr} {a b : Int} {Q : VK} (h : H p = some (.lst [.int a, .int b])) (q : Q (.int a) H) : rIx K (.ref p) (.int 0) H Q := .inl ⟨p, _, 0, _, rfl, rfl, SqL.of h, rfl, q⟩
theorem ix1 {K : W.Frag} {H : Hp} {p : Addr} {a b : Int} {Q : VK} (h : H p = some (.lst [.int a, .int b])) (q : Q (.int b) H) : rIx K (.ref p) (.int 1) H Q := .inl ⟨p, _, 1, _, rfl, rfl, SqL.of h, rfl, q⟩
theorem log_lt {n : Int} (h : n.natAbs < 2 ^ 80) : n.natAbs.log2 < 80 := by
  by_cases z : n.natAbs = 0
  · rw [z]
    decide
  · exact (Nat.log2_lt z).mpr h
theorem mulW {i j : Int} (hi : i.natAbs < 2 ^ 80) (hj : j.natAbs < 2 ^ 80) : CMulW i j := by
  have a := log_lt hi
  have b := log_lt hj
  show i.natAbs.log2 + j.natAbs.log2 < 1000000
  omega
theorem divW {i j : Int} (h0 : 0 < j) (h : j.natAbs < 2 ^ 80) : CDivW i j := ⟨h0, by have := log_lt h; omega⟩
theorem ne_of_none' {H : Hp} {a b : Addr} {o : HO} (h : H a = some o) (h' : H b = none) : b ≠ a := fun e => ne_of_none h h' e.symm
theorem atI_int {α : Type} {xs : List α} {i : Int} {x : α} (h0 : 0 ≤ i) (h : xs[i.toNat]? = some x) : atI xs i = some x := by
  have e : ((i.toNat : Nat) : Int) = i := Int.toNat_of_nonneg h0
  have z := atI_nat h
  rw [e] at z
  exact z
/-- draw(pot, sides) -/
def spDraw : Sp := fun vs H Q _ => ∃ (p : Addr) (n : Int), vs = [.ref p, .int n] ∧ Pot H p ∧ 0 < n ∧ n ≤ 1000000000 ∧ ∀ (d : Int) (H' : Hp), 0 ≤ d → d < n → Kp p H H' → Q (.int d) H'
/-- pick(pot, some) -/
def spPick (K : W.Frag) : Sp := fun vs H Q _ => ∃ (p l : Addr) (xs : List V), vs = [.ref p, .ref l] ∧ Pot H p ∧ l ≠ p ∧ SqL K H l xs ∧ xs ≠ [] ∧ xs.length ≤ 1000000 ∧ ∀ (x : V) (H' : Hp), x ∈ xs → Kp p H H' → Q x H'
/-- pot(script, k) -/
def spPot (K : W.Frag) : Sp := fun vs H Q _ => ∃ (a : Addr) (ns : List Int) (k : Int), vs = [.ref a, .int k] ∧ SqL K H a (ns.map V.int) ∧ 0 ≤ k ∧ k < 100 ∧ ∀ (p : Addr) (H' : Hp), H p = none → Same H H' → Pot H' p → Q (.ref p) H'
/-- a short plain text -/
def Sm (n : Nat) (x : Str) : Prop := x.length ≤ n ∧ ∀ c ∈ x.cps.toList, c < 1000
theorem Sm.repr {n : Nat} {x : Str} (h : Sm n x) : (reprText x).length ≤ 10 * n + 2 := by
  have z := StrLaws.reprText_len x (fun c hc => Nat.lt_of_lt_of_le (h.2 c hc) (by decide))
  have := h.1
  omega
/-- named(pot, 1, []) -/
def spNamed (K : W.Frag) : Sp := fun vs H Q _ => ∃ (p t : Addr), vs = [.ref p, .int 1, .ref t] ∧ Pot H p ∧ t ≠ p ∧ SqL K H t [] ∧ ∀ (r : Addr) (x : Str) (H' : Hp), H' r = some (.lst [.str x]) → Sm 8 x → Kp p H H' → Q (.ref r) H'
/-- far(pot) -/
def spFar : Sp := fun vs H Q _ => ∃ p : Addr, vs = [.ref p] ∧ Pot H p ∧ ∀ (n : Int) (H' : Hp), n.natAbs < 2 ^ 200 → Kp p H H' → Q (.int n) H'
end Gd

set_option Elab.async false
set_option linter.all false
set_option maxRecDepth 100000
set_option maxHeartbeats 4000000
/-! Own errors raised; a try of several clauses with a name; what is asked of the held error. -/
namespace Gx
open PySem PySem.Spec PyProof.Rows L2 Ge
section
variable {X : Cx} {pins : List (Addr × Obj)} {σ : L2.St} {H : Hp} {s : Shared} {Q : XK} {C e d : Addr} {fs : List (Str × V)} {h' : Heap} {tk : Nat} {m : Str → Option Value}
/-- the heap without the error, its dict told -/
abbrev leftH (H : Hp) (C e d : Addr) (fs : List (Str × V)) : Hp := upd (del (withErr H C e d fs) e) d (.xd fs)
theorem mkp_made (T : Raises X (.ref C)) (I : Inv X pins σ H s) (M : Made s.heap h' e C d m) (r : ∀ y, RelO (fs.lookup y) (m y)) (q : Q (.ref C) (some d) (leftH H C e d fs)) : L2.MkP X pins σ Q (.ref e) { s with heap := h', toks := tk } := by
  obtain ⟨ne, nd, J⟩ := Inv.err (tk := tk) I M r
  have be : ∀ {b : Addr} {o : Obj}, s.heap.get? b = some o → b ≠ e := fun q => Nat.ne_of_lt (Nat.lt_of_lt_of_le (Heap.lt_size q) M.new)
  have bd : ∀ {b : Addr} {o : Obj}, s.heap.get? b = some o → b ≠ d := fun q => Nat.ne_of_lt (Nat.lt_of_lt_of_le (Heap.lt_size q) M.dbig)
  have keepH : ∀ {b : Addr} {o : HO}, H b = some o → withErr H C e d fs b = some o := fun q => by
    show upd (upd H d _) e _ _ = _
    rw [upd_ne (ne_of_none q ne), upd_ne (ne_of_none q nd)]
    exact q
  have offH : ∀ {b : Addr} {o u : HO}, upd H e o b = some u → b ≠ e → H b = some u := fun z n => by rwa [upd_ne n] at z
  obtain ⟨hp, g, dr, t0, os⟩ := s
  refine mk_end T I M.new (fun _ _ q => q) { keep := fun b o q _ _ _ => M.keep b o q, slot := fun b o q _ _ _ => ⟨o.slots, M.keep b o q⟩, free := fun b o q n _ => ?_, there := fun b o q _ => ⟨o, M.keep b o q⟩, tups := fun b xs q => ?_, frzs := fun b o u q => ?_, tbls := fun b ps q => ?_ } J.hok rfl I.bare upd_same ?_ nd q
  · show upd (upd H d _) e _ b = none
    rw [upd_ne (be q)] at n
    rw [upd_ne (be q), upd_ne (bd q)]
    exact n
  · have n : b ≠ e := fun z => by
      rw [z, upd_same] at q
      exact exo_tup (Option.some.inj q)
    exact keepH (offH q n)
  · have n : b ≠ e := fun z => by
      rw [z, upd_same] at q
      exact exo_frz (Option.some.inj q)
    exact keepH (offH q n)
  · have n : b ≠ e := fun z => by
      rw [z, upd_same] at q
      exact exo_tbl (Option.some.inj q)
    exact ⟨#[], (keepH (offH q n)).trans (by simp)⟩
  · show upd (upd H d _) e _ d = _
    rw [upd_ne M.dne]
    exact upd_same
end
section
variable {X : Cx} {C : Addr} {x f f2 : Str} {e : Expr} {es : List Expr} {ta : TA} {p pos : Pos} {k : Nat}
theorem pmk1 (T : E1 X.K C f) (rs : Raises X (.ref C)) (hr : Room k X.A) (hg : Gl X x) (hm : X.mg x = some (.ref C)) (ha : PA X (e :: es) ta) (hdb : (x == ("__debug__" : Str)) = false := by decide)
    (hs : starEach (e :: es) X.env = (false, eval e X.env) :: starEach es X.env := by rfl) (hpl : (backTo pos (starEach es X.env)).any (·.1) = false := by rfl) :
    L2.PMk X (.Call (.Name x p) (e :: es) [] pos) (fun σ H Q => ta σ H fun vs H1 => ∃ v, vs = [v] ∧ ∀ a d, H1 a = none → H1 d = none → d ≠ a → Q (.ref C) (some d) (leftH H1 C a d [(f, v)])) := by
  intro pins s σ H Q I h
  refine wpAny_Call_Name_kw (ld_glob I hg hm ?_ hdb)
  refine PySem.W.callWith_K (h₀ := X.base) I.ok.mod.kin T.keep (thn (ha.run pos pins s σ H _ I h) fun us s1 ⟨vs, H1, I1, r, v, ev, q⟩ => ⟨I1.kIn, ?_⟩) hs hpl
  subst ev
  obtain ⟨u, rfl, ru⟩ := vals1 r
  refine wpAny_call (T.does (.inl ⟨rfl, rfl⟩) I1.kIn I1.nolimit (by have := hr.dp; omega) (fun h' tk a d M => ?_))
  have z := Inv.err (tk := tk) I1 M (relO_one ru f)
  exact mkp_made rs I1 M (relO_one ru f) (q a d z.1 z.2.1 M.dne)
theorem pmk2 (T : E2 X.K C f f2) (rs : Raises X (.ref C)) (hr : Room k X.A) (hg : Gl X x) (hm : X.mg x = some (.ref C)) (ha : PA X (e :: es) ta) (hdb : (x == ("__debug__" : Str)) = false := by decide)
    (hs : starEach (e :: es) X.env = (false, eval e X.env) :: starEach es X.env := by rfl) (hpl : (backTo pos (starEach es X.env)).any (·.1) = false := by rfl) :
    L2.PMk X (.Call (.Name x p) (e :: es) [] pos) (fun σ H Q => ta σ H fun vs H1 => ∃ v v2, vs = [v, v2] ∧ ∀ a d, H1 a = none → H1 d = none → d ≠ a → Q (.ref C) (some d) (leftH H1 C a d [(f2, v2), (f, v)])) := by
  intro pins s σ H Q I h
  refine wpAny_Call_Name_kw (ld_glob I hg hm ?_ hdb)
  refine PySem.W.callWith_K (h₀ := X.base) I.ok.mod.kin T.keep (thn (ha.run pos pins s σ H _ I h) fun us s1 ⟨vs, H1, I1, r, v, v2, ev, q⟩ => ⟨I1.kIn, ?_⟩) hs hpl
  subst ev
  obtain ⟨u, u2, rfl, ru, ru2⟩ := vals2 r
  refine wpAny_call (T.does (.inl ⟨rfl, rfl⟩) I1.kIn I1.nolimit (by have := hr.dp; omega) (fun h' tk a d M => ?_))
  have z := Inv.err (tk := tk) I1 M (relO_two ru ru2 f f2)
  exact mkp_made rs I1 M (relO_two ru ru2 f f2) (q a d z.1 z.2.1 M.dne)
theorem pmk0 (T : E0c X.K C) (rs : Raises X (.ref C)) (hg : Gl X x) (hm : X.mg x = some (.ref C)) (hdb : (x == ("__debug__" : Str)) = false := by decide) :
    L2.PMk X (.Call (.Name x p) [] [] pos) (fun _ H Q => Q (.ref C) none H) := by
  intro pins s σ H Q I h
  refine wpAny_Call_Name_kw (ld_glob I hg hm ?_ hdb)
  refine PySem.W.callWith_K0 I.kIn T.keep ?_
  refine T.does I.kIn (fun h' a t kp new he => ?_)
  obtain ⟨hp, g, dr, tk, os⟩ := s
  have gone : hp.get? a = none := by
    cases z : hp.get? a with
    | none => rfl
    | some o => exact absurd (Heap.lt_size z) (Nat.not_lt.mpr new)
  exact ⟨a, _, _, ⟨hp, g, dr, tk, os⟩, H, .ref C, none, rfl, I, kp, gone, he, ⟨rfl, rfl⟩, rfl, rfl, I.hok.fresh new, rfl, I.bare, rs, h⟩
end

/-! ### try: body, several clauses 'except x as n' -/
/-- what the clauses wish, one after the other -/
def wMAs (K : PySem.W.Frag) (i : Nat) (Wout : WX) (D : Ends) : List (Value × (Addr → Value → Option Addr → TS)) → WX
  | [] => Wout
  | (c, ts) :: r => wAs K c i ts (wMAs K i Wout D r) D
inductive HdsAs (X : Cx) (n : Str) : List ExceptHandler → List (Value × (Addr → Value → Option Addr → TS)) → Prop
  | nil : HdsAs X n [] []
  | cons {x : Str} {c : Value} {ts : Addr → Value → Option Addr → TS} {b₀ : Stmt} {suite : List Stmt} {np pos' : Pos} {hds : List ExceptHandler} {l : List (Value × (Addr → Value → Option Addr → TS))} (hc : Names X x c)
      (hsu : ∀ (a : Addr) (oe : Obj) (cls : Value) (d : Option Addr) (pn : List (Addr × Obj)), Zc cls d oe → (∃ vs, oe.data = .fields vs) → PSs (X.suite a ((a, oe) :: pn)) (b₀ :: suite) (ts a cls d)) (r : HdsAs X n hds l) :
      HdsAs X n (.ExceptHandler (some (.Name x np)) (some n) (b₀ :: suite) pos' :: hds) ((c, ts) :: l)
section
variable {X : Cx} {n : Str} {i : Nat} {body : List Stmt} {pos : Pos} {tb : WX → TS} {Wout : WX} {pins : List (Addr × Obj)} {D : Ends}
/-- the clauses are gone through with the error at a on the ground -/
theorem hands_go {a : Addr} {B : Heap} {sI s' : Shared} {σ' : L2.St} {H' : Hp} {cls : Value} {d : Option Addr} {h3 : Heap} (hs : X.stack = X.env :: X.outer) (hf : X.env.frame = some X.env.locals) (hN : X.N.Nodup) (hi : X.N[i]? = some n) (hln : X.env.kindOf n = some .local)
    (tk : Takes X Wout) (ok : X.Ok) (J : Inv X pins σ' H' sI) (nb : ∀ b o, sI.heap.get? b = some o → b ∉ frs X.stack → B.get? b = some o) (up : sI.heap.UpToSlots h3) (fl : HandSPX.FlyingZ B (X.env :: X.outer) a (Zc cls d) h3) (na : H' a = none) (os : s'.os = sI.os) (ag : AllBare s'.gens) :
    ∀ {hds : List ExceptHandler} {l : List (Value × (Addr → Value → Option Addr → TS))}, HdsAs X n hds l → wMAs X.K i Wout D l cls d σ' H' → wpAny (model X.prog X.w) X.A (handleBy (.ref a) X.env hds) (SP X pins D) X.xe { s' with heap := h3 } := by
  have J3 : Inv X pins σ' H' { s' with heap := h3 } := J.landed nb fl.1 up os ag
  obtain ⟨oe, vs, he, hz, hd⟩ := fl.there
  have off : a ∉ frs (X.env :: X.outer) := fun hm => by
    obtain ⟨_, o, e, hnf⟩ := fl.2.2.1.mem hm
    rw [he] at e
    cases e
    exact hnf _ hd
  have nL : a ≠ X.env.locals := fun z => off (List.mem_filterMap.mpr ⟨X.env, List.mem_cons_self, by rw [hf, z]⟩)
  have nF : a ∉ X.fs := fun hm => by
    obtain ⟨e, q, z⟩ := List.mem_filterMap.mp hm
    exact off (List.mem_filterMap.mpr ⟨e, List.mem_cons_of_mem _ q, z⟩)
  intro hds l hk
  induction hk with
  | nil =>
    intro w
    refine wpAny_handleBy_nil ?_
    obtain ⟨_, _, _, o1, v1, T, _, _, e1, _, d1, f1, _⟩ := id fl
    unfold PySem.passOn
    refine wpAny_bind (wpAny_field e1 d1 f1 ?_)
    rw [if_neg (show ¬((Value.ref T == Value.none) = true) from by simp)]
    have out : wpAny (model X.prog X.w) X.A (setFlight (.ref a) X.env.frame) (fun _ s4 => wpAny (model X.prog X.w) X.A (throw (.ref a) : Sem Flow) (SP X pins D) X.xe s4) X.xe { s' with heap := h3 } := by
      rw [hf]
      exact HandSPX.setFlight_upZ fl fun h4 held up4 => wpAny_throw (tk _ _ ⟨a, B, sI, pins, σ', H', cls, d, rfl, J, nb, up.trans up4, .inr (.inr (by rw [hs]; exact held)), na, os, ag, w⟩)
    first
      | exact wpAny_bind (wpAny_pure (wpAny_bind out))
      | exact wpAny_bind out
  | @cons x c ts b₀ suite np pos' hds2 l2 hc hsu r ih =>
    rintro ⟨b, isB, yes, no⟩
    have S3 := J3.suite he hd na nL nF
    refine wpAny_handleBy_cons (codeAny_handlers_test ?_) (by intro q; cases q)
    have LM := PySem.W.exm_one (M := model X.prog X.w) J3.kIn (fun A Q E s k q => wpAny_typeOf_ref (k _ _ he) (by rw [hz.1]; exact q)) isB
    have name : ∀ {Q : Value → Shared → Prop} {E : Value → Shared → Prop}, Q c { s' with heap := h3 } → wpAny (model X.prog X.w) (X.A.mark (some (.ref a))) (eval (.Name x np) X.env) Q E { s' with heap := h3 } := fun {Q E} q => by
      obtain ⟨g, gd, m | ⟨m, v, nn⟩⟩ := hc
      · exact ld_glob (X := X.suite a ((a, oe) :: (X.pn ++ pins))) S3 g m q gd
      · exact ld_blt (X := X.suite a ((a, oe) :: (X.pn ++ pins))) S3 g m v q nn gd
    refine name (LM.here ?_)
    cases b with
    | false =>
      show wpAny _ X.A (handleBy (.ref a) X.env hds2) _ _ _
      exact ih (no rfl)
    | true =>
      refine codeAny_handlers_suite_as (HandSPX.lands_againZ fl fun h4 fl4 up4 => ?_)
      obtain ⟨oe4, vs4, he4, hz4, hd4⟩ := fl4.there
      have J4 : Inv X pins σ' H' { s' with heap := h4 } := J.landed nb fl4.1 (up.trans up4) os ag
      refine store_ok (X := X.suite a ((a, oe4) :: (X.pn ++ pins))) (v := .ref a) (J4.suite he4 hd4 na nL nF) hN hi (.inl hln) rfl (fun s5 S5 => ?_) (.inr hln)
      refine wpAny_mono ((hsu a oe4 cls d (X.pn ++ pins) hz4 ⟨_, hd4⟩).run [] s5 _ H' _ S5 (yes rfl a na)) (fun fl6 s6 hsp => ?_) (fun _ _ z => z.elim)
      have over : ∀ {σ6 : L2.St} {H6 : Hp} {Q : Shared → Prop}, Inv (X.suite a ((a, oe4) :: (X.pn ++ pins))) [] σ6 H6 s6 → (∀ s7, Inv X pins (σ6.set i none) H6 s7 → Q s7) →
          wpAny (model X.prog X.w) X.A (do bindName X.env n .none; unbindBehindTheSuite X.env n pos') (fun _ s7 => Q s7) X.xe s6 := fun S6 q => gone_ok (S6.unsuite ok) hN hi hln q
      cases fl6 with
      | ret u =>
        obtain ⟨v6, σ6, H6, S6, r6, q6⟩ := hsp
        exact over S6 fun s7 J7 => ⟨_, _, _, J7, r6, q6⟩
      | next =>
        obtain ⟨σ6, H6, S6, q6⟩ := hsp
        exact over S6 fun s7 J7 => ⟨_, _, J7, q6⟩
      | brk =>
        obtain ⟨σ6, H6, S6, q6⟩ := hsp
        exact over S6 fun s7 J7 => ⟨_, _, J7, q6⟩
      | cont =>
        obtain ⟨σ6, H6, S6, q6⟩ := hsp
        exact over S6 fun s7 J7 => ⟨_, _, J7, q6⟩
theorem ps_tryAs {h₀ : ExceptHandler} {hds : List ExceptHandler} {l : List (Value × (Addr → Value → Option Addr → TS))} (hs : X.stack = X.env :: X.outer) (hf : X.env.frame = some X.env.locals) (hN : X.N.Nodup) (hi : X.N[i]? = some n) (hln : X.env.kindOf n = some .local) (tk : Takes X Wout)
    (hb : ∀ (W : WX) (pn : List (Addr × Obj)) (xe : Value → Shared → Prop), Takes (X.tr pn xe) W → PSs (X.tr pn xe) body (tb W)) (hh : HdsAs X n (h₀ :: hds) l) :
    PS X (.Try body (h₀ :: hds) [] [] pos) (fun D σ H => tb (wMAs X.K i Wout D l) D σ H) := by
  refine ⟨fun pins s σ H D I h => wpAny_Try_except ?_⟩
  have ok := I.ok
  have hfr : X.A.frames = some (X.env :: X.outer) := by rw [ok.frames, hs]
  have run := (hb (wMAs X.K i Wout D l) (X.pn ++ pins) (fun e s₁ => wpAny (model X.prog X.w) X.A (noteFrame e X.env) (fun _ s₂ => wpAny (model X.prog X.w) X.A (setFlight e none) (fun _ s₃ =>
    wpAny (model X.prog X.w) X.A (handleBy e X.env (h₀ :: hds)) (SP X pins D) X.xe s₃) X.xe s₂) X.xe s₁) (fun u s' xx => by
      obtain ⟨a, B, sI, pins', σ', H', cls, d, rfl, J', nb, up, sky, na, os, ag, w⟩ := xx
      refine Sky.land Zc.steady hfr hf (by rw [← hs]; exact sky) fun h3 fl3 up3 => ?_
      exact hands_go hs hf hN hi hln tk ok (J'.ofTry ok) nb (up.trans up3) fl3 na os ag hh w)).run [] s σ H D (I.toTry _) h
  refine wpAny_mono run (fun f s1 hsp => ?_) (fun e s1 he => he)
  cases f with
  | ret u =>
    obtain ⟨v, σ', H', J', r, q⟩ := hsp
    exact ⟨v, σ', H', J'.ofTry ok, r, q⟩
  | next =>
    obtain ⟨σ', H', J', q⟩ := hsp
    exact wpAny_execs_nil ⟨σ', H', J'.ofTry ok, q⟩
  | brk =>
    obtain ⟨σ', H', J', q⟩ := hsp
    exact ⟨σ', H', J'.ofTry ok, q⟩
  | cont =>
    obtain ⟨σ', H', J', q⟩ := hsp
    exact ⟨σ', H', J'.ofTry ok, q⟩
end

/-! ### the held error -/
/-- isinstance(e, c) | isinstance(e, (c, ..)), e the held one of the class at C -/
def rHeld (K : PySem.W.Frag) (a : Addr) (cls : Value) (d : Option Addr) : List V → Hp → VK → Prop := fun xs H Q => ∃ (C : Addr) (c : V) (b : Bool), xs = [.ref a, c] ∧ cls = .ref C ∧ EA K C ∧ (∀ dx, d = some dx → ∃ fs, H dx = some (.xd fs)) ∧
  ((∃ u, ClsV c u ∧ PySem.W.kitOne K (.ref C) u = some b) ∨ (∃ tp cs us, c = .ref tp ∧ H tp = some (.tup cs) ∧ Paired ClsV cs us ∧ PySem.W.kitAny K (.ref C) us = some b)) ∧ Q (.bl b) H
theorem call_held {X : Cx} {a : Addr} {oe : Obj} {cls : Value} {d : Option Addr} (hp : (a, oe) ∈ X.pn) (z : Zc cls d oe) (hf : ∃ vs, oe.data = .fields vs) : CallR X (.builtin "isinstance") (rHeld X.K a cls d) := by
  intro pins s σ H xs us Q I r h
  obtain ⟨C, c, b, rfl, rfl, T, hd, hc, q⟩ := h
  obtain ⟨u1, u2, rfl, r1, r2⟩ := vals2 r
  obtain rfl : u1 = Value.ref a := r1
  have ho := (I.pin (a, oe) (List.mem_append_left _ hp)).1
  obtain ⟨z1, z2⟩ := z
  have cl : (PySem.W.clsIn X.K C).isSome = true := by
    obtain ⟨cd, z, _⟩ := PySem.W.any_some T.hd
    rw [z]
    rfl
  have go : ∀ od, PySem.W.InstAt s.heap a oe C od → wpAny (model X.prog X.w) X.A (call (.builtin "isinstance") [.ref a, u2]) (EP X pins σ Q) X.xe s := fun od J => by
    rcases hc with ⟨u, hu, hk⟩ | ⟨tp, cs, ws, rfl, ht, k, hk⟩
    · have e2 := hu.eq r2
      subst e2
      exact PySem.W.kia_one (PySem.W.kitx_exc cl T.ga T.gg T.exC T.cl T.gt T.tk T.ob) I.kIn J hk (fun z => nomatch z) fun tk => ⟨.bl b, H, I.tok tk, rfl, q⟩
    · obtain rfl : u2 = Value.ref tp := r2
      obtain ⟨_, its, rv, o, h1, h2, n, h3⟩ := (show ObjOk X.prog X.w H s.heap tp (.tup cs) from I.hok tp _ ht)
      have e3 := ClsV.all k rv
      subst e3
      obtain ⟨oc, od2, dt, sl⟩ := o
      simp only at h2 h3
      subst h2 h3
      exact PySem.W.kia_tup (PySem.W.kitx_exc cl T.ga T.gg T.exC T.cl T.gt T.tk T.ob) I.kIn J h1 hk (fun z => nomatch z) fun tk => ⟨.bl b, H, I.tok tk, rfl, q⟩
  obtain ⟨vs, hv⟩ := hf
  obtain ⟨oc, dd, dt, sl⟩ := oe
  simp only at z1 z2 hv
  subst z1 z2 hv
  cases dd with
  | none => exact go none ⟨ho, rfl, rfl, trivial⟩
  | some dx =>
    obtain ⟨fs, hx⟩ := hd dx rfl
    obtain ⟨mA, hn, _⟩ := (show ObjOk X.prog X.w H s.heap dx (.xd fs) from I.hok dx _ hx)
    obtain ⟨od, hod, _⟩ := lookIn_ns hn
    exact go (some od) ⟨ho, rfl, rfl, hod⟩
/-- repr of a truth -/
def rReprB : List V → Hp → VK → Prop := fun xs H Q => ∃ b : Bool, xs = [.bl b] ∧ Q (.str (if b then "True" else "False")) H
theorem call_reprB {X : Cx} : CallR X (.builtin "repr") rReprB := by
  intro pins s σ H xs us Q I r h
  obtain ⟨b, rfl, q⟩ := h
  obtain ⟨u, rfl, ru⟩ := vals1 r
  obtain rfl : u = Value.bool b := ru
  exact PySem.P.repr_of_bool ⟨.str _, H, I.tok _, ⟨_, rfl⟩, q⟩
end Gx

set_option Elab.async false
set_option linter.all false
set_option maxRecDepth 100000
set_option maxHeartbeats 4000000
/-! New data of bounded size. -/
namespace Gd
open PySem PySem.Spec PyProof.Rows L2
def bdT (k : Nat) : Nat := 250 * 4 ^ k
theorem bdT_pos (k : Nat) : 250 ≤ bdT k := by
  have : 0 < 4 ^ k := Nat.pow_pos (by decide)
  unfold bdT
  omega
theorem bdT_succ (k : Nat) : bdT (k + 1) = 4 * bdT k := by
  unfold bdT
  rw [Nat.pow_succ]
  omega
/-- at H' x is data of depth k, made of what was not there at H -/
def Fr (H H' : Hp) (k : Nat) (x : V) : Prop := ∃ as t, Rp H' as (2 * k + 1) x t ∧ t.length ≤ bdT k ∧ ∀ b ∈ as, H b = none ∧ ∃ o, H' b = some o
/-- so are all of xs -/
def Frs (H H' : Hp) (k : Nat) (xs : List V) : Prop := ∃ as, ∃ ts : List Str, ts.length = xs.length ∧ (∀ (i : Nat) (x : V) (t : Str), xs[i]? = some x → ts[i]? = some t → Rp H' as (2 * k + 1) x t) ∧ piled ts ≤ xs.length * (bdT k + 2) ∧ ∀ b ∈ as, H b = none ∧ ∃ o, H' b = some o
/-- nothing went -/
def Dom (H H' : Hp) : Prop := ∀ b, H' b = none → H b = none
theorem Kp.dom {p : Addr} {H H' : Hp} (k : Kp p H H') : Dom H H' := by
  intro b hb
  by_cases e : b = p
  · subst e
    obtain ⟨o, z⟩ := k.2.there
    rw [z] at hb
    cases hb
  · exact k.gone e hb
theorem Dom.trans {H H1 H2 : Hp} (a : Dom H H1) (b : Dom H1 H2) : Dom H H2 := fun c h => a c (b c h)
theorem Dom.upd {H : Hp} {a : Addr} {o : HO} : Dom H (upd H a o) := by
  intro b hb
  by_cases e : b = a
  · subst e
    rw [upd_same] at hb
    cases hb
  · rwa [upd_ne e] at hb
section
variable {H H0 H' H2 : Hp} {k : Nat} {x : V} {xs : List V} {p : Addr}
theorem Fr.flat {t : Str} (r : ∀ d, Rp H' [] d x t) (l : t.length ≤ 250) : Fr H H' k x := ⟨[], t, r _, Nat.le_trans l (bdT_pos k), fun _ h => nomatch h⟩
theorem Fr.int {n : Int} (h : n.natAbs < 2 ^ 200) : Fr H H' k (.int n) := by
  have l : n.natAbs.log2 < 200 := by
    by_cases z : n.natAbs = 0
    · rw [z]
      decide
    · exact (Nat.log2_lt z).mpr h
  refine .flat (fun d => .int n (by omega)) ?_
  have e := int_text_length_le (a := n) (k := 200) (by decide) l
  have e2 : (Str.ofString (toString n)).length = (toString n).length := PySem.ofString_length _
  show (Str.ofString (toString n)).length ≤ 250
  omega
theorem Fr.str {z : Str} {n : Nat} (h : Sm n z) (hn : n ≤ 20) : Fr H H' k (.str z) := by
  have l := h.repr
  have b : (1000 : Nat) < sizeLine := by decide
  exact .flat (fun d => .str z (by omega)) (by omega)
/-- what was there at H stands on -/
theorem Fr.on (f : Fr H H' k x) (s : ∀ b o, H b = none → H' b = some o → H2 b = some o) : Fr H H2 k x := by
  obtain ⟨as, t, r, l, n⟩ := f
  refine ⟨as, t, r.keep fun b hb o ho => s b o (n b hb).1 ho, l, fun b hb => ⟨(n b hb).1, ?_⟩⟩
  obtain ⟨o, ho⟩ := (n b hb).2
  exact ⟨o, s b o (n b hb).1 ho⟩
theorem Frs.on (f : Frs H H' k xs) (s : ∀ b o, H b = none → H' b = some o → H2 b = some o) : Frs H H2 k xs := by
  obtain ⟨as, ts, e, r, l, n⟩ := f
  refine ⟨as, ts, e, fun i x t h1 h2 => (r i x t h1 h2).keep fun b hb o ho => s b o (n b hb).1 ho, l, fun b hb => ⟨(n b hb).1, ?_⟩⟩
  obtain ⟨o, ho⟩ := (n b hb).2
  exact ⟨o, s b o (n b hb).1 ho⟩
theorem Fr.ahead (f : Fr H H' k x) (d : Dom H0 H) : Fr H0 H' k x := by
  obtain ⟨as, t, r, l, n⟩ := f
  exact ⟨as, t, r, l, fun b hb => ⟨d b (n b hb).1, (n b hb).2⟩⟩
theorem Frs.ahead (f : Frs H H' k xs) (d : Dom H0 H) : Frs H0 H' k xs := by
  obtain ⟨as, t, e, r, l, n⟩ := f
  exact ⟨as, t, e, r, l, fun b hb => ⟨d b (n b hb).1, (n b hb).2⟩⟩
theorem Fr.kp (f : Fr H H' k x) (kp : Kp p H' H2) (hp : Pot H p) : Fr H H2 k x := f.on fun b o e h => kp.1 b o (fun z => by
  obtain ⟨u, hu⟩ := hp.there
  rw [← z, e] at hu
  cases hu) h
theorem Frs.kp (f : Frs H H' k xs) (kp : Kp p H' H2) (hp : Pot H p) : Frs H H2 k xs := f.on fun b o e h => kp.1 b o (fun z => by
  obtain ⟨u, hu⟩ := hp.there
  rw [← z, e] at hu
  cases hu) h
theorem Frs.put {a : Addr} {o u : HO} (f : Frs H H' k xs) (h : H a = some u) : Frs H (upd H' a o) k xs := f.on fun b w e hb => by
  rw [upd_ne (fun z => by rw [z, h] at e; cases e)]
  exact hb
theorem Fr.put {a : Addr} {o u : HO} (f : Fr H H' k x) (h : H a = some u) : Fr H (upd H' a o) k x := f.on fun b w e hb => by
  rw [upd_ne (fun z => by rw [z, h] at e; cases e)]
  exact hb
theorem Fr.new {a : Addr} {o : HO} (f : Fr H H' k x) (h : H' a = none) : Fr H (upd H' a o) k x := f.on fun b w e hb => by
  rw [upd_ne (ne_of_none hb h)]
  exact hb
theorem Frs.nil : Frs H H' k [] := ⟨[], [], rfl, fun i x t h _ => (by simp at h), Nat.zero_le _, fun _ h => nomatch h⟩
theorem Frs.snoc (f : Frs H H' k xs) (g : Fr H H' k x) : Frs H H' k (xs ++ [x]) := by
  obtain ⟨as, ts, e, r, l, n⟩ := f
  obtain ⟨bs, t, r1, l1, n1⟩ := g
  refine ⟨as ++ bs, ts ++ [t], by simp [e], fun i y u h1 h2 => ?_, ?_, fun b hb => (List.mem_append.mp hb).elim (n b) (n1 b)⟩
  · by_cases c : i < xs.length
    · rw [List.getElem?_append_left c] at h1
      rw [List.getElem?_append_left (by omega)] at h2
      exact (r i y u h1 h2).more fun b hb => List.mem_append_left _ hb
    · rw [List.getElem?_append_right (by omega)] at h1
      rw [List.getElem?_append_right (by omega)] at h2
      have c1 := (List.getElem?_eq_some_iff.mp h1).1
      have c0 : i - xs.length = 0 := by simp at c1; omega
      rw [c0] at h1
      rw [show i - ts.length = 0 by omega] at h2
      cases h1
      cases h2
      exact r1.more fun b hb => List.mem_append_right _ hb
  · rw [piled_append, List.length_append, Nat.add_mul]
    have : piled [t] = t.length + 2 := by simp [piled]
    simp only [List.length_singleton, Nat.one_mul]
    omega
theorem listText_le : ∀ ts : List Str, (listText ts).length ≤ piled ts + 2
  | [] => by decide
  | t :: r => by
    have h := textFrom_length_pos r 1 (("[" : Str) ++ (if (0 : Nat) > 0 then ", " else "" : String) ++ t) (Nat.succ_pos 0)
    have e : (listText (t :: r)).length = (textFrom 1 (("[" : Str) ++ (if (0 : Nat) > 0 then ", " else "" : String) ++ t) r).length + 1 := strLen_append _ _
    have e2 : (("[" : Str) ++ (if (0 : Nat) > 0 then ", " else "" : String) ++ t).length = 1 + t.length := by
      rw [strLen_append, strLen_append]
      rfl
    rw [e, h, e2, piled_cons]
    omega
theorem tupleText_le (ts : List Str) : (tupleText ts).length ≤ piled ts + 3 := by
  unfold tupleText
  rw [strLen_append, strLen_append]
  have e1 : ((("(" : String) : Str)).length = 1 := rfl
  have e3 : (((if ts.length == 1 then ",)" else ")" : String) : Str)).length ≤ 2 := by split <;> decide
  by_cases z : ts = []
  · subst z
    have : (Str.join (", " : String) ([] : List Str)).length = 0 := rfl
    omega
  · have := join_length_add ts z
    omega
theorem Frs.bound {k : Nat} {n : Nat} (hn : n ≤ 3) : n * (bdT k + 2) + 20 ≤ bdT (k + 1) := by
  rw [bdT_succ]
  have := bdT_pos k
  have : n * (bdT k + 2) ≤ 3 * (bdT k + 2) := Nat.mul_le_mul_right _ hn
  omega
theorem Frs.list {a : Addr} (f : Frs H H' k xs) (n3 : xs.length ≤ 3) (h : H' a = some (.lst xs)) (d : Dom H0 H) (h0 : H0 a = none) {u : HO} (ha : H a = some u) : Fr H0 H' (k + 1) (.ref a) := by
  obtain ⟨as, ts, e, r, l, n⟩ := f
  refine ⟨a :: as, _, (Rp.lst (as0 := as) h (fun z => by rw [(n a z).1] at ha; cases ha) (fun _ h => h) e r).deep _ (by omega), ?_, fun b hb => ?_⟩
  · have := listText_le ts
    have := Frs.bound (k := k) n3
    omega
  · rcases List.mem_cons.mp hb with rfl | hb
    · exact ⟨h0, _, h⟩
    · exact ⟨d b (n b hb).1, (n b hb).2⟩
theorem Frs.tuple {a : Addr} (f : Frs H H' k xs) (n3 : xs.length ≤ 3) (h : H' a = none) (d : Dom H0 H') (d' : Dom H0 H) : Fr H0 (upd H' a (.tup xs)) (k + 1) (.ref a) := by
  obtain ⟨as, ts, e, r, l, n⟩ := f
  have r' : ∀ (i : Nat) (x : V) (t : Str), xs[i]? = some x → ts[i]? = some t → Rp (upd H' a (.tup xs)) as (2 * k + 1) x t := fun i x t h1 h2 => (r i x t h1 h2).keep fun b _ o hb => by rw [upd_ne (ne_of_none hb h)]; exact hb
  have na : a ∉ as := fun z => by
    obtain ⟨o, ho⟩ := (n a z).2
    rw [h] at ho
    cases ho
  refine ⟨a :: as, _, (Rp.tup (as0 := as) upd_same na (fun _ h => h) e r').deep _ (by omega), ?_, fun b hb => ?_⟩
  · have := tupleText_le ts
    have := Frs.bound (k := k) n3
    omega
  · rcases List.mem_cons.mp hb with rfl | hb
    · exact ⟨d _ h, _, upd_same⟩
    · obtain ⟨o, ho⟩ := (n b hb).2
      exact ⟨d' b (n b hb).1, o, by rw [upd_ne (ne_of_none ho h)]; exact ho⟩
/-- {"a": xs} -/
theorem Frs.dict {a c : Addr} (f : Frs H H' k xs) (n3 : xs.length ≤ 3) (h : H' a = some (.lst xs)) (d' : Dom H0 H) (h0 : H0 a = none) {u : HO} (ha : H a = some u) (hc : H' c = none) (d : Dom H0 H') (H3 : Hp) (hs : ∀ b o, H' b = some o → H3 b = some o)
    (h3 : H3 c = some (.dK [(.inr "a", .ref a)])) : Fr H0 H3 (k + 1) (.ref c) := by
  obtain ⟨as, ts, e, r, l, n⟩ := f
  have r' : ∀ (i : Nat) (x : V) (t : Str), xs[i]? = some x → ts[i]? = some t → Rp H3 as (2 * k + 1) x t := fun i x t h1 h2 => (r i x t h1 h2).keep fun b _ o hb => hs b o hb
  have na : a ∉ as := fun z => by
    rw [(n a z).1] at ha
    cases ha
  have in1 := Rp.lst (as := a :: as) (as0 := as) (hs a _ h) na (fun _ h => h) e r'
  have nc : c ∉ a :: as := fun z => by
    rcases List.mem_cons.mp z with rfl | z
    · rw [h] at hc; cases hc
    · obtain ⟨o, ho⟩ := (n c z).2
      rw [hc] at ho
      cases ho
  have sa : Sm 1 "a" := ⟨by decide, by decide⟩
  have la := sa.repr
  have big : (1000 : Nat) < sizeLine := by decide
  refine ⟨c :: a :: as, _, Rp.dic (as0 := a :: as) (ps := [(reprText "a", listText ts)]) h3 nc (fun _ h => h) rfl (fun i q p h1 h2 => ?_) (fun i q p h1 h2 => ?_), ?_, fun b hb => ?_⟩
  · cases i with
    | zero => cases h1; cases h2; exact .str _ (by omega)
    | succ i => simp at h1
  · cases i with
    | zero => cases h1; cases h2; exact in1
    | succ i => simp at h1
  · have := listText_le ts
    have := Frs.bound (k := k) n3
    have e : (dictText [reprText "a" ++ ": " ++ listText ts]).length = 1 + ((reprText "a").length + 2 + (listText ts).length) + 1 := by
      unfold dictText
      rw [strLen_append, strLen_append]
      show 1 + (reprText "a" ++ ": " ++ listText ts).length + 1 = _
      rw [strLen_append, strLen_append]
      rfl
    show (dictText [reprText "a" ++ ": " ++ listText ts]).length ≤ _
    omega
  · rcases List.mem_cons.mp hb with rfl | hb
    · exact ⟨d _ hc, _, h3⟩
    · rcases List.mem_cons.mp hb with rfl | hb
      · exact ⟨h0, _, hs _ _ h⟩
      · obtain ⟨o, ho⟩ := (n b hb).2
        exact ⟨d' b (n b hb).1, o, hs _ _ ho⟩
theorem Fr.emptyT {a : Addr} (h : H' a = some (.tup [])) (h0 : H a = none) : Fr H H' k (.ref a) :=
  ⟨[a], _, Rp.tup (as0 := []) (ts := []) h (by simp) (fun _ h => h) rfl (fun i x t h _ => by simp at h), Nat.le_trans (show _ ≤ 250 by decide) (bdT_pos k), fun b hb => by rw [List.mem_singleton.mp hb]; exact ⟨h0, _, h⟩⟩
theorem Fr.emptyL {a : Addr} (h : H' a = some (.lst [])) (h0 : H a = none) : Fr H H' k (.ref a) :=
  ⟨[a], _, Rp.lst (as0 := []) (ts := []) h (by simp) (fun _ h => h) rfl (fun i x t h _ => by simp at h), Nat.le_trans (show _ ≤ 250 by decide) (bdT_pos k), fun b hb => by rw [List.mem_singleton.mp hb]; exact ⟨h0, _, h⟩⟩
theorem Fr.emptyD {a : Addr} (h : H' a = some (.dK [])) (h0 : H a = none) : Fr H H' k (.ref a) :=
  ⟨[a], _, Rp.dic (as0 := []) (ps := []) h (by simp) (fun _ h => h) rfl (fun i x t h _ => by simp at h) (fun i x t h _ => by simp at h), Nat.le_trans (show _ ≤ 250 by decide) (bdT_pos k), fun b hb => by rw [List.mem_singleton.mp hb]; exact ⟨h0, _, h⟩⟩
end
end Gd

set_option Elab.async false
set_option linter.all false
set_option maxRecDepth 100000
set_option maxHeartbeats 1000000
/-! Operators by own methods: an own instance on the left, on the right, on both sides. -/
namespace Oo
open PySem PySem.Spec PySem.W PyProof.Rows
section
variable {prog : Program} {w : World} {A : Around} {E : Value → Shared → Prop} {s : Shared} {K : Frag} {x y C f g : Addr} {ox oy : Obj} {od oe : Option Obj} {nm T : String}

theorem b1_same {Q : Value → Shared → Prop} (X : K.In s.heap) (I : InstAt s.heap x ox C od) (J : InstAt s.heap y oy C oe) (hc : selfFirst K C = true) (hs : findIn K (.ref C) (PySem.dunder nm) = some (some (.ref f))) (hf : isFn K (.ref f) = true)
    (h : wpAny (model prog w) A (call (.ref f) [.ref x, .ref y]) (W.CmpBack Q) E s) : wpAny (model prog w) A (binaryOp1 nm (.ref x) (.ref y)) (fun r s' => ∃ v, r = some v ∧ Q v s') E s := by
  obtain ⟨cd, rest, hcd, hm⟩ := ksp_first hc
  have one := ksp_try X I hs hf h
  obtain ⟨hh, gg, d, tt, os⟩ := s
  have L1 : Looks (model prog w) hh (typeOf (.ref x)) (.ref C) := I.type
  have L2 : Looks (model prog w) hh (typeOf (.ref y)) (.ref C) := J.type
  have L3 : Looks (model prog w) hh (fillsNumberSlot (.ref C) nm) true := fills_K X hcd hm hs
  unfold binaryOp1
  refine wpAny_bind (L1.at (wpAny_bind (L2.at (wpAny_bind (L3.at ?_)))))
  have he : (Value.ref C == Value.ref C) = true := beq_self_eq_true _
  simp only [he, if_true]
  ksp_lk
  refine wpAny_mono one (fun r s' hr' => ?_) fun _ _ e => e
  obtain ⟨v, rfl, hq⟩ := hr'
  ksp_lk
  exact ⟨v, rfl, hq⟩

theorem b1_left {b : Value} {fo ro rc : Option Value} {Q : Value → Shared → Prop} (X : K.In s.heap) (I : InstAt s.heap x ox C od) (hb : typeOf b = pure (.type T)) (hc : selfFirst K C = true)
    (hs : findIn K (.ref C) (PySem.dunder nm) = some (some (.ref f))) (hf : isFn K (.ref f) = true) (hr : findIn K (.ref C) (dunderR nm) = some rc) (hp : rc = none ∨ ∃ g : Addr, rc = some (.ref g))
    (h1 : findIn K (.type T) (PySem.dunder nm) = some fo) (h2 : findIn K (.type T) (dunderR nm) = some ro) (hsub : subIn K (.type T) (.ref C) = some false)
    (h : wpAny (model prog w) A (call (.ref f) [.ref x, b]) (W.CmpBack Q) E s) : wpAny (model prog w) A (binaryOp1 nm (.ref x) b) (fun r s' => ∃ v, r = some v ∧ Q v s') E s := by
  obtain ⟨cd, rest, hcd, hm⟩ := ksp_first hc
  have one := ksp_try X I hs hf h
  obtain ⟨hh, gg, d, tt, os⟩ := s
  have L1 : Looks (model prog w) hh (typeOf (.ref x)) (.ref C) := I.type
  have L2 : Looks (model prog w) hh (typeOf b) (.type T) := Looks.of_pure hb
  have L3 : Looks (model prog w) hh (fillsNumberSlot (.ref C) nm) true := fills_K X hcd hm hs
  have L4 : Looks (model prog w) hh (fillsNumberSlot (.type T) nm) ((fo.isSome && !isSeqSlot fo) || (ro.isSome && !isSeqSlot ro)) := ksp_fillsT X h1 h2
  have L5 : Looks (model prog w) hh (isSubtype (.type T) (.ref C)) false := looks_subIn X hsub
  have L6 : Looks (model prog w) hh (numberSlotInPython (.ref C) nm) true := ksp_inPy X hs hr hp
  have L7 : Looks (model prog w) hh (numberSlotInPython (.type T) nm) false := Looks.of_pure rfl
  have L8 : Looks (model prog w) hh (typeLookup (.type T) (dunderR nm)) ro := looks_findIn X h2
  generalize ((fo.isSome && !isSeqSlot fo) || (ro.isSome && !isSeqSlot ro)) = right at L4
  have hne : (Value.ref C == Value.type T) = false := Bool.eq_false_iff.mpr fun q => by cases beq_iff_eq.mp q
  unfold binaryOp1
  refine wpAny_bind (L1.at (wpAny_bind (L2.at (wpAny_bind (L3.at ?_)))))
  simp only [hne, Bool.false_eq_true, if_false]
  cases right with
  | false =>
    ksp_lk
    refine wpAny_mono one (fun r s' hr' => ?_) fun _ _ e => e
    obtain ⟨v, rfl, hq⟩ := hr'
    ksp_lk
    exact ⟨v, rfl, hq⟩
  | true =>
    ksp_lk
    refine wpAny_mono one (fun r s' hr' => ?_) fun _ _ e => e
    obtain ⟨v, rfl, hq⟩ := hr'
    ksp_lk
    exact ⟨v, rfl, hq⟩

/-- a's own method for it declines -/
def Declines (prog : Program) (w : World) (A : Around) (E : Value → Shared → Prop) (s : Shared) (nm : String) (a : Value) (y : Addr) : Prop :=
  ∀ R : Option Value → Shared → Prop, (∀ t, R none { s with toks := t }) → wpAny (model prog w) A (tryMethod a (PySem.dunder nm) (.ref y)) R E s

theorem b1_right {a : Value} {fo ro : Option Value} {Q : Value → Shared → Prop} (X : K.In s.heap) (J : InstAt s.heap y oy C oe) (ha : typeOf a = pure (.type T)) (hc : selfFirst K C = true)
    (hs : findIn K (.ref C) (PySem.dunder nm) = some (some (.ref f))) (hr : findIn K (.ref C) (dunderR nm) = some (some (.ref g))) (hg : isFn K (.ref g) = true)
    (h1 : findIn K (.type T) (PySem.dunder nm) = some fo) (h2 : findIn K (.type T) (dunderR nm) = some ro) (hsub : subIn K (.ref C) (.type T) = some false)
    (no : ((fo.isSome && !isSeqSlot fo) || (ro.isSome && !isSeqSlot ro)) = true → Declines prog w A E s nm a y)
    (h : ∀ t, wpAny (model prog w) A (call (.ref g) [.ref y, a]) (W.CmpBack Q) E { s with toks := t }) : wpAny (model prog w) A (binaryOp1 nm a (.ref y)) (fun r s' => ∃ v, r = some v ∧ Q v s') E s := by
  obtain ⟨cd, rest, hcd, hm⟩ := ksp_first hc
  have one : ∀ t, wpAny (model prog w) A (tryMethod (.ref y) (dunderR nm) a) (fun r s' => ∃ v, r = some v ∧ Q v s') E { s with toks := t } := fun t => ksp_try (s := { s with toks := t }) X J hr hg (h t)
  obtain ⟨hh, gg, d, tt, os⟩ := s
  have L1 : Looks (model prog w) hh (typeOf a) (.type T) := Looks.of_pure ha
  have L2 : Looks (model prog w) hh (typeOf (.ref y)) (.ref C) := J.type
  have L3 : Looks (model prog w) hh (fillsNumberSlot (.ref C) nm) true := fills_K X hcd hm hs
  have L4 : Looks (model prog w) hh (fillsNumberSlot (.type T) nm) ((fo.isSome && !isSeqSlot fo) || (ro.isSome && !isSeqSlot ro)) := ksp_fillsT X h1 h2
  have L5 : Looks (model prog w) hh (isSubtype (.ref C) (.type T)) false := looks_subIn X hsub
  have L7 : Looks (model prog w) hh (numberSlotInPython (.type T) nm) false := Looks.of_pure rfl
  have hne : (Value.type T == Value.ref C) = false := Bool.eq_false_iff.mpr fun q => by cases beq_iff_eq.mp q
  generalize hl : ((fo.isSome && !isSeqSlot fo) || (ro.isSome && !isSeqSlot ro)) = left at L4 no
  unfold binaryOp1
  refine wpAny_bind (L1.at (wpAny_bind (L2.at (wpAny_bind (L4.at ?_)))))
  simp only [hne, Bool.false_eq_true, if_false]
  cases left with
  | false =>
    ksp_lk
    refine wpAny_mono (one tt) (fun r s' hr' => ?_) fun _ _ e => e
    obtain ⟨v, rfl, hq⟩ := hr'
    ksp_lk
    exact ⟨v, rfl, hq⟩
  | true =>
    ksp_lk
    refine no rfl _ fun t => ?_
    ksp_lk
    refine wpAny_mono (one t) (fun r s' hr' => ?_) fun _ _ e => e
    obtain ⟨v, rfl, hq⟩ := hr'
    ksp_lk
    exact ⟨v, rfl, hq⟩

/-- an operator by its first look -/
theorem bin_of {op : Operator} {a b : Value} {Q : Value → Shared → Prop} (h : wpAny (model prog w) A (binaryOp1 op.info.2 a b) (fun r s' => ∃ v, r = some v ∧ Q v s') E s) : wpAny (model prog w) A (binaryOp op a b) Q E s := by
  rcases hi : op.info with ⟨sym, nm'⟩
  rw [hi] at h
  simp only [binaryOp, hi]
  refine wpAny_holding (wpAny_bind (wpAny_mono h (fun r s' hr' => ?_) fun _ _ e => e))
  obtain ⟨v, rfl, hq⟩ := hr'
  obtain ⟨hh, gg, d, tt, os⟩ := s'
  ksp_lk
  exact hq

theorem nofi_T {h : Heap} {add : Bool} (X : K.In h) (h1 : findIn K (.type T) (dunderI nm) = some none) : Looks (model prog w) h (fillsInplaceSlot (.type T) nm add) false := by
  intro A Q E s k q
  obtain ⟨hh, g, d, tt, os⟩ := s
  have X' : K.In hh := X.keeps k
  have L1 : Looks (model prog w) hh (typeLookup (.type T) (dunderI nm)) none := looks_findIn X' h1
  unfold fillsInplaceSlot
  repeat lk
  exact q
theorem nofi_C {h : Heap} {add : Bool} {cd : ClassData} (X : K.In h) (hc : clsIn K C = some cd) (hm : cd.mro = [.ref C, .type "object"]) (h1 : findIn K (.ref C) (dunderI nm) = some none) (h2 : findIn K (.type "object") (dunderI nm) = some none) :
    Looks (model prog w) h (fillsInplaceSlot (.ref C) nm add) false := by
  intro A Q E s k q
  have Lm : Looks (model prog w) h (mroOf (.ref C)) cd.mro := (looks_clsIn X hc).andThen (f := fun cd => pure cd.mro) .now
  have Lm' := Lm.keeps k
  obtain ⟨hh, g, d, tt, os⟩ := s
  have X' : K.In hh := X.keeps k
  have L1 : Looks (model prog w) hh (typeLookup (.ref C) (dunderI nm)) none := looks_findIn X' h1
  have L2 : Looks (model prog w) hh (typeLookup (.type "object") (dunderI nm)) none := looks_findIn X' h2
  unfold fillsInplaceSlot
  refine wpAny_bind (Lm'.at ?_)
  rw [hm, List.anyM_cons]
  refine wpAny_bind ?_
  repeat lk
  exact q
/-- x op= e by the operator, where nothing has an own op= -/
theorem iop_of {op : Operator} {a b ta : Value} {Q : Value → Shared → Prop} (ht : Looks (model prog w) s.heap (typeOf a) ta) (hfi : Looks (model prog w) s.heap (fillsInplaceSlot ta op.info.2 (op == .Add)) false)
    (h : wpAny (model prog w) A (binaryOp1 op.info.2 a b) (fun r s' => ∃ v, r = some v ∧ Q v s') E s) : wpAny (model prog w) A (inplaceOp op a b) Q E s := by
  unfold inplaceOp
  obtain ⟨hh, gg, d, tt, os⟩ := s
  refine wpAny_holding (wpAny_bind (ht.at ?_))
  refine wpAny_bind (hfi.at ?_)
  simp only [Bool.false_eq_true, if_false]
  refine wpAny_bind (wpAny_mono h (fun r s' hr' => ?_) fun _ _ e => e)
  obtain ⟨v, rfl, hq⟩ := hr'
  obtain ⟨hh, gg, d, tt, os⟩ := s'
  ksp_lk
  exact hq
/-- int's own method declines what is no int -/
theorem decl_of {id : String} {B : Builtin} {i : Int} {u : Tok} (slot : Slot "int" (PySem.dunder nm) id) (entry : entryFor table id = some B) (args : argsOk id ⟨[.int i u, .ref y], []⟩)
    (body : ∀ (E' : Value → Shared → Prop) (R : Fin → Shared → Prop), (∀ t, R (.done (.ret .notImplemented)) { s with toks := t }) → wpAny (model prog w) A.in1 (B ⟨[.int i u, .ref y], []⟩) R E' s) : Declines prog w A E s nm (.int i u) y := by
  intro R hR
  unfold tryMethod
  refine wpAny_bind (wpAny_callSpecial?_slot (typeIs_int _ _ _) slot (GQ.call_here slot (typeIs_int _ _ _) entry args (body _ _ fun t => ?_)))
  exact wpAny_pure (hR t)
end
end Oo

set_option Elab.async false
set_option linter.all false
set_option maxRecDepth 100000
set_option maxHeartbeats 400000
namespace Oo
open PySem PySem.Spec PySem.W PyProof.Rows
section
variable {prog : Program} {w : World} {A : Around} {E : Value → Shared → Prop} {s : Shared} {K : Frag} {x y C f g : Addr} {ox oy : Obj} {od oe : Option Obj} {nm T : String}
variable {i : Int} {u : Tok} {dx : Addr}
theorem asInt_inst {R : Option Int → Shared → Prop} {M : Model} (hy : s.heap.get? y = some (instObj C dx)) (h : R none s) : wpAny M A (asInt? (.ref y)) R E s := by
  unfold asInt?
  refine wpAny_bind (wpAny_load hy ?_)
  exact wpAny_pure h
theorem bin_no {name : String} {f : Int → Int → Sem Fin} (hy : s.heap.get? y = some (instObj C dx))
    {R : Fin → Shared → Prop} (hR : ∀ t, R (.done (.ret .notImplemented)) { s with toks := t }) : wpAny (model prog w) A (Builtin.Int.intBinary name f false ⟨[Value.int i u, Value.ref y], []⟩) R E s := by
  unfold Builtin.Int.intBinary
  have hs : PySem.slotArgs name 1 ⟨[Value.int i u, Value.ref y], []⟩ = pure (Value.int i u, [Value.ref y]) := rfl
  refine wpAny_bind (wpAny_of_eq hs ?_)
  dsimp only
  refine wpAny_bind (wpAny_of_eq (a := i) rfl ?_)
  refine wpAny_bind (asInt_inst hy ?_)
  exact wpAny_bind (wpAny_rule (wpAny_pure (hR _)))
theorem pylong_no {R : Unit → Shared → Prop} {M : Model} (hy : s.heap.get? y = some (instObj C dx)) (h : R () s) : wpAny M A (Builtin.exactOperandsForPylong false ⟨[Value.int i u, Value.ref y], []⟩) R E s := by
  unfold Builtin.exactOperandsForPylong
  refine wpAny_ite_true rfl ?_
  refine wpAny_bind (wpAny_of_eq (a := some i) rfl ?_)
  refine wpAny_bind (asInt_inst hy ?_)
  exact wpAny_pure h
theorem fdiv_no {R : Fin → Shared → Prop} (hy : s.heap.get? y = some (instObj C dx)) (hR : ∀ t, R (.done (.ret .notImplemented)) { s with toks := t }) : wpAny (model prog w) A (Builtin.«int.__floordiv__» ⟨[Value.int i u, Value.ref y], []⟩) R E s := by
  unfold Builtin.«int.__floordiv__»
  exact wpAny_bind (pylong_no hy (bin_no hy hR))
theorem fd1 : Slot "int" (PySem.dunder "floordiv") "int.__floordiv__" := F.slot_int_floordiv
theorem fd2 : entryFor table "int.__floordiv__" = some Builtin.«int.__floordiv__» := F.entry_int_floordiv
theorem fd3 : argsOk "int.__floordiv__" ⟨[Value.int i u, Value.ref y], []⟩ := F.args_int_floordiv_2 _ _
theorem decl_fd {B : Builtin} (hB : Builtin.«int.__floordiv__» = B) (h2 : entryFor table "int.__floordiv__" = some B) (hy : s.heap.get? y = some (instObj C dx)) : Declines prog w A E s "floordiv" (Value.int i u) y :=
  decl_of (nm := "floordiv") (id := "int.__floordiv__") (B := B) (i := i) (u := u) fd1 h2 fd3 (hB ▸ fun E' R hR => fdiv_no hy hR)
theorem decl_floordiv (hy : s.heap.get? y = some (instObj C dx)) : Declines prog w A E s "floordiv" (Value.int i u) y := decl_fd rfl fd2 hy
theorem add_no {R : Fin → Shared → Prop} (hy : s.heap.get? y = some (instObj C dx)) (hR : ∀ t, R (.done (.ret .notImplemented)) { s with toks := t }) : wpAny (model prog w) A (Builtin.«int.__add__» ⟨[Value.int i u, Value.ref y], []⟩) R E s := by
  unfold Builtin.«int.__add__»
  exact bin_no hy hR
theorem add2 : entryFor table "int.__add__" = some Builtin.«int.__add__» := F.entry_int_add
theorem add3 : argsOk "int.__add__" ⟨[Value.int i u, Value.ref y], []⟩ := F.args_int_add_2 _ _
theorem decl_add' {B : Builtin} (hB : Builtin.«int.__add__» = B) (h2 : entryFor table "int.__add__" = some B) (hy : s.heap.get? y = some (instObj C dx)) : Declines prog w A E s "add" (Value.int i u) y :=
  decl_of (nm := "add") (id := "int.__add__") (B := B) (i := i) (u := u) F.slot_int_add h2 add3 (hB ▸ fun E' R hR => add_no hy hR)
theorem decl_add (hy : s.heap.get? y = some (instObj C dx)) : Declines prog w A E s "add" (Value.int i u) y := decl_add' rfl add2 hy
theorem sub_no {R : Fin → Shared → Prop} (hy : s.heap.get? y = some (instObj C dx)) (hR : ∀ t, R (.done (.ret .notImplemented)) { s with toks := t }) : wpAny (model prog w) A (Builtin.«int.__sub__» ⟨[Value.int i u, Value.ref y], []⟩) R E s := by
  unfold Builtin.«int.__sub__»
  exact bin_no hy hR
theorem sub2 : entryFor table "int.__sub__" = some Builtin.«int.__sub__» := F.entry_int_sub
theorem sub3 : argsOk "int.__sub__" ⟨[Value.int i u, Value.ref y], []⟩ := F.args_int_sub_2 _ _
theorem decl_sub' {B : Builtin} (hB : Builtin.«int.__sub__» = B) (h2 : entryFor table "int.__sub__" = some B) (hy : s.heap.get? y = some (instObj C dx)) : Declines prog w A E s "sub" (Value.int i u) y :=
  decl_of (nm := "sub") (id := "int.__sub__") (B := B) (i := i) (u := u) F.slot_int_sub h2 sub3 (hB ▸ fun E' R hR => sub_no hy hR)
theorem decl_sub (hy : s.heap.get? y = some (instObj C dx)) : Declines prog w A E s "sub" (Value.int i u) y := decl_sub' rfl sub2 hy
theorem mul_no {R : Fin → Shared → Prop} (hy : s.heap.get? y = some (instObj C dx)) (hR : ∀ t, R (.done (.ret .notImplemented)) { s with toks := t }) : wpAny (model prog w) A (Builtin.«int.__mul__» ⟨[Value.int i u, Value.ref y], []⟩) R E s := by
  unfold Builtin.«int.__mul__»
  exact bin_no hy hR
theorem mul2 : entryFor table "int.__mul__" = some Builtin.«int.__mul__» := F.entry_int_mul
theorem mul3 : argsOk "int.__mul__" ⟨[Value.int i u, Value.ref y], []⟩ := F.args_int_mul_2 _ _
theorem decl_mul' {B : Builtin} (hB : Builtin.«int.__mul__» = B) (h2 : entryFor table "int.__mul__" = some B) (hy : s.heap.get? y = some (instObj C dx)) : Declines prog w A E s "mul" (Value.int i u) y :=
  decl_of (nm := "mul") (id := "int.__mul__") (B := B) (i := i) (u := u) F.slot_int_mul h2 mul3 (hB ▸ fun E' R hR => mul_no hy hR)
theorem decl_mul (hy : s.heap.get? y = some (instObj C dx)) : Declines prog w A E s "mul" (Value.int i u) y := decl_mul' rfl mul2 hy
theorem mod_no {R : Fin → Shared → Prop} (hy : s.heap.get? y = some (instObj C dx)) (hR : ∀ t, R (.done (.ret .notImplemented)) { s with toks := t }) : wpAny (model prog w) A (Builtin.«int.__mod__» ⟨[Value.int i u, Value.ref y], []⟩) R E s := by
  unfold Builtin.«int.__mod__»
  exact bin_no hy hR
theorem mod2 : entryFor table "int.__mod__" = some Builtin.«int.__mod__» := F.entry_int_mod
theorem mod3 : argsOk "int.__mod__" ⟨[Value.int i u, Value.ref y], []⟩ := F.args_int_mod_2 _ _
theorem decl_mod' {B : Builtin} (hB : Builtin.«int.__mod__» = B) (h2 : entryFor table "int.__mod__" = some B) (hy : s.heap.get? y = some (instObj C dx)) : Declines prog w A E s "mod" (Value.int i u) y :=
  decl_of (nm := "mod") (id := "int.__mod__") (B := B) (i := i) (u := u) F.slot_int_mod h2 mod3 (hB ▸ fun E' R hR => mod_no hy hR)
theorem decl_mod (hy : s.heap.get? y = some (instObj C dx)) : Declines prog w A E s "mod" (Value.int i u) y := decl_mod' rfl mod2 hy
/-- the five operators of which int declines an own instance -/
def Five (op : Operator) : Prop := op = .Add ∨ op = .Sub ∨ op = .Mult ∨ op = .Mod ∨ op = .FloorDiv
theorem decl_five {op : Operator} (h : Five op) (hy : s.heap.get? y = some (instObj C dx)) : Declines prog w A E s op.info.2 (Value.int i u) y := by
  rcases h with rfl | rfl | rfl | rfl | rfl
  · exact decl_add hy
  · exact decl_sub hy
  · exact decl_mul hy
  · exact decl_mod hy
  · exact decl_floordiv hy
end
end Oo

set_option Elab.async false
set_option linter.all false
set_option maxRecDepth 100000
set_option maxHeartbeats 400000
/-! ### over the layer -/
namespace Oo
open PySem PySem.Spec PyProof.Rows L2
/-- what the text says of a class's operator: its own def f, the turned one g (or none); int has the slot -/
structure OwnBin (K : W.Frag) (C : Addr) (nm : String) (f : Addr) (g : Option Addr) : Prop where
  sf : W.selfFirst K C = true
  hs : W.findIn K (.ref C) (PySem.dunder nm) = some (some (.ref f))
  hf : W.isFn K (.ref f) = true
  hr : W.findIn K (.ref C) (dunderR nm) = some (g.map Value.ref)
  hg : ∀ a, g = some a → W.isFn K (.ref a) = true
  i1 : ∃ fo, W.findIn K (.type "int") (PySem.dunder nm) = some fo
  i2 : ∃ ro, W.findIn K (.type "int") (dunderR nm) = some ro
  s1 : W.subIn K (.type "int") (.ref C) = some false
  s2 : W.subIn K (.ref C) (.type "int") = some false
/-- .. and that nothing has an own op= -/
structure NoIn (K : W.Frag) (C : Addr) (nm : String) : Prop where
  mro : ∃ cd, W.clsIn K C = some cd ∧ cd.mro = [.ref C, .type "object"]
  n1 : W.findIn K (.ref C) (dunderI nm) = some none
  n2 : W.findIn K (.type "object") (dunderI nm) = some none
  n3 : W.findIn K (.type "int") (dunderI nm) = some none
/-- x op y of own instances and ints, by the defs at f and g with the promises sp and sq -/
def Third (C : Addr) (sq : Sp) (E : XK) (x y : V) (H : Hp) (Q : VK) : Prop := ∃ b dy gs i, x = .int i ∧ y = .ref b ∧ H b = some (.ins C dy gs) ∧ sq [y, x] H Q E
def rBin (C : Addr) (sp sq : Sp) (E : XK) : R2 := fun x y H Q =>
  (∃ a dx fs b dy gs, x = .ref a ∧ y = .ref b ∧ H a = some (.ins C dx fs) ∧ H b = some (.ins C dy gs) ∧ sp [x, y] H Q E) ∨
  (∃ a dx fs i, x = .ref a ∧ y = .int i ∧ H a = some (.ins C dx fs) ∧ sp [x, y] H Q E) ∨
  (∃ b dy gs i, x = .int i ∧ y = .ref b ∧ H b = some (.ins C dy gs) ∧ sq [y, x] H Q E)
section
variable {X : Cx} {CX : CXT} {pins : List (Addr × Obj)} {σ : L2.St} {H : Hp} {s : Shared} {C f : Addr} {g : Option Addr} {k : Nat} {sp sq : Sp} {E : XK} {op : Operator} {fd gd : FuncData} {ps qs : List Str}
theorem inst_at (I : Inv X pins σ H s) {a dx : Addr} {fs : List (Str × V)} (e : H a = some (.ins C dx fs)) : ∃ od, W.InstAt s.heap a (W.instObj C dx) C (some od) ∧ s.heap.get? a = some (W.instObj C dx) := by
  obtain ⟨mA, O, _, _, _, _⟩ := ins_get I.hok e
  obtain ⟨od, J, _⟩ := O.look
  exact ⟨od, J, O.obj⟩
theorem b1_own {nm : String} {x y : V} {v u : Value} {Q : VK} (B : OwnBin X.K C nm f g) (F : FnOk X.prog X.w X.K X.mg X.base CX k f fd ps sp) (hb : Binds X.K fd ps []) (hx : Passes CX X E) (hr : Room k X.A)
    (G : Third C sq E x y H Q → ∃ (a : Addr) (gd : FuncData) (qs : List Str), g = some a ∧ FnOk X.prog X.w X.K X.mg X.base CX k a gd qs sq ∧ Binds X.K gd qs [])
    (hd : Third C sq E x y H Q → ∀ (y dx : Addr) (i : Int) (u : Tok) (s : Shared) (E : Value → Shared → Prop), s.heap.get? y = some (W.instObj C dx) → Declines X.prog X.w X.A E s nm (Value.int i u) y)
    (I : Inv X pins σ H s) (rx : RelV x v) (ry : RelV y u) (h : rBin C sp sq E x y H Q) :
    wpAny (model X.prog X.w) X.A (binaryOp1 nm v u) (fun r s' => ∃ z, r = some z ∧ EP X pins σ Q z s') X.xe s := by
  have fin : ∀ (z : Value) (s' : Shared), EP X pins σ Q z s' → W.CmpBack (EP X pins σ Q) z s' := fun z s' ⟨z', H', I', rz, q⟩ => SlX.cmpback rz ⟨z', H', I', rz, q⟩
  rcases h with ⟨a, dx, fs, b, dy, gs, rfl, rfl, ha, hb2, q⟩ | ⟨a, dx, fs, i, rfl, rfl, ha, q⟩ | ⟨b, dy, gs, i, rfl, rfl, hb2, q⟩
  · cases (show v = Value.ref a from rx)
    cases (show u = Value.ref b from ry)
    obtain ⟨od, J, _⟩ := inst_at I ha
    obtain ⟨oe, J2, _⟩ := inst_at I hb2
    exact b1_same I.kIn J J2 B.sf B.hs B.hf (wpAny_mono (run_fn (us := [.ref a, .ref b]) (vs := [.ref a, .ref b]) F hr hb .nil hx I (.cons rfl (.cons rfl .nil)) (by simpa using q)) fin fun _ _ z => z)
  · cases (show v = Value.ref a from rx)
    obtain ⟨t, rfl⟩ := (show ∃ t, u = Value.int i t from ry)
    obtain ⟨od, J, _⟩ := inst_at I ha
    obtain ⟨fo, h1⟩ := B.i1
    obtain ⟨ro, h2⟩ := B.i2
    refine b1_left I.kIn J (T := "int") rfl B.sf B.hs B.hf B.hr ?_ h1 h2 B.s1 (wpAny_mono (run_fn (us := [.ref a, .int i t]) (vs := [.ref a, .int i]) F hr hb .nil hx I (.cons rfl (.cons ⟨t, rfl⟩ .nil)) (by simpa using q)) fin fun _ _ z => z)
    cases g with
    | none => exact .inl rfl
    | some a => exact .inr ⟨a, rfl⟩
  · obtain ⟨t, rfl⟩ := (show ∃ t, v = Value.int i t from rx)
    cases (show u = Value.ref b from ry)
    obtain ⟨oe, J2, e2⟩ := inst_at I hb2
    obtain ⟨fo, h1⟩ := B.i1
    obtain ⟨ro, h2⟩ := B.i2
    have th : Third C sq E (.int i) (.ref b) H Q := ⟨b, dy, gs, i, rfl, rfl, hb2, q⟩
    obtain ⟨ga, gd, qs, eg, G1, G2⟩ := G th
    have hr2 : W.findIn X.K (.ref C) (dunderR nm) = some (some (.ref ga)) := by rw [B.hr, eg]; rfl
    refine b1_right I.kIn J2 (T := "int") rfl B.sf B.hs hr2 (B.hg ga eg) h1 h2 B.s2 (fun _ => hd th b dy i t s _ e2) fun t2 => ?_
    have I2 : Inv X pins σ H { s with toks := t2 } := I.tok t2
    exact wpAny_mono (run_fn (us := [.ref b, .int i t]) (vs := [.ref b, .int i]) G1 hr G2 .nil hx I2 (.cons rfl (.cons ⟨t, rfl⟩ .nil)) (by simpa using q)) fin fun _ _ z => z
theorem op_bin (h5 : Five op) {g : Addr} (B : OwnBin X.K C op.info.2 f (some g)) (F : FnOk X.prog X.w X.K X.mg X.base CX k f fd ps sp) (hb : Binds X.K fd ps []) (G : FnOk X.prog X.w X.K X.mg X.base CX k g gd qs sq) (hb2 : Binds X.K gd qs [])
    (hx : Passes CX X E) (hr : Room k X.A) : OpR X (binaryOp op) (rBin C sp sq E) := fun pins s σ H x y v u Q I rx ry h =>
  bin_of (b1_own B F hb hx hr (fun _ => ⟨g, gd, qs, rfl, G, hb2⟩) (fun _ y dx i u s E hy => decl_five h5 hy) I rx ry h)
theorem iop_bin (h5 : Five op) {g : Addr} (B : OwnBin X.K C op.info.2 f (some g)) (N : NoIn X.K C op.info.2) (F : FnOk X.prog X.w X.K X.mg X.base CX k f fd ps sp) (hb : Binds X.K fd ps []) (G : FnOk X.prog X.w X.K X.mg X.base CX k g gd qs sq) (hb2 : Binds X.K gd qs [])
    (hx : Passes CX X E) (hr : Room k X.A) : OpR X (inplaceOp op) (rBin C sp sq E) := fun pins s σ H x y v u Q I rx ry h => by
  have one := b1_own B F hb hx hr (fun _ => ⟨g, gd, qs, rfl, G, hb2⟩) (fun _ y dx i u s E hy => decl_five h5 hy) I rx ry h
  have left : (∃ a dx fs, x = .ref a ∧ H a = some (.ins C dx fs)) ∨ ∃ i, x = .int i := by
    rcases h with ⟨a, dx, fs, _, _, _, rfl, _, ha, _⟩ | ⟨a, dx, fs, _, rfl, _, ha, _⟩ | ⟨_, _, _, i, rfl, _⟩
    · exact .inl ⟨a, dx, fs, rfl, ha⟩
    · exact .inl ⟨a, dx, fs, rfl, ha⟩
    · exact .inr ⟨i, rfl⟩
  rcases left with ⟨a, dx, fs, rfl, ha⟩ | ⟨i, rfl⟩
  · cases (show v = Value.ref a from rx)
    obtain ⟨od, J, _⟩ := inst_at I ha
    obtain ⟨cd, hc, hm⟩ := N.mro
    exact iop_of (ta := .ref C) J.type (nofi_C I.kIn hc hm N.n1 N.n2) one
  · obtain ⟨t, rfl⟩ := (show ∃ t, v = Value.int i t from rx)
    exact iop_of (ta := .type "int") (W.Looks.of_pure rfl) (nofi_T I.kIn N.n3) one
/-- an instance on the left: the turned def does not matter -/
theorem op_left (B : OwnBin X.K C op.info.2 f g) (F : FnOk X.prog X.w X.K X.mg X.base CX k f fd ps sp) (hb : Binds X.K fd ps []) (hx : Passes CX X E) (hr : Room k X.A) : OpR X (binaryOp op) (rBin C sp (fun _ _ _ _ => False) E) :=
  fun pins s σ H x y v u Q I rx ry h => bin_of (b1_own B F hb hx hr (fun ⟨_, _, _, _, _, _, _, z⟩ => z.elim) (fun ⟨_, _, _, _, _, _, _, z⟩ => z.elim) I rx ry h)
/-- -x -/
theorem un_own (hs : W.findIn X.K (.ref C) "__neg__" = some (some (.ref f))) (hf : W.isFn X.K (.ref f) = true) (F : FnOk X.prog X.w X.K X.mg X.base CX k f fd ps sp) (hb : Binds X.K fd ps []) (hx : Passes CX X E) (hr : Room k X.A) :
    UnR X (unaryOp .USub) (fun x H Q => ∃ a dx fs, x = .ref a ∧ H a = some (.ins C dx fs) ∧ sp [x] H Q E) := fun pins s σ H x v Q I rx h => by
  obtain ⟨a, dx, fs, rfl, ha, q⟩ := h
  cases (show v = Value.ref a from rx)
  obtain ⟨od, J, _⟩ := inst_at I ha
  obtain ⟨m, hF⟩ := I.fr
  exact W.ksp_neg hF I.ok.mod.kin J hs hf (run_fn (us := [.ref a]) (vs := [.ref a]) F hr hb .nil hx I (.cons rfl .nil) (by simpa using q))
end
end Oo

set_option Elab.async false
set_option linter.all false
set_option maxRecDepth 100000
set_option maxHeartbeats 1000000
/-! abs, bool, str, repr of own instances; a staticmethod called by its class; // of great numbers of either sign. -/
namespace Oo
open PySem PySem.Spec PySem.W PyProof.Rows
section
variable {prog : Program} {w : World} {A : Around} {E : Value → Shared → Prop} {s : Shared} {K : Frag} {x y C f g : Addr} {ox oy : Obj} {od oe : Option Obj} {nm T : String}
theorem abs_own {Q : Value → Shared → Prop} (X : K.In s.heap) (I : InstAt s.heap x ox C od) (hs : findIn K (.ref C) "__abs__" = some (some (.ref f))) (hf : isFn K (.ref f) = true)
    (h : wpAny (model prog w) A.in1 (call (.ref f) [.ref x]) Q E s) : wpAny (model prog w) A (call (.builtin "abs") [.ref x]) Q E s := by
  refine Calls.call_function_entry kind_abs plain_abs entry_abs (args_abs _) ?_
  unfold Builtin.«abs»
  refine wpAny_bind (m := oneArg "abs" _) (wpAny_pure ?_)
  refine wpAny_bind (m := callSpecial? (.ref x) (Str.ofString "__abs__")) (special_fn X I hs (beq_iff_eq.mp hf) (wpAny_mono h (fun r s' hr => ?_) fun _ _ y => y))
  exact wpAny_pure ⟨_, rfl, hr⟩
theorem bool_own {Q : Value → Shared → Prop} (h : wpAny (model prog w) A.in1.in1 (truthy (.ref x)) (fun b s' => Q (.bool b) s') E s) : wpAny (model prog w) A (call (.type "bool") [.ref x]) Q E s := by
  refine callType_codes (T := "bool") (Bi := Builtin.«object.__init__») (Q₁ := fun r s₁ => ∃ b, r = Value.bool b ∧ Q r s₁) PySem.F.called_bool (PySem.F.typeCall_bool_1 _) PySem.F.entry_object_init ?_ ?_
  · refine codeAny_of_tree ?_
    show wpAny _ A.in1.in1 (do checkBuiltinCall "bool.__new__" ⟨[.type "bool", .ref x], []⟩; again (.builtin "bool.__new__" ⟨[.type "bool", .ref x], []⟩)) _ _ s
    refine wpAny_bind (wpAny_of_eq (PySem.F.newCall_bool_1 _) (wpAny_pure ⟨plainId_quiet (by decide +kernel) _, codeAny_builtin PySem.F.entry_bool_new ?_⟩))
    rw [Around.under_plainId (by decide +kernel) _]
    unfold Builtin.«bool.__new__»
    refine wpAny_bind (wpAny_of_eq (a := true) rfl ?_)
    refine PySem.W.KFB.if_not rfl ?_
    refine wpAny_bind (wpAny_of_eq (a := true) PySem.F.conv_sub_bool ?_)
    refine PySem.W.KFB.if_not rfl ?_
    refine wpAny_bind (wpAny_of_eq (a := [Value.ref x]) rfl ?_)
    refine wpAny_bind (wpAny_mono h (fun b s₁ hb => ?_) fun _ _ y => y)
    exact wpAny_pure ⟨_, rfl, hb⟩
  · rintro obj s₁ ⟨b, rfl, hq⟩
    exact ⟨PySem.typeIs_bool _ _, PySem.F.args_object_init_2 _ _, object_init_meets PySem.F.called_bool.init.lookup PySem.F.called_bool.made (by decide) prog w A.in1 _ s₁ ⟨PySem.typeIs_bool _ _, rfl, hq⟩⟩
end
end Oo
namespace Oo
open PySem PySem.Spec PyProof.Rows L2
section
variable {X : Cx} {CX : CXT} {pins : List (Addr × Obj)} {σ : L2.St} {H : Hp} {s : Shared} {C f : Addr} {k : Nat} {sp : Sp} {E : XK} {fd : FuncData} {ps : List Str}
/-- a def called below the running body -/
theorem run_atO {A : Around} {Q : VK} {us : List Value} {ws : List V} (F : FnOk X.prog X.w X.K X.mg X.base CX k f fd ps sp) (hb : Binds X.K fd ps []) (hr : Room k A) (e0 : Env0 X.prog X.w X.K X.mg X.base A X.stack s H) (hx : Passes CX X E) (I : Inv X pins σ H s)
    (r : Vals ws us) (h : sp ws H Q E) : wpAny (model X.prog X.w) A (call (.ref f) us) (EP X pins σ Q) X.xe s := by
  have hl : (us ++ []).length = ps.length := by rw [List.append_nil, ← r.length]; exact F.len _ _ _ _ h
  refine wpAny_call (codeAny_mono (F.run A X.stack s H ⟨us, []⟩ us ws Q E hr e0 (by simpa using hb s us I.kIn hl) r h) fun r s' hq => ?_)
  cases r with
  | error e => exact hx pins σ H s e s' I hq
  | ok fl =>
    cases fl with
    | ret u => exact I.after hq
    | next => exact False.elim hq
    | brk => exact False.elim hq
    | cont => exact False.elim hq
def rOne (C : Addr) (sp : Sp) (E : XK) (ok : V → Prop) : List V → Hp → VK → Prop := fun xs H Q => ∃ a dx fs, xs = [V.ref a] ∧ H a = some (.ins C dx fs) ∧ sp [.ref a] H (fun z H' => ok z ∧ Q z H') E
theorem call_absO (hs : W.findIn X.K (.ref C) "__abs__" = some (some (.ref f))) (hf : W.isFn X.K (.ref f) = true) (F : FnOk X.prog X.w X.K X.mg X.base CX k f fd ps sp) (hb : Binds X.K fd ps []) (hr : Room (k + 1) X.A) (hx : Passes CX X E) :
    CallR X (.builtin "abs") (rOne C sp E fun _ => True) := by
  intro pins s σ H xs us Q I r h
  obtain ⟨a, dx, fs, rfl, ha, q⟩ := h
  obtain ⟨u, rfl, ru⟩ := r.one
  cases (show u = Value.ref a from ru)
  obtain ⟨od, J, _⟩ := inst_at I ha
  exact abs_own I.kIn J hs hf (wpAny_mono (run_atO (us := [.ref a]) (ws := [.ref a]) F hb hr.in1 I.env0.in1 hx I (.cons rfl .nil) q) (fun v s' ⟨z, H', I', rz, _, qz⟩ => ⟨z, H', I', rz, qz⟩) fun _ _ z => z)
theorem call_reprO (hs : W.findIn X.K (.ref C) "__repr__" = some (some (.ref f))) (hf : W.isFn X.K (.ref f) = true) (F : FnOk X.prog X.w X.K X.mg X.base CX k f fd ps sp) (hb : Binds X.K fd ps []) (hr : Room (k + 1) X.A) (hx : Passes CX X E) :
    CallR X (.builtin "repr") (rOne C sp E fun z => ∃ t, z = .str t) := by
  intro pins s σ H xs us Q I r h
  obtain ⟨a, dx, fs, rfl, ha, q⟩ := h
  obtain ⟨u, rfl, ru⟩ := r.one
  cases (show u = Value.ref a from ru)
  obtain ⟨od, J, _⟩ := inst_at I ha
  obtain ⟨m, hF⟩ := I.fr
  refine W.repr_K (Room.in1 hr).units0 hF I.ok.mod.kin J hs hf (wpAny_mono (run_atO (us := [.ref a]) (ws := [.ref a]) F hb hr.in1 I.env0.in1 hx I (.cons rfl .nil) q) (fun v s' ⟨z, H', I', rz, ⟨t, ez⟩, qz⟩ => ?_) fun _ _ z => z)
  subst ez
  obtain ⟨t', rfl⟩ := (show ∃ t', v = Value.str t t' from rz)
  exact ⟨.str t, H', I', ⟨t', rfl⟩, qz⟩
theorem call_strO (hs : W.findIn X.K (.ref C) "__str__" = some (some (.ref f))) (hf : W.isFn X.K (.ref f) = true) (F : FnOk X.prog X.w X.K X.mg X.base CX k f fd ps sp) (hb : Binds X.K fd ps []) (hr : Room (k + 2) X.A) (hx : Passes CX X E) :
    CallR X (.type "str") (rOne C sp E fun z => ∃ t, z = .str t) := by
  intro pins s σ H xs us Q I r h
  obtain ⟨a, dx, fs, rfl, ha, q⟩ := h
  obtain ⟨u, rfl, ru⟩ := r.one
  cases (show u = Value.ref a from ru)
  obtain ⟨od, J, _⟩ := inst_at I ha
  have hr2 : Room k X.A.in1.in1 := (show Room (k + 1) X.A.in1 from Room.in1 hr).in1
  refine W.kso_call hr2.units0 I.kIn J hs hf (wpAny_mono (run_atO (us := [.ref a]) (ws := [.ref a]) F hb hr2 I.env0.in1.in1 hx I (.cons rfl .nil) q) (fun v s' ⟨z, H', I', rz, ⟨t, ez⟩, qz⟩ => ?_) fun _ _ z => z)
  subst ez
  obtain ⟨t', rfl⟩ := (show ∃ t', v = Value.str t t' from rz)
  exact ⟨.str t, H', I', ⟨t', rfl⟩, qz⟩
theorem call_boolO (hs : W.findIn X.K (.ref C) "__bool__" = some (some (.ref f))) (hf : W.isFn X.K (.ref f) = true) (F : FnOk X.prog X.w X.K X.mg X.base CX k f fd ps sp) (hb : Binds X.K fd ps []) (hr : Room (k + 2) X.A) (hx : Passes CX X E) :
    CallR X (.type "bool") (rOne C sp E fun z => ∃ t, z = .bl t) := by
  intro pins s σ H xs us Q I r h
  obtain ⟨a, dx, fs, rfl, ha, q⟩ := h
  obtain ⟨u, rfl, ru⟩ := r.one
  cases (show u = Value.ref a from ru)
  obtain ⟨od, J, _⟩ := inst_at I ha
  obtain ⟨m, hF⟩ := I.fr
  have hr2 : Room k X.A.in1.in1 := (show Room (k + 1) X.A.in1 from Room.in1 hr).in1
  refine bool_own (W.truthy_K hF I.ok.mod.kin J hs hf (wpAny_mono (run_atO (us := [.ref a]) (ws := [.ref a]) F hb hr2 I.env0.in1.in1 hx I (.cons rfl .nil) q) (fun v s' ⟨z, H', I', rz, ⟨t, ez⟩, qz⟩ => ?_) fun _ _ z => z))
  subst ez
  cases (show v = Value.bool t from rz)
  exact ⟨.bl t, H', I', rfl, qz⟩
/-- a // b, b not 0, of any sign -/
def CDivX (_ j : Int) : Prop := j ≠ 0 ∧ j.natAbs.log2 < 9000
theorem op_fdivX : OpR X (binaryOp .FloorDiv) (rI CDivX fun i j => .int (i.fdiv j)) := opI fun i j _ _ _ _ _ hc q => by
  exact floordiv_int hc.1 q (.inl (PyProof.noPylong_of_log2 hc.2))
/-- C.m(..), m a staticmethod: its record at p, its def at g -/
structure SMet (K : W.Frag) (C : Addr) (mc : Value) (m : Str) (p g : Addr) : Prop where
  at_ : W.findCls K (.ref C) mc m = some (.get (.builtin "staticmethod.__get__") (.ref p) .none (.ref C))
  ty : W.typeIn K (.ref C) = some mc
  rc : ∃ rest, W.recIn K p "staticmethod" = some (.ref g :: rest)
  kp : W.keepIn K (.ref g) = true
def tSMeth (C : Addr) (sp : Sp) (E : XK) (ta : TE) (t : TA) : TE := fun σ H Q => ta σ H fun x H1 => x = .ref C ∧ t σ H1 fun vs H2 => sp vs H2 Q E
theorem pe_smeth {o e : Expr} {es : List Expr} {m : Str} {pos apos : Pos} {ta : TE} {t : TA} {pl : Sem Bool} {p : Addr} {mc : Value} (he : PE X o ta) (r : ClX.CRead X.K C mc) (c : SMet X.K C mc m p f) (F : FnOk X.prog X.w X.K X.mg X.base CX k f fd ps sp) (hb : Binds X.K fd ps [])
    (hr : Room k X.A) (hx : Passes CX X E) (ha : PA X (e :: es) t)
    (hst : starEach (e :: es) X.env = (false, eval e X.env) :: starEach es X.env := by rfl) (hpl : (backTo pos (starEach es X.env)).any (·.1) = false := by rfl)
    (ht : eval (.Call (.Attribute o m apos) (e :: es) [] pos) X.env = (do
      let ov ← eval o X.env
      standAt apos.atName
      let (f, first) ← holding [ov] (getMethod ov m pl)
      callWith pos f first (backTo pos (starEach (e :: es) X.env)) (backToKw pos (keywordEach [] X.env))) := by rfl) :
    PE X (.Call (.Attribute o m apos) (e :: es) [] pos) (tSMeth C sp E ta t) := by
  refine ⟨fun pins s σ H Q I h => ?_⟩
  refine PySem.W.methodCall_KW (pl := pl) (thn (he.run pins s σ H _ I h) fun u s1 ⟨x, H1, I1, rx, ex, q⟩ => ?_) ht
  subst ex
  obtain rfl : u = Value.ref C := rx
  obtain ⟨rest, hp⟩ := c.rc
  obtain ⟨m1, hF⟩ := I1.fr
  refine PySem.W.method_cls I1.kIn r.ga (PySem.W.cls_sm hF I1.ok.mod.kin c.ty r.rd c.at_ hp rfl ?_)
  have I2 : Inv X pins σ H1 { s1 with toks := s1.toks + 1 } := I1.tok _
  refine PySem.W.callWith_K (first := []) (h₀ := X.base) I2.ok.mod.kin c.kp (thn (ha.run pos pins _ σ H1 _ I2 q) fun us s2 ⟨vs, H2, I3, rv, q2⟩ => ⟨I3.kIn, ?_⟩) hst hpl
  exact run_fn F hr hb .nil hx I3 rv (by simpa using q2)
end
end Oo

set_option Elab.async false
set_option linter.all false
set_option maxRecDepth 100000
set_option maxHeartbeats 1000000
/-! Amounts: instances that hold a rational number in lowest terms. -/
namespace Am
open PySem PySem.Spec PyProof.Rows L2 Oo
/-- all that stands, stands on -/
def Ext (H H' : Hp) : Prop := ∀ b o, H b = some o → H' b = some o
theorem Ext.refl (H : Hp) : Ext H H := fun _ _ h => h
theorem Ext.trans {H H1 H2 : Hp} (a : Ext H H1) (b : Ext H1 H2) : Ext H H2 := fun c o h => b c o (a c o h)
theorem Ext.new {H : Hp} {a : Addr} {o : HO} (n : H a = none) : Ext H (upd H a o) := fun b u e => by rw [upd_ne (ne_of_none e n)]; exact e
theorem Ext.then {H H' : Hp} {a : Addr} {o : HO} (x : Ext H H') (n : H' a = none) : Ext H (upd H' a o) := x.trans (Ext.new n)
theorem Ext.seq {K : W.Frag} {H H' : Hp} {p : Addr} {xs : List V} (e : Ext H H') (h : SqL K H p xs) : SqL K H' p xs := by
  rcases h with (h | ⟨o, h⟩) | h
  · exact .inl (.inl (e _ _ h))
  · exact .inl (.inr ⟨o, e _ _ h⟩)
  · exact .inr h
theorem Ext.gone {H H' : Hp} {p : Addr} (e : Ext H H') (h : H' p = none) : H p = none := by
  cases z : H p with
  | none => rfl
  | some o => rw [e p o z] at h; cases h
def flds (q : Rat) : List (Str × V) := [("_top", .int q.num), ("_bottom", .int q.den)]
theorem ntb : ("_bottom" : Str) ≠ "_top" := by decide +kernel
theorem lk_top (q : Rat) : (flds q).lookup ("_top" : Str) = some (.int q.num) := by
  show List.lookup ("_top" : Str) (("_top", V.int q.num) :: _) = _
  rw [List.lookup_cons_self]
theorem lk_bot (q : Rat) : (flds q).lookup ("_bottom" : Str) = some (.int q.den) := by
  show List.lookup ("_bottom" : Str) [("_top", V.int q.num), ("_bottom", V.int q.den)] = _
  rw [List.lookup_cons, beq_eq_false_iff_ne.mpr ntb, List.lookup_cons_self]
theorem flds_of (n d : Int) (q : Rat) (hn : n = q.num) (hd : d = q.den) : putF "_bottom" (.int d) (putF "_top" (.int n) []) = flds q := by
  subst hn hd
  show (if ("_top" : Str) = "_bottom" then _ else (("_top" : Str), V.int q.num) :: [(("_bottom" : Str), V.int q.den)]) = _
  rw [if_neg (Ne.symm ntb)]
  rfl
/-- an Amount of the class at C stands at a: the number q -/
def Is (C : Addr) (H : Hp) (a : Addr) (q : Rat) : Prop := ∃ dx, H a = some (.ins C dx (flds q))
theorem Is.ext {C a : Addr} {H H' : Hp} {q : Rat} (h : Is C H a q) (e : Ext H H') : Is C H' a q := let ⟨dx, z⟩ := h; ⟨dx, e _ _ z⟩
theorem Is.ins {C a : Addr} {H : Hp} {q : Rat} (h : Is C H a q) : ∃ dx fs, H a = some (.ins C dx fs) := let ⟨dx, z⟩ := h; ⟨dx, _, z⟩
/-- v is a NUMBER: q -/
def Num (C : Addr) (H : Hp) (v : V) (q : Rat) : Prop := (∃ i : Int, v = .int i ∧ q = (i : Rat)) ∨ ∃ a, v = .ref a ∧ Is C H a q
theorem Num.ext {C : Addr} {H H' : Hp} {v : V} {q : Rat} (h : Num C H v q) (e : Ext H H') : Num C H' v q := h.imp (fun z => z) fun ⟨a, z, i⟩ => ⟨a, z, i.ext e⟩
theorem Num.is {C a : Addr} {H : Hp} {q : Rat} (h : Is C H a q) : Num C H (.ref a) q := .inr ⟨a, rfl, h⟩
theorem Num.int {C : Addr} {H : Hp} (i : Int) : Num C H (.int i) (i : Rat) := .inl ⟨i, rfl, rfl⟩
/-- no larger than the machine takes -/
def Sz (q : Rat) : Prop := q.num.natAbs < 2 ^ 4000 ∧ q.den < 2 ^ 4000
/-- a new Amount -/
def New (C : Addr) (H : Hp) (Q : VK) (q : Rat) : Prop := ∀ (r : Addr) (H' : Hp), Ext H H' → H r = none → Is C H' r q → Q (.ref r) H'
/-- what the text says of the class -/
structure Cl (K : W.Frag) (C : Addr) : Prop where
  cl : Cls K C
  nT : NoAttr K C "_top"
  nB : NoAttr K C "_bottom"
/-! ### promises -/
def spGet (C : Addr) (g : Rat → V) : Sp := fun vs H Q _ => ∃ a q, vs = [.ref a] ∧ Is C H a q ∧ Q (g q) H
def spInit (C : Addr) : Sp := fun vs H Q _ => ∃ (x dx : Addr) (n d : Int), vs = [.ref x, .int n, .int d] ∧ H x = some (.ins C dx []) ∧ d ≠ 0 ∧ n.natAbs < 2 ^ 8999 ∧ d.natAbs < 2 ^ 8999 ∧
  Q .non (upd H x (.ins C dx (flds (Rat.divInt n d))))
def spOf (C : Addr) : Sp := fun vs H Q _ => ∃ v q, vs = [v] ∧ Num C H v q ∧ Sz q ∧ ∀ (r : Addr) (H' : Hp), Ext H H' → Is C H' r q → Q (.ref r) H'
def spOp (C : Addr) (f : Rat → Rat → Rat) : Sp := fun vs H Q _ => ∃ a y q p, vs = [.ref a, y] ∧ Is C H a q ∧ Num C H y p ∧ Sz q ∧ Sz p ∧ New C H Q (f q p)
def spUn (C : Addr) (f : Rat → Rat) : Sp := fun vs H Q _ => ∃ a q, vs = [.ref a] ∧ Is C H a q ∧ Sz q ∧ New C H Q (f q)
/-- .. of a divisor: 0 is refused by the error of the class at Z, which tells None -/
def Zero (Z : Addr) (H : Hp) (E : XK) : Prop := ∀ e d : Addr, H e = none → H d = none → d ≠ e → E (.ref Z) (some d) (Gx.leftH H Z e d [("rule", .non)])
/-! ### rules -/
def tGet (C : Addr) (g : Rat → V) (ta : TE) : TE := fun σ H Q => ta σ H fun x H1 => ∃ a q, x = .ref a ∧ Is C H1 a q ∧ Q (g q) H1
section
variable {X : Cx} {CX : CXT} {C : Addr} {e : Expr} {pos : Pos} {ta : TE} {k : Nat} {sp : Sp} {E : XK}
theorem pe_top (T : Cl X.K C) (he : PE X e ta) (hb : attributeBase e "_top" X.env (eval e X.env) = eval e X.env := by rfl) : PE X (.Attribute e "_top" pos) (tGet C (fun q => .int q.num) ta) := by
  refine ⟨fun pins s σ H Q I h => ?_⟩
  refine attr_of hb (thn (he.run pins s σ H _ I h) fun u s1 ⟨x, H1, I1, rx, a, q, ex, ⟨dx, ea⟩, z⟩ => ?_)
  subst ex
  obtain rfl : u = Value.ref a := rx
  exact getattr_ok I1 ea T.cl T.nT (lk_top q) fun u' s2 I2 ru => ⟨_, H1, I2, ru, z⟩
theorem pe_bot (T : Cl X.K C) (he : PE X e ta) (hb : attributeBase e "_bottom" X.env (eval e X.env) = eval e X.env := by rfl) : PE X (.Attribute e "_bottom" pos) (tGet C (fun q => .int q.den) ta) := by
  refine ⟨fun pins s σ H Q I h => ?_⟩
  refine attr_of hb (thn (he.run pins s σ H _ I h) fun u s1 ⟨x, H1, I1, rx, a, q, ex, ⟨dx, ea⟩, z⟩ => ?_)
  subst ex
  obtain rfl : u = Value.ref a := rx
  exact getattr_ok I1 ea T.cl T.nB (lk_bot q) fun u' s2 I2 ru => ⟨_, H1, I2, ru, z⟩
theorem pe_pr {f : Str} {p g : Addr} {gv : Rat → V} {fd : FuncData} {ps : List Str} (T : Cl X.K C) (hp : PropOf X.K C f p g) (F : FnOk X.prog X.w X.K X.mg X.base CX0 k g fd ps (spGet C gv)) (hb2 : Binds X.K fd ps []) (hr : Room (k + 1) X.A) (he : PE X e ta)
    (hb : attributeBase e f X.env (eval e X.env) = eval e X.env := by rfl) : PE X (.Attribute e f pos) (tGet C gv ta) := by
  refine ⟨fun pins s σ H Q I h => ?_⟩
  refine attr_of hb (thn (he.run pins s σ H _ I h) fun u s1 ⟨x, H1, I1, rx, a, q, ex, ia, z⟩ => ?_)
  subst ex
  obtain rfl : u = Value.ref a := rx
  obtain ⟨dx, ea⟩ := id ia
  exact getprop_ok (E := E0) I1 ea T.cl hp F hr hb2 .nil pass0 ⟨a, q, rfl, ia, z⟩
end
/-! ### arithmetic -/
theorem bits {n : Nat} {i : Int} (h : i.natAbs < 2 ^ n) (hn : n ≤ 8999) : i.natAbs.log2 < 9000 := by
  by_cases z : i.natAbs = 0
  · rw [z]; decide
  · exact Nat.lt_of_lt_of_le ((Nat.log2_lt z).mpr h) (by omega)
theorem mul_bits {n m : Nat} {i j : Int} (hi : i.natAbs < 2 ^ n) (hj : j.natAbs < 2 ^ m) : (i * j).natAbs < 2 ^ (n + m) := wide_lt hi hj
theorem mulOk {n m : Nat} {i j : Int} (hi : i.natAbs < 2 ^ n) (hj : j.natAbs < 2 ^ m) (hn : n ≤ 8999) (hm : m ≤ 8999) : CMulW i j := by
  have a := bits hi hn
  have b := bits hj hm
  show i.natAbs.log2 + j.natAbs.log2 < 1000000
  omega
theorem add_bits {n : Nat} {i j : Int} (hi : i.natAbs < 2 ^ n) (hj : j.natAbs < 2 ^ n) : (i + j).natAbs < 2 ^ (n + 1) := by
  have h2 : (2 : Nat) ^ (n + 1) = 2 ^ n + 2 ^ n := by rw [Nat.pow_succ]; omega
  rw [h2]
  omega
theorem more_bits {n m : Nat} {i : Int} (hi : i.natAbs < 2 ^ n) (h : n ≤ m) : i.natAbs < 2 ^ m := Nat.lt_of_lt_of_le hi (Nat.pow_le_pow_right (by decide) h)
/-- what the class's two divisions give -/
theorem low_num (n d : Int) (h : d ≠ 0) : n.fdiv (if d < 0 then -((n.natAbs.gcd d.natAbs : Nat) : Int) else ((n.natAbs.gcd d.natAbs : Nat) : Int)) = (Rat.divInt n d).num := by
  rw [Rat.num_divInt]
  have e : d.gcd n = n.natAbs.gcd d.natAbs := by
    show d.natAbs.gcd n.natAbs = _
    exact Nat.gcd_comm _ _
  have dv : ((n.natAbs.gcd d.natAbs : Nat) : Int) ∣ n := Int.ofNat_dvd_left.mpr (Nat.gcd_dvd_left _ _)
  have g0 : ((n.natAbs.gcd d.natAbs : Nat) : Int) ≠ 0 := by
    have : 0 < n.natAbs.gcd d.natAbs := Nat.gcd_pos_of_pos_right _ (by omega)
    omega
  rw [e]
  generalize ((n.natAbs.gcd d.natAbs : Nat) : Int) = g at dv g0 ⊢
  obtain ⟨k, rfl⟩ := dv
  by_cases hd : d < 0
  · rw [if_pos hd, Int.sign_eq_neg_one_of_neg hd]
    have e1 : g * k = (-g) * (-k) := by rw [Int.neg_mul_neg]
    have e2 : -1 * (g * k) = g * (-k) := by rw [Int.neg_one_mul, Int.mul_neg]
    rw [e2, Int.mul_ediv_cancel_left _ g0, e1, Int.mul_fdiv_cancel_left _ (by omega)]
  · rw [if_neg hd, Int.sign_eq_one_of_pos (by omega), Int.one_mul, Int.mul_ediv_cancel_left _ g0, Int.mul_fdiv_cancel_left _ g0]
theorem low_den (n d : Int) (h : d ≠ 0) : d.fdiv (if d < 0 then -((n.natAbs.gcd d.natAbs : Nat) : Int) else ((n.natAbs.gcd d.natAbs : Nat) : Int)) = ((Rat.divInt n d).den : Int) := by
  rw [Rat.den_divInt, if_neg h]
  have e : d.gcd n = n.natAbs.gcd d.natAbs := by
    show d.natAbs.gcd n.natAbs = _
    exact Nat.gcd_comm _ _
  have g0 : 0 < n.natAbs.gcd d.natAbs := Nat.gcd_pos_of_pos_right _ (by omega)
  obtain ⟨k, hk⟩ : n.natAbs.gcd d.natAbs ∣ d.natAbs := Nat.gcd_dvd_right _ _
  rw [e]
  have key : ∀ g k : Nat, 0 < g → d.natAbs = g * k → d.fdiv (if d < 0 then -(g : Int) else (g : Int)) = ((d.natAbs / g : Nat) : Int) := by
    intro g k g0 hk
    rw [hk, Nat.mul_div_cancel_left _ g0]
    have gz : (g : Int) ≠ 0 := by omega
    have this : ((d.natAbs : Nat) : Int) = ((g * k : Nat) : Int) := by rw [hk]
    rw [Int.natCast_mul] at this
    by_cases hd : d < 0
    · rw [if_pos hd]
      have ed : d = (-(g : Int)) * (k : Int) := by
        rw [Int.neg_mul]
        omega
      rw [ed, Int.mul_fdiv_cancel_left _ (by omega)]
    · rw [if_neg hd]
      have ed : d = (g : Int) * (k : Int) := by omega
      rw [ed, Int.mul_fdiv_cancel_left _ gz]
  exact key _ k g0 hk
theorem add_rat (q p : Rat) : Rat.divInt (q.num * (p.den : Int) + p.num * (q.den : Int)) ((q.den : Int) * (p.den : Int)) = q + p := by
  conv => rhs; rw [← Rat.num_divInt_den q, ← Rat.num_divInt_den p]
  rw [Rat.divInt_add_divInt _ _ (by have := q.den_pos; omega) (by have := p.den_pos; omega)]
theorem mul_rat (q p : Rat) : Rat.divInt (q.num * p.num) ((q.den : Int) * (p.den : Int)) = q * p := by
  conv => rhs; rw [← Rat.num_divInt_den q, ← Rat.num_divInt_den p]
  rw [Rat.divInt_mul_divInt]
theorem neg_rat (q : Rat) : Rat.divInt (-q.num) (q.den : Int) = -q := by
  conv => rhs; rw [← Rat.num_divInt_den q]
  rw [Rat.neg_divInt]
theorem div_rat (q p : Rat) : Rat.divInt (q.num * (p.den : Int)) ((q.den : Int) * p.num) = q / p := by
  rw [Rat.div_def, Rat.inv_def]
  conv => rhs; rw [← Rat.num_divInt_den q]
  rw [Rat.divInt_mul_divInt]
theorem int_rat (i : Int) : Rat.divInt i 1 = (i : Rat) := by
  rw [show (1 : Int) = ((1 : Nat) : Int) from rfl, Rat.divInt_ofNat]
  exact Rat.ext (by simp [Rat.num_mkRat]) (by simp [Rat.den_mkRat])

/-! ### the class's own call -/
/-- what a body asks of the class's making -/
structure Base (P : Program) (w : World) (K : W.Frag) (mg : Str → Option Value) (base : Heap) (C : Addr) : Prop where
  T : Cl K C
  mgA : mg "Amount" = some (.ref C)
  make : ∃ fI fd, Mk K C fI ∧ FnOk P w K mg base CX0 2 fI fd ["self", "top", "bottom"] (spInit C) ∧ Binds K fd ["self", "top", "bottom"] [] ∧ ∃ ds, Vals [V.int 1] ds ∧ Binds K fd ["self", "top", "bottom"] ds
  top : ∃ p g fd, PropOf K C "top" p g ∧ FnOk P w K mg base CX0 1 g fd ["self"] (spGet C fun q => .int q.num) ∧ Binds K fd ["self"] []
  bot : ∃ p g fd, PropOf K C "bottom" p g ∧ FnOk P w K mg base CX0 1 g fd ["self"] (spGet C fun q => .int q.den) ∧ Binds K fd ["self"] []
  sgn : ∃ p g fd, PropOf K C "sign" p g ∧ FnOk P w K mg base CX0 1 g fd ["self"] (spGet C fun q => .int q.num.sign) ∧ Binds K fd ["self"] []
structure Of (P : Program) (w : World) (K : W.Frag) (mg : Str → Option Value) (base : Heap) (C : Addr) : Prop where
  of : ∃ mc p g fd, ClX.CRead K C mc ∧ SMet K C mc "of" p g ∧ FnOk P w K mg base CX0 4 g fd ["number"] (spOf C) ∧ Binds K fd ["number"] []
def tMk2 (C : Addr) (t : TA) : TE := fun σ H Q => t σ H fun vs H1 => ∃ n d : Int, vs = [.int n, .int d] ∧ d ≠ 0 ∧ n.natAbs < 2 ^ 8999 ∧ d.natAbs < 2 ^ 8999 ∧ New C H1 Q (Rat.divInt n d)
def tMk1 (C : Addr) (t : TA) : TE := fun σ H Q => t σ H fun vs H1 => ∃ n : Int, vs = [.int n] ∧ n.natAbs < 2 ^ 8999 ∧ New C H1 Q (n : Rat)
def tOf (C : Addr) (ta : TE) (t : TA) : TE := tSMeth C (spOf C) E0 ta t
section
variable {X : Cx} {C : Addr} {p pos apos : Pos} {e e2 o : Expr} {es : List Expr} {t : TA} {ta : TE} {k : Nat}
theorem new_made {H : Hp} {Q : VK} {q : Rat} {n d : Int} (hd : d ≠ 0) (hq : q = Rat.divInt n d) (h1 : n.natAbs < 2 ^ 8999) (h2 : d.natAbs < 2 ^ 8999) (h : New C H Q q) :
    ∀ x dx, H x = none → H dx = none → dx ≠ x → spInit C (V.ref x :: ([V.int n, V.int d])) (upd (upd H dx (.own x)) x (.ins C dx [])) (fun v H2 => v = .non ∧ Q (.ref x) H2) E0 := by
  intro x dx hx hdx ne
  refine ⟨x, dx, n, d, rfl, upd_same, hd, h1, h2, rfl, h x _ ?_ hx ⟨dx, ?_⟩⟩
  · intro b u e
    have nx := ne_of_none e hx
    rw [upd_ne nx, upd_ne nx, upd_ne (ne_of_none e hdx)]
    exact e
  · rw [upd_same, hq]
theorem pe_mk2 (B : Base X.prog X.w X.K X.mg X.base C) (hr : Room 3 X.A) (hg : Gl X "Amount") (ha : PA X (e :: es) t) (he : starEach (e :: es) X.env = (false, eval e X.env) :: starEach es X.env := by rfl) (hpl : (backTo pos (starEach es X.env)).any (·.1) = false := by rfl) :
    PE X (.Call (.Name "Amount" p) (e :: es) [] pos) (tMk2 C t) := by
  obtain ⟨fI, fd, M, F, b2, _⟩ := B.make
  refine ⟨fun pins s σ H Q I h => ?_⟩
  refine wpAny_Call_Name_kw (ld_glob I hg B.mgA ?_ (by decide))
  refine PySem.W.callWith_K (h₀ := X.base) I.ok.mod.kin M.kp (thn (ha.run pos pins s σ H _ I h) fun us s1 ⟨vs, H1, I1, r, n, d, ev, hd, h1, h2, q⟩ => ⟨I1.kIn, ?_⟩) he hpl
  subst ev
  exact run_make (E := E0) M F hr b2 .nil pass0 I1 r (by simpa using new_made hd rfl h1 h2 q)
theorem pe_mk1 (B : Base X.prog X.w X.K X.mg X.base C) (hr : Room 3 X.A) (hg : Gl X "Amount") (ha : PA X (e :: es) t) (he : starEach (e :: es) X.env = (false, eval e X.env) :: starEach es X.env := by rfl) (hpl : (backTo pos (starEach es X.env)).any (·.1) = false := by rfl) :
    PE X (.Call (.Name "Amount" p) (e :: es) [] pos) (tMk1 C t) := by
  obtain ⟨fI, fd, M, F, _, ds, hv, b1⟩ := B.make
  refine ⟨fun pins s σ H Q I h => ?_⟩
  refine wpAny_Call_Name_kw (ld_glob I hg B.mgA ?_ (by decide))
  refine PySem.W.callWith_K (h₀ := X.base) I.ok.mod.kin M.kp (thn (ha.run pos pins s σ H _ I h) fun us s1 ⟨vs, H1, I1, r, n, ev, h1, q⟩ => ⟨I1.kIn, ?_⟩) he hpl
  subst ev
  exact run_make (E := E0) M F hr b1 hv pass0 I1 r (by simpa using new_made (d := 1) (by decide) (int_rat n).symm h1 (by decide) q)
theorem pe_of (O : Of X.prog X.w X.K X.mg X.base C) (hr : Room 4 X.A) (ho : PE X o ta) (ha : PA X [e] t) {pl : Sem Bool}
    (hst : starEach [e] X.env = (false, eval e X.env) :: starEach [] X.env := by rfl) (hpl : (backTo pos (starEach [] X.env)).any (·.1) = false := by rfl)
    (ht : eval (.Call (.Attribute o "of" apos) [e] [] pos) X.env = (do
      let ov ← eval o X.env
      standAt apos.atName
      let (f, first) ← holding [ov] (getMethod ov "of" pl)
      callWith pos f first (backTo pos (starEach [e] X.env)) (backToKw pos (keywordEach [] X.env))) := by rfl) : PE X (.Call (.Attribute o "of" apos) [e] [] pos) (tOf C ta t) := by
  obtain ⟨mc, p, g, fd, R, S, F, b⟩ := O.of
  exact pe_smeth (pl := pl) ho R S F b hr pass0 ha hst hpl ht
theorem pe_pTop (B : Base X.prog X.w X.K X.mg X.base C) (hr : Room 2 X.A) (he : PE X e ta) (hb : attributeBase e "top" X.env (eval e X.env) = eval e X.env := by rfl) : PE X (.Attribute e "top" pos) (tGet C (fun q => .int q.num) ta) := by
  obtain ⟨p, g, fd, hp, F, b⟩ := B.top
  exact pe_pr B.T hp F b hr he hb
theorem pe_pBot (B : Base X.prog X.w X.K X.mg X.base C) (hr : Room 2 X.A) (he : PE X e ta) (hb : attributeBase e "bottom" X.env (eval e X.env) = eval e X.env := by rfl) : PE X (.Attribute e "bottom" pos) (tGet C (fun q => .int q.den) ta) := by
  obtain ⟨p, g, fd, hp, F, b⟩ := B.bot
  exact pe_pr B.T hp F b hr he hb
theorem pe_pSgn (B : Base X.prog X.w X.K X.mg X.base C) (hr : Room 2 X.A) (he : PE X e ta) (hb : attributeBase e "sign" X.env (eval e X.env) = eval e X.env := by rfl) : PE X (.Attribute e "sign" pos) (tGet C (fun q => .int q.num.sign) ta) := by
  obtain ⟨p, g, fd, hp, F, b⟩ := B.sgn
  exact pe_pr B.T hp F b hr he hb
end
/-! ### operators by values -/
/-- x op y, x an Amount, y a NUMBER -/
def rL (C : Addr) (f : Rat → Rat → Rat) : R2 := fun x y H Q => ∃ a q p, x = .ref a ∧ Is C H a q ∧ Num C H y p ∧ Sz q ∧ Sz p ∧ New C H Q (f q p)
/-- x op y, both NUMBERS, one an Amount -/
def rN (C : Addr) (f : Rat → Rat → Rat) : R2 := fun x y H Q => ∃ q p, Num C H x q ∧ Num C H y p ∧ ((∃ a, x = .ref a) ∨ ∃ a, y = .ref a) ∧ Sz q ∧ Sz p ∧ New C H Q (f q p)
section
variable {X : Cx} {C f g : Addr} {k : Nat} {op : Operator} {fd gd : FuncData} {ps qs : List Str} {h : Rat → Rat → Rat}
theorem op_L {go : Option Addr} (B : OwnBin X.K C op.info.2 f go) (F : FnOk X.prog X.w X.K X.mg X.base CX0 k f fd ps (spOp C h)) (hb : Binds X.K fd ps []) (hr : Room k X.A) : OpR X (binaryOp op) (rL C h) := fun pins s σ H x y v u Q I rx ry hh => by
  obtain ⟨a, q, p, rfl, ia, ny, sq, sp, nw⟩ := hh
  obtain ⟨dx, ea⟩ := id ia
  have prom : spOp C h [V.ref a, y] H Q E0 := ⟨a, y, q, p, rfl, ia, ny, sq, sp, nw⟩
  have one : rBin C (spOp C h) (fun _ _ _ _ => False) E0 (.ref a) y H Q := by
    rcases id ny with ⟨i, rfl, _⟩ | ⟨b, rfl, dy, eb⟩
    · exact .inr (.inl ⟨a, dx, _, i, rfl, rfl, ea, prom⟩)
    · exact .inl ⟨a, dx, _, b, dy, _, rfl, rfl, ea, eb, prom⟩
  exact op_left B F hb pass0 hr pins s σ H _ _ v u Q I rx ry one
theorem conv_bin {H : Hp} {x y : V} {Q : VK} {sp sq : Sp} {E : XK} (hsp : ∀ a y q p, Is C H a q → Num C H y p → Sz q → Sz p → New C H Q (h q p) → sp [V.ref a, y] H Q E) (hsq : ∀ a y q p, Is C H a q → Num C H y p → Sz q → Sz p → New C H Q (h p q) → sq [V.ref a, y] H Q E)
    (hh : rN C h x y H Q) : rBin C sp sq E x y H Q := by
  obtain ⟨q, p, nx, ny, one, sq', sp', nw⟩ := hh
  rcases id nx with ⟨i, rfl, _⟩ | ⟨a, rfl, ia⟩
  · rcases id ny with ⟨j, rfl, _⟩ | ⟨b, rfl, ib⟩
    · rcases one with ⟨_, z⟩ | ⟨_, z⟩ <;> cases z
    · obtain ⟨dy, eb⟩ := id ib
      exact .inr (.inr ⟨b, dy, _, i, rfl, rfl, eb, hsq b _ p q ib nx sp' sq' nw⟩)
  · obtain ⟨dx, ea⟩ := id ia
    have z := hsp a y q p ia ny sq' sp' nw
    rcases id ny with ⟨j, rfl, _⟩ | ⟨b, rfl, dy, eb⟩
    · exact .inr (.inl ⟨a, dx, _, j, rfl, rfl, ea, z⟩)
    · exact .inl ⟨a, dx, _, b, dy, _, rfl, rfl, ea, eb, z⟩
theorem op_N (h5 : Five op) (B : OwnBin X.K C op.info.2 f (some g)) (F : FnOk X.prog X.w X.K X.mg X.base CX0 k f fd ps (spOp C h)) (hb : Binds X.K fd ps []) (G : FnOk X.prog X.w X.K X.mg X.base CX0 k g gd qs (spOp C fun q p => h p q)) (hb2 : Binds X.K gd qs []) (hr : Room k X.A) :
    OpR X (binaryOp op) (rN C h) := fun pins s σ H x y v u Q I rx ry hh =>
  op_bin (E := E0) h5 B F hb G hb2 pass0 hr pins s σ H x y v u Q I rx ry (conv_bin (fun a y q p i n z z' w => ⟨a, y, q, p, rfl, i, n, z, z', w⟩) (fun a y q p i n z z' w => ⟨a, y, q, p, rfl, i, n, z, z', w⟩) hh)
theorem iop_N (h5 : Five op) (B : OwnBin X.K C op.info.2 f (some g)) (N : NoIn X.K C op.info.2) (F : FnOk X.prog X.w X.K X.mg X.base CX0 k f fd ps (spOp C h)) (hb : Binds X.K fd ps []) (G : FnOk X.prog X.w X.K X.mg X.base CX0 k g gd qs (spOp C fun q p => h p q)) (hb2 : Binds X.K gd qs []) (hr : Room k X.A) :
    OpR X (inplaceOp op) (rN C h) := fun pins s σ H x y v u Q I rx ry hh =>
  iop_bin (E := E0) h5 B N F hb G hb2 pass0 hr pins s σ H x y v u Q I rx ry (conv_bin (fun a y q p i n z z' w => ⟨a, y, q, p, rfl, i, n, z, z', w⟩) (fun a y q p i n z z' w => ⟨a, y, q, p, rfl, i, n, z, z', w⟩) hh)
end
end Am

set_option Elab.async false
set_option linter.all false
set_option maxRecDepth 100000
set_option maxHeartbeats 1000000
/-! The methods of Amount. -/
namespace KA
open PySem PySem.Spec PyProof.Rows L2 Oo Gd Am
section
variable {P : Program} {w : World} {K : W.Frag} {mg : Str → Option Value} {base : Heap} {C f : Addr} {fd : FuncData}
/-! ### is_whole -/
def spWhole : Sp := fun vs H Q _ => ∃ i : Int, vs = [.int i] ∧ Q (.bl true) H
theorem scWhole : FnScope ["value"] ["value"] (defScope (top 15)) := ⟨rfl, rfl, rfl, by decide +kernel, rfl, by decide +kernel, by decide +kernel⟩
theorem ok_whole (fr : Frees mg) (F : Fun K "is_whole" "is_whole" (top 15) f fd) : FnOk P w K mg base CX0 1 f fd ["value"] spWhole := by
  refine F.ok scWhole (fun vs H Q E h => ?_) (fun cdv A outer s H vs Q E hr h => ?_)
  · obtain ⟨i, rfl, _⟩ := h
    rfl
  · obtain ⟨i, rfl, q⟩ := h
    refine ⟨_, pss_one (ps_ret (pe_and (pe_callB call_isi rfl (fr.h _ (by decide +kernel)) (by decide +kernel) (pa_cons (pv 0) (pa_cons (pe_bltn (v := V.ty "int") rfl (fr.h _ (by decide +kernel)) (by rfl) rfl) pa_nil)))
      (pe_one (pe_not (pe_callB call_isi rfl (fr.h _ (by decide +kernel)) (by decide +kernel) (pa_cons (pv 0) (pa_cons (pe_bltn (v := V.ty "bool") rfl (fr.h _ (by decide +kernel)) (by rfl) rfl) pa_nil))))))), ?_⟩
    refine ⟨_, rfl, _, _, _, _, true, rfl, ClsV.ty "int", TyX.base (TyOf.int i), kit_ty (by decide +kernel), true, rfl, ?_⟩
    refine ⟨_, rfl, _, _, _, _, false, rfl, ClsV.ty "bool", TyX.base (TyOf.int i), kit_ty (by decide +kernel), false, rfl, q⟩
/-! ### __init__ -/
theorem scInit : FnScope ["self", "top", "bottom", "shared"] ["self", "top", "bottom"] (defScope (am 0)) := ⟨rfl, rfl, rfl, by decide +kernel, rfl, by decide +kernel, by decide +kernel⟩
abbrev FunI (K : W.Frag) (f : Addr) (fd : FuncData) : Prop := FunD K "__init__" "Amount.__init__" (defArgs (am 0)) (defBody (am 0)) (defScope (am 0)) [V.int 1] [] f fd
theorem ok_init (T : Cl K C) (DW : Dn P w K mg base CX0 1 "is_whole" ["value"] spWhole) (mgG : mg "gcd" = some (.builtin "math.gcd")) (F : FunI K f fd) :
    FnOk P w K mg base CX0 2 f fd ["self", "top", "bottom"] (spInit C) := by
  refine F.ok scInit (fun vs H Q E h => ?_) (fun cdv A outer s H vs Q E hr h => ?_)
  · obtain ⟨x, dx, n, d, rfl, _⟩ := h
    rfl
  · obtain ⟨x, dx, n, d, rfl, hx, d0, hn, hd, q⟩ := h
    have nd := scInit.nd
    refine ⟨_, PSs.nox (pss_cons (ps_if (pt_not (pt_val (pe_dn DW hr (by rfl) (by decide) (pa_cons (pv 1) pa_nil)))) (pss_one ps_never) pss_nil)
      (pss_cons (ps_if (PW.pt (pw_or (pt_not (pt_val (pe_dn DW hr (by rfl) (by decide) (pa_cons (pv 2) pa_nil)))) (pw_or1 (pt_cmpR op_eq (pv 2) pe_int (nomark _))))) (pss_one ps_never) pss_nil)
      (pss_cons (ps_set (i := 3) nd rfl (.inl rfl) (pe_callBfun cr_gcd rfl mgG (pa_cons (pv 1) (pa_cons (pv 2) pa_nil))))
      (C8.pss_cut (ps_if (pt_cmpR op_lt (pv 2) pe_int (nomark _)) (pss_one (ps_set (i := 3) nd rfl (.inl rfl) (pe_un un_neg (pv 3)))) pss_nil)
      (pss_cons (ps_fld (pv 0) (pe_op op_fdivX (pv 1) (pv 3)) rfl)
      (pss_one (ps_fld (pv 0) (pe_op op_fdivX (pv 2) (pv 3)) rfl))))))), ?_⟩
    refine ⟨_, rfl, n, rfl, _, rfl, iteF ?_⟩
    refine ⟨_, rfl, d, rfl, _, rfl, iteF ⟨_, rfl, rfl, _, rfl, ?_⟩⟩
    refine ite2 (fun h => absurd h (by simpa using d0)) (fun _ => ?_)
    refine ⟨_, rfl, _, rfl, n, d, rfl, ?_⟩
    refine ⟨fun σ H' => H' = H ∧ σ = (L2.start ["self", "top", "bottom", "shared"] [V.ref x, V.int n, V.int d]).set 3 (some (.int (if d < 0 then -((n.natAbs.gcd d.natAbs : Nat) : Int) else ((n.natAbs.gcd d.natAbs : Nat) : Int)))), ?_, ?_⟩
    · refine ⟨_, rfl, _, _, rfl, rfl, _, rfl, ite2 (fun h => ?_) (fun h => ?_)⟩
      · have h' : d < 0 := by simpa using h
        refine ⟨_, rfl, _, rfl, rfl, ?_⟩
        rw [if_pos h']
        rfl
      · have h' : ¬ d < 0 := by simpa using h
        refine ⟨rfl, ?_⟩
        rw [if_neg h']
    · rintro σ H' ⟨rfl, rfl⟩
      have gl : ∀ {g : Int}, g = (if d < 0 then -((n.natAbs.gcd d.natAbs : Nat) : Int) else ((n.natAbs.gcd d.natAbs : Nat) : Int)) → g ≠ 0 ∧ g.natAbs.log2 < 9000 := by
        intro g hg
        have g1 : n.natAbs.gcd d.natAbs ≤ d.natAbs := Nat.gcd_le_right _ (by omega)
        have g0 : 0 < n.natAbs.gcd d.natAbs := Nat.gcd_pos_of_pos_right _ (by omega)
        have e : g.natAbs = n.natAbs.gcd d.natAbs := by
          rw [hg]
          split <;> omega
        refine ⟨by omega, bits (n := 8999) (by omega) (by omega)⟩
      obtain ⟨z0, zl⟩ := gl rfl
      have e1 := low_num n d d0
      have e2 := low_den n d d0
      generalize (if d < 0 then -((n.natAbs.gcd d.natAbs : Nat) : Int) else ((n.natAbs.gcd d.natAbs : Nat) : Int)) = g at z0 zl e1 e2 ⊢
      refine ⟨_, rfl, _, rfl, n, g, rfl, rfl, ⟨z0, zl⟩, _, rfl, x, C, dx, [], rfl, hx, T.cl, T.nT, (by decide), ?_⟩
      refine ⟨_, rfl, _, rfl, d, g, rfl, rfl, ⟨z0, zl⟩, _, rfl, x, C, dx, _, rfl, upd_same, T.cl, T.nB, (by show 1 < 1000; decide), ?_⟩
      show Q .non (upd (upd H' x _) x (HO.ins C dx (putF "_bottom" (V.int (d.fdiv g)) (putF "_top" (V.int (n.fdiv g)) []))))
      rw [upd_upd, e1, e2, flds_of _ _ (Rat.divInt n d) rfl rfl]
      exact q
/-! ### properties -/
theorem sc1 (j : Nat) (h : FnScope ["self"] ["self"] (defScope (am j))) : FnScope ["self"] ["self"] (defScope (am j)) := h
theorem scTop : FnScope ["self"] ["self"] (defScope (am 3)) := ⟨rfl, rfl, rfl, by decide +kernel, rfl, by decide +kernel, by decide +kernel⟩
theorem scBot : FnScope ["self"] ["self"] (defScope (am 4)) := ⟨rfl, rfl, rfl, by decide +kernel, rfl, by decide +kernel, by decide +kernel⟩
theorem scSgn : FnScope ["self"] ["self"] (defScope (am 5)) := ⟨rfl, rfl, rfl, by decide +kernel, rfl, by decide +kernel, by decide +kernel⟩
theorem ok_top (T : Cl K C) (F : Fun K "top" "Amount.top" (am 3) f fd) : FnOk P w K mg base CX0 1 f fd ["self"] (spGet C fun q => .int q.num) := by
  refine F.ok scTop (fun vs H Q E h => ?_) (fun cdv A outer s H vs Q E hr h => ?_)
  · obtain ⟨a, q, rfl, _⟩ := h
    rfl
  · obtain ⟨a, q, rfl, ia, z⟩ := h
    exact ⟨_, pss_one (ps_ret (pe_top T (pv 0))), ⟨_, rfl, a, q, rfl, ia, z⟩⟩
theorem ok_bot (T : Cl K C) (F : Fun K "bottom" "Amount.bottom" (am 4) f fd) : FnOk P w K mg base CX0 1 f fd ["self"] (spGet C fun q => .int q.den) := by
  refine F.ok scBot (fun vs H Q E h => ?_) (fun cdv A outer s H vs Q E hr h => ?_)
  · obtain ⟨a, q, rfl, _⟩ := h
    rfl
  · obtain ⟨a, q, rfl, ia, z⟩ := h
    exact ⟨_, pss_one (ps_ret (pe_bot T (pv 0))), ⟨_, rfl, a, q, rfl, ia, z⟩⟩
theorem ok_sgn (T : Cl K C) (F : Fun K "sign" "Amount.sign" (am 5) f fd) : FnOk P w K mg base CX0 1 f fd ["self"] (spGet C fun q => .int q.num.sign) := by
  refine F.ok scSgn (fun vs H Q E h => ?_) (fun cdv A outer s H vs Q E hr h => ?_)
  · obtain ⟨a, q, rfl, _⟩ := h
    rfl
  · obtain ⟨a, q, rfl, ia, z⟩ := h
    refine ⟨_, pss_cons (ps_if (pt_cmpR op_lt (pe_top T (pv 0)) pe_int (nomark _)) (pss_one (ps_ret (pe_un un_neg pe_int))) pss_nil)
      (pss_one (ps_ret (pe_ifExp (pt_cmpR op_gt (pe_top T (pv 0)) pe_int (nomark _)) pe_int pe_int))), ?_⟩
    replace z : Q (.int q.num.sign) H := z
    refine ⟨_, rfl, a, q, rfl, ia, _, _, rfl, rfl, _, rfl, ite2 (fun h => ?_) (fun h => ?_)⟩
    · have h' : q.num < 0 := by simpa using h
      rw [Int.sign_eq_neg_one_of_neg h'] at z
      exact ⟨_, rfl, z⟩
    · have h' : ¬ q.num < 0 := by simpa using h
      refine ⟨_, rfl, a, q, rfl, ia, _, _, rfl, rfl, _, rfl, ite2 (fun h2 => ?_) (fun h2 => ?_)⟩
      · have h3 : 0 < q.num := by simpa using h2
        rw [Int.sign_eq_one_of_pos h3] at z
        exact z
      · have h3 : ¬ 0 < q.num := by simpa using h2
        have e : q.num = 0 := by omega
        rw [e] at z
        exact z
/-! ### of -/
structure Cl2 (K : W.Frag) (C : Addr) : Prop where
  ins : C8.InsC K C
  kI : W.kitOne K (.type "int") (.ref C) = some false
theorem is_inst (T2 : Cl2 K C) {H : Hp} {Q : VK} {a : Addr} {q : Rat} (ia : Is C H a q) (z : Q (.bl true) H) : rIsi K [.ref a, .ref C] H Q := by
  obtain ⟨dx, ea⟩ := ia
  exact ⟨_, _, _, _, true, rfl, ClsV.own C, TyX.base (TyOf.ins ea T2.ins.cl T2.ins.ha T2.ins.hn T2.ins.htk T2.ins.hm), T2.ins.me, z⟩
theorem is_int (T2 : Cl2 K C) {H : Hp} {Q : VK} {i : Int} (z : Q (.bl false) H) : rIsi K [.int i, .ref C] H Q := ⟨_, _, _, _, false, rfl, ClsV.own C, TyX.base (TyOf.int i), T2.kI, z⟩
theorem scOf : FnScope ["number"] ["number"] (defScope (am 1)) := ⟨rfl, rfl, rfl, by decide +kernel, rfl, by decide +kernel, by decide +kernel⟩
theorem sz_num {q : Rat} (h : Sz q) : q.num.natAbs < 2 ^ 8999 := more_bits h.1 (by decide)
theorem sz_den {q : Rat} (h : Sz q) : (q.den : Int).natAbs < 2 ^ 4000 := by
  rw [Int.natAbs_natCast]
  exact h.2
theorem den0 (q : Rat) : (q.den : Int) ≠ 0 := by
  have := q.den_pos
  omega
theorem ok_of (fr : Frees mg) (B : Base P w K mg base C) (T2 : Cl2 K C) (F : Fun K "of" "Amount.of" (am 1) f fd) : FnOk P w K mg base CX0 4 f fd ["number"] (spOf C) := by
  refine F.ok scOf (fun vs H Q E h => ?_) (fun cdv A outer s H vs Q E hr h => ?_)
  · obtain ⟨v, q, rfl, _⟩ := h
    rfl
  · obtain ⟨v, q, rfl, nv, sz, nw⟩ := h
    refine ⟨_, pss_cons (ps_if (pt_val (pe_callB call_isi rfl (fr.h _ (by decide +kernel)) (by decide +kernel) (pa_cons (pv 0) (pa_cons (pe_glob (v := V.ref C) rfl B.mgA rfl) pa_nil)))) (pss_one (ps_ret (pv 0))) pss_nil)
      (pss_one (ps_ret (pe_mk1 B hr rfl (pa_cons (pv 0) pa_nil)))), ?_⟩
    rcases nv with ⟨i, rfl, rfl⟩ | ⟨a, rfl, ia⟩
    · refine ⟨_, rfl, ?_⟩
      exact ⟨_, _, _, _, false, rfl, ClsV.own C, TyX.base (TyOf.int i), T2.kI, _, rfl, iteF ⟨_, rfl, i, rfl, sz_num sz, fun r H' e n z => nw r H' e z⟩⟩
    · refine ⟨_, rfl, ?_⟩
      obtain ⟨dx, ea⟩ := id ia
      exact ⟨_, _, _, _, true, rfl, ClsV.own C, TyX.base (TyOf.ins ea T2.ins.cl T2.ins.ha T2.ins.hn T2.ins.htk T2.ins.hm), T2.ins.me, _, rfl, iteT ⟨_, rfl, nw a H (Ext.refl H) ia⟩⟩
/-! ### -x, abs, bool -/
theorem scNeg : FnScope ["self"] ["self"] (defScope (am 18)) := ⟨rfl, rfl, rfl, by decide +kernel, rfl, by decide +kernel, by decide +kernel⟩
theorem ok_neg (T : Cl K C) (B : Base P w K mg base C) (F : Fun K "__neg__" "Amount.__neg__" (am 18) f fd) : FnOk P w K mg base CX0 4 f fd ["self"] (spUn C fun q => -q) := by
  refine F.ok scNeg (fun vs H Q E h => ?_) (fun cdv A outer s H vs Q E hr h => ?_)
  · obtain ⟨a, q, rfl, _⟩ := h
    rfl
  · obtain ⟨a, q, rfl, ia, sz, nw⟩ := h
    refine ⟨_, pss_one (ps_ret (pe_mk2 B hr rfl (pa_cons (pe_un un_neg (pe_top T (pv 0))) (pa_cons (pe_bot T (pv 0)) pa_nil)))), ?_⟩
    refine ⟨_, rfl, a, q, rfl, ia, _, rfl, _, rfl, a, q, rfl, ia, _, _, rfl, den0 q, (by rw [Int.natAbs_neg]; exact sz_num sz), more_bits (sz_den sz) (by decide), ?_⟩
    rw [neg_rat]
    exact nw
def aq (q : Rat) : Rat := if q.num < 0 then -q else q
theorem abs_rat (q : Rat) : Rat.divInt (if q.num < 0 then -q.num else q.num) (q.den : Int) = aq q := by
  unfold aq
  split
  · exact neg_rat q
  · exact Rat.num_divInt_den q
theorem scAbs : FnScope ["self"] ["self"] (defScope (am 19)) := ⟨rfl, rfl, rfl, by decide +kernel, rfl, by decide +kernel, by decide +kernel⟩
theorem ok_abs (fr : Frees mg) (T : Cl K C) (B : Base P w K mg base C) (F : Fun K "__abs__" "Amount.__abs__" (am 19) f fd) : FnOk P w K mg base CX0 4 f fd ["self"] (spUn C aq) := by
  refine F.ok scAbs (fun vs H Q E h => ?_) (fun cdv A outer s H vs Q E hr h => ?_)
  · obtain ⟨a, q, rfl, _⟩ := h
    rfl
  · obtain ⟨a, q, rfl, ia, sz, nw⟩ := h
    refine ⟨_, pss_one (ps_ret (pe_mk2 B hr rfl (pa_cons (pe_callB call_abs rfl (fr.h _ (by decide +kernel)) (by decide +kernel) (pa_cons (pe_top T (pv 0)) pa_nil)) (pa_cons (pe_bot T (pv 0)) pa_nil)))), ?_⟩
    refine ⟨_, rfl, a, q, rfl, ia, _, rfl, _, rfl, a, q, rfl, ia, _, _, rfl, den0 q, (by have := sz_num sz; split <;> omega), more_bits (sz_den sz) (by decide), ?_⟩
    rw [abs_rat]
    exact nw
def spBool (C : Addr) : Sp := fun vs H Q _ => ∃ a q, vs = [.ref a] ∧ Is C H a q ∧ Q (.bl (decide (q.num ≠ 0))) H
theorem scBool : FnScope ["self"] ["self"] (defScope (am 20)) := ⟨rfl, rfl, rfl, by decide +kernel, rfl, by decide +kernel, by decide +kernel⟩
theorem ok_bool (fr : Frees mg) (T : Cl K C) (F : Fun K "__bool__" "Amount.__bool__" (am 20) f fd) : FnOk P w K mg base CX0 1 f fd ["self"] (spBool C) := by
  refine F.ok scBool (fun vs H Q E h => ?_) (fun cdv A outer s H vs Q E hr h => ?_)
  · obtain ⟨a, q, rfl, _⟩ := h
    rfl
  · obtain ⟨a, q, rfl, ia, z⟩ := h
    refine ⟨_, pss_one (ps_ret (pe_callTy call_bool1 rfl (fr.h _ (by decide +kernel)) (by decide +kernel) (pa_cons (pe_cmpR op_ne (pe_top T (pv 0)) pe_int (nomark _)) pa_nil))), ?_⟩
    refine ⟨_, rfl, a, q, rfl, ia, rfl, .inr ⟨_, rfl, ?_⟩⟩
    have e : (!decide (V.int q.num = V.int 0)) = decide (q.num ≠ 0) := by simp
    rw [e]
    exact z
end
end KA

set_option Elab.async false
set_option linter.all false
set_option maxRecDepth 100000
set_option maxHeartbeats 1000000
set_option exponentiation.threshold 9000
/-! The arithmetic of Amount. -/
namespace KA
open PySem PySem.Spec PyProof.Rows L2 Oo Gd Am
section
variable {P : Program} {w : World} {K : W.Frag} {mg : Str → Option Value} {base : Heap} {C f : Addr} {fd : FuncData}
theorem num_bits {q : Rat} (h : Sz q) : q.num.natAbs < 2 ^ 4000 := h.1
theorem top_bits {q p : Rat} (h : Sz q) (h' : Sz p) : (q.num * (p.den : Int)).natAbs < 2 ^ 8000 := mul_bits h.1 (sz_den h')
theorem den_bits {q p : Rat} (h : Sz q) (h' : Sz p) : ((q.den : Int) * (p.den : Int)).natAbs < 2 ^ 8000 := mul_bits (sz_den h) (sz_den h')
theorem den_den (q p : Rat) : (q.den : Int) * (p.den : Int) ≠ 0 := Int.mul_ne_zero (den0 q) (den0 p)
theorem neg_sz {q : Rat} (h : Sz q) : Sz (-q) := by
  have e1 : (-q).num = -q.num := rfl
  have e2 : (-q).den = q.den := rfl
  exact ⟨by rw [e1, Int.natAbs_neg]; exact h.1, by rw [e2]; exact h.2⟩
/-- an operator's def, with its promise -/
structure Op (P : Program) (w : World) (K : W.Frag) (mg : Str → Option Value) (base : Heap) (C : Addr) (nm : String) (k : Nat) (h : Rat → Rat → Rat) : Prop where
  of : ∃ f g fd ps, OwnBin K C nm f g ∧ FnOk P w K mg base CX0 k f fd ps (spOp C h) ∧ Binds K fd ps []
theorem op_O {X : Cx} {op : Operator} {k : Nat} {h : Rat → Rat → Rat} (O : Op X.prog X.w X.K X.mg X.base C op.info.2 k h) (hr : Room k X.A) : OpR X (binaryOp op) (rL C h) := by
  obtain ⟨f, g, fd, ps, B, F, b⟩ := O.of
  exact op_L B F b hr
structure Neg (P : Program) (w : World) (K : W.Frag) (mg : Str → Option Value) (base : Heap) (C : Addr) : Prop where
  of : ∃ f fd, W.findIn K (.ref C) "__neg__" = some (some (.ref f)) ∧ W.isFn K (.ref f) = true ∧ FnOk P w K mg base CX0 4 f fd ["self"] (spUn C fun q => -q) ∧ Binds K fd ["self"] []
theorem un_N {X : Cx} (O : Neg X.prog X.w X.K X.mg X.base C) (hr : Room 4 X.A) : UnR X (unaryOp .USub) (fun x H Q => ∃ a q, x = .ref a ∧ Is C H a q ∧ Sz q ∧ New C H Q (-q)) := fun pins s σ H x v Q I rx h => by
  obtain ⟨f, fd, hs, hf, F, b⟩ := O.of
  obtain ⟨a, q, rfl, ia, sz, nw⟩ := h
  obtain ⟨dx, ea⟩ := id ia
  exact un_own (E := E0) hs hf F b pass0 hr pins s σ H _ v Q I rx ⟨a, dx, _, rfl, ea, a, q, rfl, ia, sz, nw⟩
/-! ### + and * -/
theorem scAdd : FnScope ["self", "other", "number"] ["self", "other"] (defScope (am 6)) := ⟨rfl, rfl, rfl, by decide +kernel, rfl, by decide +kernel, by decide +kernel⟩
theorem ok_add (B : Base P w K mg base C) (O : Of P w K mg base C) (F : Fun K "__add__" "Amount.__add__" (am 6) f fd) : FnOk P w K mg base CX0 5 f fd ["self", "other"] (spOp C fun q p => q + p) := by
  refine F.ok scAdd (fun vs H Q E h => ?_) (fun cdv A outer s H vs Q E hr h => ?_)
  · obtain ⟨a, y, q, p, rfl, _⟩ := h
    rfl
  · obtain ⟨a, y, q, p, rfl, ia, ny, sq, sp, nw⟩ := h
    have nd := scAdd.nd
    have T := B.T
    have h2 := hr.mono (show 2 ≤ 4 by decide)
    have h3 := hr.mono (show 3 ≤ 4 by decide)
    refine ⟨_, pss_cons (ps_set (i := 2) nd rfl (.inl rfl) (pe_of O hr (pe_glob (v := V.ref C) rfl B.mgA rfl) (pa_cons (pv 1) pa_nil)))
      (pss_one (ps_ret (pe_mk2 B h3 rfl (pa_cons (pe_op op_add (pe_op op_mulW (pe_top T (pv 0)) (pe_pBot B h2 (pv 2))) (pe_op op_mulW (pe_pTop B h2 (pv 2)) (pe_bot T (pv 0))))
        (pa_cons (pe_op op_mulW (pe_bot T (pv 0)) (pe_pBot B h2 (pv 2))) pa_nil))))), ?_⟩
    refine ⟨rfl, _, rfl, y, p, rfl, ny, sp, fun r H1 e1 ir => ?_⟩
    have ia1 := ia.ext e1
    have cm : ∀ {i j : Int}, i.natAbs < 2 ^ 4000 → j.natAbs < 2 ^ 4000 → CMulW i j := fun h h' => mulOk h h' (by decide) (by decide)
    refine ⟨_, rfl, a, q, rfl, ia1, _, rfl, r, p, rfl, ir, _, _, rfl, rfl, cm sq.1 (sz_den sp), _, rfl, r, p, rfl, ir, _, rfl, a, q, rfl, ia1, _, _, rfl, rfl, cm sp.1 (sz_den sq), _, _, rfl, rfl, ?_⟩
    refine ⟨_, rfl, a, q, rfl, ia1, _, rfl, r, p, rfl, ir, _, _, rfl, rfl, cm (sz_den sq) (sz_den sp), _, _, rfl, den_den q p, more_bits (add_bits (top_bits sq sp) (top_bits sp sq)) (by decide), more_bits (den_bits sq sp) (by decide), ?_⟩
    rw [add_rat]
    exact fun r2 H2 e2 n2 i2 => nw r2 H2 (e1.trans e2) (e1.gone n2) i2
theorem scMul : FnScope ["self", "other", "number"] ["self", "other"] (defScope (am 10)) := ⟨rfl, rfl, rfl, by decide +kernel, rfl, by decide +kernel, by decide +kernel⟩
theorem ok_mul (B : Base P w K mg base C) (O : Of P w K mg base C) (F : Fun K "__mul__" "Amount.__mul__" (am 10) f fd) : FnOk P w K mg base CX0 5 f fd ["self", "other"] (spOp C fun q p => q * p) := by
  refine F.ok scMul (fun vs H Q E h => ?_) (fun cdv A outer s H vs Q E hr h => ?_)
  · obtain ⟨a, y, q, p, rfl, _⟩ := h
    rfl
  · obtain ⟨a, y, q, p, rfl, ia, ny, sq, sp, nw⟩ := h
    have nd := scMul.nd
    have T := B.T
    have h2 := hr.mono (show 2 ≤ 4 by decide)
    have h3 := hr.mono (show 3 ≤ 4 by decide)
    refine ⟨_, pss_cons (ps_set (i := 2) nd rfl (.inl rfl) (pe_of O hr (pe_glob (v := V.ref C) rfl B.mgA rfl) (pa_cons (pv 1) pa_nil)))
      (pss_one (ps_ret (pe_mk2 B h3 rfl (pa_cons (pe_op op_mulW (pe_top T (pv 0)) (pe_pTop B h2 (pv 2)))
        (pa_cons (pe_op op_mulW (pe_bot T (pv 0)) (pe_pBot B h2 (pv 2))) pa_nil))))), ?_⟩
    refine ⟨rfl, _, rfl, y, p, rfl, ny, sp, fun r H1 e1 ir => ?_⟩
    have ia1 := ia.ext e1
    have cm : ∀ {i j : Int}, i.natAbs < 2 ^ 4000 → j.natAbs < 2 ^ 4000 → CMulW i j := fun h h' => mulOk h h' (by decide) (by decide)
    refine ⟨_, rfl, a, q, rfl, ia1, _, rfl, r, p, rfl, ir, _, _, rfl, rfl, cm sq.1 sp.1, ?_⟩
    refine ⟨_, rfl, a, q, rfl, ia1, _, rfl, r, p, rfl, ir, _, _, rfl, rfl, cm (sz_den sq) (sz_den sp), _, _, rfl, den_den q p, more_bits (mul_bits sq.1 sp.1) (by decide), more_bits (den_bits sq sp) (by decide), ?_⟩
    rw [mul_rat]
    exact fun r2 H2 e2 n2 i2 => nw r2 H2 (e1.trans e2) (e1.gone n2) i2
/-! ### - -/
theorem scSub : FnScope ["self", "other"] ["self", "other"] (defScope (am 8)) := ⟨rfl, rfl, rfl, by decide +kernel, rfl, by decide +kernel, by decide +kernel⟩
theorem ok_sub (B : Base P w K mg base C) (O : Of P w K mg base C) (N : Neg P w K mg base C) (A1 : Op P w K mg base C (Operator.Add).info.2 5 fun q p => q + p) (F : Fun K "__sub__" "Amount.__sub__" (am 8) f fd) :
    FnOk P w K mg base CX0 6 f fd ["self", "other"] (spOp C fun q p => q - p) := by
  refine F.ok scSub (fun vs H Q E h => ?_) (fun cdv A outer s H vs Q E hr h => ?_)
  · obtain ⟨a, y, q, p, rfl, _⟩ := h
    rfl
  · obtain ⟨a, y, q, p, rfl, ia, ny, sq, sp, nw⟩ := h
    have h4 := hr.mono (show 4 ≤ 5 by decide)
    refine ⟨_, pss_one (ps_ret (pe_op (op_O A1 hr) (pv 0) (pe_un (un_N N h4) (pe_of O h4 (pe_glob (v := V.ref C) rfl B.mgA rfl) (pa_cons (pv 1) pa_nil))))), ?_⟩
    refine ⟨_, rfl, rfl, _, rfl, y, p, rfl, ny, sp, fun r H1 e1 ir => ⟨r, p, rfl, ir, sp, fun r2 H2 e2 n2 ir2 => ⟨a, q, -p, rfl, (ia.ext e1).ext e2, Num.is ir2, sq, neg_sz sp, ?_⟩⟩⟩
    show New C H2 Q (q + -p)
    rw [← Rat.sub_eq_add_neg]
    exact fun r3 H3 e3 n3 i3 => nw r3 H3 ((e1.trans e2).trans e3) ((e1.trans e2).gone n3) i3
/-! ### the turned ones -/
end
end KA

set_option Elab.async false
set_option linter.all false
set_option maxRecDepth 100000
set_option maxHeartbeats 1000000
set_option exponentiation.threshold 9000
/-! Turned operators, powers, ==. -/
namespace KA
open PySem PySem.Spec PyProof.Rows L2 Oo Gd Am
section
variable {P : Program} {w : World} {K : W.Frag} {mg : Str → Option Value} {base : Heap} {C f : Addr} {fd : FuncData}
theorem scRadd : FnScope ["self", "other"] ["self", "other"] (defScope (am 7)) := ⟨rfl, rfl, rfl, by decide +kernel, rfl, by decide +kernel, by decide +kernel⟩
theorem scRsub : FnScope ["self", "other"] ["self", "other"] (defScope (am 9)) := ⟨rfl, rfl, rfl, by decide +kernel, rfl, by decide +kernel, by decide +kernel⟩
theorem scRmul : FnScope ["self", "other"] ["self", "other"] (defScope (am 11)) := ⟨rfl, rfl, rfl, by decide +kernel, rfl, by decide +kernel, by decide +kernel⟩
theorem ok_radd (B : Base P w K mg base C) (O : Of P w K mg base C) (A : Op P w K mg base C (Operator.Add).info.2 5 fun q p => q + p) (F : Fun K "__radd__" "Amount.__radd__" (am 7) f fd) : FnOk P w K mg base CX0 6 f fd ["self", "other"] (spOp C fun q p => p + q) := by
  refine F.ok scRadd (fun vs H Q E h => ?_) (fun cdv A' outer s H vs Q E hr hh => ?_)
  · obtain ⟨a, y, q, p, rfl, _⟩ := h
    rfl
  · obtain ⟨a, y, q, p, rfl, ia, ny, sq, sp, nw⟩ := hh
    refine ⟨_, pss_one (ps_ret (pe_op (op_O A hr) (pe_of O (hr.mono (by decide)) (pe_glob (v := V.ref C) rfl B.mgA rfl) (pa_cons (pv 1) pa_nil)) (pv 0))), ?_⟩
    exact ⟨rfl, _, rfl, y, p, rfl, ny, sp, fun r H1 e1 ir => ⟨_, rfl, r, p, q, rfl, ir, Num.is (ia.ext e1), sp, sq, fun r2 H2 e2 n2 i2 => nw r2 H2 (e1.trans e2) (e1.gone n2) i2⟩⟩
theorem ok_rsub (B : Base P w K mg base C) (O : Of P w K mg base C) (A : Op P w K mg base C (Operator.Sub).info.2 6 fun q p => q - p) (F : Fun K "__rsub__" "Amount.__rsub__" (am 9) f fd) : FnOk P w K mg base CX0 7 f fd ["self", "other"] (spOp C fun q p => p - q) := by
  refine F.ok scRsub (fun vs H Q E h => ?_) (fun cdv A' outer s H vs Q E hr hh => ?_)
  · obtain ⟨a, y, q, p, rfl, _⟩ := h
    rfl
  · obtain ⟨a, y, q, p, rfl, ia, ny, sq, sp, nw⟩ := hh
    refine ⟨_, pss_one (ps_ret (pe_op (op_O A hr) (pe_of O (hr.mono (by decide)) (pe_glob (v := V.ref C) rfl B.mgA rfl) (pa_cons (pv 1) pa_nil)) (pv 0))), ?_⟩
    exact ⟨rfl, _, rfl, y, p, rfl, ny, sp, fun r H1 e1 ir => ⟨_, rfl, r, p, q, rfl, ir, Num.is (ia.ext e1), sp, sq, fun r2 H2 e2 n2 i2 => nw r2 H2 (e1.trans e2) (e1.gone n2) i2⟩⟩
theorem ok_rmul (B : Base P w K mg base C) (O : Of P w K mg base C) (A : Op P w K mg base C (Operator.Mult).info.2 5 fun q p => q * p) (F : Fun K "__rmul__" "Amount.__rmul__" (am 11) f fd) : FnOk P w K mg base CX0 6 f fd ["self", "other"] (spOp C fun q p => p * q) := by
  refine F.ok scRmul (fun vs H Q E h => ?_) (fun cdv A' outer s H vs Q E hr hh => ?_)
  · obtain ⟨a, y, q, p, rfl, _⟩ := h
    rfl
  · obtain ⟨a, y, q, p, rfl, ia, ny, sq, sp, nw⟩ := hh
    refine ⟨_, pss_one (ps_ret (pe_op (op_O A hr) (pe_of O (hr.mono (by decide)) (pe_glob (v := V.ref C) rfl B.mgA rfl) (pa_cons (pv 1) pa_nil)) (pv 0))), ?_⟩
    exact ⟨rfl, _, rfl, y, p, rfl, ny, sp, fun r H1 e1 ir => ⟨_, rfl, r, p, q, rfl, ir, Num.is (ia.ext e1), sp, sq, fun r2 H2 e2 n2 i2 => nw r2 H2 (e1.trans e2) (e1.gone n2) i2⟩⟩
/-! ### is_count, ** -/
def spCount : Sp := fun vs H Q _ => ∃ i : Int, vs = [.int i] ∧ Q (.bl (decide (0 ≤ i))) H
theorem scCount : FnScope ["value"] ["value"] (defScope (top 16)) := ⟨rfl, rfl, rfl, by decide +kernel, rfl, by decide +kernel, by decide +kernel⟩
theorem ok_count (DW : Dn P w K mg base CX0 1 "is_whole" ["value"] spWhole) (F : Fun K "is_count" "is_count" (top 16) f fd) : FnOk P w K mg base CX0 2 f fd ["value"] spCount := by
  refine F.ok scCount (fun vs H Q E h => ?_) (fun cdv A outer s H vs Q E hr h => ?_)
  · obtain ⟨i, rfl, _⟩ := h
    rfl
  · obtain ⟨i, rfl, q⟩ := h
    refine ⟨_, pss_one (ps_ret (pe_and (pe_dn DW hr (by rfl) (by decide) (pa_cons (pv 0) pa_nil)) (pe_one (pe_cmpR op_ge (pv 0) pe_int (nomark _))))), ?_⟩
    exact ⟨_, rfl, i, rfl, true, rfl, _, rfl, _, _, rfl, rfl, q⟩
def Low (n : Nat) (q : Rat) : Prop := q.num.natAbs < 2 ^ n ∧ q.den < 2 ^ n
def spPow (C : Addr) : Sp := fun vs H Q _ => ∃ a q i, vs = [.ref a, .int i] ∧ Is C H a q ∧ Low 330 q ∧ 0 ≤ i ∧ i ≤ 12 ∧ New C H Q (q ^ i.toNat)
theorem pow_low {q : Rat} (h : Low 330 q) {i : Nat} (hi : i ≤ 12) : Sz (q ^ i) := by
  have e : 330 * i ≤ 3960 := by omega
  have pw : ∀ {n : Nat}, n < 2 ^ 330 → n ^ i ≤ 2 ^ (330 * i) := fun {n} hn => by
    rw [Nat.pow_mul]
    exact Nat.pow_le_pow_left (Nat.le_of_lt hn) i
  have big : (2 : Nat) ^ (330 * i) < 2 ^ 4000 := Nat.pow_lt_pow_right (by decide) (by omega)
  refine ⟨?_, ?_⟩
  · rw [Rat.num_pow, Int.natAbs_pow]
    exact Nat.lt_of_le_of_lt (pw h.1) big
  · rw [Rat.den_pow]
    exact Nat.lt_of_le_of_lt (pw h.2) big
theorem scPow : FnScope ["self", "other", "result", "_"] ["self", "other"] (defScope (am 17)) := ⟨rfl, rfl, rfl, by decide +kernel, rfl, by decide +kernel, by decide +kernel⟩
theorem ok_pow {t : Tok} (fr : Frees mg) (B : Base P w K mg base C) (DC : Dn P w K mg base CX0 2 "is_count" ["value"] spCount) (mgP : mg "MOST_POWER" = some (.int 12 t)) (A : Op P w K mg base C (Operator.Mult).info.2 5 fun q p => q * p) (F : Fun K "__pow__" "Amount.__pow__" (am 17) f fd) :
    FnOk P w K mg base CX0 6 f fd ["self", "other"] (spPow C) := by
  refine F.ok scPow (fun vs H Q E h => ?_) (fun cdv A' outer s H vs Q E hr h => ?_)
  · obtain ⟨a, q, i, rfl, _⟩ := h
    rfl
  · obtain ⟨a, q, i, rfl, ia, lw, i0, i12, nw⟩ := h
    have nd := scPow.nd
    have h3 := hr.mono (show 3 ≤ 5 by decide)
    have h2 := hr.mono (show 2 ≤ 5 by decide)
    refine ⟨_, pss_cons (ps_if (PW.pt (pw_or (pt_not (pt_val (pe_dn DC h2 (by rfl) (by decide) (pa_cons (pv 1) pa_nil)))) (pw_or1 (pt_cmpR op_gt (pv 1) (pe_glob (v := V.int 12) rfl mgP ⟨t, rfl⟩) (nomark _))))) (pss_one ps_never) pss_nil)
      (pss_cons (ps_set (i := 2) nd rfl (.inl rfl) (pe_mk1 B h3 rfl (pa_cons pe_int pa_nil)))
      (pss_cons (ps_for PassesOwn.never rfl (pi_range1 rfl (fr.h _ (by decide +kernel)) (pa_cons (pv 1) pa_nil)) (pg_name (i := 3) nd rfl (.inl rfl))
        (pss_one (ps_set (i := 2) nd rfl (.inl rfl) (pe_op (op_O A hr) (pv 2) (pv 0)))))
      (pss_one (ps_ret (pv 2))))), ?_⟩
    refine ⟨_, rfl, i, rfl, _, rfl, ?_⟩
    rw [decide_eq_true i0]
    refine iteF ⟨_, rfl, _, _, rfl, rfl, _, rfl, ite2 (fun h => absurd h (by simpa using i12)) (fun _ => ?_)⟩
    refine ⟨1, rfl, (by decide), fun r H1 e1 n1 i1 => ⟨_, rfl, i, rfl, (by omega), (by omega), ?_⟩⟩
    refine for_range (lo := 0) (n := i.toNat) (fun j σ H' => ∃ r, σ[0]? = some (some (.ref a)) ∧ σ[2]? = some (some (.ref r)) ∧ σ.length = 4 ∧ Am.Ext H H' ∧ H r = none ∧ Is C H' r (q ^ j)) ?_ ?_ ?_
    · exact ⟨r, rfl, rfl, rfl, e1, n1, by rw [Rat.pow_zero]; exact i1⟩
    · rintro j σ H' hj ⟨r, s0, s2, sl, e, nr, ir⟩
      have hj' : j < 12 := by omega
      refine ⟨_, ?_, _, ?_, r, q ^ j, q, rfl, ir, Num.is (ia.ext e), pow_low lw (by omega), ⟨Nat.lt_trans lw.1 (by decide), Nat.lt_trans lw.2 (by decide)⟩, fun r2 H2 e2 n2 ir2 => ?_⟩
      · rw [List.getElem?_set_ne (by decide)]
        exact s2
      · rw [List.getElem?_set_ne (by decide)]
        exact s0
      · refine ⟨r2, ?_, ?_, ?_, e.trans e2, e.gone n2, ?_⟩
        · rw [List.getElem?_set_ne (by decide), List.getElem?_set_ne (by decide)]
          exact s0
        · rw [List.getElem?_set_self (by rw [List.length_set]; omega)]
        · rw [List.length_set, List.length_set]
          exact sl
        · rw [Rat.pow_succ]
          exact ir2
    · rintro σ H' ⟨r, s0, s2, sl, e, nr, ir⟩
      exact ⟨_, s2, nw r H' e nr ir⟩
/-! ### == -/
def spEq (C : Addr) : Sp := fun vs H Q _ => ∃ a b q p, vs = [.ref a, .ref b] ∧ Is C H a q ∧ Is C H b p ∧ Q (.bl (decide (q = p))) H
theorem scEq : FnScope ["self", "other"] ["self", "other"] (defScope (am 21)) := ⟨rfl, rfl, rfl, by decide +kernel, rfl, by decide +kernel, by decide +kernel⟩
theorem ok_eq (fr : Frees mg) (B : Base P w K mg base C) (T2 : Cl2 K C) (F : Fun K "__eq__" "Amount.__eq__" (am 21) f fd) : FnOk P w K mg base CX0 1 f fd ["self", "other"] (spEq C) := by
  refine F.ok scEq (fun vs H Q E h => ?_) (fun cdv A' outer s H vs Q E hr h => ?_)
  · obtain ⟨a, b, q, p, rfl, _⟩ := h
    rfl
  · obtain ⟨a, b, q, p, rfl, ia, ib, z⟩ := h
    have T := B.T
    refine ⟨_, pss_one (ps_ret (pe_and (pe_callB call_isi rfl (fr.h _ (by decide +kernel)) (by decide +kernel) (pa_cons (pv 1) (pa_cons (pe_glob (v := V.ref C) rfl B.mgA rfl) pa_nil)))
      (pe_and (pe_cmpR op_eq (pe_top T (pv 0)) (pe_top T (pv 1)) (nomark _)) (pe_one (pe_cmpR op_eq (pe_bot T (pv 0)) (pe_bot T (pv 1)) (nomark _)))))), ?_⟩
    obtain ⟨dx, eb⟩ := id ib
    refine ⟨_, rfl, _, _, _, _, true, rfl, ClsV.own C, TyX.base (TyOf.ins eb T2.ins.cl T2.ins.ha T2.ins.hn T2.ins.htk T2.ins.hm), T2.ins.me, true, rfl, ?_⟩
    refine ⟨_, rfl, a, q, rfl, ia, _, rfl, b, p, rfl, ib, rfl, ?_⟩
    have key : (decide (q = p)) = (decide (V.int q.num = V.int p.num) && decide (V.int (q.den : Int) = V.int (p.den : Int))) := by
      by_cases e1 : q.num = p.num
      · by_cases e2 : q.den = p.den
        · have e := Rat.ext e1 e2
          subst e
          simp
        · have ne : q ≠ p := fun e => e2 (by rw [e])
          simp [ne, e1]
          omega
      · have ne : q ≠ p := fun e => e1 (by rw [e])
        simp [ne, e1]
    rw [key] at z
    refine ⟨_, rfl, ?_⟩
    cases h1 : decide (V.int q.num = V.int p.num) with
    | true =>
      rw [h1, Bool.true_and] at z
      exact ⟨_, rfl, a, q, rfl, ia, _, rfl, b, p, rfl, ib, rfl, z⟩
    | false =>
      rw [h1, Bool.false_and] at z
      exact z
end
end KA

set_option Elab.async false
set_option linter.all false
set_option maxRecDepth 100000
set_option maxHeartbeats 1000000
set_option exponentiation.threshold 9000
/-! over, //, % of Amounts: 0 is refused. -/
namespace KA
open PySem PySem.Spec PyProof.Rows L2 Oo Gd Am
theorem divInt_le (n d : Int) (h : d ≠ 0) : (Rat.divInt n d).num.natAbs ≤ n.natAbs ∧ (Rat.divInt n d).den ≤ d.natAbs := by
  obtain ⟨m, m0, e1, e2⟩ := Rat.divInt_num_den (n' := (Rat.divInt n d).num) (d' := (Rat.divInt n d).den) (z' := (Rat.divInt n d).den_nz) (c := (Rat.divInt n d).reduced) h rfl
  have m1 : 1 ≤ m.natAbs := by omega
  refine ⟨?_, ?_⟩
  · conv => rhs; rw [e1]
    rw [Int.natAbs_mul]
    exact Nat.le_mul_of_pos_right _ m1
  · conv => rhs; rw [e2]
    rw [Int.natAbs_mul, Int.natAbs_natCast]
    exact Nat.le_mul_of_pos_right _ m1
/-- 0 is refused: the error of the class at Z, which tells None, lies in a heap where all stands on -/
def Refuse (Z : Addr) (H : Hp) (E : XK) : Prop := ∀ (d : Addr) (H' : Hp), Am.Ext H H' → H d = none → H' d = some (.xd [("rule", .non)]) → E (.ref Z) (some d) H'
theorem Refuse.on {Z : Addr} {H H1 : Hp} {E : XK} (r : Refuse Z H E) (e : Am.Ext H H1) : Refuse Z H1 E := fun d H' x n h => r d H' (e.trans x) (e.gone n) h
theorem left_ext {H : Hp} {Z e d : Addr} {fs : List (Str × V)} (he : H e = none) (hd : H d = none) : Am.Ext H (Gx.leftH H Z e d fs) ∧ Gx.leftH H Z e d fs d = some (.xd fs) := by
  refine ⟨fun b o h => ?_, upd_same⟩
  have n1 := ne_of_none h hd
  have n2 := ne_of_none h he
  show upd (L2.del (Ge.withErr H Z e d fs) e) d (.xd fs) b = some o
  rw [upd_ne n1]
  unfold L2.del
  rw [if_neg n2]
  show upd (upd H d _) e _ b = some o
  rw [upd_ne n2, upd_ne n1]
  exact h
section
variable {P : Program} {w : World} {K : W.Frag} {mg : Str → Option Value} {base : Heap} {C Z f : Addr} {fd : FuncData}
/-- what the text says of DividedByZero -/
structure Zr (K : W.Frag) (mg : Str → Option Value) (Z : Addr) : Prop where
  e1 : Ge.E1 K Z "rule"
  mgZ : mg "DividedByZero" = some (.ref Z)
  rs : ∀ {X : Cx}, X.K = K → Raises X (.ref Z)
def spDiv (n : Nat) (C Z : Addr) (R : Rat → Rat → Hp → VK → Prop) : Sp := fun vs H Q E => ∃ a y q p, vs = [.ref a, y] ∧ Is C H a q ∧ Num C H y p ∧ Low n q ∧ Low n p ∧ (p ≠ 0 → R q p H Q) ∧ (p = 0 → Refuse Z H E)
def Whole (q : Rat) (H : Hp) (Q : VK) : Prop := ∀ H', Am.Ext H H' → Q (.int q.floor) H'
theorem low_sz {n : Nat} {q : Rat} (h : Low n q) (hn : n ≤ 4000) : Sz q := ⟨Nat.lt_of_lt_of_le h.1 (Nat.pow_le_pow_right (by decide) hn), Nat.lt_of_lt_of_le h.2 (Nat.pow_le_pow_right (by decide) hn)⟩
theorem scOver : FnScope ["self", "other", "number"] ["self", "other"] (defScope (am 12)) := ⟨rfl, rfl, rfl, by decide +kernel, rfl, by decide +kernel, by decide +kernel⟩
theorem ok_over (B : Base P w K mg base C) (O : Of P w K mg base C) (ZR : Zr K mg Z) (F : Fun K "over" "Amount.over" (am 12) f fd) : FnOk P w K mg base (L2.CX P w) 5 f fd ["self", "other"] (spDiv 4000 C Z fun q p H Q => New C H Q (q / p)) := by
  refine F.okX scOver (fun vs H Q E h => ?_) (fun cdv A outer s H vs Q E hr h => ?_)
  · obtain ⟨a, y, q, p, rfl, _⟩ := h
    rfl
  · obtain ⟨a, y, q, p, rfl, ia, ny, sq, sp, hn, hz⟩ := h
    have nd := scOver.nd
    have T := B.T
    have h2 := hr.mono (show 2 ≤ 4 by decide)
    have h3 := hr.mono (show 3 ≤ 4 by decide)
    refine ⟨_, pss_cons (ps_set (i := 2) nd rfl (.inl rfl) (pe_of O hr (pe_glob (v := V.ref C) rfl B.mgA rfl) (pa_cons (pv 1) pa_nil)))
      (pss_cons (ps_if (pt_cmpR op_eq (pe_pTop B h2 (pv 2)) pe_int (nomark _)) (pss_one (ps_raise rfl (takes_of rfl rfl rfl rfl) (Gx.pmk1 ZR.e1 (ZR.rs rfl) hr rfl ZR.mgZ (pa_cons pe_non pa_nil)))) pss_nil)
      (pss_one (ps_ret (pe_mk2 B h3 rfl (pa_cons (pe_op op_mulW (pe_top T (pv 0)) (pe_pBot B h2 (pv 2)))
        (pa_cons (pe_op op_mulW (pe_bot T (pv 0)) (pe_pTop B h2 (pv 2))) pa_nil)))))), ?_⟩
    refine ⟨rfl, _, rfl, y, p, rfl, ny, sp, fun r H1 e1 ir => ?_⟩
    have ia1 := ia.ext e1
    refine ⟨_, rfl, r, p, rfl, ir, rfl, _, rfl, ite2 (fun h => ?_) (fun h => ?_)⟩
    · have p0 : p = 0 := Rat.num_eq_zero.mp (by simpa using h)
      refine ⟨_, rfl, fun e d he hd ne => ?_⟩
      obtain ⟨x1, x2⟩ := left_ext (Z := Z) (fs := [("rule", V.non)]) he hd
      exact (hz p0).on e1 d _ x1 hd x2
    · have p0 : p ≠ 0 := fun e => h (by rw [e]; rfl)
      have pn : p.num ≠ 0 := fun e => p0 (Rat.num_eq_zero.mp e)
      have cm : ∀ {i j : Int}, i.natAbs < 2 ^ 4000 → j.natAbs < 2 ^ 4000 → CMulW i j := fun h h' => mulOk h h' (by decide) (by decide)
      refine ⟨_, rfl, a, q, rfl, ia1, _, rfl, r, p, rfl, ir, _, _, rfl, rfl, cm sq.1 (sz_den sp), ?_⟩
      refine ⟨_, rfl, a, q, rfl, ia1, _, rfl, r, p, rfl, ir, _, _, rfl, rfl, cm (sz_den sq) sp.1, _, _, rfl, Int.mul_ne_zero (den0 q) pn, more_bits (top_bits sq sp) (by decide), more_bits (mul_bits (sz_den sq) sp.1) (by decide), ?_⟩
      rw [div_rat]
      exact fun r2 H2 e2 n2 i2 => hn p0 r2 H2 (e1.trans e2) (e1.gone n2) i2
/-! ### // and % -/
structure Over (P : Program) (w : World) (K : W.Frag) (mg : Str → Option Value) (base : Heap) (C Z : Addr) : Prop where
  of : ∃ f fd, Meth K C "over" f ∧ FnOk P w K mg base (L2.CX P w) 5 f fd ["self", "other"] (spDiv 4000 C Z fun q p H Q => New C H Q (q / p)) ∧ Binds K fd ["self", "other"] []
theorem no_over (q : Rat) : (flds q).lookup ("over" : Str) = none := by
  show List.lookup ("over" : Str) [("_top", V.int q.num), ("_bottom", V.int q.den)] = _
  have n1 : ("over" : Str) ≠ "_top" := by decide +kernel
  have n2 : ("over" : Str) ≠ "_bottom" := by decide +kernel
  rw [List.lookup_cons, beq_eq_false_iff_ne.mpr n1, List.lookup_cons, beq_eq_false_iff_ne.mpr n2]
  rfl
theorem div_low {q p : Rat} (sq : Sz q) (sp : Sz p) (p0 : p ≠ 0) : (q / p).num.natAbs < 2 ^ 8000 ∧ (q / p).den < 2 ^ 8000 := by
  rw [← div_rat]
  have pn : p.num ≠ 0 := fun e => p0 (Rat.num_eq_zero.mp e)
  obtain ⟨h1, h2⟩ := divInt_le (q.num * (p.den : Int)) ((q.den : Int) * p.num) (Int.mul_ne_zero (den0 q) pn)
  exact ⟨Nat.lt_of_le_of_lt h1 (top_bits sq sp), Nat.lt_of_le_of_lt h2 (mul_bits (sz_den sq) sp.1)⟩
theorem floor_eq (q : Rat) : q.num.fdiv (q.den : Int) = q.floor := by
  rw [Rat.floor_def, Int.fdiv_eq_ediv_of_nonneg _ (by omega)]
theorem scFd : FnScope ["self", "other", "quotient"] ["self", "other"] (defScope (am 13)) := ⟨rfl, rfl, rfl, by decide +kernel, rfl, by decide +kernel, by decide +kernel⟩
theorem ok_fdiv (B : Base P w K mg base C) (V1 : Over P w K mg base C Z) (F : Fun K "__floordiv__" "Amount.__floordiv__" (am 13) f fd) : FnOk P w K mg base (L2.CX P w) 6 f fd ["self", "other"] (spDiv 4000 C Z fun q p H Q => Whole (q / p) H Q) := by
  refine F.okX scFd (fun vs H Q E h => ?_) (fun cdv A outer s H vs Q E hr h => ?_)
  · obtain ⟨a, y, q, p, rfl, _⟩ := h
    rfl
  · obtain ⟨a, y, q, p, rfl, ia, ny, sq, sp, hn, hz⟩ := h
    have nd := scFd.nd
    have h2 := hr.mono (show 2 ≤ 5 by decide)
    obtain ⟨fo, fdo, hm, G, b⟩ := V1.of
    refine ⟨_, pss_cons (ps_set (i := 2) nd rfl (.inl rfl) (pe_meth (pv 0) B.T.cl hm G hr b .nil (passes_call (takes_of rfl rfl rfl rfl) fun _ _ _ _ h => h) (pa_cons (pv 1) pa_nil)))
      (pss_one (ps_ret (pe_op op_fdivX (pe_pTop B h2 (pv 2)) (pe_pBot B h2 (pv 2))))), ?_⟩
    obtain ⟨dx, ea⟩ := id ia
    refine ⟨_, rfl, a, dx, _, rfl, ea, no_over q, _, rfl, a, y, q, p, rfl, ia, ny, sq, sp, fun p0 => ?_, hz⟩
    obtain ⟨b1, b2⟩ := div_low sq sp p0
    intro r H1 e1 n1 ir
    refine ⟨_, rfl, r, q / p, rfl, ir, _, rfl, r, q / p, rfl, ir, _, _, rfl, rfl, ⟨den0 _, bits (n := 8000) (by rw [Int.natAbs_natCast]; exact b2) (by decide)⟩, ?_⟩
    show Q (.int ((q / p).num.fdiv ((q / p).den : Int))) H1
    rw [floor_eq]
    exact hn p0 H1 e1
/-- the def of // (of %), with its promise -/
structure Dv (P : Program) (w : World) (K : W.Frag) (mg : Str → Option Value) (base : Heap) (C Z : Addr) (nm : String) (n k : Nat) (R : Rat → Rat → Hp → VK → Prop) : Prop where
  of : ∃ f g fd ps, OwnBin K C nm f g ∧ FnOk P w K mg base (L2.CX P w) k f fd ps (spDiv n C Z R) ∧ Binds K fd ps []
def rD (n : Nat) (C Z : Addr) (R : Rat → Rat → Hp → VK → Prop) (E : XK) : R2 := fun x y H Q => ∃ a q p, x = .ref a ∧ Is C H a q ∧ Num C H y p ∧ Low n q ∧ Low n p ∧ (p ≠ 0 → R q p H Q) ∧ (p = 0 → Refuse Z H E)
theorem op_D {X : Cx} {op : Operator} {n k : Nat} {R : Rat → Rat → Hp → VK → Prop} {E : XK} (D : Dv X.prog X.w X.K X.mg X.base C Z op.info.2 n k R) (hx : Passes (L2.CX X.prog X.w) X E) (hr : Room k X.A) : OpR X (binaryOp op) (rD n C Z R E) := fun pins s σ H x y v u Q I rx ry hh => by
  obtain ⟨f, g, fd, ps, B, F, b⟩ := D.of
  obtain ⟨a, q, p, rfl, ia, ny, sq, sp, hn, hz⟩ := hh
  obtain ⟨dx, ea⟩ := id ia
  have prom : spDiv n C Z R [V.ref a, y] H Q E := ⟨a, y, q, p, rfl, ia, ny, sq, sp, hn, hz⟩
  have one : rBin C (spDiv n C Z R) (fun _ _ _ _ => False) E (.ref a) y H Q := by
    rcases id ny with ⟨i, rfl, _⟩ | ⟨b, rfl, dy, eb⟩
    · exact .inr (.inl ⟨a, dx, _, i, rfl, rfl, ea, prom⟩)
    · exact .inl ⟨a, dx, _, b, dy, _, rfl, rfl, ea, eb, prom⟩
  exact op_left B F b hx hr pins s σ H _ _ v u Q I rx ry one
theorem scMod : FnScope ["self", "other", "number"] ["self", "other"] (defScope (am 15)) := ⟨rfl, rfl, rfl, by decide +kernel, rfl, by decide +kernel, by decide +kernel⟩
theorem floor_bits {q p : Rat} (sq : Low 900 q) (sp : Low 900 p) (p0 : p ≠ 0) : (q / p).floor.natAbs < 2 ^ 1801 := by
  have pn : p.num ≠ 0 := fun e => p0 (Rat.num_eq_zero.mp e)
  have h1 : (q / p).num.natAbs ≤ (q.num * (p.den : Int)).natAbs := by
    rw [← div_rat]
    exact (divInt_le _ _ (Int.mul_ne_zero (den0 q) pn)).1
  have h2 : (q.num * (p.den : Int)).natAbs < 2 ^ 1800 := mul_bits sq.1 (show ((p.den : Int)).natAbs < 2 ^ 900 by rw [Int.natAbs_natCast]; exact sp.2)
  rw [Rat.floor_def]
  have h3 : ((q / p).num / ((q / p).den : Int)).natAbs ≤ (q / p).num.natAbs + 1 := by
    have := (q / p).den_pos
    generalize (q / p).num = n
    generalize hd : ((q / p).den : Int) = d
    have d1 : 1 ≤ d := by omega
    have a1 := Int.ediv_mul_le n (show d ≠ 0 by omega)
    have a2 := Int.lt_ediv_add_one_mul_self n (show 0 < d by omega)
    rcases Int.lt_or_le n 0 with hn | hn
    · have u : n / d < 0 := Int.ediv_neg_of_neg_of_pos hn (by omega)
      have l : n ≤ n / d := by
        rcases Int.lt_or_le (n / d) n with z | z
        · exfalso
          have : (n / d + 1) * d ≤ (n / d + 1) * 1 := by
            have w1 : n / d + 1 ≤ 0 := by omega
            exact Int.mul_le_mul_of_nonpos_left w1 d1
          omega
        · exact z
      omega
    · have l : 0 ≤ n / d := Int.ediv_nonneg hn (by omega)
      have u : n / d ≤ n := Int.ediv_le_self d hn
      omega
  have e : (2 : Nat) ^ 1801 = 2 ^ 1800 + 2 ^ 1800 := Nat.two_pow_succ 1800
  have big : (1 : Nat) ≤ 2 ^ 1800 := Nat.one_le_two_pow
  rw [e]
  omega
theorem ok_mod (B : Base P w K mg base C) (O : Of P w K mg base C) (M : Op P w K mg base C (Operator.Mult).info.2 5 fun q p => q * p) (S : Op P w K mg base C (Operator.Sub).info.2 6 fun q p => q - p)
    (D : Dv P w K mg base C Z (Operator.FloorDiv).info.2 4000 6 fun q p H Q => Whole (q / p) H Q) (F : Fun K "__mod__" "Amount.__mod__" (am 15) f fd) :
    FnOk P w K mg base (L2.CX P w) 7 f fd ["self", "other"] (spDiv 900 C Z fun q p H Q => New C H Q (q - p * ((q / p).floor : Rat))) := by
  refine F.okX scMod (fun vs H Q E h => ?_) (fun cdv A outer s H vs Q E hr h => ?_)
  · obtain ⟨a, y, q, p, rfl, _⟩ := h
    rfl
  · obtain ⟨a, y, q, p, rfl, ia, ny, sq, sp, hn, hz⟩ := h
    have nd := scMod.nd
    have h5 := hr.mono (show 5 ≤ 6 by decide)
    have h4 := hr.mono (show 4 ≤ 6 by decide)
    have zq := low_sz sq (by decide)
    have zp := low_sz sp (by decide)
    refine ⟨_, pss_cons (ps_set (i := 2) nd rfl (.inl rfl) (pe_of O h4 (pe_glob (v := V.ref C) rfl B.mgA rfl) (pa_cons (pv 1) pa_nil)))
      (pss_one (ps_ret (pe_op (op_O S hr) (pv 0) (pe_op (op_O M h5) (pv 2) (pe_op (op_D (E := E) D (passes_call (takes_of rfl rfl rfl rfl) fun _ _ _ _ h => h) hr) (pv 0) (pv 2)))))), ?_⟩
    refine ⟨rfl, _, rfl, y, p, rfl, ny, zp, fun r H1 e1 ir => ?_⟩
    refine ⟨_, rfl, _, rfl, _, rfl, _, rfl, a, q, p, rfl, ia.ext e1, Num.is ir, zq, zp, fun p0 => ?_, fun p0 => (hz p0).on e1⟩
    intro H2 e2
    have fb := floor_bits sq sp p0
    have fz : Sz (((q / p).floor : Int) : Rat) := ⟨Nat.lt_trans fb (by decide), (by show 1 < 2 ^ 4000; decide)⟩
    refine ⟨r, p, _, rfl, ir.ext e2, Num.int _, zp, fz, fun r3 H3 e3 n3 i3 => ?_⟩
    have mz : Sz (p * (((q / p).floor : Int) : Rat)) := by
      rw [← mul_rat]
      have dd : (p.den : Int) * ((((q / p).floor : Int) : Rat).den : Int) ≠ 0 := den_den _ _
      obtain ⟨h1, h2⟩ := divInt_le (p.num * (((q / p).floor : Int) : Rat).num) ((p.den : Int) * ((((q / p).floor : Int) : Rat).den : Int)) dd
      refine ⟨Nat.lt_of_le_of_lt h1 (more_bits (mul_bits sp.1 fb) (by decide)), Nat.lt_of_le_of_lt h2 ?_⟩
      rw [show (((((q / p).floor : Int) : Rat).den : Nat) : Int) = 1 from rfl, Int.mul_one, Int.natAbs_natCast]
      exact zp.2
    refine ⟨a, q, _, rfl, ((ia.ext e1).ext e2).ext e3, Num.is i3, zq, mz, fun r4 H4 e4 n4 i4 => hn p0 r4 H4 (((e1.trans e2).trans e3).trans e4) (((e1.trans e2).trans e3).gone n4) i4⟩
/-! ### the turned ones -/
theorem scRfd : FnScope ["self", "other"] ["self", "other"] (defScope (am 14)) := ⟨rfl, rfl, rfl, by decide +kernel, rfl, by decide +kernel, by decide +kernel⟩
theorem scRmod : FnScope ["self", "other"] ["self", "other"] (defScope (am 16)) := ⟨rfl, rfl, rfl, by decide +kernel, rfl, by decide +kernel, by decide +kernel⟩
def spDivR (n : Nat) (C Z : Addr) (R : Rat → Rat → Hp → VK → Prop) : Sp := fun vs H Q E => ∃ a y q p, vs = [.ref a, y] ∧ Is C H a p ∧ Num C H y q ∧ Low n q ∧ Low n p ∧ (p ≠ 0 → R q p H Q) ∧ (p = 0 → Refuse Z H E)
theorem ok_rfdiv (B : Base P w K mg base C) (O : Of P w K mg base C) (D : Dv P w K mg base C Z (Operator.FloorDiv).info.2 4000 6 fun q p H Q => Whole (q / p) H Q) (F : Fun K "__rfloordiv__" "Amount.__rfloordiv__" (am 14) f fd) :
    FnOk P w K mg base (L2.CX P w) 7 f fd ["self", "other"] (spDivR 4000 C Z fun q p H Q => Whole (q / p) H Q) := by
  refine F.okX scRfd (fun vs H Q E h => ?_) (fun cdv A outer s H vs Q E hr h => ?_)
  · obtain ⟨a, y, q, p, rfl, _⟩ := h
    rfl
  · obtain ⟨a, y, q, p, rfl, ia, ny, sq, sp, hn, hz⟩ := h
    refine ⟨_, pss_one (ps_ret (pe_op (op_D (E := E) D (passes_call (takes_of rfl rfl rfl rfl) fun _ _ _ _ h => h) hr) (pe_of O (hr.mono (by decide)) (pe_glob (v := V.ref C) rfl B.mgA rfl) (pa_cons (pv 1) pa_nil)) (pv 0))), ?_⟩
    exact ⟨rfl, _, rfl, y, q, rfl, ny, sq, fun r H1 e1 ir => ⟨_, rfl, r, q, p, rfl, ir, Num.is (ia.ext e1), sq, sp, fun p0 H2 e2 => hn p0 H2 (e1.trans e2), fun p0 => (hz p0).on e1⟩⟩
theorem ok_rmod (B : Base P w K mg base C) (O : Of P w K mg base C) (D : Dv P w K mg base C Z (Operator.Mod).info.2 900 7 fun q p H Q => New C H Q (q - p * ((q / p).floor : Rat))) (F : Fun K "__rmod__" "Amount.__rmod__" (am 16) f fd) :
    FnOk P w K mg base (L2.CX P w) 8 f fd ["self", "other"] (spDivR 900 C Z fun q p H Q => New C H Q (q - p * ((q / p).floor : Rat))) := by
  refine F.okX scRmod (fun vs H Q E h => ?_) (fun cdv A outer s H vs Q E hr h => ?_)
  · obtain ⟨a, y, q, p, rfl, _⟩ := h
    rfl
  · obtain ⟨a, y, q, p, rfl, ia, ny, sq, sp, hn, hz⟩ := h
    refine ⟨_, pss_one (ps_ret (pe_op (op_D (E := E) D (passes_call (takes_of rfl rfl rfl rfl) fun _ _ _ _ h => h) hr) (pe_of O (hr.mono (by decide)) (pe_glob (v := V.ref C) rfl B.mgA rfl) (pa_cons (pv 1) pa_nil)) (pv 0))), ?_⟩
    exact ⟨rfl, _, rfl, y, q, rfl, ny, low_sz sq (by decide), fun r H1 e1 ir => ⟨_, rfl, r, q, p, rfl, ir, Num.is (ia.ext e1), sq, sp, fun p0 r2 H2 e2 n2 i2 => hn p0 r2 H2 (e1.trans e2) (e1.gone n2) i2, fun p0 => (hz p0).on e1⟩⟩
end
end KA

set_option Elab.async false
set_option linter.all false
set_option maxRecDepth 100000
set_option maxHeartbeats 1000000
set_option exponentiation.threshold 20000
/-! Texts of great numbers; str, repr of Amounts. -/
namespace Am
open PySem PySem.Spec PyProof.Rows L2 Oo
theorem lim10 : (2 : Nat) ^ 8000 < 10 ^ 4300 := by
  have h : ((2 : Nat) ^ 80) ^ 100 < (10 ^ 43) ^ 100 := Nat.pow_lt_pow_left (by decide) (by decide)
  rw [← Nat.pow_mul, ← Nat.pow_mul] at h
  exact h
theorem big_len {i : Int} (h : i.natAbs < 2 ^ 8000) : (Str.ofString (toString i)).length ≤ 8001 := by
  have l : i.natAbs.log2 < 8000 := by
    by_cases z : i.natAbs = 0
    · rw [z]; decide
    · exact (Nat.log2_lt z).mpr h
  have e := int_text_length_le (a := i) (k := 8000) (by decide) l
  rw [PySem.ofString_length]
  exact e
section
variable {X : Cx}
theorem nd_at {pins : List (Addr × Obj)} {σ : L2.St} {H : Hp} {s : Shared} (I : Inv X pins σ H s) (nb : X.base.NoDigits) : s.heap.NoDigits := nb.keeps I.bk
/-- str(n) -/
def rStrI : List V → Hp → VK → Prop := fun xs H Q => ∃ i : Int, xs = [.int i] ∧ i.natAbs < 2 ^ 8000 ∧ Q (.str (toString i)) H
theorem call_strI (nb : X.base.NoDigits) (hc : X.calm = true) : CallR X (.type "str") rStrI := by
  intro pins s σ H xs us Q I r h
  obtain ⟨i, rfl, hz, q⟩ := h
  obtain ⟨u, rfl, t, rfl⟩ := vals1 r
  exact str_of_int_or (I.ok.hd hc) (nd_at I nb) (fun _ => ⟨.str _, H, I.tok _, ⟨_, rfl⟩, q⟩) fun hge => absurd (Nat.lt_trans hz lim10) (Nat.not_lt.mpr hge)
/-- {n} in an f-string -/
def tFmtI (te : TE) : TE := fun σ H Q => te σ H fun x H1 => ∃ i : Int, x = .int i ∧ i.natAbs < 2 ^ 8000 ∧ Q (.str (toString i)) H1
theorem pe_fmtI (nb : X.base.NoDigits) (hc : X.calm = true) {e : Expr} {te : TE} {pos : Pos} (he : PE X e te) : PE X (.FormattedValue e (-1) none pos) (tFmtI te) := by
  refine ⟨fun pins s σ H Q I h => ?_⟩
  refine wpAny_FormattedValue_plain (thn (he.run pins s σ H _ I h) fun v s1 hv => ?_)
  obtain ⟨x, H1, I1, r1, i, rfl, hz, q⟩ := hv
  obtain ⟨t, rfl⟩ := r1
  exact formatField_int (I1.ok.hd hc) (nd_at I1 nb) (fun _ => ⟨.str (toString i), H1, I1.tok _, ⟨_, rfl⟩, q⟩) fun hge => absurd (Nat.lt_trans hz lim10) (Nat.not_lt.mpr hge)
end
/-! ### the texts -/
/-- 'Amount(t, b)' -/
def shown (q : Rat) : Str := Str.empty ++ "Amount(" ++ (toString q.num : String) ++ ", " ++ (toString (q.den : Int) : String) ++ ")"
def written (q : Rat) : Str := if (q.den : Int) = 1 then (toString q.num : String) else Str.empty ++ (toString q.num : String) ++ "/" ++ (toString (q.den : Int) : String)
end Am
namespace KA
open PySem PySem.Spec PyProof.Rows L2 Oo Gd Am
section
variable {P : Program} {w : World} {K : W.Frag} {mg : Str → Option Value} {base : Heap} {C f : Addr} {fd : FuncData}
def spText (C : Addr) (g : Rat → Str) : Sp := fun vs H Q _ => ∃ a q, vs = [.ref a] ∧ Is C H a q ∧ Low 8000 q ∧ Q (.str (g q)) H
theorem scStr : FnScope ["self"] ["self"] (defScope (am 26)) := ⟨rfl, rfl, rfl, by decide +kernel, rfl, by decide +kernel, by decide +kernel⟩
theorem scRepr : FnScope ["self"] ["self"] (defScope (am 27)) := ⟨rfl, rfl, rfl, by decide +kernel, rfl, by decide +kernel, by decide +kernel⟩
theorem low_den {n : Nat} {q : Rat} (h : Low n q) : ((q.den : Int)).natAbs < 2 ^ n := by
  rw [Int.natAbs_natCast]
  exact h.2
theorem line_ge : (20000 : Nat) ≤ sizeLine := by decide
theorem ok_str (nb : base.NoDigits) (fr : Frees mg) (T : Cl K C) (F : Fun K "__str__" "Amount.__str__" (am 26) f fd) : FnOk P w K mg base CX0 1 f fd ["self"] (spText C written) := by
  refine F.ok scStr (fun vs H Q E h => ?_) (fun cdv A outer s H vs Q E hr h => ?_)
  · obtain ⟨a, q, rfl, _⟩ := h
    rfl
  · obtain ⟨a, q, rfl, ia, lw, z⟩ := h
    refine ⟨_, pss_cons (ps_if (pt_cmpR op_eq (pe_bot T (pv 0)) pe_int (nomark _)) (pss_one (ps_ret (pe_callTy (call_strI nb rfl) rfl (fr.h _ (by decide +kernel)) (by decide +kernel) (pa_cons (pe_top T (pv 0)) pa_nil)))) pss_nil)
      (pss_one (ps_ret (pe_joined (.cons (pe_fmtI nb rfl (pe_top T (pv 0))) (.cons pe_str (.cons (pe_fmtI nb rfl (pe_bot T (pv 0))) .nil)))))), ?_⟩
    have l1 := big_len lw.1
    have l2 := big_len (low_den lw)
    refine ⟨_, rfl, a, q, rfl, ia, rfl, _, rfl, ite2 (fun h => ?_) (fun h => ?_)⟩
    · have e : (q.den : Int) = 1 := by simpa using h
      unfold written at z
      rw [if_pos e] at z
      exact ⟨_, rfl, a, q, rfl, ia, _, rfl, lw.1, z⟩
    · have e : ¬ (q.den : Int) = 1 := fun e => h (by simpa using e)
      unfold written at z
      rw [if_neg e] at z
      have k1 : (Str.ofString "/").length = 1 := by decide
      have k0 : (Str.empty).length = 0 := by decide
      refine ⟨_, rfl, a, q, rfl, ia, _, rfl, lw.1, _, rfl, ?_, _, rfl, ?_, _, rfl, a, q, rfl, ia, _, rfl, low_den lw, _, rfl, ?_, z⟩ <;> (simp only [strLen_append, k1, k0]; have := line_ge; omega)
theorem ok_repr (nb : base.NoDigits) (fr : Frees mg) (T : Cl K C) (F : Fun K "__repr__" "Amount.__repr__" (am 27) f fd) : FnOk P w K mg base CX0 1 f fd ["self"] (spText C shown) := by
  refine F.ok scRepr (fun vs H Q E h => ?_) (fun cdv A outer s H vs Q E hr h => ?_)
  · obtain ⟨a, q, rfl, _⟩ := h
    rfl
  · obtain ⟨a, q, rfl, ia, lw, z⟩ := h
    refine ⟨_, pss_one (ps_ret (pe_joined (.cons pe_str (.cons (pe_fmtI nb rfl (pe_top T (pv 0))) (.cons pe_str (.cons (pe_fmtI nb rfl (pe_bot T (pv 0))) (.cons pe_str .nil))))))), ?_⟩
    have l1 := big_len lw.1
    have l2 := big_len (low_den lw)
    have k1 : (Str.ofString "Amount(").length = 7 := by decide
    have k2 : (Str.ofString ", ").length = 2 := by decide
    have k3 : (Str.ofString ")").length = 1 := by decide
    have k0 : (Str.empty).length = 0 := by decide
    refine ⟨_, rfl, ?_, _, rfl, a, q, rfl, ia, _, rfl, lw.1, _, rfl, ?_, _, rfl, ?_, _, rfl, a, q, rfl, ia, _, rfl, low_den lw, _, rfl, ?_, _, rfl, ?_, z⟩ <;> (simp only [strLen_append, k1, k2, k3, k0]; have := line_ge; omega)
end
end KA

set_option Elab.async false
set_option linter.all false
set_option maxRecDepth 100000
set_option maxHeartbeats 1000000
set_option exponentiation.threshold 20000
/-! rounded. -/
namespace Am
open PySem PySem.Spec PyProof.Rows L2 Oo
theorem emp (x : Str) : Str.empty ++ x = x := by
  cases x with
  | mk a =>
    show Str.mk (#[] ++ a) = Str.mk a
    rw [Array.empty_append]
/-- filled up with zeros to m signs -/
def zf (x : Str) (m : Nat) : Str := ⟨Array.replicate (m - x.length) 48 ++ x.cps⟩
theorem zf_len (x : Str) (m : Nat) : (zf x m).length = (m - x.length) + x.length := by
  show (Array.replicate (m - x.length) 48 ++ x.cps).size = _
  rw [Array.size_append, Array.size_replicate]
  rfl
theorem zfill_nat (n m : Nat) : Txt.zfill (Str.ofString (toString (n : Int))) (m : Int) = zf (Str.ofString (toString (n : Int))) m := by
  have hs := PySem.W.KIN.signs_num n
  have hd : ∀ c ∈ (Str.ofString (toString (n : Int))).cps.toList, 48 ≤ c ∧ c ≤ 57 := by
    intro c hc
    rw [hs] at hc
    obtain ⟨ch, hch, e⟩ := List.mem_map.mp hc
    have r := digit_range (Nat.isDigit_of_mem_toDigits (by decide) (by decide) hch)
    rw [← e]
    exact r
  generalize Str.ofString (toString (n : Int)) = x at hd
  clear hs
  unfold Txt.zfill zf
  by_cases h : (m : Int) ≤ x.length
  · rw [if_pos h, show m - x.length = 0 by omega]
    cases x with
    | mk a =>
      show Str.mk a = Str.mk (Array.replicate 0 48 ++ a)
      simp
  · rw [if_neg h, Int.toNat_natCast]
    unfold zfilled
    split
    · rename_i e
      have := hd 43 (by rw [← Array.getElem?_toList] at e; exact List.mem_of_getElem? e)
      omega
    · rename_i e
      have := hd 45 (by rw [← Array.getElem?_toList] at e; exact List.mem_of_getElem? e)
      omega
    · show Str.mk (Array.replicate (m - x.length) 48 ++ x.cps ++ Array.replicate 0 48) = _
      simp
def steps (q : Rat) (k : Nat) : Int := (q.num * 10 ^ k) / (q.den : Int)
def mark (n : Int) : Str := if n < 0 then "-" else ""
def digs (n : Int) (k : Nat) : Str := zf (toString (if n < 0 then -n else n)) (k + 1)
def dec (q : Rat) (k : Nat) : Str :=
  if k = 0 then mark (steps q k) ++ digs (steps q k) k
  else mark (steps q k) ++ cutS (digs (steps q k) k) none (some (((digs (steps q k) k).length : Int) - k)) ++ "." ++ cutS (digs (steps q k) k) (some (((digs (steps q k) k).length : Int) - k)) none
theorem steps_bits {q : Rat} {k : Nat} (h : q.num.natAbs < 2 ^ 4000) (hk : k ≤ 12) : (steps q k).natAbs < 2 ^ 4042 := by
  have p : ((10 : Int) ^ k).natAbs < 2 ^ 40 := by
    rw [Int.natAbs_pow]
    exact Nat.lt_of_le_of_lt (Nat.pow_le_pow_right (by decide) hk) (by decide)
  have m := mul_bits h p
  have d1 := q.den_pos
  unfold steps
  generalize q.num * 10 ^ k = n at m ⊢
  generalize hd : (q.den : Int) = d
  have dp : 1 ≤ d := by omega
  have e : (n / d).natAbs ≤ n.natAbs + 1 := by
    have a1 := Int.ediv_mul_le n (show d ≠ 0 by omega)
    have a2 := Int.lt_ediv_add_one_mul_self n (show 0 < d by omega)
    rcases Int.lt_or_le n 0 with hn | hn
    · have u : n / d < 0 := Int.ediv_neg_of_neg_of_pos hn (by omega)
      have l : n ≤ n / d := by
        rcases Int.lt_or_le (n / d) n with z | z
        · exfalso
          have : (n / d + 1) * d ≤ (n / d + 1) * 1 := Int.mul_le_mul_of_nonpos_left (by omega) dp
          omega
        · exact z
      omega
    · have l : 0 ≤ n / d := Int.ediv_nonneg hn (by omega)
      have u : n / d ≤ n := Int.ediv_le_self d hn
      omega
  have b1 : (2 : Nat) ^ 4041 = 2 ^ 4040 + 2 ^ 4040 := Nat.two_pow_succ 4040
  have b2 : (2 : Nat) ^ 4042 = 2 ^ 4041 + 2 ^ 4041 := Nat.two_pow_succ 4041
  have b3 : (1 : Nat) ≤ 2 ^ 4040 := Nat.one_le_two_pow
  omega
theorem digs_eq (n : Int) (k : Nat) : Txt.zfill (Str.ofString (toString (if n < 0 then -n else n))) ((k : Int) + 1) = digs n k := by
  have e : (if n < 0 then -n else n) = ((n.natAbs : Nat) : Int) := by split <;> omega
  unfold digs
  rw [e]
  exact zfill_nat n.natAbs (k + 1)
theorem digs_len {n : Int} {k : Nat} (h : n.natAbs < 2 ^ 4042) (hk : k ≤ 12) : (digs n k).length ≤ 9000 ∧ k < (digs n k).length := by
  have e : (if n < 0 then -n else n).natAbs = n.natAbs := by split <;> omega
  have l := big_len (i := if n < 0 then -n else n) (by rw [e]; exact Nat.lt_trans h (by decide))
  unfold digs
  rw [zf_len]
  omega
theorem cut_len (x : Str) (lo hi : Option Int) : (cutS x lo hi).length ≤ x.length := by
  show ((x.cps.toList.drop _).take _).toArray.size ≤ _
  rw [List.size_toArray, List.length_take, List.length_drop]
  have : x.cps.toList.length = x.length := rfl
  omega
end Am
namespace KA
open PySem PySem.Spec PyProof.Rows L2 Oo Gd Am
section
variable {P : Program} {w : World} {K : W.Frag} {mg : Str → Option Value} {base : Heap} {C f : Addr} {fd : FuncData}
def spRound (C : Addr) : Sp := fun vs H Q _ => ∃ a q, ∃ k : Nat, vs = [.ref a, .int k] ∧ Is C H a q ∧ Low 4000 q ∧ k ≤ 12 ∧ Q (.str (dec q k)) H
end
end KA

set_option Elab.async false
set_option linter.all false
set_option maxRecDepth 100000
set_option maxHeartbeats 1000000
set_option exponentiation.threshold 20000
/-! The law's own small defs. -/
namespace KA
open PySem PySem.Spec PyProof.Rows L2 Oo Gd Am

/-! ### derivations by the text's shape -/
local macro_rules | `(tactic| walk_at "gd nd") => `(tactic| assumption)
local macro_rules | `(tactic| walk_at "gd lo") => `(tactic| first | exact Or.inl rfl | exact Or.inr rfl)
local macro_rules | `(tactic| walk_at "gd var") => `(tactic| first | exact pv 0 | exact pv 1 | exact pv 2 | exact pv 3 | exact pv 4 | exact pv 5 | exact pv 6 | exact pv 7 | exact pv 8 | exact pv 9 | exact pv 10 | exact pv 11 | exact pv 12 | exact pv 13 | exact pe_glob rfl (by assumption) rfl | exact pe_glob (v := V.ref (He.ga _ _)) rfl (Globs.h (by assumption) _ (by decide +kernel)) rfl | exact pe_bltn (v := V.ty _) rfl (Frees.h (by assumption) _ (by decide +kernel)) (by rfl) rfl | exact pe_bltn rfl (Frees.h (by assumption) _ (by decide +kernel)) (by decide +kernel) rfl)
local macro_rules | `(tactic| walk_at "gd a") => `(tactic| first | exact pa_nil | (refine' pa_cons ?k1 ?k2; (case k1 => walk_at "gd e"); (case k2 => walk_at "gd a")))
local macro_rules | `(tactic| walk_at "gd blt") => `(tactic| first
  | ((with_reducible show PE _ (Expr.Call (Expr.Name "abs" _) _ _ _) _); refine' pe_callB call_abs rfl (Frees.h (by assumption) _ (by decide +kernel)) (by decide +kernel) ?k1; (case k1 => walk_at "gd a"))
  | ((with_reducible show PE _ (Expr.Call (Expr.Name "max" _) _ _ _) _); refine' pe_callB (call_max2 rfl) rfl (Frees.h (by assumption) _ (by decide +kernel)) (by decide +kernel) ?k1; (case k1 => walk_at "gd a"))
  | ((with_reducible show PE _ (Expr.Call (Expr.Name "min" _) _ _ _) _); refine' pe_callB (call_min2 rfl) rfl (Frees.h (by assumption) _ (by decide +kernel)) (by decide +kernel) ?k1; (case k1 => walk_at "gd a"))
  | ((with_reducible show PE _ (Expr.Call (Expr.Name "len" _) _ _ _) _); refine' pe_callB (lenK (by assumption)) rfl (Frees.h (by assumption) _ (by decide +kernel)) (by decide +kernel) ?k1; (case k1 => walk_at "gd a"))
  | ((with_reducible show PE _ (Expr.Call (Expr.Name "divmod" _) _ _ _) _); refine' pe_callB call_divmodW rfl (Frees.h (by assumption) _ (by decide +kernel)) (by decide +kernel) ?k1; (case k1 => walk_at "gd a"))
  | ((with_reducible show PE _ (Expr.Call (Expr.Name "all" _) _ _ _) _); refine' pe_callB (allK (by assumption) rfl) rfl (Frees.h (by assumption) _ (by decide +kernel)) (by decide +kernel) ?k1; (case k1 => walk_at "gd a"))
  | ((with_reducible show PE _ (Expr.Call (Expr.Name "isinstance" _) _ _ _) _); refine' pe_callB (isXK (by assumption)) rfl (Frees.h (by assumption) _ (by decide +kernel)) (by decide +kernel) ?k1; (case k1 => walk_at "gd a"))
  | ((with_reducible show PE _ (Expr.Call (Expr.Name "repr" _) _ _ _) _); refine' pe_callB (call_repr (by assumption) (by assumption)) rfl (Frees.h (by assumption) _ (by decide +kernel)) (by decide +kernel) ?k1; (case k1 => walk_at "gd a"))
  | ((with_reducible show PE _ (Expr.Call (Expr.Name "int" _) _ _ _) _); refine' pe_callTy call_int1 rfl (Frees.h (by assumption) _ (by decide +kernel)) (by decide +kernel) ?k1; (case k1 => walk_at "gd a"))
  | ((with_reducible show PE _ (Expr.Call (Expr.Name "str" _) _ _ _) _); refine' pe_callTy (call_strI (by assumption) rfl) rfl (Frees.h (by assumption) _ (by decide +kernel)) (by decide +kernel) ?k1; (case k1 => walk_at "gd a"))
  | ((with_reducible show PE _ (Expr.Call (Expr.Name "bool" _) _ _ _) _); refine' pe_callTy call_bool1 rfl (Frees.h (by assumption) _ (by decide +kernel)) (by decide +kernel) ?k1; (case k1 => walk_at "gd a"))
  | ((with_reducible show PE _ (Expr.Call (Expr.Name "tuple" _) _ _ _) _); refine' pe_callTy (tupK (by assumption)) rfl (Frees.h (by assumption) _ (by decide +kernel)) (by decide +kernel) ?k1; (case k1 => walk_at "gd a")))
local macro_rules | `(tactic| walk_at "gd call") => `(tactic| first
  | walk_at "gd blt"
  | (refine' pe_dn (by assumption) (by assumption) rfl (by first | decide | omega) ?k1; (case k1 => walk_at "gd a"))
  | (refine' pe_dnG (by assumption) (by assumption) (by assumption) rfl (by first | decide | omega) ?k1; (case k1 => walk_at "gd a"))
  | walk_at "gd own")
local macro_rules | `(tactic| walk_at "gd own") => `(tactic| fail)
local macro_rules | `(tactic| walk_at "gd it") => `(tactic| fail)
local macro_rules | `(tactic| walk_at "gd i") => `(tactic| first
  | ((with_reducible show PI _ _ (Expr.Call (Expr.Name "range" _) [_] _ _) _); refine' pi_range1 rfl (Frees.h (by assumption) _ (by decide +kernel)) ?k1; (case k1 => walk_at "gd a"))
  | walk_at "gd it")
local macro_rules | `(tactic| walk_at "gd cv") => `(tactic| fail)
local macro_rules | `(tactic| walk_at "gd lc") => `(tactic| walk_at "gd cv")
local macro_rules | `(tactic| walk_at "gd e") => `(tactic| first
  | ((with_reducible show PE _ (Expr.Constant _ _ _) _); first | exact pe_int | exact pe_str | exact pe_bl | exact pe_non)
  | ((with_reducible show PE _ (Expr.Name _ _) _); walk_at "gd var")
  | ((with_reducible show PE _ (Expr.BinOp _ Operator.Add _ _) _); refine' pe_op op_addA ?k1 ?k2; (case k1 => walk_at "gd e"); (case k2 => walk_at "gd e"))
  | ((with_reducible show PE _ (Expr.BinOp _ Operator.Sub _ _) _); refine' pe_op op_sub ?k1 ?k2; (case k1 => walk_at "gd e"); (case k2 => walk_at "gd e"))
  | ((with_reducible show PE _ (Expr.BinOp _ Operator.Mult _ _) _); refine' pe_op op_mulA ?k1 ?k2; (case k1 => walk_at "gd e"); (case k2 => walk_at "gd e"))
  | ((with_reducible show PE _ (Expr.BinOp _ Operator.Mod _ _) _); refine' pe_op op_mod ?k1 ?k2; (case k1 => walk_at "gd e"); (case k2 => walk_at "gd e"))
  | ((with_reducible show PE _ (Expr.BinOp _ Operator.FloorDiv _ _) _); refine' pe_op op_fdivW ?k1 ?k2; (case k1 => walk_at "gd e"); (case k2 => walk_at "gd e"))
  | ((with_reducible show PE _ (Expr.BinOp _ Operator.Pow _ _) _); refine' pe_op op_pow ?k1 ?k2; (case k1 => walk_at "gd e"); (case k2 => walk_at "gd e"))
  | ((with_reducible show PE _ (Expr.UnaryOp UnaryOp.USub _ _) _); refine' pe_un un_neg ?k1; (case k1 => walk_at "gd e"))
  | ((with_reducible show PE _ (Expr.UnaryOp UnaryOp.Not _ _) _); refine' pe_not ?k1; (case k1 => walk_at "gd e"))
  | ((with_reducible show PE _ (Expr.Compare _ [CmpOp.Lt] _ _) _); refine' pe_cmpR op_lt ?k1 ?k2 (by rfl); (case k1 => walk_at "gd e"); (case k2 => walk_at "gd e"))
  | ((with_reducible show PE _ (Expr.Compare _ [CmpOp.LtE] _ _) _); refine' pe_cmpR op_le ?k1 ?k2 (by rfl); (case k1 => walk_at "gd e"); (case k2 => walk_at "gd e"))
  | ((with_reducible show PE _ (Expr.Compare _ [CmpOp.Gt] _ _) _); refine' pe_cmpR op_gt ?k1 ?k2 (by rfl); (case k1 => walk_at "gd e"); (case k2 => walk_at "gd e"))
  | ((with_reducible show PE _ (Expr.Compare _ [CmpOp.GtE] _ _) _); refine' pe_cmpR op_ge ?k1 ?k2 (by rfl); (case k1 => walk_at "gd e"); (case k2 => walk_at "gd e"))
  | ((with_reducible show PE _ (Expr.Compare _ [CmpOp.Eq] _ _) _); refine' pe_cmpR (eqK (by assumption) (by assumption)) ?k1 ?k2 (by rfl); (case k1 => walk_at "gd e"); (case k2 => walk_at "gd e"))
  | ((with_reducible show PE _ (Expr.Compare _ [CmpOp.NotEq] _ _) _); refine' pe_cmpR (neK (by assumption) (by assumption)) ?k1 ?k2 (by rfl); (case k1 => walk_at "gd e"); (case k2 => walk_at "gd e"))
  | ((with_reducible show PE _ (Expr.Compare _ [CmpOp.In] _ _) _); refine' pe_cmpR (inK (by assumption)) ?k1 ?k2 (by rfl); (case k1 => walk_at "gd e"); (case k2 => walk_at "gd e"))
  | ((with_reducible show PE _ (Expr.Compare _ [CmpOp.NotIn] _ _) _); refine' pe_cmpR (niK (by assumption)) ?k1 ?k2 (by rfl); (case k1 => walk_at "gd e"); (case k2 => walk_at "gd e"))
  | ((with_reducible show PE _ (Expr.IfExp _ _ _ _) _); refine' pe_ifExp ?k1 ?k2 ?k3; (case k1 => walk_at "gd t"); (case k2 => walk_at "gd e"); (case k3 => walk_at "gd e"))
  | ((with_reducible show PE _ (Expr.Subscript _ (Expr.Slice none (some _) none _) _) _); refine' pe_slice sl_str ?k1 po_none (po_some ?k2); (case k1 => walk_at "gd e"); (case k2 => walk_at "gd e"))
  | ((with_reducible show PE _ (Expr.Subscript _ _ _) _); refine' pe_ix (ixK (by assumption)) ?k1 ?k2 (fun _ _ => rfl); (case k1 => walk_at "gd e"); (case k2 => walk_at "gd e"))
  | ((with_reducible show PE _ (Expr.List _ _) _); refine' pe_lst ?k1; (case k1 => walk_at "gd a"))
  | ((with_reducible show PE _ (Expr.Tuple _ _ _) _); refine' pe_tup ?k1; (case k1 => walk_at "gd a"))
  | ((with_reducible show PE _ (Expr.Dict [] [] _) _); exact pe_dnewK)
  | ((with_reducible show PE _ (Expr.Dict [_] [_] _) _); refine' pe_disp (pps_cons ?k1 ?k2 pps_nil) rfl rfl (fun z => by cases z) (by decide); (case k1 => walk_at "gd e"); (case k2 => walk_at "gd e"))
  | ((with_reducible show PE _ (Expr.Call (Expr.Attribute _ "join" _) _ _ _) _); refine' joinK (by assumption) ?k1 ?k2; (case k1 => walk_at "gd e"); (case k2 => walk_at "gd e"))
  | ((with_reducible show PE _ (Expr.Call (Expr.Attribute _ "append" _) _ _ _) _); refine' pe_bm PySem.F.plainAttrs_list PySem.F.slot_list_append PySem.F.type_list_append mt_append ?k1 ?k2; (case k1 => walk_at "gd e"); (case k2 => walk_at "gd a"))
  | ((with_reducible show PE _ (Expr.Attribute _ _ _) _); refine' efK (by assumption) ?k1; (case k1 => walk_at "gd e"))
  | ((with_reducible show PE _ (Expr.ListComp _ _ _ _) _); walk_at "gd lc")
  | walk_at "gd call")
local macro_rules | `(tactic| walk_at "gd t") => `(tactic| first
  | ((with_reducible show PT _ (Expr.UnaryOp UnaryOp.Not _ _) _); refine' pt_not ?k1; (case k1 => walk_at "gd t"))
  | ((with_reducible show PT _ (Expr.BoolOp BoolOp.And [_, _] _) _); refine' PW.pt (pw_and ?k1 (pw_and1 ?k2)); (case k1 => walk_at "gd t"); (case k2 => walk_at "gd t"))
  | ((with_reducible show PT _ (Expr.BoolOp BoolOp.Or [_, _] _) _); refine' PW.pt (pw_or ?k1 (pw_or1 ?k2)); (case k1 => walk_at "gd t"); (case k2 => walk_at "gd t"))
  | ((with_reducible show PT _ (Expr.Compare _ [CmpOp.Lt] _ _) _); refine' pt_cmpR op_lt ?k1 ?k2 (by rfl); (case k1 => walk_at "gd e"); (case k2 => walk_at "gd e"))
  | ((with_reducible show PT _ (Expr.Compare _ [CmpOp.LtE] _ _) _); refine' pt_cmpR op_le ?k1 ?k2 (by rfl); (case k1 => walk_at "gd e"); (case k2 => walk_at "gd e"))
  | ((with_reducible show PT _ (Expr.Compare _ [CmpOp.Gt] _ _) _); refine' pt_cmpR op_gt ?k1 ?k2 (by rfl); (case k1 => walk_at "gd e"); (case k2 => walk_at "gd e"))
  | ((with_reducible show PT _ (Expr.Compare _ [CmpOp.GtE] _ _) _); refine' pt_cmpR op_ge ?k1 ?k2 (by rfl); (case k1 => walk_at "gd e"); (case k2 => walk_at "gd e"))
  | ((with_reducible show PT _ (Expr.Compare _ [CmpOp.Eq] _ _) _); refine' pt_cmpR (eqK (by assumption) (by assumption)) ?k1 ?k2 (by rfl); (case k1 => walk_at "gd e"); (case k2 => walk_at "gd e"))
  | ((with_reducible show PT _ (Expr.Compare _ [CmpOp.NotEq] _ _) _); refine' pt_cmpR (neK (by assumption) (by assumption)) ?k1 ?k2 (by rfl); (case k1 => walk_at "gd e"); (case k2 => walk_at "gd e"))
  | ((with_reducible show PT _ (Expr.Compare _ [CmpOp.In] _ _) _); refine' pt_cmpR (inK (by assumption)) ?k1 ?k2 (by rfl); (case k1 => walk_at "gd e"); (case k2 => walk_at "gd e"))
  | ((with_reducible show PT _ (Expr.Compare _ [CmpOp.NotIn] _ _) _); refine' pt_cmpR (niK (by assumption)) ?k1 ?k2 (by rfl); (case k1 => walk_at "gd e"); (case k2 => walk_at "gd e"))
  | (refine' pt_val ?k1; (case k1 => walk_at "gd e")))
local macro_rules | `(tactic| walk_at "gd g") => `(tactic| first
  | ((with_reducible show PG _ (Expr.Name _ _) _); first | exact pg_name (i := 0) (by walk_at "gd nd") rfl (by walk_at "gd lo") | exact pg_name (i := 1) (by walk_at "gd nd") rfl (by walk_at "gd lo") | exact pg_name (i := 2) (by walk_at "gd nd") rfl (by walk_at "gd lo") | exact pg_name (i := 3) (by walk_at "gd nd") rfl (by walk_at "gd lo") | exact pg_name (i := 4) (by walk_at "gd nd") rfl (by walk_at "gd lo") | exact pg_name (i := 5) (by walk_at "gd nd") rfl (by walk_at "gd lo") | exact pg_name (i := 6) (by walk_at "gd nd") rfl (by walk_at "gd lo") | exact pg_name (i := 7) (by walk_at "gd nd") rfl (by walk_at "gd lo") | exact pg_name (i := 8) (by walk_at "gd nd") rfl (by walk_at "gd lo") | exact pg_name (i := 9) (by walk_at "gd nd") rfl (by walk_at "gd lo") | exact pg_name (i := 10) (by walk_at "gd nd") rfl (by walk_at "gd lo") | exact pg_name (i := 11) (by walk_at "gd nd") rfl (by walk_at "gd lo") | exact pg_name (i := 12) (by walk_at "gd nd") rfl (by walk_at "gd lo") | exact pg_name (i := 13) (by walk_at "gd nd") rfl (by walk_at "gd lo"))
  | ((with_reducible show PG _ (Expr.Subscript _ _ _) _); refine' pg_sub ?k1 ?k2 set_list; (case k1 => walk_at "gd e"); (case k2 => walk_at "gd e"))
  | ((with_reducible show PG _ (Expr.Tuple _ _ _) _); refine' pg_tup rfl ?k1; (case k1 => walk_at "gd gs")))
local macro_rules | `(tactic| walk_at "gd gs") => `(tactic| first | exact pgs_nil | (refine' pgs_cons ?k1 ?k2; (case k1 => walk_at "gd g"); (case k2 => walk_at "gd gs")))
local macro_rules | `(tactic| walk_at "gd set") => `(tactic| first | (refine' ps_set (i := 0) (by walk_at "gd nd") rfl (by walk_at "gd lo") ?k1; (case k1 => walk_at "gd e")) | (refine' ps_set (i := 1) (by walk_at "gd nd") rfl (by walk_at "gd lo") ?k1; (case k1 => walk_at "gd e")) | (refine' ps_set (i := 2) (by walk_at "gd nd") rfl (by walk_at "gd lo") ?k1; (case k1 => walk_at "gd e")) | (refine' ps_set (i := 3) (by walk_at "gd nd") rfl (by walk_at "gd lo") ?k1; (case k1 => walk_at "gd e")) | (refine' ps_set (i := 4) (by walk_at "gd nd") rfl (by walk_at "gd lo") ?k1; (case k1 => walk_at "gd e")) | (refine' ps_set (i := 5) (by walk_at "gd nd") rfl (by walk_at "gd lo") ?k1; (case k1 => walk_at "gd e")) | (refine' ps_set (i := 6) (by walk_at "gd nd") rfl (by walk_at "gd lo") ?k1; (case k1 => walk_at "gd e")) | (refine' ps_set (i := 7) (by walk_at "gd nd") rfl (by walk_at "gd lo") ?k1; (case k1 => walk_at "gd e")) | (refine' ps_set (i := 8) (by walk_at "gd nd") rfl (by walk_at "gd lo") ?k1; (case k1 => walk_at "gd e")) | (refine' ps_set (i := 9) (by walk_at "gd nd") rfl (by walk_at "gd lo") ?k1; (case k1 => walk_at "gd e")) | (refine' ps_set (i := 10) (by walk_at "gd nd") rfl (by walk_at "gd lo") ?k1; (case k1 => walk_at "gd e")) | (refine' ps_set (i := 11) (by walk_at "gd nd") rfl (by walk_at "gd lo") ?k1; (case k1 => walk_at "gd e")) | (refine' ps_set (i := 12) (by walk_at "gd nd") rfl (by walk_at "gd lo") ?k1; (case k1 => walk_at "gd e")) | (refine' ps_set (i := 13) (by walk_at "gd nd") rfl (by walk_at "gd lo") ?k1; (case k1 => walk_at "gd e")))
local macro_rules | `(tactic| walk_at "gd os") => `(tactic| fail)
local macro_rules | `(tactic| walk_at "gd slc") => `(tactic| fail)
local macro_rules | `(tactic| walk_at "gd par") => `(tactic| fail)
local macro_rules | `(tactic| walk_at "gd s") => `(tactic| first
  | ((with_reducible show PS _ (Stmt.Return (some _) _) _); refine' ps_ret ?k1; (case k1 => walk_at "gd e"))
  | ((with_reducible show PS _ (Stmt.If _ _ _ _) _); refine' ps_if ?k1 ?k2 ?k3; (case k1 => walk_at "gd t"); (case k2 => walk_at "gd ss"); (case k3 => walk_at "gd ss"))
  | ((with_reducible show PS _ (Stmt.Assign [Expr.Name _ _] (Expr.ListComp _ _ _ _) _) _); walk_at "gd slc")
  | ((with_reducible show PS _ (Stmt.Assign [Expr.Name _ _] _ _) _); walk_at "gd set")
  | ((with_reducible show PS _ (Stmt.Assign [_] _ _) _); refine' ps_asg ?k1 ?k2; (case k1 => walk_at "gd e"); (case k2 => walk_at "gd g"))
  | ((with_reducible show PS _ (Stmt.Assign [_] _ _) _); walk_at "gd par")
  | ((with_reducible show PS _ (Stmt.For _ _ _ _ _) _); refine' ps_for PassesOwn.never rfl ?k1 ?k2 ?k3; (case k1 => walk_at "gd i"); (case k2 => walk_at "gd g"); (case k3 => walk_at "gd ss"))
  | ((with_reducible show PS _ (Stmt.Expr _ _) _); refine' ps_expr ?k1; (case k1 => walk_at "gd e"))
  | walk_at "gd os")
local macro_rules | `(tactic| walk_at "gd ss") => `(tactic| first | exact pss_nil | (refine' pss_one ?k1; (case k1 => walk_at "gd s")) | (refine' pss_cons ?k1 ?k2; (case k1 => walk_at "gd s"); (case k2 => walk_at "gd ss")))
abbrev sPot : Stmt := top 42
abbrev sDraw : Stmt := top 43
abbrev sPick : Stmt := top 44
theorem scPot : FnScope ["_law_script", "_law_k", "_law_cell"] ["_law_script", "_law_k"] (defScope sPot) := ⟨rfl, rfl, rfl, by decide +kernel, rfl, by decide +kernel, by decide +kernel⟩
theorem scDraw : FnScope ["_law_pot_here", "_law_sides", "_law_digit"] ["_law_pot_here", "_law_sides"] (defScope sDraw) := ⟨rfl, rfl, rfl, by decide +kernel, rfl, by decide +kernel, by decide +kernel⟩
theorem scPick : FnScope ["_law_pot_here", "_law_some_here"] ["_law_pot_here", "_law_some_here"] (defScope sPick) := ⟨rfl, rfl, rfl, by decide +kernel, rfl, by decide +kernel, by decide +kernel⟩
/-- draw(pot, sides), of more sides -/
def spDraw11 : Sp := fun vs H Q _ => ∃ (p : Addr) (n : Int), vs = [.ref p, .int n] ∧ Pot H p ∧ 0 < n ∧ n ≤ 10000000000000 ∧ ∀ (d : Int) (H' : Hp), 0 ≤ d → d < n → Kp p H H' → Q (.int d) H'
section
variable {P : Program} {w : World} {K : W.Frag} {mg : Str → Option Value} {base : Heap} {f : Addr} {fd : FuncData}
theorem ok_draw (fr : Frees mg) (F : Fun K "_law_draw" "_law_draw" sDraw f fd) : FnOk P w K mg base CX0 1 f fd ["_law_pot_here", "_law_sides"] spDraw11 := by
  refine F.ok scDraw (fun vs H Q E h => ?_) (fun cdv A outer s H vs Q E hr h => ⟨?t, ?d, ?r⟩)
  · obtain ⟨p, n, rfl, _⟩ := h
    rfl
  case d =>
    have nd := scDraw.nd
    have isk : IsK K := ⟨trivial⟩
    walk_at "gd ss"
  case r =>
    obtain ⟨p, n, rfl, ⟨a, b, hp, ha, hb0, hb1⟩, hn0, hn1, k⟩ := h
    refine ⟨_, rfl, ix0 hp ⟨a, 0, rfl, rfl, _, rfl, ite2 (fun c => ?_) (fun c => ?_)⟩⟩
    · refine ⟨_, rfl, ix0 hp ⟨_, rfl, a, n, rfl, ⟨hn0, PyProof.noPylong_of_log2 (bits (n := 80) (by omega) (by decide))⟩, fun t ht => ?_⟩⟩
      have tp : t ≠ p := ne_of_none' hp ht
      refine ⟨t, _, rfl, SqT.of upd_same, rfl, _, _, rfl, _, rfl, p, _, 0, 0, rfl, rfl, (upd_ne (Ne.symm tp)).trans hp, rfl, _, _, rfl, rfl, _, rfl, ?_⟩
      refine k (a % n) _ (Int.emod_nonneg _ (by omega)) (Int.emod_lt_of_pos _ hn0) ⟨fun c o nc hc => ?_, a / n, b, upd_same, Int.ediv_nonneg ha (by omega), hb0, hb1⟩
      rw [upd_ne nc, upd_ne (ne_of_none hc ht)]
      exact hc
    · refine ⟨_, rfl, ix1 hp (.inl ⟨b, 40009, rfl, rfl, mulW (by omega) (by decide), .inl ⟨_, 15013, rfl, rfl, .inl ⟨_, rfl, _, 2147483587, rfl, rfl, (by show (0 : Int) < _; decide), ?_⟩⟩⟩)⟩
      refine ⟨_, rfl, p, _, 1, 1, rfl, rfl, hp, rfl, ?_⟩
      have m0 : 0 ≤ (b * 40009 + 15013) % 2147483587 := Int.emod_nonneg _ (by decide)
      have m1 : (b * 40009 + 15013) % 2147483587 < 2147483587 := Int.emod_lt_of_pos _ (by decide)
      refine ⟨_, rfl, ix1 upd_same ⟨_, rfl, ix1 upd_same (.inl ⟨_, _, rfl, rfl, mulW (by omega) (by omega), .inl ⟨_, rfl, _, 2147483549, rfl, rfl, (by show (0 : Int) < _; decide), _, 13, rfl, rfl, divW (by decide) (by decide), .inl ⟨_, rfl, _, rfl, _, n, rfl, rfl, hn0, ?_⟩⟩⟩)⟩⟩
      exact k _ _ (Int.emod_nonneg _ (by omega)) (Int.emod_lt_of_pos _ hn0) (Kp.put ha m0 (by omega))
theorem ok_pick (fr : Frees mg) (D1 : Dn P w K mg base CX0 1 "_law_draw" ["_law_pot_here", "_law_sides"] spDraw11) (F : Fun K "_law_pick" "_law_pick" sPick f fd) : FnOk P w K mg base CX0 2 f fd ["_law_pot_here", "_law_some_here"] (spPick K) := by
  refine F.ok scPick (fun vs H Q E h => ?_) (fun cdv A outer s H vs Q E hr h => ⟨?t, ?d, ?r⟩)
  · obtain ⟨p, l, xs, rfl, _⟩ := h
    rfl
  case d =>
    have nd := scPick.nd
    have isk : IsK K := ⟨trivial⟩
    walk_at "gd ss"
  case r =>
    obtain ⟨p, l, xs, rfl, hp, ne, hl, h0, h1, k⟩ := h
    have pos : 0 < xs.length := List.length_pos_iff.mpr h0
    refine ⟨_, rfl, _, rfl, _, rfl, .inl ⟨l, xs, rfl, .inl hl, p, xs.length, rfl, hp, by omega, by omega, fun d H' d0 d1 kp => ?_⟩⟩
    have hd : d.toNat < xs.length := by omega
    refine .inl ⟨l, xs, d, xs[d.toNat], rfl, rfl, kp.seq ne hl, ?_, k _ _ (List.getElem_mem _) kp⟩
    exact atI_int d0 (List.getElem?_eq_getElem hd)
theorem cube {z : Int} (h0 : 0 ≤ z) (h1 : z ≤ 300) : (z ^ 3).natAbs < 2 ^ 80 := by
  rw [Int.natAbs_pow]
  exact Nat.lt_of_le_of_lt (Nat.pow_le_pow_left (show z.natAbs ≤ 300 by omega) 3) (by decide)
theorem ok_pot (fr : Frees mg) (F : Fun K "_law_pot" "_law_pot" sPot f fd) : FnOk P w K mg base CX0 1 f fd ["_law_script", "_law_k"] (spPot K) := by
  refine F.ok scPot (fun vs H Q E h => ?_) (fun cdv A outer s H vs Q E hr h => ⟨?t, ?d, ?r⟩)
  · obtain ⟨a, ns, k, rfl, _⟩ := h
    rfl
  case d =>
    have nd := scPot.nd
    have isk : IsK K := ⟨trivial⟩
    walk_at "gd ss"
  case r =>
    obtain ⟨a, ns, k, rfl, hs, k0, k1, q⟩ := h
    have tail : ∀ (c : Int) (p : Addr), H p = none → Q (.ref p) (upd H p (.lst [.int (if c - 10 ^ (18 : Int).toNat > 0 then c - 10 ^ (18 : Int).toNat else 0), .int ((c % 2147483549 + 3) * (2 * k + 5) ^ (3 : Int).toNat % 2147483477 + 1)])) := by
      intro c p hp
      have m0 := Int.emod_nonneg ((c % 2147483549 + 3) * (2 * k + 5) ^ (3 : Int).toNat) (b := 2147483477) (by decide)
      have m1 := Int.emod_lt_of_pos ((c % 2147483549 + 3) * (2 * k + 5) ^ (3 : Int).toNat) (b := 2147483477) (by decide)
      refine q p _ hp (fun b o e => by rw [upd_ne (ne_of_none e hp)]; exact e) ⟨_, _, upd_same, ?_, by omega, by omega⟩
      split <;> omega
    have rest : ∀ c : Int, CMulW (c % 2147483549 + 3) ((2 * k + 5) ^ (3 : Int).toNat) := fun c => by
      have m0 := Int.emod_nonneg c (b := 2147483549) (by decide)
      have m1 := Int.emod_lt_of_pos c (b := 2147483549) (by decide)
      exact mulW (by omega) (cube (by omega) (by omega))
    refine ⟨_, rfl, .inl ⟨13, k, rfl, rfl, mulW (by decide) (by omega), .inl ⟨_, 7, rfl, rfl, _, rfl, _, rfl, .inl ⟨a, _, rfl, .inl hs, k, _, rfl, rfl, _, rfl, ite2 (fun c => ?_) (fun c => ?_)⟩⟩⟩⟩
    · have hk : k.toNat < ns.length := by
        have c' := of_decide_eq_true c
        rw [List.length_map] at c'
        omega
      refine ⟨_, rfl, _, rfl, .inl ⟨a, _, k, .int (ns[k.toNat]), rfl, rfl, hs, ?_, _, rfl, ?_⟩⟩
      · exact atI_int k0 (by rw [List.getElem?_map, List.getElem?_eq_getElem hk]; rfl)
      · refine ⟨_, rfl, 10, 18, rfl, rfl, ⟨by decide, by decide, by decide⟩, _, _, rfl, rfl, 0, _, rfl, _, rfl, .inl ⟨_, rfl, _, 2147483549, rfl, rfl, (by show (0 : Int) < _; decide), .inl ⟨_, 3, rfl, rfl, .inl ⟨_, rfl, _, rfl, .inl ⟨2, k, rfl, rfl, mulW (by decide) (by omega), .inl ⟨_, 5, rfl, rfl, _, 3, rfl, rfl, ⟨by decide, by decide, by omega⟩, .inl ⟨_, _, rfl, rfl, rest _, _, 2147483477, rfl, rfl, (by show (0 : Int) < _; decide), .inl ⟨_, 1, rfl, rfl, (by show 2 ≤ sizeLine; decide), fun p hp => tail _ p hp⟩⟩⟩⟩⟩⟩⟩⟩
    · refine ⟨_, rfl, 10, 18, rfl, rfl, ⟨by decide, by decide, by decide⟩, _, _, rfl, rfl, 0, _, rfl, _, rfl, .inl ⟨_, rfl, _, 2147483549, rfl, rfl, (by show (0 : Int) < _; decide), .inl ⟨_, 3, rfl, rfl, .inl ⟨_, rfl, _, rfl, .inl ⟨2, k, rfl, rfl, mulW (by decide) (by omega), .inl ⟨_, 5, rfl, rfl, _, 3, rfl, rfl, ⟨by decide, by decide, by omega⟩, .inl ⟨_, _, rfl, rfl, rest _, _, 2147483477, rfl, rfl, (by show (0 : Int) < _; decide), .inl ⟨_, 1, rfl, rfl, (by show 2 ≤ sizeLine; decide), fun p hp => tail _ p hp⟩⟩⟩⟩⟩⟩⟩⟩
/-! ### lowest -/
theorem low_num' {n d : Int} (h : 0 < d) : n / ((n.natAbs.gcd d.natAbs : Nat) : Int) = (Rat.divInt n d).num := by
  have e := low_num n d (by omega)
  rw [if_neg (by omega)] at e
  rw [← e, Int.fdiv_eq_ediv_of_nonneg _ (by omega)]
theorem low_den' {n d : Int} (h : 0 < d) : d / ((n.natAbs.gcd d.natAbs : Nat) : Int) = ((Rat.divInt n d).den : Int) := by
  have e := Am.low_den n d (by omega)
  rw [if_neg (by omega)] at e
  rw [← e, Int.fdiv_eq_ediv_of_nonneg _ (by omega)]
/-- at t the pair of q -/
def Pt (K : W.Frag) (H : Hp) (t : Addr) (q : Rat) : Prop := SqT K H t [.int q.num, .int q.den]
/-- a new pair -/
def NewP (H : Hp) (Q : VK) (q : Rat) : Prop := ∀ (t : Addr) (H' : Hp), Am.Ext H H' → H t = none → H' t = some (.tup [.int q.num, .int q.den]) → Q (.ref t) H'
theorem NewP.here {H : Hp} {Q : VK} {q : Rat} (h : NewP H Q q) {n d : Int} (hn : n = q.num) (hd : d = q.den) : ∀ t, H t = none → Q (.ref t) (upd H t (.tup [.int n, .int d])) := by
  intro t ht
  subst hn hd
  exact h t _ (Am.Ext.new ht) ht upd_same
def spLow : Sp := fun vs H Q _ => ∃ n d : Int, vs = [.int n, .int d] ∧ 0 < d ∧ n.natAbs < 2 ^ 8000 ∧ d.natAbs < 2 ^ 8000 ∧ NewP H Q (Rat.divInt n d)
abbrev nLow : List Str := ["_law_high", "_law_low", "_law_big", "_law_small"]
theorem scLow : FnScope nLow ["_law_high", "_law_low"] (defScope (top 47)) := ⟨rfl, rfl, rfl, by decide +kernel, rfl, by decide +kernel, by decide +kernel⟩
def msr (σ : L2.St) : Nat := match σ[3]? with
  | some (some (V.int s)) => s.toNat
  | _ => 0
theorem ok_low (fr : Frees mg) (F : Fun K "_law_lowest" "_law_lowest" (top 47) f fd) : FnOk P w K mg base CX0 1 f fd ["_law_high", "_law_low"] spLow := by
  refine F.ok scLow (fun vs H Q E h => ?_) (fun cdv A outer s H vs Q E hr h => ?_)
  · obtain ⟨n, d, rfl, _⟩ := h
    rfl
  · obtain ⟨n, d, rfl, d0, hn, hd, q⟩ := h
    have nd := scLow.nd
    refine ⟨_, pss_cons (ps_par (i := 2) (j := 3) rfl nd rfl rfl (by decide) rfl rfl (pa_cons (pe_callB call_abs rfl (fr.h _ (by decide +kernel)) (by decide +kernel) (pa_cons (pv 0) pa_nil)) (pa_cons (pv 1) pa_nil)) (by rfl))
      (pss_cons (ps_while PassesOwn.never (pt_cmpR op_gt (pv 3) pe_int (nomark _)) (pss_one (ps_par (i := 2) (j := 3) rfl nd rfl rfl (by decide) rfl rfl (pa_cons (pv 3) (pa_cons (pe_op op_mod (pv 2) (pv 3)) pa_nil)) (by rfl))))
      (pss_one (ps_ret (pe_tup (pa_cons (pe_op op_fdivW (pv 0) (pv 2)) (pa_cons (pe_op op_fdivW (pv 1) (pv 2)) pa_nil)))))), ?_⟩
    refine ⟨_, rfl, n, rfl, _, rfl, _, _, rfl, ?_⟩
    refine while_by (fun σ H' => H' = H ∧ ∃ B S : Nat, σ = [some (.int n), some (.int d), some (.int B), some (.int S)] ∧ B.gcd S = n.natAbs.gcd d.natAbs) (fun σ _ => msr σ) ?_ ?_ ?_
    · refine ⟨rfl, n.natAbs, d.natAbs, ?_, rfl⟩
      have e1 : (if n < 0 then -n else n) = ((n.natAbs : Nat) : Int) := by split <;> omega
      have e2 : d = ((d.natAbs : Nat) : Int) := by omega
      show [some (V.int n), some (V.int d), some (V.int (if n < 0 then -n else n)), some (V.int d)] = _
      rw [e1, ← e2]
    · rintro σ H' ⟨rfl, B, S, rfl, hg⟩
      refine ⟨_, rfl, _, _, rfl, rfl, _, rfl, ite2 (fun h => ?_) (fun h => ?_)⟩
      · have s0 : (0 : Int) < S := by simpa using h
        refine ⟨_, rfl, _, rfl, _, rfl, _, _, rfl, rfl, s0, _, _, rfl, ⟨rfl, S, B % S, ?_, ?_⟩, ?_⟩
        · show [some (V.int n), some (V.int d), some (V.int S), some (V.int ((B : Int) % (S : Int)))] = _
          rw [Int.natCast_emod]
        · rw [← hg, Nat.gcd_comm S, ← Nat.gcd_rec, Nat.gcd_comm]
        · show ((B : Int) % (S : Int)).toNat < (S : Int).toNat
          have := Int.emod_lt_of_pos (B : Int) s0
          have := Int.emod_nonneg (B : Int) (show (S : Int) ≠ 0 by omega)
          omega
      · have s0 : S = 0 := by
          have : ¬ (0 : Int) < S := by simpa using h
          omega
        subst s0
        have hB : B = n.natAbs.gcd d.natAbs := by rw [← hg, Nat.gcd_zero_right]
        have B1 : 0 < B := by
          rw [hB]
          exact Nat.gcd_pos_of_pos_right _ (by omega)
        have B2 : B ≤ d.natAbs := by
          rw [hB]
          exact Nat.gcd_le_right _ (by omega)
        have cw : ∀ x : Int, CDivW x (B : Int) := fun x => ⟨by omega, bits (n := 8000) (by rw [Int.natAbs_natCast]; omega) (by decide)⟩
        refine ⟨_, rfl, _, rfl, _, _, rfl, rfl, cw _, _, rfl, _, rfl, _, _, rfl, rfl, cw _, (by show 2 ≤ sizeLine; decide), ?_⟩
        exact q.here (by rw [hB]; exact low_num' d0) (by rw [hB]; exact low_den' d0)
    · rintro σ H Q Q' h ⟨v, e, i, j, e1, e2, b, e3, z⟩
      exact ⟨v, e, i, j, e1, e2, b, e3, h _ _ z⟩
end
end KA

set_option Elab.async false
set_option linter.all false
set_option maxRecDepth 100000
set_option maxHeartbeats 1000000
set_option exponentiation.threshold 20000
namespace KA
open PySem PySem.Spec PyProof.Rows L2 Oo Gd Am
section
variable {P : Program} {w : World} {K : W.Frag} {mg : Str → Option Value} {base : Heap} {f : Addr} {fd : FuncData}
theorem rd0 {H : Hp} {Q : VK} {t : Addr} {a b : V} (h : SqT K H t [a, b]) (z : Q a H) : rIxT K (.ref t) (.int 0) H Q := ⟨t, _, 0, _, rfl, rfl, h, rfl, z⟩
theorem rd1 {H : Hp} {Q : VK} {t : Addr} {a b : V} (h : SqT K H t [a, b]) (z : Q b H) : rIxT K (.ref t) (.int 1) H Q := ⟨t, _, 1, _, rfl, rfl, h, rfl, z⟩
theorem Pt.ext {H H' : Hp} {t : Addr} {q : Rat} (h : Pt K H t q) (e : Am.Ext H H') : Pt K H' t q := by
  rcases h with (h | ⟨o, h⟩) | h
  · exact .inl (.inl (e _ _ h))
  · exact .inl (.inr ⟨o, e _ _ h⟩)
  · exact .inr h
theorem Pt.of {H : Hp} {t : Addr} {q : Rat} (h : H t = some (.tup [.int q.num, .int q.den])) : Pt K H t q := SqT.of h
theorem Kp.pt {p : Addr} {H H' : Hp} {t : Addr} {q : Rat} (k : Kp p H H') (n : t ≠ p) (h : Pt K H t q) : Pt K H' t q := by
  rcases h with (h | ⟨o, h⟩) | h
  · exact .inl (.inl (k.1 _ _ n h))
  · exact .inl (.inr ⟨o, k.1 _ _ n h⟩)
  · exact .inr h
abbrev DnD (P : Program) (w : World) (K : W.Frag) (mg : Str → Option Value) (base : Heap) : Prop := Dn P w K mg base CX0 1 "_law_draw" ["_law_pot_here", "_law_sides"] spDraw11
abbrev DnP (P : Program) (w : World) (K : W.Frag) (mg : Str → Option Value) (base : Heap) : Prop := Dn P w K mg base CX0 2 "_law_pick" ["_law_pot_here", "_law_some_here"] (spPick K)
abbrev DnL (P : Program) (w : World) (K : W.Frag) (mg : Str → Option Value) (base : Heap) : Prop := Dn P w K mg base CX0 1 "_law_lowest" ["_law_high", "_law_low"] spLow
/-! ### great -/
def spGreat : Sp := fun vs H Q _ => ∃ p : Addr, vs = [.ref p] ∧ Pot H p ∧ ∀ (n : Int) (H' : Hp), 0 < n → n < 2 ^ 112 → Kp p H H' → Q (.int n) H'
/-! ### part -/
def spPart (K : W.Frag) : Sp := fun vs H Q _ => ∃ p : Addr, vs = [.ref p] ∧ Pot H p ∧ ∀ (t : Addr) (q : Rat) (H' : Hp), H t = none → t ≠ p → H' t = some (.tup [.int q.num, .int q.den]) → Low 112 q → Kp p H H' → Q (.ref t) H'
/-! ### sum, less, times, parted -/
def spPair (K : W.Frag) (g : Rat → Rat → Rat) : Sp := fun vs H Q _ => ∃ t u q p, vs = [.ref t, .ref u] ∧ Pt K H t q ∧ Pt K H u p ∧ Low 3900 q ∧ Low 3900 p ∧ NewP H Q (g q p)
theorem low39 {q p : Rat} (h : Low 3900 q) (h' : Low 3900 p) : (q.num * (p.den : Int)).natAbs < 2 ^ 7800 := mul_bits h.1 (KA.low_den h')
theorem den39 {q p : Rat} (h : Low 3900 q) (h' : Low 3900 p) : ((q.den : Int) * (p.den : Int)).natAbs < 2 ^ 7800 := mul_bits (KA.low_den h) (KA.low_den h')
theorem den_pos (q : Rat) : (0 : Int) < q.den := by
  have := q.den_pos
  omega
end
end KA

set_option Elab.async false
set_option linter.all false
set_option maxRecDepth 100000
set_option maxHeartbeats 1000000
set_option exponentiation.threshold 20000
/-! repr of a pair of NUMBERS. -/
namespace Am
open PySem PySem.Spec PyProof.Rows L2 Oo
section
variable {prog : Program} {w : World} {A : Around} {E : Value → Shared → Prop} {s : Shared} {K : W.Frag} {x C f : Addr} {ox : Obj} {od : Option Obj}
/-- an own __repr__, under a repr -/
theorem own_under {b : Nat} {Q : Str → Shared → Prop} (hb : b ≤ sizeLine) (hu : A.units < cLine) (X : K.In s.heap) (I : W.InstAt s.heap x ox C od) (hs : W.findIn K (.ref C) "__repr__" = some (some (.ref f))) (hf : W.isFn K (.ref f) = true)
    (h : wpAny (model prog w) A (call (.ref f) [.ref x]) (fun v s' => ∃ y u, v = .str y u ∧ Q y s') E s) : wpAny (model prog w) A (pyReprUnder b (.ref x)) Q E s := by
  refine wpAny_pyReprUnder_ref hb ?_
  unfold pyReprObjUnder pyReprObjBy
  refine wpAny_bind (wpAny_cRoomFor hu ?_)
  have L1 : W.Looks (model prog w) s.heap (specialOf (.ref x) (Str.ofString "__repr__")) (some (.ref f)) := by
    unfold specialOf
    exact I.type.andThen (f := fun t => typeLookup t (Str.ofString "__repr__")) (W.looks_findIn X hs)
  refine wpAny_bind (L1.here ?_)
  refine W.KFB.if_not rfl ?_
  refine wpAny_bind ?_
  have back : ∀ (v : Value) (s' : Shared), (∃ y u, v = .str y u ∧ Q y s') → wpAny (model prog w) A (do if ← isInstance v (.type "str") then pure v else raiseError "TypeError" s!"__repr__ returned non-string (type {← typeNameOf v})") (fun v s' => ∃ y u, v = .str y u ∧ Q y s') E s' := by
    rintro v s' ⟨y, u, rfl, q⟩
    exact wpAny_bind (wpAny_isInstance (T := "str") (b := true) rfl isSubtype_str_str (wpAny_pure ⟨y, u, rfl, q⟩))
  have fin : wpAny (model prog w) A (call (.ref f) [.ref x] >>= fun v => pure (some v)) (fun r s' => ∃ v, r = some v ∧ ∃ y u, v = .str y u ∧ Q y s') E s :=
    wpAny_bind (wpAny_mono h (fun v s' hv => wpAny_pure ⟨v, rfl, hv⟩) fun _ _ z => z)
  simp only [callSpecialIfBoundBy?, bindSpecialIfBound?]
  refine wpAny_holding (wpAny_bind (wpAny_bind (wpAny_bind (I.type.here ((W.looks_findIn X hs).here ?_)))))
  refine wpAny_bind (wpAny_askSetting (wpAny_ite ?_))
  split
  · exact wpAny_bind ((W.bind_fn X _ (beq_iff_eq.mp hf)).here (wpAny_pure (wpAny_mono fin (fun r s' ⟨v, er, hv⟩ => by subst er; exact back v s' hv) fun _ _ z => z)))
  · exact wpAny_tryCatch (wpAny_bind ((W.bind_fn X _ (beq_iff_eq.mp hf)).here (wpAny_pure (wpAny_mono fin (fun r s' ⟨v, er, hv⟩ => by subst er; exact back v s' hv) fun _ _ z => z))))
/-- where the items of a tuple are written -/
abbrev inTup (A : Around) (a : Addr) : Around := A.in1.under (.builtin "tuple.__repr__" ⟨[.ref a], []⟩)
theorem tup2 {a : Addr} {o : Obj} {u v : Value} {n : Nat} {t1 t2 : Str} {Q : Value → Shared → Prop} (ho : s.heap.get? a = some o) (hc : o.cls = .type "tuple") (hd : o.data = .seq #[u, v] n) (hg : A.guards = some []) (hu : A.units + 1 < cLine)
    (hz : (tupleText [t1, t2]).length ≤ sizeLine)
    (h : wpAny (model prog w) (inTup A a) (pyReprUnder 1 u) (fun r s1 => r = t1 ∧ wpAny (model prog w) (inTup A a) (pyReprUnder (0 + (t1.length + 2) + 1) v) (fun r s2 => r = t2 ∧ ∀ y, Q (.str (tupleText [t1, t2]) y) { s2 with toks := s2.toks + 1 }) E s1) E s) :
    wpAny (model prog w) A (call (.builtin "repr") [.ref a]) Q E s := by
  refine Gd.repr_slot (T := "tuple") ⟨o, ho, hc⟩ F.slot_tuple_repr hu ?_
  have body : wpOwn (model prog w) A.in1 (.builtin "tuple.__repr__" ⟨[Value.ref a], []⟩) (Builtin.tupleReprAt 0 ⟨[Value.ref a], []⟩) (fun fin s' => match fin with
      | .done fl => callEnd (fun r s' => (∃ x u, r = Value.str x u) ∧ Q r s') E (.ok fl) s'
      | .again c' => c'.quiet = true ∧ codeAny (model prog w) A.in1 c' (callEnd (fun r s' => (∃ x u, r = Value.str x u) ∧ Q r s') E) s') (fun e s' => callEnd (fun r s' => (∃ x u, r = Value.str x u) ∧ Q r s') E (.error e) s') s := by
    rw [tuple_repr_tree, tupleReprUnderWay_eq]
    refine wpOwn_bind (wpOwn_stackTailAny (g := []) hg (tupGuardF_off _) (tupGuardF_pos _) ?_)
    refine wpOwn_of_wpAny (show wpAny _ _ (tupleReprRest 0 (.ref a)) _ _ s from ?_)
    unfold tupleReprRest Builtin.Tuple.tupleItemsOf
    refine wpAny_bind (wpAny_bind (wpAny_seqItems ho hd (wpAny_pure ?_)))
    rw [← Array.forIn_toList, show (#[u, v] : Array Value).toList = [u, v] from rfl]
    refine wpAny_bind ?_
    rw [List.forIn_cons]
    refine wpAny_bind (wpAny_bind (wpAny_mono h (fun r s1 hr => wpAny_pure ?_) fun _ _ z => z))
    obtain ⟨e1, h2⟩ := hr
    subst e1
    show wpAny _ _ (forIn [v] _ _) _ _ s1
    rw [List.forIn_cons]
    refine wpAny_bind (wpAny_bind (wpAny_mono h2 (fun r s2 hr => wpAny_pure ?_) fun _ _ z => z))
    obtain ⟨e2, h3⟩ := hr
    subst e2
    show wpAny _ _ (forIn [] _ _) _ _ s2
    rw [List.forIn_nil]
    refine wpAny_pure ?_
    exact wpAny_bind (wpAny_mkStr (wpAny_pure ⟨⟨_, _, rfl⟩, h3 _⟩) hz)
  exact wpAny_call (codeAny_call_builtin_own (Code.quiet_builtin _ (by decide +kernel)) F.entry_tuple_repr (F.slot_tuple_repr.check _ _ _ _ _ _ _ _ ⟨o, ho, hc⟩ (F.args_tuple_repr_1 _) body))
end
/-! ### over the layer -/
theorem inTup_room {k : Nat} {A : Around} {a : Addr} (r : Room (k + 2) A) : Room k (inTup A a) :=
  ⟨r.hd, by
    have := r.dp
    have e : (inTup A a).depth = A.depth + 1 := by first | rfl | simp [inTup, Around.under, Code.weight, Code.isCreation, Code.isGuard, Code.isCaller, Code.frames, Code.isFrame, guardIds]
    rw [e]; omega, by
    have := r.un
    have e : (inTup A a).units ≤ A.units + 2 := by
      show A.in1.units + _ ≤ _
      first | exact Nat.le_refl _ | (simp [Code.cUnits, Code.frames, Code.isFrame])
    omega⟩
theorem inTup_env {P : Program} {w : World} {K : W.Frag} {mg : Str → Option Value} {base : Heap} {A : Around} {outer : List Env} {s : Shared} {H : Hp} {a : Addr} (e : Env0 P w K mg base A outer s H) : Env0 P w K mg base (inTup A a) outer s H :=
  ⟨by first | exact e.frames | (simpa [inTup, Around.under, Code.envs, Code.isFrame, pushEnvs] using e.frames), e.mod, e.bs, e.bsz, e.funs, e.frf, e.hok, e.bare⟩
theorem inTup_guards {A : Around} {a : Addr} (hg : A.guards = some []) : ∃ g, (inTup A a).guards = some g := by
  have e : A.in1.guards = some [] := hg
  exact ⟨_, guards_under_guard (isGuard_tuple_repr _) e⟩
/-- the text of a NUMBER's repr -/
def numText (v : V) (q : Rat) : Str := match v with
  | .int i => (toString i : String)
  | _ => shown q
/-- what the class's own repr promises -/
structure Rep (P : Program) (w : World) (K : W.Frag) (mg : Str → Option Value) (base : Heap) (C : Addr) : Prop where
  of : ∃ f fd, W.findIn K (.ref C) "__repr__" = some (some (.ref f)) ∧ W.isFn K (.ref f) = true ∧ FnOk P w K mg base CX0 1 f fd ["self"] (KA.spText C shown) ∧ Binds K fd ["self"] []
section
variable {X : Cx} {C : Addr} {pins : List (Addr × Obj)} {σ : L2.St} {H : Hp} {s : Shared} {k : Nat}
/-- small enough for a repr -/
def SmN (v : V) (q : Rat) : Prop := match v with
  | .int i => i.natAbs.log2 < 1920
  | _ => KA.Low 3000 q
theorem len_of {i : Int} {n : Nat} (hn : 0 < n) (h : i.natAbs < 2 ^ n) : (Str.ofString (toString i)).length ≤ n + 1 := by
  have l : i.natAbs.log2 < n := by
    by_cases z : i.natAbs = 0
    · rw [z]; exact hn
    · exact (Nat.log2_lt z).mpr h
  have e := int_text_length_le (a := i) (k := n) hn l
  rw [PySem.ofString_length]
  exact e
theorem num_len {v : V} {q : Rat} (h : SmN v q) : (numText v q).length ≤ 6100 := by
  have sh : KA.Low 3000 q → (shown q).length ≤ 6100 := fun h => by
    have l1 := len_of (by decide) h.1
    have l2 := len_of (n := 3000) (i := (q.den : Int)) (by decide) (by rw [Int.natAbs_natCast]; exact h.2)
    have k1 : (Str.ofString "Amount(").length = 7 := by decide
    have k2 : (Str.ofString ", ").length = 2 := by decide
    have k3 : (Str.ofString ")").length = 1 := by decide
    rw [shown, emp]
    simp only [strLen_append, k1, k2, k3]
    omega
  cases v with
  | int i =>
    have := int_text_len_1921 (i := i) h
    show (Str.ofString (toString i)).length ≤ 6100
    omega
  | _ => exact sh h
theorem num_under (R : Rep X.prog X.w X.K X.mg X.base C) {a : Addr} {b : Nat} {v : V} {u : Value} {q : Rat} (hr : Room (k + 3) X.A) (hG : Gd.Bare X.A) (I : Inv X pins σ H s) (nv : Num C H v q) (sm : SmN v q) (rv : RelV v u) (hb : b ≤ 10000) :
    wpAny (model X.prog X.w) (inTup X.A a) (pyReprUnder b u) (fun r s1 => r = numText v q ∧ Inv X pins σ H s1) X.xe s := by
  have hR : Room 1 (inTup X.A a) := inTup_room (hr.mono (by omega))
  rcases nv with ⟨i, rfl, _⟩ | ⟨x, rfl, ix⟩
  · obtain ⟨g, hg⟩ := inTup_guards (a := a) hG
    have rk : ReprK X.prog X.w [] s.heap 1 u (toString i : String) := (Gd.Rp.int (H := H) (as := []) (d := 1) i sm).repr I.hok u rv
    have l := num_len (v := .int i) (q := q) sm
    exact rk b (by have := KA.line_ge; show b + (numText (.int i) q).length ≤ sizeLine; omega) _ g _ s _ hg (fun b h => nomatch h) (by have := hR.units; omega) (fun _ _ e => e) fun h' tk kp => ⟨rfl, I.kept kp⟩
  · obtain rfl : u = Value.ref x := rv
    obtain ⟨f, fd, hs, hf, F, bd⟩ := R.of
    obtain ⟨dx, ex⟩ := id ix
    obtain ⟨od, J, _⟩ := inst_at I ex
    refine own_under (by have := KA.line_ge; omega) hR.units0 I.kIn J hs hf ?_
    have lw : KA.Low 8000 q := ⟨Nat.lt_trans sm.1 (by decide), Nat.lt_trans sm.2 (by decide)⟩
    refine wpAny_mono (run_atO (Q := fun z H' => z = .str (shown q) ∧ H' = H) (us := [.ref x]) (ws := [.ref x]) F bd hR (inTup_env I.env0) pass0 I (.cons rfl .nil) ⟨x, q, rfl, ix, lw, rfl, rfl⟩) (fun v s' ⟨z, H', I', rz, ez, eh⟩ => ?_) fun _ _ z => z
    subst ez eh
    obtain ⟨t, rfl⟩ := (show ∃ t, v = Value.str (shown q) t from rz)
    exact ⟨_, _, rfl, rfl, I'⟩
/-- repr of a pair of NUMBERS -/
def rPair (C : Addr) : List V → Hp → VK → Prop := fun vs H Q => ∃ (a : Addr) (x y : V) (q p : Rat), vs = [.ref a] ∧ H a = some (.tup [x, y]) ∧ Num C H x q ∧ Num C H y p ∧ SmN x q ∧ SmN y p ∧ Q (.str (tupleText [numText x q, numText y p])) H
theorem call_reprPair (R : Rep X.prog X.w X.K X.mg X.base C) (hG : Gd.Bare X.A) (hr : Room (k + 3) X.A) : CallR X (.builtin "repr") (rPair C) := by
  intro pins s σ H vs us Q I r h
  obtain ⟨a, x, y, q, p, rfl, ha, nx, ny, sx, sy, z⟩ := h
  obtain ⟨u, rfl, ru⟩ := r.one
  cases (show u = Value.ref a from ru)
  obtain ⟨_, its, rv, o, h1, h2, n, h3⟩ := (show ObjOk X.prog X.w H s.heap a (.tup [x, y]) from I.hok a _ ha)
  obtain ⟨v1, v2, rfl, r1, r2⟩ := vals2 rv
  have l1 := num_len sx
  have l2 := num_len sy
  refine tup2 (t1 := numText x q) (t2 := numText y p) h1 h2 h3 hG (by have := hr.units; omega) ?_ ?_
  · have e := Gd.tupleText_le [numText x q, numText y p]
    have e2 : piled [numText x q, numText y p] = (numText x q).length + 2 + ((numText y p).length + 2 + 0) := by
      rw [piled_cons, piled_cons]
      rfl
    have := KA.line_ge
    omega
  · refine wpAny_mono (num_under R hr hG I nx sx r1 (by decide)) (fun t s1 ⟨e1, I1⟩ => ⟨e1, ?_⟩) fun _ _ z => z
    refine wpAny_mono (num_under R hr hG I1 ny sy r2 (by omega)) (fun t s2 ⟨e2, I2⟩ => ⟨e2, fun tk => ?_⟩) fun _ _ z => z
    exact ⟨.str (tupleText [numText x q, numText y p]), H, I2.tok _, ⟨_, rfl⟩, z⟩
end
end Am

set_option Elab.async false
set_option linter.all false
set_option maxRecDepth 100000
set_option maxHeartbeats 1000000
/-! Methods and staticmethods called by keywords alone. -/
namespace Oo
open PySem PySem.Spec PyProof.Rows L2
def tMethK (C : Addr) (m : Str) (n : Nat) (sp : Sp) (gV : List V → List V → List V) (E : XK) (ta : TE) (tk : TA) : TE := fun σ H Q => ta σ H fun x H1 => ∃ a dx fs, x = .ref a ∧ H1 a = some (.ins C dx fs) ∧ fs.lookup m = none ∧
  tk σ H1 fun zs H2 => zs.length = n ∧ sp (gV [x] zs) H2 Q E
def tSMethK (C : Addr) (n : Nat) (sp : Sp) (gV : List V → List V → List V) (E : XK) (ta : TE) (tk : TA) : TE := fun σ H Q => ta σ H fun x H1 => x = .ref C ∧ tk σ H1 fun zs H2 => zs.length = n ∧ sp (gV [] zs) H2 Q E
section
variable {X : Cx} {CX : CXT} {C f p : Addr} {k : Nat} {sp : Sp} {E : XK} {fd : FuncData} {ps ks : List Str} {o : Expr} {m : Str} {apos pos : Pos} {kws : List Keyword} {ta : TE} {tk : TA} {pl : Sem Bool} {mc : Value} {g : List Value → List Value → List Value} {gV : List V → List V → List V}
theorem pe_methK (he : PE X o ta) (c : Cls X.K C) (hm : Meth X.K C m f) (F : FnOk X.prog X.w X.K X.mg X.base CX k f fd ps sp) (hr : Room k X.A) (hb : KBn X.K fd ps 1 ks g gV) (hx : Passes CX X E) (hkw : PK X kws tk)
    (hall : (backToKw pos (keywordEach kws X.env)).all (·.1.isSome) = true := by rfl) (hks : (backToKw pos (keywordEach kws X.env)).filterMap (·.1) = ks := by rfl)
    (hpl : ((backTo pos (starEach [] X.env)).any (·.1) || (backToKw pos (keywordEach kws X.env)).any (·.1.isNone)) = false := by rfl)
    (ht : eval (.Call (.Attribute o m apos) [] kws pos) X.env = (do
      let ov ← eval o X.env
      standAt apos.atName
      let (f, first) ← holding [ov] (getMethod ov m pl)
      callWith pos f first (backTo pos (starEach [] X.env)) (backToKw pos (keywordEach kws X.env))) := by rfl) : PE X (.Call (.Attribute o m apos) [] kws pos) (tMethK C m ks.length sp gV E ta tk) := by
  refine ⟨fun pins s σ H Q I h => ?_⟩
  refine PySem.W.methodCall_KW (pl := pl) (thn (he.run pins s σ H _ I h) fun u s1 ⟨x, H1, I1, rx, a, dx, fs, ex, ea, l, q⟩ => ?_) ht
  subst ex
  obtain rfl : u = Value.ref a := rx
  refine getmeth_ok I1 ea c hm l ?_
  refine PySem.W.callWith_KW0 (first := [.ref a]) (h₀ := X.base) I1.ok.mod.kin hm.kp hall ?_ hpl
  refine thn (hkw.run pos pins s1 σ H1 _ I1 q) fun ws s2 ⟨zs, H2, I2, rz, l2, q2⟩ => ⟨I2.kIn, ?_⟩
  rw [hks]
  exact run_fnN (us := [.ref a]) (vs := [.ref a]) F hr hb hx I2 (.cons rfl .nil) rz rfl l2 q2
theorem pe_smethK (he : PE X o ta) (r : ClX.CRead X.K C mc) (c : SMet X.K C mc m p f) (F : FnOk X.prog X.w X.K X.mg X.base CX k f fd ps sp) (hr : Room k X.A) (hb : KBn X.K fd ps 0 ks g gV) (hx : Passes CX X E) (hkw : PK X kws tk)
    (hall : (backToKw pos (keywordEach kws X.env)).all (·.1.isSome) = true := by rfl) (hks : (backToKw pos (keywordEach kws X.env)).filterMap (·.1) = ks := by rfl)
    (hpl : ((backTo pos (starEach [] X.env)).any (·.1) || (backToKw pos (keywordEach kws X.env)).any (·.1.isNone)) = false := by rfl)
    (ht : eval (.Call (.Attribute o m apos) [] kws pos) X.env = (do
      let ov ← eval o X.env
      standAt apos.atName
      let (f, first) ← holding [ov] (getMethod ov m pl)
      callWith pos f first (backTo pos (starEach [] X.env)) (backToKw pos (keywordEach kws X.env))) := by rfl) : PE X (.Call (.Attribute o m apos) [] kws pos) (tSMethK C ks.length sp gV E ta tk) := by
  refine ⟨fun pins s σ H Q I h => ?_⟩
  refine PySem.W.methodCall_KW (pl := pl) (thn (he.run pins s σ H _ I h) fun u s1 ⟨x, H1, I1, rx, ex, q⟩ => ?_) ht
  subst ex
  obtain rfl : u = Value.ref C := rx
  obtain ⟨rest, hp⟩ := c.rc
  obtain ⟨m1, hF⟩ := I1.fr
  refine PySem.W.method_cls I1.kIn r.ga (PySem.W.cls_sm hF I1.ok.mod.kin c.ty r.rd c.at_ hp rfl ?_)
  have I2 : Inv X pins σ H1 { s1 with toks := s1.toks + 1 } := I1.tok _
  refine PySem.W.callWith_KW0 (first := []) (h₀ := X.base) I2.ok.mod.kin c.kp hall ?_ hpl
  refine thn (hkw.run pos pins _ σ H1 _ I2 q) fun ws s2 ⟨zs, H2, I3, rz, l2, q2⟩ => ⟨I3.kIn, ?_⟩
  rw [hks]
  exact run_fnN (us := []) F hr hb hx I3 .nil rz rfl l2 q2
end
end Oo

set_option Elab.async false
set_option linter.all false
set_option maxRecDepth 100000
set_option maxHeartbeats 1000000
set_option exponentiation.threshold 20000
namespace Am
open PySem PySem.Spec PyProof.Rows L2 Oo
/-- '0' * n -/
def rZero : R2 := fun x y H Q => ∃ n : Int, x = .str "0" ∧ y = .int n ∧ -100000 ≤ n ∧ n ≤ 20 ∧ Q (.str ⟨Array.replicate n.toNat 48⟩) H
theorem zeros : ∀ m : Nat, m ≤ 20 → (List.replicate m (Str.ofString "0").cps).foldl (· ++ ·) #[] = Array.replicate m 48 := by decide +kernel
theorem op_zero {X : Cx} : OpR X (binaryOp .Mult) rZero := fun pins s σ H x y v u Q I rx ry h => by
  obtain ⟨n, rfl, rfl, n0, n1, q⟩ := h
  obtain ⟨t, rfl⟩ := (show ∃ t, v = Value.str "0" t from rx)
  obtain ⟨t', rfl⟩ := (show ∃ t', u = Value.int n t' from ry)
  have l1 : (Str.ofString "0").length = 1 := by decide
  have hn : n.toNat ≤ 20 := by omega
  refine PySem.P.mul_str ?_ ?_ ?_ ?_
  · have h1 : ¬ n < -(2 ^ 63 : Int) := by omega
    have h2 : ¬ n ≥ 2 ^ 63 := by omega
    rw [decide_eq_false h1, decide_eq_false h2]
    rfl
  · intro h1 _
    rw [l1]
    have : (1 : Int) ≤ (2 ^ 63 - 1) / n := by
      rw [Int.le_ediv_iff_mul_le (by omega)]
      omega
    omega
  · intro _ _
    rw [l1, Nat.one_mul]
    show decide (n.toNat > sizeLine) = false
    exact decide_eq_false (by have := KA.line_ge; omega)
  · by_cases h1 : n < 1
    · rw [if_pos h1]
      have e : n.toNat = 0 := by omega
      rw [e] at q
      exact ⟨by decide, .str _, H, I.tok _, ⟨_, rfl⟩, q⟩
    · rw [if_neg h1]
      by_cases h2 : (n == 1 || (Str.ofString "0").length == 0) = true
      · rw [if_pos h2]
        have e : n = 1 := by
          rw [l1] at h2
          simpa using h2
        subst e
        exact ⟨.str _, H, I, ⟨_, rfl⟩, q⟩
      · rw [if_neg h2]
        rw [← zeros _ hn] at q
        refine ⟨?_, .str _, H, I.tok _, ⟨_, rfl⟩, q⟩
        rw [zeros _ hn]
        show (Array.replicate n.toNat 48).size ≤ sizeLine
        rw [Array.size_replicate]
        have := KA.line_ge
        omega
theorem zf_app (k : Nat) (x : Str) : (⟨Array.replicate ((k : Int) + 1 - (x.length : Int)).toNat 48⟩ : Str) ++ x = zf x (k + 1) := by
  have e : ((k : Int) + 1 - (x.length : Int)).toNat = k + 1 - x.length := by omega
  rw [e]
  rfl
/-- Amount(bottom = .., top = ..) -/
structure BaseK (P : Program) (w : World) (K : W.Frag) (mg : Str → Option Value) (base : Heap) (C : Addr) : Prop where
  mgA : mg "Amount" = some (.ref C)
  make : ∃ fI fd, Mk K C fI ∧ FnOk P w K mg base CX0 2 fI fd ["self", "top", "bottom"] (spInit C) ∧ KBn K fd ["self", "top", "bottom"] 1 [("bottom" : Str), "top"] (fun us ws => us ++ ws.reverse) (fun us ws => us ++ ws.reverse)
def tMkK (C : Addr) (t : TA) : TE := fun σ H Q => t σ H fun vs H1 => ∃ n d : Int, vs = [.int d, .int n] ∧ d ≠ 0 ∧ n.natAbs < 2 ^ 8999 ∧ d.natAbs < 2 ^ 8999 ∧ New C H1 Q (Rat.divInt n d)
section
variable {X : Cx} {C : Addr} {p pos : Pos} {t : TA} {kws : List Keyword}
theorem pe_mkK (B : BaseK X.prog X.w X.K X.mg X.base C) (hr : Room 3 X.A) (hg : Gl X "Amount") (hkw : PK X kws t) (hall : (backToKw pos (keywordEach kws X.env)).all (·.1.isSome) = true := by rfl) (hks : (backToKw pos (keywordEach kws X.env)).filterMap (·.1) = [("bottom" : Str), "top"] := by rfl)
    (hpl : ((backTo pos (starEach [] X.env)).any (·.1) || (backToKw pos (keywordEach kws X.env)).any (·.1.isNone)) = false := by rfl) : PE X (.Call (.Name "Amount" p) [] kws pos) (tMkK C t) := by
  obtain ⟨fI, fd, M, F, kb⟩ := B.make
  refine ⟨fun pins s σ H Q I h => ?_⟩
  refine wpAny_Call_Name_kw (ld_glob I hg B.mgA ?_ (by decide))
  refine PySem.W.callWith_KW0 (h₀ := X.base) I.ok.mod.kin M.kp hall ?_ hpl
  refine thn (hkw.run pos pins s σ H _ I h) fun ws s2 ⟨zs, H2, I2, rz, n, d, ez, hd, h1, h2, q⟩ => ⟨I2.kIn, ?_⟩
  subst ez
  rw [hks]
  exact run_makeK (n := 0) (us := []) (vs := []) (E := E0) M F hr kb pass0 I2 .nil rz rfl rfl (by simpa using new_made hd rfl h1 h2 q)
end
theorem shown_eq (q : Rat) : shown q = "Amount(" ++ (toString q.num : String) ++ ", " ++ (toString (q.den : Int) : String) ++ (")" : Str) := by
  unfold shown
  rw [emp]
end Am
namespace KA
open PySem PySem.Spec PyProof.Rows L2 Oo Gd Am
section
variable {P : Program} {w : World} {K : W.Frag} {mg : Str → Option Value} {base : Heap} {f C : Addr} {fd : FuncData}
/-! ### floor, shown, written, tens -/
def spFloor (K : W.Frag) : Sp := fun vs H Q _ => ∃ (t : Addr) (n d : Int), vs = [.ref t] ∧ SqT K H t [.int n, .int d] ∧ 0 < d ∧ d.natAbs < 2 ^ 8000 ∧ Q (.int (n / d)) H
def spTxt (K : W.Frag) (g : Rat → Str) : Sp := fun vs H Q _ => ∃ t q, vs = [.ref t] ∧ Pt K H t q ∧ Low 8000 q ∧ Q (.str (g q)) H
def spTens : Sp := fun vs H Q _ => ∃ k : Nat, vs = [.int k] ∧ k ≤ 12 ∧ Q (.int (10 ^ k)) H
/-! ### decimal -/
abbrev nDec : List Str := ["_law_part_here", "_law_size", "_law_count", "_law_digits", "_law_mark", "_law_cut"]
def spDec (K : W.Frag) : Sp := fun vs H Q _ => ∃ (t : Addr) (q : Rat) (k : Nat), vs = [.ref t, .int k] ∧ Pt K H t q ∧ Low 3900 q ∧ k ≤ 12 ∧ ∀ H', Am.Ext H H' → Q (.str (dec q k)) H'
end
end KA

set_option Elab.async false
set_option linter.all false
set_option maxRecDepth 100000
set_option maxHeartbeats 1000000
set_option exponentiation.threshold 20000
namespace KA
open PySem PySem.Spec PyProof.Rows L2 Oo Gd Am
section
variable {P : Program} {w : World} {K : W.Frag} {mg : Str → Option Value} {base : Heap} {f C : Addr} {fd : FuncData}
theorem Kp.ext {p : Addr} {H H' : Hp} (hp : Pot H p) (e : Am.Ext H H') : Kp p H H' := ⟨fun b o _ h => e b o h, by
  obtain ⟨a, b, h, r⟩ := hp
  exact ⟨a, b, e _ _ h, r⟩⟩
theorem Is.kp {p a : Addr} {H H' : Hp} {q : Rat} (k : Kp p H H') (hp : Pot H p) (h : Is C H a q) : Is C H' a q := by
  obtain ⟨dx, e⟩ := h
  obtain ⟨x, y, hl, _⟩ := hp
  exact ⟨dx, k.1 _ _ (fun z => by subst z; rw [hl] at e; cases e) e⟩
theorem Num.kp {p : Addr} {H H' : Hp} {v : V} {q : Rat} (k : Kp p H H') (hp : Pot H p) (h : Num C H v q) : Num C H' v q := h.imp (fun z => z) fun ⟨a, e, i⟩ => ⟨a, e, Is.kp k hp i⟩
theorem scale (q : Rat) {m : Int} (h : m ≠ 0) : Rat.divInt (q.num * m) ((q.den : Int) * m) = q := by
  rw [Rat.divInt_mul_right h, Rat.num_divInt_den]
theorem int_of {q : Rat} (h : (q.den : Int) = 1) : q = (q.num : Rat) := Rat.ext rfl (by
  show q.den = 1
  omega)
def spMade (K : W.Frag) (C : Addr) : Sp := fun vs H Q _ => ∃ p t q b, vs = [.ref p, .ref t, .bl b] ∧ Pot H p ∧ t ≠ p ∧ Pt K H t q ∧ Low 112 q ∧ ∀ v H', Num C H' v q → (b = false → ∃ a, v = .ref a) → Kp p H H' → Q v H'
abbrev nMade : List Str := ["_law_pot_here", "_law_part_here", "_law_is_plain", "_law_by"]
end
end KA

set_option Elab.async false
set_option linter.all false
set_option maxRecDepth 100000
set_option maxHeartbeats 1000000
/-! == and != of Amounts. -/
namespace Am
open PySem PySem.Spec PyProof.Rows L2 Oo
/-- the class's own ==; != is that of object -/
structure EqF (P : Program) (w : World) (K : W.Frag) (mg : Str → Option Value) (base : Heap) (C : Addr) : Prop where
  of : ∃ f fd, W.findIn K (.ref C) "__eq__" = some (some (.ref f)) ∧ W.isFn K (.ref f) = true ∧ FnOk P w K mg base CX0 1 f fd ["self", "other"] (KA.spEq C) ∧ Binds K fd ["self", "other"] [] ∧
    ∃ B bm, CmpFacts B bm ∧ ∀ (h : Heap) (x dx : Addr), K.In h → h.get? x = some (W.instObj C dx) → h.OwnEqNoNe x C f B bm
def rEqO (C : Addr) (g : Bool → Bool) : R2 := fun x y H Q => ∃ a b q p, x = .ref a ∧ y = .ref b ∧ Is C H a q ∧ Is C H b p ∧ Q (.bl (g (decide (q = p)))) H
section
variable {X : Cx} {C : Addr} {k : Nat}
theorem op_eqO (T : EqF X.prog X.w X.K X.mg X.base C) (hr : Room (k + 2) X.A) : OpR X (compareOp .Eq) (rEqO C fun b => b) := fun pins s σ H x y v u Q I rx ry h => by
  obtain ⟨a, b, q, p, rfl, rfl, ia, ib, z⟩ := h
  cases (show v = Value.ref a from rx)
  cases (show u = Value.ref b from ry)
  obtain ⟨f, fd, hs, hf, F, bd, _⟩ := T.of
  obtain ⟨dx, ea⟩ := id ia
  obtain ⟨dy, eb⟩ := id ib
  obtain ⟨od, J, _⟩ := inst_at I ea
  obtain ⟨oe, J2, _⟩ := inst_at I eb
  obtain ⟨m, hF⟩ := I.fr
  refine W.cmp_ofEq (W.cmp_K (op := .Eq) (tb := .ref C) hr.units0 hF I.ok.mod.kin J J2.type ?_ hs hf ?_)
  · unfold W.notFirst
    rw [beq_self_eq_true]
    rfl
  refine wpAny_mono (run_fn (E := E0) (us := [.ref a, .ref b]) (vs := [.ref a, .ref b]) F (hr.mono (by omega)) bd .nil pass0 I (.cons rfl (.cons rfl .nil)) (show KA.spEq C ([V.ref a, V.ref b] ++ []) H Q E0 from ⟨a, b, q, p, rfl, ia, ib, z⟩)) (fun v' s' ⟨z', H', I', rz, qz⟩ => SlX.cmpback rz ⟨z', H', I', rz, qz⟩) fun _ _ z => z
theorem op_neO (T : EqF X.prog X.w X.K X.mg X.base C) (hr : Room (k + 2) X.A) : OpR X (compareOp .NotEq) (rEqO C fun b => !b) := fun pins s σ H x y v u Q I rx ry h => by
  obtain ⟨a, b, q, p, rfl, rfl, ia, ib, z⟩ := h
  cases (show v = Value.ref a from rx)
  cases (show u = Value.ref b from ry)
  obtain ⟨f, fd, hs, hf, F, bd, B, bm, FB, ne⟩ := T.of
  obtain ⟨dx, ea⟩ := id ia
  obtain ⟨dy, eb⟩ := id ib
  obtain ⟨od, J, e1⟩ := inst_at I ea
  obtain ⟨oe, J2, e2⟩ := inst_at I eb
  obtain ⟨hh, gg, d, tt, os⟩ := s
  refine compareOp_ne_ownEq FB (ne hh a dx I.kIn e1) e2 rfl (by have := hr.units; omega) ?_
  refine wpAny_mono (run_atO (Q := fun w' H' => w' = .bl (decide (q = p)) ∧ H' = H) (us := [.ref a, .ref b]) (ws := [.ref a, .ref b]) F bd ((hr.mono (show 2 ≤ k + 2 by omega)).in1) I.env0.in1 pass0 I (.cons rfl (.cons rfl .nil)) ⟨a, b, q, p, rfl, ia, ib, rfl, rfl⟩) (fun v' s' ⟨z', H', I', rz, ez, eh⟩ => ?_) fun _ _ z => z
  subst ez eh
  cases (show v' = Value.bool (decide (q = p)) from rz)
  exact ⟨_, rfl, .bl (!decide (q = p)), _, I', rfl, z⟩
end
end Am

set_option Elab.async false
set_option linter.all false
set_option maxRecDepth 100000
set_option maxHeartbeats 1000000
set_option exponentiation.threshold 20000
namespace KA
open PySem PySem.Spec PyProof.Rows L2 Oo Gd Am
/-! ### sums -/
theorem Low.more {n m : Nat} {q : Rat} (h : Low n q) (l : n ≤ m) : Low m q := ⟨Nat.lt_of_lt_of_le h.1 (Nat.pow_le_pow_right (by decide) l), Nat.lt_of_lt_of_le h.2 (Nat.pow_le_pow_right (by decide) l)⟩
theorem Low.add {n m : Nat} {q p : Rat} (h : Low n q) (h' : Low m p) : Low (n + m + 1) (q + p) := by
  rw [← add_rat]
  obtain ⟨b1, b2⟩ := divInt_le (q.num * (p.den : Int) + p.num * (q.den : Int)) ((q.den : Int) * (p.den : Int)) (den_den q p)
  have t1 : (q.num * (p.den : Int)).natAbs < 2 ^ (n + m) := mul_bits h.1 (KA.low_den h')
  have t2 : (p.num * (q.den : Int)).natAbs < 2 ^ (n + m) := by
    have := mul_bits h'.1 (KA.low_den h)
    rw [Nat.add_comm m n] at this
    exact this
  refine ⟨Nat.lt_of_le_of_lt b1 (add_bits t1 t2), Nat.lt_of_le_of_lt b2 (more_bits (mul_bits (KA.low_den h) (KA.low_den h')) (by omega))⟩
theorem Low.zero (n : Nat) : Low n (0 : Rat) ↔ 1 < 2 ^ n ∨ False := by
  constructor
  · intro h; exact .inl h.2
  · rintro (h | h)
    · exact ⟨by show 0 < _; omega, h⟩
    · exact h.elim
def total (qs : List Rat) : Rat := qs.foldl (· + ·) 0
theorem foldl_add : ∀ (qs : List Rat) (a b : Rat), qs.foldl (· + ·) (a + b) = a + qs.foldl (· + ·) b
  | [], _, _ => rfl
  | q :: r, a, b => by
    show r.foldl (· + ·) (a + b + q) = a + r.foldl (· + ·) (b + q)
    rw [Rat.add_assoc]
    exact foldl_add r a (b + q)
theorem total_cons (q : Rat) (r : List Rat) : total (q :: r) = q + total r := by
  show r.foldl (· + ·) (0 + q) = q + r.foldl (· + ·) 0
  rw [Rat.zero_add]
  have := foldl_add r q 0
  rw [Rat.add_zero] at this
  exact this
theorem total_snoc (r : List Rat) (q : Rat) : total (r ++ [q]) = total r + q := by
  unfold total
  rw [List.foldl_append]
  rfl
theorem total_low : ∀ (qs : List Rat), (∀ q ∈ qs, Low 112 q) → Low (113 * qs.length + 1) (total qs)
  | [], _ => (Low.zero _).mpr (.inl (by decide))
  | q :: r, h => by
    rw [total_cons]
    have a := h q List.mem_cons_self
    have b := total_low r fun x hx => h x (List.mem_cons_of_mem _ hx)
    exact (a.add b).more (by rw [List.length_cons]; omega)
end KA

set_option Elab.async false
set_option linter.all false
set_option maxRecDepth 100000
set_option maxHeartbeats 1000000
set_option exponentiation.threshold 20000
namespace KA
open PySem PySem.Spec PyProof.Rows L2 Oo Gd Am
section
variable {P : Program} {w : World} {K : W.Frag} {mg : Str → Option Value} {base : Heap} {f C : Addr} {fd : FuncData}
/-- the in-place sum, with its promise -/
structure OpI (P : Program) (w : World) (K : W.Frag) (mg : Str → Option Value) (base : Heap) (C : Addr) (nm : String) (k : Nat) (h : Rat → Rat → Rat) : Prop where
  of : ∃ f g fd gd ps qs, OwnBin K C nm f (some g) ∧ NoIn K C nm ∧ FnOk P w K mg base CX0 k f fd ps (spOp C h) ∧ Binds K fd ps [] ∧ FnOk P w K mg base CX0 k g gd qs (spOp C fun q p => h p q) ∧ Binds K gd qs []
theorem op_NN {X : Cx} {op : Operator} {k : Nat} {h : Rat → Rat → Rat} (h5 : Five op) (O : OpI X.prog X.w X.K X.mg X.base C op.info.2 k h) (hr : Room k X.A) : OpR X (binaryOp op) (rN C h) := by
  obtain ⟨f, g, fd, gd, ps, qs, B, N, F, b, G, b2⟩ := O.of
  exact op_N h5 B F b G b2 hr
theorem ip_NN {X : Cx} {op : Operator} {k : Nat} {h : Rat → Rat → Rat} (h5 : Five op) (O : OpI X.prog X.w X.K X.mg X.base C op.info.2 k h) (hr : Room k X.A) : PIp X op (rN C h) := by
  obtain ⟨f, g, fd, gd, ps, qs, B, N, F, b, G, b2⟩ := O.of
  exact fun pins s σ H x y v u Q I rx ry hh => iop_N h5 B N F b G b2 hr pins s σ H x y v u Q I rx ry hh
/-- repr of a NUMBER -/
def rReprN (C : Addr) : List V → Hp → VK → Prop := fun vs H Q => ∃ v q, vs = [v] ∧ Num C H v q ∧ SmN v q ∧ Q (.str (numText v q)) H
theorem call_reprN {X : Cx} {k : Nat} (R : Rep X.prog X.w X.K X.mg X.base C) (hG : Bare X.A) (hr : Room (k + 3) X.A) : CallR X (.builtin "repr") (rReprN C) := fun pins s σ H vs us Q I r h => by
  obtain ⟨v, q, rfl, nv, sm, z⟩ := h
  rcases id nv with ⟨i, rfl, _⟩ | ⟨a, rfl, ia⟩
  · refine call_repr hG hr pins s σ H _ us Q I r ⟨_, [], 1, _, rfl, Gd.Rp.int i sm, by decide, ?_, z⟩
    have := num_len (v := .int i) (q := q) sm
    have := KA.line_ge
    show (numText (.int i) q).length ≤ sizeLine
    omega
  · obtain ⟨f, fd, hs, hf, F, bd⟩ := R.of
    obtain ⟨dx, ea⟩ := id ia
    have lw : Low 8000 q := ⟨Nat.lt_trans sm.1 (by decide), Nat.lt_trans sm.2 (by decide)⟩
    exact call_reprO (E := E0) hs hf F bd (hr.mono (by omega)) pass0 pins s σ H _ us Q I r ⟨a, dx, _, rfl, ea, a, q, rfl, ia, lw, ⟨_, rfl⟩, z⟩
/-! ### lists of values, lists of fractions -/
inductive A2 (R : V → Rat → Prop) : List V → List Rat → Prop
  | nil : A2 R [] []
  | cons {x : V} {q : Rat} {xs : List V} {qs : List Rat} : R x q → A2 R xs qs → A2 R (x :: xs) (q :: qs)
theorem A2.imp {R S : V → Rat → Prop} (f : ∀ x q, R x q → S x q) : ∀ {xs : List V} {qs : List Rat}, A2 R xs qs → A2 S xs qs
  | _, _, .nil => .nil
  | _, _, .cons h t => .cons (f _ _ h) (t.imp f)
theorem A2.len {R : V → Rat → Prop} : ∀ {xs : List V} {qs : List Rat}, A2 R xs qs → xs.length = qs.length
  | _, _, .nil => rfl
  | _, _, .cons _ t => by rw [List.length_cons, List.length_cons, t.len]
theorem A2.app {R : V → Rat → Prop} {ys : List V} {rs : List Rat} (b : A2 R ys rs) : ∀ {xs : List V} {qs : List Rat}, A2 R xs qs → A2 R (xs ++ ys) (qs ++ rs)
  | _, _, .nil => b
  | _, _, .cons h t => .cons h (A2.app b t)
theorem A2.snoc {R : V → Rat → Prop} {xs : List V} {qs : List Rat} {x : V} {q : Rat} (a : A2 R xs qs) (h : R x q) : A2 R (xs ++ [x]) (qs ++ [q]) := A2.app (.cons h .nil) a
theorem A2.rev {R : V → Rat → Prop} : ∀ {xs : List V} {qs : List Rat}, A2 R xs qs → A2 R xs.reverse qs.reverse
  | _, _, .nil => .nil
  | _, _, .cons h t => by
    rw [List.reverse_cons, List.reverse_cons]
    exact A2.snoc t.rev h
theorem A2.get {R : V → Rat → Prop} : ∀ {xs : List V} {qs : List Rat} {i : Nat} {x : V}, A2 R xs qs → xs[i]? = some x → ∃ q, qs[i]? = some q ∧ R x q
  | _, _, i, x, .nil, h => by simp at h
  | _, _, 0, x, .cons h t, e => by
    cases (show some _ = some x from e)
    exact ⟨_, rfl, h⟩
  | _, _, i + 1, x, .cons h t, e => A2.get (i := i) t e
theorem take_get {qs : List Rat} {i : Nat} {q : Rat} (h : qs[i]? = some q) : qs.take (i + 1) = qs.take i ++ [q] := by
  rw [List.take_add_one, h]
  rfl
theorem A2.all {R : V → Rat → Prop} {p : Rat → Prop} (f : ∀ x q, R x q → p q) : ∀ {xs : List V} {qs : List Rat}, A2 R xs qs → ∀ q ∈ qs, p q
  | _, _, .nil, q, h => nomatch h
  | _, _, .cons h t, q, m => by
    rcases List.mem_cons.mp m with rfl | m
    · exact f _ _ h
    · exact A2.all f t q m
theorem total_rev : ∀ (qs : List Rat), total qs.reverse = total qs
  | [] => rfl
  | q :: r => by rw [List.reverse_cons, total_snoc, total_rev r, total_cons, Rat.add_comm]
/-- all but lists stand -/
def Ns (H H' : Hp) : Prop := ∀ b o, (∀ l, o ≠ .lst l) → H b = some o → H' b = some o
theorem Ns.refl (H : Hp) : Ns H H := fun _ _ _ h => h
theorem Ns.trans {H H1 H2 : Hp} (a : Ns H H1) (b : Ns H1 H2) : Ns H H2 := fun c o n h => b c o n (a c o n h)
theorem Kp.ns {p : Addr} {H H' : Hp} (k : Kp p H H') (hp : Pot H p) : Ns H H' := fun b o n h => k.1 b o (fun e => by
  subst e
  obtain ⟨x, y, hl, _⟩ := hp
  rw [hl] at h
  exact n _ (Option.some.inj h).symm) h
theorem Ns.ext {H H' : Hp} (e : Am.Ext H H') : Ns H H' := fun b o _ h => e b o h
theorem Ns.put {H : Hp} {D : Addr} {l : List V} {o : HO} (h : H D = some (.lst l)) : Ns H (upd H D o) := fun b u n e => by
  rw [upd_ne (fun z => by
    subst z
    rw [h] at e
    exact n _ (Option.some.inj e).symm)]
  exact e
def PtR (p : Addr) (H : Hp) (x : V) (q : Rat) : Prop := ∃ t, x = .ref t ∧ t ≠ p ∧ H t = some (.tup [.int q.num, .int q.den]) ∧ Low 112 q
theorem PtR.ns {p : Addr} {H H' : Hp} {x : V} {q : Rat} (h : PtR p H x q) (n : Ns H H') : PtR p H' x q := let ⟨t, e, np, ht, l⟩ := h; ⟨t, e, np, n _ _ (fun _ => HO.noConfusion) ht, l⟩
def NmR (C : Addr) (H : Hp) (x : V) (q : Rat) : Prop := Num C H x q ∧ Low 112 q
theorem Is.ns {H H' : Hp} {a : Addr} {q : Rat} (h : Is C H a q) (n : Ns H H') : Is C H' a q := let ⟨dx, z⟩ := h; ⟨dx, n _ _ (fun _ => HO.noConfusion) z⟩
theorem NmR.ns {H H' : Hp} {x : V} {q : Rat} (h : NmR C H x q) (n : Ns H H') : NmR C H' x q := ⟨h.1.imp (fun z => z) fun ⟨a, e, i⟩ => ⟨a, e, Is.ns i n⟩, h.2⟩
theorem eqd_same {K : W.Frag} {H : Hp} {a b : Addr} {xs : List V} {ds : List PyData} {Q : VK} (ha : SqL K H a xs) (hb : SqL K H b xs) (d : DpAll K H xs ds) (hs : SeqAt.shaped (.list ds) = true) (q : Q (.bl true) H) : rEqD K (.ref a) (.ref b) H Q :=
  ⟨.list ds, .list ds, .lst ha d, .lst hb d, hs, hs, by rw [SeqAt.eqv_refl _ (SeqAt.canLay_of_shaped hs)]; exact q⟩
theorem tl20 {qs : List Rat} (h : ∀ q ∈ qs, Low 112 q) (l : qs.length ≤ 20) : Low 2261 (total qs) := (total_low qs h).more (by omega)
theorem tl_take {qs : List Rat} (h : ∀ q ∈ qs, Low 112 q) (l : qs.length ≤ 20) (i : Nat) : Low 2261 (total (qs.take i)) := tl20 (fun q m => h q (List.mem_of_mem_take m)) (Nat.le_trans (by rw [List.length_take]; exact Nat.min_le_right _ _) l)
/-! ### texts that can be laid -/
theorem sok_of (s : String) : PyData.strOk (Str.ofString s) = true := by
  unfold PyData.strOk
  rw [Str.ofString_eq_toList, Array.all_eq_true_iff_forall_mem]
  intro c hc
  obtain ⟨x, _, rfl⟩ := List.mem_map.mp (List.mem_toArray.mp hc)
  refine decide_eq_true ?_
  have h := x.valid
  show x.val.toNat < 0x110000
  rcases h with h | ⟨_, h⟩
  · have : x.val.toNat < 0xd800 := h
    omega
  · exact h
theorem sok_app {a b : Str} (h : PyData.strOk a = true) (h' : PyData.strOk b = true) : PyData.strOk (a ++ b) = true := by
  unfold PyData.strOk at *
  rw [show (a ++ b).cps = a.cps ++ b.cps from rfl, Array.all_append, h, h']
  rfl
theorem sok_emp : PyData.strOk Str.empty = true := by
  unfold PyData.strOk Str.empty
  rw [Array.all_eq_true_iff_forall_mem]
  intro c hc
  exact absurd hc (Array.not_mem_empty c)
theorem sok_shown (q : Rat) : PyData.strOk (Am.shown q) = true := sok_app (sok_app (sok_app (sok_app (sok_app sok_emp (sok_of _)) (sok_of _)) (sok_of _)) (sok_of _)) (sok_of _)
theorem shaped_strs {xs : List Str} (h : ∀ x ∈ xs, PyData.strOk x = true) : SeqAt.shaped (.list (xs.map .str)) = true := by
  have c : ∀ xs : List Str, (∀ x ∈ xs, PyData.strOk x = true) → PyData.canLayAll0 (xs.map .str) = true := by
    intro xs
    induction xs with
    | nil => intro _; simp only [List.map_nil, PyData.canLayAll0]
    | cons x r ih => intro h; simp only [List.map_cons, PyData.canLayAll0, PyData.canLay0, h x List.mem_cons_self, ih fun y m => h y (List.mem_cons_of_mem _ m), Bool.and_self]
  have d : ∀ xs : List Str, PyData.depthAll (xs.map .str) = 0 := by
    intro xs
    induction xs with
    | nil => simp only [List.map_nil, PyData.depthAll]
    | cons x r ih => simp only [List.map_cons, PyData.depthAll, PyData.depth, ih, Nat.max_self]
  unfold SeqAt.shaped
  simp only [PyData.canLay0, PyData.depth, c xs h, d xs, Bool.true_and]
  decide
theorem dp_strs {K : W.Frag} {H : Hp} : ∀ xs : List Str, DpAll K H (xs.map V.str) (xs.map PyData.str)
  | [] => .nil
  | x :: r => .cons (.str x) (dp_strs r)
abbrev nRow : List Str := ["_law_pot_here", "_law_parts", "_law_made_here", "_law_there", "_law_back", "_law_each", "_law_due", "_law_part_here", "_law_turn"]
abbrev DnS (P : Program) (w : World) (K : W.Frag) (mg : Str → Option Value) (base : Heap) : Prop := Dn P w K mg base CX0 2 "_law_sum" ["_law_left", "_law_right_here"] (spPair K fun q p => q + p)
def spTrue1 : Sp := fun vs H Q _ => ∃ p : Addr, vs = [.ref p] ∧ Pot H p ∧ ∀ H', Kp p H H' → Q (.bl true) H'
end
end KA

set_option Elab.async false
set_option linter.all false
set_option maxRecDepth 100000
set_option maxHeartbeats 4000000
/-! repr of data, told by the units alone (in a suite of except, an error is handled). -/
namespace Gd
open PySem PySem.Spec PyProof.Rows L2
theorem call_reprU {X : Cx} (hG : Bare X.A) (hu : X.A.units + 64 < cLine) : CallR X (.builtin "repr") rRepr := by
  intro pins s σ H vs us Q I r want
  obtain ⟨x, as, d, t, rfl, rp, hd, hz, q⟩ := want
  obtain ⟨u, rfl, ru⟩ := vals1 r

  have fin : ∀ h' u2 tk, (∀ b o, s.heap.get? b = some o → h'.get? b = some o) → EP X pins σ Q (.str t u2) { s with heap := h', toks := tk } := fun h' u2 tk k => ⟨.str t, H, I.kept k, ⟨u2, rfl⟩, q⟩
  cases rp with
  | non =>
    cases ru
    exact PySem.P.repr_of_none (fin s.heap _ _ fun _ _ e => e)
  | bl b =>
    cases ru
    exact PySem.P.repr_of_bool (fin s.heap _ _ fun _ _ e => e)
  | int i z =>
    obtain ⟨tk, rfl⟩ := ru
    exact PySem.P.repr_of_int z (fin s.heap _ _ fun _ _ e => e)
  | str y z =>
    obtain ⟨tk, rfl⟩ := ru
    exact PySem.P.repr_of_str (fin s.heap _ _ fun _ _ e => e) z
  | @lst _ as0 d a xs ts ha na sub nl it =>
    obtain rfl : u = Value.ref a := ru
    obtain ⟨_, its, n, rv, ho⟩ := (show ObjOk X.prog X.w H s.heap a (.lst xs) from I.hok a _ ha)
    have nits := rv.length
    refine repr_slot ⟨_, ho, rfl⟩ F.slot_list_repr.toG (by omega) ?_
    cases its with
    | nil =>
      have e1 : ts = [] := List.length_eq_zero_iff.mp (by rw [nl]; simpa using nits)
      subst e1
      exact PySem.call_list_repr_empty ⟨_, ho, rfl⟩ ho rfl ⟨⟨_, _, rfl⟩, fin s.heap _ _ fun _ _ e => e⟩
    | cons y l =>
      refine PySem.call_list_reprK (g := []) (as := as0) (d := d) (h₀ := s.heap) ho rfl rfl na (by rw [nl, nits]; simp) (fun i z hz => ?_) hG (fun b _ => Clear.nil b) (by show X.A.units + 1 + (d + 1) < cLine; omega) (fun _ _ e => e)
        (fun h' u2 tk k => ⟨⟨_, _, rfl⟩, fin h' u2 tk k⟩) hz
      have hz' : (y :: l)[i]? = some z := by simpa using hz
      have hi : i < xs.length := by
        rw [nits]
        exact (List.getElem?_eq_some_iff.mp hz').1
      obtain ⟨u2, hu2, r2⟩ := rv.get (List.getElem?_eq_getElem hi)
      rw [hz'] at hu2
      cases hu2
      exact ⟨ts[i]'(by omega), List.getElem?_eq_getElem _, (it i _ _ (List.getElem?_eq_getElem hi) (List.getElem?_eq_getElem _)).repr I.hok z r2⟩
  | @tup _ as0 d a xs ts ha na sub nl it =>
    obtain rfl : u = Value.ref a := ru
    have rk := (Rp.tup ha na sub nl it).repr I.hok (.ref a) rfl
    obtain ⟨_, its, rv, o, ho, hc, n, hdt⟩ := (show ObjOk X.prog X.w H s.heap a (.tup xs) from I.hok a _ ha)
    refine repr_slot ⟨_, ho, hc⟩ F.slot_tuple_repr (by omega) ?_
    refine PySem.call_tuple_reprK (g := []) (as := as0) (d := d) (h₀ := s.heap) ho hc hdt na ?_ hG (fun b _ => Clear.nil b) (by show X.A.units + 1 + (d + 1) < cLine; omega) (fun _ _ e => e)
        (fun h' u2 tk k => ⟨⟨_, _, rfl⟩, fin h' u2 tk k⟩) hz
    have all : ∀ (xs : List V) (its : List Value) (ts : List Str), Vals xs its → ts.length = xs.length → (∀ (i : Nat) (x : V) (t : Str), xs[i]? = some x → ts[i]? = some t → ∀ u, RelV x u → ReprK X.prog X.w as0 s.heap d u t) → ReprAllK X.prog X.w as0 s.heap d its ts := by
      intro xs its ts rv
      induction rv generalizing ts with
      | nil =>
        intro e _
        have e1 : ts = [] := List.length_eq_zero_iff.mp (by simpa using e)
        subst e1
        exact .nil
      | cons r1 _ ihh =>
        intro e k
        cases ts with
        | nil => simp at e
        | cons t ts =>
          exact .cons (k 0 _ _ rfl rfl _ r1) (ihh ts (by simpa using e) fun i x t h1 h2 => k (i + 1) x t (by simpa using h1) (by simpa using h2))
    simpa using all xs its ts rv nl fun i x t h1 h2 => (it i x t h1 h2).repr I.hok
  | @dic _ as0 d a kvs ps ha na sub nl ke it =>
    obtain rfl : u = Value.ref a := ru
    obtain ⟨_, hsys, vs, kv, o, es, ep, ho, hx, hdt, _, pr, _⟩ := (show ObjOk X.prog X.w H s.heap a (.dK kvs) from I.hok a _ ha)
    refine repr_slot ⟨_, ho, hx.1⟩ F.slot_dict_repr (by omega) ?_
    refine PySem.call_dict_reprK (g := []) (as := as0) (d := d) (h₀ := s.heap) ho hx.1 hdt hsys na ?_ hG (fun b _ => Clear.nil b) (by show X.A.units + 1 + (d + 1) < cLine; omega) (fun _ _ e => e)
        (fun h' u2 tk k => ⟨⟨_, _, rfl⟩, fin h' u2 tk k⟩) hz
    obtain ⟨n1, n2⟩ := kv_pairs kv pr
    have all : ∀ (l : List DictEntry) (qs : List (Str × Str)), qs.length = l.length → (∀ (i : Nat) (e : DictEntry) (p : Str × Str), l[i]? = some e → qs[i]? = some p → ReprK X.prog X.w as0 s.heap d e.key p.1 ∧ ReprK X.prog X.w as0 s.heap d e.val p.2) →
        ReprEntriesK X.prog X.w as0 s.heap d l (qs.map fun p => p.1 ++ ": " ++ p.2) := by
      intro l
      induction l with
      | nil =>
        intro qs e _
        have e1 : qs = [] := List.length_eq_zero_iff.mp (by simpa using e)
        subst e1
        exact .nil
      | cons e l ihh =>
        intro qs n k
        cases qs with
        | nil => simp at n
        | cons q qs =>
          obtain ⟨k1, k2⟩ := k 0 e q rfl rfl
          exact .cons k1 k2 (ihh qs (by simpa using n) fun i e p h1 h2 => k (i + 1) e p (by simpa using h1) (by simpa using h2))
    refine all es.toList ps (by rw [nl, n1]) fun i e p h1 h2 => ?_
    obtain ⟨q, hq, hk, hv⟩ := n2 i e h1
    exact ⟨keyT_repr (ke i q p hq h2) hk, (it i q p hq h2).repr I.hok _ hv⟩
end Gd

set_option Elab.async false
set_option linter.all false
set_option maxRecDepth 100000
set_option maxHeartbeats 1000000
set_option exponentiation.threshold 20000
namespace KA
open PySem PySem.Spec PyProof.Rows L2 Oo Gd Am
/-- what the text says of the class of DividedByZero, once more -/
structure Zq (K : W.Frag) (mg : Str → Option Value) (Z ZA : Addr) : Prop where
  mgZ : mg "DividedByZero" = some (.ref Z)
  mgA : mg "AmountError" = some (.ref ZA)
  xf : XfC K Z
  no : W.findIn K (.ref Z) "rule" = some none
  ea : Ge.EA K Z
  exm : W.exmOne K (.ref Z) (.ref Z) = some true
  kA : W.kitOne K (.ref Z) (.ref ZA) = some true
  kR : W.kitOne K (.ref Z) (.type "ArithmeticError") = some true
  kV : W.kitOne K (.ref Z) (.type "ValueError") = some false
abbrev nRef : List Str := ["_law_call", "_law_told", "e"]
theorem heldK {X : Cx} {K : W.Frag} {a : Addr} {oe : Obj} {cls : Value} {d : Option Addr} (_ : IsK K) (hp : (a, oe) ∈ X.pn) (z : Zc cls d oe) (hf : ∃ vs, oe.data = .fields vs) (h : X.K = K := by rfl) : CallR X (.builtin "isinstance") (Gx.rHeld K a cls d) := h ▸ Gx.call_held hp z hf
/-- the text of the refusal -/
def toldZ : Str := tupleText ["None", "True", "True", "False"]
/-- told: the error of the class at Z, which tells None -/
def TTref (Z : Addr) : (XK → Hp → VK → Prop) → Hp → VK → Prop := fun tl H Q =>
  ∀ Q', tl (fun cls d H' => cls = .ref Z ∧ ∃ dx, d = some dx ∧ H' dx = some (.xd [("rule", .non)]) ∧ ∀ H2, Am.Ext H' H2 → Q (.str toldZ) H2) H Q'
/-- the state of the frame has its length -/
theorem takes_len {X : Cx} {W : WX} (tk : Takes X W) : Takes X fun cls d σ H => σ.length = X.N.length → W cls d σ H := fun e s' x => by
  obtain ⟨a, B, sI, pins, σ, H, cls, d, he, J, nb, up, sky, na, os, ag, w⟩ := x
  exact tk e s' ⟨a, B, sI, pins, σ, H, cls, d, he, J, nb, up, sky, na, os, ag, w J.len⟩
end KA

set_option Elab.async false
set_option linter.all false
set_option maxRecDepth 100000
set_option maxHeartbeats 1000000
set_option exponentiation.threshold 20000
/-! a fraction rounded to no places is its floor's text. -/
namespace KA
open PySem PySem.Spec PyProof.Rows L2 Oo Gd Am
theorem nat_text_pos (n : Nat) : 1 ≤ (Str.ofString (toString ((n : Nat) : Int))).length := by
  rw [PySem.ofString_length]
  show 1 ≤ (Nat.repr n).length
  rw [Nat.repr, String.length_ofList]
  exact Nat.length_toDigits_pos
theorem zf_one {x : Str} (h : 1 ≤ x.length) : zf x 1 = x := by
  unfold zf
  rw [show 1 - x.length = 0 by omega]
  simp
theorem of_app (a b : String) : Str.ofString (a ++ b) = Str.ofString a ++ Str.ofString b := by
  rw [Str.ofString_eq_toList, Str.ofString_eq_toList, Str.ofString_eq_toList]
  show _ = Str.mk (_ ++ _)
  simp
theorem dec0 (q : Rat) : dec q 0 = Str.ofString (toString (q.num / (q.den : Int))) := by
  unfold dec
  rw [if_pos rfl]
  have e : steps q 0 = q.num / (q.den : Int) := by
    unfold steps
    rw [Int.pow_zero, Int.mul_one]
  rw [e]
  generalize q.num / (q.den : Int) = n
  unfold mark digs
  by_cases h : n < 0
  · rw [if_pos h, if_pos h]
    obtain ⟨m, rfl⟩ : ∃ m : Nat, n = Int.negSucc m := by
      cases n with
      | ofNat m => exact absurd h (Int.not_lt.mpr (Int.natCast_nonneg m))
      | negSucc m => exact ⟨m, rfl⟩
    rw [show -(Int.negSucc m) = ((m + 1 : Nat) : Int) from rfl, zf_one (nat_text_pos (m + 1))]
    rw [← of_app]
    rfl
  · rw [if_neg h, if_neg h]
    obtain ⟨m, rfl⟩ : ∃ m : Nat, n = (m : Int) := ⟨n.toNat, by omega⟩
    rw [zf_one (nat_text_pos m)]
    have e0 : Str.ofString "" = Str.empty := by decide
    rw [e0]
    exact emp _
theorem sign_eq (n : Int) : ((if decide (0 < n) = true then (1 : Int) else 0) - (if decide (n < 0) = true then 1 else 0)) = n.sign := by
  rcases Int.lt_trichotomy n 0 with h | h | h
  · rw [Int.sign_eq_neg_one_of_neg h, if_neg (by simp; omega), if_pos (by simpa using h)]
    rfl
  · subst h
    rfl
  · rw [Int.sign_eq_one_of_pos h, if_pos (by simpa using h), if_neg (by simp; omega)]
    rfl
theorem no_rnd (q : Rat) : (flds q).lookup ("rounded" : Str) = none := by
  show List.lookup ("rounded" : Str) [("_top", V.int q.num), ("_bottom", V.int q.den)] = _
  have n1 : ("rounded" : Str) ≠ "_top" := by decide +kernel
  have n2 : ("rounded" : Str) ≠ "_bottom" := by decide +kernel
  rw [List.lookup_cons, beq_eq_false_iff_ne.mpr n1, List.lookup_cons, beq_eq_false_iff_ne.mpr n2]
  rfl
end KA

set_option Elab.async false
set_option linter.all false
set_option maxRecDepth 100000
set_option maxHeartbeats 1000000
set_option exponentiation.threshold 20000
namespace KA
open PySem PySem.Spec PyProof.Rows L2 Oo Gd Am
/-- a special method of one operand, with its promise -/
structure Una (P : Program) (w : World) (K : W.Frag) (mg : Str → Option Value) (base : Heap) (C : Addr) (nm : Str) (k : Nat) (sp : Sp) : Prop where
  of : ∃ f fd, W.findIn K (.ref C) nm = some (some (.ref f)) ∧ W.isFn K (.ref f) = true ∧ FnOk P w K mg base CX0 k f fd ["self"] sp ∧ Binds K fd ["self"] []
structure Pow (P : Program) (w : World) (K : W.Frag) (mg : Str → Option Value) (base : Heap) (C : Addr) : Prop where
  of : ∃ f g fd ps, OwnBin K C (Operator.Pow).info.2 f g ∧ FnOk P w K mg base CX0 6 f fd ps (spPow C) ∧ Binds K fd ps []
structure Rnd (P : Program) (w : World) (K : W.Frag) (mg : Str → Option Value) (base : Heap) (C : Addr) : Prop where
  of : ∃ f fd, Meth K C "rounded" f ∧ FnOk P w K mg base CX0 3 f fd ["self", "places"] (spRound C) ∧ Binds K fd ["self", "places"] [] ∧ KBn K fd ["self", "places"] 1 [("places" : Str)] (fun us ws => us ++ ws) (fun us ws => us ++ ws)
structure OfK (P : Program) (w : World) (K : W.Frag) (mg : Str → Option Value) (base : Heap) (C : Addr) : Prop where
  of : ∃ mc p g fd, ClX.CRead K C mc ∧ SMet K C mc "of" p g ∧ FnOk P w K mg base CX0 4 g fd ["number"] (spOf C) ∧ KBn K fd ["number"] 0 [("number" : Str)] (fun us ws => us ++ ws) (fun us ws => us ++ ws)
section
variable {X : Cx} {C : Addr} {k : Nat}
def rP (C : Addr) : R2 := fun x y H Q => ∃ a q i, x = .ref a ∧ y = .int i ∧ Is C H a q ∧ Low 330 q ∧ 0 ≤ i ∧ i ≤ 12 ∧ New C H Q (q ^ i.toNat)
theorem op_P (D : Pow X.prog X.w X.K X.mg X.base C) (hr : Room 6 X.A) : OpR X (binaryOp .Pow) (rP C) := fun pins s σ H x y v u Q I rx ry hh => by
  obtain ⟨f, g, fd, ps, B, F, b⟩ := D.of
  obtain ⟨a, q, i, rfl, rfl, ia, lw, h0, h12, z⟩ := hh
  obtain ⟨dx, ea⟩ := id ia
  exact op_left (E := E0) B F b pass0 hr pins s σ H _ _ v u Q I rx ry (.inr (.inl ⟨a, dx, _, i, rfl, rfl, ea, a, q, i, rfl, ia, lw, h0, h12, z⟩))
def rAbs (C : Addr) : List V → Hp → VK → Prop := fun xs H Q => ∃ a q, xs = [V.ref a] ∧ Is C H a q ∧ Sz q ∧ New C H Q (aq q)
theorem call_absN (U : Una X.prog X.w X.K X.mg X.base C "__abs__" 4 (spUn C aq)) (hr : Room 5 X.A) : CallR X (.builtin "abs") (rAbs C) := fun pins s σ H xs us Q I r h => by
  obtain ⟨f, fd, hs, hf, F, b⟩ := U.of
  obtain ⟨a, q, rfl, ia, sz, z⟩ := h
  obtain ⟨dx, ea⟩ := id ia
  exact call_absO (E := E0) hs hf F b hr pass0 pins s σ H _ us Q I r ⟨a, dx, _, rfl, ea, a, q, rfl, ia, sz, fun r' H' e n i => ⟨trivial, z r' H' e n i⟩⟩
def rBool (C : Addr) : List V → Hp → VK → Prop := fun xs H Q => ∃ a q, xs = [V.ref a] ∧ Is C H a q ∧ Q (.bl (decide (q.num ≠ 0))) H
theorem call_boolN (U : Una X.prog X.w X.K X.mg X.base C "__bool__" 1 (spBool C)) (hr : Room 3 X.A) : CallR X (.type "bool") (rBool C) := fun pins s σ H xs us Q I r h => by
  obtain ⟨f, fd, hs, hf, F, b⟩ := U.of
  obtain ⟨a, q, rfl, ia, z⟩ := h
  obtain ⟨dx, ea⟩ := id ia
  exact call_boolO (E := E0) hs hf F b hr pass0 pins s σ H _ us Q I r ⟨a, dx, _, rfl, ea, a, q, rfl, ia, ⟨_, rfl⟩, z⟩
def rStrN (C : Addr) : List V → Hp → VK → Prop := fun xs H Q => ∃ a q, xs = [V.ref a] ∧ Is C H a q ∧ Low 8000 q ∧ Q (.str (written q)) H
theorem call_strN (U : Una X.prog X.w X.K X.mg X.base C "__str__" 1 (spText C written)) (hr : Room 3 X.A) : CallR X (.type "str") (rStrN C) := fun pins s σ H xs us Q I r h => by
  obtain ⟨f, fd, hs, hf, F, b⟩ := U.of
  obtain ⟨a, q, rfl, ia, lw, z⟩ := h
  obtain ⟨dx, ea⟩ := id ia
  exact call_strO (E := E0) hs hf F b hr pass0 pins s σ H _ us Q I r ⟨a, dx, _, rfl, ea, a, q, rfl, ia, lw, ⟨_, rfl⟩, z⟩
end
/-! ### repr of a list of short data -/
inductive RpAll (H : Hp) : List V → List Str → Prop
  | nil : RpAll H [] []
  | cons {x : V} {t : Str} {xs : List V} {ts : List Str} : Rp H [] 0 x t → t.length ≤ 3000 → RpAll H xs ts → RpAll H (x :: xs) (t :: ts)
theorem RpAll.len {H : Hp} : ∀ {xs : List V} {ts : List Str}, RpAll H xs ts → ts.length = xs.length
  | _, _, .nil => rfl
  | _, _, .cons _ _ r => by rw [List.length_cons, List.length_cons, r.len]
theorem RpAll.it {H : Hp} : ∀ {xs : List V} {ts : List Str}, RpAll H xs ts → ∀ (i : Nat) (x : V) (t : Str), xs[i]? = some x → ts[i]? = some t → Rp H [] 0 x t
  | _, _, .nil, i, x, t, h, _ => by simp at h
  | _, _, .cons a _ r, 0, x, t, h1, h2 => by
    cases (show some _ = some x from h1)
    cases (show some _ = some t from h2)
    exact a
  | _, _, .cons a _ r, i + 1, x, t, h1, h2 => RpAll.it r i x t h1 h2
theorem RpAll.piled {H : Hp} : ∀ {xs : List V} {ts : List Str}, RpAll H xs ts → piled ts ≤ 3002 * ts.length
  | _, _, .nil => Nat.zero_le _
  | _, _, .cons _ h r => by
    have := r.piled
    rw [piled_cons, List.length_cons]
    omega
theorem rp_list {H : Hp} {a : Addr} {xs : List V} {ts : List Str} {Q : VK} (h : H a = some (.lst xs)) (r : RpAll H xs ts) (hn : xs.length ≤ 30) (z : Q (.str (listText ts)) H) : rRepr [.ref a] H Q :=
  ⟨.ref a, [a], 1, _, rfl, .lst (as0 := []) h (by simp) (fun b hb => hb) r.len r.it, by decide, by
    have h1 := listText_le ts
    have h2 := r.piled
    have h3 := r.len
    have h4 : (1000000 : Nat) ≤ sizeLine := by decide
    omega, z⟩
theorem rpL {H : Hp} {a : Addr} {xs : List V} {ts : List Str} (h : H a = some (.lst xs)) (r : RpAll H xs ts) : Rp H [a] 1 (.ref a) (listText ts) := .lst (as0 := []) h (by simp) (fun b hb => hb) r.len r.it
theorem rpz {H : Hp} {xs : List V} {ts : List Str} (r : RpAll H xs ts) (hn : xs.length ≤ 30) : (listText ts).length ≤ sizeLine := by
  have h1 := listText_le ts
  have h2 := r.piled
  have h3 := r.len
  have h4 : (1000000 : Nat) ≤ sizeLine := by decide
  omega
theorem rp_str {H : Hp} {x : Str} (h : PyData.strOk x = true) (l : x.length ≤ 240) : Rp H [] 0 (.str x) (reprText x) ∧ (reprText x).length ≤ 3000 := by
  have z := StrLaws.reprText_len x fun c hc => by
    have h' := h
    unfold PyData.strOk at h'
    rw [Array.all_eq_true_iff_forall_mem] at h'
    exact Nat.lt_trans (of_decide_eq_true (h' c (Array.mem_toList_iff.mp hc))) (by decide)
  have h4 : (1000000 : Nat) ≤ sizeLine := by decide
  exact ⟨.str x (by omega), by omega⟩
theorem rp_int {H : Hp} {i : Int} (h : i.natAbs < 2 ^ 112) : Rp H [] 0 (.int i) (toString i) ∧ (Str.ofString (toString i)).length ≤ 3000 := by
  have l := len_of (n := 112) (by decide) h
  refine ⟨.int i ?_, by omega⟩
  by_cases z : i.natAbs = 0
  · rw [z]; decide
  · exact (Nat.log2_lt z).mpr (Nat.lt_of_lt_of_le h (Nat.pow_le_pow_right (by decide) (by decide)))
theorem shown_len {q : Rat} (h : Low 112 q) : (Am.shown q).length ≤ 240 := by
  have l1 := len_of (by decide) h.1
  have l2 := len_of (n := 112) (i := (q.den : Int)) (by decide) (by rw [Int.natAbs_natCast]; exact h.2)
  have k1 : (Str.ofString "Amount(").length = 7 := by decide
  have k2 : (Str.ofString ", ").length = 2 := by decide
  have k3 : (Str.ofString ")").length = 1 := by decide
  rw [Am.shown, emp]
  simp only [strLen_append, k1, k2, k3]
  omega
theorem written_len {q : Rat} (h : Low 112 q) : (written q).length ≤ 240 := by
  have l1 := len_of (by decide) h.1
  have l2 := len_of (n := 112) (i := (q.den : Int)) (by decide) (by rw [Int.natAbs_natCast]; exact h.2)
  have k1 : (Str.ofString "/").length = 1 := by decide
  unfold written
  split
  · omega
  · rw [emp]
    simp only [strLen_append, k1]
    omega
theorem sok_written (q : Rat) : PyData.strOk (written q) = true := by
  unfold written
  split
  · exact sok_of _
  · exact sok_app (sok_app (sok_app sok_emp (sok_of _)) (sok_of _)) (sok_of _)
theorem low_neg {n : Nat} {q : Rat} (h : Low n q) : Low n (-q) := ⟨by show (-q.num).natAbs < _; rw [Int.natAbs_neg]; exact h.1, h.2⟩
theorem low_aq {n : Nat} {q : Rat} (h : Low n q) : Low n (aq q) := by
  unfold aq
  split
  · exact low_neg h
  · exact h
theorem aq_num (q : Rat) : (aq q).num = if q.num < 0 then -q.num else q.num := by
  unfold aq
  by_cases h : q.num < 0
  · rw [if_pos h, if_pos h]; rfl
  · rw [if_neg h, if_neg h]
theorem aq_den (q : Rat) : (aq q).den = q.den := by
  unfold aq
  split <;> rfl
theorem tyL {K : W.Frag} {H : Hp} {a : Addr} {xs : List V} (h : H a = some (.lst xs)) : tyV K "list" (.ref a) H := .inl ⟨rfl, xs, SqL.of h⟩
/-- what both of alone_right's lists hold -/
def eight (q : Rat) : List V := [.int q.num, .int q.den, .int q.num.sign, .bl (decide (q.num ≠ 0)), .str (written q), .str (Am.shown q), .str (Am.shown (-q)), .str (Am.shown (aq q))]
def eightT (q : Rat) : List Str := [(toString q.num : String), (toString (q.den : Int) : String), (toString q.num.sign : String), (if decide (q.num ≠ 0) = true then Str.ofString "True" else Str.ofString "False"), reprText (written q), reprText (Am.shown q), reprText (Am.shown (-q)), reprText (Am.shown (aq q))]
theorem eight_rp {H : Hp} {q : Rat} (h : Low 112 q) : RpAll H (eight q) (eightT q) := by
  have a1 := rp_int (H := H) h.1
  have a2 := rp_int (H := H) (i := (q.den : Int)) (by rw [Int.natAbs_natCast]; exact h.2)
  have a3 := rp_int (H := H) (i := q.num.sign) (Nat.lt_of_le_of_lt (by rw [Int.natAbs_sign]; split <;> decide) (show 1 < 2 ^ 112 by decide))
  have a5 := rp_str (H := H) (sok_written q) (written_len h)
  have a6 := rp_str (H := H) (sok_shown q) (shown_len h)
  have a7 := rp_str (H := H) (sok_shown (-q)) (shown_len (low_neg h))
  have a8 := rp_str (H := H) (sok_shown (aq q)) (shown_len (low_aq h))
  exact .cons a1.1 a1.2 (.cons a2.1 a2.2 (.cons a3.1 a3.2 (.cons (.bl _) (by split <;> decide) (.cons a5.1 a5.2 (.cons a6.1 a6.2 (.cons a7.1 a7.2 (.cons a8.1 a8.2 .nil)))))))
/-! ### powers -/
theorem Low.mul {n m : Nat} {q p : Rat} (h : Low n q) (h' : Low m p) : Low (n + m) (q * p) := by
  rw [← mul_rat]
  obtain ⟨b1, b2⟩ := divInt_le (q.num * p.num) ((q.den : Int) * (p.den : Int)) (den_den q p)
  exact ⟨Nat.lt_of_le_of_lt b1 (mul_bits h.1 h'.1), Nat.lt_of_le_of_lt b2 (mul_bits (KA.low_den h) (KA.low_den h'))⟩
theorem pow_lows {q : Rat} (h : Low 112 q) : ∀ i : Nat, Low (112 * i + 1) (q ^ i)
  | 0 => by
    rw [Rat.pow_zero]
    exact ⟨by decide, by decide⟩
  | i + 1 => by
    rw [Rat.pow_succ]
    exact ((pow_lows h i).mul h).more (by omega)
def pows (q : Rat) (n : Nat) : List Rat := (List.range n).map fun i => q ^ i
theorem pows_succ (q : Rat) (n : Nat) : pows q (n + 1) = pows q n ++ [q ^ n] := by
  unfold pows
  rw [List.range_succ, List.map_append]
  rfl
def TpR (H : Hp) (x : V) (r : Rat) : Prop := ∃ t, x = .ref t ∧ H t = some (.tup [.int r.num, .int r.den])
theorem TpR.ns {H H' : Hp} {x : V} {r : Rat} (h : TpR H x r) (n : Ns H H') : TpR H' x r := let ⟨t, e, z⟩ := h; ⟨t, e, n _ _ (fun _ => HO.noConfusion) z⟩
def IsR (C : Addr) (H : Hp) (x : V) (r : Rat) : Prop := ∃ a, x = .ref a ∧ Is C H a r
theorem IsR.ext {C : Addr} {H H' : Hp} {x : V} {r : Rat} (h : IsR C H x r) (e : Am.Ext H H') : IsR C H' x r := let ⟨a, x, i⟩ := h; ⟨a, x, i.ext e⟩
theorem A2.uncons {R : V → Rat → Prop} {xs : List V} {q : Rat} {qs : List Rat} (h : A2 R xs (q :: qs)) : ∃ x ys, xs = x :: ys ∧ R x q ∧ A2 R ys qs := by
  cases h with
  | cons a b => exact ⟨_, _, rfl, a, b⟩
theorem cut1 (x : V) (ys : List V) : cutV (x :: ys) (some 1) none = ys := by
  have e : HT.sIx (x :: ys).length 0 (some 1) = 1 := by
    have := HT.sIx_nat (x :: ys).length 0 1
    rw [List.length_cons] at this ⊢
    rw [show (some (1 : Int)) = some ((1 : Nat) : Int) from rfl, this]
    omega
  unfold cutV
  rw [e, HT.sIx_none]
  simp
theorem ned_same {K : W.Frag} {H : Hp} {a b : Addr} {xs : List V} {ds : List PyData} {Q : VK} (ha : SqL K H a xs) (hb : SqL K H b xs) (d : DpAll K H xs ds) (hs : SeqAt.shaped (.list ds) = true) (q : Q (.bl false) H) : rNeD K (.ref a) (.ref b) H Q :=
  ⟨.list ds, .list ds, .lst ha d, .lst hb d, hs, hs, by rw [SeqAt.eqv_refl _ (SeqAt.canLay_of_shaped hs)]; exact q⟩
def shs (rs : List Rat) : List V := rs.map fun r => V.str (Am.shown r)
theorem shs_snoc (rs : List Rat) (r : Rat) : shs (rs ++ [r]) = shs rs ++ [.str (Am.shown r)] := by
  unfold shs
  rw [List.map_append]
  rfl
theorem shs_len (rs : List Rat) : (shs rs).length = rs.length := List.length_map _
theorem shs_dp {K : W.Frag} {H : Hp} (rs : List Rat) : DpAll K H (shs rs) ((rs.map Am.shown).map PyData.str) := by
  have := dp_strs (K := K) (H := H) (rs.map Am.shown)
  rw [List.map_map] at this
  exact this
theorem shs_ok (rs : List Rat) : SeqAt.shaped (.list ((rs.map Am.shown).map PyData.str)) = true := shaped_strs fun x m => by
  obtain ⟨r, _, rfl⟩ := List.mem_map.mp m
  exact sok_shown r
/-- what alone_right asks -/
structure Al (P : Program) (w : World) (K : W.Frag) (mg : Str → Option Value) (base : Heap) (C : Addr) : Prop where
  nb : base.NoDigits
  fr : Frees mg
  B : Base P w K mg base C
  O : Of P w K mg base C
  OK : OfK P w K mg base C
  R : Rep P w K mg base C
  N : Neg P w K mg base C
  ab : Una P w K mg base C "__abs__" 4 (spUn C aq)
  bo : Una P w K mg base C "__bool__" 1 (spBool C)
  st : Una P w K mg base C "__str__" 1 (spText C written)
  pw : Pow P w K mg base C
  rn : Rnd P w K mg base C
  DD : DnD P w K mg base
  DM : Dn P w K mg base CX0 4 "_law_made" ["_law_pot_here", "_law_part_here", "_law_is_plain"] (spMade K C)
  DH : Dn P w K mg base CX0 1 "_law_shown" ["_law_part_here"] (spTxt K shown)
  DW : Dn P w K mg base CX0 1 "_law_written" ["_law_part_here"] (spTxt K written)
  DF : Dn P w K mg base CX0 1 "_law_floor" ["_law_part_here"] (spFloor K)
  DC : Dn P w K mg base CX0 2 "_law_decimal" ["_law_part_here", "_law_size"] (spDec K)
  DT : Dn P w K mg base CX0 2 "_law_times" ["_law_left", "_law_right_here"] (spPair K fun q p => q * p)
abbrev nAl : List Str := ["_law_pot_here", "_law_part_here", "_law_made_here", "_law_told", "_law_due", "_law_size", "_law_powers", "_law_turn", "_law_some_here", "_law_each"]
def spTrue2 (K : W.Frag) : Sp := fun vs H Q _ => ∃ (p t : Addr) (q : Rat), vs = [.ref p, .ref t] ∧ Pot H p ∧ t ≠ p ∧ H t = some (.tup [.int q.num, .int q.den]) ∧ Low 112 q ∧ ∀ H', Kp p H H' → Q (.bl true) H'
section
variable {P : Program} {w : World} {K : W.Frag} {mg : Str → Option Value} {base : Heap} {f C : Addr} {fd : FuncData}
end
end KA

set_option Elab.async false
set_option linter.all false
set_option maxRecDepth 100000
set_option maxHeartbeats 1000000
set_option exponentiation.threshold 20000
namespace KA
open PySem PySem.Spec PyProof.Rows L2 Oo Gd Am
/-- a def whose code object stands at c -/
structure FunC (K : W.Frag) (x qual : Str) (st : Stmt) (f c : Addr) (fd : FuncData) : Prop where
  ex : ∃ (oc : Value) (od : Option Addr) (kV doc pm : Value) (an : Option Addr) (ct : Value) (osl : Array (Option Value)),
    fd = W.fnOf x qual (defArgs st) (defBody st) (defScope st) .none kV doc pm an (.ref c) ct ∧ K.lookup f = some ⟨oc, od, .func fd, osl⟩ ∧ W.codeIn K (.ref c) qual = true
  kp : W.keepIn K (.ref f) = true
section
variable {P : Program} {w : World} {K : W.Frag} {mg : Str → Option Value} {base : Heap}
theorem okGc {x qual : Str} {st : Stmt} {f c : Addr} {fd : FuncData} {N ps : List Str} {k : Nat} {sp : Sp} (F : FunC K x qual st f c fd) (S : FnScope N ps (defScope st)) (len : ∀ vs H Q E, sp vs H Q E → vs.length = ps.length)
    (walk : ∀ (A : Around) (outer : List Env) (s : Shared) (H : Hp) (vs : List V) (Q : VK) (E : XK), Bare (A.deeper (envOfC qual (defScope st) s.heap.objs.size f (.ref c))) →
      Room k (A.deeper (envOfC qual (defScope st) s.heap.objs.size f (.ref c))) → sp vs H Q E →
      ∃ t, PSs (cxOf CX0 P w K mg base N qual (defScope st) f (.ref c) A outer s H E).nox (defBody st) t ∧ t { nx := fun _ H' => Q .non H', rt := Q } (start N vs) H) :
    FnG P w K mg base CX0 (k + 1) f fd ps sp := by
  obtain ⟨oc, od, kV, doc, pm, an, ct, osl, rfl, at_, code⟩ := F.ex
  refine fnG_of at_ code S len (fun A outer s H vs Q E hg hr want => ?_)
  obtain ⟨t, h, q⟩ := walk A outer s H vs Q E hg hr want
  exact ⟨t, h.nox, q⟩
end
/-! ### // and % of NUMBERS, one an Amount -/
structure DvI (P : Program) (w : World) (K : W.Frag) (mg : Str → Option Value) (base : Heap) (C Z : Addr) (nm : String) (n k : Nat) (R : Rat → Rat → Hp → VK → Prop) : Prop where
  of : ∃ f g fd gd ps qs, OwnBin K C nm f (some g) ∧ NoIn K C nm ∧ FnOk P w K mg base (L2.CX P w) k f fd ps (spDiv n C Z R) ∧ Binds K fd ps [] ∧ FnOk P w K mg base (L2.CX P w) k g gd qs (spDivR n C Z R) ∧ Binds K gd qs []
def rDN (n : Nat) (C Z : Addr) (R : Rat → Rat → Hp → VK → Prop) (E : XK) : R2 := fun x y H Q => ∃ q p, Num C H x q ∧ Num C H y p ∧ ((∃ a, x = .ref a) ∨ ∃ a, y = .ref a) ∧ Low n q ∧ Low n p ∧ (p ≠ 0 → R q p H Q) ∧ (p = 0 → Refuse Z H E)
theorem conv_div {n : Nat} {C Z : Addr} {R : Rat → Rat → Hp → VK → Prop} {E : XK} {H : Hp} {x y : V} {Q : VK} (hh : rDN n C Z R E x y H Q) : rBin C (spDiv n C Z R) (spDivR n C Z R) E x y H Q := by
  obtain ⟨q, p, nx, ny, one, lq, lp, h1, h2⟩ := hh
  rcases id nx with ⟨i, rfl, _⟩ | ⟨a, rfl, ia⟩
  · rcases id ny with ⟨j, rfl, _⟩ | ⟨b, rfl, ib⟩
    · rcases one with ⟨_, z⟩ | ⟨_, z⟩ <;> cases z
    · obtain ⟨dy, eb⟩ := id ib
      exact .inr (.inr ⟨b, dy, _, i, rfl, rfl, eb, b, _, q, p, rfl, ib, nx, lq, lp, h1, h2⟩)
  · obtain ⟨dx, ea⟩ := id ia
    have z : spDiv n C Z R [V.ref a, y] H Q E := ⟨a, y, q, p, rfl, ia, ny, lq, lp, h1, h2⟩
    rcases id ny with ⟨j, rfl, _⟩ | ⟨b, rfl, dy, eb⟩
    · exact .inr (.inl ⟨a, dx, _, j, rfl, rfl, ea, z⟩)
    · exact .inl ⟨a, dx, _, b, dy, _, rfl, rfl, ea, eb, z⟩
section
variable {X : Cx} {C Z : Addr} {op : Operator} {n k : Nat} {R : Rat → Rat → Hp → VK → Prop} {E : XK}
theorem op_DN (h5 : Five op) (D : DvI X.prog X.w X.K X.mg X.base C Z op.info.2 n k R) (hx : Passes (L2.CX X.prog X.w) X E) (hr : Room k X.A) : OpR X (binaryOp op) (rDN n C Z R E) := fun pins s σ H x y v u Q I rx ry hh => by
  obtain ⟨f, g, fd, gd, ps, qs, B, N, F, b, G, b2⟩ := D.of
  exact op_bin h5 B F b G b2 hx hr pins s σ H x y v u Q I rx ry (conv_div hh)
theorem ip_DN (h5 : Five op) (D : DvI X.prog X.w X.K X.mg X.base C Z op.info.2 n k R) (hx : Passes (L2.CX X.prog X.w) X E) (hr : Room k X.A) : PIp X op (rDN n C Z R E) := fun pins s σ H x y v u Q I rx ry hh => by
  obtain ⟨f, g, fd, gd, ps, qs, B, N, F, b, G, b2⟩ := D.of
  exact iop_bin h5 B N F b G b2 hx hr pins s σ H x y v u Q I rx ry (conv_div hh)
end
end KA

set_option Elab.async false
set_option linter.all false
set_option maxRecDepth 100000
set_option maxHeartbeats 2000000
set_option exponentiation.threshold 20000
namespace KA
open PySem PySem.Spec PyProof.Rows L2 Oo Gd Am
structure OverK (P : Program) (w : World) (K : W.Frag) (mg : Str → Option Value) (base : Heap) (C Z : Addr) : Prop where
  of : ∃ f fd, Meth K C "over" f ∧ FnOk P w K mg base (L2.CX P w) 5 f fd ["self", "other"] (spDiv 4000 C Z fun q p H Q => New C H Q (q / p)) ∧ Binds K fd ["self", "other"] [] ∧ KBn K fd ["self", "other"] 1 [("other" : Str)] (fun us ws => us ++ ws) (fun us ws => us ++ ws)
abbrev nTw : List Str := ["_law_x", "_law_y", "_law_left", "_law_right_here", "_law_shown_here", "_law_held", "_law_told", "_law_due", "_law_kinds", "_law_whole", "_law_rest", "_law_part_here"]
theorem smN_of {C : Addr} {H : Hp} {v : V} {q : Rat} (h : Num C H v q) (l : Low 1900 q) : SmN v q := by
  rcases h with ⟨i, rfl, rfl⟩ | ⟨a, rfl, _⟩
  · have b : i.natAbs < 2 ^ 1900 := l.1
    show i.natAbs.log2 < 1920
    by_cases z : i.natAbs = 0
    · rw [z]; decide
    · exact (Nat.log2_lt z).mpr (Nat.lt_of_lt_of_le b (Nat.pow_le_pow_right (by decide) (by decide)))
  · exact l.more (by decide)
theorem Pt.ns {K : W.Frag} {H H' : Hp} {t : Addr} {q : Rat} (h : Pt K H t q) (n : Ns H H') : Pt K H' t q := by
  rcases h with (h | ⟨o, h⟩) | h
  · exact .inl (.inl (n _ _ (fun _ => HO.noConfusion) h))
  · exact .inl (.inr ⟨o, n _ _ (fun _ => HO.noConfusion) h⟩)
  · exact .inr h
theorem Num.ns {C : Addr} {H H' : Hp} {v : V} {q : Rat} (h : Num C H v q) (n : Ns H H') : Num C H' v q := h.imp (fun z => z) fun ⟨a, e, i⟩ => ⟨a, e, Is.ns i n⟩
theorem Low.sub {n m : Nat} {q p : Rat} (h : Low n q) (h' : Low m p) : Low (n + m + 1) (q - p) := by
  rw [Rat.sub_eq_add_neg]
  exact h.add (low_neg h')
theorem add_sub_self (q r : Rat) : q + r - q = r := by
  rw [Rat.add_comm q r, Rat.sub_eq_add_neg, Rat.add_assoc, Rat.add_neg_cancel, Rat.add_zero]
def PtK (K : W.Frag) (H : Hp) (x : V) (r : Rat) : Prop := ∃ t, x = .ref t ∧ Pt K H t r
theorem ne_str (T : Str) {H : Hp} {Q : VK} (z : Q (.bl false) H) : rNe (.str T) (.str T) H Q := ⟨rfl, by
  rw [decide_eq_true (rfl : V.str T = V.str T)]
  exact z⟩
theorem told_rp {H : Hp} {t : Addr} (h : H t = some (.tup [.non, .bl true, .bl true, .bl false])) : Rp H [t] 1 (.ref t) toldZ := by
  refine .tup (as0 := []) h (by simp) (fun b hb => hb) rfl ?_
  intro i x tt h1 h2
  match i, h1, h2 with
  | 0, h1, h2 => cases h1; cases h2; exact .non
  | 1, h1, h2 => cases h1; cases h2; exact .bl true
  | 2, h1, h2 => cases h1; cases h2; exact .bl true
  | 3, h1, h2 => cases h1; cases h2; exact .bl false
  | i + 4, h1, _ => simp at h1
theorem told_len : toldZ.length ≤ sizeLine := by decide +kernel
theorem told_ok : PyData.strOk toldZ = true := by decide +kernel
theorem Num.xn {C : Addr} {H H' : Hp} {v : V} {q : Rat} (h : Num C H v q) (n : LamX.ExtN H H') : Num C H' v q := h.imp (fun z => z) fun ⟨a, e, dx, i⟩ => ⟨a, e, dx, n _ _ i fun _ => HO.noConfusion⟩
theorem xn_put {H H' : Hp} {a : Addr} {o : HO} (n : LamX.ExtN H H') (z : ∀ u, (∀ ps, u ≠ .tbl ps) → H a ≠ some u) : LamX.ExtN H (upd H' a o) := fun b u h k => by
  rw [upd_ne (fun e => z u k (by rw [← e]; exact h))]
  exact n b u h k
theorem tabs_put {T : List (Addr × Str)} {H : Hp} {a : Addr} {l : List V} {o : HO} (t : LamX.Tabs T H) (h : H a = some (.lst l)) : LamX.Tabs T (upd H a o) := fun p hp => by
  obtain ⟨ps, h1, h2, h3⟩ := t p hp
  refine ⟨ps, ?_, h2, fun pos cv hc => ?_⟩
  · rw [upd_ne (fun z => by rw [z, h] at h1; cases h1)]
    exact h1
  · obtain ⟨c, e1, e2⟩ := h3 pos cv hc
    refine ⟨c, e1, ?_⟩
    rw [upd_ne (fun z => by
      rw [z, h] at e2
      unfold LamX.CodeO at e2
      cases e2)]
    exact e2
theorem low_div {n m : Nat} {q p : Rat} (h : Low n q) (h' : Low m p) (p0 : p ≠ 0) : Low (n + m) (q / p) := by
  rw [← div_rat]
  have pn : p.num ≠ 0 := fun e => p0 (Rat.num_eq_zero.mp e)
  obtain ⟨b1, b2⟩ := divInt_le (q.num * (p.den : Int)) ((q.den : Int) * p.num) (Int.mul_ne_zero (den0 q) pn)
  exact ⟨Nat.lt_of_le_of_lt b1 (mul_bits h.1 (KA.low_den h')), Nat.lt_of_le_of_lt b2 (mul_bits (KA.low_den h) h'.1)⟩
theorem low_int {n : Nat} {i : Int} (h : i.natAbs < 2 ^ n) (hn : 0 < n) : Low n (i : Rat) := ⟨h, by
  show 1 < 2 ^ n
  exact Nat.one_lt_two_pow (by omega)⟩
theorem add_sub_all (q r : Rat) : r + (q - r) = q := by
  rw [Rat.sub_eq_add_neg, Rat.add_comm q, ← Rat.add_assoc, Rat.add_neg_cancel, Rat.zero_add]
theorem eq_str (T : Str) {H : Hp} {Q : VK} (z : Q (.bl true) H) : rEq (.str T) (.str T) H Q := ⟨rfl, by
  rw [decide_eq_true (rfl : V.str T = V.str T)]
  exact z⟩
def tabs (p : Addr) : List (Addr × Str) := [(p, "_law_two_right.<locals>.<lambda>")]
def spTwo (K : W.Frag) (C p : Addr) : Sp := fun vs H Q _ => ∃ x y t u q r, vs = [x, y, .ref t, .ref u] ∧ Num C H x q ∧ Num C H y r ∧ ((∃ a, x = .ref a) ∨ ∃ a, y = .ref a) ∧ Pt K H t q ∧ Pt K H u r ∧ Low 112 q ∧ Low 112 r ∧ LamX.Tabs (tabs p) H ∧
  ∀ H', LamX.ExtN H H' → LamX.Tabs (tabs p) H' → Q (.bl true) H'
section
variable {P : Program} {w : World} {K : W.Frag} {mg : Str → Option Value} {base : Heap} {f C Z ZA c p : Addr} {fd : FuncData}
end
end KA

set_option Elab.async false
set_option linter.all false
set_option maxRecDepth 100000
set_option maxHeartbeats 1000000
set_option exponentiation.threshold 20000
namespace KA
open PySem PySem.Spec PyProof.Rows L2 Oo Gd Am
/-- all but p and the tables stand, at p the pot -/
def KT (p : Addr) (H H' : Hp) : Prop := (∀ b o, b ≠ p → H b = some o → (∀ ps, o ≠ .tbl ps) → H' b = some o) ∧ Pot H' p
theorem KT.trans {p : Addr} {H H1 H2 : Hp} (a : KT p H H1) (b : KT p H1 H2) : KT p H H2 := ⟨fun c o n h k => b.1 c o n (a.1 c o n h k) k, b.2⟩
theorem Kp.kt {p : Addr} {H H' : Hp} (k : Kp p H H') : KT p H H' := ⟨fun b o n h _ => k.1 b o n h, k.2⟩
theorem pot_xn {p : Addr} {H H' : Hp} (hp : Pot H p) (n : LamX.ExtN H H') : KT p H H' := ⟨fun b o _ h k => n b o h k, by
  obtain ⟨a, b, h, r⟩ := hp
  exact ⟨a, b, n _ _ h (fun _ => HO.noConfusion), r⟩⟩
theorem tabs_kp {T : List (Addr × Str)} {p : Addr} {H H' : Hp} (t : LamX.Tabs T H) (hp : Pot H p) (k : Kp p H H') : LamX.Tabs T H' := fun a ha => by
  obtain ⟨x, y, hl, _⟩ := hp
  obtain ⟨ps, h1, h2, h3⟩ := t a ha
  refine ⟨ps, k.1 _ _ (fun e => by rw [e, hl] at h1; cases h1) h1, h2, fun pos cv hc => ?_⟩
  obtain ⟨c, e1, e2⟩ := h3 pos cv hc
  exact ⟨c, e1, k.1 _ _ (fun e => by
    rw [e, hl] at e2
    unfold LamX.CodeO at e2
    cases e2) e2⟩
/-- what right asks -/
structure Ri (P : Program) (w : World) (K : W.Frag) (mg : Str → Option Value) (base : Heap) (C p0 : Addr) : Prop where
  DP : DnP P w K mg base
  DR : Dn P w K mg base CX0 3 "_law_part" ["_law_pot_here"] (spPart K)
  DM : Dn P w K mg base CX0 4 "_law_made" ["_law_pot_here", "_law_part_here", "_law_is_plain"] (spMade K C)
  T2 : DnG P w K mg base 11 "_law_two_right" ["_law_x", "_law_y", "_law_left", "_law_right_here"] (spTwo K C p0)
  T1 : DnG P w K mg base 8 "_law_alone_right" ["_law_pot_here", "_law_part_here"] (spTrue2 K)
  T3 : DnG P w K mg base 7 "_law_row_right" ["_law_pot_here"] spTrue1
abbrev nRi : List Str := ["_law_pot_here", "_law_left", "_law_right_here", "_law_plain", "_law_x", "_law_y"]
/-- all but the pot and the tables stand; the tables tell right -/
def spRi (p0 : Addr) : Sp := fun vs H Q _ => ∃ p : Addr, vs = [.ref p] ∧ Pot H p ∧ LamX.Tabs (tabs p0) H ∧
  ∀ H', (∀ b o, b ≠ p → H b = some o → (∀ ps, o ≠ .tbl ps) → H' b = some o) → Pot H' p → LamX.Tabs (tabs p0) H' → Q (.bl true) H'
section
variable {P : Program} {w : World} {K : W.Frag} {mg : Str → Option Value} {base : Heap} {f C p0 : Addr} {fd : FuncData}
end
end KA

set_option Elab.async false
set_option linter.all false
set_option maxRecDepth 100000
set_option maxHeartbeats 1000000
namespace KA
open PySem PySem.Spec PyProof.Rows L2 Oo Gd Am
abbrev nLaw : List Str := ["_law_script", "_law_k", "_law_pot_here", "_law_turn"]
def spLaw (K : W.Frag) (p0 : Addr) : Sp := fun vs H Q _ => ∃ (a : Addr) (ns : List Int), vs = [.ref a] ∧ ns.length ≤ 63 ∧ SqL K H a (ns.map V.int) ∧ LamX.Tabs (tabs p0) H ∧ ∀ H', Q (.bl true) H'
section
variable {P : Program} {w : World} {K : W.Frag} {mg : Str → Option Value} {base : Heap} {f p0 : Addr} {fd : FuncData}
end
end KA

set_option Elab.async false
set_option linter.all false
set_option maxRecDepth 100000
set_option maxHeartbeats 1000000
/-! repr of a list of NUMBERS. -/
namespace Am
open PySem PySem.Spec PyProof.Rows L2 Oo
open PySem.Builtin PySem.Builtin.List
abbrev inLp (A : Around) (args : Args) : Around := A.in1.under (.builtin "list.__repr__.loop" args)
theorem inLp_room {k : Nat} {A : Around} {args : Args} (r : Room (k + 2) A) : Room k (inLp A args) :=
  ⟨r.hd, by
    have := r.dp
    have e : (inLp A args).depth = A.depth + 1 := by first | rfl | simp [inLp, Around.under, Code.weight, Code.isCreation, Code.isGuard, Code.isCaller, Code.frames, Code.isFrame, guardIds]
    rw [e]; omega, by
    have := r.un
    have e : (inLp A args).units ≤ A.units + 2 := by
      show A.in1.units + _ ≤ _
      first | exact Nat.le_refl _ | (simp [Code.cUnits, Code.frames, Code.isFrame])
    omega⟩
theorem inLp_env {P : Program} {w : World} {K : W.Frag} {mg : Str → Option Value} {base : Heap} {A : Around} {outer : List Env} {s : Shared} {H : Hp} {args : Args} (e : Env0 P w K mg base A outer s H) : Env0 P w K mg base (inLp A args) outer s H :=
  ⟨by first | exact e.frames | (simpa [inLp, Around.under, Code.envs, Code.isFrame, pushEnvs] using e.frames), e.mod, e.bs, e.bsz, e.funs, e.frf, e.hok, e.bare⟩
theorem inLp_guards {A : Around} {args : Args} (hg : A.guards = some []) : ∃ g, (inLp A args).guards = some g := by
  have e : A.in1.guards = some [] := hg
  exact ⟨_, guards_under_guard (isGuard_list_loop _) e⟩
/-- NUMBERS and the texts of their reprs -/
inductive NumsT (C : Addr) (H : Hp) : List V → List Str → Prop
  | nil : NumsT C H [] []
  | cons {v : V} {q : Rat} {xs : List V} {ts : List Str} : Num C H v q → SmN v q → NumsT C H xs ts → NumsT C H (v :: xs) (numText v q :: ts)
theorem NumsT.len {C : Addr} {H : Hp} : ∀ {xs : List V} {ts : List Str}, NumsT C H xs ts → ts.length = xs.length
  | _, _, .nil => rfl
  | _, _, .cons _ _ r => by rw [List.length_cons, List.length_cons, r.len]
theorem NumsT.get {C : Addr} {H : Hp} : ∀ {xs : List V} {ts : List Str} {i : Nat} {x : V}, NumsT C H xs ts → xs[i]? = some x → ∃ q, Num C H x q ∧ SmN x q ∧ ts[i]? = some (numText x q)
  | _, _, i, x, .nil, h => by simp at h
  | _, _, 0, x, .cons n s _, e => by
    cases (show some _ = some x from e)
    exact ⟨_, n, s, rfl⟩
  | _, _, i + 1, x, .cons _ _ r, e => NumsT.get (i := i) r e
theorem NumsT.ext {C : Addr} {H H' : Hp} (e : Ext H H') : ∀ {xs : List V} {ts : List Str}, NumsT C H xs ts → NumsT C H' xs ts
  | _, _, .nil => .nil
  | _, _, .cons n s r => .cons (n.ext e) s (r.ext e)
theorem NumsT.piled {C : Addr} {H : Hp} : ∀ {xs : List V} {ts : List Str}, NumsT C H xs ts → piled ts ≤ 6102 * ts.length
  | _, _, .nil => Nat.zero_le _
  | _, _, .cons _ s r => by
    have := r.piled
    have := num_len s
    rw [piled_cons, List.length_cons]
    omega
theorem vals_strs : ∀ {ts : List Str} {its : List Value}, Vals (ts.map V.str) its → ∃ done : List (Str × Tok), its = strValues done ∧ done.map (·.1) = ts
  | [], _, h => by
    cases h
    exact ⟨[], rfl, rfl⟩
  | t :: ts, _, h => by
    cases h with
    | cons r1 r2 =>
      obtain ⟨tk, rfl⟩ := (show ∃ tk, _ = Value.str t tk from r1)
      obtain ⟨done, rfl, e⟩ := vals_strs r2
      exact ⟨(t, tk) :: done, rfl, by rw [List.map_cons, e]⟩
section
variable {X : Cx} {C : Addr} {pins : List (Addr × Obj)} {σ : L2.St} {H : Hp} {s : Shared} {k : Nat}
theorem num_underL (R : Rep X.prog X.w X.K X.mg X.base C) {args : Args} {b : Nat} {v : V} {u : Value} {q : Rat} (hr : Room (k + 3) X.A) (hG : Gd.Bare X.A) (I : Inv X pins σ H s) (nv : Num C H v q) (sm : SmN v q) (rv : RelV v u) (hb : b ≤ 500000) :
    wpAny (model X.prog X.w) (inLp X.A args) (pyReprUnder b u) (fun r s1 => r = numText v q ∧ Inv X pins σ H s1) X.xe s := by
  have hR : Room 1 (inLp X.A args) := inLp_room (hr.mono (by omega))
  have big : (1000000 : Nat) ≤ sizeLine := by decide
  rcases nv with ⟨i, rfl, _⟩ | ⟨x, rfl, ix⟩
  · obtain ⟨g, hg⟩ := inLp_guards (args := args) hG
    have rk : ReprK X.prog X.w [] s.heap 1 u (toString i : String) := (Gd.Rp.int (H := H) (as := []) (d := 1) i sm).repr I.hok u rv
    have l := num_len (v := .int i) (q := q) sm
    exact rk b (by show b + (numText (.int i) q).length ≤ sizeLine; omega) _ g _ s _ hg (fun b h => nomatch h) (by have := hR.units; omega) (fun _ _ e => e) fun h' tk kp => ⟨rfl, I.kept kp⟩
  · obtain rfl : u = Value.ref x := rv
    obtain ⟨f, fd, hs, hf, F, bd⟩ := R.of
    obtain ⟨dx, ex⟩ := id ix
    obtain ⟨od, J, _⟩ := inst_at I ex
    refine own_under (by omega) hR.units0 I.kIn J hs hf ?_
    have lw : KA.Low 8000 q := ⟨Nat.lt_trans sm.1 (by decide), Nat.lt_trans sm.2 (by decide)⟩
    refine wpAny_mono (run_atO (Q := fun z H' => z = .str (shown q) ∧ H' = H) (us := [.ref x]) (ws := [.ref x]) F bd hR (inLp_env I.env0) pass0 I (.cons rfl .nil) ⟨x, q, rfl, ix, lw, rfl, rfl⟩) (fun v s' ⟨z, H', I', rz, ez, eh⟩ => ?_) fun _ _ z => z
    subst ez eh
    obtain ⟨t, rfl⟩ := (show ∃ t, v = Value.str (shown q) t from rz)
    exact ⟨_, _, rfl, rfl, I'⟩
theorem lp_loop (R : Rep X.prog X.w X.K X.mg X.base C) {a P : Addr} {xs : List V} {ts : List Str} {Q : Value → Shared → Prop} (hr : Room (k + 3) X.A) (hG : Gd.Bare X.A) (ha : H a = some (.lst xs)) (hP : H P = none) (nt : NumsT C H xs ts)
    (hl : ts.length ≤ 70) (hQ : ∀ s' u, Inv X pins σ (upd H P (.lst (ts.map V.str))) s' → Q (.str (listText ts) u) s') :
    ∀ (n i : Nat) (s : Shared), ts.length - i = n → i ≤ ts.length → Inv X pins σ (upd H P (.lst ((ts.take i).map V.str))) s →
      codeAny (model X.prog X.w) X.A.in1 (.builtin "list.__repr__.loop" ⟨[.ref a, rawInt i, .ref P, rawInt ((piled (ts.take i) : Nat) : Int)], []⟩) (callEnd Q X.xe) s := by
  have big : (1000000 : Nat) ≤ sizeLine := by decide
  have nl := nt.len
  have np := nt.piled
  have lt := Gd.listText_le ts
  intro n
  induction n with
  | zero =>
    intro i s hn hi I
    have hin : i = ts.length := by omega
    subst hin
    rw [List.take_length] at I ⊢
    obtain ⟨_, its, m, rv, l1, e1⟩ := I.lstM (l := a) (by rw [upd_ne (ne_of_none ha hP)]; exact ha)
    obtain ⟨_, acc, c, rw', l2, e2⟩ := I.lstM (l := P) upd_same
    refine codeAny_builtin F.entry_list_repr_loop ?_
    show wpAny _ _ («list.__repr__.loop» ⟨[.ref a, .int (ts.length : Nat) 0, .ref P, .int ((piled ts : Nat) : Int) 0], []⟩) _ _ s
    rw [repr_loop_tree]
    refine wpAny_bind (wpAny_listItems e1 rfl ?_)
    have hnone : its.toArray[((ts.length : Nat) : Int).toNat]? = none := by simp [nl, l1]
    simp only [hnone]
    unfold reprEnd
    refine wpAny_bind (wpAny_listItems e2 rfl ?_)
    obtain ⟨done, rfl, ed⟩ := vals_strs rw'
    rw [show (strValues done).toArray.toList = strValues done from rfl, repr_fold]
    refine wpAny_bind (wpAny_pure ?_)
    rw [ed]
    refine wpAny_bind (wpAny_mkStr (wpAny_pure ?_) (by show (listText ts).length ≤ sizeLine; omega))
    exact hQ _ _ (I.tok _)
  | succ n ih =>
    intro i s hn hi I
    obtain ⟨_, its, m, rv, l1, e1⟩ := I.lstM (l := a) (by rw [upd_ne (ne_of_none ha hP)]; exact ha)
    obtain ⟨_, acc, c, rw', l2, e2⟩ := I.lstM (l := P) upd_same
    have hlt : i < xs.length := by omega
    obtain ⟨q, nx, sm, et⟩ := nt.get (List.getElem?_eq_getElem hlt)
    obtain ⟨u, hu, ru⟩ := rv.get (List.getElem?_eq_getElem hlt)
    refine codeAny_builtin F.entry_list_repr_loop ?_
    show wpAny _ _ («list.__repr__.loop» ⟨[.ref a, .int (i : Nat) 0, .ref P, .int ((piled (ts.take i) : Nat) : Int) 0], []⟩) _ _ s
    rw [repr_loop_tree]
    refine wpAny_bind (wpAny_listItems e1 rfl ?_)
    have hsome : its.toArray[((i : Nat) : Int).toNat]? = some u := by simpa using hu
    simp only [hsome]
    rw [Int.toNat_natCast]
    have p1 := piled_take_le ts i
    have p2 := piled_take_succ et
    have ex : Ext H (upd H P (.lst ((ts.take i).map V.str))) := Ext.new hP
    refine wpAny_bind (wpAny_holding (wpAny_mono (num_underL R hr hG I (nx.ext ex) sm ru (by omega)) (fun t s1 ⟨et1, I1⟩ => ?_) fun _ _ z => z))
    subst et1
    have nl6 := num_len sm
    obtain ⟨_, acc, c, rw', l2, e2⟩ := I1.lstM (l := P) upd_same
    refine wpAny_bind (wpAny_mkStr ?_ (by omega))
    refine wpAny_bind ?_
    show wpAny _ _ (updateSeq P _) _ _ _
    have al : acc.toArray.size ≤ sizeLine := by
      rw [List.size_toArray, ← l2, List.length_map, List.length_take]
      omega
    refine wpAny_updateSeq e2 rfl (wpAny_pure ⟨F.quiet_list_repr_loop _, ?_⟩) al
    have k1 : ((i : Int) + 1) = ((i + 1 : Nat) : Int) := by omega
    have k2 : piled (ts.take i) + ((numText (xs[i]) q).length + 2) = piled (ts.take (i + 1)) := by omega
    rw [k1, k2]
    refine ih (i + 1) _ (by omega) (by omega) ?_
    have J := I1.lset (l := P) (xs := (ts.take i).map V.str) (ys := (ts.take (i + 1)).map V.str) (its := acc) (its' := acc ++ [.str (numText (xs[i]) q) s1.toks]) (f := fun a => a.push (.str (numText (xs[i]) q) s1.toks)) (t' := s1.toks + 1) upd_same e2 (by simp) (by
      rw [List.take_add_one, et, List.map_append]
      exact rw'.append (.cons ⟨_, rfl⟩ .nil)) (by rw [List.length_map, List.length_take]; omega)
    rw [upd_upd] at J
    exact J
def rNums (C : Addr) : List V → Hp → VK → Prop := fun vs H Q => ∃ (a : Addr) (x : V) (xs : List V) (ts : List Str), vs = [.ref a] ∧ H a = some (.lst (x :: xs)) ∧ NumsT C H (x :: xs) ts ∧ ts.length ≤ 70 ∧ ∀ H', Ext H H' → Q (.str (listText ts)) H'
theorem call_reprNums (R : Rep X.prog X.w X.K X.mg X.base C) (hG : Gd.Bare X.A) (hr : Room (k + 3) X.A) : CallR X (.builtin "repr") (rNums C) := by
  intro pins s σ H vs us Q I r h
  obtain ⟨a, x, xs, ts, rfl, ha, nt, hl, z⟩ := h
  obtain ⟨u, rfl, ru⟩ := r.one
  cases (show u = Value.ref a from ru)
  obtain ⟨_, its, n, rv, l1, ho⟩ := I.lstM ha
  refine Gd.repr_slot ⟨_, ho, rfl⟩ F.slot_list_repr.toG (by have := hr.units; omega) ?_
  cases rv with
  | @cons _ y _ l r1 rvt =>
    refine wpAny_call (codeAny_call_builtin F.slot_list_repr.plain F.entry_list_repr (F.slot_list_repr.check _ _ _ _ _ _ _ _ ⟨_, ho, rfl⟩ (F.args_list_repr_1 _) ?_))
    refine wpAny_list_repr_head (b := 0) (A := X.A.in1.in1) hG (fun v rest kw hm => nomatch hm) ho rfl ?_
    refine wpAny_bind (m := newList []) (wpAny_newObj_type ?_)
    refine wpAny_pure ⟨F.quiet_list_repr_loop _, ?_⟩
    have hf : H s.heap.objs.size = none := I.hok.fresh (Nat.le_refl _)
    have I1 := I.lnew (ys := []) (its := []) (t' := s.toks) .nil (Nat.zero_le _)
    refine lp_loop (k := k) R hr hG ha hf nt hl (fun s' u J => ⟨⟨_, _, rfl⟩, .str (listText ts), _, J, ⟨_, rfl⟩, z _ (Ext.new hf)⟩) ts.length 0 _ (by omega) (Nat.zero_le _) I1
end
end Am

set_option Elab.async false
set_option linter.all false
set_option maxRecDepth 100000
set_option maxHeartbeats 1000000
/-! Comparisons by own methods: an own instance on the left, or on the right of a built-in value. -/
namespace Oo
open PySem PySem.Spec PySem.W PyProof.Rows
section
variable {prog : Program} {w : World} {A : Around} {E : Value → Shared → Prop} {s : Shared} {K : Frag} {x y C f g : Addr} {ox oy : Obj} {od oe : Option Obj} {T : String} {i : Int} {u : Tok} {dx : Addr}
/-- a's own comparison declines -/
def DeclinesC (prog : Program) (w : World) (A : Around) (E : Value → Shared → Prop) (s : Shared) (nm : Str) (a : Value) (y : Addr) : Prop :=
  ∀ R : Option Value → Shared → Prop, (∀ t, R none { s with toks := t }) → wpAny (model prog w) A (tryCompare a nm (.ref y)) R E s
theorem declC_of {nm : Str} {id : String} {B : Builtin} {a : Value} (hT : s.TypeIs a T) (slot : Slot T nm id) (entry : entryFor table id = some B) (args : argsOk id ⟨[a, .ref y], []⟩)
    (body : ∀ (E' : Value → Shared → Prop) (R : Fin → Shared → Prop), (∀ t, R (.done (.ret .notImplemented)) { s with toks := t }) → wpAny (model prog w) A.in1 (B ⟨[a, .ref y], []⟩) R E' s) : DeclinesC prog w A E s nm a y := by
  intro R hR
  refine wpAny_tryCompare_declines hT slot (GQ.call_here slot hT entry args (body _ _ fun t => ?_))
  exact ⟨rfl, hR t⟩
theorem bin_noB {b : Bool} {name : String} {f : Int → Int → Sem Fin} (hy : s.heap.get? y = some (instObj C dx))
    {R : Fin → Shared → Prop} (hR : ∀ t, R (.done (.ret .notImplemented)) { s with toks := t }) : wpAny (model prog w) A (Builtin.Int.intBinary name f false ⟨[Value.bool b, Value.ref y], []⟩) R E s := by
  unfold Builtin.Int.intBinary
  have hs : PySem.slotArgs name 1 ⟨[Value.bool b, Value.ref y], []⟩ = pure (Value.bool b, [Value.ref y]) := rfl
  refine wpAny_bind (wpAny_of_eq hs ?_)
  dsimp only
  cases b
  · refine wpAny_bind (wpAny_of_eq (a := 0) rfl ?_)
    refine wpAny_bind (asInt_inst hy ?_)
    exact wpAny_bind (wpAny_rule (wpAny_pure (hR _)))
  · refine wpAny_bind (wpAny_of_eq (a := 1) rfl ?_)
    refine wpAny_bind (asInt_inst hy ?_)
    exact wpAny_bind (wpAny_rule (wpAny_pure (hR _)))
theorem asStr_inst {R : Option Str → Shared → Prop} {M : Model} (hy : s.heap.get? y = some (instObj C dx)) (h : R none s) : wpAny M A (asStr? (.ref y)) R E s := by
  unfold asStr?
  refine wpAny_bind (wpAny_load hy ?_)
  exact wpAny_pure h
theorem str_no {m : String} {f : List Nat → List Nat → Bool} {z : Str} (hy : s.heap.get? y = some (instObj C dx)) {R : Fin → Shared → Prop} (hR : ∀ t, R (.done (.ret .notImplemented)) { s with toks := t }) :
    wpAny (model prog w) A (Builtin.Str.strCompare m f ⟨[Value.str z u, Value.ref y], []⟩) R E s := by
  unfold Builtin.Str.strCompare
  refine wpAny_bind (wpAny_of_eq (a := (Value.str z u, z, [Value.ref y])) rfl ?_)
  dsimp only
  refine wpAny_bind (asStr_inst hy ?_)
  exact wpAny_bind (wpAny_rule (wpAny_pure (hR _)))
theorem inst_no {T : String} {R : Bool → Shared → Prop} (X : K.In s.heap) (J : InstAt s.heap y oy C oe) (hs : subIn K (.ref C) (.type T) = some false) (h : R false s) : wpAny (model prog w) A (isInstance (.ref y) (.type T)) R E s := by
  unfold isInstance
  exact wpAny_bind (J.type.here ((looks_subIn X hs).here h))

theorem c_int_lt (hy : s.heap.get? y = some (instObj C dx)) : DeclinesC prog w A E s (cmpInfo .Lt).2.1 (Value.int i u) y :=
  declC_of (typeIs_int _ _ _) F.slot_int_lt F.entry_int_lt (F.args_int_lt_2 _ _) fun E' R hR => by
    unfold Builtin.«int.__lt__»
    exact bin_no hy hR
theorem c_bool_lt {b : Bool} (hy : s.heap.get? y = some (instObj C dx)) : DeclinesC prog w A E s (cmpInfo .Lt).2.1 (Value.bool b) y :=
  declC_of (T := "bool") rfl F.slot_bool_lt F.entry_int_lt (F.args_int_lt_2 _ _) fun E' R hR => by
    unfold Builtin.«int.__lt__»
    exact bin_noB hy hR
theorem c_none_lt : DeclinesC prog w A E s (cmpInfo .Lt).2.1 Value.none y :=
  declC_of (T := "NoneType") rfl F.slot_NoneType_lt F.entry_NoneType_lt (F.args_NoneType_lt_2 _ _) fun E' R hR => by
    unfold Builtin.«NoneType.__lt__»
    exact wpAny_bind (wpAny_of_eq (a := (Value.none, [Value.ref y])) rfl (wpAny_pure (hR _)))
theorem c_str_lt {z : Str} (hy : s.heap.get? y = some (instObj C dx)) : DeclinesC prog w A E s (cmpInfo .Lt).2.1 (Value.str z u) y :=
  declC_of (T := "str") rfl F.slot_str_lt F.entry_str_lt (F.args_str_lt_2 _ _) fun E' R hR => by
    unfold Builtin.«str.__lt__»
    exact str_no hy hR
theorem c_tup_lt {a : Addr} {oa : Obj} (X : K.In s.heap) (J : InstAt s.heap y oy C oe) (hs : subIn K (.ref C) (.type "tuple") = some false) (ha : s.heap.get? a = some oa) (hc : oa.cls = .type "tuple") : DeclinesC prog w A E s (cmpInfo .Lt).2.1 (Value.ref a) y :=
  declC_of (T := "tuple") ⟨_, ha, hc⟩ F.slot_tuple_lt F.entry_tuple_lt (F.args_tuple_lt_2 _ _) fun E' R hR => by
    unfold Builtin.«tuple.__lt__»
    refine wpAny_bind (wpAny_of_eq (a := (Value.ref a, [Value.ref y])) rfl ?_)
    dsimp only
    refine wpAny_bind (inst_no X J hs ?_)
    exact wpAny_pure (hR _)
theorem c_lst_lt {a : Addr} {oa : Obj} (X : K.In s.heap) (J : InstAt s.heap y oy C oe) (hs : subIn K (.ref C) (.type "list") = some false) (ha : s.heap.get? a = some oa) (hc : oa.cls = .type "list") : DeclinesC prog w A E s (cmpInfo .Lt).2.1 (Value.ref a) y :=
  declC_of (T := "list") ⟨_, ha, hc⟩ F.slot_list_lt F.entry_list_lt (F.args_list_lt_2 _ _) fun E' R hR => by
    unfold Builtin.«list.__lt__»
    refine wpAny_bind (wpAny_of_eq (a := (Value.ref a, [Value.ref y])) rfl ?_)
    dsimp only
    refine wpAny_bind (inst_no X J hs ?_)
    exact wpAny_pure (hR _)

theorem c_int_le (hy : s.heap.get? y = some (instObj C dx)) : DeclinesC prog w A E s (cmpInfo .LtE).2.1 (Value.int i u) y :=
  declC_of (typeIs_int _ _ _) F.slot_int_le F.entry_int_le (F.args_int_le_2 _ _) fun E' R hR => by
    unfold Builtin.«int.__le__»
    exact bin_no hy hR
theorem c_bool_le {b : Bool} (hy : s.heap.get? y = some (instObj C dx)) : DeclinesC prog w A E s (cmpInfo .LtE).2.1 (Value.bool b) y :=
  declC_of (T := "bool") rfl F.slot_bool_le F.entry_int_le (F.args_int_le_2 _ _) fun E' R hR => by
    unfold Builtin.«int.__le__»
    exact bin_noB hy hR
theorem c_none_le : DeclinesC prog w A E s (cmpInfo .LtE).2.1 Value.none y :=
  declC_of (T := "NoneType") rfl F.slot_NoneType_le F.entry_NoneType_le (F.args_NoneType_le_2 _ _) fun E' R hR => by
    unfold Builtin.«NoneType.__le__»
    exact wpAny_bind (wpAny_of_eq (a := (Value.none, [Value.ref y])) rfl (wpAny_pure (hR _)))
theorem c_str_le {z : Str} (hy : s.heap.get? y = some (instObj C dx)) : DeclinesC prog w A E s (cmpInfo .LtE).2.1 (Value.str z u) y :=
  declC_of (T := "str") rfl F.slot_str_le F.entry_str_le (F.args_str_le_2 _ _) fun E' R hR => by
    unfold Builtin.«str.__le__»
    exact str_no hy hR
theorem c_tup_le {a : Addr} {oa : Obj} (X : K.In s.heap) (J : InstAt s.heap y oy C oe) (hs : subIn K (.ref C) (.type "tuple") = some false) (ha : s.heap.get? a = some oa) (hc : oa.cls = .type "tuple") : DeclinesC prog w A E s (cmpInfo .LtE).2.1 (Value.ref a) y :=
  declC_of (T := "tuple") ⟨_, ha, hc⟩ F.slot_tuple_le F.entry_tuple_le (F.args_tuple_le_2 _ _) fun E' R hR => by
    unfold Builtin.«tuple.__le__»
    refine wpAny_bind (wpAny_of_eq (a := (Value.ref a, [Value.ref y])) rfl ?_)
    dsimp only
    refine wpAny_bind (inst_no X J hs ?_)
    exact wpAny_pure (hR _)
theorem c_lst_le {a : Addr} {oa : Obj} (X : K.In s.heap) (J : InstAt s.heap y oy C oe) (hs : subIn K (.ref C) (.type "list") = some false) (ha : s.heap.get? a = some oa) (hc : oa.cls = .type "list") : DeclinesC prog w A E s (cmpInfo .LtE).2.1 (Value.ref a) y :=
  declC_of (T := "list") ⟨_, ha, hc⟩ F.slot_list_le F.entry_list_le (F.args_list_le_2 _ _) fun E' R hR => by
    unfold Builtin.«list.__le__»
    refine wpAny_bind (wpAny_of_eq (a := (Value.ref a, [Value.ref y])) rfl ?_)
    dsimp only
    refine wpAny_bind (inst_no X J hs ?_)
    exact wpAny_pure (hR _)

theorem c_int_gt (hy : s.heap.get? y = some (instObj C dx)) : DeclinesC prog w A E s (cmpInfo .Gt).2.1 (Value.int i u) y :=
  declC_of (typeIs_int _ _ _) F.slot_int_gt F.entry_int_gt (F.args_int_gt_2 _ _) fun E' R hR => by
    unfold Builtin.«int.__gt__»
    exact bin_no hy hR
theorem c_bool_gt {b : Bool} (hy : s.heap.get? y = some (instObj C dx)) : DeclinesC prog w A E s (cmpInfo .Gt).2.1 (Value.bool b) y :=
  declC_of (T := "bool") rfl F.slot_bool_gt F.entry_int_gt (F.args_int_gt_2 _ _) fun E' R hR => by
    unfold Builtin.«int.__gt__»
    exact bin_noB hy hR
theorem c_none_gt : DeclinesC prog w A E s (cmpInfo .Gt).2.1 Value.none y :=
  declC_of (T := "NoneType") rfl F.slot_NoneType_gt F.entry_NoneType_gt (F.args_NoneType_gt_2 _ _) fun E' R hR => by
    unfold Builtin.«NoneType.__gt__»
    exact wpAny_bind (wpAny_of_eq (a := (Value.none, [Value.ref y])) rfl (wpAny_pure (hR _)))
theorem c_str_gt {z : Str} (hy : s.heap.get? y = some (instObj C dx)) : DeclinesC prog w A E s (cmpInfo .Gt).2.1 (Value.str z u) y :=
  declC_of (T := "str") rfl F.slot_str_gt F.entry_str_gt (F.args_str_gt_2 _ _) fun E' R hR => by
    unfold Builtin.«str.__gt__»
    exact str_no hy hR
theorem c_tup_gt {a : Addr} {oa : Obj} (X : K.In s.heap) (J : InstAt s.heap y oy C oe) (hs : subIn K (.ref C) (.type "tuple") = some false) (ha : s.heap.get? a = some oa) (hc : oa.cls = .type "tuple") : DeclinesC prog w A E s (cmpInfo .Gt).2.1 (Value.ref a) y :=
  declC_of (T := "tuple") ⟨_, ha, hc⟩ F.slot_tuple_gt F.entry_tuple_gt (F.args_tuple_gt_2 _ _) fun E' R hR => by
    unfold Builtin.«tuple.__gt__»
    refine wpAny_bind (wpAny_of_eq (a := (Value.ref a, [Value.ref y])) rfl ?_)
    dsimp only
    refine wpAny_bind (inst_no X J hs ?_)
    exact wpAny_pure (hR _)
theorem c_lst_gt {a : Addr} {oa : Obj} (X : K.In s.heap) (J : InstAt s.heap y oy C oe) (hs : subIn K (.ref C) (.type "list") = some false) (ha : s.heap.get? a = some oa) (hc : oa.cls = .type "list") : DeclinesC prog w A E s (cmpInfo .Gt).2.1 (Value.ref a) y :=
  declC_of (T := "list") ⟨_, ha, hc⟩ F.slot_list_gt F.entry_list_gt (F.args_list_gt_2 _ _) fun E' R hR => by
    unfold Builtin.«list.__gt__»
    refine wpAny_bind (wpAny_of_eq (a := (Value.ref a, [Value.ref y])) rfl ?_)
    dsimp only
    refine wpAny_bind (inst_no X J hs ?_)
    exact wpAny_pure (hR _)

theorem c_int_ge (hy : s.heap.get? y = some (instObj C dx)) : DeclinesC prog w A E s (cmpInfo .GtE).2.1 (Value.int i u) y :=
  declC_of (typeIs_int _ _ _) F.slot_int_ge F.entry_int_ge (F.args_int_ge_2 _ _) fun E' R hR => by
    unfold Builtin.«int.__ge__»
    exact bin_no hy hR
theorem c_bool_ge {b : Bool} (hy : s.heap.get? y = some (instObj C dx)) : DeclinesC prog w A E s (cmpInfo .GtE).2.1 (Value.bool b) y :=
  declC_of (T := "bool") rfl F.slot_bool_ge F.entry_int_ge (F.args_int_ge_2 _ _) fun E' R hR => by
    unfold Builtin.«int.__ge__»
    exact bin_noB hy hR
theorem c_none_ge : DeclinesC prog w A E s (cmpInfo .GtE).2.1 Value.none y :=
  declC_of (T := "NoneType") rfl F.slot_NoneType_ge F.entry_NoneType_ge (F.args_NoneType_ge_2 _ _) fun E' R hR => by
    unfold Builtin.«NoneType.__ge__»
    exact wpAny_bind (wpAny_of_eq (a := (Value.none, [Value.ref y])) rfl (wpAny_pure (hR _)))
theorem c_str_ge {z : Str} (hy : s.heap.get? y = some (instObj C dx)) : DeclinesC prog w A E s (cmpInfo .GtE).2.1 (Value.str z u) y :=
  declC_of (T := "str") rfl F.slot_str_ge F.entry_str_ge (F.args_str_ge_2 _ _) fun E' R hR => by
    unfold Builtin.«str.__ge__»
    exact str_no hy hR
theorem c_tup_ge {a : Addr} {oa : Obj} (X : K.In s.heap) (J : InstAt s.heap y oy C oe) (hs : subIn K (.ref C) (.type "tuple") = some false) (ha : s.heap.get? a = some oa) (hc : oa.cls = .type "tuple") : DeclinesC prog w A E s (cmpInfo .GtE).2.1 (Value.ref a) y :=
  declC_of (T := "tuple") ⟨_, ha, hc⟩ F.slot_tuple_ge F.entry_tuple_ge (F.args_tuple_ge_2 _ _) fun E' R hR => by
    unfold Builtin.«tuple.__ge__»
    refine wpAny_bind (wpAny_of_eq (a := (Value.ref a, [Value.ref y])) rfl ?_)
    dsimp only
    refine wpAny_bind (inst_no X J hs ?_)
    exact wpAny_pure (hR _)
theorem c_lst_ge {a : Addr} {oa : Obj} (X : K.In s.heap) (J : InstAt s.heap y oy C oe) (hs : subIn K (.ref C) (.type "list") = some false) (ha : s.heap.get? a = some oa) (hc : oa.cls = .type "list") : DeclinesC prog w A E s (cmpInfo .GtE).2.1 (Value.ref a) y :=
  declC_of (T := "list") ⟨_, ha, hc⟩ F.slot_list_ge F.entry_list_ge (F.args_list_ge_2 _ _) fun E' R hR => by
    unfold Builtin.«list.__ge__»
    refine wpAny_bind (wpAny_of_eq (a := (Value.ref a, [Value.ref y])) rfl ?_)
    dsimp only
    refine wpAny_bind (inst_no X J hs ?_)
    exact wpAny_pure (hR _)

theorem c_int_eq (hy : s.heap.get? y = some (instObj C dx)) : DeclinesC prog w A E s (cmpInfo .Eq).2.1 (Value.int i u) y :=
  declC_of (typeIs_int _ _ _) F.slot_int_eq F.entry_int_eq (F.args_int_eq_2 _ _) fun E' R hR => by
    unfold Builtin.«int.__eq__»
    exact bin_no hy hR
theorem dic_no {nm : String} {a : Addr} (hT : s.TypeIs (.ref a) "dict") {R : Fin → Shared → Prop} (hR : ∀ t, R (.done (.ret .notImplemented)) { s with toks := t }) : wpAny (model prog w) A (do
    let _ ← Builtin.Dict.dictSlotArgs nm ⟨[Value.ref a, Value.ref y], []⟩
    ret .notImplemented) R E s := by
  refine wpAny_bind ?_
  unfold Builtin.Dict.dictSlotArgs
  refine wpAny_bind (wpAny_notOrdered_dict hT ?_)
  refine wpAny_bind (wpAny_of_eq (a := (Value.ref a, [Value.ref y])) rfl ?_)
  exact wpAny_pure (wpAny_pure (hR _))
theorem c_dic_lt {a : Addr} {oa : Obj} (ha : s.heap.get? a = some oa) (hc : oa.cls = .type "dict") : DeclinesC prog w A E s (cmpInfo .Lt).2.1 (Value.ref a) y :=
  declC_of (T := "dict") ⟨_, ha, hc⟩ F.slot_dict_lt F.entry_dict_lt (F.args_dict_lt_2 _ _) fun E' R hR => by
    exact dic_no (nm := "__lt__") ⟨_, ha, hc⟩ hR
theorem c_dic_le {a : Addr} {oa : Obj} (ha : s.heap.get? a = some oa) (hc : oa.cls = .type "dict") : DeclinesC prog w A E s (cmpInfo .LtE).2.1 (Value.ref a) y :=
  declC_of (T := "dict") ⟨_, ha, hc⟩ F.slot_dict_le F.entry_dict_le (F.args_dict_le_2 _ _) fun E' R hR => by
    exact dic_no (nm := "__le__") ⟨_, ha, hc⟩ hR
theorem c_dic_gt {a : Addr} {oa : Obj} (ha : s.heap.get? a = some oa) (hc : oa.cls = .type "dict") : DeclinesC prog w A E s (cmpInfo .Gt).2.1 (Value.ref a) y :=
  declC_of (T := "dict") ⟨_, ha, hc⟩ F.slot_dict_gt F.entry_dict_gt (F.args_dict_gt_2 _ _) fun E' R hR => by
    exact dic_no (nm := "__gt__") ⟨_, ha, hc⟩ hR
theorem c_dic_ge {a : Addr} {oa : Obj} (ha : s.heap.get? a = some oa) (hc : oa.cls = .type "dict") : DeclinesC prog w A E s (cmpInfo .GtE).2.1 (Value.ref a) y :=
  declC_of (T := "dict") ⟨_, ha, hc⟩ F.slot_dict_ge F.entry_dict_ge (F.args_dict_ge_2 _ _) fun E' R hR => by
    exact dic_no (nm := "__ge__") ⟨_, ha, hc⟩ hR
/-- a built-in value on the left, an own instance on the right -/
theorem cmp_right {op : CmpOp} {a : Value} {Q : Value → Shared → Prop} (hu : A.units < cLine) (X : K.In s.heap) (J : InstAt s.heap y oy C oe) (ha : s.TypeIs a T) (hsub : subIn K (.ref C) (.type T) = some false)
    (no : DeclinesC prog w A E s (cmpInfo op).2.1 a y) (hs : findIn K (.ref C) (cmpInfo op).2.2 = some (some (.ref g))) (hg : isFn K (.ref g) = true)
    (h : ∀ t, wpAny (model prog w) A (call (.ref g) [.ref y, a]) (W.CmpBack Q) E { s with toks := t }) : wpAny (model prog w) A (richCompare op a (.ref y)) Q E s := by
  have one : ∀ t, wpAny (model prog w) A (tryCompare (.ref y) (cmpInfo op).2.2 a) (fun r s' => ∃ v, r = some v ∧ Q v s') E { s with toks := t } := fun t => by
    unfold tryCompare
    refine wpAny_bind (ifBound_K (s := { s with toks := t }) X J hs hg (wpAny_mono (h t) (fun v s' hv => ?_) fun _ _ e => e))
    cases v <;> first | exact hv.elim | exact wpAny_pure ⟨_, rfl, hv⟩
  unfold richCompare
  simp only [ha.oneThing_none]
  refine wpAny_holding (wpAny_bind (wpAny_cRoomFor hu ?_))
  refine wpAny_bind (wpAny_typeOf ha (wpAny_bind (J.type.here ?_)))
  have hne : (Value.type T != Value.ref C) = true := rfl
  simp only [hne, if_true]
  refine wpAny_bind ((looks_subIn X hsub).here ?_)
  simp only [Bool.false_eq_true, if_false, Bool.not_false, if_true]
  refine wpAny_bind (no _ fun t => ?_)
  dsimp only
  refine wpAny_bind (wpAny_mono (one t) (fun r s' z => ?_) fun _ _ e => e)
  obtain ⟨v, rfl, hq⟩ := z
  exact wpAny_pure hq
end
end Oo

set_option Elab.async false
set_option linter.all false
set_option maxRecDepth 100000
set_option maxHeartbeats 1000000
namespace Oo
open PySem PySem.Spec PyProof.Rows L2
/-- a built-in value, its type -/
inductive Bt (H : Hp) : V → String → Prop where
  | non : Bt H .non "NoneType"
  | bl (b : Bool) : Bt H (.bl b) "bool"
  | int (i : Int) : Bt H (.int i) "int"
  | str (z : Str) : Bt H (.str z) "str"
  | lst {a : Addr} {xs : List V} (e : H a = some (.lst xs)) : Bt H (.ref a) "list"
  | tup {a : Addr} {xs : List V} (e : H a = some (.tup xs)) : Bt H (.ref a) "tuple"
  | dK {a : Addr} {kvs : List (Key × V)} (e : H a = some (.dK kvs)) : Bt H (.ref a) "dict"
def seven : List String := ["NoneType", "bool", "int", "str", "list", "tuple", "dict"]
theorem Bt.mem {H : Hp} {x : V} {T : String} (b : Bt H x T) : T ∈ seven := by cases b <;> decide
theorem Bt.ty {K : W.Frag} {H : Hp} {x : V} {T : String} (b : Bt H x T) : TyX K H x (.type T) := .base (by
  cases b with
  | non => exact .non
  | bl b => exact .bl b
  | int i => exact .int i
  | str z => exact .str z
  | lst e => exact .lst e
  | tup e => exact .tup e
  | dK e => exact .dK e)
theorem Bt.ext {H H' : Hp} {x : V} {T : String} (b : Bt H x T) (e : ∀ a o, H a = some o → H' a = some o) : Bt H' x T := by
  cases b with
  | non => exact .non
  | bl b => exact .bl b
  | int i => exact .int i
  | str z => exact .str z
  | lst h => exact .lst (e _ _ h)
  | tup h => exact .tup (e _ _ h)
  | dK h => exact .dK (e _ _ h)
section
variable {X : Cx} {CX : CXT} {pins : List (Addr × Obj)} {σ : L2.St} {H : Hp} {s : Shared} {C f g : Addr} {k : Nat} {sp sq : Sp} {E : XK} {fd gd : FuncData} {ps qs : List Str} {T : String} {K : W.Frag}
theorem Bt.is {x : V} {v : Value} (I : Inv X pins σ H s) (rx : RelV x v) (b : Bt H x T) : s.TypeIs v T := by
  cases b with
  | non => cases (show v = Value.none from rx); rfl
  | bl b => cases (show v = Value.bool b from rx); rfl
  | int i => obtain ⟨t, rfl⟩ := (show ∃ t, v = Value.int i t from rx); rfl
  | str z => obtain ⟨t, rfl⟩ := (show ∃ t, v = Value.str z t from rx); rfl
  | @lst a xs e =>
    cases (show v = Value.ref a from rx)
    obtain ⟨_, _, n, _, h1⟩ := (show ObjOk X.prog X.w H s.heap a (.lst xs) from I.hok a _ e)
    exact ⟨_, h1, rfl⟩
  | @tup a xs e =>
    cases (show v = Value.ref a from rx)
    obtain ⟨_, _, _, o, h1, h2, _⟩ := (show ObjOk X.prog X.w H s.heap a (.tup xs) from I.hok a _ e)
    exact ⟨o, h1, h2⟩
  | @dK a kvs e =>
    cases (show v = Value.ref a from rx)
    obtain ⟨_, _, vs, _, o, es, ep, h1, h2, _⟩ := (show ObjOk X.prog X.w H s.heap a (.dK kvs) from I.hok a _ e)
    exact ⟨o, h1, h2.1⟩
theorem is_keeps {s s' : Shared} {v : Value} (h : s.TypeIs v T) (kp : ∀ b o, s.heap.get? b = some o → s'.heap.get? b = some o) : s'.TypeIs v T := by
  cases v with
  | ref a =>
    obtain ⟨o, e, c⟩ := h
    exact ⟨o, kp _ _ e, c⟩
  | _ => exact h
/-- a class right below object -/
def Plain (K : W.Frag) (C : Addr) : Prop := ∃ cd, W.clsIn K C = some cd ∧ cd.mro = [.ref C, .type "object"]
theorem sub_C (p : Plain K C) (h : T ≠ "object") : W.subIn K (.ref C) (.type T) = some false := by
  obtain ⟨cd, e, m⟩ := p
  show W.mroIn K C (.type T) = _
  unfold W.mroIn
  rw [e]
  show (if cd.mro.isEmpty then none else some (cd.mro.contains (.type T))) = _
  rw [m]
  show some ([Value.ref C, Value.type "object"].contains (.type T)) = some false
  congr 1
  rw [Bool.eq_false_iff]
  intro z
  rw [List.contains_iff_mem] at z
  simp at z
  exact h z
theorem sub_T (h : T ∈ seven) : W.subIn K (.type T) (.ref C) = some false := by
  have key : ∀ l : List String, (l.map Value.type).contains (.ref C) = false := fun l => by
    rw [Bool.eq_false_iff]
    intro z
    rw [List.contains_iff_mem] at z
    obtain ⟨a, _, e⟩ := List.mem_map.mp z
    cases e
  have m : ∀ {T : String} {l : List String}, fastBuiltinMro T = some (l.map Value.type) → W.subIn K (.type T) (.ref C) = some false := fun {T l} e => by
    show (fastBuiltinMro T).map (·.contains (.ref C)) = _
    rw [e]
    exact congrArg some (key l)
  simp only [seven, List.mem_cons, List.not_mem_nil, or_false] at h
  rcases h with rfl | rfl | rfl | rfl | rfl | rfl | rfl
  · exact m (l := ["NoneType", "object"]) (by decide +kernel)
  · exact m (l := ["bool", "int", "object"]) (by decide +kernel)
  · exact m (l := ["int", "object"]) (by decide +kernel)
  · exact m (l := ["str", "object"]) (by decide +kernel)
  · exact m (l := ["list", "object"]) (by decide +kernel)
  · exact m (l := ["tuple", "object"]) (by decide +kernel)
  · exact m (l := ["dict", "object"]) (by decide +kernel)
theorem not_obj (h : T ∈ seven) : T ≠ "object" := fun e => by
  subst e
  revert h
  decide
theorem kit_no (h : T ∈ seven) (ks : (W.clsIn K C).isSome = true) (kt : W.typeIn K (.ref C) = some (.type "type")) : W.kitOne K (.type T) (.ref C) = some false := by
  unfold W.kitOne
  rw [if_neg (by simp)]
  unfold W.kitCls
  simp only [ks, kt, Bool.true_and, beq_self_eq_true, if_true]
  exact sub_T h
/-! ### comparisons -/
def Four (op : CmpOp) : Prop := op = .Lt ∨ op = .LtE ∨ op = .Gt ∨ op = .GtE
theorem four_rich {op : CmpOp} (h : Four op) {M : Model} {A : Around} {E : Value → Shared → Prop} {a b : Value} {Q : Value → Shared → Prop} (z : wpAny M A (richCompare op a b) Q E s) : wpAny M A (compareOp op a b) Q E s := by
  rcases h with rfl | rfl | rfl | rfl <;> exact z
/-- an own instance on the left -/
def rCmpL (C : Addr) (sp : Sp) (E : XK) : R2 := fun x y H Q => ∃ a dx fs, x = .ref a ∧ H a = some (.ins C dx fs) ∧ ((∃ b dy gs, y = .ref b ∧ H b = some (.ins C dy gs)) ∨ ∃ T, Bt H y T) ∧ sp [x, y] H Q E
theorem op_cmpL {op : CmpOp} (h6 : ∀ (M : Model) (A : Around) (E : Value → Shared → Prop) (s : Shared) (a b : Value) (Q : Value → Shared → Prop), wpAny M A (richCompare op a b) Q E s → wpAny M A (compareOp op a b) Q E s)
    (hs : W.findIn X.K (.ref C) (cmpInfo op).2.1 = some (some (.ref f))) (hf : W.isFn X.K (.ref f) = true) (F : FnOk X.prog X.w X.K X.mg X.base CX k f fd ps sp) (hb : Binds X.K fd ps []) (hx : Passes CX X E) (hr : Room k X.A) :
    OpR X (compareOp op) (rCmpL C sp E) := fun pins s σ H x y v u Q I rx ry h => by
  obtain ⟨a, dx, fs, rfl, ha, hy, z⟩ := h
  cases (show v = Value.ref a from rx)
  obtain ⟨od, J, _⟩ := inst_at I ha
  obtain ⟨m, hF⟩ := I.fr
  refine h6 _ _ _ _ _ _ _ ?_
  have go := wpAny_mono (run_fn (E := E) (us := [.ref a, u]) (vs := [.ref a, y]) F hr hb .nil hx I (.cons rfl (.cons ry .nil)) (by simpa using z)) (fun v' s' ⟨z', H', I', rz, qz⟩ => SlX.cmpback (P := EP X pins σ Q) rz ⟨z', H', I', rz, qz⟩) fun _ _ z => z
  rcases hy with ⟨b, dy, gs, rfl, hb2⟩ | ⟨T, bt⟩
  · cases (show u = Value.ref b from ry)
    obtain ⟨oe, J2, _⟩ := inst_at I hb2
    refine W.cmp_K (op := op) (tb := .ref C) hr.units0 hF I.ok.mod.kin J J2.type ?_ hs hf go
    unfold W.notFirst
    rw [beq_self_eq_true]
    rfl
  · refine W.cmp_K (op := op) (tb := .type T) hr.units0 hF I.ok.mod.kin J (fun A Q E s' kp q => wpAny_typeOf (is_keeps (bt.is I ry) kp) q) ?_ hs hf go
    unfold W.notFirst
    rw [sub_T bt.mem]
    simp
theorem decl_any {op : CmpOp} (h4 : Four op) {x : V} {v : Value} {b dy : Addr} {oe : Option Obj} (p : Plain X.K C) (I : Inv X pins σ H s) (rx : RelV x v) (bt : Bt H x T) (J : W.InstAt s.heap b (W.instObj C dy) C oe) {E' : Value → Shared → Prop} :
    DeclinesC X.prog X.w X.A E' s (cmpInfo op).2.1 v b := by
  have hy := J.at_
  cases bt with
  | non =>
    cases (show v = Value.none from rx)
    rcases h4 with rfl | rfl | rfl | rfl
    · exact c_none_lt
    · exact c_none_le
    · exact c_none_gt
    · exact c_none_ge
  | bl c =>
    cases (show v = Value.bool c from rx)
    rcases h4 with rfl | rfl | rfl | rfl
    · exact c_bool_lt hy
    · exact c_bool_le hy
    · exact c_bool_gt hy
    · exact c_bool_ge hy
  | int i =>
    obtain ⟨t, rfl⟩ := (show ∃ t, v = Value.int i t from rx)
    rcases h4 with rfl | rfl | rfl | rfl
    · exact c_int_lt hy
    · exact c_int_le hy
    · exact c_int_gt hy
    · exact c_int_ge hy
  | str z =>
    obtain ⟨t, rfl⟩ := (show ∃ t, v = Value.str z t from rx)
    rcases h4 with rfl | rfl | rfl | rfl
    · exact c_str_lt hy
    · exact c_str_le hy
    · exact c_str_gt hy
    · exact c_str_ge hy
  | @lst a xs e =>
    cases (show v = Value.ref a from rx)
    obtain ⟨_, _, n, _, h1⟩ := (show ObjOk X.prog X.w H s.heap a (.lst xs) from I.hok a _ e)
    have hs := sub_C (K := X.K) (T := "list") p (by decide)
    rcases h4 with rfl | rfl | rfl | rfl
    · exact c_lst_lt I.kIn J hs h1 rfl
    · exact c_lst_le I.kIn J hs h1 rfl
    · exact c_lst_gt I.kIn J hs h1 rfl
    · exact c_lst_ge I.kIn J hs h1 rfl
  | @tup a xs e =>
    cases (show v = Value.ref a from rx)
    obtain ⟨_, _, _, o, h1, h2, _⟩ := (show ObjOk X.prog X.w H s.heap a (.tup xs) from I.hok a _ e)
    have hs := sub_C (K := X.K) (T := "tuple") p (by decide)
    rcases h4 with rfl | rfl | rfl | rfl
    · exact c_tup_lt I.kIn J hs h1 h2
    · exact c_tup_le I.kIn J hs h1 h2
    · exact c_tup_gt I.kIn J hs h1 h2
    · exact c_tup_ge I.kIn J hs h1 h2
  | @dK a kvs e =>
    cases (show v = Value.ref a from rx)
    obtain ⟨_, _, vs, _, o, es, ep, h1, h2, _⟩ := (show ObjOk X.prog X.w H s.heap a (.dK kvs) from I.hok a _ e)
    rcases h4 with rfl | rfl | rfl | rfl
    · exact c_dic_lt h1 h2.1
    · exact c_dic_le h1 h2.1
    · exact c_dic_gt h1 h2.1
    · exact c_dic_ge h1 h2.1
/-- a built-in value on the left, an own instance on the right -/
def rCmpR (C : Addr) (sq : Sp) (E : XK) : R2 := fun x y H Q => ∃ b dy gs T, y = .ref b ∧ H b = some (.ins C dy gs) ∧ Bt H x T ∧ sq [y, x] H Q E
theorem op_cmpR {op : CmpOp} (h4 : Four op) (p : Plain X.K C) (hs : W.findIn X.K (.ref C) (cmpInfo op).2.2 = some (some (.ref g))) (hf : W.isFn X.K (.ref g) = true) (G : FnOk X.prog X.w X.K X.mg X.base CX k g gd qs sq) (hb : Binds X.K gd qs []) (hx : Passes CX X E) (hr : Room k X.A) :
    OpR X (compareOp op) (rCmpR C sq E) := fun pins s σ H x y v u Q I rx ry h => by
  obtain ⟨b, dy, gs, T, rfl, hb2, bt, z⟩ := h
  cases (show u = Value.ref b from ry)
  obtain ⟨oe, J2, e2⟩ := inst_at I hb2
  refine four_rich h4 ?_
  refine cmp_right hr.units0 I.kIn J2 (bt.is I rx) (sub_C p (not_obj bt.mem)) (decl_any h4 p I rx bt J2) hs hf fun t => ?_
  have I2 : Inv X pins σ H { s with toks := t } := I.tok t
  exact wpAny_mono (run_fn (E := E) (us := [.ref b, v]) (vs := [.ref b, x]) G hr hb .nil hx I2 (.cons rfl (.cons rx .nil)) (by simpa using z)) (fun v' s' ⟨z', H', I', rz, qz⟩ => SlX.cmpback (P := EP X pins σ Q) rz ⟨z', H', I', rz, qz⟩) fun _ _ z => z
end
end Oo

set_option Elab.async false
set_option linter.all false
set_option maxRecDepth 100000
set_option maxHeartbeats 1000000
/-! Operators of an own instance and any built-in value. -/
namespace Oo
open PySem PySem.Spec PySem.W PyProof.Rows
section
variable {prog : Program} {w : World} {A : Around} {E : Value → Shared → Prop} {s : Shared} {K : Frag} {x y C f g : Addr} {ox oy : Obj} {od oe : Option Obj} {nm T : String}
theorem b1_leftL {b : Value} {fo ro rc : Option Value} {Q : Value → Shared → Prop} (X : K.In s.heap) (I : InstAt s.heap x ox C od) (hb : s.TypeIs b T) (hc : selfFirst K C = true)
    (hs : findIn K (.ref C) (PySem.dunder nm) = some (some (.ref f))) (hf : isFn K (.ref f) = true) (hr : findIn K (.ref C) (dunderR nm) = some rc) (hp : rc = none ∨ ∃ g : Addr, rc = some (.ref g))
    (h1 : findIn K (.type T) (PySem.dunder nm) = some fo) (h2 : findIn K (.type T) (dunderR nm) = some ro) (hsub : subIn K (.type T) (.ref C) = some false)
    (h : wpAny (model prog w) A (call (.ref f) [.ref x, b]) (W.CmpBack Q) E s) : wpAny (model prog w) A (binaryOp1 nm (.ref x) b) (fun r s' => ∃ v, r = some v ∧ Q v s') E s := by
  obtain ⟨cd, rest, hcd, hm⟩ := ksp_first hc
  have one := ksp_try X I hs hf h
  obtain ⟨hh, gg, d, tt, os⟩ := s
  have L1 : Looks (model prog w) hh (typeOf (.ref x)) (.ref C) := I.type
  have L2 : Looks (model prog w) hh (typeOf b) (.type T) := fun A Q E s' kp q => wpAny_typeOf (is_keeps hb kp) q
  have L3 : Looks (model prog w) hh (fillsNumberSlot (.ref C) nm) true := fills_K X hcd hm hs
  have L4 : Looks (model prog w) hh (fillsNumberSlot (.type T) nm) ((fo.isSome && !isSeqSlot fo) || (ro.isSome && !isSeqSlot ro)) := ksp_fillsT X h1 h2
  have L5 : Looks (model prog w) hh (isSubtype (.type T) (.ref C)) false := looks_subIn X hsub
  have L6 : Looks (model prog w) hh (numberSlotInPython (.ref C) nm) true := ksp_inPy X hs hr hp
  have L7 : Looks (model prog w) hh (numberSlotInPython (.type T) nm) false := Looks.of_pure rfl
  have L8 : Looks (model prog w) hh (typeLookup (.type T) (dunderR nm)) ro := looks_findIn X h2
  generalize ((fo.isSome && !isSeqSlot fo) || (ro.isSome && !isSeqSlot ro)) = right at L4
  have hne : (Value.ref C == Value.type T) = false := Bool.eq_false_iff.mpr fun q => by cases beq_iff_eq.mp q
  unfold binaryOp1
  refine wpAny_bind (L1.at (wpAny_bind (L2.at (wpAny_bind (L3.at ?_)))))
  simp only [hne, Bool.false_eq_true, if_false]
  cases right with
  | false =>
    ksp_lk
    refine wpAny_mono one (fun r s' hr' => ?_) fun _ _ e => e
    obtain ⟨v, rfl, hq⟩ := hr'
    ksp_lk
    exact ⟨v, rfl, hq⟩
  | true =>
    ksp_lk
    refine wpAny_mono one (fun r s' hr' => ?_) fun _ _ e => e
    obtain ⟨v, rfl, hq⟩ := hr'
    ksp_lk
    exact ⟨v, rfl, hq⟩

theorem b1_rightL {a : Value} {fo ro : Option Value} {Q : Value → Shared → Prop} (X : K.In s.heap) (J : InstAt s.heap y oy C oe) (ha : s.TypeIs a T) (hc : selfFirst K C = true)
    (hs : findIn K (.ref C) (PySem.dunder nm) = some (some (.ref f))) (hr : findIn K (.ref C) (dunderR nm) = some (some (.ref g))) (hg : isFn K (.ref g) = true)
    (h1 : findIn K (.type T) (PySem.dunder nm) = some fo) (h2 : findIn K (.type T) (dunderR nm) = some ro) (hsub : subIn K (.ref C) (.type T) = some false)
    (no : ((fo.isSome && !isSeqSlot fo) || (ro.isSome && !isSeqSlot ro)) = true → Declines prog w A E s nm a y)
    (h : ∀ t, wpAny (model prog w) A (call (.ref g) [.ref y, a]) (W.CmpBack Q) E { s with toks := t }) : wpAny (model prog w) A (binaryOp1 nm a (.ref y)) (fun r s' => ∃ v, r = some v ∧ Q v s') E s := by
  obtain ⟨cd, rest, hcd, hm⟩ := ksp_first hc
  have one : ∀ t, wpAny (model prog w) A (tryMethod (.ref y) (dunderR nm) a) (fun r s' => ∃ v, r = some v ∧ Q v s') E { s with toks := t } := fun t => ksp_try (s := { s with toks := t }) X J hr hg (h t)
  obtain ⟨hh, gg, d, tt, os⟩ := s
  have L1 : Looks (model prog w) hh (typeOf a) (.type T) := fun A Q E s' kp q => wpAny_typeOf (is_keeps ha kp) q
  have L2 : Looks (model prog w) hh (typeOf (.ref y)) (.ref C) := J.type
  have L3 : Looks (model prog w) hh (fillsNumberSlot (.ref C) nm) true := fills_K X hcd hm hs
  have L4 : Looks (model prog w) hh (fillsNumberSlot (.type T) nm) ((fo.isSome && !isSeqSlot fo) || (ro.isSome && !isSeqSlot ro)) := ksp_fillsT X h1 h2
  have L5 : Looks (model prog w) hh (isSubtype (.ref C) (.type T)) false := looks_subIn X hsub
  have L7 : Looks (model prog w) hh (numberSlotInPython (.type T) nm) false := Looks.of_pure rfl
  have hne : (Value.type T == Value.ref C) = false := Bool.eq_false_iff.mpr fun q => by cases beq_iff_eq.mp q
  generalize hl : ((fo.isSome && !isSeqSlot fo) || (ro.isSome && !isSeqSlot ro)) = left at L4 no
  unfold binaryOp1
  refine wpAny_bind (L1.at (wpAny_bind (L2.at (wpAny_bind (L4.at ?_)))))
  simp only [hne, Bool.false_eq_true, if_false]
  cases left with
  | false =>
    ksp_lk
    refine wpAny_mono (one tt) (fun r s' hr' => ?_) fun _ _ e => e
    obtain ⟨v, rfl, hq⟩ := hr'
    ksp_lk
    exact ⟨v, rfl, hq⟩
  | true =>
    ksp_lk
    refine no rfl _ fun t => ?_
    ksp_lk
    refine wpAny_mono (one t) (fun r s' hr' => ?_) fun _ _ e => e
    obtain ⟨v, rfl, hq⟩ := hr'
    ksp_lk
    exact ⟨v, rfl, hq⟩


variable {b : Bool} {dx : Addr}
theorem decl_ofB {id : String} {B : Builtin} (slot : Slot "bool" (PySem.dunder nm) id) (entry : entryFor table id = some B) (args : argsOk id ⟨[.bool b, .ref y], []⟩)
    (body : ∀ (E' : Value → Shared → Prop) (R : Fin → Shared → Prop), (∀ t, R (.done (.ret .notImplemented)) { s with toks := t }) → wpAny (model prog w) A.in1 (B ⟨[.bool b, .ref y], []⟩) R E' s) : Declines prog w A E s nm (.bool b) y := by
  intro R hR
  have hT : s.TypeIs (.bool b) "bool" := rfl
  unfold tryMethod
  refine wpAny_bind (wpAny_callSpecial?_slot hT slot (GQ.call_here slot hT entry args (body _ _ fun t => ?_)))
  exact wpAny_pure (hR t)
theorem pylong_noB {R : Unit → Shared → Prop} {M : Model} (hy : s.heap.get? y = some (instObj C dx)) (h : R () s) : wpAny M A (Builtin.exactOperandsForPylong false ⟨[Value.bool b, Value.ref y], []⟩) R E s := by
  unfold Builtin.exactOperandsForPylong
  refine wpAny_ite_true rfl ?_
  cases b
  · refine wpAny_bind (wpAny_of_eq (a := some 0) rfl ?_)
    refine wpAny_bind (asInt_inst hy ?_)
    exact wpAny_pure h
  · refine wpAny_bind (wpAny_of_eq (a := some 1) rfl ?_)
    refine wpAny_bind (asInt_inst hy ?_)
    exact wpAny_pure h
theorem add_noB {R : Fin → Shared → Prop} (hy : s.heap.get? y = some (instObj C dx)) (hR : ∀ t, R (.done (.ret .notImplemented)) { s with toks := t }) : wpAny (model prog w) A (Builtin.«int.__add__» ⟨[Value.bool b, Value.ref y], []⟩) R E s := by
  unfold Builtin.«int.__add__»
  exact bin_noB hy hR
theorem addB2 : entryFor table "int.__add__" = some Builtin.«int.__add__» := F.entry_int_add
theorem addB3 : argsOk "int.__add__" ⟨[Value.bool b, Value.ref y], []⟩ := F.args_int_add_2 _ _
theorem addBd' {B : Builtin} (hB : Builtin.«int.__add__» = B) (h2 : entryFor table "int.__add__" = some B) (hy : s.heap.get? y = some (instObj C dx)) : Declines prog w A E s "add" (Value.bool b) y :=
  decl_ofB (nm := "add") (id := "int.__add__") (B := B) (b := b) F.slot_bool_add h2 addB3 (hB ▸ fun E' R hR => add_noB hy hR)
theorem addBd (hy : s.heap.get? y = some (instObj C dx)) : Declines prog w A E s "add" (Value.bool b) y := addBd' rfl addB2 hy
theorem sub_noB {R : Fin → Shared → Prop} (hy : s.heap.get? y = some (instObj C dx)) (hR : ∀ t, R (.done (.ret .notImplemented)) { s with toks := t }) : wpAny (model prog w) A (Builtin.«int.__sub__» ⟨[Value.bool b, Value.ref y], []⟩) R E s := by
  unfold Builtin.«int.__sub__»
  exact bin_noB hy hR
theorem subB2 : entryFor table "int.__sub__" = some Builtin.«int.__sub__» := F.entry_int_sub
theorem subB3 : argsOk "int.__sub__" ⟨[Value.bool b, Value.ref y], []⟩ := F.args_int_sub_2 _ _
theorem subBd' {B : Builtin} (hB : Builtin.«int.__sub__» = B) (h2 : entryFor table "int.__sub__" = some B) (hy : s.heap.get? y = some (instObj C dx)) : Declines prog w A E s "sub" (Value.bool b) y :=
  decl_ofB (nm := "sub") (id := "int.__sub__") (B := B) (b := b) F.slot_bool_sub h2 subB3 (hB ▸ fun E' R hR => sub_noB hy hR)
theorem subBd (hy : s.heap.get? y = some (instObj C dx)) : Declines prog w A E s "sub" (Value.bool b) y := subBd' rfl subB2 hy
theorem mul_noB {R : Fin → Shared → Prop} (hy : s.heap.get? y = some (instObj C dx)) (hR : ∀ t, R (.done (.ret .notImplemented)) { s with toks := t }) : wpAny (model prog w) A (Builtin.«int.__mul__» ⟨[Value.bool b, Value.ref y], []⟩) R E s := by
  unfold Builtin.«int.__mul__»
  exact bin_noB hy hR
theorem mulB2 : entryFor table "int.__mul__" = some Builtin.«int.__mul__» := F.entry_int_mul
theorem mulB3 : argsOk "int.__mul__" ⟨[Value.bool b, Value.ref y], []⟩ := F.args_int_mul_2 _ _
theorem mulBd' {B : Builtin} (hB : Builtin.«int.__mul__» = B) (h2 : entryFor table "int.__mul__" = some B) (hy : s.heap.get? y = some (instObj C dx)) : Declines prog w A E s "mul" (Value.bool b) y :=
  decl_ofB (nm := "mul") (id := "int.__mul__") (B := B) (b := b) F.slot_bool_mul h2 mulB3 (hB ▸ fun E' R hR => mul_noB hy hR)
theorem mulBd (hy : s.heap.get? y = some (instObj C dx)) : Declines prog w A E s "mul" (Value.bool b) y := mulBd' rfl mulB2 hy
theorem mod_noB {R : Fin → Shared → Prop} (hy : s.heap.get? y = some (instObj C dx)) (hR : ∀ t, R (.done (.ret .notImplemented)) { s with toks := t }) : wpAny (model prog w) A (Builtin.«int.__mod__» ⟨[Value.bool b, Value.ref y], []⟩) R E s := by
  unfold Builtin.«int.__mod__»
  exact bin_noB hy hR
theorem modB2 : entryFor table "int.__mod__" = some Builtin.«int.__mod__» := F.entry_int_mod
theorem modB3 : argsOk "int.__mod__" ⟨[Value.bool b, Value.ref y], []⟩ := F.args_int_mod_2 _ _
theorem modBd' {B : Builtin} (hB : Builtin.«int.__mod__» = B) (h2 : entryFor table "int.__mod__" = some B) (hy : s.heap.get? y = some (instObj C dx)) : Declines prog w A E s "mod" (Value.bool b) y :=
  decl_ofB (nm := "mod") (id := "int.__mod__") (B := B) (b := b) F.slot_bool_mod h2 modB3 (hB ▸ fun E' R hR => mod_noB hy hR)
theorem modBd (hy : s.heap.get? y = some (instObj C dx)) : Declines prog w A E s "mod" (Value.bool b) y := modBd' rfl modB2 hy
theorem floordiv_noB {R : Fin → Shared → Prop} (hy : s.heap.get? y = some (instObj C dx)) (hR : ∀ t, R (.done (.ret .notImplemented)) { s with toks := t }) : wpAny (model prog w) A (Builtin.«int.__floordiv__» ⟨[Value.bool b, Value.ref y], []⟩) R E s := by
  unfold Builtin.«int.__floordiv__»
  exact wpAny_bind (pylong_noB hy (bin_noB hy hR))
theorem floordivB2 : entryFor table "int.__floordiv__" = some Builtin.«int.__floordiv__» := F.entry_int_floordiv
theorem floordivB3 : argsOk "int.__floordiv__" ⟨[Value.bool b, Value.ref y], []⟩ := F.args_int_floordiv_2 _ _
theorem floordivBd' {B : Builtin} (hB : Builtin.«int.__floordiv__» = B) (h2 : entryFor table "int.__floordiv__" = some B) (hy : s.heap.get? y = some (instObj C dx)) : Declines prog w A E s "floordiv" (Value.bool b) y :=
  decl_ofB (nm := "floordiv") (id := "int.__floordiv__") (B := B) (b := b) F.slot_bool_floordiv h2 floordivB3 (hB ▸ fun E' R hR => floordiv_noB hy hR)
theorem floordivBd (hy : s.heap.get? y = some (instObj C dx)) : Declines prog w A E s "floordiv" (Value.bool b) y := floordivBd' rfl floordivB2 hy
theorem decl_fiveB {op : Operator} (h : Five op) (hy : s.heap.get? y = some (instObj C dx)) : Declines prog w A E s op.info.2 (Value.bool b) y := by
  rcases h with rfl | rfl | rfl | rfl | rfl
  · exact addBd hy
  · exact subBd hy
  · exact mulBd hy
  · exact modBd hy
  · exact floordivBd hy
/-! ### what the built-in types have -/
def nm5 : List String := ["add", "sub", "mul", "mod", "floordiv"]
theorem seven_has : (seven.all fun T => nm5.all fun nm => (fastLookup T (PySem.dunder nm)).isSome && (fastLookup T (dunderR nm)).isSome) = true := by decide +kernel
/-- what no number slot of a type answers -/
def noSlot (T nm : String) : Bool := match fastLookup T (PySem.dunder nm), fastLookup T (dunderR nm) with
  | some fo, some ro => !((fo.isSome && !isSeqSlot fo) || (ro.isSome && !isSeqSlot ro))
  | _, _ => false
theorem seven_no : ((["NoneType", "list", "tuple", "dict"] : List String).all fun T => nm5.all fun nm => noSlot T nm) = true := by decide +kernel
theorem str_noS : ((["add", "sub", "mul", "floordiv"] : List String).all fun nm => noSlot "str" nm) = true := by decide +kernel
theorem five_mem {op : Operator} (h : Five op) : op.info.2 ∈ nm5 := by rcases h with rfl | rfl | rfl | rfl | rfl <;> decide
theorem has_of {op : Operator} (h5 : Five op) (h : T ∈ seven) : (∃ fo, findIn K (.type T) (PySem.dunder op.info.2) = some fo) ∧ ∃ ro, findIn K (.type T) (dunderR op.info.2) = some ro := by
  obtain ⟨a, b⟩ := Bool.and_eq_true_iff.mp (List.all_eq_true.mp (List.all_eq_true.mp seven_has T h) _ (five_mem h5))
  exact ⟨Option.isSome_iff_exists.mp a, Option.isSome_iff_exists.mp b⟩
end
end Oo
namespace Oo
open PySem PySem.Spec PyProof.Rows L2
section
variable {X : Cx} {CX : CXT} {pins : List (Addr × Obj)} {σ : L2.St} {H : Hp} {s : Shared} {C f : Addr} {g : Option Addr} {k : Nat} {sp sq : Sp} {E : XK} {fd gd : FuncData} {ps qs : List Str} {op : Operator}
/-- an own instance on the left, any built-in value on the right -/
def rBinL (C : Addr) (sp : Sp) (E : XK) : R2 := fun x y H Q => ∃ a dx fs T, x = .ref a ∧ H a = some (.ins C dx fs) ∧ Bt H y T ∧ sp [x, y] H Q E
theorem op_binL (h5 : Five op) (B : OwnBin X.K C op.info.2 f g) (F : FnOk X.prog X.w X.K X.mg X.base CX k f fd ps sp) (hb : Binds X.K fd ps []) (hx : Passes CX X E) (hr : Room k X.A) : OpR X (binaryOp op) (rBinL C sp E) := fun pins s σ H x y v u Q I rx ry h => by
  obtain ⟨a, dx, fs, T, rfl, ha, bt, q⟩ := h
  cases (show v = Value.ref a from rx)
  obtain ⟨od, J, _⟩ := inst_at I ha
  obtain ⟨⟨fo, h1⟩, ro, h2⟩ := has_of (K := X.K) h5 bt.mem
  refine bin_of (b1_leftL I.kIn J (bt.is I ry) B.sf B.hs B.hf B.hr ?_ h1 h2 (sub_T bt.mem) (wpAny_mono (run_fn (us := [.ref a, u]) (vs := [.ref a, y]) F hr hb .nil hx I (.cons rfl (.cons ry .nil)) (by simpa using q)) (fun z s' ⟨z', H', I', rz, q⟩ => SlX.cmpback rz ⟨z', H', I', rz, q⟩) fun _ _ z => z))
  cases g with
  | none => exact .inl rfl
  | some a => exact .inr ⟨a, rfl⟩
/-- any built-in value on the left, an own instance on the right; a text is not formatted -/
def rBinR (C : Addr) (sq : Sp) (E : XK) (nm : String) : R2 := fun x y H Q => ∃ b dy gs T, y = .ref b ∧ H b = some (.ins C dy gs) ∧ Bt H x T ∧ (T = "str" → nm ≠ "mod") ∧ sq [y, x] H Q E
theorem op_binR {g : Addr} (h5 : Five op) (B : OwnBin X.K C op.info.2 f (some g)) (G : FnOk X.prog X.w X.K X.mg X.base CX k g gd qs sq) (hb : Binds X.K gd qs []) (p : Plain X.K C) (hx : Passes CX X E) (hr : Room k X.A) : OpR X (binaryOp op) (rBinR C sq E op.info.2) := fun pins s σ H x y v u Q I rx ry h => by
  obtain ⟨b, dy, gs, T, rfl, hb2, bt, nm, q⟩ := h
  cases (show u = Value.ref b from ry)
  obtain ⟨oe, J2, e2⟩ := inst_at I hb2
  obtain ⟨⟨fo, h1⟩, ro, h2⟩ := has_of (K := X.K) h5 bt.mem
  have hr2 : W.findIn X.K (.ref C) (dunderR op.info.2) = some (some (.ref g)) := by rw [B.hr]; rfl
  have off : noSlot T op.info.2 = true → ((fo.isSome && !isSeqSlot fo) || (ro.isSome && !isSeqSlot ro)) = true → Declines X.prog X.w X.A X.xe s op.info.2 v b := fun n z => by
    unfold noSlot at n
    rw [show fastLookup T (PySem.dunder op.info.2) = some fo from h1, show fastLookup T (dunderR op.info.2) = some ro from h2] at n
    dsimp only at n
    rw [z] at n
    cases n
  refine bin_of (b1_rightL I.kIn J2 (bt.is I rx) B.sf B.hs hr2 (B.hg g rfl) h1 h2 (sub_C p (not_obj bt.mem)) ?_ fun t => ?_)
  · cases bt with
    | non => exact off (List.all_eq_true.mp (List.all_eq_true.mp seven_no "NoneType" (by decide)) _ (five_mem h5))
    | bl c =>
      cases (show v = Value.bool c from rx)
      exact fun _ => decl_fiveB h5 e2
    | int i =>
      obtain ⟨t, rfl⟩ := (show ∃ t, v = Value.int i t from rx)
      exact fun _ => decl_five h5 e2
    | str z =>
      refine off (List.all_eq_true.mp str_noS _ ?_)
      have := nm rfl
      rcases h5 with rfl | rfl | rfl | rfl | rfl
      · decide
      · decide
      · decide
      · exact absurd rfl this
      · decide
    | lst e => exact off (List.all_eq_true.mp (List.all_eq_true.mp seven_no "list" (by decide)) _ (five_mem h5))
    | tup e => exact off (List.all_eq_true.mp (List.all_eq_true.mp seven_no "tuple" (by decide)) _ (five_mem h5))
    | dK e => exact off (List.all_eq_true.mp (List.all_eq_true.mp seven_no "dict" (by decide)) _ (five_mem h5))
  · have I2 : Inv X pins σ H { s with toks := t } := I.tok t
    exact wpAny_mono (run_fn (us := [.ref b, v]) (vs := [.ref b, x]) G hr hb .nil hx I2 (.cons rfl (.cons rx .nil)) (by simpa using q)) (fun z s' ⟨z', H', I', rz, q⟩ => SlX.cmpback rz ⟨z', H', I', rz, q⟩) fun _ _ z => z
end
end Oo

set_option Elab.async false
set_option linter.all false
set_option maxRecDepth 100000
set_option maxHeartbeats 1000000
/-! == and != of an own instance and any value. -/
namespace Oo
open PySem PySem.Spec PySem.W PyProof.Rows
section
variable {prog : Program} {w : World} {A : Around} {E : Value → Shared → Prop} {s : Shared} {K : Frag} {x C f : Addr} {B : String} {bm : List Value} {b : Value} {T : String}
/-- what the own == says of b, turned -/
def Turned (prog : Program) (w : World) (A : Around) (E : Value → Shared → Prop) (f x : Addr) (b : Value) (R : Bool → Shared → Prop) (s : Shared) : Prop :=
  wpAny (model prog w) A (call (.ref f) [.ref x, b]) (fun v s' => ∃ c, v = .bool c ∧ R (!c) s') E s
theorem ne_entry {Q : Fin → Shared → Prop} (X : s.heap.OwnEqNoNe x C f B bm) (hu : A.units < cLine) (go : Turned prog w A E f x b (fun c s' => Q (.done (.ret (.bool c))) s') s) :
    wpAny (model prog w) A (Builtin.«object.__ne__» ⟨[.ref x, b], []⟩) Q E s := by
  obtain ⟨h, g, d, t, os⟩ := s
  have own := X.ownEq
  have first := wpAny_callSpecialIfBound?_own (A := A) (E := E) (M := model prog w) (args := [b]) (g := g) (d := d) (t := t) (os := os) own (Q := fun r s' => ∃ c, r = some (.bool c) ∧ Q (.done (.ret (.bool (!c)))) s')
    (wpAny_mono go (fun r s' hr => let ⟨c, e, q⟩ := hr; ⟨c, by rw [e], q⟩) fun _ _ e => e)
  unfold Builtin.«object.__ne__»
  repeat (first
    | with_reducible refine wpAny_cRoomFor hu ?_
    | (refine wpAny_bind (m := callSpecialIfBound? (.ref x) (Str.ofString "__eq__") [b]) (wpAny_mono first (fun r s' hr => by
        obtain ⟨c, rfl, hq⟩ := hr
        repeat (first | exact hq | exact wpAny_pure hq | exact wpAny_truthy_bool hq | (refine wpAny_bind (m := truthy (.bool _)) (wpAny_truthy_bool ?_)) | wp_step)) fun _ _ e => e))
    | wp_step)
theorem ne_try {Q : Option Value → Shared → Prop} (FB : CmpFacts B bm) (X : s.heap.OwnEqNoNe x C f B bm) (hu : A.units + 1 < cLine) (go : Turned prog w A.in1 E f x b (fun c s' => Q (some (.bool c)) s') s) :
    wpAny (model prog w) A (tryCompare (.ref x) "__ne__" b) Q E s := by
  obtain ⟨h, g, d, t, os⟩ := s
  obtain ⟨o, of, nm, q, N, bs, hdct, sn, sub, ab, col, dd, k0, k1, k2, k3, k5, nid, mN, yv, p1, p2, p3, p4, _, _, _, _, _, p5⟩ := id X
  simp only [tryCompare]
  have body : ∀ (R : Fin → Shared → Prop) (E' : Value → Shared → Prop), (∀ c s', Q (some (.bool c)) s' → R (.done (.ret (.bool c))) s') → (∀ e s', E e s' → E' e s') → wpAny (model prog w) A.in1 (Builtin.«object.__ne__» ⟨[.ref x, b], []⟩) R E' ⟨h, g, d, t, os⟩ := fun R E' hR hE =>
    ne_entry (A := A.in1) X hu (wpAny_mono go (fun v s' hv => let ⟨c, e, hq⟩ := hv; ⟨c, e, hR _ _ hq⟩) hE)
  refine wpAny_bind (wpAny_callSpecialIfBound?_inst p1 p2 p3 p4 p5 FB.mro FB.ne (wpAny_call (codeAny_call_builtin FB.ne.plain F.cmpEntry_ne
    (wpAny_check_slot_inst F.cmpKind_ne F.cmpSplit_ne (F.cmpArgs_ne _ _) FB.hasObject p1 p2 p3 (body _ _ (fun c s' hq => ?_) fun e s' z => z)))))
  first | exact wpAny_pure hq | exact wpAny_pure (wpAny_pure hq) | exact hq
theorem ne_rich {Q : Value → Shared → Prop} (FB : CmpFacts B bm) (X : s.heap.OwnEqNoNe x C f B bm) (hT : s.TypeIs b T) (sub : subIn K (.type T) (.ref C) = some false) (kin : K.In s.heap) (hu : A.units + 1 < cLine)
    (go : Turned prog w A.in1 E f x b (fun c s' => Q (.bool c) s') s) : wpAny (model prog w) A (richCompare .NotEq (.ref x) b) Q E s := by
  obtain ⟨h, g, d, t, os⟩ := s
  obtain ⟨o, of, nm, q, N, bs, hdct, sn, sb, ab, col, dd, k0, k1, k2, k3, k5, nid, mN, yv, p1, p2, _⟩ := id X
  unfold richCompare
  simp only [oneThing_ref]
  refine wpAny_holding (wpAny_bind (wpAny_cRoomFor (Nat.lt_of_succ_lt hu) ?_))
  rw [cmpInfo_NotEq]
  dsimp only
  refine wpAny_bind (wpAny_typeOf_ref p1 ?_)
  rw [p2]
  refine wpAny_bind (wpAny_typeOf hT ?_)
  have ne : (Value.ref C != Value.type T) = true := rfl
  simp only [ne, if_true]
  refine wpAny_bind ((looks_subIn kin sub).here ?_)
  simp only [Bool.false_eq_true, if_false]
  refine wpAny_bind (wpAny_mono (ne_try (Q := fun r s' => ∃ c, r = some (.bool c) ∧ Q (.bool c) s') FB X hu (wpAny_mono go (fun v s' hv => ?_) fun _ _ e => e)) (fun r s' hr => ?_) fun _ _ e => e)
  · obtain ⟨c, rfl, hq⟩ := hv
    exact ⟨c, rfl, _, rfl, hq⟩
  · obtain ⟨c, rfl, hq⟩ := hr
    exact wpAny_pure hq
end
end Oo

set_option Elab.async false
set_option linter.all false
set_option maxRecDepth 100000
set_option maxHeartbeats 1000000
set_option exponentiation.threshold 9000
/-! What is no number is refused. -/
namespace KA
open PySem PySem.Spec PyProof.Rows L2 Oo Gd Am
/-- refused: the error of the class at Wc, which tells v, lies in a heap where all stands on -/
def RefV (Wc : Addr) (v : V) (H : Hp) (E : XK) : Prop := ∀ (d : Addr) (H' : Hp), Am.Ext H H' → H d = none → H' d = some (.xd [("value", v)]) → E (.ref Wc) (some d) H'
theorem RefV.on {Wc : Addr} {v : V} {H H1 : Hp} {E : XK} (r : RefV Wc v H E) (e : Am.Ext H H1) : RefV Wc v H1 E := fun d H' x n h => r d H' (e.trans x) (e.gone n) h
theorem RefV.here {Wc : Addr} {v : V} {H : Hp} {E : XK} (r : RefV Wc v H E) : ∀ e d, H e = none → H d = none → d ≠ e → E (.ref Wc) (some d) (Gx.leftH H Wc e d [("value", v)]) := fun e d he hd ne => by
  obtain ⟨x1, x2⟩ := left_ext (Z := Wc) (fs := [("value", v)]) he hd
  exact r d _ x1 hd x2
/-- what the text says of an error that tells a value -/
structure Wr (K : W.Frag) (mg : Str → Option Value) (x : Str) (Wc : Addr) : Prop where
  e1 : Ge.E1 K Wc "value"
  mgW : mg x = some (.ref Wc)
  rs : ∀ {X : Cx}, X.K = K → Raises X (.ref Wc)
/-- no INTEGER, no Amount -/
def Odd (H : Hp) (v : V) : Prop := ∃ T, Bt H v T ∧ T ≠ "int"
theorem Odd.ext {H H' : Hp} {v : V} (o : Odd H v) (e : Am.Ext H H') : Odd H' v := let ⟨T, b, n⟩ := o; ⟨T, b.ext e, n⟩
/-- the class stands right below object -/
structure Kc (K : W.Frag) (C : Addr) : Prop where
  ks : (W.clsIn K C).isSome = true
  kt : W.typeIn K (.ref C) = some (.type "type")
  pl : Plain K C
theorem never_op {X : Cx} {f : Value → Value → Sem Value} : OpR X f (fun _ _ _ _ => False) := fun _ _ _ _ _ _ _ _ _ _ _ _ h => h.elim
theorem never_un {X : Cx} {f : Value → Sem Value} : UnR X f (fun _ _ _ => False) := fun _ _ _ _ _ _ _ _ _ h => h.elim
section
variable {P : Program} {w : World} {K : W.Frag} {mg : Str → Option Value} {base : Heap} {C Wc f : Addr} {fd : FuncData}
def spWholeO : Sp := fun vs H Q _ => ∃ v, vs = [v] ∧ Odd H v ∧ Q (.bl false) H
theorem ok_wholeO (fr : Frees mg) (F : Fun K "is_whole" "is_whole" (top 15) f fd) : FnOk P w K mg base CX0 1 f fd ["value"] spWholeO := by
  refine F.ok scWhole (fun vs H Q E h => ?_) (fun cdv A outer s H vs Q E hr h => ?_)
  · obtain ⟨v, rfl, _⟩ := h
    rfl
  · obtain ⟨v, rfl, ⟨T, bt, ni⟩, q⟩ := h
    refine ⟨_, pss_one (ps_ret (pe_and (pe_callB call_isi rfl (fr.h _ (by decide +kernel)) (by decide +kernel) (pa_cons (pv 0) (pa_cons (pe_bltn (v := V.ty "int") rfl (fr.h _ (by decide +kernel)) (by rfl) rfl) pa_nil)))
      (pe_one (pe_not (pe_callB call_isi rfl (fr.h _ (by decide +kernel)) (by decide +kernel) (pa_cons (pv 0) (pa_cons (pe_bltn (v := V.ty "bool") rfl (fr.h _ (by decide +kernel)) (by rfl) rfl) pa_nil))))))), ?_⟩
    cases bt with
    | int i => exact absurd rfl ni
    | bl b =>
      refine ⟨_, rfl, _, _, _, _, true, rfl, ClsV.ty "int", TyX.base (TyOf.bl b), kit_ty (by decide +kernel), true, rfl, ?_⟩
      exact ⟨_, rfl, _, _, _, _, true, rfl, ClsV.ty "bool", TyX.base (TyOf.bl b), kit_ty (by decide +kernel), true, rfl, q⟩
    | non => exact ⟨_, rfl, _, _, _, _, false, rfl, ClsV.ty "int", TyX.base TyOf.non, kit_ty (by decide +kernel), false, rfl, q⟩
    | str z => exact ⟨_, rfl, _, _, _, _, false, rfl, ClsV.ty "int", TyX.base (TyOf.str z), kit_ty (by decide +kernel), false, rfl, q⟩
    | lst e => exact ⟨_, rfl, _, _, _, _, false, rfl, ClsV.ty "int", TyX.base (TyOf.lst e), kit_ty (by decide +kernel), false, rfl, q⟩
    | tup e => exact ⟨_, rfl, _, _, _, _, false, rfl, ClsV.ty "int", TyX.base (TyOf.tup e), kit_ty (by decide +kernel), false, rfl, q⟩
    | dK e => exact ⟨_, rfl, _, _, _, _, false, rfl, ClsV.ty "int", TyX.base (TyOf.dK e), kit_ty (by decide +kernel), false, rfl, q⟩
theorem ok_countO (DW : Dn P w K mg base CX0 1 "is_whole" ["value"] spWholeO) (F : Fun K "is_count" "is_count" (top 16) f fd) : FnOk P w K mg base CX0 2 f fd ["value"] spWholeO := by
  refine F.ok scCount (fun vs H Q E h => ?_) (fun cdv A outer s H vs Q E hr h => ?_)
  · obtain ⟨v, rfl, _⟩ := h
    rfl
  · obtain ⟨v, rfl, od, q⟩ := h
    refine ⟨_, pss_one (ps_ret (pe_and (pe_dn DW hr (by rfl) (by decide) (pa_cons (pv 0) pa_nil)) (pe_one (pe_cmpR op_ge (pv 0) pe_int (nomark _))))), ?_⟩
    exact ⟨_, rfl, v, rfl, od, false, rfl, q⟩
/-! ### __init__, of -/
def spInitO (C Wc : Addr) : Sp := fun vs H Q E => ∃ x dx v d, vs = [.ref x, v, d] ∧ H x = some (.ins C dx []) ∧ Odd H v ∧ RefV Wc v H E
theorem ok_initO (DW : Dn P w K mg base CX0 1 "is_whole" ["value"] spWholeO) (WR : Wr K mg "InvalidAmount" Wc) (F : FunI K f fd) : FnOk P w K mg base (L2.CX P w) 2 f fd ["self", "top", "bottom"] (spInitO C Wc) := by
  refine F.ok (CX := L2.CX P w) scInit (fun vs H Q E h => ?_) (fun cdv A outer s H vs Q E hr h => ?_)
  · obtain ⟨x, dx, v, d, rfl, _⟩ := h
    rfl
  · obtain ⟨x, dx, v, d, rfl, hx, od, rv⟩ := h
    refine ⟨_, pss_cons (ps_if (pt_not (pt_val (pe_dn DW hr (by rfl) (by decide) (pa_cons (pv 1) pa_nil)))) (pss_one (ps_raise rfl (takes_of rfl rfl rfl rfl) (Gx.pmk1 WR.e1 (WR.rs rfl) hr rfl WR.mgW (pa_cons (pv 1) pa_nil)))) pss_nil) pss_never, ?_⟩
    exact ⟨_, rfl, v, rfl, od, _, rfl, iteT ⟨_, rfl, _, rfl, rv.here⟩⟩
structure BaseO (P : Program) (w : World) (K : W.Frag) (mg : Str → Option Value) (base : Heap) (C Wc : Addr) : Prop where
  mgA : mg "Amount" = some (.ref C)
  make : ∃ fI fd, Mk K C fI ∧ FnOk P w K mg base (L2.CX P w) 2 fI fd ["self", "top", "bottom"] (spInitO C Wc) ∧ ∃ ds, Vals [V.int 1] ds ∧ Binds K fd ["self", "top", "bottom"] ds
def tMkO (Wc : Addr) (E : XK) (t : TA) : TE := fun σ H Q => t σ H fun vs H1 => ∃ v, vs = [v] ∧ Odd H1 v ∧ RefV Wc v H1 E
end
section
variable {X : Cx} {C Wc : Addr} {p pos : Pos} {e : Expr} {es : List Expr} {t : TA} {E : XK}
theorem pe_mkO (B : BaseO X.prog X.w X.K X.mg X.base C Wc) (hr : Room 3 X.A) (hg : Gl X "Amount") (hx : Passes (L2.CX X.prog X.w) X E) (ha : PA X (e :: es) t) (he : starEach (e :: es) X.env = (false, eval e X.env) :: starEach es X.env := by rfl) (hpl : (backTo pos (starEach es X.env)).any (·.1) = false := by rfl) :
    PE X (.Call (.Name "Amount" p) (e :: es) [] pos) (tMkO Wc E t) := by
  obtain ⟨fI, fd, M, F, ds, hv, b1⟩ := B.make
  refine ⟨fun pins s σ H Q I h => ?_⟩
  refine wpAny_Call_Name_kw (ld_glob I hg B.mgA ?_ (by decide))
  refine PySem.W.callWith_K (h₀ := X.base) I.ok.mod.kin M.kp (thn (ha.run pos pins s σ H _ I h) fun us s1 ⟨vs, H1, I1, r, v, ev, od, rv⟩ => ⟨I1.kIn, ?_⟩) he hpl
  subst ev
  refine run_make (E := E) M F hr b1 hv hx I1 r fun x dx hx hdx ne => ?_
  have ex : Am.Ext H1 (upd (upd H1 dx (.own x)) x (.ins C dx [])) := fun b u e => by
    have nx := ne_of_none e hx
    rw [upd_ne nx, upd_ne (ne_of_none e hdx)]
    exact e
  exact ⟨x, dx, v, .int 1, rfl, upd_same, od.ext ex, rv.on ex⟩
end
section
variable {P : Program} {w : World} {K : W.Frag} {mg : Str → Option Value} {base : Heap} {C Wc f : Addr} {fd : FuncData}
def spOfO (Wc : Addr) : Sp := fun vs H Q E => ∃ v, vs = [v] ∧ Odd H v ∧ RefV Wc v H E
theorem ok_ofO (fr : Frees mg) (B : BaseO P w K mg base C Wc) (kc : Kc K C) (F : Fun K "of" "Amount.of" (am 1) f fd) : FnOk P w K mg base (L2.CX P w) 4 f fd ["number"] (spOfO Wc) := by
  refine F.okX scOf (fun vs H Q E h => ?_) (fun cdv A outer s H vs Q E hr h => ?_)
  · obtain ⟨v, rfl, _⟩ := h
    rfl
  · obtain ⟨v, rfl, od, rv⟩ := h
    refine ⟨_, pss_cons (ps_if (pt_val (pe_callB call_isi rfl (fr.h _ (by decide +kernel)) (by decide +kernel) (pa_cons (pv 0) (pa_cons (pe_glob (v := V.ref C) rfl B.mgA rfl) pa_nil)))) (pss_one (ps_ret (pv 0))) pss_nil)
      (pss_one (ps_ret (pe_mkO (E := E) B hr rfl (passes_call (takes_of rfl rfl rfl rfl) fun _ _ _ _ h => h) (pa_cons (pv 0) pa_nil)))), ?_⟩
    obtain ⟨T, bt, ni⟩ := id od
    exact ⟨_, rfl, _, _, _, _, false, rfl, ClsV.own C, bt.ty, kit_no bt.mem kc.ks kc.kt, _, rfl, iteF ⟨_, rfl, v, rfl, od, rv⟩⟩
structure OfO (P : Program) (w : World) (K : W.Frag) (mg : Str → Option Value) (base : Heap) (C Wc : Addr) : Prop where
  mgA : mg "Amount" = some (.ref C)
  of : ∃ mc p g fd, ClX.CRead K C mc ∧ SMet K C mc "of" p g ∧ FnOk P w K mg base (L2.CX P w) 4 g fd ["number"] (spOfO Wc) ∧ Binds K fd ["number"] []
end
section
variable {X : Cx} {C Wc : Addr} {p pos apos : Pos} {e o : Expr} {t : TA} {ta : TE} {E : XK}
theorem pe_ofO (O : OfO X.prog X.w X.K X.mg X.base C Wc) (hr : Room 4 X.A) (hx : Passes (L2.CX X.prog X.w) X E) (ho : PE X o ta) (ha : PA X [e] t) {pl : Sem Bool}
    (hst : starEach [e] X.env = (false, eval e X.env) :: starEach [] X.env := by rfl) (hpl : (backTo pos (starEach [] X.env)).any (·.1) = false := by rfl)
    (ht : eval (.Call (.Attribute o "of" apos) [e] [] pos) X.env = (do
      let ov ← eval o X.env
      standAt apos.atName
      let (f, first) ← holding [ov] (getMethod ov "of" pl)
      callWith pos f first (backTo pos (starEach [e] X.env)) (backToKw pos (keywordEach [] X.env))) := by rfl) : PE X (.Call (.Attribute o "of" apos) [e] [] pos) (tSMeth C (spOfO Wc) E ta t) := by
  obtain ⟨mc, p, g, fd, R, S, F, b⟩ := O.of
  exact pe_smeth (pl := pl) ho R S F b hr hx ha hst hpl ht
end
section
variable {P : Program} {w : World} {K : W.Frag} {mg : Str → Option Value} {base : Heap} {C Wc f : Addr} {fd : FuncData}
/-- a method of two, refused what is no number -/
def spOpO (C Wc : Addr) : Sp := fun vs H Q E => ∃ a y q, vs = [.ref a, y] ∧ Is C H a q ∧ Odd H y ∧ RefV Wc y H E
theorem ok_subO (O : OfO P w K mg base C Wc) (F : Fun K "__sub__" "Amount.__sub__" (am 8) f fd) : FnOk P w K mg base (L2.CX P w) 6 f fd ["self", "other"] (spOpO C Wc) := by
  refine F.okX scSub (fun vs H Q E h => ?_) (fun cdv A outer s H vs Q E hr h => ?_)
  · obtain ⟨a, y, q, rfl, _⟩ := h
    rfl
  · obtain ⟨a, y, q, rfl, ia, od, rv⟩ := h
    have h4 := hr.mono (show 4 ≤ 5 by decide)
    refine ⟨_, pss_one (ps_ret (pe_op never_op (pv 0) (pe_un never_un (pe_ofO (E := E) O h4 (passes_call (takes_of rfl rfl rfl rfl) fun _ _ _ _ h => h) (pe_glob (v := V.ref C) rfl O.mgA rfl) (pa_cons (pv 1) pa_nil))))), ?_⟩
    exact ⟨_, rfl, rfl, _, rfl, y, rfl, od, rv⟩
theorem ok_overO (O : OfO P w K mg base C Wc) (F : Fun K "over" "Amount.over" (am 12) f fd) : FnOk P w K mg base (L2.CX P w) 5 f fd ["self", "other"] (spOpO C Wc) := by
  refine F.okX scOver (fun vs H Q E h => ?_) (fun cdv A outer s H vs Q E hr h => ?_)
  · obtain ⟨a, y, q, rfl, _⟩ := h
    rfl
  · obtain ⟨a, y, q, rfl, ia, od, rv⟩ := h
    have nd := scOver.nd
    refine ⟨_, pss_cons (ps_set (i := 2) nd rfl (.inl rfl) (pe_ofO (E := E) O hr (passes_call (takes_of rfl rfl rfl rfl) fun _ _ _ _ h => h) (pe_glob (v := V.ref C) rfl O.mgA rfl) (pa_cons (pv 1) pa_nil))) pss_never, ?_⟩
    exact ⟨rfl, _, rfl, y, rfl, od, rv⟩
theorem ok_modO (O : OfO P w K mg base C Wc) (F : Fun K "__mod__" "Amount.__mod__" (am 15) f fd) : FnOk P w K mg base (L2.CX P w) 5 f fd ["self", "other"] (spOpO C Wc) := by
  refine F.okX scMod (fun vs H Q E h => ?_) (fun cdv A outer s H vs Q E hr h => ?_)
  · obtain ⟨a, y, q, rfl, _⟩ := h
    rfl
  · obtain ⟨a, y, q, rfl, ia, od, rv⟩ := h
    have nd := scMod.nd
    refine ⟨_, pss_cons (ps_set (i := 2) nd rfl (.inl rfl) (pe_ofO (E := E) O hr (passes_call (takes_of rfl rfl rfl rfl) fun _ _ _ _ h => h) (pe_glob (v := V.ref C) rfl O.mgA rfl) (pa_cons (pv 1) pa_nil))) pss_never, ?_⟩
    exact ⟨rfl, _, rfl, y, rfl, od, rv⟩
theorem ok_rfdO (O : OfO P w K mg base C Wc) (F : Fun K "__rfloordiv__" "Amount.__rfloordiv__" (am 14) f fd) : FnOk P w K mg base (L2.CX P w) 5 f fd ["self", "other"] (spOpO C Wc) := by
  refine F.okX scRfd (fun vs H Q E h => ?_) (fun cdv A outer s H vs Q E hr h => ?_)
  · obtain ⟨a, y, q, rfl, _⟩ := h
    rfl
  · obtain ⟨a, y, q, rfl, ia, od, rv⟩ := h
    refine ⟨_, pss_one (ps_ret (pe_op never_op (pe_ofO (E := E) O hr (passes_call (takes_of rfl rfl rfl rfl) fun _ _ _ _ h => h) (pe_glob (v := V.ref C) rfl O.mgA rfl) (pa_cons (pv 1) pa_nil)) (pv 0))), ?_⟩
    exact ⟨rfl, _, rfl, y, rfl, od, rv⟩
structure OverO (P : Program) (w : World) (K : W.Frag) (mg : Str → Option Value) (base : Heap) (C Wc : Addr) : Prop where
  of : ∃ f fd, Meth K C "over" f ∧ FnOk P w K mg base (L2.CX P w) 5 f fd ["self", "other"] (spOpO C Wc) ∧ Binds K fd ["self", "other"] []
theorem ok_fdO (cl : Cls K C) (V1 : OverO P w K mg base C Wc) (F : Fun K "__floordiv__" "Amount.__floordiv__" (am 13) f fd) : FnOk P w K mg base (L2.CX P w) 6 f fd ["self", "other"] (spOpO C Wc) := by
  refine F.okX scFd (fun vs H Q E h => ?_) (fun cdv A outer s H vs Q E hr h => ?_)
  · obtain ⟨a, y, q, rfl, _⟩ := h
    rfl
  · obtain ⟨a, y, q, rfl, ia, od, rv⟩ := h
    have nd := scFd.nd
    obtain ⟨fo, fdo, hm, G, b⟩ := V1.of
    refine ⟨_, pss_cons (ps_set (i := 2) nd rfl (.inl rfl) (pe_meth (pv 0) cl hm G hr b .nil (passes_call (takes_of rfl rfl rfl rfl) fun _ _ _ _ h => h) (pa_cons (pv 1) pa_nil))) pss_never, ?_⟩
    obtain ⟨dx, ea⟩ := id ia
    exact ⟨_, rfl, a, dx, _, rfl, ea, no_over q, _, rfl, a, y, q, rfl, ia, od, rv⟩
/-! ### **, rounded, == -/
def spPowO (C Wc : Addr) : Sp := fun vs H Q E => ∃ a q i, vs = [.ref a, .int i] ∧ Is C H a q ∧ 12 < i ∧ RefV Wc (.int i) H E
theorem ok_powO {t : Tok} (DC : Dn P w K mg base CX0 2 "is_count" ["value"] spCount) (WR : Wr K mg "InvalidAmount" Wc) (mgP : mg "MOST_POWER" = some (.int 12 t)) (F : Fun K "__pow__" "Amount.__pow__" (am 17) f fd) :
    FnOk P w K mg base (L2.CX P w) 3 f fd ["self", "other"] (spPowO C Wc) := by
  refine F.okX scPow (fun vs H Q E h => ?_) (fun cdv A' outer s H vs Q E hr h => ?_)
  · obtain ⟨a, q, i, rfl, _⟩ := h
    rfl
  · obtain ⟨a, q, i, rfl, ia, i12, rv⟩ := h
    refine ⟨_, pss_cons (ps_if (PW.pt (pw_or (pt_not (pt_val (pe_dn DC hr (by rfl) (by decide) (pa_cons (pv 1) pa_nil)))) (pw_or1 (pt_cmpR op_gt (pv 1) (pe_glob (v := V.int 12) rfl mgP ⟨t, rfl⟩) (nomark _))))) (pss_one (ps_raise rfl (takes_of rfl rfl rfl rfl) (Gx.pmk1 WR.e1 (WR.rs rfl) hr rfl WR.mgW (pa_cons (pv 1) pa_nil)))) pss_nil) pss_never, ?_⟩
    refine ⟨_, rfl, i, rfl, _, rfl, ?_⟩
    rw [decide_eq_true (show (0 : Int) ≤ i by omega)]
    exact iteF ⟨_, rfl, _, _, rfl, rfl, _, rfl, ite2 (fun _ => ⟨_, rfl, _, rfl, rv.here⟩) (fun h => absurd (decide_eq_true (show (12 : Int) < i from i12)) h)⟩
def spRndO (C Wc : Addr) : Sp := fun vs H Q E => ∃ a q v, vs = [.ref a, v] ∧ Is C H a q ∧ (Odd H v ∨ ∃ i, v = .int i ∧ (i < 0 ∨ 12 < i)) ∧ RefV Wc v H E
def spEqO (C : Addr) : Sp := fun vs H Q _ => ∃ a y q T, vs = [.ref a, y] ∧ Is C H a q ∧ Bt H y T ∧ Q (.bl false) H
end
end KA

set_option Elab.async false
set_option linter.all false
set_option maxRecDepth 100000
set_option maxHeartbeats 1000000
set_option exponentiation.threshold 9000
/-! Comparisons of Amounts. -/
namespace KA
open PySem PySem.Spec PyProof.Rows L2 Oo Gd Am
theorem ltz (q p : Rat) : (q - p).num.sign < 0 ↔ q < p := by
  rw [Int.sign_neg_iff, ← Int.not_le, Rat.num_nonneg, ← Rat.le_iff_sub_nonneg, Rat.not_le]
theorem gtz (q p : Rat) : 0 < (q - p).num.sign ↔ p < q := by
  rw [Int.sign_pos_iff, ← ltz p q, Int.sign_neg_iff, ← Rat.neg_sub]
  show 0 < (-(p - q)).num ↔ _
  rw [show (-(p - q)).num = -(p - q).num from rfl]
  omega
theorem lez (q p : Rat) : (q - p).num.sign ≤ 0 ↔ q ≤ p := by
  rw [← Int.not_lt, gtz, Rat.not_lt]
theorem gez (q p : Rat) : 0 ≤ (q - p).num.sign ↔ p ≤ q := by
  rw [← Int.not_lt, ltz, Rat.not_lt]
/-- o.f of what is not reached -/
theorem pe_fld0 {X : Cx} {o : Expr} {to : TE} {f : Str} {pos : Pos} (he : PE X o to) (hb : attributeBase o f X.env (eval o X.env) = eval o X.env := by rfl) : PE X (.Attribute o f pos) (fun σ H Q => to σ H fun _ _ => False) :=
  ⟨fun pins s σ H Q I h => attr_of hb (thn (he.run pins s σ H _ I h) fun u s1 ⟨_, _, _, _, z⟩ => z.elim)⟩
section
variable {P : Program} {w : World} {K : W.Frag} {mg : Str → Option Value} {base : Heap} {C Wc f : Addr} {fd : FuncData}
def spCmp (C : Addr) (g : Rat → Rat → Bool) : Sp := fun vs H Q _ => ∃ a y q p, vs = [.ref a, y] ∧ Is C H a q ∧ Num C H y p ∧ Sz q ∧ Sz p ∧ ∀ H', Am.Ext H H' → Q (.bl (g q p)) H'
/-- x - y, y no number -/
structure SubO (P : Program) (w : World) (K : W.Frag) (mg : Str → Option Value) (base : Heap) (C Wc : Addr) : Prop where
  of : ∃ f g fd ps, OwnBin K C (Operator.Sub).info.2 f g ∧ FnOk P w K mg base (L2.CX P w) 6 f fd ps (spOpO C Wc) ∧ Binds K fd ps []
theorem op_sO {X : Cx} {E : XK} (S : SubO X.prog X.w X.K X.mg X.base C Wc) (hx : Passes (L2.CX X.prog X.w) X E) (hr : Room 6 X.A) : OpR X (binaryOp .Sub) (rBinL C (spOpO C Wc) E) := by
  obtain ⟨f, g, fd, ps, B, F, b⟩ := S.of
  exact op_binL (.inr (.inl rfl)) B F b hx hr
theorem sc_lt : FnScope ["self", "other"] ["self", "other"] (defScope (am 22)) := ⟨rfl, rfl, rfl, by decide +kernel, rfl, by decide +kernel, by decide +kernel⟩
theorem ok_lt (B : Base P w K mg base C) (S : Op P w K mg base C (Operator.Sub).info.2 6 fun q p => q - p) (F : Fun K "__lt__" "Amount.__lt__" (am 22) f fd) : FnOk P w K mg base CX0 7 f fd ["self", "other"] (spCmp C fun q p => decide (q < p)) := by
  refine F.ok sc_lt (fun vs H Q E h => ?_) (fun cdv A outer s H vs Q E hr h => ?_)
  · obtain ⟨a, y, q, p, rfl, _⟩ := h
    rfl
  · obtain ⟨a, y, q, p, rfl, ia, ny, sq, sp, z⟩ := h
    have h2 := hr.mono (show 2 ≤ 6 by decide)
    refine ⟨_, pss_one (ps_ret (pe_cmpR op_lt (pe_pSgn B h2 (pe_op (op_O S hr) (pv 0) (pv 1))) pe_int (nomark _))), ?_⟩
    refine ⟨_, rfl, _, rfl, a, q, p, rfl, ia, ny, sq, sp, fun r H1 e1 n1 i1 => ⟨r, q - p, rfl, i1, _, _, rfl, rfl, ?_⟩⟩
    show Q (.bl (decide ((q - p).num.sign < 0))) H1
    rw [show decide ((q - p).num.sign < 0) = decide (q < p) from decide_eq_decide.mpr (ltz q p)]
    exact z H1 e1
theorem ok_ltO (S : SubO P w K mg base C Wc) (F : Fun K "__lt__" "Amount.__lt__" (am 22) f fd) : FnOk P w K mg base (L2.CX P w) 7 f fd ["self", "other"] (spOpO C Wc) := by
  refine F.okX sc_lt (fun vs H Q E h => ?_) (fun cdv A outer s H vs Q E hr h => ?_)
  · obtain ⟨a, y, q, rfl, _⟩ := h
    rfl
  · obtain ⟨a, y, q, rfl, ia, od, rv⟩ := h
    refine ⟨_, pss_one (ps_ret (pe_cmpR op_lt (pe_fld0 (f := "sign") (pe_op (op_sO (E := E) S (passes_call (takes_of rfl rfl rfl rfl) fun _ _ _ _ h => h) hr) (pv 0) (pv 1))) pe_int (nomark _))), ?_⟩
    obtain ⟨T, bt, ni⟩ := id od
    obtain ⟨dx, ea⟩ := id ia
    exact ⟨_, rfl, _, rfl, a, dx, _, T, rfl, ea, bt, a, y, q, rfl, ia, od, rv⟩
theorem sc_le : FnScope ["self", "other"] ["self", "other"] (defScope (am 23)) := ⟨rfl, rfl, rfl, by decide +kernel, rfl, by decide +kernel, by decide +kernel⟩
theorem ok_le (B : Base P w K mg base C) (S : Op P w K mg base C (Operator.Sub).info.2 6 fun q p => q - p) (F : Fun K "__le__" "Amount.__le__" (am 23) f fd) : FnOk P w K mg base CX0 7 f fd ["self", "other"] (spCmp C fun q p => decide (q ≤ p)) := by
  refine F.ok sc_le (fun vs H Q E h => ?_) (fun cdv A outer s H vs Q E hr h => ?_)
  · obtain ⟨a, y, q, p, rfl, _⟩ := h
    rfl
  · obtain ⟨a, y, q, p, rfl, ia, ny, sq, sp, z⟩ := h
    have h2 := hr.mono (show 2 ≤ 6 by decide)
    refine ⟨_, pss_one (ps_ret (pe_cmpR op_le (pe_pSgn B h2 (pe_op (op_O S hr) (pv 0) (pv 1))) pe_int (nomark _))), ?_⟩
    refine ⟨_, rfl, _, rfl, a, q, p, rfl, ia, ny, sq, sp, fun r H1 e1 n1 i1 => ⟨r, q - p, rfl, i1, _, _, rfl, rfl, ?_⟩⟩
    show Q (.bl (decide ((q - p).num.sign ≤ 0))) H1
    rw [show decide ((q - p).num.sign ≤ 0) = decide (q ≤ p) from decide_eq_decide.mpr (lez q p)]
    exact z H1 e1
theorem ok_leO (S : SubO P w K mg base C Wc) (F : Fun K "__le__" "Amount.__le__" (am 23) f fd) : FnOk P w K mg base (L2.CX P w) 7 f fd ["self", "other"] (spOpO C Wc) := by
  refine F.okX sc_le (fun vs H Q E h => ?_) (fun cdv A outer s H vs Q E hr h => ?_)
  · obtain ⟨a, y, q, rfl, _⟩ := h
    rfl
  · obtain ⟨a, y, q, rfl, ia, od, rv⟩ := h
    refine ⟨_, pss_one (ps_ret (pe_cmpR op_le (pe_fld0 (f := "sign") (pe_op (op_sO (E := E) S (passes_call (takes_of rfl rfl rfl rfl) fun _ _ _ _ h => h) hr) (pv 0) (pv 1))) pe_int (nomark _))), ?_⟩
    obtain ⟨T, bt, ni⟩ := id od
    obtain ⟨dx, ea⟩ := id ia
    exact ⟨_, rfl, _, rfl, a, dx, _, T, rfl, ea, bt, a, y, q, rfl, ia, od, rv⟩
theorem sc_gt : FnScope ["self", "other"] ["self", "other"] (defScope (am 24)) := ⟨rfl, rfl, rfl, by decide +kernel, rfl, by decide +kernel, by decide +kernel⟩
theorem ok_gt (B : Base P w K mg base C) (S : Op P w K mg base C (Operator.Sub).info.2 6 fun q p => q - p) (F : Fun K "__gt__" "Amount.__gt__" (am 24) f fd) : FnOk P w K mg base CX0 7 f fd ["self", "other"] (spCmp C fun q p => decide (p < q)) := by
  refine F.ok sc_gt (fun vs H Q E h => ?_) (fun cdv A outer s H vs Q E hr h => ?_)
  · obtain ⟨a, y, q, p, rfl, _⟩ := h
    rfl
  · obtain ⟨a, y, q, p, rfl, ia, ny, sq, sp, z⟩ := h
    have h2 := hr.mono (show 2 ≤ 6 by decide)
    refine ⟨_, pss_one (ps_ret (pe_cmpR op_gt (pe_pSgn B h2 (pe_op (op_O S hr) (pv 0) (pv 1))) pe_int (nomark _))), ?_⟩
    refine ⟨_, rfl, _, rfl, a, q, p, rfl, ia, ny, sq, sp, fun r H1 e1 n1 i1 => ⟨r, q - p, rfl, i1, _, _, rfl, rfl, ?_⟩⟩
    show Q (.bl (decide (0 < (q - p).num.sign))) H1
    rw [show decide (0 < (q - p).num.sign) = decide (p < q) from decide_eq_decide.mpr (gtz q p)]
    exact z H1 e1
theorem ok_gtO (S : SubO P w K mg base C Wc) (F : Fun K "__gt__" "Amount.__gt__" (am 24) f fd) : FnOk P w K mg base (L2.CX P w) 7 f fd ["self", "other"] (spOpO C Wc) := by
  refine F.okX sc_gt (fun vs H Q E h => ?_) (fun cdv A outer s H vs Q E hr h => ?_)
  · obtain ⟨a, y, q, rfl, _⟩ := h
    rfl
  · obtain ⟨a, y, q, rfl, ia, od, rv⟩ := h
    refine ⟨_, pss_one (ps_ret (pe_cmpR op_gt (pe_fld0 (f := "sign") (pe_op (op_sO (E := E) S (passes_call (takes_of rfl rfl rfl rfl) fun _ _ _ _ h => h) hr) (pv 0) (pv 1))) pe_int (nomark _))), ?_⟩
    obtain ⟨T, bt, ni⟩ := id od
    obtain ⟨dx, ea⟩ := id ia
    exact ⟨_, rfl, _, rfl, a, dx, _, T, rfl, ea, bt, a, y, q, rfl, ia, od, rv⟩
theorem sc_ge : FnScope ["self", "other"] ["self", "other"] (defScope (am 25)) := ⟨rfl, rfl, rfl, by decide +kernel, rfl, by decide +kernel, by decide +kernel⟩
theorem ok_ge (B : Base P w K mg base C) (S : Op P w K mg base C (Operator.Sub).info.2 6 fun q p => q - p) (F : Fun K "__ge__" "Amount.__ge__" (am 25) f fd) : FnOk P w K mg base CX0 7 f fd ["self", "other"] (spCmp C fun q p => decide (p ≤ q)) := by
  refine F.ok sc_ge (fun vs H Q E h => ?_) (fun cdv A outer s H vs Q E hr h => ?_)
  · obtain ⟨a, y, q, p, rfl, _⟩ := h
    rfl
  · obtain ⟨a, y, q, p, rfl, ia, ny, sq, sp, z⟩ := h
    have h2 := hr.mono (show 2 ≤ 6 by decide)
    refine ⟨_, pss_one (ps_ret (pe_cmpR op_ge (pe_pSgn B h2 (pe_op (op_O S hr) (pv 0) (pv 1))) pe_int (nomark _))), ?_⟩
    refine ⟨_, rfl, _, rfl, a, q, p, rfl, ia, ny, sq, sp, fun r H1 e1 n1 i1 => ⟨r, q - p, rfl, i1, _, _, rfl, rfl, ?_⟩⟩
    show Q (.bl (decide (0 ≤ (q - p).num.sign))) H1
    rw [show decide (0 ≤ (q - p).num.sign) = decide (p ≤ q) from decide_eq_decide.mpr (gez q p)]
    exact z H1 e1
theorem ok_geO (S : SubO P w K mg base C Wc) (F : Fun K "__ge__" "Amount.__ge__" (am 25) f fd) : FnOk P w K mg base (L2.CX P w) 7 f fd ["self", "other"] (spOpO C Wc) := by
  refine F.okX sc_ge (fun vs H Q E h => ?_) (fun cdv A outer s H vs Q E hr h => ?_)
  · obtain ⟨a, y, q, rfl, _⟩ := h
    rfl
  · obtain ⟨a, y, q, rfl, ia, od, rv⟩ := h
    refine ⟨_, pss_one (ps_ret (pe_cmpR op_ge (pe_fld0 (f := "sign") (pe_op (op_sO (E := E) S (passes_call (takes_of rfl rfl rfl rfl) fun _ _ _ _ h => h) hr) (pv 0) (pv 1))) pe_int (nomark _))), ?_⟩
    obtain ⟨T, bt, ni⟩ := id od
    obtain ⟨dx, ea⟩ := id ia
    exact ⟨_, rfl, _, rfl, a, dx, _, T, rfl, ea, bt, a, y, q, rfl, ia, od, rv⟩
end
end KA

set_option Elab.async false
set_option linter.all false
set_option maxRecDepth 100000
set_option maxHeartbeats 1000000
set_option exponentiation.threshold 9000
/-! Comparisons by values. -/
namespace KA
open PySem PySem.Spec PyProof.Rows L2 Oo Gd Am
section
variable {P : Program} {w : World} {K : W.Frag} {mg : Str → Option Value} {base : Heap} {C Wc f : Addr} {fd : FuncData}
structure CmpD (P : Program) (w : World) (K : W.Frag) (mg : Str → Option Value) (base : Heap) (C Wc : Addr) (nm : Str) (g : Rat → Rat → Bool) : Prop where
  of : ∃ f fd, W.findIn K (.ref C) nm = some (some (.ref f)) ∧ W.isFn K (.ref f) = true ∧ FnOk P w K mg base CX0 7 f fd ["self", "other"] (spCmp C g) ∧ FnOk P w K mg base (L2.CX P w) 7 f fd ["self", "other"] (spOpO C Wc) ∧ Binds K fd ["self", "other"] []
/-- two NUMBERS, one an Amount -/
def rNC (C : Addr) (g : Rat → Rat → Bool) : R2 := fun x y H Q => ∃ q p, Num C H x q ∧ Num C H y p ∧ ((∃ a, x = .ref a) ∨ ∃ a, y = .ref a) ∧ Sz q ∧ Sz p ∧ ∀ H', Am.Ext H H' → Q (.bl (g q p)) H'
theorem op_NC {X : Cx} {op : CmpOp} {g g' : Rat → Rat → Bool} (h4 : Four op) (hg : ∀ q p, g' p q = g q p) (pl : Plain X.K C) (D : CmpD X.prog X.w X.K X.mg X.base C Wc (cmpInfo op).2.1 g) (D' : CmpD X.prog X.w X.K X.mg X.base C Wc (cmpInfo op).2.2 g') (hr : Room 7 X.A) :
    OpR X (compareOp op) (rNC C g) := fun pins s σ H x y v u Q I rx ry h => by
  obtain ⟨f, fd, hs, hf, F, _, b⟩ := D.of
  obtain ⟨f', fd', hs', hf', F', _, b'⟩ := D'.of
  obtain ⟨q, p, nx, ny, one, sq, sp, z⟩ := h
  rcases id nx with ⟨i, rfl, _⟩ | ⟨a, rfl, ia⟩
  · rcases id ny with ⟨j, rfl, _⟩ | ⟨c, rfl, ic⟩
    · rcases one with ⟨_, e⟩ | ⟨_, e⟩ <;> cases e
    · obtain ⟨dy, ec⟩ := id ic
      exact op_cmpR (E := E0) h4 pl hs' hf' F' b' pass0 hr pins s σ H _ _ v u Q I rx ry ⟨c, dy, _, "int", rfl, ec, .int i, c, .int i, p, q, rfl, ic, nx, sp, sq, fun H' e => by rw [hg]; exact z H' e⟩
  · obtain ⟨dx, ea⟩ := id ia
    refine op_cmpL (E := E0) (fun M A E s a b Q z => four_rich h4 z) hs hf F b pass0 hr pins s σ H _ _ v u Q I rx ry ⟨a, dx, _, rfl, ea, ?_, a, y, q, p, rfl, ia, ny, sq, sp, z⟩
    rcases id ny with ⟨j, rfl, _⟩ | ⟨c, rfl, dy, ec⟩
    · exact .inr ⟨_, .int j⟩
    · exact .inl ⟨c, dy, _, rfl, ec⟩
/-- an Amount and what is no number -/
def rXC (C Wc : Addr) (E : XK) : R2 := fun x y H Q => (∃ a q, x = .ref a ∧ Is C H a q ∧ Odd H y ∧ RefV Wc y H E) ∨ (∃ b p T, y = .ref b ∧ Is C H b p ∧ Bt H x T ∧ T ≠ "int" ∧ RefV Wc x H E)
theorem op_XC {X : Cx} {op : CmpOp} {g g' : Rat → Rat → Bool} {E : XK} (h4 : Four op) (pl : Plain X.K C) (D : CmpD X.prog X.w X.K X.mg X.base C Wc (cmpInfo op).2.1 g) (D' : CmpD X.prog X.w X.K X.mg X.base C Wc (cmpInfo op).2.2 g') (hx : Passes (L2.CX X.prog X.w) X E) (hr : Room 7 X.A) :
    OpR X (compareOp op) (rXC C Wc E) := fun pins s σ H x y v u Q I rx ry h => by
  obtain ⟨f, fd, hs, hf, _, F, b⟩ := D.of
  obtain ⟨f', fd', hs', hf', _, F', b'⟩ := D'.of
  rcases h with ⟨a, q, rfl, ia, od, rv⟩ | ⟨c, p, T, rfl, ic, bt, n1, rv⟩
  · obtain ⟨dx, ea⟩ := id ia
    obtain ⟨T, bt, _⟩ := id od
    exact op_cmpL (E := E) (fun M A E s a b Q z => four_rich h4 z) hs hf F b hx hr pins s σ H _ _ v u Q I rx ry ⟨a, dx, _, rfl, ea, .inr ⟨T, bt⟩, a, y, q, rfl, ia, od, rv⟩
  · obtain ⟨dy, ec⟩ := id ic
    exact op_cmpR (E := E) h4 pl hs' hf' F' b' hx hr pins s σ H _ _ v u Q I rx ry ⟨c, dy, _, T, rfl, ec, bt, c, x, p, rfl, ic, ⟨T, bt, n1⟩, rv⟩
/-! ### == and != with what is no Amount -/
theorem ok_eqO (fr : Frees mg) (mgA : mg "Amount" = some (.ref C)) (kc : Kc K C) (F : Fun K "__eq__" "Amount.__eq__" (am 21) f fd) (T : Cl K C) : FnOk P w K mg base CX0 1 f fd ["self", "other"] (spEqO C) := by
  refine F.ok scEq (fun vs H Q E h => ?_) (fun cdv A' outer s H vs Q E hr h => ?_)
  · obtain ⟨a, y, q, T, rfl, _⟩ := h
    rfl
  · obtain ⟨a, y, q, Ty, rfl, ia, bt, z⟩ := h
    refine ⟨_, pss_one (ps_ret (pe_and (pe_callB call_isi rfl (fr.h _ (by decide +kernel)) (by decide +kernel) (pa_cons (pv 1) (pa_cons (pe_glob (v := V.ref C) rfl mgA rfl) pa_nil)))
      (pe_and (pe_cmpR op_eq (pe_top T (pv 0)) (pe_top T (pv 1)) (nomark _)) (pe_one (pe_cmpR op_eq (pe_bot T (pv 0)) (pe_bot T (pv 1)) (nomark _)))))), ?_⟩
    exact ⟨_, rfl, _, _, _, _, false, rfl, ClsV.own C, bt.ty, kit_no bt.mem kc.ks kc.kt, false, rfl, z⟩
structure EqO (P : Program) (w : World) (K : W.Frag) (mg : Str → Option Value) (base : Heap) (C : Addr) : Prop where
  of : ∃ f fd, W.findIn K (.ref C) "__eq__" = some (some (.ref f)) ∧ W.isFn K (.ref f) = true ∧ FnOk P w K mg base CX0 1 f fd ["self", "other"] (spEqO C) ∧ Binds K fd ["self", "other"] [] ∧
    ∃ B bm, CmpFacts B bm ∧ ∀ (h : Heap) (x dx : Addr), K.In h → h.get? x = some (W.instObj C dx) → h.OwnEqNoNe x C f B bm
def rEqX (C : Addr) (c : Bool) : R2 := fun x y H Q => ∃ a q T, x = .ref a ∧ Is C H a q ∧ Bt H y T ∧ Q (.bl c) H
theorem op_eqX {X : Cx} {k : Nat} (T : EqO X.prog X.w X.K X.mg X.base C) (hr : Room (k + 2) X.A) : OpR X (compareOp .Eq) (rEqX C false) := fun pins s σ H x y v u Q I rx ry h => by
  obtain ⟨f, fd, hs, hf, F, b, _⟩ := T.of
  obtain ⟨a, q, Ty, rfl, ia, bt, z⟩ := h
  obtain ⟨dx, ea⟩ := id ia
  exact op_cmpL (E := E0) (fun M A E s a b Q z => W.cmp_ofEq z) hs hf F b pass0 (hr.mono (by omega)) pins s σ H _ _ v u Q I rx ry ⟨a, dx, _, rfl, ea, .inr ⟨Ty, bt⟩, a, y, q, Ty, rfl, ia, bt, z⟩
theorem op_neX {X : Cx} {k : Nat} (T : EqO X.prog X.w X.K X.mg X.base C) (hr : Room (k + 2) X.A) : OpR X (compareOp .NotEq) (rEqX C true) := fun pins s σ H x y v u Q I rx ry h => by
  obtain ⟨f, fd, hs, hf, F, b, B, bm, FB, ne⟩ := T.of
  obtain ⟨a, q, Ty, rfl, ia, bt, z⟩ := h
  obtain ⟨dx, ea⟩ := id ia
  cases (show v = Value.ref a from rx)
  obtain ⟨od, J, e1⟩ := inst_at I ea
  refine W.cmp_ofNotEq (ne_rich FB (ne s.heap a dx I.kIn e1) (bt.is I ry) (sub_T bt.mem) I.kIn (by have := hr.units; omega) ?_)
  refine wpAny_mono (run_atO (Q := fun w' H' => w' = .bl false ∧ H' = H) (us := [.ref a, u]) (ws := [.ref a, y]) F b ((hr.mono (show 2 ≤ k + 2 by omega)).in1) I.env0.in1 pass0 I (.cons rfl (.cons ry .nil)) ⟨a, y, q, Ty, rfl, ia, bt, rfl, rfl⟩) (fun v' s' ⟨z', H', I', rz, ez, eh⟩ => ?_) fun _ _ z => z
  subst ez eh
  cases (show v' = Value.bool false from rz)
  exact ⟨false, rfl, .bl true, _, I', rfl, z⟩
/-- an INTEGER == an Amount -/
def rEqI (C : Addr) : R2 := fun x y H Q => ∃ i b q, x = .int i ∧ y = .ref b ∧ Is C H b q ∧ Q (.bl false) H
theorem op_eqI {X : Cx} {k : Nat} (pl : Plain X.K C) (T : EqO X.prog X.w X.K X.mg X.base C) (hr : Room (k + 2) X.A) : OpR X (compareOp .Eq) (rEqI C) := fun pins s σ H x y v u Q I rx ry h => by
  obtain ⟨f, fd, hs, hf, F, b, _⟩ := T.of
  obtain ⟨i, c, q, rfl, rfl, ic, z⟩ := h
  obtain ⟨dy, ec⟩ := id ic
  obtain ⟨t, rfl⟩ := (show ∃ t, v = Value.int i t from rx)
  cases (show u = Value.ref c from ry)
  obtain ⟨oe, J2, e2⟩ := inst_at I ec
  refine W.cmp_ofEq (cmp_right (op := .Eq) (T := "int") hr.units0 I.kIn J2 rfl (sub_C pl (by decide)) (c_int_eq e2) hs hf fun t' => ?_)
  have I2 : Inv X pins σ H { s with toks := t' } := I.tok t'
  exact wpAny_mono (run_fn (E := E0) (us := [.ref c, .int i t]) (vs := [.ref c, .int i]) F (hr.mono (by omega)) b .nil pass0 I2 (.cons rfl (.cons ⟨t, rfl⟩ .nil)) (show spEqO C ([V.ref c, V.int i] ++ []) H Q E0 from ⟨c, .int i, q, "int", rfl, ic, .int i, z⟩)) (fun v' s' ⟨z', H', I', rz, qz⟩ => SlX.cmpback (P := EP X pins σ Q) rz ⟨z', H', I', rz, qz⟩) fun _ _ z => z
end
end KA

set_option Elab.async false
set_option linter.all false
set_option maxRecDepth 100000
set_option maxHeartbeats 1000000
/-! A list or a tuple gone through: for, enumerate. -/
namespace SqX
open PySem PySem.Spec
set_option maxHeartbeats 1000000 in
theorem meets_enumerate_newB1 {v : Value} {o : Obj} {H : Heap → Prop} (B : Begins v o H) :
    Meets (Builtin.«enumerate.__new__» ⟨[.type "enumerate", v], []⟩) (fun _ R s => H s.heap ∧
      R (.ok (.ret (.ref (s.heap.push o).objs.size))) { s with heap := (s.heap.push o).push { cls := .type "enumerate", data := .fields #[.none, .bool false, .ref s.heap.objs.size, rawInt 0, .none, .none] } }) :=
  .of_wp fun prog w A R s h => by
    obtain ⟨hp, g, d, tk, os⟩ := s; obtain ⟨h1, h⟩ := h
    have hsub := sub_enumerate
    have q1 : ∀ {A' : Around} {E : Value → Shared → Prop} {Q : Value → Shared → Prop}, Q (.ref hp.objs.size) ⟨hp.push o, g, d, tk, os⟩ → wpAny (model prog w) A' (pyIter v) Q E ⟨hp, g, d, tk, os⟩ :=
      fun q => B.iter prog w _ _ ⟨hp, g, d, tk, os⟩ _ h1 q
    wp_walk
    refine wpAny_stack_any fun st => wpAny_pure ?_
    split
    · rename_i c _ _ _ _ _
      cases (c == Value.type "enumerate")
      · wp_walk using q1
        exact ⟨_, rfl, h⟩
      · wp_walk using q1
        exact ⟨_, rfl, h⟩
    · wp_walk using q1
      exact ⟨_, rfl, h⟩
section
variable {prog : Program} {w : World} {A : Around} {E : Value → Shared → Prop} {s : Shared}
theorem call_enumerateB {v : Value} {o : Obj} {H : Heap → Prop} {Q : Value → Shared → Prop} (B : Begins v o H) (h1 : H s.heap)
    (ht : checkTypeCall "enumerate" ⟨[v], []⟩ = pure ()) (hn : checkBuiltinCall "enumerate.__new__" ⟨[.type "enumerate", v], []⟩ = pure ()) (hi : ∀ obj, argsOk "object.__init__" ⟨[obj, v], []⟩)
    (h : ∀ h', IsEnum h' (s.heap.objs.size + 1) s.heap.objs.size 0 .none → h'.get? s.heap.objs.size = some o → h'.objs.size = s.heap.objs.size + 2 →
      (∀ b o, s.heap.get? b = some o → h'.get? b = some o) → Q (.ref (s.heap.objs.size + 1)) { s with heap := h' }) :
    wpAny (model prog w) A (call (.type "enumerate") [v]) Q E s := by
  refine callType_new F.called_enumerate (by decide) ht hn hi F.entry_enumerate_new (meets_enumerate_newB1 B) ⟨h1, ?_⟩
  have hz : (s.heap.push o).objs.size = s.heap.objs.size + 1 := Heap.size_push ..
  show _ ∧ _
  rw [hz]
  have he : IsEnum ((s.heap.push o).push { cls := .type "enumerate", data := .fields #[.none, .bool false, .ref s.heap.objs.size, rawInt 0, .none, .none] }) (s.heap.objs.size + 1) s.heap.objs.size 0 .none := by
    have := Heap.get?_push_size (s.heap.push o) (o := { cls := .type "enumerate", data := .fields #[.none, .bool false, .ref s.heap.objs.size, rawInt 0, .none, .none] }) rfl
    rw [hz] at this; exact this
  refine ⟨⟨_, he, rfl⟩, h _ he (Heap.get?_push_of_some _ (Heap.get?_push_size _ B.free)) (by rw [Heap.size_push, hz]) fun b o x => Heap.get?_push_of_some _ (Heap.get?_push_of_some _ x)⟩
end
end SqX
namespace SqX
open PySem PySem.Spec PyProof.Rows L2
theorem enumT_end {prog : Program} {w : World} {A : Around} {E : Value → Shared → Prop} {s : Shared} {e it l : Addr} {i : Nat} {items : Array Value} {old : Value} {Q : Option Value → Shared → Prop} (hh : A.handled = none)
    (he : IsEnum s.heap e it i old) (hit : s.heap.IsTupleIter it l i) (hl : s.heap.IsTuple l items) (hx : items[i]? = none)
    (hQ : ∀ h', Heap.ExtBut it s.heap h' → Q none { s with heap := h' }) : wpAny (model prog w) A (pyNext (.ref e)) Q E s := by
  have hT : s.TypeIs (.ref e) "enumerate" := ⟨_, he, rfl⟩
  unfold pyNext
  refine wpAny_bind (wpAny_attempt (wpAny_callSpecial?_slot (name := Str.ofString "__next__") hT F.slot_enumerate_next
    (wpAny_call_entry F.slot_enumerate_next hT F.entry_enumerate_next ?_ (F.args_enumerate_next_1 _))))
  show wpAny _ _ (field (.ref e) 2 >>= _) _ _ _
  refine wpAny_bind (wpAny_field he rfl (x := .ref it) rfl ?_)
  refine wpAny_bind (wpAny_nextOf_tuple_end hh hit hl hx fun h' x he' hx' => ?_)
  obtain ⟨o, ho, hc⟩ := hx'
  refine wpAny_bind (wpAny_isInstance (T := "StopIteration") (b := true) ⟨o, ho, hc⟩ isSubtype_stop ?_)
  exact wpAny_pure (hQ _ he')
/-- the tuple at a, each item in a new pair -/
def Itte (K : PySem.W.Frag) (a : Addr) : It :=
  ⟨fun i H => ∃ (xs : List V) (x : V), SqT K H a xs ∧ xs[i]? = some x, fun i H v H' => ∃ T x, v = .ref T ∧ H T = none ∧ H' = upd H T (.tup [.int (i : Nat), x]) ∧ ∀ xs, SqT K H a xs → xs[i]? = some x, fun i H => ∃ xs : List V, SqT K H a xs ∧ xs.length ≤ i⟩
theorem turn_enumT {P : Program} {w : World} {K : PySem.W.Frag} {elts : List Expr} {kk : Nat} {tpos : Pos} (a e it : Addr) (hea : e ≠ a) (hia : it ≠ a) :
    Turn P w K (.Tuple elts kk tpos) (Itte K a) [e, it] e (fun i h => (∃ old, IsEnum h e it ((i : Nat) : Int) old) ∧ h.IsTupleIter it a i ∧ e ≠ it) where
  mem := by simp
  obj := fun i h st b hb => by
    obtain ⟨⟨old, he⟩, ⟨o, ho, hc, hd⟩, _⟩ := st
    have e' : b = e ∨ b = it := by simpa using hb
    rcases e' with z | z
    · rw [z]; exact ⟨_, he, fun v q => nomatch q⟩
    · rw [z]; exact ⟨o, ho, fun v q => by rw [hd] at q; cases q⟩
  keep := fun i h h' st k => let ⟨⟨old, he⟩, hi, hne⟩ := st; ⟨⟨old, k e (by simp) _ he⟩, hi.at fun o q => k it (by simp) o q, hne⟩
  item := by
    intro X hP hw hK hc i pins s σ H E I hf st hg
    subst hP hw hK
    obtain ⟨⟨old, he⟩, hit, hne⟩ := st
    obtain ⟨xs, x, hq, hx⟩ := hg
    obtain ⟨its, rv, p, hz⟩ := I.tuple hq
    obtain ⟨u, hu, ru⟩ := rv.get hx
    have hel : e < s.heap.objs.size := Heap.lt_size he
    have hil : it < s.heap.objs.size := by obtain ⟨_, q, _⟩ := hit; exact Heap.lt_size q
    have pt : s.heap.IsTuple a its.toArray := p
    have lt : i < its.toArray.size := by
      have := (List.getElem?_eq_some_iff.mp hu).1
      simpa using this
    refine wpAny_pyNext_enum_itemD (Draws.tuple (A := X.A.in1) (show X.A.in1.handled = none from I.ok.hd hc) it a (Ne.symm hia) its.toArray) he ⟨hit, pt⟩ lt hne (by simp [hne, hea]) fun x' h' tk hx' ho st' hT hsz hk => ?_
    have ex : x' = u := by
      have q1 : its.toArray[i]? = some x' := hx'
      rw [List.getElem?_toArray, hu] at q1
      exact (Option.some.inj q1).symm
    subst ex
    obtain ⟨hit', _⟩ := st'
    refine ⟨_, rfl, wpAny_letOwnedTupleGo_enum (s := { s with heap := h', toks := tk + 1 }) ho fun h'' he' sb => ?_⟩
    have hT2 : h''.get? s.heap.objs.size = some { cls := .type "tuple", data := .seq #[.int i tk, x'] } := (sb.2 _ (Nat.ne_of_gt hel)).trans hT
    have new : ObjOk X.prog X.w (upd H s.heap.objs.size (.tup [.int (i : Nat), x])) h'' s.heap.objs.size (.tup [.int (i : Nat), x]) :=
      ⟨by show 2 ≤ sizeLine; decide, [.int i tk, x'], .cons ⟨_, rfl⟩ (.cons ru .nil), ⟨_, hT2, rfl, _, rfl⟩⟩
    have I1 : Inv X pins σ (upd H s.heap.objs.size (.tup [.int (i : Nat), x])) { s with heap := h'', toks := tk + 1 } :=
      I.turnedNew (ch := [e, it]) (fun b ob hb q => (sb.2 b (fun z => hb (by simp [z]))).trans (hk b ob (fun z => hb (by simp [z])) (fun z => hb (by simp [z])) q)) hf (Nat.le_refl _) new
    refine ⟨.ref s.heap.objs.size, _, I1, rfl, ⟨_, x, rfl, I.hok.fresh (Nat.le_refl _), rfl, fun ys hy => by rw [I.tuple_inj hy hq]; exact hx⟩, ⟨⟨x', ?_⟩, hit'.at fun o q => (sb.2 it (Ne.symm hne)).trans q, hne⟩, fun b hb => ?_⟩
    · have e1 : ((i + 1 : Nat) : Int) = (i : Int) + 1 := by omega
      rw [e1]; exact he'
    · have hb' : b < s.heap.objs.size := by
        have e' : b = e ∨ b = it := by simpa using hb
        rcases e' with z | z
        · rw [z]; exact hel
        · rw [z]; exact hil
      rw [upd_ne (Nat.ne_of_lt hb')]
      exact (hf b hb).1
  done := by
    intro X hP hw hK hc i pins s σ H E I hf st hg
    subst hP hw hK
    obtain ⟨⟨old, he⟩, hit, hne⟩ := st
    obtain ⟨xs, hq, hx⟩ := hg
    obtain ⟨its, rv, p, hz⟩ := I.tuple hq
    obtain ⟨f0, f1, f2, f3, f4, f5⟩ := hf it (by simp)
    have hl := rv.length
    have pt : s.heap.IsTuple a its.toArray := p
    have nn : its.toArray[i]? = none := by simp; omega
    exact enumT_end (I.ok.hd hc) he hit pt nn fun h' eb => ⟨rfl, I.turned (t' := s.toks) (fun b o hb q => eb b o hb q) f0 f1 f3 f4 f5⟩
  self := fun A i s Q E st h => let ⟨⟨_, he⟩, _⟩ := st; wpAny_pyIter_enum he h

theorem Rd.ext {H H' : Hp} {a : Addr} {o : HO} (e : Am.Ext H H') (h : Rd H a o) : Rd H' a o := by
  rcases h with h | ⟨o', h⟩
  · exact .inl (e _ _ h)
  · exact .inr ⟨o', e _ _ h⟩
theorem SqT.ext {K : PySem.W.Frag} {H H' : Hp} {a : Addr} {xs : List V} (e : Am.Ext H H') (h : SqT K H a xs) : SqT K H' a xs := h.imp (Rd.ext e) fun z => z
/-- a list or a tuple -/
def SqA (K : PySem.W.Frag) (H : Hp) (a : Addr) (xs : List V) : Prop := SqL K H a xs ∨ SqT K H a xs
theorem SqA.ext {K : PySem.W.Frag} {H H' : Hp} {a : Addr} {xs : List V} (e : Am.Ext H H') (h : SqA K H a xs) : SqA K H' a xs := h.imp (Am.Ext.seq e) (SqT.ext e)
theorem walk_enumT {K : PySem.W.Frag} {a : Addr} {xs : List V} : Walk (Itte K a) xs.length (fun H => SqT K H a xs) (YPair (fun i => some (.int (i : Nat))) (fun i => xs[i]?)) := by
  refine ⟨fun i _ hi q => ⟨xs, xs[i], q, by simp [hi]⟩, fun _ q => ⟨xs, q, Nat.le_refl _⟩, fun i H v H' _ q y => ?_⟩
  obtain ⟨T, x, h1, h2, h3, h4⟩ := y
  exact ⟨T, .int (i : Nat), x, h1, h2, h3, rfl, h4 xs q⟩
/-- a walk over it, which stays so while all that stood at H0 stands on -/
def Goes (H0 H1 : Hp) (n : Nat) (Y : Nat → Hp → V → Hp → Prop) (R : It → Hp → Prop) : Prop := ∀ (J : It) (G : Hp → Prop), Walk J n G Y → (∀ H', Am.Ext H0 H' → G H') → R J H1
def iSeq (K : PySem.W.Frag) (tl : TE) : TI := fun σ H R => tl σ H fun x H1 => ∃ a xs H0, x = .ref a ∧ SqA K H0 a xs ∧ Am.Ext H0 H1 ∧ Goes H0 H1 xs.length (YAt xs) R
def iEnumA (K : PySem.W.Frag) (ta : TA) : TI := fun σ H R => ta σ H fun vs H1 => ∃ a xs H0, vs = [.ref a] ∧ SqA K H0 a xs ∧ Am.Ext H0 H1 ∧ Goes H0 H1 xs.length (YPair (fun i => some (.int (i : Nat))) (fun i => xs[i]?)) R
section
variable {X : Cx} {tg : Expr}
theorem pi_seq {l : Expr} {tl : TE} (hl : PE X l tl) : PI X tg l (iSeq X.K tl) := by
  refine ⟨fun pins s σ H R I h => ?_⟩
  refine thn (hl.run pins s σ H _ I h) fun v s1 ⟨x, H1, I1, r1, q1⟩ => ?_
  obtain ⟨a, xs, H0, e, h0 | h0, e0, q⟩ := q1
  · subst e
    cases r1
    have hq := Am.Ext.seq e0 h0
    obtain ⟨its, rv, p, hz⟩ := I1.list hq
    refine wpAny_pyIter_list p.isList ?_
    refine ⟨s1.heap.objs.size, [s1.heap.objs.size], _, _, H1, rfl, I1.kept (t' := s1.toks) fun b o e => Heap.get?_push_of_some _ e, turn_list a _, ⟨_, Heap.get?_push_size _ rfl, rfl, rfl⟩, fun b hb => ?_, q _ _ walk_list fun H' e => Am.Ext.seq e h0⟩
    have e : b = s1.heap.objs.size := by simpa using hb
    subst e
    exact I1.fpOk (Nat.le_refl _) (I1.hok.fresh (Nat.le_refl _))
  · subst e
    cases r1
    have hq := SqT.ext e0 h0
    obtain ⟨its, rv, p, hz⟩ := I1.tuple hq
    refine wpAny_pyIter_tuple (show s1.heap.IsTuple a its.toArray from p) ?_
    refine ⟨s1.heap.objs.size, [s1.heap.objs.size], _, _, H1, rfl, I1.kept (t' := s1.toks) fun b o e => Heap.get?_push_of_some _ e, turn_tuple a _, ⟨_, Heap.get?_push_size _ rfl, rfl, rfl⟩, fun b hb => ?_, q _ _ walk_tup fun H' e => SqT.ext e h0⟩
    have e : b = s1.heap.objs.size := by simpa using hb
    subst e
    exact I1.fpOk (Nat.le_refl _) (I1.hok.fresh (Nat.le_refl _))
theorem pi_enumA {e : Expr} {ta : TA} {p pos tpos : Pos} {elts : List Expr} {kk : Nat} (hg : Gl X "enumerate") (hm : X.mg "enumerate" = none) (ha : PA X [e] ta) (hs : starEach [e] X.env = [(false, eval e X.env)] := by rfl) :
    PI X (.Tuple elts kk tpos) (.Call (.Name "enumerate" p) [e] [] pos) (iEnumA X.K ta) := by
  refine ⟨fun pins s σ H R I h => ?_⟩
  refine Call_ (ld_blt I hg hm boot_enumerate (PyProof.Rows.callWith_type1 (thn (ha.run pos pins s σ H _ I h) fun us s1 ⟨vs, H1, I1, r1, q1⟩ => ?_) hs rfl))
  obtain ⟨a, xs, H0, ex, h0, e0, q⟩ := q1
  subst ex
  cases r1 with
  | cons r rr =>
    cases rr
    cases r
    have fp : ∀ b, b ∈ [s1.heap.objs.size + 1, s1.heap.objs.size] → FpOk X pins H1 b := fun b hb => by
      have e' : b = s1.heap.objs.size + 1 ∨ b = s1.heap.objs.size := by simpa using hb
      have hle : s1.heap.objs.size ≤ b := by
        rcases e' with z | z
        · rw [z]; exact Nat.le_add_right _ _
        · rw [z]; exact Nat.le_refl _
      exact I1.fpOk hle (I1.hok.fresh hle)
    rcases h0 with h0 | h0
    · have hq := Am.Ext.seq e0 h0
      obtain ⟨its, rv, p', hz⟩ := I1.list hq
      refine call_enumerate_list p'.isList fun h' he hit hsz hk => wpAny_pyIter_enum he ?_
      have I2 : Inv X pins σ H1 { s1 with heap := h' } := I1.kept (t' := s1.toks) hk
      exact ⟨s1.heap.objs.size + 1, [s1.heap.objs.size + 1, s1.heap.objs.size], _, _, H1, rfl, I2, turn_enum a (s1.heap.objs.size + 1) s1.heap.objs.size, ⟨⟨.none, he⟩, hit, Nat.succ_ne_self _⟩, fp, q _ _ walk_enum fun H' e => Am.Ext.seq e h0⟩
    · have hq := SqT.ext e0 h0
      obtain ⟨its, rv, p', hz⟩ := I1.tuple hq
      have pt : s1.heap.IsTuple a its.toArray := p'
      have al : a < s1.heap.objs.size := by obtain ⟨o, q, _⟩ := id pt; exact Heap.lt_size q
      refine call_enumerateB (begins_tuple a its.toArray) pt (F.typeCall_enumerate_1 _) (F.newCall_enumerate_1 _) (fun obj => F.args_object_init_2 obj _) fun h' he hit hsz hk => wpAny_pyIter_enum he ?_
      have I2 : Inv X pins σ H1 { s1 with heap := h' } := I1.kept (t' := s1.toks) hk
      exact ⟨s1.heap.objs.size + 1, [s1.heap.objs.size + 1, s1.heap.objs.size], _, _, H1, rfl, I2, turn_enumT a (s1.heap.objs.size + 1) s1.heap.objs.size (by have : a ≠ s1.heap.objs.size + 1 := Nat.ne_of_lt (Nat.lt_succ_of_lt al); exact Ne.symm this) (by have : a ≠ s1.heap.objs.size := Nat.ne_of_lt al; exact Ne.symm this),
        ⟨⟨.none, he⟩, ⟨_, hit, rfl, rfl⟩, Nat.succ_ne_self _⟩, fp, q _ _ walk_enumT fun H' e => SqT.ext e h0⟩
end
end SqX

set_option Elab.async false
set_option linter.all false
set_option maxRecDepth 100000
set_option maxHeartbeats 1000000
/-! is_name, is_list. -/
namespace KD
open PySem PySem.Spec PyProof.Rows L2 Oo Gd Am KA SqX
def low (c : Nat) : Bool := decide (97 ≤ c ∧ c < 123)
def nsg (c : Nat) : Bool := decide ((97 ≤ c ∧ c < 123) ∨ (48 ≤ c ∧ c < 58))
theorem in_low (c : Nat) : decide (c ∈ (Str.ofString "abcdefghijklmnopqrstuvwxyz").cps.toList) = low c := by
  have e : (Str.ofString "abcdefghijklmnopqrstuvwxyz").cps.toList = List.range' 97 26 := by decide +kernel
  rw [e]
  unfold low
  exact decide_eq_decide.mpr (by rw [List.mem_range'_1])
theorem in_nsg (c : Nat) : decide (c ∈ (Str.ofString "abcdefghijklmnopqrstuvwxyz0123456789").cps.toList) = nsg c := by
  have e : (Str.ofString "abcdefghijklmnopqrstuvwxyz0123456789").cps.toList = List.range' 97 26 ++ List.range' 48 10 := by decide +kernel
  rw [e]
  unfold nsg
  exact decide_eq_decide.mpr (by rw [List.mem_append, List.mem_range'_1, List.mem_range'_1])
/-- the signs of a text -/
abbrev sg (x : Str) : List Nat := x.cps.toList
theorem sg_len (x : Str) : (sg x).length = x.length := Array.length_toList
def nameB (x : Str) : Bool := decide (1 ≤ x.length) && (decide (x.length ≤ 8) && (low ((sg x).headD 0) && (sg x).all nsg))
section
variable {P : Program} {w : World} {K : W.Frag} {mg : Str → Option Value} {base : Heap} {f C : Addr} {fd : FuncData} {t t2 t3 : Tok}
def spName : Sp := fun vs H Q _ => ∃ x : Str, vs = [.str x] ∧ x.length ≤ 3000 ∧ ∀ H', Am.Ext H H' → Q (.bl (nameB x)) H'
theorem scName : FnScope ["value", "sign"] ["value"] (defScope (top 17)) := ⟨rfl, rfl, rfl, by decide +kernel, rfl, by decide +kernel, by decide +kernel⟩
theorem ok_name (fr : Frees mg) (m8 : mg "LONGEST_NAME" = some (.int 8 t)) (mL : mg "LETTERS" = some (.str "abcdefghijklmnopqrstuvwxyz" t2)) (mS : mg "NAME_SIGNS" = some (.str "abcdefghijklmnopqrstuvwxyz0123456789" t3))
    (F : Fun K "is_name" "is_name" (top 17) f fd) : FnOk P w K mg base CX0 1 f fd ["value"] spName := by
  refine F.ok scName (fun vs H Q E h => ?_) (fun cdv A outer s H vs Q E hr h => ?_)
  · obtain ⟨x, rfl, _⟩ := h
    rfl
  · obtain ⟨x, rfl, lx, z⟩ := h
    have nd := scName.nd
    have isk : IsK K := ⟨trivial⟩
    refine ⟨_, pss_cons (ps_if (PW.pt (pw_or (pt_not (pt_val (pe_callB call_isi rfl (fr.h _ (by decide +kernel)) (by decide +kernel) (pa_cons (pv 0) (pa_cons (pe_bltn (v := V.ty "str") rfl (fr.h _ (by decide +kernel)) (by rfl) rfl) pa_nil)))))
        (pw_or1 (pt_not (pt_chain op_le op_le pe_int (pe_callB call_len_str rfl (fr.h _ (by decide +kernel)) (by decide +kernel) (pa_cons (pv 0) pa_nil)) (pe_glob (v := V.int 8) rfl m8 ⟨t, rfl⟩)))))) (pss_one (ps_ret pe_bl)) pss_nil)
      (pss_one (ps_ret (pe_and (pe_cmpR op_in_sign (pe_ix (ixK isk) (pv 0) pe_int (fun _ _ => rfl)) (pe_glob (v := V.str "abcdefghijklmnopqrstuvwxyz") rfl mL ⟨t2, rfl⟩) rfl)
        (pe_one (pe_callB (allK isk rfl) rfl (fr.h _ (by decide +kernel)) (by decide +kernel) (pa_cons (pe_lc (own := [("sign", 1)]) (g := gName 1) (tt := tYes) rfl nd (pi_str (pv 0)) (blkOk_by (N := ["value", "sign"]) (sc := defScope (top 17)) (by decide +kernel)) (fun _ _ _ _ _ => pg_name (i := 1) nd rfl (Or.inl rfl)) (fun _ _ _ _ _ => pts_nil) (fun _ _ _ _ _ => pe_cmpR op_in_sign (pv 1) (pe_glob (v := V.str "abcdefghijklmnopqrstuvwxyz0123456789") rfl mS ⟨t3, rfl⟩) rfl)) pa_nil)))))), ?_⟩
    have big : (3000 : Nat) < sizeLine := by decide
    have lt := sg_len x
    refine ⟨_, rfl, _, _, _, _, true, rfl, ClsV.ty "str", TyX.base (TyOf.str x), kit_ty (by decide +kernel), _, rfl, ?_⟩
    refine iteF ⟨_, rfl, _, rfl, (by omega), _, _, rfl, rfl, _, rfl, ?_⟩
    by_cases h1 : 1 ≤ x.length
    · rw [decide_eq_true (show (1 : Int) ≤ (x.length : Int) by omega)]
      refine iteT ⟨_, _, rfl, rfl, _, rfl, ?_⟩
      by_cases h8 : x.length ≤ 8
      · rw [decide_eq_true (show (x.length : Int) ≤ 8 by omega)]
        refine iteF ?_
        obtain ⟨c, r, er⟩ : ∃ c r, sg x = c :: r := by
          cases e : sg x with
          | nil => rw [e] at lt; simp at lt; omega
          | cons c r => exact ⟨c, r, rfl⟩
        have key : nameB x = (low c && (sg x).all nsg) := by
          unfold nameB
          rw [decide_eq_true h1, decide_eq_true h8, er]
          rfl
        refine ⟨_, rfl, .inr (.inr ⟨x, 0, c, rfl, rfl, by omega, (by have := atI_nat (j := 0) (show (sg x)[0]? = some c by rw [er]; rfl); exact this), c, _, rfl, rfl, _, rfl, ?_⟩)⟩
        rw [in_low]
        by_cases hl : low c = true
        · rw [hl, Bool.true_and] at key
          rw [hl]
          refine iteT ⟨_, rfl, _, rfl, fun D hD => ?_⟩
          refine lc_it walk_str (fun i H' => Am.Ext H H' ∧ H' D = some (.lst (((sg x).take i).map fun c => V.bl (nsg c)))) ⟨Am.Ext.new hD, by rw [upd_same]; rfl⟩ (fun _ _ _ _ => trivial) ?_ ?_
          · rintro i y H' H2 hi ⟨e, d⟩ ⟨rfl, c', hc, rfl⟩
            have hc' : (sg x)[i]? = some c' := by
              rw [← hc]
              exact Array.getElem?_toList
            refine ⟨rfl, _, rfl, c', _, rfl, rfl, _, d, ?_, ⟨fun b o hb => ?_, ?_⟩⟩
            · rw [List.length_map, List.length_take]
              omega
            · rw [upd_ne (ne_of_none hb hD)]
              exact e b o hb
            · rw [upd_same, List.take_succ, hc', Option.toList_some, List.map_append, in_nsg]
              rfl
          · rintro H' ⟨e, d⟩
            rw [show x.cps.size = (sg x).length from lt.symm, List.take_length] at d
            refine ⟨D, (sg x).map nsg, rfl, SqL.of (by rw [d, List.map_map]; rfl), ?_⟩
            have : ((sg x).map nsg).all id = (sg x).all nsg := by rw [List.all_map]; rfl
            rw [this, ← key]
            exact z H' e
        · have hl' : low c = false := by simpa using hl
          rw [hl', Bool.false_and] at key
          rw [hl']
          have := z H (Am.Ext.refl H)
          rw [key] at this
          exact iteF this
      · rw [decide_eq_false (show ¬ (x.length : Int) ≤ 8 by omega)]
        have key : nameB x = false := by
          unfold nameB
          rw [decide_eq_false h8, Bool.false_and, Bool.and_false]
        have := z H (Am.Ext.refl H)
        rw [key] at this
        exact iteT this
    · rw [decide_eq_false (show ¬ (1 : Int) ≤ (x.length : Int) by omega)]
      have key : nameB x = false := by
        unfold nameB
        rw [decide_eq_false h1, Bool.false_and]
      have := z H (Am.Ext.refl H)
      rw [key] at this
      exact iteF ⟨_, rfl, iteT this⟩
/-- a list or a tuple that stands, or a tuple of the written part -/
def SeqH (K : W.Frag) (H : Hp) (a : Addr) (xs : List V) : Prop := H a = some (.lst xs) ∨ H a = some (.tup xs) ∨ ∃ (o : Obj) (its : Array Value) (n : Nat), K.lookup a = some o ∧ o.cls = .type "tuple" ∧ o.data = .seq its n ∧ its.size ≤ sizeLine ∧ Vals xs its.toList
theorem SeqH.ext {K : W.Frag} {H H' : Hp} {a : Addr} {xs : List V} (e : Am.Ext H H') (h : SeqH K H a xs) : SeqH K H' a xs := h.imp (e _ _) fun q => q.imp (e _ _) fun z => z
theorem SeqH.sq {K : W.Frag} {H : Hp} {a : Addr} {xs : List V} (h : SeqH K H a xs) : SqA K H a xs := by
  rcases h with h | h | h
  · exact .inl (SqL.of h)
  · exact .inr (SqT.of h)
  · exact .inr (.inr h)
/-- is_list of a list or a tuple -/
def spList (K : W.Frag) : Sp := fun vs H Q _ => ∃ a xs, vs = [.ref a] ∧ SeqH K H a xs ∧ ∀ H', Am.Ext H H' → Q (.bl true) H'
theorem scList : FnScope ["value"] ["value"] (defScope (top 18)) := ⟨rfl, rfl, rfl, by decide +kernel, rfl, by decide +kernel, by decide +kernel⟩
theorem ok_list (fr : Frees mg) (F : Fun K "is_list" "is_list" (top 18) f fd) : FnOk P w K mg base CX0 1 f fd ["value"] (spList K) := by
  refine F.ok scList (fun vs H Q E h => ?_) (fun cdv A outer s H vs Q E hr h => ?_)
  · obtain ⟨a, xs, rfl, _⟩ := h
    rfl
  · obtain ⟨a, xs, rfl, hx, z⟩ := h
    refine ⟨_, pss_one (ps_ret (pe_callB call_isiT rfl (fr.h _ (by decide +kernel)) (by decide +kernel) (pa_cons (pv 0) (pa_cons (pe_tup (pa_cons (pe_bltn (v := V.ty "list") rfl (fr.h _ (by decide +kernel)) (by rfl) rfl) (pa_cons (pe_bltn (v := V.ty "tuple") rfl (fr.h _ (by decide +kernel)) (by rfl) rfl) pa_nil))) pa_nil)))), ?_⟩
    refine ⟨_, rfl, (by show 2 ≤ sizeLine; decide), fun T hT => ?_⟩
    have na : ∀ {o}, H a = some o → a ≠ T := fun e => ne_of_none e hT
    rcases hx with hx | hx | ⟨o, its, n, hk, hc, _⟩
    · exact ⟨_, T, _, _, _, true, rfl, upd_same, .cons (ClsV.ty "list") (.cons (ClsV.ty "tuple") .nil), TyX.base (TyOf.lst (by rw [upd_ne (na hx)]; exact hx)), kitAny_cons (b := true) (kit_ty (by decide +kernel)) (fun z => nomatch z) (fun _ => rfl), z _ (Am.Ext.new hT)⟩
    · exact ⟨_, T, _, _, _, true, rfl, upd_same, .cons (ClsV.ty "list") (.cons (ClsV.ty "tuple") .nil), TyX.base (TyOf.tup (by rw [upd_ne (na hx)]; exact hx)), kitAny_cons (b := false) (kit_ty (by decide +kernel)) (fun _ => kitAny_cons (b := true) (kit_ty (by decide +kernel)) (fun z => nomatch z) (fun _ => rfl)) (fun z => nomatch z), z _ (Am.Ext.new hT)⟩
    · exact ⟨_, T, _, _, _, true, rfl, upd_same, .cons (ClsV.ty "list") (.cons (ClsV.ty "tuple") .nil), TyX.kTuple hk hc, kitAny_cons (b := false) (kit_ty (by decide +kernel)) (fun _ => kitAny_cons (b := true) (kit_ty (by decide +kernel)) (fun z => nomatch z) (fun _ => rfl)) (fun z => nomatch z), z _ (Am.Ext.new hT)⟩
end
end KD

set_option Elab.async false
set_option linter.all false
set_option maxRecDepth 100000
set_option maxHeartbeats 1000000
/-! wrong_name_at, wrong_choice_at, sorted_names: of names that are right. -/
namespace KD
open PySem PySem.Spec PyProof.Rows L2 Oo Gd Am KA SqX
theorem ext_off {H H' : Hp} {D : Addr} {o : HO} (e : Am.Ext H H') (n : H D = none) : Am.Ext H (upd H' D o) := fun b u hb => by
  rw [upd_ne (ne_of_none hb n)]
  exact e b u hb
theorem take_suc {α : Type} {l : List α} {i : Nat} {c : α} (h : l[i]? = some c) : l.take (i + 1) = l.take i ++ [c] := by
  rw [List.take_succ, h]
  rfl
/-- the dict at D holds the names ys -/
def Seen (H : Hp) (D : Addr) (ys : List Str) : Prop := ∃ kvs : List (Key × V), H D = some (.dK kvs) ∧ kvs.length ≤ ys.length ∧ ∀ y : Str, (valV kvs (Sum.inr y : Key)).isSome = decide (y ∈ ys)
theorem seen0 {H : Hp} {D : Addr} : Seen (upd H D (.dK [])) D [] := ⟨[], upd_same, Nat.le_refl _, fun y => by rw [valV_nil]; simp⟩
theorem Seen.put {H : Hp} {D : Addr} {ys : List Str} {y : Str} {v : V} (s : Seen H D ys) (hl : ys.length < 1000) : ∃ H', DPut H D (.str y) v H' ∧ (∀ H0, H0 D = none → Am.Ext H0 H → Am.Ext H0 H') ∧ Seen H' D (ys ++ [y]) := by
  obtain ⟨kvs, hd, hk, hv⟩ := s
  have big : (1000 : Nat) < sizeLine := by decide
  refine ⟨_, DPut.k (k := (Sum.inr y : Key)) hd (by omega), fun H0 n e => ext_off e n, _, upd_same, ?_, fun z => ?_⟩
  · have := length_putK kvs (Sum.inr y : Key) v
    rw [List.length_append]
    simp
    omega
  · rw [valV_put]
    by_cases e : z = y
    · subst e
      rw [if_pos rfl]
      simp
    · rw [if_neg (fun q => e (by injection q)), hv z]
      simp [e]
/-- right names, all apart -/
structure Nms (xs : List Str) : Prop where
  ok : ∀ x ∈ xs, nameB x = true
  nd : xs.Nodup
  few : xs.length < 64
theorem name_len {x : Str} (h : nameB x = true) : 1 ≤ x.length ∧ x.length ≤ 8 := by
  unfold nameB at h
  simp only [Bool.and_eq_true, decide_eq_true_eq] at h
  exact ⟨h.1, h.2.1⟩
theorem map_at {xs : List Str} {i : Nat} {x : V} (h : (xs.map V.str)[i]? = some x) : ∃ y, xs[i]? = some y ∧ x = .str y := by
  rw [List.getElem?_map] at h
  obtain ⟨y, e, r⟩ := Option.map_eq_some_iff.mp h
  exact ⟨y, e, r.symm⟩
section
variable {P : Program} {w : World} {K : W.Frag} {mg : Str → Option Value} {base : Heap} {f C : Addr} {fd : FuncData} {t t2 t3 : Tok}
/-- wrong_name_at(values, earlier): there is none -/
def spWna (K : W.Frag) : Sp := fun vs H Q _ => ∃ (a b : Addr) (xs ys : List Str), vs = [.ref a, .ref b] ∧ SqA K H a (xs.map V.str) ∧ SqA K H b (ys.map V.str) ∧ Nms xs ∧ ys.length < 64 ∧ (∀ x ∈ xs, x ∉ ys) ∧ ∀ H', Am.Ext H H' → Q .non H'
abbrev nWna : List Str := ["values", "earlier", "seen", "name", "at", "value"]
theorem scWna : FnScope nWna ["values", "earlier"] (defScope (top 19)) := ⟨rfl, rfl, rfl, by decide +kernel, rfl, by decide +kernel, by decide +kernel⟩
theorem ok_wna (fr : Frees mg) (DN : Dn P w K mg base CX0 1 "is_name" ["value"] spName) (F : Fun K "wrong_name_at" "wrong_name_at" (top 19) f fd) : FnOk P w K mg base CX0 2 f fd ["values", "earlier"] (spWna K) := by
  refine F.ok scWna (fun vs H Q E h => ?_) (fun cdv A outer s H vs Q E hr h => ?_)
  · obtain ⟨a, b, xs, ys, rfl, _⟩ := h
    rfl
  · obtain ⟨a, b, xs, ys, rfl, ha, hb, nx, ly, off, z⟩ := h
    have nd := scWna.nd
    have isk : IsK K := ⟨trivial⟩
    have hu := hu_of hr
    refine ⟨_, pss_cons (ps_set (i := 2) nd rfl (.inl rfl) pe_dnewK)
      (pss_cons (ps_for PassesOwn.never rfl (pi_seq (pv 1)) (pg_name (i := 3) nd rfl (.inl rfl)) (pss_one (ps_dput hu (pv 2) (pv 3) pe_bl rfl)))
      (pss_cons (ps_for PassesOwn.never rfl (pi_enumA rfl (fr.h _ (by decide +kernel)) (pa_cons (pv 0) pa_nil)) (pg_tup rfl (pgs_cons (pg_name (i := 4) nd rfl (.inl rfl)) (pgs_cons (pg_name (i := 5) nd rfl (.inl rfl)) pgs_nil)))
        (pss_cons (ps_if (PW.pt (pw_or (pt_not (pt_val (pe_dn DN hr (by rfl) (by decide) (pa_cons (pv 5) pa_nil)))) (pw_or1 (pt_cmp (pc_din hu (pv 5) (pv 2)))))) (pss_one (ps_ret (pv 4))) pss_nil)
          (pss_one (ps_dput hu (pv 2) (pv 5) pe_bl rfl))))
      (pss_one (ps_ret pe_non)))), ?_⟩
    intro D hD
    refine ⟨_, rfl, b, _, H, rfl, hb, Am.Ext.new hD, fun J G wk st => ?_⟩
    rw [List.length_map] at wk
    refine for_it wk (fun i σ H' => Am.Ext H H' ∧ Seen H' D (ys.take i) ∧ ∃ e3, σ = [some (.ref a), some (.ref b), some (.ref D), e3, none, none]) ⟨Am.Ext.new hD, seen0, none, rfl⟩ (fun i σ H' _ h => st H' h.1) ?_ ?_
    · rintro i x σ H' H2 hi ⟨eH, sn, e3, rfl⟩ ⟨rfl, hx⟩
      obtain ⟨y, hy, rfl⟩ := map_at hx
      obtain ⟨H3, dp, keep, sn2⟩ := sn.put (y := y) (v := .bl true) (by rw [List.length_take]; omega)
      rw [← take_suc hy] at sn2
      exact ⟨_, rfl, _, rfl, D, H3, rfl, dp, keep H hD eH, sn2, _, rfl⟩
    · rintro σ H1 ⟨e1, sn, e3, rfl⟩
      rw [List.take_length] at sn
      refine ⟨_, rfl, a, _, H, rfl, ha, e1, fun J G wk st => ?_⟩
      rw [List.length_map] at wk
      refine for_it wk (fun i σ H' => Am.Ext H H' ∧ Seen H' D (ys ++ xs.take i) ∧ ∃ e4 e5, σ = [some (.ref a), some (.ref b), some (.ref D), e3, e4, e5]) ⟨e1, by simpa using sn, none, none, rfl⟩ (fun i σ H' _ h => st H' h.1) ?_ ?_
      · rintro i x σ H' H2 hi ⟨eH, sn, e4, e5, rfl⟩ ⟨T, v1, v2, rfl, hT, rfl, hv1, hx⟩
        cases hv1
        obtain ⟨y, hy, rfl⟩ := map_at hx
        have hm : y ∈ xs := List.mem_of_getElem? hy
        have nm := nx.ok y hm
        have l8 := name_len nm
        have eT : Am.Ext H' (upd H' T (.tup [.int (i : Nat), .str y])) := Am.Ext.new hT
        have hDT : D ≠ T := by
          obtain ⟨kvs, hd, _⟩ := sn
          exact ne_of_none hd hT
        have snT : Seen (upd H' T (.tup [.int (i : Nat), .str y])) D (ys ++ xs.take i) := by
          obtain ⟨kvs, hd, r⟩ := sn
          exact ⟨kvs, by rw [upd_ne hDT]; exact hd, r⟩
        have fresh : y ∉ ys ++ xs.take i := by
          rw [List.mem_append]
          rintro (q | q)
          · exact off y hm q
          · obtain ⟨j, hj, e⟩ := List.getElem_of_mem q
            rw [List.length_take] at hj
            rw [List.getElem_take] at e
            have hyi := (List.getElem?_eq_some_iff.mp hy)
            exact List.pairwise_iff_getElem.mp nx.nd j i (by omega) hyi.1 (by omega) (by rw [e, hyi.2])
        refine ⟨T, _, rfl, SqT.of upd_same, rfl, _, _, rfl, _, _, rfl, rfl, ?_⟩
        refine ⟨_, rfl, y, rfl, by omega, fun H4 e4' => ⟨_, rfl, ?_⟩⟩
        rw [nm]
        have eH4 : Am.Ext H H4 := (eH.trans eT).trans e4'
        have sn4 : Seen H4 D (ys ++ xs.take i) := by
          obtain ⟨kvs, hd, r⟩ := snT
          exact ⟨kvs, e4' _ _ hd, r⟩
        obtain ⟨kvs, hd, hk, hv⟩ := id sn4
        refine iteF ⟨_, rfl, _, rfl, D, _, rfl, DGet.k (k := (Sum.inr y : Key)) hd, _, rfl, ?_⟩
        rw [hv y, decide_eq_false fresh]
        refine iteF ?_
        obtain ⟨H5, dp, keep, sn5⟩ := sn4.put (y := y) (v := .bl true) (by rw [List.length_append, List.length_take]; have := nx.few; omega)
        rw [List.append_assoc, ← take_suc hy] at sn5
        exact ⟨_, rfl, _, rfl, D, H5, rfl, dp, keep H hD eH4, sn5, _, _, rfl⟩
      · rintro σ H' ⟨eH, sn, e4, e5, rfl⟩
        exact z H' eH
end
end KD

set_option Elab.async false
set_option linter.all false
set_option maxRecDepth 100000
set_option maxHeartbeats 1000000
/-! sorted of texts, by themselves or by key=str. -/
namespace KD
open PySem PySem.Spec PyProof.Rows L2
def srt (xs : List Str) : List Str := xs.mergeSort fun a b => decide (a.cps.toList ≤ b.cps.toList)
theorem srt_perm (xs : List Str) : (srt xs).Perm xs := List.mergeSort_perm ..
theorem srt_len (xs : List Str) : (srt xs).length = xs.length := (srt_perm xs).length_eq
theorem srt_mem (xs : List Str) (x : Str) : x ∈ srt xs ↔ x ∈ xs := (srt_perm xs).mem_iff
theorem srt_of_perm {xs ys : List Str} (h : xs.Perm ys) : srt xs = srt ys := by
  have tr : ∀ a b c : Str, decide (a.cps.toList ≤ b.cps.toList) = true → decide (b.cps.toList ≤ c.cps.toList) = true → decide (a.cps.toList ≤ c.cps.toList) = true := fun a b c p q =>
    decide_eq_true (List.le_trans (of_decide_eq_true p) (of_decide_eq_true q))
  have to : ∀ a b : Str, (decide (a.cps.toList ≤ b.cps.toList) || decide (b.cps.toList ≤ a.cps.toList)) = true := fun a b => by
    rw [Bool.or_eq_true, decide_eq_true_eq, decide_eq_true_eq]
    exact List.le_total ..
  have s1 := List.pairwise_mergeSort tr to xs
  have s2 := List.pairwise_mergeSort tr to ys
  refine List.Perm.eq_of_pairwise (le := fun a b => decide (a.cps.toList ≤ b.cps.toList) = true) (fun a b _ _ p q => ?_) s1 s2 (((srt_perm xs).trans h).trans (srt_perm ys).symm)
  have e := List.le_antisymm (of_decide_eq_true p) (of_decide_eq_true q)
  cases a with
  | mk a =>
    cases b with
    | mk b => exact congrArg Str.mk (Array.toList_inj.mp e)
abbrev isS : Value → Str → Prop := fun v b => ∃ t, v = .str b t
theorem each_s : ∀ {xs : List Str} {us : List Value}, Vals (xs.map V.str) us → PySem.W.EachIs isS us xs
  | [], _, r => by cases r; exact .nil
  | x :: xs, _, r => by
    cases r with
    | cons a b => exact .cons a (each_s b)
theorem s_each : ∀ {xs : List Str} {us : List Value}, PySem.W.EachIs isS us xs → Vals (xs.map V.str) us
  | _, _, .nil => .nil
  | _, _, .cons a b => .cons a (s_each b)
theorem alike_s (xs : List Str) : PySem.W.AllAlike (xs.map PyData.str) := PySem.W.AllAlike.of fun _ _ => rfl
theorem sortable_s (xs : List Str) : PySem.W.Sortable (xs.map PyData.str) := PySem.W.Sortable.others (enc := PyData.str) fun _ => And.intro (fun h => nomatch h) (fun _ h => nomatch h)
theorem le_s : PySem.W.dataLe false (fun b : Str => PyData.str b) = fun a b => decide (a.cps.toList ≤ b.cps.toList) := PySem.W.dataLe_str (fun b : Str => b)
def rSrt (K : PySem.W.Frag) : List V → Hp → VK → Prop := fun vs H Q => ∃ (a : Addr) (xs : List Str), vs = [.ref a] ∧ SqL K H a (xs.map V.str) ∧ xs.length ≤ 1000 ∧ ∀ p, H p = none → Q (.ref p) (upd H p (.lst ((srt xs).map V.str)))
def rSrtK (K : PySem.W.Frag) : List V → List V → Hp → VK → Prop := fun vs zs H Q => zs = [.ty "str"] ∧ rSrt K vs H Q
section
variable {X : Cx} {k : Nat}
theorem cr_srt (hr : Room k X.A) : CallR X (.builtin "sorted") (rSrt X.K) := by
  intro pins s σ H vs us Q I r h
  obtain ⟨a, xs, rfl, hs, hl, q⟩ := h
  obtain ⟨its, rv, pl, _⟩ := I.list hs
  rw [Vals.ref1 r]
  have big : (1000 : Nat) < sizeLine := by decide
  have e := each_s rv
  have un := hr.units
  refine PySem.W.sorted_data (enc := PyData.str) pl.isList e (e.mono fun v b ⟨t, z⟩ => ⟨[], by rw [z]; exact .str b t⟩) (alike_s xs) (sortable_s xs) (by omega) (fun b _ => by show X.A.units + 2 + 0 < cLine; omega) fun out lo ko => ?_
  obtain ⟨ep, he'⟩ := PyProof.Rows.sortedAll_at s.heap its out.toArray
  rw [le_s] at ko
  have hlen : ((srt xs).map V.str).length ≤ sizeLine := by rw [List.length_map, srt_len]; omega
  exact ⟨.ref _, upd H (s.heap.objs.size + 1) (.lst ((srt xs).map V.str)), I.laid (t' := s.toks) (fun _ _ => PyProof.Rows.sortedAll_old) (Nat.le_succ _) ⟨hlen, out, ep, s_each ko, he'⟩, rfl, q _ (I.hok.fresh (Nat.le_succ _))⟩
theorem tree_str (a : Addr) : Builtin.«list.sort» ⟨[.ref a], [(Str.ofString "key", .type "str")]⟩ = PyProof.Rows.ksk_tree a (.type "str") false := rfl
theorem cr_srtK (hr : Room k X.A) : CallRK X (.builtin "sorted") [Str.ofString "key"] (rSrtK X.K) := by
  intro pins s σ H vs zs us ws Q I r rz h
  obtain ⟨rfl, a, xs, rfl, hs, hl, q⟩ := h
  obtain ⟨its, rv, pl, _⟩ := I.list hs
  rw [Vals.ref1 r]
  obtain ⟨w1, rfl, e1⟩ := vals1 rz
  obtain rfl : w1 = Value.type "str" := e1
  have big : (1000 : Nat) < sizeLine := by decide
  have e := each_s rv
  have un := hr.units
  refine PySem.W.sorted_key_data (f := .type "str") (b := false) PyData.str pl.isList e (alike_s xs) (sortable_s xs) (by omega) (fun b _ => by show X.A.units + 2 + 0 < cLine; omega) (PyProof.Rows.ksk_s1 _ _) (fun _ => PyProof.Rows.ksk_l1 _ _) (fun x => tree_str x) (fun v x hR _ h tk kp => ?_) fun out c h' tk kp hn hD lo ko => ?_
  · obtain ⟨t, rfl⟩ := hR
    exact PySem.P.str_of_str ⟨h, tk, rfl, fun _ _ z => z, .str x t⟩
  · rw [le_s] at ko
    have hlen : ((srt xs).map V.str).length ≤ sizeLine := by rw [List.length_map, srt_len]; omega
    exact ⟨.ref _, upd H (s.heap.objs.size + 1) (.lst ((srt xs).map V.str)), I.laid (t' := tk) kp (Nat.le_succ _) ⟨hlen, out, c, s_each ko, hD⟩, rfl, q _ (I.hok.fresh (Nat.le_succ _))⟩
end
end KD

set_option Elab.async false
set_option linter.all false
set_option maxRecDepth 100000
set_option maxHeartbeats 1000000
/-! sorted_names. -/
namespace KD
open PySem PySem.Spec PyProof.Rows L2 Oo Gd Am KA SqX
section
variable {P : Program} {w : World} {K : W.Frag} {mg : Str → Option Value} {base : Heap} {f C : Addr} {fd : FuncData} {t t2 t3 : Tok}
/-- a new tuple of these texts -/
def NewT (H : Hp) (Q : VK) (xs : List Str) : Prop := ∀ (T : Addr) (H' : Hp), Am.Ext H H' → H T = none → H' T = some (.tup (xs.map V.str)) → Q (.ref T) H'
def spSn (K : W.Frag) : Sp := fun vs H Q _ => ∃ (a : Addr) (xs : List Str), vs = [.ref a] ∧ SqA K H a (xs.map V.str) ∧ xs.length ≤ 100 ∧ NewT H Q (srt xs)
def spSnD : Sp := fun vs H Q _ => ∃ (a : Addr) (kvs : List (Key × V)) (xs : List Str), vs = [.ref a] ∧ H a = some (.dK kvs) ∧ kvs.map (·.1) = xs.map Sum.inr ∧ xs.length ≤ 100 ∧ NewT H Q (srt xs)
theorem scSn : FnScope ["names", "name"] ["names"] (defScope (top 21)) := ⟨rfl, rfl, rfl, by decide +kernel, rfl, by decide +kernel, by decide +kernel⟩
theorem ok_sn (fr : Frees mg) (F : Fun K "sorted_names" "sorted_names" (top 21) f fd) : FnOk P w K mg base CX0 1 f fd ["names"] (spSn K) := by
  refine F.ok scSn (fun vs H Q E h => ?_) (fun cdv A outer s H vs Q E hr h => ?_)
  · obtain ⟨a, xs, rfl, _⟩ := h
    rfl
  · obtain ⟨a, xs, rfl, hx, lx, z⟩ := h
    have nd := scSn.nd
    have isk : IsK K := ⟨trivial⟩
    have big : (1000 : Nat) < sizeLine := by decide
    refine ⟨_, pss_one (ps_ret (pe_callTy (tupK isk) rfl (fr.h _ (by decide +kernel)) (by decide +kernel) (pa_cons (pe_callB (cr_srt hr) rfl (fr.h _ (by decide +kernel)) (by decide +kernel) (pa_cons
      (pe_lc (own := [("name", 1)]) (g := gName 1) (tt := tYes) rfl nd (pi_seq (pv 0)) (blkOk_by (N := ["names", "name"]) (sc := defScope (top 21)) (by decide +kernel)) (fun _ _ _ _ _ => pg_name (i := 1) nd rfl (Or.inl rfl)) (fun _ _ _ _ _ => pts_nil)
        (fun _ _ _ _ _ => pe_callTy SkE.call_str_str rfl (fr.h _ (by decide +kernel)) (by decide +kernel) (pa_cons (pv 1) pa_nil))) pa_nil)) pa_nil))), ?_⟩
    refine ⟨_, rfl, a, _, H, rfl, hx, Am.Ext.refl H, fun J G wk st D hD => ?_⟩
    rw [List.length_map] at wk
    refine lc_it wk (fun i H' => Am.Ext H H' ∧ H' D = some (.lst ((xs.take i).map V.str))) ⟨Am.Ext.new hD, by rw [upd_same]; rfl⟩ (fun i H' _ h => st H' h.1) ?_ ?_
    · rintro i y H' H2 hi ⟨e, d⟩ ⟨rfl, hy⟩
      obtain ⟨x, hx', rfl⟩ := map_at hy
      refine ⟨rfl, _, rfl, x, rfl, _, d, ?_, ext_off e hD, ?_⟩
      · rw [List.length_map, List.length_take]
        omega
      · rw [upd_same, take_suc hx', List.map_append]
        rfl
    · rintro H' ⟨e, d⟩
      rw [List.take_length] at d
      refine ⟨D, xs, rfl, SqL.of d, by omega, fun p hp => ?_⟩
      have e2 := e.then (o := .lst ((srt xs).map V.str)) hp
      refine ⟨p, (srt xs).map V.str, rfl, .inl ⟨SqL.of upd_same, fun T hT => ?_⟩⟩
      exact z T _ (e2.then hT) (e2.gone hT) upd_same
theorem ok_snD (fr : Frees mg) (F : Fun K "sorted_names" "sorted_names" (top 21) f fd) : FnOk P w K mg base CX0 1 f fd ["names"] spSnD := by
  refine F.ok scSn (fun vs H Q E h => ?_) (fun cdv A outer s H vs Q E hr h => ?_)
  · obtain ⟨a, kvs, xs, rfl, _⟩ := h
    rfl
  · obtain ⟨a, kvs, xs, rfl, hx, hk, lx, z⟩ := h
    have nd := scSn.nd
    have isk : IsK K := ⟨trivial⟩
    have big : (1000 : Nat) < sizeLine := by decide
    refine ⟨_, pss_one (ps_ret (pe_callTy (tupK isk) rfl (fr.h _ (by decide +kernel)) (by decide +kernel) (pa_cons (pe_callB (cr_srt hr) rfl (fr.h _ (by decide +kernel)) (by decide +kernel) (pa_cons
      (pe_lock (pe_lc (own := [("name", 1)]) (g := gName 1) (tt := tYes) rfl nd (pi_keys (pv 0)) (blkOk_by (N := ["names", "name"]) (sc := defScope (top 21)) (by decide +kernel)) (fun _ _ _ _ _ => pg_name (i := 1) nd rfl (Or.inl rfl)) (fun _ _ _ _ _ => pts_nil)
        (fun _ _ _ _ _ => pe_callTy SkE.call_str_str rfl (fr.h _ (by decide +kernel)) (by decide +kernel) (pa_cons (pv 1) pa_nil)))) pa_nil)) pa_nil))), ?_⟩
    have lk : kvs.length = xs.length := by
      have := congrArg List.length hk
      simpa using this
    refine ⟨a, _, hx, trivial, fun od => ?_⟩
    have ha : upd H a (.frz od (.dK kvs)) a = some (.frz od (.dK kvs)) := upd_same
    refine ⟨_, rfl, a, od, rfl, .inl ⟨kvs, ha, fun D hD => ?_⟩⟩
    have hDa : D ≠ a := fun q => by rw [q, upd_same] at hD; cases hD
    have hD' : H D = none := by rw [upd_ne hDa] at hD; exact hD
    have eu : ∀ {H' : Hp}, Am.Ext (upd H a (.frz od (.dK kvs))) H' → Am.Ext H (upd H' a (.dK kvs)) := fun {H'} e b o hb => by
      by_cases q : b = a
      · rw [q, upd_same]
        rw [q, hx] at hb
        exact hb
      · rw [upd_ne q]
        exact e b o (by rw [upd_ne q]; exact hb)
    refine lc_it walk_keys (fun i H' => Am.Ext (upd H a (.frz od (.dK kvs))) H' ∧ H' D = some (.lst ((xs.take i).map V.str))) ⟨Am.Ext.new hD, by rw [upd_same]; rfl⟩ (fun i H' _ h => h.1 _ _ ha) ?_ ?_
    · rintro i y H' H2 hi ⟨e, d⟩ ⟨rfl, k, v, hk', rfl⟩
      have hxi : (kvs.map (·.1))[i]? = some k := by rw [List.getElem?_map, hk']; rfl
      rw [hk, List.getElem?_map] at hxi
      obtain ⟨x, hx', rfl⟩ := Option.map_eq_some_iff.mp hxi
      refine ⟨rfl, _, rfl, x, rfl, _, d, ?_, ext_off e hD, ?_⟩
      · rw [List.length_map, List.length_take]
        omega
      · rw [upd_same, take_suc hx', List.map_append]
        rfl
    · rintro H' ⟨e, d⟩
      rw [lk, List.take_length] at d
      have d2 : upd H' a (.dK kvs) D = some (.lst (xs.map V.str)) := by rw [upd_ne hDa]; exact d
      refine ⟨e _ _ ha, D, xs, rfl, SqL.of d2, by omega, fun p hp => ?_⟩
      have e2 := (eu e).then (o := .lst ((srt xs).map V.str)) hp
      refine ⟨p, (srt xs).map V.str, rfl, .inl ⟨SqL.of upd_same, fun T hT => ?_⟩⟩
      exact z T _ (e2.then hT) (e2.gone hT) upd_same
end
end KD

set_option Elab.async false
set_option linter.all false
set_option maxRecDepth 100000
set_option maxHeartbeats 1000000
/-! wrong_choice_at of choices that are right. -/
namespace KD
open PySem PySem.Spec PyProof.Rows L2 Oo Gd Am KA SqX
theorem flat_s (xs : List Str) : (xs.map V.str).all flatV = true := by
  rw [List.all_map]
  exact List.all_eq_true.mpr fun x _ => rfl
theorem inV_s (y : Str) (xs : List Str) : inV (.str y) (xs.map V.str) = decide (y ∈ xs) := by
  unfold inV
  rw [List.any_map]
  by_cases h : y ∈ xs
  · rw [decide_eq_true h]
    exact List.any_eq_true.mpr ⟨y, h, beq_self_eq_true y⟩
  · rw [decide_eq_false h]
    refine List.any_eq_false.mpr fun z hz q => h ?_
    have : (z == y) = true := q
    rw [beq_iff_eq] at this
    rw [← this]
    exact hz
theorem cut_to (xs : List V) (i : Nat) (h : i ≤ xs.length) : cutV xs none (some (i : Int)) = xs.take i := by
  unfold cutV
  rw [HT.sIx_none, HT.sIx_nat, Nat.min_eq_left h]
  rfl
section
variable {P : Program} {w : World} {K : W.Frag} {mg : Str → Option Value} {base : Heap} {f C : Addr} {fd : FuncData} {t t2 t3 : Tok}
theorem in_A {H : Hp} {a : Addr} {y : Str} {xs : List Str} {Q : VK} {neg : Bool} (h : SqA K H a (xs.map V.str)) (q : Q (.bl (if neg then !decide (y ∈ xs) else decide (y ∈ xs))) H) : rIn K neg (.str y) (.ref a) H Q :=
  ⟨a, _, rfl, h, rfl, flat_s xs, by rw [inV_s]; exact q⟩
/-- xs[:i] of a list or a tuple -/
theorem cut_A {H : Hp} {a : Addr} {xs : List V} {i : Nat} {Q : VK} (h : SqA K H a xs) (hi : i < xs.length) (q : ∀ (p : Addr) (H' : Hp), Am.Ext H H' → SqA K H' p (xs.take i) → Q (.ref p) H') :
    rSlL K (.ref a) none (some (i : Int)) H Q ∨ rSlA K (.ref a) none (some (i : Int)) H Q := by
  rcases h with h | h
  · refine .inl ⟨a, xs, rfl, h, fun p hp => ?_⟩
    rw [cut_to xs i (by omega)]
    exact q p _ (Am.Ext.new hp) (.inl (SqL.of upd_same))
  · refine .inr ⟨a, xs, rfl, h, fun c => ?_, fun _ p hp => ?_⟩
    · exfalso
      have := c.2
      rw [HT.sIx_nat] at this
      omega
    · rw [cut_to xs i (by omega)]
      exact q p _ (Am.Ext.new hp) (.inr (SqT.of upd_same))
def spWch (K : W.Frag) : Sp := fun vs H Q _ => ∃ (a b : Addr) (xs ys : List Str), vs = [.ref a, .ref b] ∧ SqA K H a (xs.map V.str) ∧ SqA K H b (ys.map V.str) ∧ xs.Nodup ∧ (∀ x ∈ xs, x ∈ ys) ∧ ∀ H', Am.Ext H H' → Q .non H'
abbrev nWch : List Str := ["values", "choices", "at", "value"]
theorem scWch : FnScope nWch ["values", "choices"] (defScope (top 20)) := ⟨rfl, rfl, rfl, by decide +kernel, rfl, by decide +kernel, by decide +kernel⟩
theorem ok_wch (fr : Frees mg) (F : Fun K "wrong_choice_at" "wrong_choice_at" (top 20) f fd) : FnOk P w K mg base CX0 1 f fd ["values", "choices"] (spWch K) := by
  refine F.ok scWch (fun vs H Q E h => ?_) (fun cdv A outer s H vs Q E hr h => ?_)
  · obtain ⟨a, b, xs, ys, rfl, _⟩ := h
    rfl
  · obtain ⟨a, b, xs, ys, rfl, ha, hb, nx, sub, z⟩ := h
    have nd := scWch.nd
    have isk : IsK K := ⟨trivial⟩
    refine ⟨_, pss_cons (ps_for PassesOwn.never rfl (pi_enumA rfl (fr.h _ (by decide +kernel)) (pa_cons (pv 0) pa_nil)) (pg_tup rfl (pgs_cons (pg_name (i := 2) nd rfl (.inl rfl)) (pgs_cons (pg_name (i := 3) nd rfl (.inl rfl)) pgs_nil)))
        (pss_one (ps_if (PW.pt (pw_or (pt_not (pt_val (pe_callB call_isi rfl (fr.h _ (by decide +kernel)) (by decide +kernel) (pa_cons (pv 3) (pa_cons (pe_bltn (v := V.ty "str") rfl (fr.h _ (by decide +kernel)) (by rfl) rfl) pa_nil)))))
          (pw_or (pt_cmpR (niK isk) (pv 3) (pv 1) (by rfl)) (pw_or1 (pt_cmpR (inK isk) (pv 3) (pe_slice (sl_list.or sl_tupA) (pv 0) po_none (po_some (pv 2))) (by rfl)))))) (pss_one (ps_ret (pv 2))) pss_nil)))
      (pss_one (ps_ret pe_non)), ?_⟩
    refine ⟨_, rfl, a, _, H, rfl, ha, Am.Ext.refl H, fun J G wk st => ?_⟩
    rw [List.length_map] at wk
    refine for_it wk (fun i σ H' => Am.Ext H H' ∧ ∃ e2 e3, σ = [some (.ref a), some (.ref b), e2, e3]) ⟨Am.Ext.refl H, none, none, rfl⟩ (fun i σ H' _ h => st H' h.1) ?_ ?_
    · rintro i x σ H' H2 hi ⟨eH, e2, e3, rfl⟩ ⟨T, v1, v2, rfl, hT, rfl, hv1, hx⟩
      cases hv1
      obtain ⟨y, hy, rfl⟩ := map_at hx
      have hm : y ∈ xs := List.mem_of_getElem? hy
      have eT : Am.Ext H (upd H' T (.tup [.int (i : Nat), .str y])) := eH.trans (Am.Ext.new hT)
      have fresh : y ∉ xs.take i := by
        intro q
        obtain ⟨j, hj, e⟩ := List.getElem_of_mem q
        rw [List.length_take] at hj
        rw [List.getElem_take] at e
        have hyi := (List.getElem?_eq_some_iff.mp hy)
        exact List.pairwise_iff_getElem.mp nx j i (by omega) hyi.1 (by omega) (by rw [e, hyi.2])
      refine ⟨T, _, rfl, SqT.of upd_same, rfl, _, _, rfl, _, _, rfl, rfl, ?_⟩
      refine ⟨_, rfl, _, _, _, _, true, rfl, ClsV.ty "str", TyX.base (TyOf.str y), kit_ty (by decide +kernel), _, rfl, iteF ?_⟩
      refine ⟨_, rfl, _, rfl, in_A (SqA.ext eT hb) ⟨_, rfl, ?_⟩⟩
      rw [if_pos rfl, decide_eq_true (sub y hm)]
      refine iteF ⟨_, rfl, _, rfl, _, rfl, _, rfl, cut_A (SqA.ext eT ha) (by rw [List.length_map]; exact hi) fun p H3 e3' hp => ?_⟩
      rw [← List.map_take] at hp
      refine in_A hp ⟨_, rfl, ?_⟩
      rw [if_neg Bool.false_ne_true, decide_eq_false fresh]
      exact iteF ⟨eT.trans e3', _, _, rfl⟩
    · rintro σ H' ⟨eH, e2, e3, rfl⟩
      exact z H' eH
end
end KD

set_option Elab.async false
set_option linter.all false
set_option maxRecDepth 100000
set_option maxHeartbeats 1000000
/-! _check_weights, _check_side, _checked_ways: of what is right. -/
namespace KD
open PySem PySem.Spec PyProof.Rows L2 Oo Gd Am KA SqX
/-- names and their numbers as a dict's pairs -/
def wts (ls : List (Str × Int)) : List (Key × V) := ls.map fun p => (Sum.inr p.1, V.int p.2)
def wt (ls : List (Str × Int)) (x : Str) : Option Int := (ls.find? fun p => decide (p.1 = x)).map (·.2)
theorem valV_w (x : Str) : ∀ ls : List (Str × Int), valV (wts ls) (Sum.inr x : Key) = (wt ls x).map V.int
  | [] => rfl
  | p :: r => by
    by_cases e : p.1 = x
    · rw [show wts (p :: r) = ((Sum.inr p.1 : Key), V.int p.2) :: wts r from rfl, valV_pos (by rw [e])]
      unfold wt
      rw [List.find?_cons_of_pos (by simpa using e)]
      rfl
    · rw [show wts (p :: r) = ((Sum.inr p.1 : Key), V.int p.2) :: wts r from rfl, valV_neg (fun q => e (by injection q)), valV_w x r]
      unfold wt
      rw [List.find?_cons_of_neg (by simpa using e)]
theorem wt_some {ls : List (Str × Int)} {x : Str} (h : x ∈ ls.map (·.1)) : ∃ n, wt ls x = some n ∧ (x, n) ∈ ls := by
  obtain ⟨p, hp, rfl⟩ := List.mem_map.mp h
  unfold wt
  cases e : ls.find? fun q => decide (q.1 = p.1) with
  | none =>
    have := List.find?_eq_none.mp e p hp
    simp at this
  | some q =>
    have h1 := List.find?_some e
    have h2 := List.mem_of_find?_eq_some e
    simp only [decide_eq_true_eq] at h1
    exact ⟨q.2, rfl, by rw [← h1]; exact h2⟩
theorem keys_w (ls : List (Str × Int)) : (wts ls).map (·.1) = (ls.map (·.1)).map (Sum.inr : Str → Key) := by
  unfold wts
  rw [List.map_map, List.map_map]
  rfl
theorem len_w (ls : List (Str × Int)) : (wts ls).length = ls.length := List.length_map ..
section
variable {P : Program} {w : World} {K : W.Frag} {mg : Str → Option Value} {base : Heap} {f C : Addr} {fd : FuncData} {t t2 t3 : Tok}
def spChkW : Sp := fun vs H Q _ => ∃ (a : Addr) (ls : List (Str × Int)), vs = [.ref a] ∧ H a = some (.dK (wts ls)) ∧ Nms (ls.map (·.1)) ∧ ls ≠ [] ∧ (∀ p ∈ ls, p.2 ≠ 0) ∧ ∀ H', Am.Ext H H' → Q .non H'
abbrev nChkW : List Str := ["weights", "key"]
theorem scChkW : FnScope nChkW ["weights"] (defScope (top 33)) := ⟨rfl, rfl, rfl, by decide +kernel, rfl, by decide +kernel, by decide +kernel⟩
theorem ok_chkW (fr : Frees mg) (DN : Dn P w K mg base CX0 1 "is_name" ["value"] spName) (DW : Dn P w K mg base CX0 1 "is_whole" ["value"] spWhole) (DS : Dn P w K mg base CX0 1 "sorted_names" ["names"] spSnD)
    (F : Fun K "_check_weights" "_check_weights" (top 33) f fd) : FnOk P w K mg base CX0 2 f fd ["weights"] spChkW := by
  refine F.ok scChkW (fun vs H Q E h => ?_) (fun cdv A outer s H vs Q E hr h => ?_)
  · obtain ⟨a, ls, rfl, _⟩ := h
    rfl
  · obtain ⟨a, ls, rfl, ha, nm, ne, n0, z⟩ := h
    have nd := scChkW.nd
    have isk : IsK K := ⟨trivial⟩
    have hu := hu_of hr
    have big : (1000 : Nat) < sizeLine := by decide
    have few : ls.length < 64 := by have := nm.few; rwa [List.length_map] at this
    refine ⟨_, PSs.nox (pss_cons (ps_if (PW.pt (pw_or (pt_not (pt_val (pe_callB call_isi rfl (fr.h _ (by decide +kernel)) (by decide +kernel) (pa_cons (pv 0) (pa_cons (pe_bltn (v := V.ty "dict") rfl (fr.h _ (by decide +kernel)) (by rfl) rfl) pa_nil)))))
          (pw_or (pt_cmpR op_eq (pe_callB call_lenD rfl (fr.h _ (by decide +kernel)) (by decide +kernel) (pa_cons (pv 0) pa_nil)) pe_int (nomark _))
          (pw_or1 (pt_not (pt_val (pe_callB (allK isk rfl) rfl (fr.h _ (by decide +kernel)) (by decide +kernel) (pa_cons
            (pe_lock (pe_lc (own := [("key", 1)]) (g := gName 1) (tt := tYes) rfl nd (pi_keys (pv 0)) (blkOk_by (N := nChkW) (sc := defScope (top 33)) (by decide +kernel)) (fun _ _ _ _ _ => pg_name (i := 1) nd rfl (Or.inl rfl)) (fun _ _ _ _ _ => pts_nil)
              (fun _ _ _ _ _ => pe_dn DN hr (by rfl) (by decide) (pa_cons (pv 1) pa_nil)))) pa_nil)))))))) (pss_one ps_never) pss_nil)
      (pss_one (ps_for PassesOwn.never rfl (pi_seq (pe_dn DS hr (by rfl) (by decide) (pa_cons (pv 0) pa_nil))) (pg_name (i := 1) nd rfl (.inl rfl))
        (pss_one (ps_if (PW.pt (pw_or (pt_not (pt_val (pe_dn DW hr (by rfl) (by decide) (pa_cons (pe_dget hu (pv 0) (pv 1) (fun _ _ => rfl)) pa_nil)))) (pw_or1 (pt_cmpR op_eq (pe_dget hu (pv 0) (pv 1) (fun _ _ => rfl)) pe_int (nomark _))))) (pss_one ps_never) pss_nil))))), ?_⟩
    refine ⟨_, rfl, _, _, _, _, true, rfl, ClsV.ty "dict", TyX.base (TyOf.dK ha), kit_ty (by decide +kernel), _, rfl, iteF ?_⟩
    refine ⟨_, rfl, a, _, rfl, ha, rfl, _, rfl, ite2 (fun q => ?_) (fun _ => ?_)⟩
    · exfalso
      have : (wts ls).length = 0 := by simpa using q
      rw [len_w] at this
      exact ne (List.length_eq_zero_iff.mp this)
    have ha' : ∀ od, upd H a (.frz od (.dK (wts ls))) a = some (.frz od (.dK (wts ls))) := fun od => upd_same
    refine ⟨a, _, ha, trivial, fun od => ⟨_, rfl, a, od, rfl, .inl ⟨_, ha' od, fun D hD => ?_⟩⟩⟩
    have hDa : D ≠ a := fun q => by rw [q, upd_same] at hD; cases hD
    have eu : ∀ {H' : Hp}, Am.Ext (upd H a (.frz od (.dK (wts ls)))) H' → Am.Ext H (upd H' a (.dK (wts ls))) := fun {H'} e b o hb => by
      by_cases q : b = a
      · rw [q, upd_same]
        rw [q, ha] at hb
        exact hb
      · rw [upd_ne q]
        exact e b o (by rw [upd_ne q]; exact hb)
    refine lc_it walk_keys (fun i H' => Am.Ext (upd H a (.frz od (.dK (wts ls)))) H' ∧ ∃ bs : List Bool, H' D = some (.lst (bs.map V.bl)) ∧ bs.length = i ∧ bs.all id = true) ⟨Am.Ext.new hD, [], by rw [upd_same]; rfl, rfl, rfl⟩ (fun i H' _ h => h.1 _ _ (ha' od)) ?_ ?_
    · rintro i y H' H2 hi ⟨e, bs, d, bl, ba⟩ ⟨rfl, k, v, hk', rfl⟩
      have hxi : ((wts ls).map (·.1))[i]? = some k := by rw [List.getElem?_map, hk']; rfl
      rw [keys_w, List.getElem?_map] at hxi
      obtain ⟨x, hx', rfl⟩ := Option.map_eq_some_iff.mp hxi
      have nx := nm.ok x (List.mem_of_getElem? hx')
      have l8 := name_len nx
      rw [len_w] at hi
      refine ⟨rfl, _, rfl, x, rfl, by omega, fun H3 e3 => ?_⟩
      rw [nx]
      refine ⟨_, e3 _ _ d, ?_, ext_off (e.trans e3) hD, bs ++ [true], ?_, ?_, ?_⟩
      · rw [List.length_map]
        omega
      · rw [upd_same, List.map_append]
        rfl
      · rw [List.length_append, bl]
        rfl
      · rw [List.all_append, ba]
        rfl
    · rintro H' ⟨e, bs, d, bl, ba⟩
      have d2 : upd H' a (.dK (wts ls)) D = some (.lst (bs.map V.bl)) := by rw [upd_ne hDa]; exact d
      refine ⟨e _ _ (ha' od), D, bs, rfl, SqL.of d2, _, rfl, ?_⟩
      rw [ba]
      refine iteF ?_
      have e1 := eu e
      refine ⟨_, rfl, a, _, _, rfl, e1 _ _ ha, keys_w ls, by rw [List.length_map]; omega, fun T H3 e3 hT hT3 => ?_⟩
      have e13 := e1.trans e3
      refine ⟨T, _, H3, rfl, .inr (SqT.of hT3), Am.Ext.refl H3, fun J G wk st => ?_⟩
      rw [List.length_map, srt_len, List.length_map] at wk
      refine for_it wk (fun i σ H' => Am.Ext H3 H' ∧ ∃ e1, σ = [some (.ref a), e1]) ⟨Am.Ext.refl H3, none, rfl⟩ (fun i σ H' _ h => st H' h.1) ?_ ?_
      · rintro i x σ H' H2 hi ⟨eH, e1, rfl⟩ ⟨rfl, hx⟩
        obtain ⟨y, hy, rfl⟩ := map_at hx
        have hm : y ∈ ls.map (·.1) := (srt_mem _ _).mp (List.mem_of_getElem? hy)
        obtain ⟨n, hn, hmem⟩ := wt_some hm
        have g : DGet H2 a (.str y) (some (.int n)) := by
          have := DGet.k (k := (Sum.inr y : Key)) (eH _ _ (e13 _ _ ha))
          rw [valV_w, hn] at this
          exact this
        refine ⟨_, rfl, _, rfl, a, _, rfl, g, n, rfl, _, rfl, iteF ⟨_, rfl, _, rfl, a, _, rfl, g, rfl, _, rfl, ite2 (fun q => ?_) (fun _ => ⟨eH, _, rfl⟩)⟩⟩
        exfalso
        exact n0 _ hmem (by simpa using q)
      · rintro σ H' ⟨eH, e1, rfl⟩
        exact z H' (e13.trans eH)
end
end KD

set_option Elab.async false
set_option linter.all false
set_option maxRecDepth 100000
set_option maxHeartbeats 1000000
/-! _check_side, _checked_ways: of what is right. -/
namespace KD
open PySem PySem.Spec PyProof.Rows L2 Oo Gd Am KA SqX
section
variable {P : Program} {w : World} {K : W.Frag} {mg : Str → Option Value} {base : Heap} {f C : Addr} {fd : FuncData} {t t2 t3 : Tok}
def spChkS (K : W.Frag) : Sp := fun vs H Q _ => ∃ (v : V) (a b : Addr) (xs ys : List Str), vs = [v, .ref a, .ref b] ∧ SeqH K H a (xs.map V.str) ∧ SqA K H b (ys.map V.str) ∧ Nms xs ∧ ys.length < 64 ∧ (∀ x ∈ xs, x ∉ ys) ∧ ∀ H', Am.Ext H H' → Q .non H'
abbrev nChkS : List Str := ["side", "names", "earlier", "position"]
theorem scChkS : FnScope nChkS ["side", "names", "earlier"] (defScope (top 34)) := ⟨rfl, rfl, rfl, by decide +kernel, rfl, by decide +kernel, by decide +kernel⟩
theorem ok_chkS (DL : Dn P w K mg base CX0 1 "is_list" ["value"] (spList K)) (DW : Dn P w K mg base CX0 2 "wrong_name_at" ["values", "earlier"] (spWna K))
    (F : Fun K "_check_side" "_check_side" (top 34) f fd) : FnOk P w K mg base CX0 3 f fd ["side", "names", "earlier"] (spChkS K) := by
  refine F.ok scChkS (fun vs H Q E h => ?_) (fun cdv A outer s H vs Q E hr h => ?_)
  · obtain ⟨v, a, b, xs, ys, rfl, _⟩ := h
    rfl
  · obtain ⟨v, a, b, xs, ys, rfl, ha, hb, nx, ly, off, z⟩ := h
    have nd := scChkS.nd
    refine ⟨_, PSs.nox (pss_cons (ps_if (pt_not (pt_val (pe_dn DL hr (by rfl) (by decide) (pa_cons (pv 1) pa_nil)))) (pss_one ps_never) pss_nil)
      (pss_cons (ps_set (i := 3) nd rfl (.inl rfl) (pe_dn DW hr (by rfl) (by decide) (pa_cons (pv 1) (pa_cons (pv 2) pa_nil))))
      (pss_one (ps_if (pt_cmpR op_notN (pv 3) pe_non (nomark _)) (pss_one ps_never) pss_nil)))), ?_⟩
    refine ⟨_, rfl, a, _, rfl, ha, fun H1 e1 => ⟨_, rfl, iteF ?_⟩⟩
    refine ⟨_, rfl, _, rfl, a, b, xs, ys, rfl, SqA.ext e1 ha.sq, SqA.ext e1 hb, nx, ly, off, fun H2 e2 => ?_⟩
    exact ⟨_, rfl, rfl, _, rfl, iteF (z H2 (e1.trans e2))⟩
def spWays (K : W.Frag) : Sp := fun vs H Q _ => ∃ (a : Addr) (v : V) (fs : List Str), vs = [.ref a, v] ∧ H a = some (.tup (fs.map V.str)) ∧
  ((v = .non ∧ Q (.ref a) H) ∨ ∃ (b : Addr) (ws : List Str), v = .ref b ∧ SeqH K H b (ws.map V.str) ∧ ws ≠ [] ∧ ws.length ≤ 100 ∧ ws.Nodup ∧ (∀ x ∈ ws, x ∈ fs) ∧ NewT H Q (srt ws))
abbrev nWays : List Str := ["fields", "ways", "position"]
theorem scWays : FnScope nWays ["fields", "ways"] (defScope (top 35)) := ⟨rfl, rfl, rfl, by decide +kernel, rfl, by decide +kernel, by decide +kernel⟩
theorem ok_ways (fr : Frees mg) (DL : Dn P w K mg base CX0 1 "is_list" ["value"] (spList K)) (DW : Dn P w K mg base CX0 1 "wrong_choice_at" ["values", "choices"] (spWch K)) (DS : Dn P w K mg base CX0 1 "sorted_names" ["names"] (spSn K))
    (F : Fun K "_checked_ways" "_checked_ways" (top 35) f fd) : FnOk P w K mg base CX0 2 f fd ["fields", "ways"] (spWays K) := by
  refine F.ok scWays (fun vs H Q E h => ?_) (fun cdv A outer s H vs Q E hr h => ?_)
  · obtain ⟨a, v, fs, rfl, _⟩ := h
    rfl
  · obtain ⟨a, v, fs, rfl, ha, hv⟩ := h
    have nd := scWays.nd
    have isk : IsK K := ⟨trivial⟩
    refine ⟨_, PSs.nox (pss_cons (ps_if (pt_cmpR op_isN (pv 1) pe_non (nomark _)) (pss_one (ps_ret (pv 0))) pss_nil)
      (pss_cons (ps_if (PW.pt (pw_or (pt_not (pt_val (pe_dn DL hr (by rfl) (by decide) (pa_cons (pv 1) pa_nil)))) (pw_or1 (pt_cmpR op_eq (pe_callB (lenK isk) rfl (fr.h _ (by decide +kernel)) (by decide +kernel) (pa_cons (pv 1) pa_nil)) pe_int (nomark _))))) (pss_one ps_never) pss_nil)
      (pss_cons (ps_set (i := 2) nd rfl (.inl rfl) (pe_dn DW hr (by rfl) (by decide) (pa_cons (pv 1) (pa_cons (pv 0) pa_nil))))
      (pss_cons (ps_if (pt_cmpR op_notN (pv 2) pe_non (nomark _)) (pss_one ps_never) pss_nil)
      (pss_one (ps_ret (pe_dn DS hr (by rfl) (by decide) (pa_cons (pv 1) pa_nil)))))))), ?_⟩
    rcases hv with ⟨rfl, z⟩ | ⟨b, ws, rfl, hb, ne, few, nx, sub, z⟩
    · exact ⟨_, rfl, rfl, _, rfl, iteT ⟨_, rfl, z⟩⟩
    · refine ⟨_, rfl, rfl, _, rfl, iteF ?_⟩
      refine ⟨_, rfl, b, _, rfl, hb, fun H1 e1 => ⟨_, rfl, iteF ?_⟩⟩
      refine ⟨_, rfl, .inl ⟨b, ws.map V.str, rfl, SqA.ext e1 hb.sq, rfl, _, rfl, ite2 (fun q => ?_) (fun _ => ?_)⟩⟩
      · exfalso
        have : (ws.map V.str).length = 0 := by simpa using q
        rw [List.length_map] at this
        exact ne (List.length_eq_zero_iff.mp this)
      · refine ⟨_, rfl, _, rfl, b, a, ws, fs, rfl, SqA.ext e1 hb.sq, .inr (SqT.of (e1 _ _ ha)), nx, sub, fun H2 e2 => ?_⟩
        refine ⟨_, rfl, rfl, _, rfl, iteF ?_⟩
        exact ⟨_, rfl, b, ws, rfl, SqA.ext (e1.trans e2) hb.sq, few, fun T H' e n t => z T H' ((e1.trans e2).trans e) (Am.Ext.gone (e1.trans e2) n) t⟩
end
end KD

set_option Elab.async false
set_option linter.all false
set_option maxRecDepth 100000
set_option maxHeartbeats 1000000
/-! Loose: made. -/
namespace KD
open PySem PySem.Spec PyProof.Rows L2 Oo Gd Am KA SqX
/-- what the text says of a class of rules -/
structure ClR (K : W.Frag) (C : Addr) : Prop where
  cl : Cls K C
  no : ∀ x ∈ ([("_fields" : Str), "_ways", "_weights", "_total", "_factor", "_left", "_right"] : List Str), NoAttr K C x
abbrev Tp (H : Hp) (a : Addr) (xs : List Str) : Prop := H a = some (.tup (xs.map V.str))
/-- the ways that a rule over fs is given by v -/
def WaysV (K : W.Frag) (H : Hp) (v : V) (fs ws : List Str) : Prop := (v = .non ∧ ws = fs) ∨ ∃ (b : Addr) (us : List Str), v = .ref b ∧ SeqH K H b (us.map V.str) ∧ us ≠ [] ∧ us.length ≤ 100 ∧ us.Nodup ∧ (∀ x ∈ us, x ∈ fs) ∧ ws = srt us
theorem WaysV.ext {K : W.Frag} {H H' : Hp} {v : V} {fs ws : List Str} (e : Am.Ext H H') (h : WaysV K H v fs ws) : WaysV K H' v fs ws := by
  rcases h with h | ⟨b, us, h1, h2, h3⟩
  · exact .inl h
  · exact .inr ⟨b, us, h1, h2.ext e, h3⟩
theorem WaysV.call {K : W.Frag} {H : Hp} {Q : VK} {a : Addr} {v : V} {fs ws : List Str} {E : XK} (ha : Tp H a fs) (h : WaysV K H v fs ws) (z : ∀ p H', Am.Ext H H' → Tp H' p ws → Q (.ref p) H') : spWays K [.ref a, v] H Q E := by
  refine ⟨a, v, fs, rfl, ha, ?_⟩
  rcases h with ⟨rfl, rfl⟩ | ⟨b, us, rfl, h2, h3, h4, h5, h6, rfl⟩
  · exact .inl ⟨rfl, z a H (Am.Ext.refl H) ha⟩
  · exact .inr ⟨b, us, rfl, h2, h3, h4, h5, h6, fun T H' e _ t => z T H' e t⟩
def fldL (pf pw : Addr) : List (Str × V) := [("_fields", .ref pf), ("_ways", .ref pw)]
/-- an instance's own fields are set: behind it all else stands on -/
theorem ext_set {H H' : Hp} {x C dx : Addr} {fs gs : List (Str × V)} (hx : H x = some (.ins C dx fs)) (e : Am.Ext (upd H x (.ins C dx gs)) H') : Am.Ext H (upd H' x (.ins C dx fs)) := fun b o hb => by
  by_cases q : b = x
  · rw [q, upd_same]
    rw [q, hx] at hb
    exact hb
  · rw [upd_ne q]
    exact e b o (by rw [upd_ne q]; exact hb)
theorem tp_ne {H : Hp} {a x C dx : Addr} {fs : List (Str × V)} {xs : List V} (hx : H x = some (.ins C dx fs)) (ha : H a = some (.tup xs)) : a ≠ x := ne_of ha hx (fun q => nomatch q)
theorem SeqH.set {K : W.Frag} {H : Hp} {a x C dx : Addr} {fs gs : List (Str × V)} {xs : List V} (hx : H x = some (.ins C dx fs)) (ha : SeqH K H a xs) : SeqH K (upd H x (.ins C dx gs)) a xs := by
  rcases ha with h | h | h
  · exact .inl (by rw [upd_ne (ne_of h hx (fun q => nomatch q))]; exact h)
  · exact .inr (.inl (by rw [upd_ne (ne_of h hx (fun q => nomatch q))]; exact h))
  · exact .inr (.inr h)
theorem WaysV.set {K : W.Frag} {H : Hp} {v : V} {x C dx : Addr} {gs hs : List (Str × V)} {fs ws : List Str} (hx : H x = some (.ins C dx gs)) (h : WaysV K H v fs ws) : WaysV K (upd H x (.ins C dx hs)) v fs ws := by
  rcases h with h | ⟨b, us, h1, h2, h3⟩
  · exact .inl h
  · exact .inr ⟨b, us, h1, h2.set hx, h3⟩
section
variable {P : Program} {w : World} {K : W.Frag} {mg : Str → Option Value} {base : Heap} {f C : Addr} {fd : FuncData} {t t2 t3 : Tok}
def spInL (K : W.Frag) (C : Addr) : Sp := fun vs H Q _ => ∃ (x dx a : Addr) (v : V) (xs ws : List Str), vs = [.ref x, .ref a, v] ∧ H x = some (.ins C dx []) ∧ SeqH K H a (xs.map V.str) ∧ Nms xs ∧ xs ≠ [] ∧ WaysV K H v (srt xs) ws ∧
  ∀ (H' : Hp) (pf pw : Addr), Am.Ext H H' → Tp H' pf (srt xs) → Tp H' pw ws → Q .non (upd H' x (.ins C dx (fldL pf pw)))
theorem scInL : FnScope ["self", "fields", "ways"] ["self", "fields", "ways"] (defScope (lo 0)) := ⟨rfl, rfl, rfl, by decide +kernel, rfl, by decide +kernel, by decide +kernel⟩
abbrev FunIL (K : W.Frag) (f : Addr) (fd : FuncData) : Prop := FunD K "__init__" "Loose.__init__" (defArgs (lo 0)) (defBody (lo 0)) (defScope (lo 0)) [] [("ways", .non)] f fd
theorem ok_inL (fr : Frees mg) (T : ClR K C) (DC : Dn P w K mg base CX0 3 "_check_side" ["side", "names", "earlier"] (spChkS K)) (DS : Dn P w K mg base CX0 1 "sorted_names" ["names"] (spSn K)) (DY : Dn P w K mg base CX0 2 "_checked_ways" ["fields", "ways"] (spWays K))
    (F : FunIL K f fd) : FnOk P w K mg base CX0 4 f fd ["self", "fields", "ways"] (spInL K C) := by
  refine F.ok scInL (fun vs H Q E h => ?_) (fun cdv A outer s H vs Q E hr h => ?_)
  · obtain ⟨x, dx, a, v, xs, ws, rfl, _⟩ := h
    rfl
  · obtain ⟨x, dx, a, v, xs, ws, rfl, hx, ha, nx, ne, hv, z⟩ := h
    have nd := scInL.nd
    have isk : IsK K := ⟨trivial⟩
    refine ⟨_, PSs.nox (pss_cons (ps_expr (pe_dn DC hr (by rfl) (by decide) (pa_cons pe_str (pa_cons (pv 1) (pa_cons (pe_lst pa_nil) pa_nil)))))
      (pss_cons (ps_if (pt_cmpR op_eq (pe_callB (lenK isk) rfl (fr.h _ (by decide +kernel)) (by decide +kernel) (pa_cons (pv 1) pa_nil)) pe_int (nomark _)) (pss_one ps_never) pss_nil)
      (pss_cons (ps_fld (pv 0) (pe_dn DS hr (by rfl) (by decide) (pa_cons (pv 1) pa_nil)) rfl)
      (pss_one (ps_fld (pv 0) (pe_dn DY hr (by rfl) (by decide) (pa_cons (pe_fld (pv 0) rfl) (pa_cons (pv 2) pa_nil))) rfl))))), ?_⟩
    refine ⟨_, rfl, (by show 0 ≤ sizeLine; decide), fun L hL => ?_⟩
    have e1 : Am.Ext H (upd H L (.lst [])) := Am.Ext.new hL
    refine ⟨_, a, L, xs, [], rfl, ha.ext e1, .inl (SqL.of upd_same), nx, by decide, (fun _ _ q => nomatch q), fun H2 e2 => ?_⟩
    have e12 := e1.trans e2
    refine ⟨_, rfl, .inl ⟨a, _, rfl, SqA.ext e12 ha.sq, rfl, _, rfl, ite2 (fun q => ?_) (fun _ => ?_)⟩⟩
    · exfalso
      have : (xs.map V.str).length = 0 := by simpa using q
      rw [List.length_map] at this
      exact ne (List.length_eq_zero_iff.mp this)
    refine ⟨_, rfl, a, xs, rfl, SqA.ext e12 ha.sq, by have := nx.few; omega, fun pf H3 e3 n3 t3 => ?_⟩
    have e13 := e12.trans e3
    have hx3 := e13 _ _ hx
    refine ⟨_, rfl, x, C, dx, [], rfl, hx3, T.cl, T.no _ (by simp), (by decide), ?_⟩
    have t4 : Tp (upd H3 x (.ins C dx (putF "_fields" (.ref pf) []))) pf (srt xs) := by
      show upd _ _ _ _ = _
      rw [upd_ne (tp_ne hx3 t3)]
      exact t3
    refine ⟨_, rfl, x, C, dx, _, _, rfl, upd_same, T.cl, T.no _ (by simp), rfl, _, rfl, ?_⟩
    dsimp only [L2.tNil]
    refine WaysV.call t4 ((hv.ext e13).set hx3) fun pw H4 e4 tw => ?_
    refine ⟨_, rfl, x, C, dx, _, rfl, e4 _ _ upd_same, T.cl, T.no _ (by simp), (by show 1 < 1000; decide), ?_⟩
    have := z (upd H4 x (.ins C dx [])) pf pw (e13.trans (ext_set hx3 e4)) (by show upd _ _ _ _ = _; rw [upd_ne (tp_ne (e4 _ _ upd_same) (e4 _ _ t4))]; exact e4 _ _ t4) (by show upd _ _ _ _ = _; rw [upd_ne (tp_ne (e4 _ _ upd_same) tw)]; exact tw)
    rw [upd_upd] at this
    exact this
end
end KD

set_option Elab.async false
set_option linter.all false
set_option maxRecDepth 100000
set_option maxHeartbeats 1000000
/-! Total: made. -/
namespace KD
open PySem PySem.Spec PyProof.Rows L2 Oo Gd Am KA SqX
section
variable {J : It} {n : Nat} {G : Hp → Prop} {Y : Nat → Hp → V → Hp → Prop}
/-- a dict's comprehension over a walk -/
theorem dc_it (w : Walk J n G Y) {g : TG} {tt : TT} {tk tv : TE} {vs : List Nat} {σ : L2.St} {H1 : Hp} {D : Addr} {Qd : Hp → Prop} (Pv : Nat → Hp → Prop) (h0 : Pv 0 (upd H1 D (.dK []))) (hG : ∀ i H, i ≤ n → Pv i H → G H)
    (hs : ∀ i x H H', i < n → Pv i H → Y i H x H' → g x (wipe σ vs) H' fun σ2 H2 => wipe σ2 vs = wipe σ vs ∧ tt σ2 H2 fun b H3 =>
      if b = true then tk σ2 H3 fun y H4 => tv σ2 H4 fun z H5 => ∃ kvs k, y = kV k ∧ H5 D = some (.dK kvs) ∧ kvs.length < sizeLine ∧ Pv (i + 1) (upd H5 D (.dK (putK kvs k z))) else Pv (i + 1) H3) (hd : ∀ H, Pv n H → Qd H) :
    ∃ W : Nat → Nat → Hp → Prop, (∃ m, W 0 m (upd H1 D (.dK []))) ∧ ∀ i m H, W i m H →
      (J.stop i H ∧ Qd H) ∨ (J.go i H ∧ ∃ Nx : Hp → Prop, (∀ H', Nx H' → ∃ m', m' < m ∧ W (i + 1) m' H') ∧ ∀ x H', J.yld i H x H' → g x (wipe σ vs) H' fun σ2 H2 => wipe σ2 vs = wipe σ vs ∧ tt σ2 H2 fun b H3 =>
        if b = true then tk σ2 H3 fun y H4 => tv σ2 H4 fun z H5 => ∃ kvs k, y = kV k ∧ H5 D = some (.dK kvs) ∧ kvs.length < sizeLine ∧ Nx (upd H5 D (.dK (putK kvs k z))) else Nx H3) := by
  refine ⟨fun i m H => m = n - i ∧ i ≤ n ∧ Pv i H, ⟨n, by simp, Nat.zero_le _, h0⟩, ?_⟩
  rintro i m H ⟨rfl, hi, p⟩
  have q := hG i H hi p
  by_cases hlt : i < n
  · refine .inr ⟨w.goes i H hlt q, Pv (i + 1), fun H' p' => ⟨n - (i + 1), by omega, rfl, hlt, p'⟩, fun x H' y => hs i x H H' hlt p (w.yields i H x H' hlt q y)⟩
  · have e : i = n := by omega
    subst e
    exact .inl ⟨w.stops H q, hd H p⟩
end
theorem upd_self {H : Hp} {a : Addr} {o : HO} (h : H a = some o) : upd H a o = H := by
  funext b
  by_cases e : b = a
  · rw [e, upd_same, h]
  · rw [upd_ne e]
/-- an instance under way: what stands behind a step -/
theorem hold {G H2 : Hp} {x C dx : Addr} {gs : List (Str × V)} (hx : G x = some (.ins C dx [])) (e : Am.Ext (upd G x (.ins C dx gs)) H2) : ∃ G', H2 = upd G' x (.ins C dx gs) ∧ Am.Ext G G' ∧ G' x = some (.ins C dx []) :=
  ⟨upd H2 x (.ins C dx []), by rw [upd_upd, upd_self (e _ _ upd_same)], ext_set hx e, upd_same⟩
theorem off_ins {G : Hp} {x C dx a : Addr} {gs : List (Str × V)} {o : HO} (h : upd G x (.ins C dx gs) a = some o) (n : o ≠ .ins C dx gs) : G a = some o := by
  by_cases e : a = x
  · rw [e, upd_same] at h
    exact absurd (Option.some.inj h).symm n
  · rwa [upd_ne e] at h
theorem on_ins {G : Hp} {x C dx a : Addr} {gs : List (Str × V)} {o : HO} (hx : G x = some (.ins C dx [])) (h : G a = some o) (n : o ≠ .ins C dx []) : upd G x (.ins C dx gs) a = some o := by
  by_cases e : a = x
  · rw [e, hx] at h
    exact absurd (Option.some.inj h).symm n
  · rwa [upd_ne e]
theorem wt_none {ls : List (Str × Int)} {x : Str} (h : x ∉ ls.map (·.1)) : wt ls x = none := by
  unfold wt
  rw [List.find?_eq_none.mpr fun p hp q => h (by simp only [decide_eq_true_eq] at q; rw [← q]; exact List.mem_map_of_mem hp)]
  rfl
/-- the numbers by the names in order -/
def ordW (ls : List (Str × Int)) : List (Str × Int) := (srt (ls.map (·.1))).map fun x => (x, (wt ls x).getD 0)
def fldT (pt pf pd pw : Addr) : List (Str × V) := [("_total", .ref pt), ("_fields", .ref pf), ("_weights", .ref pd), ("_ways", .ref pw)]
theorem fst_map {g : Str → Int} (l : List Str) : (l.map fun x => (x, g x)).map (·.1) = l := by
  rw [List.map_map]
  exact List.map_id l
theorem srt_nd {xs : List Str} (h : xs.Nodup) : (srt xs).Nodup := (srt_perm xs).nodup_iff.mpr h
theorem not_taken {xs : List Str} (nd : xs.Nodup) {i : Nat} {y : Str} (hy : xs[i]? = some y) : y ∉ xs.take i := by
  intro q
  obtain ⟨j, hj, e⟩ := List.getElem_of_mem q
  rw [List.length_take] at hj
  rw [List.getElem_take] at e
  have hyi := (List.getElem?_eq_some_iff.mp hy)
  exact List.pairwise_iff_getElem.mp nd j i (by omega) hyi.1 (by omega) (by rw [e, hyi.2])
section
variable {P : Program} {w : World} {K : W.Frag} {mg : Str → Option Value} {base : Heap} {f A C : Addr} {fd : FuncData} {t t2 t3 : Tok}
def spInT (K : W.Frag) (A C : Addr) : Sp := fun vs H Q _ => ∃ (x dx a : Addr) (u v : V) (ls : List (Str × Int)) (q : Rat) (ws : List Str), vs = [.ref x, .ref a, u, v] ∧ H x = some (.ins C dx []) ∧ H a = some (.dK (wts ls)) ∧ Nms (ls.map (·.1)) ∧ ls ≠ [] ∧ (∀ p ∈ ls, p.2 ≠ 0) ∧
  Num A H u q ∧ Sz q ∧ WaysV K H v (srt (ls.map (·.1))) ws ∧
  ∀ (H' : Hp) (pt pf pd pw : Addr), Am.Ext H H' → Is A H' pt q → Tp H' pf (srt (ls.map (·.1))) → H' pd = some (.dK (wts (ordW ls))) → H pd = none → Tp H' pw ws → Q .non (upd H' x (.ins C dx (fldT pt pf pd pw)))
abbrev nInT : List Str := ["self", "weights", "total", "ways", "field"]
theorem scInT : FnScope nInT ["self", "weights", "total", "ways"] (defScope (tot 0)) := ⟨rfl, rfl, rfl, by decide +kernel, rfl, by decide +kernel, by decide +kernel⟩
abbrev FunIT (K : W.Frag) (f : Addr) (fd : FuncData) : Prop := FunD K "__init__" "Total.__init__" (defArgs (tot 0)) (defBody (tot 0)) (defScope (tot 0)) [V.int 0] [("ways", .non)] f fd
theorem ok_inT (fr : Frees mg) (T : ClR K C) (B : Base P w K mg base A) (O : Of P w K mg base A) (DC : Dn P w K mg base CX0 2 "_check_weights" ["weights"] spChkW) (DS : Dn P w K mg base CX0 1 "sorted_names" ["names"] spSnD) (DY : Dn P w K mg base CX0 2 "_checked_ways" ["fields", "ways"] (spWays K))
    (F : FunIT K f fd) : FnOk P w K mg base CX0 5 f fd ["self", "weights", "total", "ways"] (spInT K A C) := by
  refine F.ok scInT (fun vs H Q E h => ?_) (fun cdv A' outer s H vs Q E hr h => ?_)
  · obtain ⟨x, dx, a, u, v, ls, q, ws, rfl, _⟩ := h
    rfl
  · obtain ⟨x, dx, a, u, v, ls, q, ws, rfl, hx, ha, nx, ne, n0, nu, sq, hv, z⟩ := h
    have nd := scInT.nd
    have hu := hu_of hr
    have big : (1000 : Nat) < sizeLine := by decide
    have few : ls.length < 64 := by have := nx.few; rwa [List.length_map] at this
    refine ⟨_, PSs.nox (pss_cons (ps_expr (pe_dn DC hr (by rfl) (by decide) (pa_cons (pv 1) pa_nil)))
      (pss_cons (ps_fld (pv 0) (pe_of O hr (pe_glob (v := V.ref A) rfl B.mgA rfl) (pa_cons (pv 2) pa_nil)) rfl)
      (pss_cons (ps_fld (pv 0) (pe_dn DS hr (by rfl) (by decide) (pa_cons (pv 1) pa_nil)) rfl)
      (pss_cons (ps_fld (pv 0) (pe_dc (own := [("field", 4)]) (g := gName 4) (tt := tYes) rfl nd (pi_seq (pe_fld (pv 0) rfl)) (blkOk_by (N := nInT) (sc := defScope (tot 0)) (by decide +kernel)) (fun _ _ _ _ _ => pg_name (i := 4) nd rfl (Or.inl rfl)) (fun _ _ _ _ _ => pts_nil) (fun _ _ _ _ _ => pv 4) (fun _ _ _ _ _ => pe_dget hu (pv 1) (pv 4) (fun _ _ => rfl))) rfl)
      (pss_one (ps_fld (pv 0) (pe_dn DY hr (by rfl) (by decide) (pa_cons (pe_fld (pv 0) rfl) (pa_cons (pv 3) pa_nil))) rfl)))))), ?_⟩
    have nin : ∀ {kvs : List (Key × V)} {gs : List (Str × V)}, HO.dK kvs ≠ .ins C dx gs := fun q => nomatch q
    have nit : ∀ {ks : List V} {gs : List (Str × V)}, HO.tup ks ≠ .ins C dx gs := fun q => nomatch q
    refine ⟨_, rfl, a, ls, rfl, ha, nx, ne, n0, fun H1 e1 => ?_⟩
    refine ⟨rfl, _, rfl, u, q, rfl, nu.ext e1, sq, fun pt H2 e2 ip => ?_⟩
    have e12 := e1.trans e2
    have hx2 := e12 _ _ hx
    obtain ⟨dq, hp⟩ := ip
    have npx : pt ≠ x := fun q => by
      rw [q, hx2] at hp
      injection Option.some.inj hp with _ _ q3
      cases q3
    refine ⟨_, rfl, x, C, dx, [], rfl, hx2, T.cl, T.no _ (by simp), (by decide), ?_⟩
    refine ⟨_, rfl, a, _, _, rfl, on_ins hx2 (e12 _ _ ha) nin, keys_w ls, by rw [List.length_map]; omega, fun pf H3 e3 n3 t3 => ?_⟩
    obtain ⟨G3, rfl, g3, gx3⟩ := hold hx2 e3
    have t3' : Tp G3 pf _ := off_ins t3 nit
    refine ⟨_, rfl, x, C, dx, _, rfl, upd_same, T.cl, T.no _ (by simp), (by show 1 < 1000; decide), ?_⟩
    rw [upd_upd]
    refine ⟨_, rfl, x, C, dx, _, _, rfl, upd_same, T.cl, T.no _ (by simp), rfl, pf, _, _, rfl, .inr (SqT.of (on_ins gx3 t3' nit)), Am.Ext.refl _, fun J G wk st D hD => ?_⟩
    rw [List.length_map] at wk
    have ndS := srt_nd nx.nd
    have lenS : (srt (ls.map (·.1))).length < 64 := by rw [srt_len]; exact nx.few
    have ha3 : ∀ {gs : List (Str × V)}, upd G3 x (.ins C dx gs) a = some (.dK (wts ls)) := on_ins gx3 (g3 _ _ (e12 _ _ ha)) nin
    refine dc_it wk (fun i H' => Am.Ext (upd G3 x (.ins C dx (putF "_fields" (.ref pf) (putF "_total" (.ref pt) [])))) H' ∧ H' D = some (.dK (wts (((srt (ls.map (·.1))).take i).map fun x => (x, (wt ls x).getD 0))))) ⟨Am.Ext.new hD, by rw [upd_same]; rfl⟩ (fun i H' _ h => st H' h.1) ?_ ?_
    · rintro i y H' H4 hi ⟨e, d⟩ ⟨rfl, hy⟩
      obtain ⟨s1, hs1, rfl⟩ := map_at hy
      have hm : s1 ∈ ls.map (·.1) := (srt_mem _ _).mp (List.mem_of_getElem? hs1)
      obtain ⟨m, hm1, _⟩ := wt_some hm
      have g : DGet H4 a (.str s1) (some (.int m)) := by
        have := DGet.k (k := (Sum.inr s1 : Key)) (e _ _ ha3)
        rw [valV_w, hm1] at this
        exact this
      have out : valV (wts (((srt (ls.map (·.1))).take i).map fun x => (x, (wt ls x).getD 0))) (Sum.inr s1 : Key) = none := by
        rw [valV_w, wt_none]
        · rfl
        · rw [fst_map]
          exact not_taken ndS hs1
      refine ⟨rfl, _, rfl, _, rfl, _, rfl, a, _, rfl, g, _, Sum.inr s1, rfl, d, ?_, ext_off e hD, ?_⟩
      · rw [len_w, List.length_map, List.length_take]
        omega
      · rw [upd_same, putK_new _ out, take_suc hs1, List.map_append]
        unfold wts
        rw [List.map_append]
        have : (wt ls s1).getD 0 = m := by rw [hm1]; rfl
        simp only [List.map_cons, List.map_nil, this]
    · rintro H' ⟨e, d⟩
      rw [List.take_length] at d
      obtain ⟨G4, rfl, g4, gx4⟩ := hold gx3 e
      have d4 : G4 D = some (.dK (wts (ordW ls))) := off_ins d nin
      have t4 := g4 _ _ t3'
      refine ⟨_, rfl, x, C, dx, _, rfl, upd_same, T.cl, T.no _ (by simp), (by show 2 < 1000; decide), ?_⟩
      rw [upd_upd]
      refine ⟨_, rfl, x, C, dx, _, _, rfl, upd_same, T.cl, T.no _ (by simp), rfl, _, rfl, ?_⟩
      dsimp only [L2.tNil]
      have e4 : Am.Ext H G4 := (e12.trans g3).trans g4
      refine WaysV.call (on_ins gx4 t4 nit) ((hv.ext e4).set gx4) fun pw H5 e5 tw => ?_
      obtain ⟨G5, rfl, g5, gx5⟩ := hold gx4 e5
      refine ⟨_, rfl, x, C, dx, _, rfl, upd_same, T.cl, T.no _ (by simp), (by show 3 < 1000; decide), ?_⟩
      rw [upd_upd]
      have Dx : D ≠ x := fun q => by
        rw [q, upd_same] at hD
        cases hD
      have hD0 : H D = none := (e12.trans g3).gone (by rw [upd_ne Dx] at hD; exact hD)
      exact z G5 pt pf D pw (e4.trans g5) ⟨dq, g5 _ _ (g4 _ _ (g3 _ _ hp))⟩ (g5 _ _ t4) (g5 _ _ d4) hD0 (off_ins tw nit)
end
end KD

set_option Elab.async false
set_option linter.all false
set_option maxRecDepth 100000
set_option maxHeartbeats 1000000
/-! Product: made. -/
namespace KD
open PySem PySem.Spec PyProof.Rows L2 Oo Gd Am KA SqX
def fldP (pt pl pr pf pw : Addr) : List (Str × V) := [("_factor", .ref pt), ("_left", .ref pl), ("_right", .ref pr), ("_fields", .ref pf), ("_ways", .ref pw)]
theorem SeqH.on {K : W.Frag} {G : Hp} {x C dx a : Addr} {gs : List (Str × V)} {xs : List V} (hx : G x = some (.ins C dx [])) (h : SeqH K G a xs) : SeqH K (upd G x (.ins C dx gs)) a xs := h.set hx
theorem Nms.left {xs ys : List Str} (h : Nms (xs ++ ys)) : Nms xs := ⟨fun x hx => h.ok x (List.mem_append_left _ hx), (List.nodup_append.mp h.nd).1, by have := h.few; rw [List.length_append] at this; omega⟩
theorem Nms.right {xs ys : List Str} (h : Nms (xs ++ ys)) : Nms ys := ⟨fun x hx => h.ok x (List.mem_append_right _ hx), (List.nodup_append.mp h.nd).2.1, by have := h.few; rw [List.length_append] at this; omega⟩
theorem Nms.off {xs ys : List Str} (h : Nms (xs ++ ys)) : ∀ y ∈ ys, y ∉ xs := fun y hy hx => (List.nodup_append.mp h.nd).2.2 y hx y hy rfl
section
variable {P : Program} {w : World} {K : W.Frag} {mg : Str → Option Value} {base : Heap} {f A C tp : Addr} {fd : FuncData} {t t2 t3 : Tok}
def spInP (K : W.Frag) (A C : Addr) : Sp := fun vs H Q _ => ∃ (x dx a b : Addr) (u v : V) (xs ys : List Str) (q : Rat) (ws : List Str), vs = [.ref x, .ref a, .ref b, u, v] ∧ H x = some (.ins C dx []) ∧ SeqH K H a (xs.map V.str) ∧ SeqH K H b (ys.map V.str) ∧
  Nms (xs ++ ys) ∧ xs ++ ys ≠ [] ∧ Num A H u q ∧ Sz q ∧ q ≠ 0 ∧ WaysV K H v (srt (xs ++ ys)) ws ∧
  ∀ (H' : Hp) (pt pl pr pf pw : Addr), Am.Ext H H' → Is A H' pt q → Tp H' pl (srt xs) → Tp H' pr (srt ys) → Tp H' pf (srt (xs ++ ys)) → Tp H' pw ws → Q .non (upd H' x (.ins C dx (fldP pt pl pr pf pw)))
abbrev nInP : List Str := ["self", "left", "right", "factor", "ways"]
theorem scInP : FnScope nInP nInP (defScope (pro 0)) := ⟨rfl, rfl, rfl, by decide +kernel, rfl, by decide +kernel, by decide +kernel⟩
abbrev FunIP (K : W.Frag) (tp f : Addr) (fd : FuncData) : Prop := FunD K "__init__" "Product.__init__" (defArgs (pro 0)) (defBody (pro 0)) (defScope (pro 0)) [V.ref tp, V.int 1] [("ways", .non)] f fd
theorem ok_inP (fr : Frees mg) (T : ClR K C) (B : Base P w K mg base A) (O : Of P w K mg base A) (DC : Dn P w K mg base CX0 3 "_check_side" ["side", "names", "earlier"] (spChkS K)) (DS : Dn P w K mg base CX0 1 "sorted_names" ["names"] (spSn K)) (DY : Dn P w K mg base CX0 2 "_checked_ways" ["fields", "ways"] (spWays K))
    (F : FunIP K tp f fd) : FnOk P w K mg base CX0 5 f fd nInP (spInP K A C) := by
  refine F.ok scInP (fun vs H Q E h => ?_) (fun cdv A' outer s H vs Q E hr h => ?_)
  · obtain ⟨x, dx, a, b, u, v, xs, ys, q, ws, rfl, _⟩ := h
    rfl
  · obtain ⟨x, dx, a, b, u, v, xs, ys, q, ws, rfl, hx, ha, hb, nx, ne, nu, sq, q0, hv, z⟩ := h
    have nd := scInP.nd
    have isk : IsK K := ⟨trivial⟩
    have big : (1000 : Nat) < sizeLine := by decide
    have few := nx.few
    rw [List.length_append] at few
    obtain ⟨sp_, sg_, sfd, SP, SF, SB⟩ := B.sgn
    refine ⟨_, PSs.nox (pss_cons (ps_expr (pe_dn DC hr (by rfl) (by decide) (pa_cons pe_str (pa_cons (pv 1) (pa_cons (pe_lst pa_nil) pa_nil)))))
      (pss_cons (ps_expr (pe_dn DC hr (by rfl) (by decide) (pa_cons pe_str (pa_cons (pv 2) (pa_cons (pv 1) pa_nil)))))
      (C8.pss_cut (ps_if (PW.pt (pw_and (pt_cmpR op_eq (pe_callB (lenK isk) rfl (fr.h _ (by decide +kernel)) (by decide +kernel) (pa_cons (pv 1) pa_nil)) pe_int (nomark _)) (pw_and1 (pt_cmpR op_eq (pe_callB (lenK isk) rfl (fr.h _ (by decide +kernel)) (by decide +kernel) (pa_cons (pv 2) pa_nil)) pe_int (nomark _))))) (pss_one ps_never) pss_nil)
      (pss_cons (ps_fld (pv 0) (pe_of O hr (pe_glob (v := V.ref A) rfl B.mgA rfl) (pa_cons (pv 3) pa_nil)) rfl)
      (pss_cons (ps_if (pt_cmpR op_eq (pe_pr B.T SP SF SB (hr.mono (by decide)) (pe_fld (pv 0) rfl)) pe_int (nomark _)) (pss_one ps_never) pss_nil)
      (pss_cons (ps_fld (pv 0) (pe_dn DS hr (by rfl) (by decide) (pa_cons (pv 1) pa_nil)) rfl)
      (pss_cons (ps_fld (pv 0) (pe_dn DS hr (by rfl) (by decide) (pa_cons (pv 2) pa_nil)) rfl)
      (pss_cons (ps_fld (pv 0) (pe_dn DS hr (by rfl) (by decide) (pa_cons (pe_lst (StX.pa_star (pv 1) (StX.pa_star (pv 2) pa_nil))) pa_nil)) rfl)
      (pss_one (ps_fld (pv 0) (pe_dn DY hr (by rfl) (by decide) (pa_cons (pe_fld (pv 0) rfl) (pa_cons (pv 4) pa_nil))) rfl)))))))))), ?_⟩
    have nit : ∀ {ks : List V} {gs : List (Str × V)}, HO.tup ks ≠ .ins C dx gs := fun q => nomatch q
    refine ⟨_, rfl, (by show 0 ≤ sizeLine; decide), fun L hL => ?_⟩
    have e0 : Am.Ext H (upd H L (.lst [])) := Am.Ext.new hL
    refine ⟨_, a, L, xs, [], rfl, ha.ext e0, .inl (SqL.of upd_same), nx.left, by decide, (fun _ _ q => nomatch q), fun H1 e1 => ?_⟩
    have e01 := e0.trans e1
    refine ⟨_, rfl, _, rfl, _, b, a, ys, xs, rfl, hb.ext e01, (ha.ext e01).sq, nx.right, by omega, nx.off, fun H2 e2 => ?_⟩
    have e02 := e01.trans e2
    have hx2 := e02 _ _ hx
    have ha2 := ha.ext e02
    have hb2 := hb.ext e02
    refine ⟨fun σ H' => H' = H2 ∧ σ = L2.start nInP [.ref x, .ref a, .ref b, u, v], ?_, ?_⟩
    · refine ⟨_, rfl, .inl ⟨a, _, rfl, ha2.sq, rfl, _, rfl, ite2 (fun c => ?_) (fun _ => ⟨rfl, rfl⟩)⟩⟩
      refine ⟨_, rfl, .inl ⟨b, _, rfl, hb2.sq, rfl, _, rfl, ite2 (fun c2 => ?_) (fun _ => ⟨rfl, rfl⟩)⟩⟩
      exfalso
      have l1 : (xs.map V.str).length = 0 := by simpa using c
      have l2 : (ys.map V.str).length = 0 := by simpa using c2
      rw [List.length_map] at l1 l2
      exact ne (by rw [List.length_eq_zero_iff.mp l1, List.length_eq_zero_iff.mp l2]; rfl)
    rintro σ H3 ⟨rfl, rfl⟩
    refine ⟨rfl, _, rfl, u, q, rfl, nu.ext e02, sq, fun pt H3 e3 ip => ?_⟩
    have hx3 := e3 _ _ hx2
    obtain ⟨dq, hp⟩ := ip
    have npx : pt ≠ x := fun q => by
      rw [q, hx3] at hp
      injection Option.some.inj hp with _ _ q3
      cases q3
    refine ⟨_, rfl, x, C, dx, [], rfl, hx3, T.cl, T.no _ (by simp), (by decide), ?_⟩
    have hp' : ∀ {gs : List (Str × V)}, upd H3 x (.ins C dx gs) pt = some (.ins A dq (flds q)) := by
      intro gs
      rw [upd_ne npx]
      exact hp
    refine ⟨_, rfl, x, C, dx, _, _, rfl, upd_same, T.cl, T.no _ (by simp), rfl, pt, q, rfl, ⟨dq, hp'⟩, rfl, _, rfl, ite2 (fun c => ?_) (fun _ => ?_)⟩
    · exfalso
      have : q.num.sign = 0 := by simpa using c
      exact q0 (Rat.num_eq_zero.mp (Int.sign_eq_zero_iff_zero.mp this))
    have ha3 := ha2.ext e3
    have hb3 := hb2.ext e3
    refine ⟨_, rfl, a, xs, rfl, (ha3.on hx3).sq, by omega, fun pl H4 e4 n4 t4 => ?_⟩
    obtain ⟨G4, rfl, g4, gx4⟩ := hold hx3 e4
    have t4' : Tp G4 pl _ := off_ins t4 nit
    refine ⟨_, rfl, x, C, dx, _, rfl, upd_same, T.cl, T.no _ (by simp), (by show 1 < 1000; decide), ?_⟩
    rw [upd_upd]
    refine ⟨_, rfl, b, ys, rfl, ((hb3.ext g4).on gx4).sq, by omega, fun pr H5 e5 n5 t5 => ?_⟩
    obtain ⟨G5, rfl, g5, gx5⟩ := hold gx4 e5
    have t5' : Tp G5 pr _ := off_ins t5 nit
    refine ⟨_, rfl, x, C, dx, _, rfl, upd_same, T.cl, T.no _ (by simp), (by show 2 < 1000; decide), ?_⟩
    rw [upd_upd]
    have ha5 := ((ha3.ext g4).ext g5).on (gs := [("_factor", .ref pt), ("_left", .ref pl), ("_right", .ref pr)]) gx5
    have hb5 := ((hb3.ext g4).ext g5).on (gs := [("_factor", .ref pt), ("_left", .ref pl), ("_right", .ref pr)]) gx5
    refine ⟨_, rfl, a, _, rfl, (ha5.sq (K := K)).symm, _, rfl, b, _, rfl, (hb5.sq (K := K)).symm, ?_⟩
    refine ⟨by rw [List.append_nil, List.length_append, List.length_map, List.length_map]; omega, fun M hM => ?_⟩
    have eM := Am.Ext.new (o := .lst (xs.map V.str ++ (ys.map V.str ++ []))) hM
    refine ⟨M, xs ++ ys, rfl, .inl (SqL.of (by rw [upd_same, List.append_nil, List.map_append])), by rw [List.length_append]; omega, fun pf H6 e6 n6 t6 => ?_⟩
    obtain ⟨G6, rfl, g6, gx6⟩ := hold gx5 (eM.trans e6)
    have t6' : Tp G6 pf _ := off_ins t6 nit
    refine ⟨_, rfl, x, C, dx, _, rfl, upd_same, T.cl, T.no _ (by simp), (by show 3 < 1000; decide), ?_⟩
    rw [upd_upd]
    refine ⟨_, rfl, x, C, dx, _, _, rfl, upd_same, T.cl, T.no _ (by simp), rfl, _, rfl, ?_⟩
    dsimp only [L2.tNil]
    have e36 : Am.Ext H3 G6 := (g4.trans g5).trans g6
    have e06 : Am.Ext H G6 := (e02.trans e3).trans e36
    refine WaysV.call (on_ins gx6 t6' nit) ((hv.ext e06).set gx6) fun pw H7 e7 tw => ?_
    obtain ⟨G7, rfl, g7, gx7⟩ := hold gx6 e7
    refine ⟨_, rfl, x, C, dx, _, rfl, upd_same, T.cl, T.no _ (by simp), (by show 4 < 1000; decide), ?_⟩
    rw [upd_upd]
    exact z G7 pt pl pr pf pw (e06.trans g7) ⟨dq, g7 _ _ (e36 _ _ hp)⟩ (g7 _ _ (g6 _ _ (g5 _ _ t4'))) (g7 _ _ (g6 _ _ t5')) (g7 _ _ t6') (off_ins tw nit)
end
end KD

set_option Elab.async false
set_option linter.all false
set_option maxRecDepth 100000
set_option maxHeartbeats 1000000
/-! tuples of texts compared; the fields of an instance; _signed_term, _ways_text. -/
namespace KD
open PySem PySem.Spec PyProof.Rows L2 Oo Gd Am KA SqX
theorem dp_strs {K : W.Frag} {H : Hp} : ∀ xs : List Str, DpAll K H (xs.map V.str) (xs.map PyData.str)
  | [] => .nil
  | x :: r => .cons (.str x) (dp_strs r)
theorem eqv_strs : ∀ xs ys : List Str, PyData.eqvAll (xs.map PyData.str) (ys.map PyData.str) = decide (xs = ys)
  | [], [] => rfl
  | [], _ :: _ => rfl
  | _ :: _, [] => rfl
  | x :: xs, y :: ys => by
    show (PyData.eqv (.str x) (.str y) && PyData.eqvAll (xs.map PyData.str) (ys.map PyData.str)) = _
    rw [eqv_strs xs ys]
    show ((x == y) && _) = _
    by_cases h : x = y
    · subst h
      rw [beq_self_eq_true, Bool.true_and]
      exact decide_eq_decide.mpr ⟨fun e => by rw [e], fun e => by injection e⟩
    · rw [beq_eq_false_iff_ne.mpr h, Bool.false_and]
      exact (decide_eq_false fun e => h (by injection e)).symm
theorem shaped_tup {xs : List Str} (h : ∀ x ∈ xs, PyData.strOk x = true) : SeqAt.shaped (.tuple (xs.map .str)) = true := shaped_strs h
theorem name_ok {x : Str} (h : nameB x = true) : PyData.strOk x = true := by
  unfold nameB at h
  simp only [Bool.and_eq_true] at h
  have a := h.2.2.2
  unfold PyData.strOk
  rw [← Array.all_toList]
  refine List.all_eq_true.mpr fun c hc => ?_
  have := List.all_eq_true.mp a c hc
  unfold nsg at this
  simp only [decide_eq_true_eq] at this ⊢
  omega
theorem eq_tup {K : W.Frag} {H : Hp} {a b : Addr} {xs ys : List Str} {Q : VK} (ha : Tp H a xs) (hb : Tp H b ys) (ox : ∀ x ∈ xs, nameB x = true) (oy : ∀ y ∈ ys, nameB y = true) (q : Q (.bl (decide (xs = ys))) H) : rEqD K (.ref a) (.ref b) H Q := by
  refine ⟨.tuple (xs.map .str), .tuple (ys.map .str), .tup (SqT.of ha) (dp_strs xs), .tup (SqT.of hb) (dp_strs ys), shaped_tup fun x hx => name_ok (ox x hx), shaped_tup fun x hx => name_ok (oy x hx), ?_⟩
  show Q (.bl (PyData.eqvAll _ _)) H
  rw [eqv_strs]
  exact q
/-- a text of n signs at most -/
def sgnT (n : Int) : Str := if n < 0 then "-" else "+"
def termT (x : Str) (n : Int) : Str := if (if n < 0 then -n else n) = 1 then Str.empty ++ sgnT n ++ " " ++ x else Str.empty ++ sgnT n ++ " " ++ (toString (if n < 0 then -n else n) : String) ++ " " ++ x
section
variable {P : Program} {w : World} {K : W.Frag} {mg : Str → Option Value} {base : Heap} {f A C : Addr} {fd : FuncData} {t t2 t3 : Tok}
def spFld (C : Addr) (nm : Str) : Sp := fun vs H Q _ => ∃ (r dx : Addr) (fs : List (Str × V)) (v : V), vs = [.ref r] ∧ H r = some (.ins C dx fs) ∧ fs.lookup nm = some v ∧ Q v H
def spTerm : Sp := fun vs H Q _ => ∃ (x : Str) (n : Int), vs = [.str x, .int n] ∧ x.length ≤ 8 ∧ n.natAbs < 2 ^ 200 ∧ Q (.str (termT x n)) H
abbrev nTerm : List Str := ["field", "weight", "sign"]
theorem scTerm : FnScope nTerm ["field", "weight"] (defScope (top 36)) := ⟨rfl, rfl, rfl, by decide +kernel, rfl, by decide +kernel, by decide +kernel⟩
theorem ok_term (fr : Frees mg) (F : Fun K "_signed_term" "_signed_term" (top 36) f fd) : FnOk P w K mg base CX0 1 f fd ["field", "weight"] spTerm := by
  refine F.ok scTerm (fun vs H Q E h => ?_) (fun cdv A outer s H vs Q E hr h => ?_)
  · obtain ⟨x, n, rfl, _⟩ := h
    rfl
  · obtain ⟨x, n, rfl, lx, ln, z⟩ := h
    have nd := scTerm.nd
    have big : (20000 : Nat) ≤ sizeLine := by decide
    refine ⟨_, C8.pss_cut (ps_set (i := 2) nd rfl (.inl rfl) (pe_ifExp (pt_cmpR op_lt (pv 1) pe_int (nomark _)) pe_str pe_str))
      (pss_cons (ps_if (pt_cmpR op_eq (pe_callB call_abs rfl (fr.h _ (by decide +kernel)) (by decide +kernel) (pa_cons (pv 1) pa_nil)) pe_int (nomark _)) (pss_one (ps_ret (pe_joined (.cons (pe_fmt (pv 2)) (.cons pe_str (.cons (pe_fmt (pv 0)) .nil)))))) pss_nil)
      (pss_one (ps_ret (pe_joined (.cons (pe_fmt (pv 2)) (.cons pe_str (.cons (pe_fmt (pe_callB call_abs rfl (fr.h _ (by decide +kernel)) (by decide +kernel) (pa_cons (pv 1) pa_nil))) (.cons pe_str (.cons (pe_fmt (pv 0)) .nil))))))))), ?_⟩
    have k1 : (Str.ofString " ").length = 1 := by decide
    have km : (Str.ofString "-").length = 1 := by decide
    have kp : (Str.ofString "+").length = 1 := by decide
    have k0 : (Str.empty).length = 0 := by decide
    have la : (if n < 0 then -n else n).natAbs < 2 ^ 200 := by split <;> omega
    have lt := len_of (n := 200) (by decide) la
    have lg : (if n < 0 then -n else n).natAbs.log2 < 1920 := by
      by_cases q : (if n < 0 then -n else n).natAbs = 0
      · rw [q]; decide
      · exact Nat.lt_of_lt_of_le ((Nat.log2_lt q).mpr la) (by decide)
    have ls : (sgnT n).length = 1 := by unfold sgnT; split <;> decide
    refine ⟨fun σ H' => H' = H ∧ σ = (L2.start nTerm [.str x, .int n]).set 2 (some (.str (sgnT n))), ?_, ?_⟩
    · refine ⟨_, rfl, _, _, rfl, rfl, _, rfl, ite2 (fun h => ?_) (fun h => ?_)⟩
      · have h' : n < 0 := by simpa using h
        refine ⟨rfl, ?_⟩
        unfold sgnT
        rw [if_pos h']
      · have h' : ¬ n < 0 := by simpa using h
        refine ⟨rfl, ?_⟩
        unfold sgnT
        rw [if_neg h']
    rintro σ H' ⟨rfl, rfl⟩
    unfold termT at z
    refine ⟨_, rfl, _, rfl, rfl, _, rfl, ite2 (fun h => ?_) (fun h => ?_)⟩
    · have e : (if n < 0 then -n else n) = 1 := by simpa using h
      rw [if_pos e] at z
      refine ⟨_, rfl, .inl ⟨_, rfl, (by omega), _, rfl, ?_, _, rfl, ?_, _, rfl, .inl ⟨_, rfl, (by omega), _, rfl, ?_, z⟩⟩⟩ <;> (simp only [strLen_append, k1, k0, ls]; omega)
    · have e : ¬ (if n < 0 then -n else n) = 1 := fun e => h (by simpa using e)
      rw [if_neg e] at z
      refine ⟨_, rfl, .inl ⟨_, rfl, (by omega), _, rfl, ?_, _, rfl, ?_, _, rfl, _, rfl, .inr ⟨_, rfl, lg, _, rfl, ?_, _, rfl, ?_, _, rfl, .inl ⟨_, rfl, (by omega), _, rfl, ?_, z⟩⟩⟩⟩ <;> (simp only [strLen_append, k1, k0, ls]; omega)
end
end KD

set_option Elab.async false
set_option linter.all false
set_option maxRecDepth 100000
set_option maxHeartbeats 1000000
/-! _ways_text; Loose and Product as texts. -/
namespace KD
open PySem PySem.Spec PyProof.Rows L2 Oo Gd Am KA SqX
/-- names, not many -/
def Few (xs : List Str) : Prop := (∀ x ∈ xs, nameB x = true) ∧ xs.length < 64
theorem Nms.f {xs : List Str} (h : Nms xs) : Few xs := ⟨h.ok, h.few⟩
theorem Few.srt {xs : List Str} (h : Few xs) : Few (srt xs) := ⟨fun x hx => h.1 x ((srt_mem xs x).mp hx), by rw [srt_len]; exact h.2⟩
theorem sum_le (n : Nat) : ∀ xs : List Str, (∀ x ∈ xs, x.length ≤ n) → (xs.map (·.length)).sum ≤ n * xs.length
  | [], _ => Nat.le_refl _
  | x :: r, h => by
    have a := sum_le n r fun y hy => h y (List.mem_cons_of_mem _ hy)
    have b := h x List.mem_cons_self
    rw [List.map_cons, List.sum_cons, List.length_cons, Nat.mul_succ]
    omega
theorem Few.sum {xs : List Str} (h : Few xs) : (xs.map (·.length)).sum ≤ 8 * xs.length := sum_le 8 xs fun x hx => (name_len (h.1 x hx)).2
theorem join_len (sep : Str) (xs : List Str) : (Txt.join sep xs).length ≤ (xs.map (·.length)).sum + xs.length * sep.length := by
  show (Builtin.Str.glued sep xs).length ≤ _
  rw [size_glued]
  have : (xs.length - 1) * sep.length ≤ xs.length * sep.length := Nat.mul_le_mul_right _ (Nat.sub_le _ _)
  omega
theorem k1 : (Str.ofString " ").length = 1 := by decide
theorem Few.join {xs : List Str} (h : Few xs) : (Txt.join " " xs).length ≤ 9 * xs.length := by
  have a := join_len " " xs
  have b := h.sum
  rw [k1] at a
  omega
def wayT (fs ws : List Str) : Str := if ws = fs then "" else Str.empty ++ " by " ++ Txt.join " " ws
theorem wayT_len {fs ws : List Str} (h : Few ws) : (wayT fs ws).length ≤ 700 := by
  unfold wayT
  have := h.join
  have := h.2
  have k4 : (Str.ofString " by ").length = 4 := by decide
  have k0 : (Str.empty).length = 0 := by decide
  have ke : (Str.ofString "").length = 0 := by decide
  split
  · rw [ke]; omega
  · rw [strLen_append, strLen_append, k0, k4]; omega
def IsL (C : Addr) (H : Hp) (r : Addr) (fs ws : List Str) : Prop := ∃ dx pf pw, H r = some (.ins C dx (fldL pf pw)) ∧ Tp H pf fs ∧ Tp H pw ws
theorem IsL.ext {C : Addr} {H H' : Hp} {r : Addr} {fs ws : List Str} (e : Am.Ext H H') (h : IsL C H r fs ws) : IsL C H' r fs ws := let ⟨dx, pf, pw, a, b, c⟩ := h; ⟨dx, pf, pw, e _ _ a, e _ _ b, e _ _ c⟩
def IsP (A C : Addr) (H : Hp) (r : Addr) (q : Rat) (ls rs fs ws : List Str) : Prop := ∃ dx pt pl pr pf pw, H r = some (.ins C dx (fldP pt pl pr pf pw)) ∧ Is A H pt q ∧ Tp H pl ls ∧ Tp H pr rs ∧ Tp H pf fs ∧ Tp H pw ws
theorem IsP.ext {A C : Addr} {H H' : Hp} {r : Addr} {q : Rat} {ls rs fs ws : List Str} (e : Am.Ext H H') (h : IsP A C H r q ls rs fs ws) : IsP A C H' r q ls rs fs ws :=
  let ⟨dx, pt, pl, pr, pf, pw, a, b, c, d, f, g⟩ := h; ⟨dx, pt, pl, pr, pf, pw, e _ _ a, b.ext e, e _ _ c, e _ _ d, e _ _ f, e _ _ g⟩
def IsT (A C : Addr) (H : Hp) (r : Addr) (q : Rat) (ls : List (Str × Int)) (fs ws : List Str) : Prop := ∃ dx pt pf pd pw, H r = some (.ins C dx (fldT pt pf pd pw)) ∧ Is A H pt q ∧ Tp H pf fs ∧ H pd = some (.dK (wts ls)) ∧ Tp H pw ws
theorem IsT.ext {A C : Addr} {H H' : Hp} {r : Addr} {q : Rat} {ls : List (Str × Int)} {fs ws : List Str} (e : Am.Ext H H') (h : IsT A C H r q ls fs ws) : IsT A C H' r q ls fs ws :=
  let ⟨dx, pt, pf, pd, pw, a, b, c, d, f⟩ := h; ⟨dx, pt, pf, pd, pw, e _ _ a, b.ext e, e _ _ c, e _ _ d, e _ _ f⟩
section
variable {P : Program} {w : World} {K : W.Frag} {mg : Str → Option Value} {base : Heap} {f A C : Addr} {fd : FuncData} {t t2 t3 : Tok}
def spWayT : Sp := fun vs H Q _ => ∃ (a b : Addr) (fs ws : List Str), vs = [.ref a, .ref b] ∧ Tp H a fs ∧ Tp H b ws ∧ Few fs ∧ Few ws ∧ Q (.str (wayT fs ws)) H
abbrev nWayT : List Str := ["fields", "ways", "named"]
theorem scWayT : FnScope nWayT ["fields", "ways"] (defScope (top 37)) := ⟨rfl, rfl, rfl, by decide +kernel, rfl, by decide +kernel, by decide +kernel⟩
theorem ok_wayT (F : Fun K "_ways_text" "_ways_text" (top 37) f fd) : FnOk P w K mg base CX0 1 f fd ["fields", "ways"] spWayT := by
  refine F.ok scWayT (fun vs H Q E h => ?_) (fun cdv A outer s H vs Q E hr h => ?_)
  · obtain ⟨a, b, fs, ws, rfl, _⟩ := h
    rfl
  · obtain ⟨a, b, fs, ws, rfl, ha, hb, ff, fw, z⟩ := h
    have nd := scWayT.nd
    have isk : IsK K := ⟨trivial⟩
    have big : (20000 : Nat) ≤ sizeLine := by decide
    refine ⟨_, pss_cons (ps_if (pt_cmpR (eqK isk hr) (pv 1) (pv 0) (by rfl)) (pss_one (ps_ret pe_str)) pss_nil)
      (pss_cons (ps_set (i := 2) nd rfl (.inl rfl) (joinK isk pe_str (pv 1)))
      (pss_one (ps_ret (pe_joined (.cons pe_str (.cons (pe_fmt (pv 2)) .nil)))))), ?_⟩
    refine ⟨_, rfl, _, rfl, .inr (eq_tup hb ha fw.1 ff.1 ⟨_, rfl, ite2 (fun c => ?_) (fun c => ?_)⟩)⟩
    · have e : ws = fs := by simpa using c
      unfold wayT at z
      rw [if_pos e] at z
      exact z
    · have e : ¬ ws = fs := by simpa using c
      unfold wayT at z
      rw [if_neg e] at z
      have l1 := fw.sum
      have l2 := fw.join
      have l3 := fw.2
      have k4 : (Str.ofString " by ").length = 4 := by decide
      have k0 : (Str.empty).length = 0 := by decide
      refine ⟨⟨_, rfl⟩, _, rfl, _, b, ws, rfl, rfl, .inr (SqT.of hb), by rw [k1]; omega, ?_⟩
      refine ⟨_, rfl, ?_, _, rfl, .inl ⟨_, rfl, by omega, _, rfl, ?_, z⟩⟩ <;> (simp only [strLen_append, k4, k0]; omega)
def looseT (fs ws : List Str) : Str := Str.empty ++ "loose " ++ Txt.join " " fs ++ wayT fs ws
def spTxL (C : Addr) : Sp := fun vs H Q _ => ∃ (r : Addr) (fs ws : List Str), vs = [.ref r] ∧ IsL C H r fs ws ∧ Few fs ∧ Few ws ∧ Q (.str (looseT fs ws)) H
theorem scTxL : FnScope ["self", "named"] ["self"] (defScope (lo 4)) := ⟨rfl, rfl, rfl, by decide +kernel, rfl, by decide +kernel, by decide +kernel⟩
theorem ok_txL (T : ClR K C) (DW : Dn P w K mg base CX0 1 "_ways_text" ["fields", "ways"] spWayT) (F : Fun K "text" "Loose.text" (lo 4) f fd) : FnOk P w K mg base CX0 2 f fd ["self"] (spTxL C) := by
  refine F.ok scTxL (fun vs H Q E h => ?_) (fun cdv A outer s H vs Q E hr h => ?_)
  · obtain ⟨r, fs, ws, rfl, _⟩ := h
    rfl
  · obtain ⟨r, fs, ws, rfl, ⟨dx, pf, pw, hi, hf, hw⟩, ff, fw, z⟩ := h
    have nd := scTxL.nd
    have isk : IsK K := ⟨trivial⟩
    have big : (20000 : Nat) ≤ sizeLine := by decide
    refine ⟨_, pss_cons (ps_set (i := 1) nd rfl (.inl rfl) (joinK isk pe_str (pe_fld (pv 0) rfl)))
      (pss_one (ps_ret (pe_joined (.cons pe_str (.cons (pe_fmt (pv 1)) (.cons (pe_fmt (pe_dn DW hr (by rfl) (by decide) (pa_cons (pe_fld (pv 0) rfl) (pa_cons (pe_fld (pv 0) rfl) pa_nil)))) .nil)))))), ?_⟩
    have l1 := ff.sum
    have l2 := ff.join
    have l3 := ff.2
    have l4 := wayT_len (fs := fs) fw
    have k6 : (Str.ofString "loose ").length = 6 := by decide
    have k0 : (Str.empty).length = 0 := by decide
    refine ⟨⟨_, rfl⟩, _, rfl, r, C, dx, _, _, rfl, hi, T.cl, T.no _ (by simp), rfl, _, pf, fs, rfl, rfl, .inr (SqT.of hf), by rw [k1]; omega, ?_⟩
    refine ⟨_, rfl, ?_, _, rfl, .inl ⟨_, rfl, by omega, _, rfl, ?_, _, rfl, r, C, dx, _, _, rfl, hi, T.cl, T.no _ (by simp), rfl, _, rfl, r, C, dx, _, _, rfl, hi, T.cl, T.no _ (by simp), rfl, pf, pw, fs, ws, rfl, hf, hw, ff, fw, .inl ⟨_, rfl, by omega, _, rfl, ?_, z⟩⟩⟩ <;> (simp only [strLen_append, k6, k0]; omega)
end
end KD

set_option Elab.async false
set_option linter.all false
set_option maxRecDepth 100000
set_option maxHeartbeats 1000000
/-! Product and Total as texts. -/
namespace KD
open PySem PySem.Spec PyProof.Rows L2 Oo Gd Am KA SqX
theorem k0 : (Str.empty).length = 0 := by decide
theorem num_len {i : Int} (h : i.natAbs < 2 ^ 250) : (Str.ofString (toString i)).length ≤ 300 := by
  have := len_of (n := 250) (by decide) h
  omega
theorem written_len {q : Rat} (h : Low 250 q) : (written q).length ≤ 1000 := by
  have a := num_len h.1
  have b := num_len (i := (q.den : Int)) (by rw [Int.natAbs_natCast]; exact h.2)
  have k : (Str.ofString "/").length = 1 := by decide
  unfold written
  split
  · omega
  · simp only [strLen_append, k0, k]; omega
theorem term_len {x : Str} {n : Int} (hx : x.length ≤ 8) (hn : n.natAbs < 2 ^ 200) : (termT x n).length ≤ 330 := by
  have la : (if n < 0 then -n else n).natAbs < 2 ^ 250 := Nat.lt_of_le_of_lt (by split <;> omega) (Nat.lt_trans hn (by decide))
  have b := num_len la
  have ls : (sgnT n).length = 1 := by unfold sgnT; split <;> decide
  unfold termT
  by_cases e : (if n < 0 then -n else n) = 1
  · rw [if_pos e]
    simp only [strLen_append, k0, k1, ls]
    omega
  · rw [if_neg e]
    simp only [strLen_append, k0, k1, ls]
    omega
def leftT (ls : List Str) : Str := if ls = [] then "1" else Txt.join " " ls
def rightT (rs : List Str) : Str := Txt.join "" (rs.map fun x => Str.empty ++ " " ++ x)
def prodT (q : Rat) (ls rs fs ws : List Str) : Str := Str.empty ++ "product " ++ leftT ls ++ " = " ++ written q ++ rightT rs ++ wayT fs ws
theorem leftT_len {ls : List Str} (h : Few ls) : (leftT ls).length ≤ 700 := by
  have a := h.join
  have b := h.2
  have k : (Str.ofString "1").length = 1 := by decide
  unfold leftT
  split <;> omega
theorem right_sum {rs : List Str} (h : Few rs) : ((rs.map fun x => Str.empty ++ " " ++ x).map (·.length)).sum ≤ 9 * rs.length := by
  have := sum_le 9 (rs.map fun x => Str.empty ++ " " ++ x) fun y hy => by
    obtain ⟨x, hx, rfl⟩ := List.mem_map.mp hy
    have := (name_len (h.1 x hx)).2
    simp only [strLen_append, k0, k1]
    omega
  rwa [List.length_map] at this
theorem rightT_len {rs : List Str} (h : Few rs) : (rightT rs).length ≤ 700 := by
  have a := join_len "" (rs.map fun x => Str.empty ++ " " ++ x)
  have b := right_sum h
  have c := h.2
  have k : (Str.ofString "").length = 0 := by decide
  rw [k] at a
  unfold rightT
  omega
theorem prodT_len {q : Rat} {ls rs fs ws : List Str} (h1 : Low 250 q) (h2 : Few ls) (h3 : Few rs) (h4 : Few ws) : (prodT q ls rs fs ws).length ≤ 5000 := by
  have a := written_len h1
  have b := leftT_len h2
  have c := rightT_len h3
  have d := wayT_len (fs := fs) h4
  have k8 : (Str.ofString "product ").length = 8 := by decide
  have k3 : (Str.ofString " = ").length = 3 := by decide
  unfold prodT
  simp only [strLen_append, k0, k8, k3]
  omega
section
variable {P : Program} {w : World} {K : W.Frag} {mg : Str → Option Value} {base : Heap} {f A C : Addr} {fd : FuncData} {t t2 t3 : Tok}
def spTxP (A C : Addr) : Sp := fun vs H Q _ => ∃ (r : Addr) (q : Rat) (ls rs fs ws : List Str), vs = [.ref r] ∧ IsP A C H r q ls rs fs ws ∧ Low 250 q ∧ Few ls ∧ Few rs ∧ Few fs ∧ Few ws ∧ ∀ H', Am.Ext H H' → Q (.str (prodT q ls rs fs ws)) H'
abbrev nTxP : List Str := ["self", "left", "right", "field"]
theorem scTxP : FnScope nTxP ["self"] (defScope (pro 8)) := ⟨rfl, rfl, rfl, by decide +kernel, rfl, by decide +kernel, by decide +kernel⟩
theorem ok_txP (fr : Frees mg) (T : ClR K C) (U : Una P w K mg base A "__str__" 1 (spText A written)) (DW : Dn P w K mg base CX0 1 "_ways_text" ["fields", "ways"] spWayT) (F : Fun K "text" "Product.text" (pro 8) f fd) : FnOk P w K mg base CX0 4 f fd ["self"] (spTxP A C) := by
  refine F.ok scTxP (fun vs H Q E h => ?_) (fun cdv A' outer s H vs Q E hr h => ?_)
  · obtain ⟨r, q, ls, rs, fs, ws, rfl, _⟩ := h
    rfl
  · obtain ⟨r, q, ls, rs, fs, ws, rfl, ⟨dx, pt, pl, pr, pf, pw, hi, ht, hl, hrr, hf, hw⟩, lw, fl, frs, ff, fw, z⟩ := h
    have nd := scTxP.nd
    have isk : IsK K := ⟨trivial⟩
    have big : (1000000 : Nat) ≤ sizeLine := by decide
    refine ⟨_, C8.pss_cut (ps_set (i := 1) nd rfl (.inl rfl) (pe_ifExp (pt_cmpR op_gt (pe_callB (lenK isk) rfl (fr.h _ (by decide +kernel)) (by decide +kernel) (pa_cons (pe_fld (pv 0) rfl) pa_nil)) pe_int (nomark _)) (joinK isk pe_str (pe_fld (pv 0) rfl)) pe_str))
      (pss_cons (ps_set (i := 2) nd rfl (.inl rfl) (joinK isk pe_str (pe_lc (own := [("field", 3)]) (g := gName 3) (tt := tYes) rfl nd (pi_seq (pe_fld (pv 0) rfl)) (blkOk_by (N := nTxP) (sc := defScope (pro 8)) (by decide +kernel)) (fun _ _ _ _ _ => pg_name (i := 3) nd rfl (Or.inl rfl)) (fun _ _ _ _ _ => pts_nil)
        (fun _ _ _ _ _ => pe_joined (.cons pe_str (.cons (pe_fmt (pv 3)) .nil))))))
      (pss_one (ps_ret (pe_joined (.cons pe_str (.cons (pe_fmt (pv 1)) (.cons pe_str (.cons (pe_fmt (pe_callTy (call_strN U (hr.mono (by decide))) rfl (fr.h _ (by decide +kernel)) (by decide +kernel) (pa_cons (pe_fld (pv 0) rfl) pa_nil))) (.cons (pe_fmt (pv 2)) (.cons (pe_fmt (pe_dn DW hr (by rfl) (by decide) (pa_cons (pe_fld (pv 0) rfl) (pa_cons (pe_fld (pv 0) rfl) pa_nil)))) .nil)))))))))), ?_⟩
    have fN : ∀ x ∈ ([("_fields" : Str), "_ways", "_weights", "_total", "_factor", "_left", "_right"] : List Str), NoAttr K C x := T.no
    refine ⟨fun σ H' => H' = H ∧ σ = (L2.start nTxP [.ref r]).set 1 (some (.str (leftT ls))), ?_, ?_⟩
    · refine ⟨_, rfl, r, C, dx, _, _, rfl, hi, T.cl, T.no _ (by simp), rfl, .inl ⟨pl, _, rfl, .inr (SqT.of hl), _, _, rfl, rfl, _, rfl, ite2 (fun c => ?_) (fun c => ?_)⟩⟩
      · have e : ¬ ls = [] := fun e => by
          rw [e] at c
          simp at c
        have l1 := fl.sum
        have l3 := fl.2
        refine ⟨⟨_, rfl⟩, _, rfl, r, C, dx, _, _, rfl, hi, T.cl, T.no _ (by simp), rfl, _, pl, ls, rfl, rfl, .inr (SqT.of hl), by rw [k1]; omega, rfl, ?_⟩
        unfold leftT
        rw [if_neg e]
      · have e : ls = [] := by
          cases ls with
          | nil => rfl
          | cons a b => exfalso; apply c; simp
        refine ⟨rfl, ?_⟩
        unfold leftT
        rw [if_pos e]
    rintro σ H0 ⟨rfl, rfl⟩
    refine ⟨⟨_, rfl⟩, _, rfl, r, C, dx, _, _, rfl, hi, T.cl, T.no _ (by simp), rfl, pr, _, H0, rfl, .inr (SqT.of hrr), Am.Ext.refl H0, fun J G wk st D hD => ?_⟩
    rw [List.length_map] at wk
    refine lc_it (te := fun σ H Q => tJs [tC (V.str (Str.ofString " ")), tFmt (tVar 3)] Str.empty σ H fun out H1 => Q (V.str out) H1) wk (fun i H' => Am.Ext H0 H' ∧ H' D = some (.lst (((rs.take i).map fun x => Str.empty ++ " " ++ x).map V.str))) ⟨Am.Ext.new hD, by rw [upd_same]; rfl⟩ (fun i H' _ h => st H' h.1) ?_ ?_
    · rintro i y H' H2 hi' ⟨e, d⟩ ⟨rfl, hy⟩
      obtain ⟨x, hx, rfl⟩ := map_at hy
      have lx := (name_len (frs.1 x (List.mem_of_getElem? hx))).2
      have l3 := frs.2
      refine ⟨rfl, _, rfl, ?_, _, rfl, .inl ⟨_, rfl, by omega, _, rfl, ?_, _, d, ?_, ext_off e hD, ?_⟩⟩
      · simp only [strLen_append, k1, k0]; omega
      · simp only [strLen_append, k1, k0]; omega
      · rw [List.length_map, List.length_map, List.length_take]
        omega
      · rw [upd_same, take_suc hx, List.map_append, List.map_append]
        rfl
    · rintro H' ⟨e, d⟩
      rw [List.take_length] at d
      have l1 := right_sum frs
      have l3 := frs.2
      have l4 := leftT_len fl
      have l5 := rightT_len frs
      have l6 := written_len lw
      have l7 := wayT_len (fs := fs) fw
      have k8 : (Str.ofString "product ").length = 8 := by decide
      have k3 : (Str.ofString " = ").length = 3 := by decide
      have ke : (Str.ofString "").length = 0 := by decide
      have hi' := e _ _ hi
      have lw8 : Low 8000 q := lw.more (by decide)
      refine ⟨_, D, rs.map fun x => Str.empty ++ " " ++ x, rfl, rfl, .inl (SqL.of d), by rw [ke, List.length_map]; omega, ?_⟩
      have z' := z H' e
      unfold prodT rightT at z'
      unfold rightT at l5
      refine ⟨_, rfl, ?_, _, rfl, .inl ⟨_, rfl, by omega, _, rfl, ?_, _, rfl, ?_, _, rfl, r, C, dx, _, _, rfl, hi', T.cl, T.no _ (by simp), rfl, pt, q, rfl, ht.ext e, lw8, .inl ⟨_, rfl, by omega, _, rfl, ?_, _, rfl, .inl ⟨_, rfl, by omega, _, rfl, ?_, _, rfl, r, C, dx, _, _, rfl, hi', T.cl, T.no _ (by simp), rfl, _, rfl, r, C, dx, _, _, rfl, hi', T.cl, T.no _ (by simp), rfl, pf, pw, fs, ws, rfl, e _ _ hf, e _ _ hw, ff, fw, .inl ⟨_, rfl, by omega, _, rfl, ?_, z'⟩⟩⟩⟩⟩ <;> (simp only [strLen_append, k0, k8, k3]; omega)
end
end KD

set_option Elab.async false
set_option linter.all false
set_option maxRecDepth 100000
set_option maxHeartbeats 1000000
/-! Total as a text. -/
namespace KD
open PySem PySem.Spec PyProof.Rows L2 Oo Gd Am KA SqX
/-- numbers that are not great -/
def Wts (ls : List (Str × Int)) : Prop := ∀ p ∈ ls, p.2.natAbs < 2 ^ 200
def termsT (ls : List (Str × Int)) (fs : List Str) : Str := Txt.join " " (fs.map fun x => termT x ((wt ls x).getD 0))
def headT (s : Str) : Str := if Txt.startswith s "-" = true then Str.empty ++ "-" ++ cutS s (some 2) none else cutS s (some 2) none
def sumT (q : Rat) (ls : List (Str × Int)) (fs ws : List Str) : Str := Str.empty ++ "sum " ++ headT (termsT ls fs) ++ " = " ++ written q ++ wayT fs ws
theorem terms_sum {ls : List (Str × Int)} {fs : List Str} (h : Few fs) (hw : Wts ls) (sub : ∀ x ∈ fs, x ∈ ls.map (·.1)) : ((fs.map fun x => termT x ((wt ls x).getD 0)).map (·.length)).sum ≤ 330 * fs.length := by
  have := sum_le 330 (fs.map fun x => termT x ((wt ls x).getD 0)) fun y hy => by
    obtain ⟨x, hx, rfl⟩ := List.mem_map.mp hy
    obtain ⟨n, e, m⟩ := wt_some (sub x hx)
    rw [e]
    exact term_len (name_len (h.1 x hx)).2 (hw _ m)
  rwa [List.length_map] at this
theorem terms_len {ls : List (Str × Int)} {fs : List Str} (h : Few fs) (hw : Wts ls) (sub : ∀ x ∈ fs, x ∈ ls.map (·.1)) : (termsT ls fs).length ≤ 25000 := by
  have a := join_len " " (fs.map fun x => termT x ((wt ls x).getD 0))
  have b := terms_sum h hw sub
  have c := h.2
  rw [k1, List.length_map] at a
  unfold termsT
  omega
theorem cut2_len (x : Str) : (cutS x (some 2) none).length ≤ x.length := cut_len x _ _
theorem headT_len (s : Str) : (headT s).length ≤ s.length + 1 := by
  have := cut2_len s
  have k : (Str.ofString "-").length = 1 := by decide
  unfold headT
  split
  · rw [strLen_append, strLen_append, k0, k]; omega
  · omega
theorem sumT_len {q : Rat} {ls : List (Str × Int)} {fs ws : List Str} (h1 : Low 250 q) (h : Few fs) (hw : Wts ls) (sub : ∀ x ∈ fs, x ∈ ls.map (·.1)) (h4 : Few ws) : (sumT q ls fs ws).length ≤ 30000 := by
  have a := written_len h1
  have b := headT_len (termsT ls fs)
  have c := terms_len h hw sub
  have d := wayT_len (fs := fs) h4
  have k4 : (Str.ofString "sum ").length = 4 := by decide
  have k3 : (Str.ofString " = ").length = 3 := by decide
  unfold sumT
  simp only [strLen_append, k0, k4, k3]
  omega
section
variable {P : Program} {w : World} {K : W.Frag} {mg : Str → Option Value} {base : Heap} {f A C : Addr} {fd : FuncData} {t t2 t3 : Tok}
def spTxT (A C : Addr) : Sp := fun vs H Q _ => ∃ (r : Addr) (q : Rat) (ls : List (Str × Int)) (fs ws : List Str), vs = [.ref r] ∧ IsT A C H r q ls fs ws ∧ Low 250 q ∧ Wts ls ∧ (∀ x ∈ fs, x ∈ ls.map (·.1)) ∧ Few fs ∧ Few ws ∧ ∀ H', Am.Ext H H' → Q (.str (sumT q ls fs ws)) H'
abbrev nTxT : List Str := ["self", "terms", "head", "field"]
theorem scTxT : FnScope nTxT ["self"] (defScope (tot 8)) := ⟨rfl, rfl, rfl, by decide +kernel, rfl, by decide +kernel, by decide +kernel⟩
theorem ok_txT (fr : Frees mg) (T : ClR K C) (U : Una P w K mg base A "__str__" 1 (spText A written)) (DT : Dn P w K mg base CX0 1 "_signed_term" ["field", "weight"] spTerm) (DW : Dn P w K mg base CX0 1 "_ways_text" ["fields", "ways"] spWayT) (F : Fun K "text" "Total.text" (tot 8) f fd) : FnOk P w K mg base CX0 4 f fd ["self"] (spTxT A C) := by
  refine F.ok scTxT (fun vs H Q E h => ?_) (fun cdv A' outer s H vs Q E hr h => ?_)
  · obtain ⟨r, q, ls, fs, ws, rfl, _⟩ := h
    rfl
  · obtain ⟨r, q, ls, fs, ws, rfl, ⟨dx, pt, pf, pd, pw, hi, ht, hf, hd, hw⟩, lw, wl, sub, ff, fw, z⟩ := h
    have nd := scTxT.nd
    have isk : IsK K := ⟨trivial⟩
    have hu := hu_of hr
    have big : (1000000 : Nat) ≤ sizeLine := by decide
    refine ⟨_, pss_cons (ps_set (i := 1) nd rfl (.inl rfl) (joinK isk pe_str (pe_lc (own := [("field", 3)]) (g := gName 3) (tt := tYes) rfl nd (pi_seq (pe_fld (pv 0) rfl)) (blkOk_by (N := nTxT) (sc := defScope (tot 8)) (by decide +kernel)) (fun _ _ _ _ _ => pg_name (i := 3) nd rfl (Or.inl rfl)) (fun _ _ _ _ _ => pts_nil)
        (fun s1 H1 C1 c1 f1 => by exact pe_dn DT hr (by rfl) (by decide) (pa_cons (pv 3) (pa_cons (pe_dget (td := tFld K (tVar 0) "_weights") (ty := tVar 3) hu (pe_fld (pv 0) rfl) (pv 3) (fun _ _ => rfl)) pa_nil))))))
      (C8.pss_cut (ps_set (i := 2) nd rfl (.inl rfl) (pe_ifExp (pt_val (pe_bm PySem.F.plainAttrs_str PySem.F.slot_str_startswith PySem.F.type_str_startswith mt_startswith (pv 1) (pa_cons pe_str pa_nil))) (pe_joined (.cons pe_str (.cons (pe_fmt (pe_slice sl_str (pv 1) (po_some pe_int) po_none)) .nil))) (pe_slice sl_str (pv 1) (po_some pe_int) po_none)))
      (pss_one (ps_ret (pe_joined (.cons pe_str (.cons (pe_fmt (pv 2)) (.cons pe_str (.cons (pe_fmt (pe_callTy (call_strN U (hr.mono (by decide))) rfl (fr.h _ (by decide +kernel)) (by decide +kernel) (pa_cons (pe_fld (pv 0) rfl) pa_nil))) (.cons (pe_fmt (pe_dn DW hr (by rfl) (by decide) (pa_cons (pe_fld (pv 0) rfl) (pa_cons (pe_fld (pv 0) rfl) pa_nil)))) .nil))))))))), ?_⟩
    refine ⟨⟨_, rfl⟩, _, rfl, r, C, dx, _, _, rfl, hi, T.cl, T.no _ (by simp), rfl, pf, _, H, rfl, .inr (SqT.of hf), Am.Ext.refl H, fun J G wk st D hD => ?_⟩
    rw [List.length_map] at wk
    have l3 := ff.2
    refine lc_it wk (fun i H' => Am.Ext H H' ∧ H' D = some (.lst (((fs.take i).map fun x => termT x ((wt ls x).getD 0)).map V.str))) ⟨Am.Ext.new hD, by rw [upd_same]; rfl⟩ (fun i H' _ h => st H' h.1) ?_ ?_
    · rintro i y H' H2 hi' ⟨e, d⟩ ⟨rfl, hy⟩
      obtain ⟨x, hx, rfl⟩ := map_at hy
      have hm := List.mem_of_getElem? hx
      have lx := (name_len (ff.1 x hm)).2
      obtain ⟨n, en, mn⟩ := wt_some (sub x hm)
      have g : DGet H2 pd (.str x) (some (.int n)) := by
        have := DGet.k (k := (Sum.inr x : Key)) (e _ _ hd)
        rw [valV_w, en] at this
        exact this
      refine ⟨rfl, _, rfl, _, rfl, r, C, dx, _, _, rfl, e _ _ hi, T.cl, T.no _ (by simp), rfl, _, rfl, pd, _, rfl, g, x, n, rfl, lx, wl _ mn, _, d, ?_, ext_off e hD, ?_⟩
      · rw [List.length_map, List.length_map, List.length_take]
        omega
      · rw [upd_same, take_suc hx, List.map_append, List.map_append]
        simp only [List.map_cons, List.map_nil, en]
        rfl
    · rintro H' ⟨e, d⟩
      rw [List.take_length] at d
      have l1 := terms_sum ff wl sub
      have l2 := terms_len ff wl sub
      have hi' := e _ _ hi
      refine ⟨_, D, fs.map fun x => termT x ((wt ls x).getD 0), rfl, rfl, .inl (SqL.of d), by rw [k1, List.length_map]; omega, ?_⟩
      have z' := z H' e
      have eT : termsT ls fs = Txt.join " " (fs.map fun x => termT x ((wt ls x).getD 0)) := rfl
      rw [← eT]
      have l8 := headT_len (termsT ls fs)
      unfold sumT at z'
      generalize termsT ls fs = s1 at l2 l8 z' ⊢
      have lc := cut2_len s1
      have km : (Str.ofString "-").length = 1 := by decide
      refine ⟨fun σ H2 => H2 = H' ∧ σ = ((L2.start nTxT [.ref r]).set 1 (some (.str s1))).set 2 (some (.str (headT s1))), ?_, ?_⟩
      · refine ⟨_, rfl, rfl, _, _, rfl, rfl, _, rfl, ite2 (fun c => ?_) (fun c => ?_)⟩
        · refine ⟨_, rfl, ?_, _, rfl, 2, rfl, s1, rfl, by omega, .inl ⟨_, rfl, by omega, _, rfl, ?_, rfl, ?_⟩⟩
          · simp only [strLen_append, k0, km]; omega
          · simp only [strLen_append, k0, km]; omega
          · unfold headT
            rw [if_pos c]
        · refine ⟨_, rfl, 2, rfl, s1, rfl, by omega, rfl, ?_⟩
          unfold headT
          rw [if_neg c]
      · rintro σ H2 ⟨rfl, rfl⟩
        have l6 := written_len lw
        have l7 := wayT_len (fs := fs) fw
        have k4 : (Str.ofString "sum ").length = 4 := by decide
        have k3 : (Str.ofString " = ").length = 3 := by decide
        have lw8 : Low 8000 q := lw.more (by decide)
        generalize headT s1 = s2 at l8 z' ⊢
        refine ⟨_, rfl, ?_, _, rfl, .inl ⟨_, rfl, by omega, _, rfl, ?_, _, rfl, ?_, _, rfl, r, C, dx, _, _, rfl, hi', T.cl, T.no _ (by simp), rfl, pt, q, rfl, ht.ext e, lw8, .inl ⟨_, rfl, by omega, _, rfl, ?_, _, rfl, r, C, dx, _, _, rfl, hi', T.cl, T.no _ (by simp), rfl, _, rfl, r, C, dx, _, _, rfl, hi', T.cl, T.no _ (by simp), rfl, pf, pw, fs, ws, rfl, e _ _ hf, e _ _ hw, ff, fw, .inl ⟨_, rfl, by omega, _, rfl, ?_, z'⟩⟩⟩⟩ <;> (simp only [strLen_append, k0, k4, k3]; omega)
end
end KD

set_option Elab.async false
set_option linter.all false
set_option maxRecDepth 100000
set_option maxHeartbeats 1000000
/-! what a rule's fields give; weights; dicts of numbers compared. -/
namespace KD
open PySem PySem.Spec PyProof.Rows L2 Oo Gd Am KA SqX
/-! ### dicts of numbers compared -/
def eqW (ks ls : List (Str × Int)) : Bool := decide (ks.length = ls.length) && ks.all fun p => decide (wt ls p.1 = some p.2)
theorem hits_w {A : Around} {s : Shared} {ls : List (Str × Int)} {vb : List (Key × Value)} (rb : KV (wts ls) vb) : ∀ {ks : List (Str × Int)} {va : List (Key × Value)}, KV (wts ks) va → PySem.W.KeqHits A s vb va (ks.all fun p => decide (wt ls p.1 = some p.2))
  | [], _, ra => by
    cases ra
    exact .nil
  | p :: ks, _, ra => by
    cases ra with
    | @cons _ b _ bs h t =>
      obtain ⟨k, v⟩ := b
      obtain ⟨h1, h2⟩ := h
      have hk : (Sum.inr p.1 : Key) = k := h1
      subst hk
      obtain ⟨tk, rfl⟩ := (show ∃ tk, v = Value.int p.2 tk from h2)
      have rv := rb.val (Sum.inr p.1 : Key)
      rw [valV_w] at rv
      rw [List.all_cons]
      cases e : wt ls p.1 with
      | none =>
        rw [e] at rv
        rw [decide_eq_false (fun q => nomatch q), Bool.false_and]
        refine .miss ?_
        cases q : valueAt vb (Sum.inr p.1 : Key) with
        | none => rfl
        | some u =>
          rw [q] at rv
          exact absurd rv (by intro z; exact z)
      | some n =>
        rw [e] at rv
        have rr : RelO (some (V.int n)) (valueAt vb (Sum.inr p.1 : Key)) := rv
        obtain ⟨y, hy, ry⟩ := rr.some_of
        obtain ⟨t2, rfl⟩ := (show ∃ t2, y = Value.int n t2 from ry)
        rw [show decide (some n = some p.2) = eqV (.int p.2) (.int n) from by
          show _ = (p.2 == n)
          by_cases z : n = p.2
          · subst z; simp
          · rw [decide_eq_false (fun q => z (by injection q))]
            exact (beq_eq_false_iff_ne.mpr (Ne.symm z)).symm]
        exact .hit hy (eqAt_V (x := V.int n) (y := V.int p.2) ⟨tk, rfl⟩ ⟨t2, rfl⟩ rfl rfl) (hits_w rb t)
section
variable {X : Cx}
def rEqW : R2 := fun x y H Q => ∃ a b ks ls, x = .ref a ∧ y = .ref b ∧ H a = some (.dK (wts ks)) ∧ H b = some (.dK (wts ls)) ∧ Q (.bl (eqW ks ls)) H
theorem op_eqW (hu : X.A.units + 1 < cLine) : OpR X (compareOp .Eq) rEqW := by
  intro pins s σ H x y v u Q I rx ry h
  obtain ⟨a, b, ks, ls, rfl, rfl, ea, eb, q⟩ := h
  obtain rfl : v = Value.ref a := rx
  obtain rfl : u = Value.ref b := ry
  obtain ⟨_, ya, va, ra, da⟩ := (show ObjOk X.prog X.w H s.heap a (.dK (wts ks)) from I.hok a _ ea)
  obtain ⟨_, yb, vb, rb, db⟩ := (show ObjOk X.prog X.w H s.heap b (.dK (wts ls)) from I.hok b _ eb)
  have h1 : va.length = ks.length := by rw [← ra.length, len_w]
  have h2 : vb.length = ls.length := by rw [← rb.length, len_w]
  refine PySem.W.keq_eq (knd := mixKind X.prog X.w) ya yb da db (by omega) (fun _ => hits_w rb ra) (fin_bl I q ?_)
  unfold eqW
  rw [h1, h2]
  rfl
end
section
variable {P : Program} {w : World} {K : W.Frag} {mg : Str → Option Value} {base : Heap} {f A C : Addr} {fd : FuncData} {t t2 t3 : Tok}
theorem sc_tot_fields : FnScope ["self"] ["self"] (defScope (tot 1)) := ⟨rfl, rfl, rfl, by decide +kernel, rfl, by decide +kernel, by decide +kernel⟩
theorem ok_tot_fields (T : ClR K C) (F : Fun K "fields" "Total.fields" (tot 1) f fd) : FnOk P w K mg base CX0 1 f fd ["self"] (spFld C "_fields") := by
  refine F.ok sc_tot_fields (fun vs H Q E h => ?_) (fun cdv A outer s H vs Q E hr h => ?_)
  · obtain ⟨r, dx, fs, v, rfl, _⟩ := h
    rfl
  · obtain ⟨r, dx, fs, v, rfl, hr', hv, z⟩ := h
    exact ⟨_, pss_one (ps_ret (pe_fld (pv 0) rfl)), ⟨_, rfl, r, C, dx, _, _, rfl, hr', T.cl, T.no _ (by simp), hv, z⟩⟩
theorem sc_tot_ways : FnScope ["self"] ["self"] (defScope (tot 2)) := ⟨rfl, rfl, rfl, by decide +kernel, rfl, by decide +kernel, by decide +kernel⟩
theorem ok_tot_ways (T : ClR K C) (F : Fun K "ways" "Total.ways" (tot 2) f fd) : FnOk P w K mg base CX0 1 f fd ["self"] (spFld C "_ways") := by
  refine F.ok sc_tot_ways (fun vs H Q E h => ?_) (fun cdv A outer s H vs Q E hr h => ?_)
  · obtain ⟨r, dx, fs, v, rfl, _⟩ := h
    rfl
  · obtain ⟨r, dx, fs, v, rfl, hr', hv, z⟩ := h
    exact ⟨_, pss_one (ps_ret (pe_fld (pv 0) rfl)), ⟨_, rfl, r, C, dx, _, _, rfl, hr', T.cl, T.no _ (by simp), hv, z⟩⟩
theorem sc_tot_total : FnScope ["self"] ["self"] (defScope (tot 4)) := ⟨rfl, rfl, rfl, by decide +kernel, rfl, by decide +kernel, by decide +kernel⟩
theorem ok_tot_total (T : ClR K C) (F : Fun K "total" "Total.total" (tot 4) f fd) : FnOk P w K mg base CX0 1 f fd ["self"] (spFld C "_total") := by
  refine F.ok sc_tot_total (fun vs H Q E h => ?_) (fun cdv A outer s H vs Q E hr h => ?_)
  · obtain ⟨r, dx, fs, v, rfl, _⟩ := h
    rfl
  · obtain ⟨r, dx, fs, v, rfl, hr', hv, z⟩ := h
    exact ⟨_, pss_one (ps_ret (pe_fld (pv 0) rfl)), ⟨_, rfl, r, C, dx, _, _, rfl, hr', T.cl, T.no _ (by simp), hv, z⟩⟩
theorem sc_pro_fields : FnScope ["self"] ["self"] (defScope (pro 1)) := ⟨rfl, rfl, rfl, by decide +kernel, rfl, by decide +kernel, by decide +kernel⟩
theorem ok_pro_fields (T : ClR K C) (F : Fun K "fields" "Product.fields" (pro 1) f fd) : FnOk P w K mg base CX0 1 f fd ["self"] (spFld C "_fields") := by
  refine F.ok sc_pro_fields (fun vs H Q E h => ?_) (fun cdv A outer s H vs Q E hr h => ?_)
  · obtain ⟨r, dx, fs, v, rfl, _⟩ := h
    rfl
  · obtain ⟨r, dx, fs, v, rfl, hr', hv, z⟩ := h
    exact ⟨_, pss_one (ps_ret (pe_fld (pv 0) rfl)), ⟨_, rfl, r, C, dx, _, _, rfl, hr', T.cl, T.no _ (by simp), hv, z⟩⟩
theorem sc_pro_ways : FnScope ["self"] ["self"] (defScope (pro 2)) := ⟨rfl, rfl, rfl, by decide +kernel, rfl, by decide +kernel, by decide +kernel⟩
theorem ok_pro_ways (T : ClR K C) (F : Fun K "ways" "Product.ways" (pro 2) f fd) : FnOk P w K mg base CX0 1 f fd ["self"] (spFld C "_ways") := by
  refine F.ok sc_pro_ways (fun vs H Q E h => ?_) (fun cdv A outer s H vs Q E hr h => ?_)
  · obtain ⟨r, dx, fs, v, rfl, _⟩ := h
    rfl
  · obtain ⟨r, dx, fs, v, rfl, hr', hv, z⟩ := h
    exact ⟨_, pss_one (ps_ret (pe_fld (pv 0) rfl)), ⟨_, rfl, r, C, dx, _, _, rfl, hr', T.cl, T.no _ (by simp), hv, z⟩⟩
theorem sc_pro_left : FnScope ["self"] ["self"] (defScope (pro 3)) := ⟨rfl, rfl, rfl, by decide +kernel, rfl, by decide +kernel, by decide +kernel⟩
theorem ok_pro_left (T : ClR K C) (F : Fun K "left" "Product.left" (pro 3) f fd) : FnOk P w K mg base CX0 1 f fd ["self"] (spFld C "_left") := by
  refine F.ok sc_pro_left (fun vs H Q E h => ?_) (fun cdv A outer s H vs Q E hr h => ?_)
  · obtain ⟨r, dx, fs, v, rfl, _⟩ := h
    rfl
  · obtain ⟨r, dx, fs, v, rfl, hr', hv, z⟩ := h
    exact ⟨_, pss_one (ps_ret (pe_fld (pv 0) rfl)), ⟨_, rfl, r, C, dx, _, _, rfl, hr', T.cl, T.no _ (by simp), hv, z⟩⟩
theorem sc_pro_right : FnScope ["self"] ["self"] (defScope (pro 4)) := ⟨rfl, rfl, rfl, by decide +kernel, rfl, by decide +kernel, by decide +kernel⟩
theorem ok_pro_right (T : ClR K C) (F : Fun K "right" "Product.right" (pro 4) f fd) : FnOk P w K mg base CX0 1 f fd ["self"] (spFld C "_right") := by
  refine F.ok sc_pro_right (fun vs H Q E h => ?_) (fun cdv A outer s H vs Q E hr h => ?_)
  · obtain ⟨r, dx, fs, v, rfl, _⟩ := h
    rfl
  · obtain ⟨r, dx, fs, v, rfl, hr', hv, z⟩ := h
    exact ⟨_, pss_one (ps_ret (pe_fld (pv 0) rfl)), ⟨_, rfl, r, C, dx, _, _, rfl, hr', T.cl, T.no _ (by simp), hv, z⟩⟩
theorem sc_pro_factor : FnScope ["self"] ["self"] (defScope (pro 5)) := ⟨rfl, rfl, rfl, by decide +kernel, rfl, by decide +kernel, by decide +kernel⟩
theorem ok_pro_factor (T : ClR K C) (F : Fun K "factor" "Product.factor" (pro 5) f fd) : FnOk P w K mg base CX0 1 f fd ["self"] (spFld C "_factor") := by
  refine F.ok sc_pro_factor (fun vs H Q E h => ?_) (fun cdv A outer s H vs Q E hr h => ?_)
  · obtain ⟨r, dx, fs, v, rfl, _⟩ := h
    rfl
  · obtain ⟨r, dx, fs, v, rfl, hr', hv, z⟩ := h
    exact ⟨_, pss_one (ps_ret (pe_fld (pv 0) rfl)), ⟨_, rfl, r, C, dx, _, _, rfl, hr', T.cl, T.no _ (by simp), hv, z⟩⟩
theorem sc_lo_fields : FnScope ["self"] ["self"] (defScope (lo 1)) := ⟨rfl, rfl, rfl, by decide +kernel, rfl, by decide +kernel, by decide +kernel⟩
theorem ok_lo_fields (T : ClR K C) (F : Fun K "fields" "Loose.fields" (lo 1) f fd) : FnOk P w K mg base CX0 1 f fd ["self"] (spFld C "_fields") := by
  refine F.ok sc_lo_fields (fun vs H Q E h => ?_) (fun cdv A outer s H vs Q E hr h => ?_)
  · obtain ⟨r, dx, fs, v, rfl, _⟩ := h
    rfl
  · obtain ⟨r, dx, fs, v, rfl, hr', hv, z⟩ := h
    exact ⟨_, pss_one (ps_ret (pe_fld (pv 0) rfl)), ⟨_, rfl, r, C, dx, _, _, rfl, hr', T.cl, T.no _ (by simp), hv, z⟩⟩
theorem sc_lo_ways : FnScope ["self"] ["self"] (defScope (lo 2)) := ⟨rfl, rfl, rfl, by decide +kernel, rfl, by decide +kernel, by decide +kernel⟩
theorem ok_lo_ways (T : ClR K C) (F : Fun K "ways" "Loose.ways" (lo 2) f fd) : FnOk P w K mg base CX0 1 f fd ["self"] (spFld C "_ways") := by
  refine F.ok sc_lo_ways (fun vs H Q E h => ?_) (fun cdv A outer s H vs Q E hr h => ?_)
  · obtain ⟨r, dx, fs, v, rfl, _⟩ := h
    rfl
  · obtain ⟨r, dx, fs, v, rfl, hr', hv, z⟩ := h
    exact ⟨_, pss_one (ps_ret (pe_fld (pv 0) rfl)), ⟨_, rfl, r, C, dx, _, _, rfl, hr', T.cl, T.no _ (by simp), hv, z⟩⟩
/-- weights: a new dict of the same -/
def spWs (C : Addr) : Sp := fun vs H Q _ => ∃ (r dx : Addr) (fs : List (Str × V)) (pd : Addr) (kvs : List (Key × V)), vs = [.ref r] ∧ H r = some (.ins C dx fs) ∧ fs.lookup ("_weights" : Str) = some (V.ref pd) ∧ H pd = some (.dK kvs) ∧ ∀ p, H p = none → Q (.ref p) (upd H p (.dK kvs))
theorem sc_tot_weights : FnScope ["self"] ["self"] (defScope (tot 3)) := ⟨rfl, rfl, rfl, by decide +kernel, rfl, by decide +kernel, by decide +kernel⟩
theorem ok_tot_weights (fr : Frees mg) (T : ClR K C) (F : Fun K "weights" "Total.weights" (tot 3) f fd) : FnOk P w K mg base CX0 1 f fd ["self"] (spWs C) := by
  refine F.ok sc_tot_weights (fun vs H Q E h => ?_) (fun cdv A outer s H vs Q E hr h => ?_)
  · obtain ⟨r, dx, fs, pd, kvs, rfl, _⟩ := h
    rfl
  · obtain ⟨r, dx, fs, pd, kvs, rfl, hr', hv, hd, z⟩ := h
    exact ⟨_, pss_one (ps_ret (pe_callTy call_dictD rfl (fr.h _ (by decide +kernel)) (by decide +kernel) (pa_cons (pe_fld (pv 0) rfl) pa_nil))), ⟨_, rfl, r, C, dx, _, _, rfl, hr', T.cl, T.no _ (by simp), hv, pd, kvs, rfl, .inl hd, z⟩⟩
end
end KD

set_option Elab.async false
set_option linter.all false
set_option maxRecDepth 100000
set_option maxHeartbeats 1000000
/-! rules compared by ==. -/
namespace KD
open PySem PySem.Spec PyProof.Rows L2 Oo Gd Am KA SqX
/-- v is nothing of the class at C -/
def NotC (K : W.Frag) (C : Addr) (H : Hp) (v : V) : Prop := ∃ t, TyX K H v t ∧ W.kitOne K t (.ref C) = some false
section
variable {P : Program} {w : World} {K : W.Frag} {mg : Str → Option Value} {base : Heap} {f A C : Addr} {fd : FuncData} {t t2 t3 : Tok}
def spEqL (K : W.Frag) (C : Addr) : Sp := fun vs H Q _ => ∃ (r : Addr) (v : V) (fs ws : List Str), vs = [.ref r, v] ∧ IsL C H r fs ws ∧ Few fs ∧ Few ws ∧
  ((∃ r2 fs2 ws2, v = .ref r2 ∧ IsL C H r2 fs2 ws2 ∧ Few fs2 ∧ Few ws2 ∧ Q (.bl (decide (fs = fs2) && decide (ws = ws2))) H) ∨ (NotC K C H v ∧ Q (.bl false) H))
theorem scEqL : FnScope ["self", "other"] ["self", "other"] (defScope (lo 5)) := ⟨rfl, rfl, rfl, by decide +kernel, rfl, by decide +kernel, by decide +kernel⟩
theorem ok_eqL (fr : Frees mg) (T : ClR K C) (I : C8.InsC K C) (mC : mg "Loose" = some (.ref C)) (F : Fun K "__eq__" "Loose.__eq__" (lo 5) f fd) : FnOk P w K mg base CX0 1 f fd ["self", "other"] (spEqL K C) := by
  refine F.ok scEqL (fun vs H Q E h => ?_) (fun cdv A' outer s H vs Q E hr h => ?_)
  · obtain ⟨r, v, fs, ws, rfl, _⟩ := h
    rfl
  · obtain ⟨r, v, fs, ws, rfl, ⟨dx, pf, pw, hi, hf, hw⟩, ff, fw, hv⟩ := h
    have isk : IsK K := ⟨trivial⟩
    refine ⟨_, pss_one (ps_ret (pe_and (pe_callB call_isi rfl (fr.h _ (by decide +kernel)) (by decide +kernel) (pa_cons (pv 1) (pa_cons (pe_glob (v := V.ref C) rfl mC rfl) pa_nil)))
      (pe_and (pe_cmpR (eqK isk hr) (pe_fld (pv 0) rfl) (pe_fld (pv 1) rfl) (by rfl)) (pe_one (pe_cmpR (eqK isk hr) (pe_fld (pv 0) rfl) (pe_fld (pv 1) rfl) (by rfl)))))), ?_⟩
    rcases hv with ⟨r2, fs2, ws2, rfl, ⟨dy, qf, qw, hi2, hf2, hw2⟩, ff2, fw2, z⟩ | ⟨⟨t, ty, kt⟩, z⟩
    · refine ⟨_, rfl, _, _, _, _, true, rfl, ClsV.own C, TyX.base (TyOf.ins hi2 I.cl I.ha I.hn I.htk I.hm), I.me, true, rfl, ?_⟩
      refine ⟨_, rfl, r, C, dx, _, _, rfl, hi, T.cl, T.no _ (by simp), rfl, _, rfl, r2, C, dy, _, _, rfl, hi2, T.cl, T.no _ (by simp), rfl, .inr (eq_tup hf hf2 ff.1 ff2.1 ⟨_, rfl, ?_⟩)⟩
      by_cases e : fs = fs2
      · rw [decide_eq_true e]
        rw [decide_eq_true e, Bool.true_and] at z
        exact ⟨_, rfl, r, C, dx, _, _, rfl, hi, T.cl, T.no _ (by simp), rfl, _, rfl, r2, C, dy, _, _, rfl, hi2, T.cl, T.no _ (by simp), rfl, .inr (eq_tup hw hw2 fw.1 fw2.1 z)⟩
      · rw [decide_eq_false e]
        rw [decide_eq_false e, Bool.false_and] at z
        exact z
    · exact ⟨_, rfl, _, _, _, _, false, rfl, ClsV.own C, ty, kt, false, rfl, z⟩
def spEqP (K : W.Frag) (A C : Addr) : Sp := fun vs H Q _ => ∃ (r : Addr) (v : V) (q : Rat) (ls rs fs ws : List Str), vs = [.ref r, v] ∧ IsP A C H r q ls rs fs ws ∧ Few ls ∧ Few rs ∧ Few ws ∧
  ((∃ r2 q2 ls2 rs2 fs2 ws2, v = .ref r2 ∧ IsP A C H r2 q2 ls2 rs2 fs2 ws2 ∧ Few ls2 ∧ Few rs2 ∧ Few ws2 ∧ Q (.bl (decide (ls = ls2) && (decide (rs = rs2) && (decide (q = q2) && decide (ws = ws2))))) H) ∨ (NotC K C H v ∧ Q (.bl false) H))
theorem scEqP : FnScope ["self", "other"] ["self", "other"] (defScope (pro 9)) := ⟨rfl, rfl, rfl, by decide +kernel, rfl, by decide +kernel, by decide +kernel⟩
theorem ok_eqP (fr : Frees mg) (T : ClR K C) (I : C8.InsC K C) (EF : EqF P w K mg base A) (mC : mg "Product" = some (.ref C)) (F : Fun K "__eq__" "Product.__eq__" (pro 9) f fd) : FnOk P w K mg base CX0 3 f fd ["self", "other"] (spEqP K A C) := by
  refine F.ok scEqP (fun vs H Q E h => ?_) (fun cdv A' outer s H vs Q E hr h => ?_)
  · obtain ⟨r, v, q, ls, rs, fs, ws, rfl, _⟩ := h
    rfl
  · obtain ⟨r, v, q, ls, rs, fs, ws, rfl, ⟨dx, pt, pl, pr, pf, pw, hi, ht, hl, hrr, hf, hw⟩, fl, frs, fw, hv⟩ := h
    have isk : IsK K := ⟨trivial⟩
    refine ⟨_, pss_one (ps_ret (pe_and (pe_callB call_isi rfl (fr.h _ (by decide +kernel)) (by decide +kernel) (pa_cons (pv 1) (pa_cons (pe_glob (v := V.ref C) rfl mC rfl) pa_nil)))
      (pe_and (pe_cmpR (eqK isk hr) (pe_fld (pv 0) rfl) (pe_fld (pv 1) rfl) (by rfl)) (pe_and (pe_cmpR (eqK isk hr) (pe_fld (pv 0) rfl) (pe_fld (pv 1) rfl) (by rfl)) (pe_and (pe_cmpR (op_eqO (k := 0) EF (hr.mono (by decide))) (pe_fld (pv 0) rfl) (pe_fld (pv 1) rfl) (by rfl)) (pe_one (pe_cmpR (eqK isk hr) (pe_fld (pv 0) rfl) (pe_fld (pv 1) rfl) (by rfl)))))))), ?_⟩
    rcases hv with ⟨r2, q2, ls2, rs2, fs2, ws2, rfl, ⟨dy, qt, ql, qr, qf, qw, hi2, ht2, hl2, hr2, hf2, hw2⟩, fl2, frs2, fw2, z⟩ | ⟨⟨t, ty, kt⟩, z⟩
    · refine ⟨_, rfl, _, _, _, _, true, rfl, ClsV.own C, TyX.base (TyOf.ins hi2 I.cl I.ha I.hn I.htk I.hm), I.me, true, rfl, ?_⟩
      refine ⟨_, rfl, r, C, dx, _, _, rfl, hi, T.cl, T.no _ (by simp), rfl, _, rfl, r2, C, dy, _, _, rfl, hi2, T.cl, T.no _ (by simp), rfl, .inr (eq_tup hl hl2 fl.1 fl2.1 ⟨_, rfl, ?_⟩)⟩
      by_cases e : ls = ls2
      · rw [decide_eq_true e]
        rw [decide_eq_true e, Bool.true_and] at z
        refine ⟨_, rfl, r, C, dx, _, _, rfl, hi, T.cl, T.no _ (by simp), rfl, _, rfl, r2, C, dy, _, _, rfl, hi2, T.cl, T.no _ (by simp), rfl, .inr (eq_tup hrr hr2 frs.1 frs2.1 ⟨_, rfl, ?_⟩)⟩
        by_cases e2 : rs = rs2
        · rw [decide_eq_true e2]
          rw [decide_eq_true e2, Bool.true_and] at z
          refine ⟨_, rfl, r, C, dx, _, _, rfl, hi, T.cl, T.no _ (by simp), rfl, _, rfl, r2, C, dy, _, _, rfl, hi2, T.cl, T.no _ (by simp), rfl, pt, qt, q, q2, rfl, rfl, ht, ht2, _, rfl, ?_⟩
          by_cases e3 : q = q2
          · rw [decide_eq_true e3]
            rw [decide_eq_true e3, Bool.true_and] at z
            exact ⟨_, rfl, r, C, dx, _, _, rfl, hi, T.cl, T.no _ (by simp), rfl, _, rfl, r2, C, dy, _, _, rfl, hi2, T.cl, T.no _ (by simp), rfl, .inr (eq_tup hw hw2 fw.1 fw2.1 z)⟩
          · rw [decide_eq_false e3]
            rw [decide_eq_false e3, Bool.false_and] at z
            exact z
        · rw [decide_eq_false e2]
          rw [decide_eq_false e2, Bool.false_and] at z
          exact z
      · rw [decide_eq_false e]
        rw [decide_eq_false e, Bool.false_and] at z
        exact z
    · exact ⟨_, rfl, _, _, _, _, false, rfl, ClsV.own C, ty, kt, false, rfl, z⟩
def spEqT (K : W.Frag) (A C : Addr) : Sp := fun vs H Q _ => ∃ (r : Addr) (v : V) (q : Rat) (ls : List (Str × Int)) (fs ws : List Str), vs = [.ref r, v] ∧ IsT A C H r q ls fs ws ∧ Few ws ∧
  ((∃ r2 q2 ls2 fs2 ws2, v = .ref r2 ∧ IsT A C H r2 q2 ls2 fs2 ws2 ∧ Few ws2 ∧ Q (.bl (eqW ls ls2 && (decide (q = q2) && decide (ws = ws2)))) H) ∨ (NotC K C H v ∧ Q (.bl false) H))
theorem scEqT : FnScope ["self", "other"] ["self", "other"] (defScope (tot 9)) := ⟨rfl, rfl, rfl, by decide +kernel, rfl, by decide +kernel, by decide +kernel⟩
theorem ok_eqT (fr : Frees mg) (T : ClR K C) (I : C8.InsC K C) (EF : EqF P w K mg base A) (mC : mg "Total" = some (.ref C)) (F : Fun K "__eq__" "Total.__eq__" (tot 9) f fd) : FnOk P w K mg base CX0 3 f fd ["self", "other"] (spEqT K A C) := by
  refine F.ok scEqT (fun vs H Q E h => ?_) (fun cdv A' outer s H vs Q E hr h => ?_)
  · obtain ⟨r, v, q, ls, fs, ws, rfl, _⟩ := h
    rfl
  · obtain ⟨r, v, q, ls, fs, ws, rfl, ⟨dx, pt, pf, pd, pw, hi, ht, hf, hd, hw⟩, fw, hv⟩ := h
    have isk : IsK K := ⟨trivial⟩
    have hu := hu_of hr
    refine ⟨_, pss_one (ps_ret (pe_and (pe_callB call_isi rfl (fr.h _ (by decide +kernel)) (by decide +kernel) (pa_cons (pv 1) (pa_cons (pe_glob (v := V.ref C) rfl mC rfl) pa_nil)))
      (pe_and (pe_cmpR (op_eqW hu) (pe_fld (pv 0) rfl) (pe_fld (pv 1) rfl) (by rfl)) (pe_and (pe_cmpR (op_eqO (k := 0) EF (hr.mono (by decide))) (pe_fld (pv 0) rfl) (pe_fld (pv 1) rfl) (by rfl)) (pe_one (pe_cmpR (eqK isk hr) (pe_fld (pv 0) rfl) (pe_fld (pv 1) rfl) (by rfl))))))), ?_⟩
    rcases hv with ⟨r2, q2, ls2, fs2, ws2, rfl, ⟨dy, qt, qf, qd, qw, hi2, ht2, hf2, hd2, hw2⟩, fw2, z⟩ | ⟨⟨t, ty, kt⟩, z⟩
    · refine ⟨_, rfl, _, _, _, _, true, rfl, ClsV.own C, TyX.base (TyOf.ins hi2 I.cl I.ha I.hn I.htk I.hm), I.me, true, rfl, ?_⟩
      refine ⟨_, rfl, r, C, dx, _, _, rfl, hi, T.cl, T.no _ (by simp), rfl, _, rfl, r2, C, dy, _, _, rfl, hi2, T.cl, T.no _ (by simp), rfl, pd, qd, ls, ls2, rfl, rfl, hd, hd2, _, rfl, ?_⟩
      cases e : eqW ls ls2 with
      | true =>
        rw [e, Bool.true_and] at z
        refine ⟨_, rfl, r, C, dx, _, _, rfl, hi, T.cl, T.no _ (by simp), rfl, _, rfl, r2, C, dy, _, _, rfl, hi2, T.cl, T.no _ (by simp), rfl, pt, qt, q, q2, rfl, rfl, ht, ht2, _, rfl, ?_⟩
        by_cases e3 : q = q2
        · rw [decide_eq_true e3]
          rw [decide_eq_true e3, Bool.true_and] at z
          exact ⟨_, rfl, r, C, dx, _, _, rfl, hi, T.cl, T.no _ (by simp), rfl, _, rfl, r2, C, dy, _, _, rfl, hi2, T.cl, T.no _ (by simp), rfl, .inr (eq_tup hw hw2 fw.1 fw2.1 z)⟩
        · rw [decide_eq_false e3]
          rw [decide_eq_false e3, Bool.false_and] at z
          exact z
      | false =>
        rw [e, Bool.false_and] at z
        exact z
    · exact ⟨_, rfl, _, _, _, _, false, rfl, ClsV.own C, ty, kt, false, rfl, z⟩
end
end KD

set_option Elab.async false
set_option linter.all false
set_option maxRecDepth 100000
set_option maxHeartbeats 1000000
/-! repr of rules. -/
namespace KD
open PySem PySem.Spec PyProof.Rows L2 Oo Gd Am KA SqX
theorem sok_join {sep : Str} (hs : PyData.strOk sep = true) : ∀ xs : List Str, (∀ x ∈ xs, PyData.strOk x = true) → PyData.strOk (Str.join sep xs) = true
  | [], _ => sok_emp
  | [x], h => h x List.mem_cons_self
  | x :: y :: r, h => sok_app (sok_app (h x List.mem_cons_self) hs) (sok_join hs (y :: r) fun z hz => h z (List.mem_cons_of_mem _ hz))
theorem sok_tjoin {sep : Str} (hs : PyData.strOk sep = true) (xs : List Str) (h : ∀ x ∈ xs, PyData.strOk x = true) : PyData.strOk (Txt.join sep xs) = true := by
  show PyData.strOk (Builtin.Str.glued sep xs) = true
  rw [PySem.StrLaws.glued_eq_join]
  exact sok_join hs xs h
theorem sok_list {x : Str} : PyData.strOk x = true ↔ ∀ c ∈ x.cps.toList, c < 0x110000 := by
  unfold PyData.strOk
  rw [← Array.all_toList, List.all_eq_true]
  constructor
  · intro h c hc
    simpa using h c hc
  · intro h c hc
    simpa using h c hc
theorem sok_cut {x : Str} (h : PyData.strOk x = true) (lo hi : Option Int) : PyData.strOk (cutS x lo hi) = true := by
  rw [sok_list] at h ⊢
  intro c hc
  have h1 : c ∈ ((x.cps.toList.drop (HT.sIx x.length 0 lo)).take (HT.sIx x.length x.length hi - HT.sIx x.length 0 lo)).toArray.toList := hc
  rw [List.toList_toArray] at h1
  exact h c (List.mem_of_mem_drop (List.mem_of_mem_take h1))
theorem rep_len {x : Str} (h : PyData.strOk x = true) : (reprText x).length ≤ 10 * x.length + 2 :=
  PySem.StrLaws.reprText_len x fun c hc => Nat.lt_trans (sok_list.mp h c hc) (by decide)
theorem sok_few {xs : List Str} (h : Few xs) : ∀ x ∈ xs, PyData.strOk x = true := fun x hx => name_ok (h.1 x hx)
theorem sok_way {fs ws : List Str} (h : Few ws) : PyData.strOk (wayT fs ws) = true := by
  unfold wayT
  split
  · exact sok_of _
  · exact sok_app (sok_app sok_emp (sok_of _)) (sok_tjoin (sok_of _) _ (sok_few h))
theorem sok_loose {fs ws : List Str} (h : Few fs) (h2 : Few ws) : PyData.strOk (looseT fs ws) = true :=
  sok_app (sok_app (sok_app sok_emp (sok_of _)) (sok_tjoin (sok_of _) _ (sok_few h))) (sok_way h2)
theorem sok_left {ls : List Str} (h : Few ls) : PyData.strOk (leftT ls) = true := by
  unfold leftT
  split
  · exact sok_of _
  · exact sok_tjoin (sok_of _) _ (sok_few h)
theorem sok_right {rs : List Str} (h : Few rs) : PyData.strOk (rightT rs) = true := by
  unfold rightT
  refine sok_tjoin (sok_of _) _ fun y hy => ?_
  obtain ⟨x, hx, rfl⟩ := List.mem_map.mp hy
  exact sok_app (sok_app sok_emp (sok_of _)) (name_ok (h.1 x hx))
theorem sok_prod {q : Rat} {ls rs fs ws : List Str} (h1 : Few ls) (h2 : Few rs) (h3 : Few ws) : PyData.strOk (prodT q ls rs fs ws) = true :=
  sok_app (sok_app (sok_app (sok_app (sok_app (sok_app sok_emp (sok_of _)) (sok_left h1)) (sok_of _)) (sok_written q)) (sok_right h2)) (sok_way h3)
theorem sok_term {x : Str} {n : Int} (h : nameB x = true) : PyData.strOk (termT x n) = true := by
  have s : PyData.strOk (sgnT n) = true := by
    unfold sgnT
    split <;> exact sok_of _
  unfold termT
  by_cases e : (if n < 0 then -n else n) = 1
  · rw [if_pos e]
    exact sok_app (sok_app (sok_app sok_emp s) (sok_of _)) (name_ok h)
  · rw [if_neg e]
    exact sok_app (sok_app (sok_app (sok_app (sok_app sok_emp s) (sok_of _)) (sok_of _)) (sok_of _)) (name_ok h)
theorem sok_head {s : Str} (h : PyData.strOk s = true) : PyData.strOk (headT s) = true := by
  unfold headT
  split
  · exact sok_app (sok_app sok_emp (sok_of _)) (sok_cut h _ _)
  · exact sok_cut h _ _
theorem sok_sum {q : Rat} {ls : List (Str × Int)} {fs ws : List Str} (h1 : Few fs) (h3 : Few ws) : PyData.strOk (sumT q ls fs ws) = true := by
  refine sok_app (sok_app (sok_app (sok_app (sok_app sok_emp (sok_of _)) (sok_head ?_)) (sok_of _)) (sok_written q)) (sok_way h3)
  refine sok_tjoin (sok_of _) _ fun y hy => ?_
  obtain ⟨x, hx, rfl⟩ := List.mem_map.mp hy
  exact sok_term (h1.1 x hx)
theorem looseT_len {fs ws : List Str} (h : Few fs) (h2 : Few ws) : (looseT fs ws).length ≤ 5000 := by
  have l2 := h.join
  have l3 := h.2
  have l4 := wayT_len (fs := fs) h2
  have k6 : (Str.ofString "loose ").length = 6 := by decide
  unfold looseT
  simp only [strLen_append, k0, k6]
  omega
/-- what repr gives of a rule with the text x -/
def ruleT (x : Str) : Str := Str.empty ++ "Rule(" ++ reprText x ++ ")"
theorem ruleT_len {x : Str} (h : PyData.strOk x = true) (l : x.length ≤ 30000) : (ruleT x).length ≤ 300020 := by
  have a := rep_len h
  have k5 : (Str.ofString "Rule(").length = 5 := by decide
  have k1 : (Str.ofString ")").length = 1 := by decide
  unfold ruleT
  simp only [strLen_append, k0, k5, k1]
  omega
/-- a method of no argument, with its promise -/
structure Mt0 (P : Program) (w : World) (K : W.Frag) (mg : Str → Option Value) (base : Heap) (C : Addr) (nm : Str) (k : Nat) (sp : Sp) : Prop where
  of : ∃ f fd, Meth K C nm f ∧ FnOk P w K mg base CX0 k f fd ["self"] sp ∧ Binds K fd ["self"] []
section
variable {P : Program} {w : World} {K : W.Frag} {mg : Str → Option Value} {base : Heap} {f A C : Addr} {fd : FuncData} {t t2 t3 : Tok}
def spRpL (C : Addr) : Sp := fun vs H Q _ => ∃ (r : Addr) (fs ws : List Str), vs = [.ref r] ∧ IsL C H r fs ws ∧ Few fs ∧ Few ws ∧ ∀ H', Am.Ext H H' → Q (.str (ruleT (looseT fs ws))) H'
theorem scRpL : FnScope ["self"] ["self"] (defScope (lo 6)) := ⟨rfl, rfl, rfl, by decide +kernel, rfl, by decide +kernel, by decide +kernel⟩
theorem ok_rpL (T : ClR K C) (M : Mt0 P w K mg base C "text" 2 (spTxL C)) (F : Fun K "__repr__" "Loose.__repr__" (lo 6) f fd) : FnOk P w K mg base CX0 3 f fd ["self"] (spRpL C) := by
  refine F.ok scRpL (fun vs H Q E h => ?_) (fun cdv A' outer s H vs Q E hr h => ?_)
  · obtain ⟨r, fs, ws, rfl, _⟩ := h
    rfl
  · obtain ⟨r, fs, ws, rfl, ⟨dx, pf, pw, hi, hf, hw⟩, ff, fw, z⟩ := h
    obtain ⟨mf, mfd, MM, MF, MB⟩ := M.of
    have big : (1000000 : Nat) ≤ sizeLine := by decide
    refine ⟨_, pss_one (ps_ret (pe_joined (.cons pe_str (.cons (pe_fmtR (pe_meth0 (pv 0) T.cl MM MF (hr.mono (by decide)) MB .nil pass0)) (.cons pe_str .nil))))), ?_⟩
    have so := sok_loose (fs := fs) ff fw
    have lt := looseT_len ff fw
    have rl := rep_len so
    have k5 : (Str.ofString "Rule(").length = 5 := by decide
    have k6 : (Str.ofString ")").length = 1 := by decide
    refine ⟨_, rfl, ?_, _, rfl, r, dx, _, rfl, hi, rfl, r, fs, ws, rfl, ⟨dx, pf, pw, hi, hf, hw⟩, ff, fw, ?_⟩
    · simp only [strLen_append, k0, k5]; omega
    · refine .inl ⟨_, rfl, by omega, _, rfl, ?_, _, rfl, ?_, z H (Am.Ext.refl H)⟩ <;> (simp only [strLen_append, k0, k5, k6]; omega)
def spRpP (A C : Addr) : Sp := fun vs H Q _ => ∃ (r : Addr) (q : Rat) (ls rs fs ws : List Str), vs = [.ref r] ∧ IsP A C H r q ls rs fs ws ∧ Low 250 q ∧ Few ls ∧ Few rs ∧ Few fs ∧ Few ws ∧ ∀ H', Am.Ext H H' → Q (.str (ruleT (prodT q ls rs fs ws))) H'
theorem scRpP : FnScope ["self"] ["self"] (defScope (pro 10)) := ⟨rfl, rfl, rfl, by decide +kernel, rfl, by decide +kernel, by decide +kernel⟩
theorem ok_rpP (T : ClR K C) (M : Mt0 P w K mg base C "text" 4 (spTxP A C)) (F : Fun K "__repr__" "Product.__repr__" (pro 10) f fd) : FnOk P w K mg base CX0 5 f fd ["self"] (spRpP A C) := by
  refine F.ok scRpP (fun vs H Q E h => ?_) (fun cdv A' outer s H vs Q E hr h => ?_)
  · obtain ⟨r, q, ls, rs, fs, ws, rfl, _⟩ := h
    rfl
  · obtain ⟨r, q, ls, rs, fs, ws, rfl, ⟨dx, pt, pl, pr, pf, pw, hi, ht, hl, hrr, hf, hw⟩, lw, fl, frs, ff, fw, z⟩ := h
    obtain ⟨mf, mfd, MM, MF, MB⟩ := M.of
    have big : (1000000 : Nat) ≤ sizeLine := by decide
    refine ⟨_, pss_one (ps_ret (pe_joined (.cons pe_str (.cons (pe_fmtR (pe_meth0 (pv 0) T.cl MM MF (hr.mono (by decide)) MB .nil pass0)) (.cons pe_str .nil))))), ?_⟩
    have so := sok_prod (q := q) (fs := fs) fl frs fw
    have lt := prodT_len (q := q) (fs := fs) lw fl frs fw
    have rl := rep_len so
    have k5 : (Str.ofString "Rule(").length = 5 := by decide
    have k6 : (Str.ofString ")").length = 1 := by decide
    refine ⟨_, rfl, ?_, _, rfl, r, dx, _, rfl, hi, rfl, r, q, ls, rs, fs, ws, rfl, ⟨dx, pt, pl, pr, pf, pw, hi, ht, hl, hrr, hf, hw⟩, lw, fl, frs, ff, fw, ?_⟩
    · simp only [strLen_append, k0, k5]; omega
    · intro H' e
      refine .inl ⟨_, rfl, by omega, _, rfl, ?_, _, rfl, ?_, z H' e⟩ <;> (simp only [strLen_append, k0, k5, k6]; omega)
def spRpT (A C : Addr) : Sp := fun vs H Q _ => ∃ (r : Addr) (q : Rat) (ls : List (Str × Int)) (fs ws : List Str), vs = [.ref r] ∧ IsT A C H r q ls fs ws ∧ Low 250 q ∧ Wts ls ∧ (∀ x ∈ fs, x ∈ ls.map (·.1)) ∧ Few fs ∧ Few ws ∧ ∀ H', Am.Ext H H' → Q (.str (ruleT (sumT q ls fs ws))) H'
theorem scRpT : FnScope ["self"] ["self"] (defScope (tot 10)) := ⟨rfl, rfl, rfl, by decide +kernel, rfl, by decide +kernel, by decide +kernel⟩
theorem ok_rpT (T : ClR K C) (M : Mt0 P w K mg base C "text" 4 (spTxT A C)) (F : Fun K "__repr__" "Total.__repr__" (tot 10) f fd) : FnOk P w K mg base CX0 5 f fd ["self"] (spRpT A C) := by
  refine F.ok scRpT (fun vs H Q E h => ?_) (fun cdv A' outer s H vs Q E hr h => ?_)
  · obtain ⟨r, q, ls, fs, ws, rfl, _⟩ := h
    rfl
  · obtain ⟨r, q, ls, fs, ws, rfl, ⟨dx, pt, pf, pd, pw, hi, ht, hf, hd, hw⟩, lw, wl, sub, ff, fw, z⟩ := h
    obtain ⟨mf, mfd, MM, MF, MB⟩ := M.of
    have big : (1000000 : Nat) ≤ sizeLine := by decide
    refine ⟨_, pss_one (ps_ret (pe_joined (.cons pe_str (.cons (pe_fmtR (pe_meth0 (pv 0) T.cl MM MF (hr.mono (by decide)) MB .nil pass0)) (.cons pe_str .nil))))), ?_⟩
    have so := sok_sum (q := q) (ls := ls) ff fw
    have lt := sumT_len (q := q) lw ff wl sub fw
    have rl := rep_len so
    have k5 : (Str.ofString "Rule(").length = 5 := by decide
    have k6 : (Str.ofString ")").length = 1 := by decide
    refine ⟨_, rfl, ?_, _, rfl, r, dx, _, rfl, hi, rfl, r, q, ls, fs, ws, rfl, ⟨dx, pt, pf, pd, pw, hi, ht, hf, hd, hw⟩, lw, wl, sub, ff, fw, ?_⟩
    · simp only [strLen_append, k0, k5]; omega
    · intro H' e
      refine .inl ⟨_, rfl, by omega, _, rfl, ?_, _, rfl, ?_, z H' e⟩ <;> (simp only [strLen_append, k0, k5, k6]; omega)
end
end KD

set_option Elab.async false
set_option linter.all false
set_option maxRecDepth 100000
set_option maxHeartbeats 1000000
/-! names drawn: texts by their signs. -/
namespace KD
open PySem PySem.Spec PyProof.Rows L2 Oo Gd Am KA SqX
/-- a text of these signs -/
def mk (l : List Nat) : Str := ⟨l.toArray⟩
theorem mk_sg (l : List Nat) : sg (mk l) = l := by simp [mk]
theorem mk_len (l : List Nat) : (mk l).length = l.length := List.size_toArray ..
theorem of_sg (x : Str) : mk (sg x) = x := by
  cases x with
  | mk a => exact congrArg Str.mk (Array.toArray_toList ..)
theorem mk_app (a b : List Nat) : mk a ++ mk b = mk (a ++ b) := by
  show Str.mk (a.toArray ++ b.toArray) = Str.mk _
  rw [List.append_toArray]
theorem mk_one (c : Nat) : (⟨#[c]⟩ : Str) = mk [c] := rfl
theorem join_mk : ∀ cs : List Nat, Txt.join "" (cs.map fun c => (⟨#[c]⟩ : Str)) = mk cs := by
  have e : ∀ xs, Txt.join "" xs = Str.join "" xs := fun xs => PySem.StrLaws.glued_eq_join _ xs
  intro cs
  rw [e]
  induction cs with
  | nil => rfl
  | cons c r ih =>
    cases r with
    | nil => rfl
    | cons d r =>
      show (⟨#[c]⟩ : Str) ++ Str.ofString "" ++ Str.join "" ((d :: r).map fun c => (⟨#[c]⟩ : Str)) = _
      rw [ih]
      show (⟨#[c]⟩ : Str) ++ mk [] ++ mk (d :: r) = _
      rw [mk_one, mk_app, mk_app]
      rfl
theorem cut6 (l : List Nat) : cutS (mk l) none (some 6) = mk (l.take 6) := by
  show Str.mk ((((mk l).cps.toList.drop (HT.sIx (mk l).length 0 none)).take (HT.sIx (mk l).length (mk l).length (some 6) - HT.sIx (mk l).length 0 none)).toArray) = _
  rw [HT.sIx_none, show (some (6 : Int)) = some ((6 : Nat) : Int) from rfl, HT.sIx_nat, show (mk l).cps.toList = l from mk_sg l, mk_len, List.drop_zero, Nat.sub_zero]
  show mk _ = mk _
  congr 1
  by_cases h : 6 ≤ l.length
  · rw [Nat.min_eq_left h]
  · rw [Nat.min_eq_right (by omega), List.take_of_length_le (Nat.le_refl _), List.take_of_length_le (by omega)]
theorem name_mk {l : List Nat} : nameB (mk l) = true ↔ ∃ c r, l = c :: r ∧ r.length ≤ 7 ∧ low c = true ∧ ∀ d ∈ r, nsg d = true := by
  unfold nameB
  rw [mk_len, mk_sg]
  simp only [Bool.and_eq_true, decide_eq_true_eq, List.all_eq_true]
  constructor
  · rintro ⟨h1, h2, h3, h4⟩
    cases l with
    | nil => simp at h1
    | cons c r => exact ⟨c, r, rfl, by simp at h2; omega, h3, fun d hd => h4 d (List.mem_cons_of_mem _ hd)⟩
  · rintro ⟨c, r, rfl, h2, h3, h4⟩
    refine ⟨by simp, by simp; omega, h3, fun d hd => ?_⟩
    rcases List.mem_cons.mp hd with rfl | hd
    · unfold low at h3
      unfold nsg
      simp only [decide_eq_true_eq] at h3 ⊢
      omega
    · exact h4 d hd
theorem name_sg {x : Str} (h : nameB x = true) : ∃ c r, x = mk (c :: r) ∧ r.length ≤ 7 ∧ low c = true ∧ ∀ d ∈ r, nsg d = true := by
  rw [← of_sg x] at h
  obtain ⟨c, r, e, h1⟩ := name_mk.mp h
  exact ⟨c, r, by rw [← e, of_sg], h1⟩
theorem low_nsg {c : Nat} (h : low c = true) : nsg c = true := by
  unfold low at h
  unfold nsg
  simp only [decide_eq_true_eq] at h ⊢
  omega
/-- the 36 signs -/
def alpha : List Nat := List.range' 97 26 ++ List.range' 48 10
theorem alpha_eq : sg "abcdefghijklmnopqrstuvwxyz0123456789" = alpha := by decide +kernel
theorem alpha_nsg : ∀ c ∈ alpha, nsg c = true := by decide +kernel
theorem alpha_low : ∀ i, i < 26 → ∃ c, alpha[i]? = some c ∧ low c = true := by decide +kernel
theorem alpha_len : alpha.length = 36 := by decide +kernel
theorem alpha_at : ∀ i, i < 36 → ∃ c, alpha[i]? = some c := fun i h => ⟨alpha[i]'(by rw [alpha_len]; exact h), List.getElem?_eq_getElem _⟩
theorem alpha_nd : alpha.Nodup := by decide +kernel
/-- a name's near ones -/
def nearS (x : Str) (c : Nat) : Str := cutS x none (some 6) ++ (⟨#[c]⟩ : Str) ++ "z"
theorem near_mk (l : List Nat) (c : Nat) : nearS (mk l) c = mk (l.take 6 ++ [c] ++ [122]) := by
  unfold nearS
  rw [cut6, mk_one, show (Str.ofString "z") = mk [122] from by decide, mk_app, mk_app]
theorem near_name {x : Str} {c : Nat} (h : nameB x = true) (hc : nsg c = true) : nameB (nearS x c) = true := by
  obtain ⟨a, r, rfl, l7, la, lr⟩ := name_sg h
  rw [near_mk, name_mk]
  refine ⟨a, r.take 5 ++ [c] ++ [122], rfl, ?_, la, fun d hd => ?_⟩
  · simp only [List.length_append, List.length_take, List.length_cons, List.length_nil]
    omega
  · rw [List.mem_append, List.mem_append] at hd
    rcases hd with (hd | hd) | hd
    · exact lr d (List.mem_of_mem_take hd)
    · rw [List.mem_singleton] at hd
      rw [hd]; exact hc
    · rw [List.mem_singleton] at hd
      rw [hd]; decide
theorem near_inj {x : Str} {c d : Nat} (e : nearS x c = nearS x d) : c = d := by
  rw [← of_sg x, near_mk, near_mk] at e
  have e2 := congrArg sg e
  rw [mk_sg, mk_sg, List.append_assoc, List.append_assoc] at e2
  have e3 := List.append_cancel_left e2
  injection e3
theorem near_len {x : Str} {c : Nat} (h : nameB x = true) (hc : nsg c = true) : (nearS x c).length ≤ 8 := (name_len (near_name h hc)).2
theorem sub_len : ∀ (l m : List Str), l.Nodup → (∀ x ∈ l, x ∈ m) → l.length ≤ m.length
  | [], _, _, _ => Nat.zero_le _
  | x :: r, m, nd, sub => by
    have hx := sub x List.mem_cons_self
    have nr := List.nodup_cons.mp nd
    have := sub_len r (m.erase x) nr.2 fun y hy => (List.mem_erase_of_ne (fun e => nr.1 (by rw [← e]; exact hy))).mpr (sub y (List.mem_cons_of_mem _ hy))
    rw [List.length_erase_of_mem hx] at this
    have pos : 0 < m.length := List.length_pos_of_mem hx
    rw [List.length_cons]
    omega
/-- all that may be taken for it -/
def spares (x : Str) : List Str := [x] ++ alpha.map (nearS x)
theorem spare_names {x : Str} (h : nameB x = true) : ∀ y ∈ spares x, nameB y = true := by
  intro y hy
  rcases List.mem_append.mp hy with hy | hy
  · rw [List.mem_singleton] at hy
    rw [hy]; exact h
  · obtain ⟨c, hc, rfl⟩ := List.mem_map.mp hy
    exact near_name h (alpha_nsg c hc)
theorem spare_left {x : Str} {found : List Str} (hf : found.length ≤ 35) : ∃ y r, (spares x).filter (fun s => decide (s ∉ found)) = y :: r := by
  cases e : (spares x).filter (fun s => decide (s ∉ found)) with
  | cons y r => exact ⟨y, r, rfl⟩
  | nil =>
    exfalso
    have nd : (alpha.map (nearS x)).Nodup := List.Pairwise.map _ (fun a b h e => h (near_inj e)) alpha_nd
    have sub : ∀ y ∈ alpha.map (nearS x), y ∈ found := fun y hy => by
      by_cases q : y ∈ found
      · exact q
      · exfalso
        have : y ∈ (spares x).filter (fun s => decide (s ∉ found)) := List.mem_filter.mpr ⟨List.mem_append_right _ hy, by simpa using q⟩
        rw [e] at this
        cases this
    have := sub_len _ _ nd sub
    rw [List.length_map, show alpha.length = 36 from by decide +kernel] at this
    omega
end KD

set_option Elab.async false
set_option linter.all false
set_option maxRecDepth 100000
set_option maxHeartbeats 2000000
/-! _law_named. -/
namespace KD
open PySem PySem.Spec PyProof.Rows L2 Oo Gd Am KA SqX
section
variable {P : Program} {w : World} {K : W.Frag} {mg : Str → Option Value} {base : Heap} {f A C : Addr} {fd : FuncData} {t t2 t3 : Tok}
def spNamed (K : W.Frag) : Sp := fun vs H Q _ => ∃ (p : Addr) (n : Int) (tk : Addr), vs = [.ref p, .int n, .ref tk] ∧ Pot H p ∧ 0 ≤ n ∧ n ≤ 30 ∧ H tk = some (.lst []) ∧
  ∀ (D : Addr) (H' : Hp) (xs : List Str), Kp p H H' → H D = none → D ≠ p → H' D = some (.lst (xs.map V.str)) → Nms xs → (xs.length : Int) = n → Q (.ref D) H'
abbrev nNm : List Str := ["_law_pot_here", "_law_size", "_law_taken", "_law_signs", "_law_found", "_law_turn", "_law_label", "_law_spare", "_law_step", "_law_letter", "_law_near"]
theorem scNm : FnScope nNm ["_law_pot_here", "_law_size", "_law_taken"] (defScope (top 45)) := ⟨rfl, rfl, rfl, by decide +kernel, rfl, by decide +kernel, by decide +kernel⟩
abbrev words8 : List Str := ["by", "sum", "loose", "product", "rule", "field", "set", "kept"]
theorem words_ok : ∀ x ∈ words8, nameB x = true := by decide +kernel
theorem ok_named (fr : Frees mg) (D1 : DnD P w K mg base) (DP : DnP P w K mg base) (F : Fun K "_law_named" "_law_named" (top 45) f fd) : FnOk P w K mg base CX0 3 f fd ["_law_pot_here", "_law_size", "_law_taken"] (spNamed K) := by
  refine F.ok scNm (fun vs H Q E h => ?_) (fun cdv A' outer s H vs Q E hr h => ?_)
  · obtain ⟨p, n, tk, rfl, _⟩ := h
    rfl
  · obtain ⟨p, n, tk, rfl, hp, n0, n30, ht, z⟩ := h
    have nd := scNm.nd
    have isk : IsK K := ⟨trivial⟩
    have big : (1000000 : Nat) ≤ sizeLine := by decide
    refine ⟨_, pss_cons (ps_asg (pe_tup (pa_cons pe_str (pa_cons (pe_lst pa_nil) pa_nil))) (pg_tup rfl (pgs_cons (pg_name (i := 3) nd rfl (.inr rfl)) (pgs_cons (pg_name (i := 4) nd rfl (.inr rfl)) pgs_nil))))
      (pss_cons (ps_for PassesOwn.never rfl (pi_range1 rfl (fr.h _ (by decide +kernel)) (pa_cons (pv 1) pa_nil)) (pg_name (i := 5) nd rfl (.inl rfl))
        (pss_cons (ps_set (i := 6) nd rfl (.inr rfl) (pe_dn DP hr (by rfl) (by decide) (pa_cons (pv 0) (pa_cons (pe_lst (pa_cons pe_str (pa_cons pe_str (pa_cons pe_str (pa_cons pe_str (pa_cons pe_str (pa_cons pe_str (pa_cons pe_str (pa_cons pe_str pa_nil))))))))) pa_nil))))
        (C8.pss_cut (ps_if (pt_cmpR op_gt (pe_dn D1 hr (by rfl) (by decide) (pa_cons (pv 0) (pa_cons pe_int pa_nil))) pe_int (nomark _))
            (pss_cons (ps_set (i := 6) nd rfl (.inr rfl) (pe_ix (ixK isk) (pv 3) (pe_dn D1 hr (by rfl) (by decide) (pa_cons (pv 0) (pa_cons pe_int pa_nil))) (fun _ _ => rfl)))
            (pss_one (ps_set (i := 6) nd rfl (.inr rfl) (pe_op op_addA (pv 6) (joinK isk pe_str (pe_lc (own := [("_law_step", 8)]) (g := gName 8) (tt := tYes) rfl nd (pi_range1 rfl (fr.h _ (by decide +kernel)) (pa_cons (pe_dn DP hr (by rfl) (by decide) (pa_cons (pv 0) (pa_cons (pe_lst (pa_cons pe_int (pa_cons pe_int (pa_cons pe_int (pa_cons pe_int (pa_cons pe_int pa_nil)))))) pa_nil))) pa_nil)) (blkOk_by (N := nNm) (sc := defScope (top 45)) (by decide +kernel)) (fun _ _ _ _ _ => pg_name (i := 8) nd rfl (Or.inl rfl)) (fun _ _ _ _ _ => pts_nil)
              (fun _ _ _ _ _ => pe_ix (ixK isk) (pv 3) (pe_dn D1 hr (by rfl) (by decide) (pa_cons (pv 0) (pa_cons pe_int pa_nil))) (fun _ _ => rfl)))))))) pss_nil)
        (pss_cons (ps_set (i := 7) nd rfl (.inl rfl) (pe_op op_addA (pe_lst (pa_cons (pv 6) pa_nil)) (pe_lc (own := [("_law_letter", 9)]) (g := gName 9) (tt := tYes) rfl nd (pi_str (pv 3)) (blkOk_by (N := nNm) (sc := defScope (top 45)) (by decide +kernel)) (fun _ _ _ _ _ => pg_name (i := 9) nd rfl (Or.inl rfl)) (fun _ _ _ _ _ => pts_nil)
            (fun _ _ _ _ _ => pe_op op_addA (pe_op op_addA (pe_slice sl_str (pv 6) po_none (po_some pe_int)) (pv 9)) pe_str))))
        (pss_one (ps_expr (pe_bm PySem.F.plainAttrs_list PySem.F.slot_list_append PySem.F.type_list_append mt_append (pv 4) (pa_cons (pe_ix (ixK isk) (pe_lc (own := [("_law_near", 10)]) (g := gName 10) rfl nd (pi_list (pv 7)) (blkOk_by (N := nNm) (sc := defScope (top 45)) (by decide +kernel)) (fun _ _ _ _ _ => pg_name (i := 10) nd rfl (Or.inl rfl))
            (fun _ _ _ _ _ => pts_one (PW.pt (pw_and (pt_cmpR (niK isk) (pv 10) (pv 4) (by rfl)) (pw_and1 (pt_cmpR (niK isk) (pv 10) (pv 2) (by rfl)))))) (fun _ _ _ _ _ => pv 10)) pe_int (fun _ _ => rfl)) pa_nil))))))))
      (pss_one (ps_ret (pv 4)))), ?_⟩
    let S : Str := "abcdefghijklmnopqrstuvwxyz0123456789"
    have hS : sg S = alpha := alpha_eq
    have lS : S.length = 36 := by decide
    refine ⟨(by show 0 ≤ sizeLine; decide), fun D hD => ⟨(by show 2 ≤ sizeLine; decide), fun T hT => ⟨T, _, rfl, SqT.of upd_same, rfl, _, _, rfl, _, _, rfl, rfl, ?_⟩⟩⟩
    have Dp : D ≠ p := ne_pot hp hD
    have k0 : Kp p H (upd (upd H D (.lst [])) T (.tup [.str S, .ref D])) := (Kp.new hp hD).trans (Kp.new (hp.new hD) hT)
    have hDT : D ≠ T := ne_of_none upd_same hT
    have tkp : tk ≠ p := by
      obtain ⟨a, b, q, _⟩ := hp
      intro e
      rw [e, q] at ht
      cases ht
    refine ⟨_, rfl, n, rfl, by omega, by omega, ?_⟩
    refine for_range (lo := 0) (n := n.toNat) (fun i σ H' => ∃ (xs : List Str) (e5 e6 e7 : Option V), σ = [some (.ref p), some (.int n), some (.ref tk), some (.str S), some (.ref D), e5, e6, e7, none, none, none] ∧ Kp p H H' ∧ H' D = some (.lst (xs.map V.str)) ∧ (∀ x ∈ xs, nameB x = true) ∧ xs.Nodup ∧ xs.length = i) ?_ ?_ ?_
    · exact ⟨[], none, none, none, rfl, k0, by rw [upd_ne hDT]; exact upd_same, (fun _ q => nomatch q), List.nodup_nil, rfl⟩
    · rintro j σ H1 hj ⟨xs, e5, e6, e7, rfl, k1, d1, ok, ndx, lx⟩
      have hj' : j < 30 := by omega
      refine ⟨_, rfl, (by show 8 ≤ sizeLine; decide), fun l hl => ⟨p, l, _, rfl, k1.pot.new hl, ne_pot k1.pot hl, SqL.of upd_same, (fun z => by cases z), (by show 8 ≤ 1000000; decide), fun x H2 hx k2 => ?_⟩⟩
      have hx' : x ∈ words8.map V.str := hx
      obtain ⟨lab, hlab, rfl⟩ := List.mem_map.mp hx'
      have nlab := words_ok lab hlab
      have k12 := (Kp.new (o := .lst (words8.map V.str)) k1.pot hl).trans k2
      clear hx hx' hlab k2
      refine ⟨fun σ H3 => ∃ lab, nameB lab = true ∧ Kp p H1 H3 ∧ σ = [some (.ref p), some (.int n), some (.ref tk), some (.str S), some (.ref D), some (.int (0 + j)), some (.str lab), e7, none, none, none], ?_, ?_⟩
      · refine ⟨_, rfl, p, 8, rfl, k12.pot, by decide, by decide, fun d H3 d0' d1' k3 => ⟨_, _, rfl, rfl, _, rfl, ite2 (fun c => ?_) (fun c => ⟨lab, nlab, k12.trans k3, rfl⟩)⟩⟩
        have k13 := k12.trans k3
        refine ⟨_, rfl, _, rfl, p, 26, rfl, k13.pot, by decide, by decide, fun e H4 e0 e1 k4 => ?_⟩
        obtain ⟨a, ha, la⟩ := alpha_low e.toNat (by omega)
        refine .inr (.inr ⟨S, e, a, rfl, rfl, by omega, atI_int e0 (by rw [← hS] at ha; exact ha), ?_⟩)
        have k14 := k13.trans k4
        refine ⟨_, rfl, ⟨_, rfl⟩, _, rfl, (by show 5 ≤ sizeLine; decide), fun l2 hl2 => ⟨p, l2, _, rfl, k14.pot.new hl2, ne_pot k14.pot hl2, SqL.of upd_same, (fun z => by cases z), (by show 5 ≤ 1000000; decide), fun y H5 hy k5 => ?_⟩⟩
        have num : ∃ m : Int, y = .int m ∧ 0 ≤ m ∧ m ≤ 7 := by
          simp only [List.mem_cons, List.not_mem_nil, or_false] at hy
          rcases hy with rfl | rfl | rfl | rfl | rfl
          all_goals exact ⟨_, rfl, by decide, by decide⟩
        obtain ⟨m, rfl, m0, m7⟩ := num
        have k15 := k14.trans ((Kp.new k14.pot hl2).trans k5)
        clear hy k5
        refine ⟨m, rfl, by omega, by omega, fun D2 hD2 => ?_⟩
        have D2p := ne_pot k15.pot hD2
        refine lc_it walk_range (fun i H' => Kp p H5 H' ∧ ∃ cs : List Nat, H' D2 = some (.lst ((cs.map fun c => (⟨#[c]⟩ : Str)).map V.str)) ∧ cs.length = i ∧ ∀ c ∈ cs, nsg c = true) ⟨Kp.new k15.pot hD2, [], by rw [upd_same]; rfl, rfl, fun _ q => nomatch q⟩ (fun _ _ _ _ => trivial) ?_ ?_
        · rintro i y H6 H7 hi ⟨kk, cs, d2, lc, ncs⟩ ⟨rfl, rfl⟩
          refine ⟨rfl, _, rfl, _, rfl, p, 36, rfl, kk.pot, by decide, by decide, fun g H8 g0 g1 k8 => ?_⟩
          obtain ⟨b, hb⟩ := alpha_at g.toNat (by omega)
          refine .inr (.inr ⟨S, g, b, rfl, rfl, by omega, atI_int g0 (by rw [← hS] at hb; exact hb), _, k8.at D2p d2, ?_, Kp.over (kk.trans k8) D2p hD2, cs ++ [b], ?_, ?_, fun c hc => ?_⟩)
          · rw [List.length_map, List.length_map]
            omega
          · rw [upd_same, List.map_append, List.map_append]
            rfl
          · rw [List.length_append, lc]
            rfl
          · rcases List.mem_append.mp hc with hc | hc
            · exact ncs c hc
            · rw [List.mem_singleton] at hc
              rw [hc]
              exact alpha_nsg b (List.mem_of_getElem? hb)
        · rintro H6 ⟨kk, cs, d2, lc, ncs⟩
          have ke : (Str.ofString "").length = 0 := by decide
          have sm := sum_le 1 (cs.map fun c => (⟨#[c]⟩ : Str)) (fun x hx => by
            obtain ⟨c, _, rfl⟩ := List.mem_map.mp hx
            exact Nat.le_refl 1)
          rw [List.length_map] at sm
          have l1 : (⟨#[a]⟩ : Str).length = 1 := rfl
          refine ⟨_, D2, cs.map fun c => (⟨#[c]⟩ : Str), rfl, rfl, .inl (SqL.of d2), by rw [ke, List.length_map]; omega, ?_⟩
          rw [join_mk]
          refine .inr (.inl ⟨_, _, rfl, rfl, by rw [l1, mk_len]; omega, ?_⟩)
          refine ⟨mk (a :: cs), name_mk.mpr ⟨a, cs, rfl, by omega, la, ncs⟩, k15.trans kk, ?_⟩
          rw [mk_one, mk_app]
          rfl
      · rintro σ H3 ⟨lab, nlab, k3, rfl⟩
        have k03 := k1.trans k3
        have d3 := k3.at Dp d1
        have t3 := k03.at tkp ht
        have l8 := name_len nlab
        have kz : (Str.ofString "z").length = 1 := by decide
        refine ⟨_, rfl, (by show 1 ≤ sizeLine; decide), fun L1 hL1 => ⟨_, rfl, S, rfl, fun L2 hL2 => ?_⟩⟩
        have e1 : Am.Ext H3 (upd H3 L1 (.lst [.str lab])) := Am.Ext.new hL1
        refine lc_it walk_str (fun i H' => Am.Ext (upd H3 L1 (.lst [.str lab])) H' ∧ H' L2 = some (.lst (((alpha.take i).map (nearS lab)).map V.str))) ⟨Am.Ext.new hL2, by rw [upd_same]; rfl⟩ (fun _ _ _ _ => trivial) ?_ ?_
        · rintro i y H4 H5 hi ⟨e, d⟩ ⟨rfl, c, hc, rfl⟩
          have hc' : alpha[i]? = some c := by
            rw [← hS, ← hc]
            exact Array.getElem?_toList
          have c6 := cut_len lab none (some 6)
          have lone : (⟨#[c]⟩ : Str).length = 1 := rfl
          refine ⟨rfl, _, rfl, 6, rfl, lab, rfl, by omega, _, rfl, .inr (.inl ⟨_, _, rfl, rfl, by omega, .inr (.inl ⟨_, _, rfl, rfl, by rw [strLen_append]; omega, _, d, ?_, ext_off e hL2, ?_⟩)⟩)⟩
          · rw [List.length_map, List.length_map, List.length_take, alpha_len]
            omega
          · rw [upd_same, take_suc hc', List.map_append, List.map_append]
            rfl
        · rintro H4 ⟨e, d⟩
          have e14 := e1.trans e
          rw [show S.cps.size = alpha.length from by rw [alpha_len]; decide, List.take_length] at d
          refine .inr (.inr ⟨L1, L2, [.str lab], _, rfl, rfl, e _ _ upd_same, d, by rw [List.length_map, List.length_map, alpha_len]; show 37 ≤ sizeLine; decide, fun Sp hSp => ?_⟩)
          have e15 := e14.then (o := .lst ([.str lab] ++ (alpha.map (nearS lab)).map V.str)) hSp
          have hSp' : upd H4 Sp (.lst ([.str lab] ++ (alpha.map (nearS lab)).map V.str)) Sp = some (.lst ((spares lab).map V.str)) := by
            rw [upd_same]
            rfl
          generalize upd H4 Sp (.lst ([.str lab] ++ (alpha.map (nearS lab)).map V.str)) = H5 at e15 hSp'
          have kE : Kp p H H5 := ⟨fun b o nb hb => e15 b o (k03.1 b o nb hb), by
            obtain ⟨u, v, q, r⟩ := k03.pot
            exact ⟨u, v, e15 _ _ q, r⟩⟩
          refine ⟨_, rfl, .inl ⟨rfl, _, SqL.of (e15 _ _ d3)⟩, _, rfl, Sp, rfl, ⟨_, SqL.of hSp'⟩, fun L3 hL3 => ?_⟩
          refine lc_it (walk_list (xs := (spares lab).map V.str)) (fun i H' => Am.Ext H5 H' ∧ H' L3 = some (.lst ((((spares lab).take i).filter fun s => decide (s ∉ xs)).map V.str))) ⟨Am.Ext.new hL3, by rw [upd_same]; rfl⟩ (fun i H' _ h => SqL.of (h.1 _ _ hSp')) ?_ ?_
          · rintro i y H6 H7 hi ⟨e6, d6⟩ ⟨rfl, hy⟩
            obtain ⟨x, hx, rfl⟩ := map_at hy
            refine ⟨rfl, _, rfl, _, rfl, in_A (.inl (SqL.of (e6 _ _ (e15 _ _ d3)))) ⟨_, rfl, ?_⟩⟩
            rw [if_pos rfl]
            by_cases q : x ∈ xs
            · rw [decide_eq_true q]
              refine ⟨e6, ?_⟩
              rw [take_suc hx, List.filter_append, List.filter_cons_of_neg (by simpa using q)]
              simpa using d6
            · rw [decide_eq_false q]
              refine ⟨_, rfl, _, rfl, in_A (xs := []) (.inl (SqL.of (e6 _ _ (e15 _ _ t3)))) ⟨_, rfl, ?_⟩⟩
              refine ⟨_, rfl, _, d6, ?_, ext_off e6 hL3, ?_⟩
              · rw [List.length_map]
                have := List.length_filter_le (fun s => decide (s ∉ xs)) ((spares lab).take i)
                rw [List.length_take] at this
                have : (spares lab).length = 37 := by
                  unfold spares
                  rw [List.length_append, List.length_map, alpha_len]
                  rfl
                omega
              · rw [upd_same, take_suc hx, List.filter_append, List.filter_cons_of_pos (by simpa using q), List.map_append]
                rfl
          · rintro H6 ⟨e6, d6⟩
            rw [List.length_map, List.take_length] at d6
            obtain ⟨y, r, hr⟩ := spare_left (x := lab) (found := xs) (by omega)
            rw [hr] at d6
            have ym : y ∈ (spares lab).filter fun s => decide (s ∉ xs) := by rw [hr]; exact List.mem_cons_self
            have ym2 := List.mem_filter.mp ym
            have yn : y ∉ xs := by simpa using ym2.2
            refine .inl ⟨L3, _, 0, .str y, rfl, rfl, SqL.of d6, atI_nat (j := 0) rfl, D, _, _, rfl, rfl, e6 _ _ (e15 _ _ d3), by rw [List.length_map]; omega, ?_⟩
            have kF : Kp p H H6 := ⟨fun b o nb hb => e6 b o (kE.1 b o nb hb), by
              obtain ⟨u, v, q, r⟩ := kE.pot
              exact ⟨u, v, e6 _ _ q, r⟩⟩
            refine ⟨xs ++ [y], _, _, _, rfl, kF.over Dp hD, ?_, ?_, ?_, ?_⟩
            · rw [upd_same, List.map_append]
              rfl
            · intro x hx
              rcases List.mem_append.mp hx with hx | hx
              · exact ok x hx
              · rw [List.mem_singleton] at hx
                rw [hx]
                exact spare_names nlab y ym2.1
            · rw [List.nodup_append]
              refine ⟨ndx, List.nodup_cons.mpr ⟨(fun q => nomatch q), List.nodup_nil⟩, fun a ha b hb e => ?_⟩
              rw [List.mem_singleton] at hb
              exact yn (by rw [← hb, ← e]; exact ha)
            · rw [List.length_append, lx]
              rfl
    · rintro σ H' ⟨xs, e5, e6, e7, rfl, k1, d1, ok, ndx, lx⟩
      exact ⟨_, rfl, z D H' xs k1 hD Dp d1 ⟨ok, ndx, by omega⟩ (by omega)⟩
end
end KD

set_option Elab.async false
set_option linter.all false
set_option maxRecDepth 100000
set_option maxHeartbeats 2000000
/-! _law_some, _law_weight, _law_fraction. -/
namespace KD
open PySem PySem.Spec PyProof.Rows L2 Oo Gd Am KA SqX
theorem er_map (rs : List Str) (k : Nat) : (rs.map V.str).eraseIdx k = (rs.eraseIdx k).map V.str := by
  rw [List.eraseIdx_eq_take_drop_succ, List.eraseIdx_eq_take_drop_succ, List.map_append, List.map_take, List.map_drop]
theorem er_perm {rs : List Str} {k : Nat} {y : Str} (h : rs[k]? = some y) : (y :: rs.eraseIdx k).Perm rs := by
  obtain ⟨hk, e⟩ := List.getElem?_eq_some_iff.mp h
  have : rs = rs.take k ++ y :: rs.drop (k + 1) := by
    rw [← e, List.getElem_cons_drop, List.take_append_drop]
  conv => rhs; rw [this]
  rw [List.eraseIdx_eq_take_drop_succ]
  exact List.perm_middle.symm
section
variable {P : Program} {w : World} {K : W.Frag} {mg : Str → Option Value} {base : Heap} {f A C : Addr} {fd : FuncData} {t t2 t3 : Tok}
/-- a new list of texts -/
def NewL (p : Addr) (H : Hp) (Q : VK) (R : List Str → Prop) : Prop := ∀ (D : Addr) (H' : Hp) (ys : List Str), Kp p H H' → H D = none → D ≠ p → H' D = some (.lst (ys.map V.str)) → R ys → Q (.ref D) H'
/-- some of these -/
def SomeOf (xs : List Str) (m : Nat) (ys : List Str) : Prop := ys.Nodup ∧ (∀ y ∈ ys, y ∈ xs) ∧ ys ≠ [] ∧ ys.length ≤ m
def spSome (K : W.Frag) : Sp := fun vs H Q _ => ∃ (p a : Addr) (m : Nat) (xs : List Str), vs = [.ref p, .ref a, .int m] ∧ Pot H p ∧ H a = some (.lst (xs.map V.str)) ∧ xs.Nodup ∧ xs ≠ [] ∧ xs.length < 64 ∧ 0 < m ∧ m ≤ 10 ∧ NewL p H Q (SomeOf xs m)
abbrev nSo : List Str := ["_law_pot_here", "_law_things", "_law_most", "_law_rest", "_law_found", "_law_turn"]
theorem scSo : FnScope nSo ["_law_pot_here", "_law_things", "_law_most"] (defScope (top 46)) := ⟨rfl, rfl, rfl, by decide +kernel, rfl, by decide +kernel, by decide +kernel⟩
theorem ok_some (fr : Frees mg) (D1 : DnD P w K mg base) (F : Fun K "_law_some" "_law_some" (top 46) f fd) : FnOk P w K mg base CX0 2 f fd ["_law_pot_here", "_law_things", "_law_most"] (spSome K) := by
  refine F.ok scSo (fun vs H Q E h => ?_) (fun cdv A' outer s H vs Q E hr h => ?_)
  · obtain ⟨p, a, m, xs, rfl, _⟩ := h
    rfl
  · obtain ⟨p, a, m, xs, rfl, hp, ha, nd0, ne, few, m0, m10, z⟩ := h
    have nd := scSo.nd
    have isk : IsK K := ⟨trivial⟩
    have big : (1000000 : Nat) ≤ sizeLine := by decide
    refine ⟨_, pss_cons (ps_par (i := 3) (j := 4) rfl nd rfl rfl (by decide) rfl rfl (pa_cons (pe_callTy call_list_of rfl (fr.h _ (by decide +kernel)) (by decide +kernel) (pa_cons (pv 1) pa_nil)) (pa_cons (pe_lst pa_nil) pa_nil)) (by rfl))
      (pss_cons (ps_for PassesOwn.never rfl (pi_range1 rfl (fr.h _ (by decide +kernel)) (pa_cons (pe_op op_add pe_int (pe_dn D1 hr (by rfl) (by decide) (pa_cons (pv 0) (pa_cons (pe_callB (call_min2 rfl) rfl (fr.h _ (by decide +kernel)) (by decide +kernel) (pa_cons (pv 2) (pa_cons (pe_callB (lenK isk) rfl (fr.h _ (by decide +kernel)) (by decide +kernel) (pa_cons (pv 1) pa_nil)) pa_nil))) pa_nil)))) pa_nil)) (pg_name (i := 5) nd rfl (.inl rfl))
        (pss_one (ps_expr (pe_bm PySem.F.plainAttrs_list PySem.F.slot_list_append PySem.F.type_list_append mt_append (pv 4) (pa_cons (pe_bm PySem.F.plainAttrs_list PySem.F.slot_list_pop PySem.F.type_list_pop mt_popAt (pv 3) (pa_cons (pe_dn D1 hr (by rfl) (by decide) (pa_cons (pv 0) (pa_cons (pe_callB (lenK isk) rfl (fr.h _ (by decide +kernel)) (by decide +kernel) (pa_cons (pv 3) pa_nil)) pa_nil))) pa_nil)) pa_nil)))))
      (pss_one (ps_ret (pv 4)))), ?_⟩
    refine ⟨_, rfl, a, _, rfl, .inl (SqL.of ha), fun R hR => ⟨(by show 0 ≤ sizeLine; decide), fun D hD => ⟨_, _, rfl, ?_⟩⟩⟩
    have Rp := ne_pot hp hR
    have kR : Kp p H (upd H R (.lst (xs.map V.str))) := Kp.new hp hR
    have Dp := ne_pot kR.pot hD
    have k0 := kR.trans (Kp.new (o := .lst []) kR.pot hD)
    have nRD : R ≠ D := ne_of_none upd_same hD
    have hD0 : H D = none := kR.gone Dp hD
    have hRv : upd (upd H R (.lst (xs.map V.str))) D (.lst []) R = some (.lst (xs.map V.str)) := by rw [upd_ne nRD, upd_same]
    have hDv : upd (upd H R (.lst (xs.map V.str))) D (.lst []) D = some (.lst []) := upd_same
    generalize upd (upd H R (.lst (xs.map V.str))) D (.lst []) = H0 at k0 hRv hDv ⊢
    have ap : a ≠ p := by
      obtain ⟨u, v, q, _⟩ := hp
      intro e
      rw [e, q] at ha
      have := Option.some.inj ha
      injection this with e2
      cases xs with
      | nil => exact ne rfl
      | cons x r => rw [List.map_cons] at e2; injection e2 with e3; cases e3
    have pos : 0 < xs.length := List.length_pos_iff.mpr ne
    refine ⟨_, rfl, _, rfl, _, rfl, .inl ⟨a, _, rfl, .inl (SqL.of (k0.at ap ha)), _, _, rfl, p, _, rfl, k0.pot, ?_, ?_, fun d H1 d0 d1 k1 => ?_⟩⟩
    · rw [List.length_map]
      split <;> omega
    · rw [List.length_map]
      split <;> omega
    rw [List.length_map] at d1
    have dm : d < m ∧ d < xs.length := by
      split at d1 <;> omega
    refine ⟨_, _, rfl, rfl, _, rfl, by omega, by omega, ?_⟩
    refine for_range (lo := 0) (n := (1 + d).toNat) (fun i σ H' => ∃ (rs ys : List Str) (e5 : Option V), σ = [some (.ref p), some (.ref a), some (.int m), some (.ref R), some (.ref D), e5] ∧ Kp p H H' ∧ H' R = some (.lst (rs.map V.str)) ∧ H' D = some (.lst (ys.map V.str)) ∧ (ys ++ rs).Perm xs ∧ ys.length = i) ?_ ?_ ?_
    · exact ⟨xs, [], none, rfl, k0.trans k1, k1.at Rp hRv, k1.at Dp hDv, List.Perm.refl _, rfl⟩
    · rintro i σ H2 hi ⟨rs, ys, e5, rfl, k2, r2, d2, pm, ly⟩
      have lr : rs.length + i = xs.length := by
        have := pm.length_eq
        rw [List.length_append] at this
        omega
      refine ⟨_, rfl, .inl ⟨rfl, _, SqL.of d2⟩, _, rfl, .inl ⟨rfl, _, SqL.of r2⟩, _, rfl, _, rfl, .inl ⟨R, _, rfl, .inl (SqL.of r2), p, _, rfl, k2.pot, by rw [List.length_map]; omega, by rw [List.length_map]; omega, fun g H3 g0 g1 k3 => ?_⟩⟩
      rw [List.length_map] at g1
      have hg : g.toNat < rs.length := by omega
      have hy : rs[g.toNat]? = some rs[g.toNat] := List.getElem?_eq_getElem hg
      have r3 := k3.at Rp r2
      have d3 := k3.at Dp d2
      have k23 := k2.trans k3
      refine ⟨R, _, g, g.toNat, .str rs[g.toNat], rfl, rfl, r3, by omega, by omega, seqIndex_of g0 (by rw [List.length_map]; omega), by rw [List.getElem?_map, hy]; rfl, ?_⟩
      rw [er_map]
      refine ⟨D, _, _, rfl, rfl, by rw [upd_ne (Ne.symm nRD)]; exact d3, ?_, rs.eraseIdx g.toNat, ys ++ [rs[g.toNat]], _, rfl, ?_, ?_, ?_, ?_, ?_⟩
      · rw [List.length_map]
        omega
      · exact (k23.over (o := .lst ((rs.eraseIdx g.toNat).map V.str)) Rp (Kp.gone (Kp.refl hp) Rp hR)).over Dp hD0
      · rw [upd_ne nRD, upd_same]
      · rw [upd_same, List.map_append]
        rfl
      · rw [List.append_assoc]
        exact (List.Perm.append_left ys (er_perm hy)).trans pm
      · rw [List.length_append, ly]
        rfl
    · rintro σ H2 ⟨rs, ys, e5, rfl, k2, r2, d2, pm, ly⟩
      have ndA := pm.nodup_iff.mpr nd0
      refine ⟨_, rfl, z D H2 ys k2 hD0 Dp d2 ⟨(List.nodup_append.mp ndA).1, fun y hy => pm.mem_iff.mp (List.mem_append_left _ hy), fun e => ?_, by omega⟩⟩
      rw [e] at ly
      simp at ly
      omega
end
end KD

set_option Elab.async false
set_option linter.all false
set_option maxRecDepth 100000
set_option maxHeartbeats 2000000
/-! _law_weight, _law_fraction, _law_number. -/
namespace KD
open PySem PySem.Spec PyProof.Rows L2 Oo Gd Am KA SqX
section
variable {P : Program} {w : World} {K : W.Frag} {mg : Str → Option Value} {base : Heap} {f A C : Addr} {fd : FuncData} {t t2 t3 : Tok}
def spWei : Sp := fun vs H Q _ => ∃ p : Addr, vs = [.ref p] ∧ Pot H p ∧ ∀ (n : Int) (H' : Hp), n ≠ 0 → n.natAbs < 2 ^ 100 → Kp p H H' → Q (.int n) H'
theorem scWei : FnScope ["_law_pot_here", "_law_weight_here"] ["_law_pot_here"] (defScope (top 48)) := ⟨rfl, rfl, rfl, by decide +kernel, rfl, by decide +kernel, by decide +kernel⟩
theorem ok_wei (D1 : DnD P w K mg base) (DP : DnP P w K mg base) (F : Fun K "_law_weight" "_law_weight" (top 48) f fd) : FnOk P w K mg base CX0 3 f fd ["_law_pot_here"] spWei := by
  refine F.ok scWei (fun vs H Q E h => ?_) (fun cdv A' outer s H vs Q E hr h => ?_)
  · obtain ⟨p, rfl, _⟩ := h
    rfl
  · obtain ⟨p, rfl, hp, z⟩ := h
    have nd := scWei.nd
    refine ⟨_, pss_cons (ps_set (i := 1) nd rfl (.inl rfl) (pe_dn DP hr (by rfl) (by decide) (pa_cons (pv 0) (pa_cons (pe_lst (pa_cons pe_int (pa_cons (pe_un un_neg pe_int) (pa_cons pe_int (pa_cons pe_int (pa_cons (pe_un un_neg pe_int) (pa_cons pe_int (pa_cons pe_int pa_nil)))))))) pa_nil))))
      (pss_one (ps_ret (pe_ifExp (pt_cmpR op_eq (pe_dn D1 hr (by rfl) (by decide) (pa_cons (pv 0) (pa_cons pe_int pa_nil))) pe_int (nomark _))
        (pe_op op_mulW (pv 1) (pe_op op_add pe_int (pe_op op_mulW (pe_dn D1 hr (by rfl) (by decide) (pa_cons (pv 0) (pa_cons (pe_op op_pow pe_int pe_int) pa_nil))) (pe_op op_pow pe_int pe_int)))) (pv 1)))), ?_⟩
    refine ⟨_, rfl, 1, rfl, 3, rfl, (by show 7 ≤ sizeLine; decide), fun l hl => ⟨p, l, _, rfl, hp.new hl, ne_pot hp hl, SqL.of upd_same, (fun z => by cases z), (by show 7 ≤ 1000000; decide), fun x H2 hx k2 => ?_⟩⟩
    have num : ∃ m : Int, x = .int m ∧ m ≠ 0 ∧ m.natAbs ≤ 10 := by
      simp only [List.mem_cons, List.not_mem_nil, or_false] at hx
      rcases hx with rfl | rfl | rfl | rfl | rfl | rfl | rfl
      all_goals exact ⟨_, rfl, by decide, by decide⟩
    obtain ⟨m, rfl, m0, m10⟩ := num
    have k1 := (Kp.new hp hl).trans k2
    clear hx k2
    refine ⟨_, rfl, p, 8, rfl, k1.pot, by decide, by decide, fun d H3 d0 d1 k3 => ⟨rfl, _, rfl, ite2 (fun _ => ?_) (fun _ => ?_)⟩⟩
    · refine ⟨_, rfl, _, rfl, 10, 9, rfl, rfl, ⟨by decide, by decide, by decide⟩, p, _, rfl, k3.pot, by decide, by decide, fun g H4 g0 g1 k4 => ?_⟩
      replace g1 : g < 1000000000 := g1
      refine ⟨10, 10, rfl, rfl, ⟨by decide, by decide, by decide⟩, _, _, rfl, rfl, mulW (by omega) (by decide), _, _, rfl, rfl, _, _, rfl, rfl, mulW (by omega) (by show (1 + g * 10000000000).natAbs < _; omega), ?_⟩
      have b1 : (1 + g * 10 ^ (10 : Int).toNat).natAbs < 2 ^ 80 := by
        show (1 + g * 10000000000).natAbs < _
        have : (2 : Nat) ^ 80 = 1208925819614629174706176 := by decide
        omega
      have b0 : m.natAbs < 2 ^ 4 := by omega
      refine z _ _ (Int.mul_ne_zero m0 (by show 1 + g * 10000000000 ≠ 0; omega)) (Nat.lt_trans (wide_lt b0 b1) (by decide)) ((k1.trans k3).trans k4)
    · exact ⟨_, rfl, z m H3 m0 (by have : (10 : Nat) < 2 ^ 100 := by decide
                                   omega) (k1.trans k3)⟩
end
end KD

set_option Elab.async false
set_option linter.all false
set_option maxRecDepth 100000
set_option maxHeartbeats 2000000
set_option exponentiation.threshold 20000
/-! ties; _law_fraction, _law_number, _law_inside. -/
namespace KD
open PySem PySem.Spec PyProof.Rows L2 Oo Gd Am KA SqX
/-- what a tie tells of a rule, its ways apart -/
inductive TD where
  | loo (xs : List Str)
  | sum (ls : List (Str × Int)) (q : Rat)
  | pro (xs ys : List Str) (q : Rat)
def TD.ins : TD → List Str
  | .loo xs => xs
  | .sum ls _ => ls.map (·.1)
  | .pro xs ys _ => xs ++ ys
abbrev Ls (H : Hp) (a : Addr) (xs : List Str) : Prop := H a = some (.lst (xs.map V.str))
abbrev Fr2 (H : Hp) (a : Addr) (q : Rat) : Prop := H a = some (.tup [.int q.num, .int q.den])
/-- pairs of names and numbers -/
def Prs (H : Hp) : List Addr → List (Str × Int) → Prop := Paired fun p x => H p = some (.tup [.str x.1, .int x.2])
theorem Prs.ext {H H' : Hp} (e : Am.Ext H H') : ∀ {ps : List Addr} {ls : List (Str × Int)}, Prs H ps ls → Prs H' ps ls
  | _, _, .nil => .nil
  | _, _, .cons a b => .cons (e _ _ a) (Prs.ext e b)
def TieAt (H : Hp) (t : Addr) (td : TD) (os : List Str) : Prop := ∃ po, Ls H po os ∧ match td with
  | .loo xs => ∃ px, Ls H px xs ∧ H t = some (.tup [.str "loose", .ref px, .non, .ref po])
  | .sum ls q => ∃ pl ps pq, H pl = some (.lst (ps.map V.ref)) ∧ Prs H ps ls ∧ Fr2 H pq q ∧ H t = some (.tup [.str "sum", .ref pl, .ref pq, .ref po])
  | .pro xs ys q => ∃ pp px py pq, Ls H px xs ∧ Ls H py ys ∧ H pp = some (.tup [.ref px, .ref py]) ∧ Fr2 H pq q ∧ H t = some (.tup [.str "product", .ref pp, .ref pq, .ref po])
theorem TieAt.ext {H H' : Hp} {t : Addr} {td : TD} {os : List Str} (e : Am.Ext H H') (h : TieAt H t td os) : TieAt H' t td os := by
  obtain ⟨po, ho, h⟩ := h
  cases td with
  | loo xs => obtain ⟨px, a, b⟩ := h; exact ⟨po, e _ _ ho, px, e _ _ a, e _ _ b⟩
  | sum ls q => obtain ⟨pl, ps, pq, a, b, c, d⟩ := h; exact ⟨po, e _ _ ho, pl, ps, pq, e _ _ a, b.ext e, e _ _ c, e _ _ d⟩
  | pro xs ys q => obtain ⟨pp, px, py, pq, a, b, c, d, f⟩ := h; exact ⟨po, e _ _ ho, pp, px, py, pq, e _ _ a, e _ _ b, e _ _ c, e _ _ d, e _ _ f⟩
/-- a tie that is right -/
structure TdOk (td : TD) (os : List Str) : Prop where
  nm : Nms td.ins
  ne : td.ins ≠ []
  od : os.Nodup
  oi : ∀ o ∈ os, o ∈ td.ins
  on : os ≠ []
  dt : match td with
    | .loo _ => True
    | .sum ls q => (∀ p ∈ ls, p.2 ≠ 0 ∧ p.2.natAbs < 2 ^ 150) ∧ Low 200 q
    | .pro _ _ q => q ≠ 0 ∧ Low 200 q
theorem TdOk.of {td : TD} {os : List Str} (h : TdOk td os) : Few os := ⟨fun x hx => h.nm.ok x (h.oi x hx), Nat.lt_of_le_of_lt (sub_len _ _ h.od h.oi) h.nm.few⟩
theorem s_ps : ¬ (decide (V.str "product" = V.str "sum") = true) := by decide
theorem s_ls : ¬ (decide (V.str "loose" = V.str "sum") = true) := by decide
theorem s_lp : ¬ (decide (V.str "loose" = V.str "product") = true) := by decide
theorem s_pl : ¬ (decide (V.str "product" = V.str "loose") = true) := by decide
theorem s_sl : ¬ (decide (V.str "sum" = V.str "loose") = true) := by decide
theorem s_sp : ¬ (decide (V.str "sum" = V.str "product") = true) := by decide
theorem ix4 {K : W.Frag} {H : Hp} {t : Addr} {xs : List V} {i : Nat} {v : V} {Q : VK} (h : H t = some (.tup xs)) (hi : xs[i]? = some v) (q : Q v H) : rIx K (.ref t) (.int (i : Nat)) H Q :=
  .inr (.inl ⟨t, xs, i, v, rfl, rfl, SqT.of h, atI_nat hi, q⟩)
theorem if_yes {a : Str} {A B : Prop} (h : A) : if decide (V.str a = V.str a) = true then A else B := by
  rw [if_pos (decide_eq_true rfl)]
  exact h
theorem if_no {c : Bool} {A B : Prop} (hc : ¬ (c = true)) (h : B) : if c = true then A else B := by
  rw [if_neg hc]
  exact h
section
variable {P : Program} {w : World} {K : W.Frag} {mg : Str → Option Value} {base : Heap} {f A C : Addr} {fd : FuncData} {t t2 t3 : Tok}
def spFrac : Sp := fun vs H Q _ => ∃ p : Addr, vs = [.ref p] ∧ Pot H p ∧ ∀ (t : Addr) (H' : Hp) (q : Rat), Kp p H H' → H t = none → t ≠ p → Fr2 H' t q → Low 100 q → Q (.ref t) H'
theorem scFrac : FnScope ["_law_pot_here"] ["_law_pot_here"] (defScope (top 49)) := ⟨rfl, rfl, rfl, by decide +kernel, rfl, by decide +kernel, by decide +kernel⟩
theorem ok_frac (DP : DnP P w K mg base) (DL : DnL P w K mg base) (F : Fun K "_law_fraction" "_law_fraction" (top 49) f fd) : FnOk P w K mg base CX0 3 f fd ["_law_pot_here"] spFrac := by
  refine F.ok scFrac (fun vs H Q E h => ?_) (fun cdv A' outer s H vs Q E hr h => ?_)
  · obtain ⟨p, rfl, _⟩ := h
    rfl
  · obtain ⟨p, rfl, hp, z⟩ := h
    refine ⟨_, pss_one (ps_ret (pe_dn DL hr (by rfl) (by decide) (pa_cons (pe_dn DP hr (by rfl) (by decide) (pa_cons (pv 0) (pa_cons (pe_lst (pa_cons pe_int (pa_cons pe_int (pa_cons pe_int (pa_cons (pe_un un_neg pe_int) (pa_cons pe_int (pa_cons pe_int (pa_cons (pe_un un_neg pe_int) (pa_cons pe_int (pa_cons (pe_op op_add (pe_op op_pow pe_int pe_int) pe_int) pa_nil)))))))))) pa_nil)))
      (pa_cons (pe_dn DP hr (by rfl) (by decide) (pa_cons (pv 0) (pa_cons (pe_lst (pa_cons pe_int (pa_cons pe_int (pa_cons pe_int (pa_cons pe_int (pa_cons pe_int pa_nil)))))) pa_nil))) pa_nil)))), ?_⟩
    refine ⟨_, rfl, 1, rfl, 12, rfl, 10, 17, rfl, rfl, ⟨by decide, by decide, by decide⟩, _, _, rfl, rfl, (by show 9 ≤ sizeLine; decide), fun l hl => ⟨p, l, _, rfl, hp.new hl, ne_pot hp hl, SqL.of upd_same, (fun z => by cases z), (by show 9 ≤ 1000000; decide), fun x H2 hx k2 => ?_⟩⟩
    have num : ∃ m : Int, x = .int m ∧ m.natAbs < 2 ^ 60 := by
      simp only [List.mem_cons, List.not_mem_nil, or_false] at hx
      rcases hx with rfl | rfl | rfl | rfl | rfl | rfl | rfl | rfl | rfl
      all_goals exact ⟨_, rfl, by decide⟩
    obtain ⟨m, rfl, mb⟩ := num
    have k1 := (Kp.new hp hl).trans k2
    clear hx k2
    refine ⟨_, rfl, (by show 5 ≤ sizeLine; decide), fun l2 hl2 => ⟨p, l2, _, rfl, k1.pot.new hl2, ne_pot k1.pot hl2, SqL.of upd_same, (fun z => by cases z), (by show 5 ≤ 1000000; decide), fun y H3 hy k3 => ?_⟩⟩
    have num2 : ∃ d : Int, y = .int d ∧ 0 < d ∧ d.natAbs < 2 ^ 60 := by
      simp only [List.mem_cons, List.not_mem_nil, or_false] at hy
      rcases hy with rfl | rfl | rfl | rfl | rfl
      all_goals exact ⟨_, rfl, by decide, by decide⟩
    obtain ⟨d, rfl, d0, db⟩ := num2
    have k13 := k1.trans ((Kp.new k1.pot hl2).trans k3)
    clear hy k3
    refine ⟨m, d, rfl, d0, Nat.lt_trans mb (Nat.pow_lt_pow_right (by decide) (by decide)), Nat.lt_trans db (Nat.pow_lt_pow_right (by decide) (by decide)), fun t H4 e4 n4 t4 => ?_⟩
    have tp : t ≠ p := ne_pot k13.pot n4
    obtain ⟨b1, b2⟩ := divInt_le m d (by omega)
    refine z t H4 _ ⟨fun b o nb hb => e4 b o (k13.1 b o nb hb), ?_⟩ (k13.gone tp n4) tp t4 ⟨Nat.lt_of_le_of_lt b1 (Nat.lt_trans mb (by decide)), Nat.lt_of_le_of_lt b2 (Nat.lt_trans db (by decide))⟩
    obtain ⟨u, v, q, r⟩ := k13.pot
    exact ⟨u, v, e4 _ _ q, r⟩
def spNum (A : Addr) : Sp := fun vs H Q _ => ∃ (t : Addr) (b : Bool) (q : Rat), vs = [.ref t, .bl b] ∧ Fr2 H t q ∧ Low 200 q ∧ ∀ (v : V) (H' : Hp), Am.Ext H H' → Num A H' v q → Q v H'
theorem scNum : FnScope ["_law_part", "_law_plainly"] ["_law_part", "_law_plainly"] (defScope (top 53)) := ⟨rfl, rfl, rfl, by decide +kernel, rfl, by decide +kernel, by decide +kernel⟩
theorem ok_num (B : Base P w K mg base A) (F : Fun K "_law_number" "_law_number" (top 53) f fd) : FnOk P w K mg base CX0 4 f fd ["_law_part", "_law_plainly"] (spNum A) := by
  refine F.ok scNum (fun vs H Q E h => ?_) (fun cdv A' outer s H vs Q E hr h => ?_)
  · obtain ⟨t, b, q, rfl, _⟩ := h
    rfl
  · obtain ⟨t, b, q, rfl, ht, lw, z⟩ := h
    have isk : IsK K := ⟨trivial⟩
    refine ⟨_, pss_one (ps_ret (pe_ifExp (PW.pt (pw_and (pt_val (pv 1)) (pw_and1 (pt_cmpR op_eq (pe_ix (ixK isk) (pv 0) pe_int (fun _ _ => rfl)) pe_int (nomark _))))) (pe_ix (ixK isk) (pv 0) pe_int (fun _ _ => rfl))
      (pe_mk2 B hr rfl (pa_cons (pe_ix (ixK isk) (pv 0) pe_int (fun _ _ => rfl)) (pa_cons (pe_ix (ixK isk) (pv 0) pe_int (fun _ _ => rfl)) pa_nil))))), ?_⟩
    have lw8 : q.num.natAbs < 2 ^ 8999 := Nat.lt_trans lw.1 (Nat.pow_lt_pow_right (by decide) (by decide))
    have ld8 : ((q.den : Int)).natAbs < 2 ^ 8999 := Nat.lt_trans (by rw [Int.natAbs_natCast]; exact lw.2) (Nat.pow_lt_pow_right (by decide) (by decide))
    have made : New A H Q q := fun r H' e n i => z _ H' e (Num.is i)
    have mk : ∀ {Q' : VK}, Q' = Q → ∃ n d : Int, ([.int q.num, .int q.den] : List V) = [.int n, .int d] ∧ d ≠ 0 ∧ n.natAbs < 2 ^ 8999 ∧ d.natAbs < 2 ^ 8999 ∧ New A H Q' (Rat.divInt n d) := fun {Q'} e => ⟨_, _, rfl, den0 q, lw8, ld8, by rw [e, Rat.num_divInt_den]; exact made⟩
    cases b with
    | false => exact ⟨_, rfl, _, rfl, iteF ⟨_, rfl, ix4 (i := 0) ht rfl ⟨_, rfl, ix4 (i := 1) ht rfl (mk rfl)⟩⟩⟩
    | true =>
      refine ⟨_, rfl, _, rfl, iteT ⟨_, rfl, ix4 (i := 1) ht rfl ⟨rfl, _, rfl, ite2 (fun c => ?_) (fun c => ?_)⟩⟩⟩
      · have e : (q.den : Int) = 1 := by simpa using c
        refine ⟨_, rfl, ix4 (i := 0) ht rfl (z _ H (Am.Ext.refl H) (.inl ⟨q.num, rfl, ?_⟩))⟩
        have := Rat.num_divInt_den q
        rw [e] at this
        rw [← this]
        conv => lhs; rw [int_rat]
        rw [int_rat]
        rfl
      · exact ⟨_, rfl, ix4 (i := 0) ht rfl ⟨_, rfl, ix4 (i := 1) ht rfl (mk rfl)⟩⟩
end
end KD

set_option Elab.async false
set_option linter.all false
set_option maxRecDepth 100000
set_option maxHeartbeats 2000000
set_option exponentiation.threshold 20000
/-! _law_inside. -/
namespace KD
open PySem PySem.Spec PyProof.Rows L2 Oo Gd Am KA SqX
theorem prs_at {H : Hp} : ∀ {ps : List Addr} {ls : List (Str × Int)} {i : Nat} {x : V}, Prs H ps ls → (ps.map V.ref)[i]? = some x → ∃ (p : Addr) (y : Str × Int), x = .ref p ∧ ls[i]? = some y ∧ H p = some (.tup [.str y.1, .int y.2])
  | _, _, i, x, .nil, h => by simp at h
  | _, _, 0, x, .cons (a := p) (b := y) hp _, h => by
    simp at h
    exact ⟨p, y, h.symm, rfl, hp⟩
  | _, _, i + 1, x, .cons _ r, h => by
    obtain ⟨p, y, e, m, q⟩ := prs_at (i := i) r (by simpa using h)
    exact ⟨p, y, e, by simpa using m, q⟩
theorem prs_len {H : Hp} {ps : List Addr} {ls : List (Str × Int)} (h : Prs H ps ls) : ps.length = ls.length := Paired.length h
section
variable {P : Program} {w : World} {K : W.Frag} {mg : Str → Option Value} {base : Heap} {f A C : Addr} {fd : FuncData} {t t2 t3 : Tok}
/-- a new list of these texts -/
def NewLs (H : Hp) (Q : VK) (xs : List Str) : Prop := ∀ (D : Addr) (H' : Hp), Am.Ext H H' → H D = none → Ls H' D xs → Q (.ref D) H'
def spIns : Sp := fun vs H Q _ => ∃ (t : Addr) (td : TD) (os : List Str), vs = [.ref t] ∧ TieAt H t td os ∧ Nms td.ins ∧ NewLs H Q (srt td.ins)
abbrev nIns : List Str := ["_law_tie", "_law_spot", "_law_weight_here"]
theorem scIns : FnScope nIns ["_law_tie"] (defScope (top 50)) := ⟨rfl, rfl, rfl, by decide +kernel, rfl, by decide +kernel, by decide +kernel⟩
theorem ok_ins (fr : Frees mg) (F : Fun K "_law_inside" "_law_inside" (top 50) f fd) : FnOk P w K mg base CX0 1 f fd ["_law_tie"] spIns := by
  refine F.ok scIns (fun vs H Q E h => ?_) (fun cdv A' outer s H vs Q E hr h => ?_)
  · obtain ⟨t, td, os, rfl, _⟩ := h
    rfl
  · obtain ⟨t, td, os, rfl, ⟨po, ho, hd⟩, nm, z⟩ := h
    have nd := scIns.nd
    have isk : IsK K := ⟨trivial⟩
    have big : (1000000 : Nat) ≤ sizeLine := by decide
    refine ⟨_, pss_cons (ps_if (pt_cmpR op_eq (pe_ix (ixK isk) (pv 0) pe_int (fun _ _ => rfl)) pe_str (nomark _))
        (pss_one (ps_ret (pe_callBK (cr_srtK hr) rfl (fr.h _ (by decide +kernel)) (by decide +kernel) (pa_cons (pe_lc (own := [("_law_spot", 1), ("_law_weight_here", 2)]) (tt := tYes) rfl nd (pi_list (pe_ix (ixK isk) (pv 0) pe_int (fun _ _ => rfl))) (blkOk_by (N := nIns) (sc := defScope (top 50)) (by decide +kernel))
          (g := gTup K 2 (gCons (gName 1) (gCons (gName 2) gNil))) (fun _ _ _ _ _ => pg_tup rfl (pgs_cons (pg_name (i := 1) nd rfl (Or.inl rfl)) (pgs_cons (pg_name (i := 2) nd rfl (Or.inl rfl)) pgs_nil))) (fun _ _ _ _ _ => pts_nil) (fun _ _ _ _ _ => pv 1)) pa_nil) (pk_cons (pe_bltn (v := V.ty "str") rfl (fr.h _ (by decide +kernel)) (by rfl) rfl) pk_nil)))) pss_nil)
      (pss_one (ps_ret (pe_callBK (cr_srtK hr) rfl (fr.h _ (by decide +kernel)) (by decide +kernel) (pa_cons (pe_ifExp (pt_cmpR op_eq (pe_ix (ixK isk) (pv 0) pe_int (fun _ _ => rfl)) pe_str (nomark _))
          (pe_op op_addA (pe_callTy call_list_of rfl (fr.h _ (by decide +kernel)) (by decide +kernel) (pa_cons (pe_ix (ixK isk) (pe_ix (ixK isk) (pv 0) pe_int (fun _ _ => rfl)) pe_int (fun _ _ => rfl)) pa_nil)) (pe_callTy call_list_of rfl (fr.h _ (by decide +kernel)) (by decide +kernel) (pa_cons (pe_ix (ixK isk) (pe_ix (ixK isk) (pv 0) pe_int (fun _ _ => rfl)) pe_int (fun _ _ => rfl)) pa_nil)))
          (pe_callTy call_list_of rfl (fr.h _ (by decide +kernel)) (by decide +kernel) (pa_cons (pe_ix (ixK isk) (pv 0) pe_int (fun _ _ => rfl)) pa_nil))) pa_nil) (pk_cons (pe_bltn (v := V.ty "str") rfl (fr.h _ (by decide +kernel)) (by rfl) rfl) pk_nil)))), ?_⟩
    have few := nm.few
    cases td with
    | sum ls q =>
      obtain ⟨pl, ps, pq, hl, hp, hq, htt⟩ := hd
      have fw : ls.length < 64 := by have := few; rwa [show TD.ins (.sum ls q) = ls.map (·.1) from rfl, List.length_map] at this
      refine ⟨_, rfl, ix4 (i := 0) htt rfl ⟨rfl, _, rfl, if_yes ⟨_, rfl, ix4 (i := 1) htt rfl ⟨pl, rfl, ⟨_, SqL.of hl⟩, fun D hD => ?_⟩⟩⟩⟩
      refine lc_it (walk_list (xs := ps.map V.ref)) (fun i H' => Am.Ext H H' ∧ Ls H' D ((ls.take i).map (·.1))) ⟨Am.Ext.new hD, by show upd _ _ _ _ = _; rw [upd_same]; rfl⟩ (fun i H' _ h => SqL.of (h.1 _ _ hl)) ?_ ?_
      · rintro i y H' H2 hi ⟨e, d⟩ ⟨rfl, hy⟩
        obtain ⟨p, x, rfl, hx, hpx⟩ := prs_at (hp.ext e) hy
        refine ⟨p, _, rfl, SqT.of hpx, rfl, _, _, rfl, _, _, rfl, rfl, rfl, _, rfl, _, d, ?_, ext_off e hD, ?_⟩
        · rw [List.length_map, List.length_map, List.length_take]
          omega
        · show upd _ _ _ _ = _
          rw [upd_same, take_suc hx, List.map_append, List.map_append]
          rfl
      · rintro H' ⟨e, d⟩
        rw [List.length_map, prs_len hp, List.take_length] at d
        refine ⟨rfl, D, ls.map (·.1), rfl, SqL.of d, by rw [List.length_map]; omega, fun p hp' => ?_⟩
        exact z p _ (e.then hp') (e.gone hp') upd_same
    | pro xs ys q =>
      obtain ⟨pp, px, py, pq, hx, hy, hpp, hq, htt⟩ := hd
      have fw : xs.length + ys.length < 64 := by have := few; rwa [show TD.ins (.pro xs ys q) = xs ++ ys from rfl, List.length_append] at this
      refine ⟨_, rfl, ix4 (i := 0) htt rfl ⟨rfl, _, rfl, if_no s_ps ⟨_, rfl, ix4 (i := 0) htt rfl ⟨rfl, _, rfl, if_yes ⟨_, rfl, ix4 (i := 1) htt rfl (ix4 (i := 0) hpp rfl ⟨px, _, rfl, .inl (SqL.of hx), fun L1 h1 => ?_⟩)⟩⟩⟩⟩⟩
      have e1 := Am.Ext.new (o := .lst (xs.map V.str)) h1
      refine ⟨_, rfl, ix4 (i := 1) (e1 _ _ htt) rfl (ix4 (i := 1) (e1 _ _ hpp) rfl ⟨py, _, rfl, .inl (SqL.of (e1 _ _ hy)), fun L2 h2 => ?_⟩)⟩
      have e2 := Am.Ext.new (o := .lst (ys.map V.str)) h2
      refine .inr (.inr ⟨L1, L2, _, _, rfl, rfl, e2 _ _ upd_same, upd_same, by rw [List.length_map, List.length_map]; omega, fun L3 h3 => ?_⟩)
      have e3 := Am.Ext.new (o := .lst (xs.map V.str ++ ys.map V.str)) h3
      refine ⟨rfl, L3, xs ++ ys, rfl, SqL.of (by rw [upd_same, List.map_append]), by rw [List.length_append]; omega, fun p hp' => ?_⟩
      have e := (e1.trans e2).trans e3
      exact z p _ (e.then hp') (e.gone hp') upd_same
    | loo xs =>
      obtain ⟨px, hx, htt⟩ := hd
      have fw : xs.length < 64 := few
      refine ⟨_, rfl, ix4 (i := 0) htt rfl ⟨rfl, _, rfl, if_no s_ls ⟨_, rfl, ix4 (i := 0) htt rfl ⟨rfl, _, rfl, if_no s_lp ⟨_, rfl, ix4 (i := 1) htt rfl ⟨px, _, rfl, .inl (SqL.of hx), fun L1 h1 => ?_⟩⟩⟩⟩⟩⟩
      have e1 := Am.Ext.new (o := .lst (xs.map V.str)) h1
      refine ⟨rfl, L1, xs, rfl, SqL.of upd_same, by omega, fun p hp' => ?_⟩
      exact z p _ (e1.then hp') (e1.gone hp') upd_same
end
end KD

set_option Elab.async false
set_option linter.all false
set_option maxRecDepth 100000
set_option maxHeartbeats 2000000
set_option exponentiation.threshold 20000
/-! _law_rule. -/
namespace KD
open PySem PySem.Spec PyProof.Rows L2 Oo Gd Am KA SqX
theorem merge_new : ∀ (ls ks : List (Str × Int)), (ls.map (·.1)).Nodup → (∀ p ∈ ls, p.1 ∉ ks.map (·.1)) → mergeK (wts ks) (wts ls) = wts (ks ++ ls)
  | [], ks, _, _ => by rw [List.append_nil]; rfl
  | p :: ls, ks, nd, off => by
    have nd' := List.nodup_cons.mp nd
    have e : putK (wts ks) (Sum.inr p.1 : Key) (.int p.2) = wts (ks ++ [p]) := by
      rw [putK_new _ (by rw [valV_w, wt_none (off p List.mem_cons_self)]; rfl)]
      unfold wts
      rw [List.map_append]
      rfl
    show mergeK (putK (wts ks) (Sum.inr p.1 : Key) (.int p.2)) (wts ls) = _
    rw [e, merge_new ls (ks ++ [p]) nd'.2 fun q hq hm => ?_, List.append_assoc]
    · rfl
    · rw [List.map_append, List.mem_append] at hm
      rcases hm with hm | hm
      · exact off q (List.mem_cons_of_mem _ hq) hm
      · rw [List.map_cons, List.map_nil, List.mem_singleton] at hm
        exact nd'.1 (by show p.1 ∈ _; rw [← hm]; exact List.mem_map_of_mem (f := fun x : Str × Int => x.1) hq)
theorem merge_w {ls : List (Str × Int)} (nd : (ls.map (·.1)).Nodup) : mergeK [] (wts ls) = wts ls := merge_new ls [] nd (fun _ _ q => nomatch q)
theorem prs_kv {K : W.Frag} {H : Hp} : ∀ {ps : List Addr} {ls : List (Str × Int)}, Prs H ps ls → Paired (fun (p : Addr) (kv : Key × V) => SqT K H p [kV kv.1, kv.2]) ps (wts ls)
  | _, _, .nil => .nil
  | _, _, .cons a b => .cons (SqT.of a) (prs_kv b)
/-- the rule that a tie tells stands at r -/
def IsRule (A CT CP CL : Addr) (H : Hp) (r : Addr) (td : TD) (os : List Str) : Prop := match td with
  | .loo xs => IsL CL H r (srt xs) (srt os)
  | .sum ls q => IsT A CT H r q (ordW ls) (srt (ls.map (·.1))) (srt os)
  | .pro xs ys q => IsP A CP H r q (srt xs) (srt ys) (srt (xs ++ ys)) (srt os)
theorem IsRule.ext {A CT CP CL : Addr} {H H' : Hp} {r : Addr} {td : TD} {os : List Str} (e : Am.Ext H H') (h : IsRule A CT CP CL H r td os) : IsRule A CT CP CL H' r td os := by
  cases td with
  | loo xs => exact IsL.ext e h
  | sum ls q => exact IsT.ext e h
  | pro xs ys q => exact IsP.ext e h
def pm4 {α : Type} (us ws : List α) : List α := match ws with
  | [f, r, w, l] => us ++ [l, r, f, w]
  | _ => us ++ ws
structure RC (P : Program) (w : World) (K : W.Frag) (mg : Str → Option Value) (base : Heap) (A CT CP CL : Addr) : Prop where
  mT : mg "Total" = some (.ref CT)
  mP : mg "Product" = some (.ref CP)
  mL : mg "Loose" = some (.ref CL)
  kT : ∃ fI fd, Mk K CT fI ∧ FnOk P w K mg base CX0 5 fI fd ["self", "weights", "total", "ways"] (spInT K A CT) ∧ KBn K fd ["self", "weights", "total", "ways"] 3 [("ways" : Str)] (fun us ws => us ++ ws) (fun us ws => us ++ ws) ∧
    KBn K fd ["self", "weights", "total", "ways"] 1 [("ways" : Str), "total", "weights"] (fun us ws => us ++ ws.reverse) (fun us ws => us ++ ws.reverse)
  kP : ∃ fI fd, Mk K CP fI ∧ FnOk P w K mg base CX0 5 fI fd nInP (spInP K A CP) ∧ KBn K fd nInP 4 [("ways" : Str)] (fun us ws => us ++ ws) (fun us ws => us ++ ws) ∧ KBn K fd nInP 1 [("factor" : Str), "right", "ways", "left"] pm4 pm4
  kL : ∃ fI fd, Mk K CL fI ∧ FnOk P w K mg base CX0 4 fI fd ["self", "fields", "ways"] (spInL K CL) ∧ KBn K fd ["self", "fields", "ways"] 2 [("ways" : Str)] (fun us ws => us ++ ws) (fun us ws => us ++ ws) ∧
    KBn K fd ["self", "fields", "ways"] 1 [("ways" : Str), "fields"] (fun us ws => us ++ ws.reverse) (fun us ws => us ++ ws.reverse)
/-- a Total's own dict is new -/
def FreshD (CT : Addr) (H H' : Hp) (r : Addr) (td : TD) : Prop := match td with
  | .sum _ _ => ∀ (dx : Addr) (fs : List (Str × V)) (pd : Addr), H' r = some (.ins CT dx fs) → fs.lookup ("_weights" : Str) = some (V.ref pd) → H pd = none
  | _ => True
theorem FreshD.back {CT : Addr} {H H1 H' : Hp} {r : Addr} {td : TD} (e : Am.Ext H H1) (h : FreshD CT H1 H' r td) : FreshD CT H H' r td := by
  cases td with
  | loo xs => trivial
  | sum ls q => exact fun dx fs pd a b => e.gone (h dx fs pd a b)
  | pro xs ys q => trivial
/-- a new rule as the tie tells -/
def NewR (A CT CP CL : Addr) (H : Hp) (Q : VK) (td : TD) (os : List Str) : Prop := ∀ (r : Addr) (H' : Hp), Am.Ext H H' → H r = none → IsRule A CT CP CL H' r td os → FreshD CT H H' r td → Q (.ref r) H'
section
variable {P : Program} {w : World} {K : W.Frag} {mg : Str → Option Value} {base : Heap} {f A C CT CP CL : Addr} {fd : FuncData} {t t2 t3 : Tok}
theorem ext_new2 {H : Hp} {x dx : Addr} {o o2 : HO} (hx : H x = none) (hd : H dx = none) : Am.Ext H (upd (upd H dx o) x o2) := fun b u hb => by
  rw [upd_ne (ne_of_none hb hx), upd_ne (ne_of_none hb hd)]
  exact hb
/-- the new instance's init, as the maker wants it -/
theorem inL_new {H : Hp} {Q : VK} {a : Addr} {v : V} {xs os : List Str} (ha : SeqH K H a (xs.map V.str)) (nx : Nms xs) (ne : xs ≠ []) (hv : WaysV K H v (srt xs) (srt os)) (z : NewR A CT CP CL H Q (.loo xs) os) :
    ∀ x dx, H x = none → H dx = none → dx ≠ x → spInL K CL [.ref x, .ref a, v] (upd (upd H dx (.own x)) x (.ins CL dx [])) (fun u H2 => u = .non ∧ Q (.ref x) H2) E0 := by
  intro x dx hx hdx nq
  have e := ext_new2 (o := .own x) (o2 := .ins CL dx []) hx hdx
  refine ⟨x, dx, a, v, xs, srt os, rfl, upd_same, ha.ext e, nx, ne, hv.ext e, fun H' pf pw e2 tf tw => ⟨rfl, ?_⟩⟩
  have hi := e2 _ _ upd_same
  refine z x _ (fun b u hb => ?_) hx ⟨dx, pf, pw, upd_same, by show upd _ _ _ _ = _; rw [upd_ne (tp_ne hi tf)]; exact tf, by show upd _ _ _ _ = _; rw [upd_ne (tp_ne hi tw)]; exact tw⟩ trivial
  rw [upd_ne (ne_of_none hb hx)]
  exact e2 _ _ (e _ _ hb)
theorem inT_new {H : Hp} {Q : VK} {a : Addr} {u v : V} {ls : List (Str × Int)} {q : Rat} {os : List Str} (ha : H a = some (.dK (wts ls))) (nx : Nms (ls.map (·.1))) (ne : ls ≠ []) (n0 : ∀ p ∈ ls, p.2 ≠ 0) (nu : Num A H u q) (sq : Sz q) (hv : WaysV K H v (srt (ls.map (·.1))) (srt os))
    (z : NewR A CT CP CL H Q (.sum ls q) os) : ∀ x dx, H x = none → H dx = none → dx ≠ x → spInT K A CT [.ref x, .ref a, u, v] (upd (upd H dx (.own x)) x (.ins CT dx [])) (fun u H2 => u = .non ∧ Q (.ref x) H2) E0 := by
  intro x dx hx hdx nq
  have e := ext_new2 (o := .own x) (o2 := .ins CT dx []) hx hdx
  refine ⟨x, dx, a, u, v, ls, q, srt os, rfl, upd_same, e _ _ ha, nx, ne, n0, nu.ext e, sq, hv.ext e, fun H' pt pf pd pw e2 ip tf hd hn tw => ⟨rfl, ?_⟩⟩
  have hi := e2 _ _ upd_same
  obtain ⟨dq, hp⟩ := ip
  have npx : pt ≠ x := fun q => by
    rw [q, hi] at hp
    injection Option.some.inj hp with _ _ q3
    cases q3
  refine z x _ (fun b u hb => ?_) hx ⟨dx, pt, pf, pd, pw, upd_same, ⟨dq, by rw [upd_ne npx]; exact hp⟩, by show upd _ _ _ _ = _; rw [upd_ne (tp_ne hi tf)]; exact tf, by rw [upd_ne (ne_of hd hi (fun q => nomatch q))]; exact hd, by show upd _ _ _ _ = _; rw [upd_ne (tp_ne hi tw)]; exact tw⟩ (fun dx' fs pd' h1 h2 => ?_)
  rotate_left
  · rw [upd_same] at h1
    injection Option.some.inj h1 with _ _ h3
    subst h3
    have h4 : (fldT pt pf pd pw).lookup ("_weights" : Str) = some (V.ref pd) := rfl
    rw [h4] at h2
    injection Option.some.inj h2 with h5
    rw [← h5]
    exact e.gone hn
  rw [upd_ne (ne_of_none hb hx)]
  exact e2 _ _ (e _ _ hb)
theorem inP_new {H : Hp} {Q : VK} {a b : Addr} {u v : V} {xs ys : List Str} {q : Rat} {os : List Str} (ha : SeqH K H a (xs.map V.str)) (hb : SeqH K H b (ys.map V.str)) (nx : Nms (xs ++ ys)) (ne : xs ++ ys ≠ []) (nu : Num A H u q) (sq : Sz q) (q0 : q ≠ 0) (hv : WaysV K H v (srt (xs ++ ys)) (srt os))
    (z : NewR A CT CP CL H Q (.pro xs ys q) os) : ∀ x dx, H x = none → H dx = none → dx ≠ x → spInP K A CP [.ref x, .ref a, .ref b, u, v] (upd (upd H dx (.own x)) x (.ins CP dx [])) (fun u H2 => u = .non ∧ Q (.ref x) H2) E0 := by
  intro x dx hx hdx nq
  have e := ext_new2 (o := .own x) (o2 := .ins CP dx []) hx hdx
  refine ⟨x, dx, a, b, u, v, xs, ys, q, srt os, rfl, upd_same, ha.ext e, hb.ext e, nx, ne, nu.ext e, sq, q0, hv.ext e, fun H' pt pl pr pf pw e2 ip tl tr tf tw => ⟨rfl, ?_⟩⟩
  have hi := e2 _ _ upd_same
  obtain ⟨dq, hp⟩ := ip
  have npx : pt ≠ x := fun q => by
    rw [q, hi] at hp
    injection Option.some.inj hp with _ _ q3
    cases q3
  have up : ∀ {a : Addr} {xs : List Str} {o : HO}, Tp H' a xs → Tp (upd H' x (.ins CP dx (fldP pt pl pr pf pw))) a xs := fun {a xs o} h => by
    show upd _ _ _ _ = _
    rw [upd_ne (tp_ne hi h)]
    exact h
  refine z x _ (fun b u hb => ?_) hx ⟨dx, pt, pl, pr, pf, pw, upd_same, ⟨dq, by rw [upd_ne npx]; exact hp⟩, up (o := .own x) tl, up (o := .own x) tr, up (o := .own x) tf, up (o := .own x) tw⟩ trivial
  rw [upd_ne (ne_of_none hb hx)]
  exact e2 _ _ (e _ _ hb)
theorem ways_os {H : Hp} {po : Addr} {fs ins os : List Str} (ho : Ls H po os) (hf : ∀ x, x ∈ fs ↔ x ∈ ins) (on : os ≠ []) (od : os.Nodup) (oi : ∀ o ∈ os, o ∈ ins) (few : os.length ≤ 100) : WaysV K H (.ref po) fs (srt os) :=
  .inr ⟨po, os, rfl, .inl ho, on, few, od, fun x hx => (hf x).mpr (oi x hx), rfl⟩
end
end KD

set_option Elab.async false
set_option linter.all false
set_option maxRecDepth 100000
set_option maxHeartbeats 2000000
set_option exponentiation.threshold 20000
/-! _law_rule. -/
namespace KD
open PySem PySem.Spec PyProof.Rows L2 Oo Gd Am KA SqX
section
variable {P : Program} {w : World} {K : W.Frag} {mg : Str → Option Value} {base : Heap} {f A C CT CP CL : Addr} {fd : FuncData} {t t2 t3 : Tok}
def spRule (A CT CP CL : Addr) : Sp := fun vs H Q _ => ∃ (t : Addr) (td : TD) (os : List Str), vs = [.ref t] ∧ TieAt H t td os ∧ TdOk td os ∧ NewR A CT CP CL H Q td os
theorem scRule : FnScope ["_law_tie"] ["_law_tie"] (defScope (top 51)) := ⟨rfl, rfl, rfl, by decide +kernel, rfl, by decide +kernel, by decide +kernel⟩
theorem sz_of {q : Rat} (h : Low 200 q) : Sz q := ⟨Nat.lt_trans h.1 (Nat.pow_lt_pow_right (by decide) (by decide)), Nat.lt_trans h.2 (Nat.pow_lt_pow_right (by decide) (by decide))⟩
theorem bn {q : Rat} (h : Low 200 q) : q.num.natAbs < 2 ^ 8999 := Nat.lt_trans h.1 (Nat.pow_lt_pow_right (by decide) (by decide))
theorem bd {q : Rat} (h : Low 200 q) : ((q.den : Int)).natAbs < 2 ^ 8999 := Nat.lt_trans (by rw [Int.natAbs_natCast]; exact h.2) (Nat.pow_lt_pow_right (by decide) (by decide))
theorem NewR.after {H H' : Hp} {Q : VK} {td : TD} {os : List Str} (e : Am.Ext H H') (z : NewR A CT CP CL H Q td os) : NewR A CT CP CL H' Q td os := fun r H2 e2 n i fd => z r H2 (e.trans e2) (e.gone n) i (fd.back e)
theorem ok_rule (fr : Frees mg) (B : Base P w K mg base A) (R : RC P w K mg base A CT CP CL) (F : Fun K "_law_rule" "_law_rule" (top 51) f fd) : FnOk P w K mg base CX0 7 f fd ["_law_tie"] (spRule A CT CP CL) := by
  refine F.ok scRule (fun vs H Q E h => ?_) (fun cdv A' outer s H vs Q E hr h => ?_)
  · obtain ⟨t, td, os, rfl, _⟩ := h
    rfl
  · obtain ⟨t, td, os, rfl, ⟨po, ho, hd⟩, ok, z⟩ := h
    have isk : IsK K := ⟨trivial⟩
    obtain ⟨tI, tfd, MT, FT, BT, _⟩ := R.kT
    obtain ⟨pI, pfd, MP, FP, BP, _⟩ := R.kP
    obtain ⟨lI, lfd, ML, FL, BL, _⟩ := R.kL
    refine ⟨_, pss_cons (ps_if (pt_cmpR op_eq (pe_ix (ixK isk) (pv 0) pe_int (fun _ _ => rfl)) pe_str (nomark _)) (pss_one (ps_ret (pe_makeK ML FL (hr.mono (by decide)) rfl R.mL BL pass0 (pa_cons (pe_ix (ixK isk) (pv 0) pe_int (fun _ _ => rfl)) pa_nil) (pk_cons (pe_ix (ixK isk) (pv 0) pe_int (fun _ _ => rfl)) pk_nil)))) pss_nil)
      (pss_cons (ps_if (pt_cmpR op_eq (pe_ix (ixK isk) (pv 0) pe_int (fun _ _ => rfl)) pe_str (nomark _)) (pss_one (ps_ret (pe_makeK MT FT (hr.mono (by decide)) rfl R.mT BT pass0 (pa_cons (pe_callTy (call_dictP rfl) rfl (fr.h _ (by decide +kernel)) (by decide +kernel) (pa_cons (pe_ix (ixK isk) (pv 0) pe_int (fun _ _ => rfl)) pa_nil))
          (pa_cons (pe_mk2 B (hr.mono (by decide)) rfl (pa_cons (pe_ix (ixK isk) (pe_ix (ixK isk) (pv 0) pe_int (fun _ _ => rfl)) pe_int (fun _ _ => rfl)) (pa_cons (pe_ix (ixK isk) (pe_ix (ixK isk) (pv 0) pe_int (fun _ _ => rfl)) pe_int (fun _ _ => rfl)) pa_nil))) pa_nil)) (pk_cons (pe_ix (ixK isk) (pv 0) pe_int (fun _ _ => rfl)) pk_nil)))) pss_nil)
      (pss_one (ps_ret (pe_makeK MP FP (hr.mono (by decide)) rfl R.mP BP pass0 (pa_cons (pe_ix (ixK isk) (pe_ix (ixK isk) (pv 0) pe_int (fun _ _ => rfl)) pe_int (fun _ _ => rfl)) (pa_cons (pe_ix (ixK isk) (pe_ix (ixK isk) (pv 0) pe_int (fun _ _ => rfl)) pe_int (fun _ _ => rfl))
          (pa_cons (pe_mk2 B (hr.mono (by decide)) rfl (pa_cons (pe_ix (ixK isk) (pe_ix (ixK isk) (pv 0) pe_int (fun _ _ => rfl)) pe_int (fun _ _ => rfl)) (pa_cons (pe_ix (ixK isk) (pe_ix (ixK isk) (pv 0) pe_int (fun _ _ => rfl)) pe_int (fun _ _ => rfl)) pa_nil))) pa_nil))) (pk_cons (pe_ix (ixK isk) (pv 0) pe_int (fun _ _ => rfl)) pk_nil))))), ?_⟩
    have fo := ok.of
    cases td with
    | loo xs =>
      obtain ⟨px, hx, htt⟩ := hd
      refine ⟨_, rfl, ix4 (i := 0) htt rfl ⟨rfl, _, rfl, if_yes ⟨_, rfl, ix4 (i := 1) htt rfl ⟨_, rfl, ix4 (i := 3) htt rfl ⟨rfl, rfl, ?_⟩⟩⟩⟩⟩
      exact inL_new (.inl hx) ok.nm ok.ne (ways_os ho (srt_mem xs) ok.on ok.od ok.oi (by have := fo.2; omega)) z
    | sum ls q =>
      obtain ⟨pl, ps, pq, hl, hp, hq, htt⟩ := hd
      obtain ⟨n0, lq⟩ := ok.dt
      have fw : ls.length < 64 := by have := ok.nm.few; rwa [show TD.ins (.sum ls q) = ls.map (·.1) from rfl, List.length_map] at this
      refine ⟨_, rfl, ix4 (i := 0) htt rfl ⟨rfl, _, rfl, if_no s_sl ⟨_, rfl, ix4 (i := 0) htt rfl ⟨rfl, _, rfl, if_yes ⟨_, rfl, ix4 (i := 1) htt rfl ⟨pl, ps, wts ls, rfl, SqL.of hl, prs_kv hp, fun d hd => ?_⟩⟩⟩⟩⟩⟩
      rw [merge_w ok.nm.nd]
      have e1 := Am.Ext.new (o := .dK (wts ls)) hd
      refine ⟨_, rfl, ix4 (i := 2) (e1 _ _ htt) rfl (ix4 (i := 0) (e1 _ _ hq) rfl ⟨_, rfl, ix4 (i := 2) (e1 _ _ htt) rfl (ix4 (i := 1) (e1 _ _ hq) rfl ⟨_, _, rfl, den0 q, bn lq, bd lq, fun r H2 e2 n2 ir => ?_⟩)⟩)⟩
      rw [Rat.num_divInt_den] at ir
      have e12 := e1.trans e2
      refine ⟨_, rfl, ix4 (i := 3) (e12 _ _ htt) rfl ⟨rfl, rfl, ?_⟩⟩
      exact inT_new (e2 _ _ upd_same) ok.nm (fun e => ok.ne (by rw [show TD.ins (.sum ls q) = ls.map (·.1) from rfl, e]; rfl)) (fun p hp => (n0 p hp).1) (.inr ⟨r, rfl, ir⟩) (sz_of lq) (ways_os (e12 _ _ ho) (srt_mem _) ok.on ok.od ok.oi (by have := fo.2; omega)) (z.after e12)
    | pro xs ys q =>
      obtain ⟨pp, px, py, pq, hx, hy, hpp, hq, htt⟩ := hd
      obtain ⟨q0, lq⟩ := ok.dt
      refine ⟨_, rfl, ix4 (i := 0) htt rfl ⟨rfl, _, rfl, if_no s_pl ⟨_, rfl, ix4 (i := 0) htt rfl ⟨rfl, _, rfl, if_no s_ps ⟨_, rfl, ix4 (i := 1) htt rfl (ix4 (i := 0) hpp rfl ⟨_, rfl, ix4 (i := 1) htt rfl (ix4 (i := 1) hpp rfl ?_)⟩)⟩⟩⟩⟩⟩
      refine ⟨_, rfl, ix4 (i := 2) htt rfl (ix4 (i := 0) hq rfl ⟨_, rfl, ix4 (i := 2) htt rfl (ix4 (i := 1) hq rfl ⟨_, _, rfl, den0 q, bn lq, bd lq, fun r H2 e2 n2 ir => ?_⟩)⟩)⟩
      rw [Rat.num_divInt_den] at ir
      refine ⟨_, rfl, ix4 (i := 3) (e2 _ _ htt) rfl ⟨rfl, rfl, ?_⟩⟩
      exact inP_new (.inl (e2 _ _ hx)) (.inl (e2 _ _ hy)) ok.nm ok.ne (.inr ⟨r, rfl, ir⟩) (sz_of lq) q0 (ways_os (e2 _ _ ho) (srt_mem _) ok.on ok.od ok.oi (by have := fo.2; omega)) (z.after e2)
end
end KD

set_option Elab.async false
set_option linter.all false
set_option maxRecDepth 100000
set_option maxHeartbeats 2000000
set_option exponentiation.threshold 20000
/-! _law_wide_tie. -/
namespace KD
open PySem PySem.Spec PyProof.Rows L2 Oo Gd Am KA SqX
/-- its numbers are small -/
def Sm (td : TD) : Prop := match td with
  | .loo _ => True
  | .sum ls q => (∀ p ∈ ls, p.2.natAbs < 2 ^ 100) ∧ Low 100 q
  | .pro _ _ q => Low 100 q
/-- a tie whose lists lie where S says -/
def TieIn (S : Addr → Prop) (H : Hp) (t : Addr) (td : TD) (os : List Str) : Prop := ∃ po, S po ∧ Ls H po os ∧ match td with
  | .loo xs => ∃ px, S px ∧ Ls H px xs ∧ H t = some (.tup [.str "loose", .ref px, .non, .ref po])
  | .sum ls q => ∃ pl ps pq, S pl ∧ H pl = some (.lst (ps.map V.ref)) ∧ Prs H ps ls ∧ Fr2 H pq q ∧ H t = some (.tup [.str "sum", .ref pl, .ref pq, .ref po])
  | .pro xs ys q => ∃ pp px py pq, (S px ∧ S py) ∧ Ls H px xs ∧ Ls H py ys ∧ H pp = some (.tup [.ref px, .ref py]) ∧ Fr2 H pq q ∧ H t = some (.tup [.str "product", .ref pp, .ref pq, .ref po])
theorem TieIn.at {S : Addr → Prop} {H : Hp} {t : Addr} {td : TD} {os : List Str} (h : TieIn S H t td os) : TieAt H t td os := by
  obtain ⟨po, _, ho, h⟩ := h
  cases td with
  | loo xs => obtain ⟨px, _, h⟩ := h; exact ⟨po, ho, px, h⟩
  | sum ls q => obtain ⟨pl, ps, pq, _, h⟩ := h; exact ⟨po, ho, pl, ps, pq, h⟩
  | pro xs ys q => obtain ⟨pp, px, py, pq, _, h⟩ := h; exact ⟨po, ho, pp, px, py, pq, h⟩
theorem TieIn.imp {S S' : Addr → Prop} {H : Hp} {t : Addr} {td : TD} {os : List Str} (i : ∀ a, S a → S' a) (h : TieIn S H t td os) : TieIn S' H t td os := by
  obtain ⟨po, s, ho, h⟩ := h
  cases td with
  | loo xs => obtain ⟨px, s2, h⟩ := h; exact ⟨po, i _ s, ho, px, i _ s2, h⟩
  | sum ls q => obtain ⟨pl, ps, pq, s2, h⟩ := h; exact ⟨po, i _ s, ho, pl, ps, pq, i _ s2, h⟩
  | pro xs ys q => obtain ⟨pp, px, py, pq, ⟨s2, s3⟩, h⟩ := h; exact ⟨po, i _ s, ho, pp, px, py, pq, ⟨i _ s2, i _ s3⟩, h⟩
theorem TieAt.in_ {H : Hp} {t : Addr} {td : TD} {os : List Str} (h : TieAt H t td os) : TieIn (fun a => H a ≠ none) H t td os := by
  have n : ∀ {a : Addr} {o : HO}, H a = some o → H a ≠ none := fun e q => by rw [e] at q; cases q
  obtain ⟨po, ho, h⟩ := h
  cases td with
  | loo xs => obtain ⟨px, a, b⟩ := h; exact ⟨po, n ho, ho, px, n a, a, b⟩
  | sum ls q => obtain ⟨pl, ps, pq, a, b⟩ := h; exact ⟨po, n ho, ho, pl, ps, pq, n a, a, b⟩
  | pro xs ys q => obtain ⟨pp, px, py, pq, a, b, c⟩ := h; exact ⟨po, n ho, ho, pp, px, py, pq, ⟨n a, n b⟩, a, b, c⟩
theorem Prs.put {H : Hp} {D : Addr} {ys : List V} {o : HO} (hD : H D = some (.lst ys)) : ∀ {ps : List Addr} {ls : List (Str × Int)}, Prs H ps ls → Prs (upd H D o) ps ls
  | _, _, .nil => .nil
  | _, _, .cons a b => .cons (by rw [upd_ne (ne_of a hD (fun e => nomatch e))]; exact a) (Prs.put hD b)
/-- another list is changed -/
theorem TieIn.upd {H : Hp} {t D : Addr} {td : TD} {os : List Str} {ys : List V} {o : HO} (h : TieIn (· ≠ D) H t td os) (hD : H D = some (.lst ys)) : TieIn (· ≠ D) (L2.upd H D o) t td os := by
  have tp : ∀ {a xs}, H a = some (.tup xs) → L2.upd H D o a = some (.tup xs) := fun a => by
    rw [upd_ne (ne_of a hD (fun e => nomatch e))]
    exact a
  have ls : ∀ {a : Addr} {u : HO}, a ≠ D → H a = some u → L2.upd H D o a = some u := fun n a => by
    rw [upd_ne n]
    exact a
  obtain ⟨po, s, ho, h⟩ := h
  cases td with
  | loo xs => obtain ⟨px, s2, a, b⟩ := h; exact ⟨po, s, ls s ho, px, s2, ls s2 a, tp b⟩
  | sum l q => obtain ⟨pl, ps, pq, s2, a, b, c, d⟩ := h; exact ⟨po, s, ls s ho, pl, ps, pq, s2, ls s2 a, Prs.put hD b, tp c, tp d⟩
  | pro xs ys q => obtain ⟨pp, px, py, pq, s2, a, b, c, d, f⟩ := h; exact ⟨po, s, ls s ho, pp, px, py, pq, s2, ls s2.1 a, ls s2.2 b, tp c, tp d, tp f⟩
theorem TieIn.ext {S : Addr → Prop} {H H' : Hp} {t : Addr} {td : TD} {os : List Str} (e : Am.Ext H H') (h : TieIn S H t td os) : TieIn S H' t td os := by
  obtain ⟨po, s, ho, h⟩ := h
  cases td with
  | loo xs => obtain ⟨px, s2, a, b⟩ := h; exact ⟨po, s, e _ _ ho, px, s2, e _ _ a, e _ _ b⟩
  | sum ls q => obtain ⟨pl, ps, pq, s2, a, b, c, d⟩ := h; exact ⟨po, s, e _ _ ho, pl, ps, pq, s2, e _ _ a, b.ext e, e _ _ c, e _ _ d⟩
  | pro xs ys q => obtain ⟨pp, px, py, pq, s2, a, b, c, d, f⟩ := h; exact ⟨po, s, e _ _ ho, pp, px, py, pq, s2, e _ _ a, e _ _ b, e _ _ c, e _ _ d, e _ _ f⟩
/-- a new tie -/
def NewTie (p : Addr) (spots : List Str) (H : Hp) (Q : VK) : Prop := ∀ (t : Addr) (H' : Hp) (td : TD) (os : List Str), Kp p H H' → H t = none → t ≠ p → TieIn (fun a => H a = none) H' t td os → TdOk td os → Sm td → (∀ x ∈ td.ins, x ∈ spots) → Q (.ref t) H'
theorem prs_new {H : Hp} {ps : List Addr} {ls : List (Str × Int)} {p : Addr} {x : Str} {n : Int} (h : Prs H ps ls) (hp : H p = some (.tup [.str x, .int n])) : Prs H (ps ++ [p]) (ls ++ [(x, n)]) := by
  induction h with
  | nil => exact .cons hp .nil
  | cons a _ ih => exact .cons a ih
theorem Ls.kp {p a : Addr} {H H' : Hp} {xs : List Str} (k : Kp p H H') (n : a ≠ p) (h : Ls H a xs) : Ls H' a xs := k.at n h
theorem ls_ne {p a : Addr} {H : Hp} {xs : List Str} (hp : Pot H p) (h : Ls H a xs) (ne : xs ≠ []) : a ≠ p := by
  obtain ⟨u, v, q, _⟩ := hp
  intro e
  have h' : H p = some (.lst (xs.map V.str)) := by rw [← e]; exact h
  rw [q] at h'
  have := Option.some.inj h'
  injection this with e2
  cases xs with
  | nil => exact ne rfl
  | cons x r => rw [List.map_cons] at e2; injection e2 with e3; cases e3
theorem Prs.mono {H H' : Hp} (f : ∀ a xs, H a = some (.tup xs) → H' a = some (.tup xs)) : ∀ {ps : List Addr} {ls : List (Str × Int)}, Prs H ps ls → Prs H' ps ls
  | _, _, .nil => .nil
  | _, _, .cons a b => .cons (f _ _ a) (Prs.mono f b)
theorem kp_tup {p : Addr} {H H' : Hp} (k : Kp p H H') (hp : Pot H p) {a : Addr} {xs : List V} (h : H a = some (.tup xs)) : H' a = some (.tup xs) := by
  obtain ⟨u, v, q, _⟩ := hp
  exact k.at (ne_of h q (fun e => nomatch e)) h
theorem cut_from (xs : List V) (i : Nat) (h : i ≤ xs.length) : cutV xs (some (i : Int)) none = xs.drop i := by
  unfold cutV
  rw [HT.sIx_none, HT.sIx_nat, Nat.min_eq_left h, List.take_of_length_le (by rw [List.length_drop]; exact Nat.le_refl _)]
section
variable {P : Program} {w : World} {K : W.Frag} {mg : Str → Option Value} {base : Heap} {f A C CT CP CL : Addr} {fd : FuncData} {t t2 t3 : Tok}
def spTie : Sp := fun vs H Q _ => ∃ (p a : Addr) (spots : List Str), vs = [.ref p, .ref a] ∧ Pot H p ∧ Ls H a spots ∧ Nms spots ∧ spots ≠ [] ∧ NewTie p spots H Q
abbrev nTie : List Str := ["_law_pot_here", "_law_spots", "_law_inside_here", "_law_outs", "_law_sort", "_law_cut", "_law_scale", "_law_spot"]
theorem scTie : FnScope nTie ["_law_pot_here", "_law_spots"] (defScope (top 52)) := ⟨rfl, rfl, rfl, by decide +kernel, rfl, by decide +kernel, by decide +kernel⟩
theorem ok_tie (fr : Frees mg) (D1 : DnD P w K mg base) (DS : Dn P w K mg base CX0 2 "_law_some" ["_law_pot_here", "_law_things", "_law_most"] (spSome K)) (DW : Dn P w K mg base CX0 3 "_law_weight" ["_law_pot_here"] spWei) (DF : Dn P w K mg base CX0 3 "_law_fraction" ["_law_pot_here"] spFrac)
    (F : Fun K "_law_wide_tie" "_law_wide_tie" (top 52) f fd) : FnOk P w K mg base CX0 4 f fd ["_law_pot_here", "_law_spots"] spTie := by
  refine F.ok scTie (fun vs H Q E h => ?_) (fun cdv A' outer s H vs Q E hr h => ?_)
  · obtain ⟨p, a, spots, rfl, _⟩ := h
    rfl
  · obtain ⟨p, a, spots, rfl, hp, ha, nm, ne, z⟩ := h
    have nd := scTie.nd
    have isk : IsK K := ⟨trivial⟩
    have big : (1000000 : Nat) ≤ sizeLine := by decide
    refine ⟨_, pss_cons (ps_set (i := 2) nd rfl (.inl rfl) (pe_dn DS hr (by rfl) (by decide) (pa_cons (pv 0) (pa_cons (pv 1) (pa_cons pe_int pa_nil)))))
      (C8.pss_cut (ps_set (i := 3) nd rfl (.inl rfl) (pe_ifExp (pt_cmpR op_eq (pe_dn D1 hr (by rfl) (by decide) (pa_cons (pv 0) (pa_cons pe_int pa_nil))) pe_int (nomark _)) (pv 2) (pe_dn DS hr (by rfl) (by decide) (pa_cons (pv 0) (pa_cons (pv 2) (pa_cons pe_int pa_nil))))))
      (pss_cons (ps_set (i := 4) nd rfl (.inl rfl) (pe_dn D1 hr (by rfl) (by decide) (pa_cons (pv 0) (pa_cons pe_int pa_nil))))
      (pss_cons (ps_if (pt_cmpR op_eq (pv 4) pe_int (nomark _)) (pss_one (ps_ret (pe_tup (pa_cons pe_str (pa_cons (pv 2) (pa_cons pe_non (pa_cons (pv 3) pa_nil))))))) pss_nil)
      (pss_cons (ps_if (pt_cmpR op_eq (pv 4) pe_int (nomark _)) (pss_one (ps_ret (pe_tup (pa_cons pe_str (pa_cons (pe_lc (own := [("_law_spot", 7)]) (g := gName 7) (tt := tYes) rfl nd (pi_list (pv 2)) (blkOk_by (N := nTie) (sc := defScope (top 52)) (by decide +kernel)) (fun _ _ _ _ _ => pg_name (i := 7) nd rfl (Or.inl rfl)) (fun _ _ _ _ _ => pts_nil)
          (fun s1 H1 C1 c1 f1 => by exact pe_tup (pa_cons (pv 7) (pa_cons (pe_dn DW hr (by rfl) (by decide) (pa_cons (pv 0) pa_nil)) pa_nil))))
        (pa_cons (pe_dn DF hr (by rfl) (by decide) (pa_cons (pv 0) pa_nil)) (pa_cons (pv 3) pa_nil))))))) pss_nil)
      (pss_cons (ps_par (i := 5) (j := 6) rfl nd rfl rfl (by decide) rfl rfl (pa_cons (pe_dn D1 hr (by rfl) (by decide) (pa_cons (pv 0) (pa_cons (pe_op op_add (pe_callB (lenK isk) rfl (fr.h _ (by decide +kernel)) (by decide +kernel) (pa_cons (pv 2) pa_nil)) pe_int) pa_nil))) (pa_cons (pe_dn DF hr (by rfl) (by decide) (pa_cons (pv 0) pa_nil)) pa_nil)) (by rfl))
      (pss_one (ps_ret (pe_tup (pa_cons pe_str (pa_cons (pe_tup (pa_cons (pe_slice sl_list (pv 2) po_none (po_some (pv 5))) (pa_cons (pe_slice sl_list (pv 2) (po_some (pv 5)) po_none) pa_nil)))
        (pa_cons (pe_ifExp (pt_cmpR op_ne (pe_ix (ixK isk) (pv 6) pe_int (fun _ _ => rfl)) pe_int (nomark _)) (pv 6) (pe_tup (pa_cons (pe_un un_neg pe_int) (pa_cons pe_int pa_nil)))) (pa_cons (pv 3) pa_nil)))))))))))), ?_⟩
    refine ⟨_, rfl, _, rfl, p, a, 6, spots, rfl, hp, ha, nm.nd, ne, nm.few, by decide, by decide, fun L H1 ins k1 nL Lp hL si => ?_⟩
    obtain ⟨ind, isub, ine, il⟩ := si
    have inm : Nms ins := ⟨fun x hx => nm.ok x (isub x hx), ind, by omega⟩
    have s0 : L2.start nTie [.ref p, .ref a] = [some (.ref p), some (.ref a), none, none, none, none, none, none] := rfl
    refine ⟨fun σ H2 => ∃ (po : Addr) (os : List Str), σ = [some (.ref p), some (.ref a), some (.ref L), some (.ref po), none, none, none, none] ∧ Kp p H H2 ∧ Ls H2 L ins ∧ Ls H2 po os ∧ po ≠ p ∧ os.Nodup ∧ os ≠ [] ∧ (∀ o ∈ os, o ∈ ins) ∧ H po = none, ?_, ?_⟩
    · refine ⟨_, rfl, p, 3, rfl, k1.pot, by decide, by decide, fun d H2 d0 d1 k2 => ⟨rfl, _, rfl, ite2 (fun _ => ?_) (fun _ => ?_)⟩⟩
      · exact ⟨_, rfl, L, ins, rfl, k1.trans k2, k2.at Lp hL, k2.at Lp hL, Lp, ind, ine, fun _ h => h, nL⟩
      · refine ⟨_, rfl, _, rfl, p, L, 6, ins, rfl, k2.pot, k2.at Lp hL, ind, ine, inm.few, by decide, by decide, fun po H3 os k3 n3 pop ho so => ?_⟩
        exact ⟨po, os, rfl, (k1.trans k2).trans k3, k3.at Lp (k2.at Lp hL), ho, pop, so.1, so.2.2.1, so.2.1, (k1.trans k2).gone pop n3⟩
    rintro σ H2 ⟨po, os, rfl, k2, hL2, ho, pop, ond, one, osub, npo⟩
    have dtL : TdOk (.loo ins) os := ⟨inm, ine, ond, osub, one, trivial⟩
    refine ⟨_, rfl, p, 3, rfl, k2.pot, by decide, by decide, fun s H3 s0' s1 k3 => ?_⟩
    have k03 := k2.trans k3
    have hL3 := k3.at Lp hL2
    have ho3 := k3.at pop ho
    have gone : ∀ {H' : Hp} {T : Addr}, Kp p H H' → H' T = none → H T = none ∧ T ≠ p := fun {H' T} k n => ⟨k.gone (ne_pot k.pot n) n, ne_pot k.pot n⟩
    refine ⟨_, rfl, rfl, _, rfl, ite2 (fun _ => ?_) (fun _ => ?_)⟩
    · refine ⟨_, rfl, _, rfl, (by show 4 ≤ sizeLine; decide), fun T hT => ?_⟩
      obtain ⟨hT0, Tp'⟩ := gone k03 hT
      have eT := Am.Ext.new (o := .tup [.str "loose", .ref L, .non, .ref po]) hT
      exact z T _ (.loo ins) os (k03.trans (Kp.new k3.pot hT)) hT0 Tp' ⟨po, npo, eT _ _ ho3, L, nL, eT _ _ hL3, upd_same⟩ dtL trivial isub
    refine ⟨_, rfl, rfl, _, rfl, ite2 (fun _ => ?_) (fun _ => ?_)⟩
    · refine ⟨_, rfl, L, rfl, ⟨_, SqL.of hL3⟩, fun D hD => ?_⟩
      have Dp := ne_pot k3.pot hD
      refine lc_it (walk_list (xs := ins.map V.str)) (fun i H' => Kp p H3 H' ∧ ∃ (ps : List Addr) (ls : List (Str × Int)), H' D = some (.lst (ps.map V.ref)) ∧ Prs H' ps ls ∧ ls.map (·.1) = ins.take i ∧ ∀ x ∈ ls, x.2 ≠ 0 ∧ x.2.natAbs < 2 ^ 100) ⟨Kp.new k3.pot hD, [], [], by rw [upd_same]; rfl, .nil, rfl, fun _ q => nomatch q⟩ (fun i H' _ h => SqL.of (h.1.at Lp hL3)) ?_ ?_
      · rintro i y H4 H5 hi ⟨k4, ps, ls, d4, pr, lm, lb⟩ ⟨rfl, hy⟩
        obtain ⟨x, hx, rfl⟩ := map_at hy
        have lps : ps.length ≤ 64 := by
          have := congrArg List.length lm
          rw [List.length_map, List.length_take] at this
          rw [prs_len pr]
          omega
        refine ⟨rfl, _, rfl, _, rfl, p, rfl, k4.pot, fun n H6 n0 nb k6 => ⟨(by show 2 ≤ sizeLine; decide), fun T hT => ?_⟩⟩
        have k46 := k4.trans k6
        have d6 := k6.at Dp d4
        have DT : D ≠ T := ne_of_none d6 hT
        have pr6 : Prs H6 ps ls := pr.mono fun a xs h => kp_tup k6 k4.pot h
        refine ⟨ps.map V.ref, by rw [upd_ne DT]; exact d6, by rw [List.length_map]; omega, (k46.trans (Kp.new k6.pot hT)).over Dp hD, ps ++ [T], ls ++ [(x, n)], ?_, ?_, ?_, ?_⟩
        · rw [upd_same, List.map_append]
          rfl
        · refine prs_new (pr6.mono fun a xs h => ?_) ?_
          · rw [upd_ne (ne_of h d6 (fun e => nomatch e)), upd_ne (ne_of_none h hT)]
            exact h
          · rw [upd_ne (Ne.symm DT), upd_same]
        · rw [List.map_append, lm, take_suc hx]
          rfl
        · intro u hu
          rcases List.mem_append.mp hu with hu | hu
          · exact lb u hu
          · rw [List.mem_singleton] at hu
            rw [hu]
            exact ⟨n0, nb⟩
      · rintro H4 ⟨k4, ps, ls, d4, pr, lm, lb⟩
        rw [List.length_map, List.take_length] at lm
        refine ⟨_, rfl, p, rfl, k4.pot, fun tq H5 q k5 n5 tqp hq lq => ⟨_, rfl, (by show 4 ≤ sizeLine; decide), fun T hT => ?_⟩⟩
        have k35 := k4.trans k5
        have k05 := k03.trans k35
        obtain ⟨hT0, Tp'⟩ := gone k05 hT
        have eT := Am.Ext.new (o := .tup [.str "sum", .ref D, .ref tq, .ref po]) hT
        have pr5 : Prs H5 ps ls := pr.mono fun a xs h => kp_tup k5 k4.pot h
        refine z T _ (.sum ls q) os (k05.trans (Kp.new k5.pot hT)) hT0 Tp' ⟨po, npo, eT _ _ (k35.at pop ho3), D, ps, tq, (gone k03 hD).1, eT _ _ (k5.at Dp d4), pr5.ext eT, eT _ _ hq, upd_same⟩ ⟨by show Nms (ls.map (·.1)); rw [lm]; exact inm, by show ls.map (·.1) ≠ []; rw [lm]; exact ine, ond, by show ∀ o ∈ os, o ∈ ls.map (·.1); rw [lm]; exact osub, one, fun x hx => ⟨(lb x hx).1, Nat.lt_trans (lb x hx).2 (by decide)⟩, lq.more (by decide)⟩ ⟨fun x hx => (lb x hx).2, lq⟩ (by show ∀ x ∈ ls.map (·.1), x ∈ spots; rw [lm]; exact isub)
    · refine ⟨_, rfl, _, rfl, .inl ⟨L, _, rfl, .inl (SqL.of hL3), _, _, rfl, rfl, p, _, rfl, k3.pot, by rw [List.length_map]; omega, by rw [List.length_map]; have := inm.few; omega, fun c H4 c0 c1 k4 => ⟨_, rfl, p, rfl, k4.pot, fun tq H5 q k5 n5 tqp hq lq => ⟨_, _, rfl, ?_⟩⟩⟩⟩
      rw [List.length_map] at c1
      obtain ⟨j, rfl⟩ := Int.eq_ofNat_of_zero_le c0
      have hj : j ≤ ins.length := by omega
      have k35 := k4.trans k5
      have k05 := k03.trans k35
      have hL5 := k35.at Lp hL3
      have ho5 := k35.at pop ho3
      refine ⟨_, rfl, _, rfl, j, rfl, L, _, rfl, SqL.of hL5, fun X1 h1 => ?_⟩
      rw [cut_to _ j (by rw [List.length_map]; exact hj)]
      have e1 := Am.Ext.new (o := .lst ((ins.map V.str).take j)) h1
      refine ⟨_, rfl, _, rfl, j, rfl, L, _, rfl, SqL.of (e1 _ _ hL5), fun X2 h2 => ?_⟩
      rw [cut_from _ j (by rw [List.length_map]; exact hj)]
      have e2 := e1.trans (Am.Ext.new (o := .lst ((ins.map V.str).drop j)) h2)
      have nX1 : H X1 = none := (gone k05 h1).1
      have nX2 : H X2 = none := (gone k05 (e1.gone h2)).1
      have hX1 := Am.Ext.new (o := .lst ((ins.map V.str).drop j)) h2 _ _ (upd_same (H := H5) (a := X1) (o := .lst ((ins.map V.str).take j)))
      have hX2 : upd (upd H5 X1 (.lst ((ins.map V.str).take j))) X2 (.lst ((ins.map V.str).drop j)) X2 = some (.lst ((ins.map V.str).drop j)) := upd_same
      generalize upd (upd H5 X1 (.lst ((ins.map V.str).take j))) X2 (.lst ((ins.map V.str).drop j)) = H6 at e2 hX1 hX2 ⊢
      refine ⟨(by show 2 ≤ sizeLine; decide), fun T1 hT1 => ?_⟩
      have e3 := e2.then (o := .tup [.ref X1, .ref X2]) hT1
      have eT1 := Am.Ext.new (o := .tup [.ref X1, .ref X2]) hT1
      have hT1v : upd H6 T1 (.tup [.ref X1, .ref X2]) T1 = some (.tup [.ref X1, .ref X2]) := upd_same
      replace hX1 := eT1 _ _ hX1
      replace hX2 := eT1 _ _ hX2
      generalize upd H6 T1 (.tup [.ref X1, .ref X2]) = H7 at e3 hX1 hX2 hT1v ⊢
      rw [← List.map_take] at hX1
      rw [← List.map_drop] at hX2
      have tk : ins.take j ++ ins.drop j = ins := List.take_append_drop j ins
      have fin : ∀ (tq' : Addr) (H8 : Hp) (q' : Rat), Am.Ext H7 H8 → Fr2 H8 tq' q' → Low 100 q' → q' ≠ 0 → ∀ T, H8 T = none → Q (.ref T) (upd H8 T (.tup [.str "product", .ref T1, .ref tq', .ref po])) := by
        intro tq' H8 q' e8 hq' lq' q0 T hT
        have e58 := e3.trans e8
        have k58 : Kp p H5 H8 := ⟨fun b o _ hb => e58 b o hb, by
          obtain ⟨u, v, x, r⟩ := k5.pot
          exact ⟨u, v, e58 _ _ x, r⟩⟩
        have k08 := k05.trans k58
        obtain ⟨hT0, Tp'⟩ := gone k08 hT
        have eT := Am.Ext.new (o := .tup [.str "product", .ref T1, .ref tq', .ref po]) hT
        refine z T _ (.pro (ins.take j) (ins.drop j) q') os (k08.trans (Kp.new k08.pot hT)) hT0 Tp' ⟨po, npo, eT _ _ (e58 _ _ ho5), T1, X1, X2, tq', ⟨nX1, nX2⟩, eT _ _ (e8 _ _ hX1), eT _ _ (e8 _ _ hX2), eT _ _ (e8 _ _ hT1v), eT _ _ hq', upd_same⟩
          ⟨by show Nms (ins.take j ++ ins.drop j); rw [tk]; exact inm, by show ins.take j ++ ins.drop j ≠ []; rw [tk]; exact ine, ond, by show ∀ o ∈ os, o ∈ ins.take j ++ ins.drop j; rw [tk]; exact osub, one, q0, lq'.more (by decide)⟩ lq' (by show ∀ x ∈ ins.take j ++ ins.drop j, x ∈ spots; rw [tk]; exact isub)
      have hq7 : Fr2 H7 tq q := e3 _ _ hq
      refine ⟨_, rfl, ix4 (i := 0) hq7 rfl ⟨rfl, _, rfl, ite2 (fun c => ?_) (fun c => ?_)⟩⟩
      · have q0 : q ≠ 0 := fun e => by
          rw [e] at c
          simp at c
        exact ⟨_, rfl, _, rfl, (by show 4 ≤ sizeLine; decide), fun T hT => fin tq H7 q (Am.Ext.refl _) hq7 lq q0 T hT⟩
      · refine ⟨1, rfl, (by show 2 ≤ sizeLine; decide), fun T2 hT2 => ⟨_, rfl, (by show 4 ≤ sizeLine; decide), fun T hT => ?_⟩⟩
        exact fin T2 _ (-1) (Am.Ext.new hT2) upd_same ⟨by decide, by decide⟩ (by decide) T hT
end
end KD

set_option Elab.async false
set_option linter.all false
set_option maxRecDepth 100000
set_option maxHeartbeats 2000000
set_option exponentiation.threshold 20000
/-! _law_near_tie. -/
namespace KD
open PySem PySem.Spec PyProof.Rows L2 Oo Gd Am KA SqX
theorem ls_pot {p a : Addr} {H : Hp} {xs : List Str} (hp : Pot H p) (h : Ls H a xs) : a ≠ p := by
  obtain ⟨u, v, q, _⟩ := hp
  refine ne_of h q fun e => ?_
  injection e with e2
  cases xs with
  | nil => cases e2
  | cons x r => rw [List.map_cons] at e2; injection e2 with e3; cases e3
theorem rf_pot {p a : Addr} {H : Hp} {xs : List Addr} (hp : Pot H p) (h : H a = some (.lst (xs.map V.ref))) : a ≠ p := by
  obtain ⟨u, v, q, _⟩ := hp
  refine ne_of h q fun e => ?_
  injection e with e2
  cases xs with
  | nil => cases e2
  | cons x r => rw [List.map_cons] at e2; injection e2 with e3; cases e3
theorem TieAt.kp {p : Addr} {H H' : Hp} {t : Addr} {td : TD} {os : List Str} (k : Kp p H H') (hp : Pot H p) (h : TieAt H t td os) : TieAt H' t td os := by
  have ls : ∀ {a xs}, Ls H a xs → Ls H' a xs := fun h => k.at (ls_pot hp h) h
  have tp : ∀ {a xs}, H a = some (.tup xs) → H' a = some (.tup xs) := fun h => kp_tup k hp h
  obtain ⟨po, ho, h⟩ := h
  cases td with
  | loo xs => obtain ⟨px, a, b⟩ := h; exact ⟨po, ls ho, px, ls a, tp b⟩
  | sum l q => obtain ⟨pl, ps, pq, a, b, c, d⟩ := h; exact ⟨po, ls ho, pl, ps, pq, k.at (rf_pot hp a) a, b.mono fun _ _ => tp, tp c, tp d⟩
  | pro xs ys q => obtain ⟨pp, px, py, pq, a, b, c, d, f⟩ := h; exact ⟨po, ls ho, pp, px, py, pq, ls a, ls b, tp c, tp d, tp f⟩
theorem TdOk.sub {td : TD} {os os2 : List Str} (h : TdOk td os) (d : os2.Nodup) (s : ∀ o ∈ os2, o ∈ os) (n : os2 ≠ []) : TdOk td os2 := by
  cases td <;> exact ⟨h.nm, h.ne, d, fun o ho => h.oi o (s o ho), n, h.dt⟩
def kind : TD → Str
  | .loo _ => "loose"
  | .sum _ _ => "sum"
  | .pro _ _ _ => "product"
/-- the two places within -/
def TieV (H : Hp) (td : TD) (v1 v2 : V) : Prop := match td with
  | .loo xs => ∃ px, Ls H px xs ∧ v1 = .ref px ∧ v2 = .non
  | .sum ls q => ∃ pl ps pq, H pl = some (.lst (ps.map V.ref)) ∧ Prs H ps ls ∧ Fr2 H pq q ∧ v1 = .ref pl ∧ v2 = .ref pq
  | .pro xs ys q => ∃ pp px py pq, Ls H px xs ∧ Ls H py ys ∧ H pp = some (.tup [.ref px, .ref py]) ∧ Fr2 H pq q ∧ v1 = .ref pp ∧ v2 = .ref pq
theorem TieAt.v {H : Hp} {t : Addr} {td : TD} {os : List Str} (h : TieAt H t td os) : ∃ po v1 v2, Ls H po os ∧ TieV H td v1 v2 ∧ H t = some (.tup [.str (kind td), v1, v2, .ref po]) := by
  obtain ⟨po, ho, h⟩ := h
  cases td with
  | loo xs => obtain ⟨px, a, b⟩ := h; exact ⟨po, _, _, ho, ⟨px, a, rfl, rfl⟩, b⟩
  | sum l q => obtain ⟨pl, ps, pq, a, b, c, d⟩ := h; exact ⟨po, _, _, ho, ⟨pl, ps, pq, a, b, c, rfl, rfl⟩, d⟩
  | pro xs ys q => obtain ⟨pp, px, py, pq, a, b, c, d, f⟩ := h; exact ⟨po, _, _, ho, ⟨pp, px, py, pq, a, b, c, d, rfl, rfl⟩, f⟩
theorem TieV.ext {H H' : Hp} {td : TD} {v1 v2 : V} (e : Am.Ext H H') (h : TieV H td v1 v2) : TieV H' td v1 v2 := by
  cases td with
  | loo xs => obtain ⟨px, a, b⟩ := h; exact ⟨px, e _ _ a, b⟩
  | sum l q => obtain ⟨pl, ps, pq, a, b, c, d⟩ := h; exact ⟨pl, ps, pq, e _ _ a, b.ext e, e _ _ c, d⟩
  | pro xs ys q => obtain ⟨pp, px, py, pq, a, b, c, d, f⟩ := h; exact ⟨pp, px, py, pq, e _ _ a, e _ _ b, e _ _ c, e _ _ d, f⟩
theorem TieV.at {H : Hp} {t po : Addr} {td : TD} {os : List Str} {v1 v2 : V} (h : TieV H td v1 v2) (ho : Ls H po os) (ht : H t = some (.tup [.str (kind td), v1, v2, .ref po])) : TieAt H t td os := by
  cases td with
  | loo xs => obtain ⟨px, a, rfl, rfl⟩ := h; exact ⟨po, ho, px, a, ht⟩
  | sum l q => obtain ⟨pl, ps, pq, a, b, c, rfl, rfl⟩ := h; exact ⟨po, ho, pl, ps, pq, a, b, c, ht⟩
  | pro xs ys q => obtain ⟨pp, px, py, pq, a, b, c, d, rfl, rfl⟩ := h; exact ⟨po, ho, pp, px, py, pq, a, b, c, d, ht⟩
/-- the two places within, whose lists lie where S says -/
def TieVI (S : Addr → Prop) (H : Hp) (td : TD) (v1 v2 : V) : Prop := match td with
  | .loo xs => ∃ px, S px ∧ Ls H px xs ∧ v1 = .ref px ∧ v2 = .non
  | .sum ls q => ∃ pl ps pq, S pl ∧ H pl = some (.lst (ps.map V.ref)) ∧ Prs H ps ls ∧ Fr2 H pq q ∧ v1 = .ref pl ∧ v2 = .ref pq
  | .pro xs ys q => ∃ pp px py pq, (S px ∧ S py) ∧ Ls H px xs ∧ Ls H py ys ∧ H pp = some (.tup [.ref px, .ref py]) ∧ Fr2 H pq q ∧ v1 = .ref pp ∧ v2 = .ref pq
theorem TieIn.v {S : Addr → Prop} {H : Hp} {t : Addr} {td : TD} {os : List Str} (h : TieIn S H t td os) : ∃ po v1 v2, S po ∧ Ls H po os ∧ TieVI S H td v1 v2 ∧ H t = some (.tup [.str (kind td), v1, v2, .ref po]) := by
  obtain ⟨po, so, ho, h⟩ := h
  cases td with
  | loo xs => obtain ⟨px, s, a, b⟩ := h; exact ⟨po, _, _, so, ho, ⟨px, s, a, rfl, rfl⟩, b⟩
  | sum l q => obtain ⟨pl, ps, pq, s, a, b, c, d⟩ := h; exact ⟨po, _, _, so, ho, ⟨pl, ps, pq, s, a, b, c, rfl, rfl⟩, d⟩
  | pro xs ys q => obtain ⟨pp, px, py, pq, s, a, b, c, d, f⟩ := h; exact ⟨po, _, _, so, ho, ⟨pp, px, py, pq, s, a, b, c, d, rfl, rfl⟩, f⟩
theorem TieVI.ext {S : Addr → Prop} {H H' : Hp} {td : TD} {v1 v2 : V} (e : Am.Ext H H') (h : TieVI S H td v1 v2) : TieVI S H' td v1 v2 := by
  cases td with
  | loo xs => obtain ⟨px, s, a, b⟩ := h; exact ⟨px, s, e _ _ a, b⟩
  | sum l q => obtain ⟨pl, ps, pq, s, a, b, c, d⟩ := h; exact ⟨pl, ps, pq, s, e _ _ a, b.ext e, e _ _ c, d⟩
  | pro xs ys q => obtain ⟨pp, px, py, pq, s, a, b, c, d, f⟩ := h; exact ⟨pp, px, py, pq, s, e _ _ a, e _ _ b, e _ _ c, e _ _ d, f⟩
theorem TieVI.at {S : Addr → Prop} {H : Hp} {t po : Addr} {td : TD} {os : List Str} {v1 v2 : V} (h : TieVI S H td v1 v2) (so : S po) (ho : Ls H po os) (ht : H t = some (.tup [.str (kind td), v1, v2, .ref po])) : TieIn S H t td os := by
  cases td with
  | loo xs => obtain ⟨px, s, a, rfl, rfl⟩ := h; exact ⟨po, so, ho, px, s, a, ht⟩
  | sum ls q => obtain ⟨pl, ps, pq, s, a, b, c, rfl, rfl⟩ := h; exact ⟨po, so, ho, pl, ps, pq, s, a, b, c, ht⟩
  | pro xs ys q => obtain ⟨pp, px, py, pq, s, a, b, c, d, rfl, rfl⟩ := h; exact ⟨po, so, ho, pp, px, py, pq, s, a, b, c, d, ht⟩
theorem TieIn.kp {S : Addr → Prop} {p : Addr} {H H' : Hp} {t : Addr} {td : TD} {os : List Str} (k : Kp p H H') (hp : Pot H p) (h : TieIn S H t td os) : TieIn S H' t td os := by
  have ls : ∀ {a xs}, Ls H a xs → Ls H' a xs := fun h => k.at (ls_pot hp h) h
  have tp : ∀ {a xs}, H a = some (.tup xs) → H' a = some (.tup xs) := fun h => kp_tup k hp h
  obtain ⟨po, so, ho, h⟩ := h
  cases td with
  | loo xs => obtain ⟨px, s, a, b⟩ := h; exact ⟨po, so, ls ho, px, s, ls a, tp b⟩
  | sum l q => obtain ⟨pl, ps, pq, s, a, b, c, d⟩ := h; exact ⟨po, so, ls ho, pl, ps, pq, s, k.at (rf_pot hp a) a, b.mono fun _ _ => tp, tp c, tp d⟩
  | pro xs ys q => obtain ⟨pp, px, py, pq, s, a, b, c, d, f⟩ := h; exact ⟨po, so, ls ho, pp, px, py, pq, s, ls a, ls b, tp c, tp d, tp f⟩
theorem nl_l : ¬ ((!decide (V.str "loose" = V.str "loose")) = true) := by decide
theorem nl_s : (!decide (V.str "sum" = V.str "loose")) = true := by decide
theorem nl_p : (!decide (V.str "product" = V.str "loose")) = true := by decide
theorem if_T {c : Bool} {A B : Prop} (hc : c = true) (h : A) : if c = true then A else B := by
  rw [if_pos hc]
  exact h
theorem Nms.swap {xs ys : List Str} (h : Nms (xs ++ ys)) : Nms (ys ++ xs) := ⟨fun x hx => h.ok x (by rw [List.mem_append] at hx ⊢; exact hx.symm), List.perm_append_comm.nodup_iff.mp h.nd, by have := h.few; rw [List.length_append] at this ⊢; omega⟩
theorem divInt_zero {n d : Int} (h : 0 < d) : Rat.divInt n d = 0 ↔ n = 0 := by
  constructor
  · intro e
    have a := Rat.num_divInt n d
    rw [e] at a
    have g : ((d.gcd n : Nat) : Int) ∣ n := Int.gcd_dvd_right ..
    obtain ⟨k, hk⟩ := g
    rw [Int.sign_eq_one_of_pos h, Int.one_mul] at a
    have g0 : ((d.gcd n : Nat) : Int) ≠ 0 := by
      have : 0 < d.gcd n := Int.gcd_pos_of_ne_zero_left _ (by omega)
      omega
    have key : ∀ g : Int, g ≠ 0 → n = g * k → (0 : Int) = n / g → n = 0 := fun g g0 h1 h2 => by
      rw [h1, Int.mul_ediv_cancel_left _ g0] at h2
      rw [h1, ← h2, Int.mul_zero]
    exact key _ g0 hk a
  · rintro rfl
    simp
theorem low_div {n d : Int} (h0 : 0 < d) (hn : n.natAbs < 2 ^ 200) (hd : d.natAbs < 2 ^ 200) : Low 200 (Rat.divInt n d) := by
  obtain ⟨b1, b2⟩ := divInt_le n d (by omega)
  exact ⟨Nat.lt_of_le_of_lt b1 hn, Nat.lt_of_le_of_lt b2 hd⟩
theorem if_b {c : Bool} {A B : Prop} (h1 : c = true → A) (h2 : B) : if c = true then A else B := by
  by_cases h : c = true
  · rw [if_pos h]; exact h1 h
  · rw [if_neg h]; exact h2
section
variable {P : Program} {w : World} {K : W.Frag} {mg : Str → Option Value} {base : Heap} {f A C CT CP CL : Addr} {fd : FuncData} {t t2 t3 : Tok}
def spNear : Sp := fun vs H Q _ => ∃ (p t : Addr) (td : TD) (os : List Str) (S : Addr → Prop), vs = [.ref p, .ref t] ∧ Pot H p ∧ TieIn S H t td os ∧ TdOk td os ∧ Sm td ∧ (∀ a, H a = none → S a) ∧
  ∀ (t2 : Addr) (H' : Hp) (td2 : TD) (os2 : List Str), Kp p H H' → TieIn S H' t2 td2 os2 → TdOk td2 os2 → Q (.ref t2) H'
abbrev nNear : List Str := ["_law_pot_here", "_law_tie", "_law_way", "_law_outs"]
theorem scNear : FnScope nNear ["_law_pot_here", "_law_tie"] (defScope (top 59)) := ⟨rfl, rfl, rfl, by decide +kernel, rfl, by decide +kernel, by decide +kernel⟩
theorem ok_near (fr : Frees mg) (D1 : DnD P w K mg base) (DI : Dn P w K mg base CX0 1 "_law_inside" ["_law_tie"] spIns) (DL : DnL P w K mg base) (F : Fun K "_law_near_tie" "_law_near_tie" (top 59) f fd) : FnOk P w K mg base CX0 2 f fd ["_law_pot_here", "_law_tie"] spNear := by
  refine F.ok scNear (fun vs H Q E h => ?_) (fun cdv A' outer s H vs Q E hr h => ?_)
  · obtain ⟨p, t, td, os, S, rfl, _⟩ := h
    rfl
  · obtain ⟨p, t, td, os, S, rfl, hp, ht, ok, sm, sn, z⟩ := h
    have nd := scNear.nd
    have isk : IsK K := ⟨trivial⟩
    have big : (1000000 : Nat) ≤ sizeLine := by decide
    refine ⟨_, pss_cons (ps_par (i := 2) (j := 3) rfl nd rfl rfl (by decide) rfl rfl (pa_cons (pe_dn D1 hr (by rfl) (by decide) (pa_cons (pv 0) (pa_cons pe_int pa_nil))) (pa_cons (pe_ix (ixK isk) (pv 1) pe_int (fun _ _ => rfl)) pa_nil)) (by rfl))
      (C8.pss_cut (ps_if (PW.pt (pw_and (pt_cmpR op_eq (pv 2) pe_int (nomark _)) (pw_and1 (pt_cmpR op_gt (pe_callB (lenK isk) rfl (fr.h _ (by decide +kernel)) (by decide +kernel) (pa_cons (pv 3) pa_nil)) pe_int (nomark _))))) (pss_one (ps_ret (pe_tup (pa_cons (pe_ix (ixK isk) (pv 1) pe_int (fun _ _ => rfl)) (pa_cons (pe_ix (ixK isk) (pv 1) pe_int (fun _ _ => rfl)) (pa_cons (pe_ix (ixK isk) (pv 1) pe_int (fun _ _ => rfl)) (pa_cons (pe_slice sl_list (pv 3) (po_some pe_int) po_none) pa_nil))))))) pss_nil)
      (C8.pss_cut (ps_if (PW.pt (pw_and (pt_cmpR op_eq (pv 2) pe_int (nomark _)) (pw_and1 (pt_cmpR op_ne (pe_ix (ixK isk) (pv 1) pe_int (fun _ _ => rfl)) pe_str (nomark _))))) (pss_one (ps_ret (pe_tup (pa_cons (pe_ix (ixK isk) (pv 1) pe_int (fun _ _ => rfl)) (pa_cons (pe_ix (ixK isk) (pv 1) pe_int (fun _ _ => rfl))
          (pa_cons (pe_dn DL hr (by rfl) (by decide) (pa_cons (pe_op op_add (pe_op op_add (pe_ix (ixK isk) (pe_ix (ixK isk) (pv 1) pe_int (fun _ _ => rfl)) pe_int (fun _ _ => rfl)) pe_int) (pe_callTy call_int1 rfl (fr.h _ (by decide +kernel)) (by decide +kernel) (pa_cons (pe_cmpR op_eq (pe_ix (ixK isk) (pe_ix (ixK isk) (pv 1) pe_int (fun _ _ => rfl)) pe_int (fun _ _ => rfl)) (pe_un un_neg pe_int) (nomark _)) pa_nil)))
            (pa_cons (pe_ix (ixK isk) (pe_ix (ixK isk) (pv 1) pe_int (fun _ _ => rfl)) pe_int (fun _ _ => rfl)) pa_nil))) (pa_cons (pv 3) pa_nil))))))) pss_nil)
      (C8.pss_cut (ps_if (PW.pt (pw_and (pt_cmpR op_eq (pv 2) pe_int (nomark _)) (pw_and1 (pt_cmpR op_eq (pe_ix (ixK isk) (pv 1) pe_int (fun _ _ => rfl)) pe_str (nomark _))))) (pss_one (ps_ret (pe_tup (pa_cons (pe_ix (ixK isk) (pv 1) pe_int (fun _ _ => rfl))
          (pa_cons (pe_op op_addA (pe_lst (pa_cons (pe_tup (pa_cons (pe_ix (ixK isk) (pe_ix (ixK isk) (pe_ix (ixK isk) (pv 1) pe_int (fun _ _ => rfl)) pe_int (fun _ _ => rfl)) pe_int (fun _ _ => rfl)) (pa_cons (pe_op op_mulW (pe_ix (ixK isk) (pe_ix (ixK isk) (pe_ix (ixK isk) (pv 1) pe_int (fun _ _ => rfl)) pe_int (fun _ _ => rfl)) pe_int (fun _ _ => rfl)) pe_int) pa_nil))) pa_nil)) (pe_slice sl_list (pe_ix (ixK isk) (pv 1) pe_int (fun _ _ => rfl)) (po_some pe_int) po_none))
          (pa_cons (pe_ix (ixK isk) (pv 1) pe_int (fun _ _ => rfl)) (pa_cons (pv 3) pa_nil))))))) pss_nil)
      (C8.pss_cut (ps_if (PW.pt (pw_and (pt_cmpR op_eq (pv 2) pe_int (nomark _)) (pw_and1 (pt_cmpR op_eq (pe_ix (ixK isk) (pv 1) pe_int (fun _ _ => rfl)) pe_str (nomark _))))) (pss_one (ps_ret (pe_tup (pa_cons (pe_ix (ixK isk) (pv 1) pe_int (fun _ _ => rfl))
          (pa_cons (pe_tup (pa_cons (pe_ix (ixK isk) (pe_ix (ixK isk) (pv 1) pe_int (fun _ _ => rfl)) pe_int (fun _ _ => rfl)) (pa_cons (pe_ix (ixK isk) (pe_ix (ixK isk) (pv 1) pe_int (fun _ _ => rfl)) pe_int (fun _ _ => rfl)) pa_nil)))
          (pa_cons (pe_ix (ixK isk) (pv 1) pe_int (fun _ _ => rfl)) (pa_cons (pv 3) pa_nil))))))) pss_nil)
      (pss_one (ps_ret (pe_tup (pa_cons pe_str (pa_cons (pe_dn DI hr (by rfl) (by decide) (pa_cons (pv 1) pa_nil)) (pa_cons pe_non (pa_cons (pv 3) pa_nil))))))))))), ?_⟩
    refine ⟨_, rfl, p, 4, rfl, hp, by decide, by decide, fun wy H1 w0 w1 k1 => ?_⟩
    obtain ⟨po, v1, v2, spo, ho, hv, htt⟩ := (ht.kp k1 hp).v
    have ndo := ok.od
    refine ⟨_, rfl, ix4 (i := 3) htt rfl ⟨_, _, rfl, ?_⟩⟩
    have kx : ∀ {H2 : Hp}, Am.Ext H1 H2 → Kp p H H2 := fun {H2} e => ⟨fun b o nb hb => e b o (k1.1 b o nb hb), by
      obtain ⟨u, v, x, r⟩ := k1.pot
      exact ⟨u, v, e _ _ x, r⟩⟩
    have nw : ∀ {H2 : Hp} {a : Addr}, Am.Ext H1 H2 → H2 a = none → S a := fun e n => sn _ ((kx e).gone (ne_pot (kx e).pot n) n)
    refine ⟨fun σ H2 => H2 = H1 ∧ σ = [some (.ref p), some (.ref t), some (.int wy), some (.ref po)], ?_, ?_⟩
    · refine ⟨_, rfl, rfl, _, rfl, if_b (fun _ => ?_) ⟨rfl, rfl⟩⟩
      refine ⟨_, rfl, .inl ⟨po, _, rfl, .inl (SqL.of ho), _, _, rfl, rfl, _, rfl, if_b (fun c => ?_) ⟨rfl, rfl⟩⟩⟩
      have l0 : (1 : Int) < os.length := by simpa using c
      have l1 : 1 < os.length := by omega
      refine ⟨_, rfl, ix4 (i := 0) htt rfl ⟨_, rfl, ix4 (i := 1) htt rfl ⟨_, rfl, ix4 (i := 2) htt rfl ⟨_, rfl, 1, rfl, po, _, rfl, SqL.of ho, fun L hL => ?_⟩⟩⟩⟩
      rw [show (some (1 : Int)) = some ((1 : Nat) : Int) from rfl, cut_from _ 1 (by rw [List.length_map]; omega)]
      refine ⟨(by show 4 ≤ sizeLine; decide), fun T hT => ?_⟩
      have e1 := Am.Ext.new (o := .lst ((os.map V.str).drop 1)) hL
      have e2 := Am.Ext.new (o := .tup [.str (kind td), v1, v2, .ref L]) hT
      refine z T _ td (os.drop 1) (kx (e1.trans e2)) ((hv.ext (e1.trans e2)).at (po := L) (nw (Am.Ext.refl _) hL) (e2 _ _ (by rw [upd_same, List.map_drop])) upd_same) (ok.sub (ndo.sublist (List.drop_sublist 1 os)) (fun o ho => List.mem_of_mem_drop ho) (fun e => ?_))
      have := congrArg List.length e
      rw [List.length_drop] at this
      simp at this
      omega
    rintro σ H2 ⟨e, rfl⟩
    rw [e]
    clear e
    refine ⟨fun σ H2 => H2 = H1 ∧ σ = [some (.ref p), some (.ref t), some (.int wy), some (.ref po)], ?_, ?_⟩
    · refine ⟨_, rfl, rfl, _, rfl, if_b (fun _ => ?_) ⟨rfl, rfl⟩⟩
      have nb : ∀ q : Rat, Low 100 q → (q.num + 1 + (if decide (V.int q.num = V.int (-1)) = true then 1 else 0)).natAbs < 2 ^ 200 := fun q l => by
        have h1 := l.1
        have h2 : (2 : Nat) ^ 100 + 2 < 2 ^ 200 := by decide
        split <;> omega
      have db : ∀ q : Rat, Low 100 q → ((q.den : Int)).natAbs < 2 ^ 200 := fun q l => by
        rw [Int.natAbs_natCast]
        exact Nat.lt_trans l.2 (by decide)
      have dp : ∀ q : Rat, (0 : Int) < (q.den : Int) := fun q => by have := q.den_pos; omega
      refine ⟨_, rfl, ix4 (i := 0) htt rfl ⟨rfl, _, rfl, ?_⟩⟩
      cases td with
      | loo xs => exact if_no nl_l ⟨rfl, rfl⟩
      | sum ls q =>
        obtain ⟨pl, ps, pq, spl, hl, hp', hq, rfl, rfl⟩ := hv
        obtain ⟨n0, lq⟩ := ok.dt
        obtain ⟨nbs, lq1⟩ := sm
        refine if_T nl_s ⟨_, rfl, ix4 (i := 0) htt rfl ⟨_, rfl, ix4 (i := 1) htt rfl ⟨_, rfl, ix4 (i := 2) htt rfl (ix4 (i := 0) hq rfl ⟨_, 1, rfl, rfl, _, rfl, ix4 (i := 2) htt rfl (ix4 (i := 0) hq rfl ⟨1, rfl, rfl, .inr ⟨_, rfl, _, _, rfl, rfl, _, rfl, ix4 (i := 2) htt rfl (ix4 (i := 1) hq rfl ⟨_, _, rfl, dp q, Nat.lt_trans (nb q lq1) (Nat.pow_lt_pow_right (by decide) (by decide)), Nat.lt_trans (db q lq1) (Nat.pow_lt_pow_right (by decide) (by decide)), fun tq H2 e2 n2 hq2 => ?_⟩)⟩⟩)⟩)⟩⟩⟩
        refine ⟨_, rfl, (by show 4 ≤ sizeLine; decide), fun T hT => ?_⟩
        have ll := low_div (dp q) (nb q lq1) (db q lq1)
        have eT := Am.Ext.new (o := .tup [.str "sum", .ref pl, .ref tq, .ref po]) hT
        have e1T := e2.trans eT
        exact z T _ (.sum ls _) os (kx e1T) ⟨po, spo, e1T _ _ ho, pl, ps, tq, spl, e1T _ _ hl, Prs.ext e1T hp', eT _ _ hq2, upd_same⟩ ⟨ok.nm, ok.ne, ok.od, ok.oi, ok.on, n0, ll⟩
      | pro xs ys q =>
        obtain ⟨pp, px, py, pq, sxy, hx, hy, hpp, hq, rfl, rfl⟩ := hv
        have lq1 : Low 100 q := sm
        refine if_T nl_p ⟨_, rfl, ix4 (i := 0) htt rfl ⟨_, rfl, ix4 (i := 1) htt rfl ⟨_, rfl, ix4 (i := 2) htt rfl (ix4 (i := 0) hq rfl ⟨_, 1, rfl, rfl, _, rfl, ix4 (i := 2) htt rfl (ix4 (i := 0) hq rfl ⟨1, rfl, rfl, .inr ⟨_, rfl, _, _, rfl, rfl, _, rfl, ix4 (i := 2) htt rfl (ix4 (i := 1) hq rfl ⟨_, _, rfl, dp q, Nat.lt_trans (nb q lq1) (Nat.pow_lt_pow_right (by decide) (by decide)), Nat.lt_trans (db q lq1) (Nat.pow_lt_pow_right (by decide) (by decide)), fun tq H2 e2 n2 hq2 => ?_⟩)⟩⟩)⟩)⟩⟩⟩
        refine ⟨_, rfl, (by show 4 ≤ sizeLine; decide), fun T hT => ?_⟩
        have ll := low_div (dp q) (nb q lq1) (db q lq1)
        have eT := Am.Ext.new (o := .tup [.str "product", .ref pp, .ref tq, .ref po]) hT
        have e1T := e2.trans eT
        refine z T _ (.pro xs ys _) os (kx e1T) ⟨po, spo, e1T _ _ ho, pp, px, py, tq, sxy, e1T _ _ hx, e1T _ _ hy, e1T _ _ hpp, eT _ _ hq2, upd_same⟩ ⟨ok.nm, ok.ne, ok.od, ok.oi, ok.on, fun e => ?_, ll⟩
        have := (divInt_zero (dp q)).mp e
        by_cases m : q.num = -1
        · rw [m] at this
          simp at this
        · rw [if_neg (by simpa using m)] at this
          omega
    rintro σ H2 ⟨e, rfl⟩
    rw [e]
    clear e
    refine ⟨fun σ H2 => H2 = H1 ∧ σ = [some (.ref p), some (.ref t), some (.int wy), some (.ref po)], ?_, ?_⟩
    · refine ⟨_, rfl, rfl, _, rfl, if_b (fun _ => ?_) ⟨rfl, rfl⟩⟩
      refine ⟨_, rfl, ix4 (i := 0) htt rfl ⟨rfl, _, rfl, ?_⟩⟩
      cases td with
      | loo xs => exact if_no s_ls ⟨rfl, rfl⟩
      | pro xs ys q => exact if_no s_ps ⟨rfl, rfl⟩
      | sum ls q =>
        obtain ⟨pl, ps, pq, spl, hl, hp', hq, rfl, rfl⟩ := hv
        cases hp' with
        | nil => exact absurd rfl ok.ne
        | @cons p0 x ps ls hp0 hpr =>
          obtain ⟨n0, lq⟩ := ok.dt
          obtain ⟨nb, lq1⟩ := sm
          have b0 := nb x List.mem_cons_self
          have lps : ps.length < 64 := by
            have := ok.nm.few
            rw [show TD.ins (.sum (x :: ls) q) = (x :: ls).map (·.1) from rfl, List.length_map, List.length_cons, ← prs_len hpr] at this
            omega
          have a0 : atI ((p0 :: ps).map V.ref) ((0 : Nat) : Int) = some (V.ref p0) := atI_nat (j := 0) rfl
          refine if_yes ⟨_, rfl, ix4 (i := 0) htt rfl ⟨_, rfl, ix4 (i := 1) htt rfl (.inl ⟨pl, _, 0, _, rfl, rfl, SqL.of hl, a0, ix4 (i := 0) hp0 rfl ⟨_, rfl, ix4 (i := 1) htt rfl (.inl ⟨pl, _, 0, _, rfl, rfl, SqL.of hl, a0, ix4 (i := 1) hp0 rfl ⟨_, 2, rfl, rfl, mulOk (n := 100) (m := 4) b0 (by decide) (by decide) (by decide), (by show 2 ≤ sizeLine; decide), fun T1 h1 => ⟨(by show 1 ≤ sizeLine; decide), fun L1 hL1 => ?_⟩⟩⟩)⟩⟩)⟩⟩
          have e1 := Am.Ext.new (o := .tup [.str x.1, .int (x.2 * 2)]) h1
          have e2 := e1.trans (Am.Ext.new (o := .lst [.ref T1]) hL1)
          have hT1 : upd (upd H1 T1 (.tup [.str x.1, .int (x.2 * 2)])) L1 (.lst [.ref T1]) T1 = some (.tup [.str x.1, .int (x.2 * 2)]) := Am.Ext.new (o := .lst [.ref T1]) hL1 _ _ upd_same
          have hL1' : upd (upd H1 T1 (.tup [.str x.1, .int (x.2 * 2)])) L1 (.lst [.ref T1]) L1 = some (.lst [.ref T1]) := upd_same
          generalize upd (upd H1 T1 (.tup [.str x.1, .int (x.2 * 2)])) L1 (.lst [.ref T1]) = H2 at e2 hT1 hL1' ⊢
          refine ⟨_, rfl, ix4 (i := 1) (e2 _ _ htt) rfl ⟨1, rfl, pl, _, rfl, SqL.of (e2 _ _ hl), fun L2 h2 => ?_⟩⟩
          rw [show (some (1 : Int)) = some ((1 : Nat) : Int) from rfl, cut_from _ 1 (by simp)]
          have e3 := Am.Ext.new (o := .lst (((p0 :: ps).map V.ref).drop 1)) h2
          refine .inr (.inr ⟨L1, L2, _, _, rfl, rfl, e3 _ _ hL1', upd_same, by rw [List.length_drop, List.length_map]; show 1 + (ps.length + 1 - 1) ≤ _; omega, fun L3 h3 => ?_⟩)
          have e4 := e3.trans (Am.Ext.new (o := .lst ([.ref T1] ++ ((p0 :: ps).map V.ref).drop 1)) h3)
          have hL3 : upd (upd H2 L2 (.lst (((p0 :: ps).map V.ref).drop 1))) L3 (.lst ([.ref T1] ++ ((p0 :: ps).map V.ref).drop 1)) L3 = some (.lst ((T1 :: ps).map V.ref)) := upd_same
          generalize upd (upd H2 L2 (.lst (((p0 :: ps).map V.ref).drop 1))) L3 (.lst ([.ref T1] ++ ((p0 :: ps).map V.ref).drop 1)) = H3 at e4 hL3 ⊢
          have e13 := e2.trans e4
          refine ⟨_, rfl, ix4 (i := 2) (e13 _ _ htt) rfl ⟨_, rfl, (by show 4 ≤ sizeLine; decide), fun T hT => ?_⟩⟩
          have eT := Am.Ext.new (o := .tup [.str "sum", .ref L3, .ref pq, .ref po]) hT
          have e1T := e13.trans eT
          refine z T _ (.sum ((x.1, x.2 * 2) :: ls) q) os (kx e1T) ⟨po, spo, e1T _ _ ho, L3, T1 :: ps, pq, nw (e2.trans e3) h3, eT _ _ hL3, .cons (eT _ _ (e4 _ _ hT1)) (Prs.ext e1T hpr), e1T _ _ hq, upd_same⟩ ⟨ok.nm, (fun e => nomatch e), ok.od, ok.oi, ok.on, fun y hy => ?_, lq⟩
          rcases List.mem_cons.mp hy with rfl | hy
          · exact ⟨Int.mul_ne_zero (n0 x List.mem_cons_self).1 (by decide), Nat.lt_trans (mul_bits (n := 100) (m := 4) b0 (by decide)) (by decide)⟩
          · exact n0 y (List.mem_cons_of_mem _ hy)
    rintro σ H2 ⟨e, rfl⟩
    rw [e]
    clear e
    refine ⟨fun σ H2 => H2 = H1 ∧ σ = [some (.ref p), some (.ref t), some (.int wy), some (.ref po)], ?_, ?_⟩
    · refine ⟨_, rfl, rfl, _, rfl, if_b (fun _ => ?_) ⟨rfl, rfl⟩⟩
      refine ⟨_, rfl, ix4 (i := 0) htt rfl ⟨rfl, _, rfl, ?_⟩⟩
      cases td with
      | loo xs => exact if_no s_lp ⟨rfl, rfl⟩
      | sum ls q => exact if_no s_sp ⟨rfl, rfl⟩
      | pro xs ys q =>
        obtain ⟨pp, px, py, pq, sxy, hx, hy, hpp, hq, rfl, rfl⟩ := hv
        refine if_yes ⟨_, rfl, ix4 (i := 0) htt rfl ⟨_, rfl, ix4 (i := 1) htt rfl (ix4 (i := 1) hpp rfl ⟨_, rfl, ix4 (i := 1) htt rfl (ix4 (i := 0) hpp rfl ⟨(by show 2 ≤ sizeLine; decide), fun T1 h1 => ?_⟩)⟩)⟩⟩
        have e1 := Am.Ext.new (o := .tup [.ref py, .ref px]) h1
        refine ⟨_, rfl, ix4 (i := 2) (e1 _ _ htt) rfl ⟨_, rfl, (by show 4 ≤ sizeLine; decide), fun T hT => ?_⟩⟩
        have eT := Am.Ext.new (o := .tup [.str "product", .ref T1, .ref pq, .ref po]) hT
        have e1T := e1.trans eT
        exact z T _ (.pro ys xs q) os (kx e1T) ⟨po, spo, e1T _ _ ho, T1, py, px, pq, ⟨sxy.2, sxy.1⟩, e1T _ _ hy, e1T _ _ hx, eT _ _ upd_same, e1T _ _ hq, upd_same⟩ ⟨Nms.swap ok.nm, (fun e => ok.ne (by have := List.append_eq_nil_iff.mp e; rw [show TD.ins (.pro xs ys q) = xs ++ ys from rfl, this.1, this.2]; rfl)), ok.od, (fun o ho => by have := ok.oi o ho; rw [show TD.ins (.pro xs ys q) = xs ++ ys from rfl, List.mem_append] at this; rw [show TD.ins (.pro ys xs q) = ys ++ xs from rfl, List.mem_append]; exact this.symm), ok.on, ok.dt⟩
    rintro σ H2 ⟨e, rfl⟩
    rw [e]
    clear e
    refine ⟨_, rfl, t, td, os, rfl, (hv.at spo ho htt).at, ok.nm, fun L H2 e2 n2 hL => ⟨_, rfl, (by show 4 ≤ sizeLine; decide), fun T hT => ?_⟩⟩
    have eT := Am.Ext.new (o := .tup [.str "loose", .ref L, .non, .ref po]) hT
    refine z T _ (.loo (srt td.ins)) os (kx (e2.trans eT)) ⟨po, spo, eT _ _ (e2 _ _ ho), L, nw (Am.Ext.refl _) n2, eT _ _ hL, upd_same⟩ ⟨⟨fun x hx => ok.nm.ok x ((srt_mem _ x).mp hx), srt_nd ok.nm.nd, by show (srt td.ins).length < 64; rw [srt_len]; exact ok.nm.few⟩, fun e => ok.ne ?_, ndo, fun o ho => (srt_mem _ o).mpr (ok.oi o ho), ok.on, trivial⟩
    have := congrArg List.length (show srt td.ins = [] from e)
    rw [srt_len] at this
    exact List.length_eq_zero_iff.mp this
end
end KD

set_option Elab.async false
set_option linter.all false
set_option maxRecDepth 100000
set_option maxHeartbeats 2000000
set_option exponentiation.threshold 20000
/-! _law_rule_by_names. -/
namespace KD
open PySem PySem.Spec PyProof.Rows L2 Oo Gd Am KA SqX
theorem perm_sub : ∀ (l m : List Str), l.Nodup → (∀ x ∈ l, x ∈ m) → l.length = m.length → l.Perm m
  | [], m, _, _, e => by
    cases m with
    | nil => exact List.Perm.refl _
    | cons a b => simp at e
  | x :: r, m, nd, sub, e => by
    have nr := List.nodup_cons.mp nd
    have hx := sub x List.mem_cons_self
    have pos : 0 < m.length := List.length_pos_of_mem hx
    refine List.Perm.trans (List.Perm.cons x (perm_sub r (m.erase x) nr.2 (fun y hy => (List.mem_erase_of_ne (fun e => nr.1 (by rw [← e]; exact hy))).mpr (sub y (List.mem_cons_of_mem _ hy))) ?_)) (List.perm_cons_erase hx).symm
    rw [List.length_erase_of_mem hx]
    rw [List.length_cons] at e
    omega
theorem Nms.perm {xs ys : List Str} (h : xs.Perm ys) (n : Nms xs) : Nms ys := ⟨fun x hx => n.ok x (h.mem_iff.mpr hx), h.nodup_iff.mp n.nd, by rw [← h.length_eq]; exact n.few⟩
theorem prs_rev {H : Hp} {ps : List Addr} {ls : List (Str × Int)} (h : Prs H ps ls) : Prs H ps.reverse ls.reverse := by
  induction h with
  | nil => exact .nil
  | @cons a b as bs h t ih =>
    rw [List.reverse_cons, List.reverse_cons]
    obtain ⟨b1, b2⟩ := b
    exact prs_new ih h
theorem wt_mem : ∀ {ls : List (Str × Int)} {x : Str} {n : Int}, (ls.map (·.1)).Nodup → (x, n) ∈ ls → wt ls x = some n
  | [], _, _, _, h => nomatch h
  | p :: ls, x, n, nd, h => by
    have nd' := List.nodup_cons.mp nd
    unfold wt
    rcases List.mem_cons.mp h with e | h
    · subst e
      rw [List.find?_cons_of_pos (by simp)]
      rfl
    · have ne : p.1 ≠ x := fun e => nd'.1 (by show p.1 ∈ _; rw [e]; exact List.mem_map_of_mem (f := fun x : Str × Int => x.1) h)
      rw [List.find?_cons_of_neg (by simpa using ne)]
      exact wt_mem nd'.2 h
theorem ord_perm {ls ks : List (Str × Int)} (nd : (ls.map (·.1)).Nodup) (h : ls.Perm ks) : ordW ls = ordW ks := by
  have hm := h.map (fun x : Str × Int => x.1)
  have nk : (ks.map (·.1)).Nodup := hm.nodup_iff.mp nd
  unfold ordW
  rw [show srt (ls.map (·.1)) = srt (ks.map (·.1)) from srt_of_perm hm]
  refine List.map_congr_left fun x hx => ?_
  have hx' := (srt_mem _ x).mp hx
  obtain ⟨n, e, m⟩ := wt_some hx'
  rw [e, wt_mem (hm.nodup_iff.mpr nk) (h.mem_iff.mpr m)]
section
variable {P : Program} {w : World} {K : W.Frag} {mg : Str → Option Value} {base : Heap} {f A C CT CP CL : Addr} {fd : FuncData} {t t2 t3 : Tok}
def spRbn (A CT CP CL : Addr) : Sp := fun vs H Q _ => ∃ (t : Addr) (b : Bool) (td : TD) (os : List Str), vs = [.ref t, .bl b] ∧ TieAt H t td os ∧ TdOk td os ∧ NewR A CT CP CL H Q td os
abbrev nRbn : List Str := ["_law_tie", "_law_plainly", "_law_outs", "_law_scale"]
theorem scRbn : FnScope nRbn ["_law_tie", "_law_plainly"] (defScope (top 54)) := ⟨rfl, rfl, rfl, by decide +kernel, rfl, by decide +kernel, by decide +kernel⟩
theorem ok_rbn (fr : Frees mg) (R : RC P w K mg base A CT CP CL) (DI : Dn P w K mg base CX0 1 "_law_inside" ["_law_tie"] spIns) (DN : Dn P w K mg base CX0 4 "_law_number" ["_law_part", "_law_plainly"] (spNum A))
    (F : Fun K "_law_rule_by_names" "_law_rule_by_names" (top 54) f fd) : FnOk P w K mg base CX0 7 f fd ["_law_tie", "_law_plainly"] (spRbn A CT CP CL) := by
  refine F.ok scRbn (fun vs H Q E h => ?_) (fun cdv A' outer s H vs Q E hr h => ?_)
  · obtain ⟨t, b, td, os, rfl, _⟩ := h
    rfl
  · obtain ⟨t, b, td, os, rfl, ht, ok, z⟩ := h
    have nd := scRbn.nd
    have isk : IsK K := ⟨trivial⟩
    obtain ⟨tI, tfd, MT, FT, _, BT⟩ := R.kT
    obtain ⟨pI, pfd, MP, FP, _, BP⟩ := R.kP
    obtain ⟨lI, lfd, ML, FL, _, BL⟩ := R.kL
    refine ⟨_, C8.pss_cut (ps_set (i := 2) nd rfl (.inl rfl) (pe_ifExp (pt_cmpR op_eq (pe_callB (lenK isk) rfl (fr.h _ (by decide +kernel)) (by decide +kernel) (pa_cons (pe_ix (ixK isk) (pv 0) pe_int (fun _ _ => rfl)) pa_nil)) (pe_callB (lenK isk) rfl (fr.h _ (by decide +kernel)) (by decide +kernel) (pa_cons (pe_dn DI hr (by rfl) (by decide) (pa_cons (pv 0) pa_nil)) pa_nil)) (nomark _)) pe_non (pe_callTy (tupK isk) rfl (fr.h _ (by decide +kernel)) (by decide +kernel) (pa_cons (pe_ix (ixK isk) (pv 0) pe_int (fun _ _ => rfl)) pa_nil))))
      (pss_cons (ps_if (pt_cmpR op_eq (pe_ix (ixK isk) (pv 0) pe_int (fun _ _ => rfl)) pe_str (nomark _)) (pss_one (ps_ret (pe_makeK0 ML FL (hr.mono (by decide)) rfl R.mL BL pass0 (pk_cons (pv 2) (pk_cons (pe_callTy (tupK isk) rfl (fr.h _ (by decide +kernel)) (by decide +kernel) (pa_cons (pe_ix (ixK isk) (pv 0) pe_int (fun _ _ => rfl)) pa_nil)) pk_nil))))) pss_nil)
      (pss_cons (ps_if (pt_cmpR op_eq (pe_ix (ixK isk) (pv 0) pe_int (fun _ _ => rfl)) pe_str (nomark _)) (pss_one (ps_ret (pe_makeK0 MT FT (hr.mono (by decide)) rfl R.mT BT pass0 (pk_cons (pv 2) (pk_cons (pe_dn DN hr (by rfl) (by decide) (pa_cons (pe_ix (ixK isk) (pv 0) pe_int (fun _ _ => rfl)) (pa_cons (pv 1) pa_nil))) (pk_cons (pe_callTy (call_dictP rfl) rfl (fr.h _ (by decide +kernel)) (by decide +kernel) (pa_cons (pe_revL (pe_ix (ixK isk) (pv 0) pe_int (fun _ _ => rfl))) pa_nil)) pk_nil)))))) pss_nil)
      (pss_cons (ps_set (i := 3) nd rfl (.inl rfl) (pe_dn DN hr (by rfl) (by decide) (pa_cons (pe_ix (ixK isk) (pv 0) pe_int (fun _ _ => rfl)) (pa_cons (pv 1) pa_nil))))
      (pss_one (ps_ret (pe_makeK0 MP FP (hr.mono (by decide)) rfl R.mP BP pass0 (pk_cons (pv 3) (pk_cons (pe_callTy (tupK isk) rfl (fr.h _ (by decide +kernel)) (by decide +kernel) (pa_cons (pe_revL (pe_ix (ixK isk) (pe_ix (ixK isk) (pv 0) pe_int (fun _ _ => rfl)) pe_int (fun _ _ => rfl))) pa_nil)) (pk_cons (pv 2) (pk_cons (pe_callTy (tupK isk) rfl (fr.h _ (by decide +kernel)) (by decide +kernel) (pa_cons (pe_revL (pe_ix (ixK isk) (pe_ix (ixK isk) (pv 0) pe_int (fun _ _ => rfl)) pe_int (fun _ _ => rfl))) pa_nil)) pk_nil)))))))))), ?_⟩
    obtain ⟨po, v1, v2, ho, hv, htt⟩ := ht.v
    have fo := ok.of
    have fi := ok.nm.few
    refine ⟨fun σ H2 => ∃ v, σ = [some (.ref t), some (.bl b), some v, none] ∧ Am.Ext H H2 ∧ ∀ fs, (∀ x, x ∈ fs ↔ x ∈ td.ins) → (fs = srt td.ins) → WaysV K H2 v fs (srt os), ?_, ?_⟩
    · refine ⟨_, rfl, ix4 (i := 3) htt rfl (.inl ⟨po, _, rfl, .inl (SqL.of ho), _, rfl, t, td, os, rfl, ht, ok.nm, fun L H2 e2 n2 hL => .inl ⟨L, _, rfl, .inl (SqL.of hL), rfl, _, rfl, ite2 (fun c => ?_) (fun c => ?_)⟩⟩)⟩
      · refine ⟨_, rfl, e2, fun fs hf efs => .inl ⟨rfl, ?_⟩⟩
        have le : os.length = td.ins.length := by
          have : (os.length : Int) = ((srt td.ins).length : Int) := by simpa using c
          rw [srt_len] at this
          omega
        rw [efs]
        exact srt_of_perm (perm_sub _ _ ok.od ok.oi le)
      · refine ⟨_, rfl, ix4 (i := 3) (e2 _ _ htt) rfl ⟨po, _, rfl, .inl ⟨SqL.of (e2 _ _ ho), fun T hT => ?_⟩⟩⟩
        refine ⟨_, rfl, e2.then hT, fun fs hf efs => .inr ⟨T, os, rfl, .inr (.inl upd_same), ok.on, by have := fo.2; omega, ok.od, fun x hx => (hf x).mpr (ok.oi x hx), rfl⟩⟩
    rintro σ H2 ⟨v, rfl, e2, wv⟩
    have tt2 := e2 _ _ htt
    have hv2 := hv.ext e2
    have z2 := NewR.after e2 z
    cases td with
    | loo xs =>
      obtain ⟨px, hx, rfl, rfl⟩ := hv2
      refine ⟨_, rfl, ix4 (i := 0) tt2 rfl ⟨rfl, _, rfl, if_yes ⟨_, rfl, _, rfl, ix4 (i := 1) tt2 rfl ⟨px, _, rfl, .inl ⟨SqL.of hx, fun T hT => ⟨rfl, rfl, ?_⟩⟩⟩⟩⟩⟩
      have eT := Am.Ext.new (o := .tup (xs.map V.str)) hT
      exact inL_new (.inr (.inl upd_same)) ok.nm ok.ne ((wv (srt xs) (srt_mem xs) rfl).ext eT) (z2.after eT)
    | sum ls q =>
      obtain ⟨pl, ps, pq, hl, hp, hq, rfl, rfl⟩ := hv2
      obtain ⟨n0, lq⟩ := ok.dt
      refine ⟨_, rfl, ix4 (i := 0) tt2 rfl ⟨rfl, _, rfl, if_no s_sl ⟨_, rfl, ix4 (i := 0) tt2 rfl ⟨rfl, _, rfl, if_yes ⟨_, rfl, _, rfl, ix4 (i := 2) tt2 rfl ⟨_, rfl, pq, b, q, rfl, hq, lq, fun u H3 e3 nu => ?_⟩⟩⟩⟩⟩⟩
      refine ⟨_, rfl, ix4 (i := 1) (e3 _ _ tt2) rfl ⟨pl, _, rfl, SqL.of (e3 _ _ hl), fun L hL => ?_⟩⟩
      have e4 := Am.Ext.new (o := .lst (ps.map V.ref).reverse) hL
      have e34 := e3.trans e4
      refine ⟨L, ps.reverse, wts ls.reverse, rfl, SqL.of (by rw [upd_same, List.map_reverse]), prs_kv (prs_rev (Prs.ext e34 hp)), fun d hd => ⟨rfl, rfl, ?_⟩⟩
      have pm : ls.reverse.Perm ls := List.reverse_perm ls
      have pm1 := pm.map (fun x : Str × Int => x.1)
      have nr : Nms (ls.reverse.map (·.1)) := Nms.perm pm1.symm ok.nm
      rw [merge_w nr.nd]
      have e5 := Am.Ext.new (o := .dK (wts ls.reverse)) hd
      have e35 := e34.trans e5
      refine inT_new (CT := CT) (CP := CP) (CL := CL) (os := os) upd_same nr (fun e => ok.ne ?_) (fun p hp => (n0 p (pm.mem_iff.mp hp)).1) (nu.ext (e4.trans e5)) (sz_of lq) ((wv (srt (ls.reverse.map (·.1))) (fun x => (srt_mem _ x).trans pm1.mem_iff) (srt_of_perm pm1)).ext e35) (fun r H' e n i fd => z2 r H' (e35.trans e) (e35.gone n) ?_ (FreshD.back (td := .sum ls q) e35 fd))
      · have : ls = [] := by simpa using e
        rw [this]; rfl
      · have i' : IsT A CT H' r q (ordW ls.reverse) (srt (ls.reverse.map (·.1))) (srt os) := i
        rw [ord_perm nr.nd pm, show srt (ls.reverse.map (·.1)) = srt (ls.map (·.1)) from srt_of_perm pm1] at i'
        exact i'
    | pro xs ys q =>
      obtain ⟨pp, px, py, pq, hx, hy, hpp, hq, rfl, rfl⟩ := hv2
      obtain ⟨q0, lq⟩ := ok.dt
      refine ⟨_, rfl, ix4 (i := 0) tt2 rfl ⟨rfl, _, rfl, if_no s_pl ⟨_, rfl, ix4 (i := 0) tt2 rfl ⟨rfl, _, rfl, if_no s_ps ⟨_, rfl, ix4 (i := 2) tt2 rfl ⟨_, rfl, pq, b, q, rfl, hq, lq, fun u H3 e3 nu => ?_⟩⟩⟩⟩⟩⟩
      have tt3 := e3 _ _ tt2
      refine ⟨_, rfl, _, rfl, ix4 (i := 1) tt3 rfl (ix4 (i := 1) (e3 _ _ hpp) rfl ⟨py, _, rfl, SqL.of (e3 _ _ hy), fun L1 h1 => ⟨L1, _, rfl, .inl ⟨SqL.of upd_same, fun T1 hT1 => ?_⟩⟩⟩)⟩
      have e4 := (Am.Ext.new (o := .lst (ys.map V.str).reverse) h1).trans (Am.Ext.new (o := .tup (ys.map V.str).reverse) hT1)
      have hT1v : upd (upd H3 L1 (.lst (ys.map V.str).reverse)) T1 (.tup (ys.map V.str).reverse) T1 = some (.tup (ys.map V.str).reverse) := upd_same
      generalize upd (upd H3 L1 (.lst (ys.map V.str).reverse)) T1 (.tup (ys.map V.str).reverse) = H4 at e4 hT1v ⊢
      have e24 := e3.trans e4
      refine ⟨_, rfl, _, rfl, ix4 (i := 1) (e4 _ _ tt3) rfl (ix4 (i := 0) (e24 _ _ hpp) rfl ⟨px, _, rfl, SqL.of (e24 _ _ hx), fun L2 h2 => ⟨L2, _, rfl, .inl ⟨SqL.of upd_same, fun T2 hT2 => ⟨rfl, rfl, ?_⟩⟩⟩⟩)⟩
      have e5 := (Am.Ext.new (o := .lst (xs.map V.str).reverse) h2).trans (Am.Ext.new (o := .tup (xs.map V.str).reverse) hT2)
      have hT2v : upd (upd H4 L2 (.lst (xs.map V.str).reverse)) T2 (.tup (xs.map V.str).reverse) T2 = some (.tup (xs.map V.str).reverse) := upd_same
      generalize upd (upd H4 L2 (.lst (xs.map V.str).reverse)) T2 (.tup (xs.map V.str).reverse) = H5 at e5 hT2v ⊢
      have e25 := e24.trans e5
      have px1 : xs.reverse.Perm xs := List.reverse_perm xs
      have py1 : ys.reverse.Perm ys := List.reverse_perm ys
      have pxy : (xs.reverse ++ ys.reverse).Perm (xs ++ ys) := px1.append py1
      have nr : Nms (xs.reverse ++ ys.reverse) := Nms.perm pxy.symm ok.nm
      refine inP_new (CT := CT) (CP := CP) (CL := CL) (xs := xs.reverse) (ys := ys.reverse) (os := os) (.inr (.inl (by rw [hT2v, List.map_reverse]))) (.inr (.inl (by rw [e5 _ _ hT1v, List.map_reverse]))) nr (fun e => ok.ne ?_) (nu.ext (e4.trans e5)) (sz_of lq) q0 ((wv (srt (xs.reverse ++ ys.reverse)) (fun x => (srt_mem _ x).trans pxy.mem_iff) (srt_of_perm pxy)).ext e25) (fun r H' e n i fd => z2 r H' (e25.trans e) (e25.gone n) ?_ trivial)
      · exact List.length_eq_zero_iff.mp (by rw [show TD.ins (.pro xs ys q) = xs ++ ys from rfl, ← pxy.length_eq, e]; rfl)
      · have i' : IsP A CP H' r q (srt xs.reverse) (srt ys.reverse) (srt (xs.reverse ++ ys.reverse)) (srt os) := i
        rw [srt_of_perm px1, srt_of_perm py1, srt_of_perm pxy] at i'
        exact i'
end
end KD

set_option Elab.async false
set_option linter.all false
set_option maxRecDepth 100000
set_option maxHeartbeats 2000000
set_option exponentiation.threshold 20000
/-! _law_due_parts. -/
namespace KD
open PySem PySem.Spec PyProof.Rows L2 Oo Gd Am KA SqX
def pairT (p : Str × Int) : Str := tupleText [reprText p.1, (toString p.2 : String)]
def prsT (ls : List (Str × Int)) : Str := listText (ls.map pairT)
def tupS (xs : List Str) : Str := tupleText (xs.map reprText)
def sidesT (xs ys : List Str) : Str := listText [tupS xs, tupS ys]
/-- the parts of a rule as the law tells them -/
def partsT (td : TD) : Str := match td with
  | .loo _ => ""
  | .sum ls q => prsT (ordW ls) ++ Am.shown q
  | .pro xs ys q => sidesT (srt xs) (srt ys) ++ Am.shown q
theorem tup2_len (a b : Str) : (tupleText [a, b]).length ≤ a.length + b.length + 4 := by
  have k1 : (Str.ofString "(").length = 1 := by decide
  have k2 : (Str.ofString ", ").length = 2 := by decide
  have k3 : (Str.ofString ")").length = 1 := by decide
  show ((Str.ofString "(") ++ (a ++ Str.ofString ", " ++ b) ++ (Str.ofString ")")).length ≤ _
  simp only [strLen_append, k1, k2, k3]
  omega
theorem tup_len (ts : List Str) (n : Nat) (h : ∀ t ∈ ts, t.length ≤ n) : (tupleText ts).length ≤ (n + 2) * ts.length + 3 := by
  have a := PySem.StrLaws.join_length_le (Str.ofString ", ") ts
  have b := sum_le n ts h
  have k1 : (Str.ofString "(").length = 1 := by decide
  have k2 : (Str.ofString ", ").length = 2 := by decide
  have k3 : (Str.ofString ")").length = 1 := by decide
  have k4 : (Str.ofString ",)").length = 2 := by decide
  rw [k2] at a
  have e : (n + 2) * ts.length = n * ts.length + ts.length * 2 := by rw [Nat.add_mul, Nat.mul_comm 2]
  unfold tupleText
  rw [strLen_append, strLen_append]
  show (Str.ofString "(").length + (Str.join (Str.ofString ", ") ts).length + _ ≤ _
  rw [k1]
  split
  · rw [k4]; omega
  · rw [k3]; omega
theorem name_rep {x : Str} (h : nameB x = true) : (reprText x).length ≤ 82 := by
  have := rep_len (name_ok h)
  have := (name_len h).2
  omega
theorem big_ln : (1000000 : Nat) ≤ sizeLine := by decide
theorem int_rp {H : Hp} {as : List Addr} {d : Nat} {i : Int} (h : i.natAbs < 2 ^ 150) : Rp H as d (.int i) (toString i) ∧ (Str.ofString (toString i)).length ≤ 300 := by
  refine ⟨.int i ?_, num_len (Nat.lt_trans h (by decide))⟩
  by_cases z : i.natAbs = 0
  · rw [z]; decide
  · exact Nat.lt_trans ((Nat.log2_lt z).mpr h) (by decide)
theorem pair_rp {H : Hp} {as : List Addr} {d : Nat} {p : Addr} {x : Str × Int} (hp : H p = some (.tup [.str x.1, .int x.2])) (hn : nameB x.1 = true) (hb : x.2.natAbs < 2 ^ 150) (m : p ∈ as) : Rp H as (d + 1) (.ref p) (pairT x) ∧ (pairT x).length ≤ 390 := by
  have a := name_rep hn
  obtain ⟨b, c⟩ := int_rp (H := H) (as := []) (d := d) hb
  refine ⟨.tup (as0 := []) hp (by simp) (fun b hb => by rw [List.mem_singleton.mp hb]; exact m) rfl fun i y t h1 h2 => ?_, ?_⟩
  · match i, h1, h2 with
    | 0, h1, h2 =>
      cases h1
      cases h2
      exact .str x.1 (by have := big_ln; omega)
    | 1, h1, h2 =>
      cases h1
      cases h2
      exact b
    | i + 2, h1, _ => simp at h1
  · have := tup2_len (reprText x.1) (toString x.2 : String)
    unfold pairT
    omega
theorem prs_it {H : Hp} {as : List Addr} {d : Nat} : ∀ {ps : List Addr} {ls : List (Str × Int)}, Prs H ps ls → (∀ x ∈ ls, nameB x.1 = true ∧ x.2.natAbs < 2 ^ 150) → (∀ p ∈ ps, p ∈ as) →
    ∀ (i : Nat) (x : V) (t : Str), (ps.map V.ref)[i]? = some x → (ls.map pairT)[i]? = some t → Rp H as (d + 1) x t
  | _, _, .nil, _, _, i, x, t, h, _ => by simp at h
  | _, _, .cons a r, h, m, 0, x, t, h1, h2 => by
    cases h1
    cases h2
    exact (pair_rp a (h _ List.mem_cons_self).1 (h _ List.mem_cons_self).2 (m _ List.mem_cons_self)).1
  | _, _, .cons a r, h, m, i + 1, x, t, h1, h2 => prs_it r (fun y hy => h y (List.mem_cons_of_mem _ hy)) (fun p hp => m p (List.mem_cons_of_mem _ hp)) i x t h1 h2
theorem prsT_len {ls : List (Str × Int)} (h : ∀ x ∈ ls, nameB x.1 = true ∧ x.2.natAbs < 2 ^ 150) (few : ls.length < 64) : (prsT ls).length ≤ 30000 := by
  have a := listText_le (ls.map pairT)
  have b : ∀ l : List (Str × Int), (∀ x ∈ l, nameB x.1 = true ∧ x.2.natAbs < 2 ^ 150) → piled (l.map pairT) ≤ 400 * l.length := by
    intro l
    induction l with
    | nil => intro _; exact Nat.zero_le _
    | cons x r ih =>
      intro h
      have c := ih fun y hy => h y (List.mem_cons_of_mem _ hy)
      have d := (pair_rp (H := fun _ => some (.tup [.str x.1, .int x.2])) (as := [(0 : Nat)]) (d := 0) (p := (0 : Nat)) rfl (h x List.mem_cons_self).1 (h x List.mem_cons_self).2 List.mem_cons_self).2
      rw [List.map_cons, piled_cons, List.length_cons]
      omega
  have c := b ls h
  unfold prsT
  omega
theorem prs_rr {H : Hp} {D : Addr} {ps : List Addr} {ls : List (Str × Int)} {Q : VK} (hD : H D = some (.lst (ps.map V.ref))) (pr : Prs H ps ls) (h : ∀ x ∈ ls, nameB x.1 = true ∧ x.2.natAbs < 2 ^ 150) (few : ls.length < 64) (z : Q (.str (prsT ls)) H) : rRepr [.ref D] H Q := by
  refine ⟨.ref D, D :: ps, 2, _, rfl, .lst (as0 := ps) hD (fun m => ?_) (fun b hb => hb) (by rw [List.length_map, List.length_map, prs_len pr]) (prs_it pr h fun p hp => hp), by decide, Nat.le_trans (prsT_len h few) (by decide), z⟩
  obtain ⟨i, hi, e⟩ := List.getElem_of_mem m
  obtain ⟨p, y, e1, _, e3⟩ := prs_at (i := i) (x := .ref D) pr (by rw [List.getElem?_map, List.getElem?_eq_getElem hi, e]; rfl)
  injection e1 with e1
  rw [← e1, hD] at e3
  cases e3
end KD

set_option Elab.async false
set_option linter.all false
set_option maxRecDepth 100000
set_option maxHeartbeats 2000000
set_option exponentiation.threshold 20000
/-! _law_due_parts. -/
namespace KD
open PySem PySem.Spec PyProof.Rows L2 Oo Gd Am KA SqX
theorem srtK {X : Cx} {K : W.Frag} {k : Nat} (_ : IsK K) (hr : Room k X.A) (h : X.K = K := by rfl) : CallRK X (.builtin "sorted") [Str.ofString "key"] (rSrtK K) := h ▸ cr_srtK hr
theorem reps_it {H : Hp} {as : List Addr} {d : Nat} : ∀ {xs : List Str}, (∀ x ∈ xs, nameB x = true) → ∀ (i : Nat) (x : V) (t : Str), (xs.map V.str)[i]? = some x → (xs.map reprText)[i]? = some t → Rp H as d x t
  | [], _, i, x, t, h, _ => by simp at h
  | y :: ys, h, 0, x, t, h1, h2 => by
    cases h1
    cases h2
    exact .str y (by have := name_rep (h y List.mem_cons_self); have := big_ln; omega)
  | y :: ys, h, i + 1, x, t, h1, h2 => reps_it (fun z hz => h z (List.mem_cons_of_mem _ hz)) i x t h1 h2
theorem tupS_len {xs : List Str} (h : Few xs) : (tupS xs).length ≤ 6000 := by
  have a := tup_len (xs.map reprText) 82 fun t ht => by
    obtain ⟨x, hx, rfl⟩ := List.mem_map.mp ht
    exact name_rep (h.1 x hx)
  rw [List.length_map] at a
  have := h.2
  unfold tupS
  omega
theorem tup_rp {H : Hp} {as : List Addr} {d : Nat} {a : Addr} {xs : List Str} (h : Few xs) (ha : Tp H a xs) (m : a ∈ as) : Rp H as (d + 1) (.ref a) (tupS xs) :=
  .tup (as0 := []) ha (by simp) (fun b hb => by rw [List.mem_singleton.mp hb]; exact m) (by rw [List.length_map, List.length_map]) (reps_it h.1)
theorem two_rr {H : Hp} {D a b : Addr} {xs ys : List Str} {Q : VK} (hD : H D = some (.lst [.ref a, .ref b])) (ha : Tp H a xs) (hb : Tp H b ys) (fx : Few xs) (fy : Few ys) (z : Q (.str (sidesT xs ys)) H) : rRepr [.ref D] H Q := by
  refine ⟨.ref D, [D, a, b], 2, _, rfl, .lst (as0 := [a, b]) (ts := [tupS xs, tupS ys]) hD (fun m => ?_) (fun b hb => hb) rfl (fun i x t h1 h2 => ?_), by decide, ?_, z⟩
  · rw [List.mem_cons, List.mem_singleton] at m
    rcases m with m | m
    · rw [m, show H a = some (.tup (xs.map V.str)) from ha] at hD
      cases hD
    · rw [m, show H b = some (.tup (ys.map V.str)) from hb] at hD
      cases hD
  · match i, h1, h2 with
    | 0, h1, h2 =>
      cases h1
      cases h2
      exact tup_rp fx ha (by simp)
    | 1, h1, h2 =>
      cases h1
      cases h2
      exact tup_rp fy hb (by simp)
    | i + 2, h1, _ => simp at h1
  · have a1 := tupS_len fx
    have a2 := tupS_len fy
    have a3 := listText_le [tupS xs, tupS ys]
    rw [piled_cons, piled_cons, piled_nil] at a3
    have := big_ln
    omega
theorem shown_len200 {q : Rat} (h : Low 200 q) : (Am.shown q).length ≤ 700 := by
  have l1 := num_len (i := q.num) (Nat.lt_trans h.1 (by decide))
  have l2 := num_len (i := (q.den : Int)) (by rw [Int.natAbs_natCast]; exact Nat.lt_trans h.2 (by decide))
  have k1 : (Str.ofString "Amount(").length = 7 := by decide
  have k2 : (Str.ofString ", ").length = 2 := by decide
  have k3 : (Str.ofString ")").length = 1 := by decide
  unfold Am.shown
  simp only [strLen_append, k0, k1, k2, k3]
  omega
section
variable {P : Program} {w : World} {K : W.Frag} {mg : Str → Option Value} {base : Heap} {f A C CT CP CL : Addr} {fd : FuncData} {t t2 t3 : Tok}
def spDue : Sp := fun vs H Q _ => ∃ (t : Addr) (td : TD) (os : List Str), vs = [.ref t] ∧ TieAt H t td os ∧ TdOk td os ∧ ∀ H', Am.Ext H H' → Q (.str (partsT td)) H'
abbrev nDue : List Str := ["_law_tie", "_law_shape", "_law_loads", "_law_sides", "_law_spot", "_law_side"]
theorem scDue : FnScope nDue ["_law_tie"] (defScope (top 55)) := ⟨rfl, rfl, rfl, by decide +kernel, rfl, by decide +kernel, by decide +kernel⟩
theorem ok_due (nb : base.NoDigits) (fr : Frees mg) (DI : Dn P w K mg base CX0 1 "_law_inside" ["_law_tie"] spIns) (F : Fun K "_law_due_parts" "_law_due_parts" (top 55) f fd) : FnG P w K mg base CX0 4 f fd ["_law_tie"] spDue := by
  refine Gd.okG F scDue (fun vs H Q E h => ?_) (fun cdv A' outer s H vs Q E hG hr h => ?_)
  · obtain ⟨t, td, os, rfl, _⟩ := h
    rfl
  · obtain ⟨t, td, os, rfl, ht, ok, z⟩ := h
    have nd := scDue.nd
    have isk : IsK K := ⟨trivial⟩
    have hu := hu_of hr
    refine ⟨_, pss_cons (ps_if (pt_cmpR op_eq (pe_ix (ixK isk) (pv 0) pe_int (fun _ _ => rfl)) pe_str (nomark _)) (pss_one (ps_ret pe_str)) pss_nil)
      (pss_cons (ps_set (i := 1) nd rfl (.inl rfl) (pe_op op_addA (pe_op op_addA (pe_op op_addA (pe_op op_addA pe_str (pe_callTy (call_strI nb rfl) rfl (fr.h _ (by decide +kernel)) (by decide +kernel) (pa_cons (pe_ix (ixK isk) (pe_ix (ixK isk) (pv 0) pe_int (fun _ _ => rfl)) pe_int (fun _ _ => rfl)) pa_nil))) pe_str) (pe_callTy (call_strI nb rfl) rfl (fr.h _ (by decide +kernel)) (by decide +kernel) (pa_cons (pe_ix (ixK isk) (pe_ix (ixK isk) (pv 0) pe_int (fun _ _ => rfl)) pe_int (fun _ _ => rfl)) pa_nil))) pe_str))
      (pss_cons (ps_if (pt_cmpR op_eq (pe_ix (ixK isk) (pv 0) pe_int (fun _ _ => rfl)) pe_str (nomark _))
          (pss_cons (ps_set (i := 2) nd rfl (.inr rfl) (pe_callTy (call_dictP rfl) rfl (fr.h _ (by decide +kernel)) (by decide +kernel) (pa_cons (pe_ix (ixK isk) (pv 0) pe_int (fun _ _ => rfl)) pa_nil)))
          (pss_one (ps_ret (pe_op op_addA (pe_callB (call_repr hG hr) rfl (fr.h _ (by decide +kernel)) (by decide +kernel) (pa_cons (pe_lc (own := [("_law_spot", 4)]) (g := gName 4) (tt := tYes) rfl nd (pi_list (pe_dn DI hr (by rfl) (by decide) (pa_cons (pv 0) pa_nil))) (blkOk_by (N := nDue) (sc := defScope (top 55)) (by decide +kernel)) (fun _ _ _ _ _ => pg_name (i := 4) nd rfl (Or.inl rfl)) (fun _ _ _ _ _ => pts_nil)
              (fun s1 H1 C1 c1 f1 => by exact pe_tup (pa_cons (pv 4) (pa_cons (pe_dget hu (pv 2) (pv 4) (fun _ _ => rfl)) pa_nil)))) pa_nil)) (pv 1))))) pss_nil)
      (pss_cons (ps_setLc (i := 3) (own := [("_law_side", 5)]) (g := gName 5) (tt := tYes) rfl nd rfl rfl (by exact sw_true rfl rfl rfl (by decide +kernel)) (pi_tup (pe_ix (ixK isk) (pv 0) pe_int (fun _ _ => rfl))) (blkOk_by (N := nDue) (sc := defScope (top 55)) (by decide +kernel)) (fun _ _ _ _ _ => pg_name (i := 5) nd rfl (Or.inl rfl)) (fun _ _ _ _ _ => pts_nil)
          (fun s1 H1 C1 c1 f1 => by exact pe_callTy (tupK isk) rfl (fr.h _ (by decide +kernel)) (by decide +kernel) (pa_cons (pe_callBK (srtK isk hr) rfl (fr.h _ (by decide +kernel)) (by decide +kernel) (pa_cons (pv 5) pa_nil) (pk_cons (pe_bltn (v := V.ty "str") rfl (fr.h _ (by decide +kernel)) (by rfl) rfl) pk_nil)) pa_nil)))
      (pss_one (ps_ret (pe_op op_addA (pe_callB (call_repr hG hr) rfl (fr.h _ (by decide +kernel)) (by decide +kernel) (pa_cons (pv 3) pa_nil)) (pv 1))))))), ?_⟩
    obtain ⟨po, ho, hd⟩ := id ht
    have ka : (Str.ofString "Amount(").length = 7 := by decide
    have kc : (Str.ofString ", ").length = 2 := by decide
    have kb : (Str.ofString ")").length = 1 := by decide
    have big := big_ln
    have es : ∀ q : Rat, Am.shown q = Str.ofString "Amount(" ++ (toString q.num : String) ++ Str.ofString ", " ++ (toString (q.den : Int) : String) ++ Str.ofString ")" := fun q => by
      unfold Am.shown
      rw [emp]
    have b8 : ∀ {q : Rat}, Low 200 q → q.num.natAbs < 2 ^ 8000 ∧ ((q.den : Int)).natAbs < 2 ^ 8000 := fun {q} l => ⟨Nat.lt_trans l.1 (Nat.pow_lt_pow_right (by decide) (by decide)), Nat.lt_trans (by rw [Int.natAbs_natCast]; exact l.2) (Nat.pow_lt_pow_right (by decide) (by decide))⟩
    have bl : ∀ {q : Rat}, Low 200 q → (Str.ofString (toString q.num)).length ≤ 300 ∧ (Str.ofString (toString (q.den : Int))).length ≤ 300 := fun {q} l => ⟨num_len (Nat.lt_trans l.1 (by decide)), num_len (by rw [Int.natAbs_natCast]; exact Nat.lt_trans l.2 (by decide))⟩
    cases td with
    | loo xs =>
      obtain ⟨px, hx, htt⟩ := hd
      exact ⟨_, rfl, ix4 (i := 0) htt rfl ⟨rfl, _, rfl, if_yes (z H (Am.Ext.refl H))⟩⟩
    | sum ls q =>
      obtain ⟨pl, ps, pq, hl, hp, hq, htt⟩ := hd
      obtain ⟨n0, lq⟩ := ok.dt
      obtain ⟨l1, l2⟩ := bl lq
      refine ⟨_, rfl, ix4 (i := 0) htt rfl ⟨rfl, _, rfl, if_no s_sl ?_⟩⟩
      refine ⟨_, rfl, ix4 (i := 2) htt rfl (ix4 (i := 0) hq rfl ⟨_, rfl, (b8 lq).1, .inr (.inl ⟨_, _, rfl, rfl, ?_, .inr (.inl ⟨_, _, rfl, rfl, ?_, _, rfl, ix4 (i := 2) htt rfl (ix4 (i := 1) hq rfl ⟨_, rfl, (b8 lq).2, .inr (.inl ⟨_, _, rfl, rfl, ?_, .inr (.inl ⟨_, _, rfl, rfl, ?_, ?_⟩)⟩)⟩)⟩)⟩)⟩)⟩
      · rw [ka]; omega
      · rw [strLen_append, ka, kc]; omega
      · rw [strLen_append, strLen_append, ka, kc]; omega
      · rw [strLen_append, strLen_append, strLen_append, ka, kc, kb]; omega
      rw [← es q]
      have ls7 := shown_len200 lq
      have nm := ok.nm
      have wok : ∀ x ∈ ordW ls, nameB x.1 = true ∧ x.2.natAbs < 2 ^ 150 := fun x hx => by
        obtain ⟨y, hy, rfl⟩ := List.mem_map.mp hx
        have hy' := (srt_mem _ y).mp hy
        obtain ⟨n, e, m⟩ := wt_some hy'
        refine ⟨nm.ok y hy', ?_⟩
        show ((wt ls y).getD 0).natAbs < _
        rw [e]
        exact (n0 _ m).2
      have fw : (ordW ls).length < 64 := by
        unfold ordW
        rw [List.length_map, srt_len]
        exact nm.few
      refine ⟨_, rfl, ix4 (i := 0) htt rfl ⟨rfl, _, rfl, if_yes ⟨_, rfl, ix4 (i := 1) htt rfl ⟨pl, ps, wts ls, rfl, SqL.of hl, prs_kv hp, fun d hd => ?_⟩⟩⟩⟩
      rw [merge_w nm.nd]
      have e1 := Am.Ext.new (o := .dK (wts ls)) hd
      have hdv : upd H d (.dK (wts ls)) d = some (.dK (wts ls)) := upd_same
      generalize upd H d (.dK (wts ls)) = H1 at e1 hdv ⊢
      refine ⟨_, rfl, t, _, os, rfl, ht.ext e1, nm, fun L H2 e2 n2 hL => ⟨L, rfl, ⟨_, SqL.of hL⟩, fun D hD => ?_⟩⟩
      have e12 := e1.trans e2
      have hL' : H2 L = some (.lst ((srt (ls.map fun x : Str × Int => x.1)).map V.str)) := hL
      refine lc_it (walk_list (xs := (srt (ls.map fun x : Str × Int => x.1)).map V.str)) (fun i H' => Am.Ext H2 H' ∧ ∃ qs : List Addr, H' D = some (.lst (qs.map V.ref)) ∧ Prs H' qs ((ordW ls).take i)) ⟨Am.Ext.new hD, [], by rw [upd_same]; rfl, .nil⟩ (fun i H' _ h => SqL.of (h.1 _ _ hL')) ?_ ?_
      · rintro i y H3 H4 hi ⟨e, qs, dq, pr⟩ ⟨rfl, hy⟩
        obtain ⟨x, hx, rfl⟩ := map_at hy
        have hm := (srt_mem _ x).mp (List.mem_of_getElem? hx)
        obtain ⟨n, en, mn⟩ := wt_some hm
        have hx2 : (ordW ls)[i]? = some (x, n) := by
          unfold ordW
          rw [List.getElem?_map, hx]
          show some (x, (wt ls x).getD 0) = _
          rw [en]
          rfl
        have g : DGet H4 d (.str x) (some (.int n)) := by
          have := DGet.k (k := (Sum.inr x : Key)) (e _ _ (e2 _ _ hdv))
          rw [valV_w, en] at this
          exact this
        have lq' := prs_len pr
        rw [List.length_take] at lq'
        refine ⟨rfl, _, rfl, _, rfl, _, rfl, d, _, rfl, g, (by show 2 ≤ sizeLine; decide), fun T hT => ?_⟩
        have DT : D ≠ T := ne_of_none dq hT
        refine ⟨_, by rw [upd_ne DT]; exact dq, by rw [List.length_map]; omega, ext_off (e.then hT) hD, qs ++ [T], by rw [upd_same, List.map_append]; rfl, ?_⟩
        rw [take_suc hx2]
        refine prs_new (pr.mono fun a xs h => ?_) ?_
        · rw [upd_ne (ne_of h dq (fun e => nomatch e)), upd_ne (ne_of_none h hT)]
          exact h
        · rw [upd_ne (Ne.symm DT), upd_same]
      · rintro H3 ⟨e, qs, dq, pr⟩
        rw [List.take_of_length_le (by unfold ordW; rw [List.length_map, List.length_map]; exact Nat.le_refl _)] at pr
        dsimp only [L2.tNil]
        refine prs_rr dq pr wok fw ⟨_, rfl, .inr (.inl ⟨_, _, rfl, rfl, ?_, z H3 (e12.trans e)⟩)⟩
        have := prsT_len wok fw
        omega
    | pro xs ys q =>
      obtain ⟨pp, px, py, pq, hx, hy, hpp, hq, htt⟩ := hd
      obtain ⟨q0, lq⟩ := ok.dt
      obtain ⟨l1, l2⟩ := bl lq
      refine ⟨_, rfl, ix4 (i := 0) htt rfl ⟨rfl, _, rfl, if_no s_pl ?_⟩⟩
      refine ⟨_, rfl, ix4 (i := 2) htt rfl (ix4 (i := 0) hq rfl ⟨_, rfl, (b8 lq).1, .inr (.inl ⟨_, _, rfl, rfl, ?_, .inr (.inl ⟨_, _, rfl, rfl, ?_, _, rfl, ix4 (i := 2) htt rfl (ix4 (i := 1) hq rfl ⟨_, rfl, (b8 lq).2, .inr (.inl ⟨_, _, rfl, rfl, ?_, .inr (.inl ⟨_, _, rfl, rfl, ?_, ?_⟩)⟩)⟩)⟩)⟩)⟩)⟩
      · rw [ka]; omega
      · rw [strLen_append, ka, kc]; omega
      · rw [strLen_append, strLen_append, ka, kc]; omega
      · rw [strLen_append, strLen_append, strLen_append, ka, kc, kb]; omega
      rw [← es q]
      have ls7 := shown_len200 lq
      have fx := ok.nm.left.f
      have fy := ok.nm.right.f
      refine ⟨_, rfl, ix4 (i := 0) htt rfl ⟨rfl, _, rfl, if_no s_ps ⟨_, rfl, ix4 (i := 1) htt rfl ⟨pp, rfl, ⟨_, SqT.of hpp⟩, fun D hD => ?_⟩⟩⟩⟩
      refine lc_it (walk_tup (xs := [V.ref px, V.ref py])) (fun i H' => Am.Ext H H' ∧ ∃ rs : List Addr, H' D = some (.lst (rs.map V.ref)) ∧ rs.length = i ∧ (∀ r, rs[0]? = some r → Tp H' r (srt xs)) ∧ ∀ r, rs[1]? = some r → Tp H' r (srt ys)) ⟨Am.Ext.new hD, [], by rw [upd_same]; rfl, rfl, (fun _ h => nomatch h), fun _ h => nomatch h⟩ (fun i H' _ h => SqT.of (h.1 _ _ hpp)) ?_ ?_
      · rintro i y H3 H4 hi ⟨e, rs, dr, lr, t0, t1⟩ ⟨rfl, hy'⟩
        have one : ∃ (a : Addr) (zs : List Str), y = .ref a ∧ Ls H4 a zs ∧ zs.length < 64 ∧ ((i = 0 ∧ zs = xs) ∨ (i = 1 ∧ zs = ys)) := by
          match i, hi, hy' with
          | 0, _, h => cases h; exact ⟨px, xs, rfl, e _ _ hx, fx.2, .inl ⟨rfl, rfl⟩⟩
          | 1, _, h => cases h; exact ⟨py, ys, rfl, e _ _ hy, fy.2, .inr ⟨rfl, rfl⟩⟩
          | i + 2, h, _ => exfalso; have : i + 2 < 2 := h; omega
        obtain ⟨a, zs, rfl, ha, lz, wh⟩ := one
        refine ⟨rfl, _, rfl, rfl, a, zs, rfl, SqL.of ha, by omega, fun L hL => ⟨L, _, rfl, .inl ⟨SqL.of upd_same, fun T hT => ?_⟩⟩⟩
        have e2 := (Am.Ext.new (o := .lst ((srt zs).map V.str)) hL).trans (Am.Ext.new (o := .tup ((srt zs).map V.str)) hT)
        have hTv : upd (upd H4 L (.lst ((srt zs).map V.str))) T (.tup ((srt zs).map V.str)) T = some (.tup ((srt zs).map V.str)) := upd_same
        generalize upd (upd H4 L (.lst ((srt zs).map V.str))) T (.tup ((srt zs).map V.str)) = H5 at e2 hTv ⊢
        have dr2 := e2 _ _ dr
        have tpD : ∀ {r : Addr} {us : List Str}, Tp H5 r us → Tp (upd H5 D (.lst (rs.map V.ref ++ [V.ref T]))) r us := fun {r us} h => by
          show upd _ _ _ _ = _
          rw [upd_ne (ne_of h dr2 (fun e => nomatch e))]
          exact h
        refine ⟨_, dr2, by rw [List.length_map]; have : i < 2 := hi; omega, ext_off (e.trans e2) hD, rs ++ [T], by rw [upd_same, List.map_append]; rfl, by rw [List.length_append, lr]; rfl, fun r hr => ?_, fun r hr => ?_⟩
        · rcases wh with ⟨rfl, rfl⟩ | ⟨rfl, rfl⟩
          · have : rs = [] := List.length_eq_zero_iff.mp lr
            subst this
            cases hr
            exact tpD hTv
          · rw [List.getElem?_append_left (by omega)] at hr
            exact tpD (e2 _ _ (t0 r hr))
        · rcases wh with ⟨rfl, rfl⟩ | ⟨rfl, rfl⟩
          · have : rs = [] := List.length_eq_zero_iff.mp lr
            subst this
            cases hr
          · rw [List.getElem?_append_right (by omega), lr] at hr
            cases hr
            exact tpD hTv
      · rintro H3 ⟨e, rs, dr, lr, t0, t1⟩
        match rs, lr, dr, t0, t1 with
        | [a, b], _, dr, t0, t1 =>
          refine ⟨_, rfl, ?_⟩
          dsimp only [L2.tNil]
          refine two_rr dr (t0 a rfl) (t1 b rfl) fx.srt fy.srt ⟨_, rfl, .inr (.inl ⟨_, _, rfl, rfl, ?_, z H3 e⟩)⟩
          have a1 := tupS_len fx.srt
          have a2 := tupS_len fy.srt
          have a3 := listText_le [tupS (srt xs), tupS (srt ys)]
          rw [piled_cons, piled_cons, piled_nil] at a3
          unfold sidesT
          omega
end
end KD

set_option Elab.async false
set_option linter.all false
set_option maxRecDepth 100000
set_option maxHeartbeats 2000000
set_option exponentiation.threshold 20000
/-! fields of rules read; _law_told_parts. -/
namespace KD
open PySem PySem.Spec PyProof.Rows L2 Oo Gd Am KA SqX
/-- a property with its promise -/
structure Prp (P : Program) (w : World) (K : W.Frag) (mg : Str → Option Value) (base : Heap) (C : Addr) (nm : Str) (sp : Sp) : Prop where
  cl : Cls K C
  of : ∃ p g fd, PropOf K C nm p g ∧ FnOk P w K mg base CX0 1 g fd ["self"] sp ∧ Binds K fd ["self"] []
def tPrp (C : Addr) (sp : Sp) (ta : TE) : TE := fun σ H Q => ta σ H fun x H1 => ∃ (a dx : Addr) (fs : List (Str × V)), x = .ref a ∧ H1 a = some (.ins C dx fs) ∧ sp [.ref a] H1 Q E0
theorem pe_prp {X : Cx} {C : Addr} {nm : Str} {sp : Sp} {e : Expr} {ta : TE} {pos : Pos} {k : Nat} (R : Prp X.prog X.w X.K X.mg X.base C nm sp) (hr : Room k X.A) (hk : 2 ≤ k) (he : PE X e ta) (hb : attributeBase e nm X.env (eval e X.env) = eval e X.env := by rfl) : PE X (.Attribute e nm pos) (tPrp C sp ta) := by
  obtain ⟨p, g, fd, hp, F, b⟩ := R.of
  refine ⟨fun pins s σ H Q I h => ?_⟩
  refine attr_of hb (thn (he.run pins s σ H _ I h) fun u s1 ⟨x, H1, I1, rx, a, dx, fs, ex, ea, z⟩ => ?_)
  subst ex
  obtain rfl : u = Value.ref a := rx
  exact getprop_ok (E := E0) I1 ea R.cl hp F (hr.mono hk) b .nil pass0 z
structure RP (P : Program) (w : World) (K : W.Frag) (mg : Str → Option Value) (base : Heap) (CT CP CL : Addr) : Prop where
  tw : Prp P w K mg base CT "weights" (spWs CT)
  tt : Prp P w K mg base CT "total" (spFld CT "_total")
  tf : Prp P w K mg base CT "fields" (spFld CT "_fields")
  ty : Prp P w K mg base CT "ways" (spFld CT "_ways")
  pl : Prp P w K mg base CP "left" (spFld CP "_left")
  pr : Prp P w K mg base CP "right" (spFld CP "_right")
  pc : Prp P w K mg base CP "factor" (spFld CP "_factor")
  pf : Prp P w K mg base CP "fields" (spFld CP "_fields")
  py : Prp P w K mg base CP "ways" (spFld CP "_ways")
  lf : Prp P w K mg base CL "fields" (spFld CL "_fields")
  ly : Prp P w K mg base CL "ways" (spFld CL "_ways")
theorem prs_of_kv {H : Hp} : ∀ {ts : List Addr} {ls : List (Str × Int)}, Paired (fun (t : Addr) (p : Key × V) => H t = some (.tup [kV p.1, p.2])) ts (wts ls) → Prs H ts ls
  | _, [], h => by
    cases h
    exact .nil
  | _, x :: ls, h => by
    cases h with
    | cons a b => exact .cons a (prs_of_kv b)
section
variable {P : Program} {w : World} {K : W.Frag} {mg : Str → Option Value} {base : Heap} {f A C CT CP CL : Addr} {fd : FuncData} {t t2 t3 : Tok}
def spTold (A CT CP CL : Addr) : Sp := fun vs H Q _ => ∃ (t r : Addr) (td : TD) (os : List Str), vs = [.ref t, .ref r] ∧ TieAt H t td os ∧ TdOk td os ∧ IsRule A CT CP CL H r td os ∧ ∀ H', Am.Ext H H' → Q (.str (partsT td)) H'
theorem scTold : FnScope ["_law_tie", "_law_rule_here"] ["_law_tie", "_law_rule_here"] (defScope (top 56)) := ⟨rfl, rfl, rfl, by decide +kernel, rfl, by decide +kernel, by decide +kernel⟩
theorem ok_told (fr : Frees mg) (R : Rep P w K mg base A) (RPs : RP P w K mg base CT CP CL) (F : Fun K "_law_told_parts" "_law_told_parts" (top 56) f fd) : FnG P w K mg base CX0 6 f fd ["_law_tie", "_law_rule_here"] (spTold A CT CP CL) := by
  refine Gd.okG F scTold (fun vs H Q E h => ?_) (fun cdv A' outer s H vs Q E hG hr h => ?_)
  · obtain ⟨t, r, td, os, rfl, _⟩ := h
    rfl
  · obtain ⟨t, r, td, os, rfl, ht, ok, ir, z⟩ := h
    have isk : IsK K := ⟨trivial⟩
    have big := big_ln
    refine ⟨_, pss_cons (ps_if (pt_cmpR op_eq (pe_ix (ixK isk) (pv 0) pe_int (fun _ _ => rfl)) pe_str (nomark _)) (pss_one (ps_ret pe_str)) pss_nil)
      (pss_cons (ps_if (pt_cmpR op_eq (pe_ix (ixK isk) (pv 0) pe_int (fun _ _ => rfl)) pe_str (nomark _)) (pss_one (ps_ret (pe_op op_addA (pe_callB (call_repr hG hr) rfl (fr.h _ (by decide +kernel)) (by decide +kernel) (pa_cons (LiI.pe_listItems rfl (pe_prp RPs.tw hr (by decide) (pv 1)) rfl (fr.h _ (by decide +kernel)) (by decide +kernel)) pa_nil))
          (pe_callB (call_reprN (k := 0) R hG (hr.mono (by decide))) rfl (fr.h _ (by decide +kernel)) (by decide +kernel) (pa_cons (pe_prp RPs.tt hr (by decide) (pv 1)) pa_nil))))) pss_nil)
      (pss_one (ps_ret (pe_op op_addA (pe_callB (call_repr hG hr) rfl (fr.h _ (by decide +kernel)) (by decide +kernel) (pa_cons (pe_lst (pa_cons (pe_prp RPs.pl hr (by decide) (pv 1)) (pa_cons (pe_prp RPs.pr hr (by decide) (pv 1)) pa_nil))) pa_nil))
          (pe_callB (call_reprN (k := 0) R hG (hr.mono (by decide))) rfl (fr.h _ (by decide +kernel)) (by decide +kernel) (pa_cons (pe_prp RPs.pc hr (by decide) (pv 1)) pa_nil)))))), ?_⟩
    obtain ⟨po, v1, v2, ho, hv, htt⟩ := ht.v
    have smn : ∀ {q : Rat} {a : Addr}, Low 200 q → SmN (.ref a) q := fun {q a} l => ⟨Nat.lt_trans l.1 (by decide), Nat.lt_trans l.2 (by decide)⟩
    cases td with
    | loo xs => exact ⟨_, rfl, ix4 (i := 0) htt rfl ⟨rfl, _, rfl, if_yes (z H (Am.Ext.refl H))⟩⟩
    | sum ls q =>
      obtain ⟨n0, lq⟩ := ok.dt
      obtain ⟨dx, pt, pf, pd, pw, hi, hit, hf, hd, hw⟩ := (show IsT A CT H r q (ordW ls) (srt (ls.map (·.1))) (srt os) from ir)
      have ls7 := shown_len200 lq
      have nm := ok.nm
      have wok : ∀ x ∈ ordW ls, nameB x.1 = true ∧ x.2.natAbs < 2 ^ 150 := fun x hx => by
        obtain ⟨y, hy, rfl⟩ := List.mem_map.mp hx
        have hy' := (srt_mem _ y).mp hy
        obtain ⟨n, e, m⟩ := wt_some hy'
        refine ⟨nm.ok y hy', ?_⟩
        show ((wt ls y).getD 0).natAbs < _
        rw [e]
        exact (n0 _ m).2
      have fw : (ordW ls).length < 64 := by
        unfold ordW
        rw [List.length_map, srt_len]
        exact nm.few
      refine ⟨_, rfl, ix4 (i := 0) htt rfl ⟨rfl, _, rfl, if_no s_sl ⟨_, rfl, ix4 (i := 0) htt rfl ⟨rfl, _, rfl, if_yes ⟨_, rfl, r, dx, _, rfl, hi, r, dx, _, pd, _, rfl, hi, rfl, hd, fun p hp => ?_⟩⟩⟩⟩⟩
      have e1 := Am.Ext.new (o := .dK (wts (ordW ls))) hp
      refine ⟨p, _, rfl, upd_same, fun H2 D ts e2 hD _ _ dD pr => ?_⟩
      have e12 := e1.trans e2
      dsimp only [L2.tNil]
      refine prs_rr dD (prs_of_kv pr) wok fw ?_
      refine ⟨_, rfl, r, dx, _, rfl, e12 _ _ hi, r, dx, _, _, rfl, e12 _ _ hi, rfl, .ref pt, q, rfl, .inr ⟨pt, rfl, hit.ext e12⟩, smn lq, .inr (.inl ⟨_, _, rfl, rfl, ?_, z H2 e12⟩)⟩
      have := prsT_len wok fw
      show _ + (Am.shown q).length ≤ _
      omega
    | pro xs ys q =>
      obtain ⟨q0, lq⟩ := ok.dt
      obtain ⟨dx, pt, pl, pr, pf, pw, hi, hit, hl, hrr, hf, hw⟩ := (show IsP A CP H r q (srt xs) (srt ys) (srt (xs ++ ys)) (srt os) from ir)
      have ls7 := shown_len200 lq
      have fx := ok.nm.left.f.srt
      have fy := ok.nm.right.f.srt
      refine ⟨_, rfl, ix4 (i := 0) htt rfl ⟨rfl, _, rfl, if_no s_pl ⟨_, rfl, ix4 (i := 0) htt rfl ⟨rfl, _, rfl, if_no s_ps ⟨_, rfl, r, dx, _, rfl, hi, r, dx, _, _, rfl, hi, rfl, _, rfl, r, dx, _, rfl, hi, r, dx, _, _, rfl, hi, rfl, (by show 2 ≤ sizeLine; decide), fun D hD => ?_⟩⟩⟩⟩⟩
      have e1 := Am.Ext.new (o := .lst [.ref pl, .ref pr]) hD
      dsimp only [L2.tNil]
      refine two_rr upd_same (e1 _ _ hl) (e1 _ _ hrr) fx fy ?_
      refine ⟨_, rfl, r, dx, _, rfl, e1 _ _ hi, r, dx, _, _, rfl, e1 _ _ hi, rfl, .ref pt, q, rfl, .inr ⟨pt, rfl, hit.ext e1⟩, smn lq, .inr (.inl ⟨_, _, rfl, rfl, ?_, z _ e1⟩)⟩
      have a1 := tupS_len fx
      have a2 := tupS_len fy
      have a3 := listText_le [tupS (srt xs), tupS (srt ys)]
      rw [piled_cons, piled_cons, piled_nil] at a3
      show (sidesT _ _).length + (Am.shown q).length ≤ _
      unfold sidesT
      omega
end
end KD

set_option Elab.async false
set_option linter.all false
set_option maxRecDepth 100000
set_option maxHeartbeats 2000000
set_option exponentiation.threshold 20000
/-! _law_is_right. -/
namespace KD
open PySem PySem.Spec PyProof.Rows L2 Oo Gd Am KA SqX
/-- what isinstance finds of the classes -/
structure KK (K : W.Frag) (CT CP CL CR : Addr) : Prop where
  iT : C8.InsC K CT
  iP : C8.InsC K CP
  iL : C8.InsC K CL
  tp : W.kitOne K (.ref CT) (.ref CP) = some false
  tl : W.kitOne K (.ref CT) (.ref CL) = some false
  pt : W.kitOne K (.ref CP) (.ref CT) = some false
  pl : W.kitOne K (.ref CP) (.ref CL) = some false
  lt : W.kitOne K (.ref CL) (.ref CT) = some false
  lp : W.kitOne K (.ref CL) (.ref CP) = some false
  tr : W.kitOne K (.ref CT) (.ref CR) = some true
  pr : W.kitOne K (.ref CP) (.ref CR) = some true
  lr : W.kitOne K (.ref CL) (.ref CR) = some true
def isSum : TD → Bool
  | .sum _ _ => true
  | _ => false
def isPro : TD → Bool
  | .pro _ _ _ => true
  | _ => false
def isLoo : TD → Bool
  | .loo _ => true
  | _ => false
section
variable {X : Cx} {K : W.Frag} {A CT CP CL CR : Addr}
theorem IsRule.ty {H : Hp} {r : Addr} {td : TD} {os : List Str} (k : KK K CT CP CL CR) (h : IsRule A CT CP CL H r td os) : ∃ C, TyX K H (.ref r) (.ref C) ∧ ((isSum td = true ∧ C = CT) ∨ (isPro td = true ∧ C = CP) ∨ (isLoo td = true ∧ C = CL)) := by
  cases td with
  | loo xs =>
    obtain ⟨dx, pf, pw, hi, _⟩ := (show IsL CL H r _ _ from h)
    exact ⟨CL, TyX.base (TyOf.ins hi k.iL.cl k.iL.ha k.iL.hn k.iL.htk k.iL.hm), .inr (.inr ⟨rfl, rfl⟩)⟩
  | sum ls q =>
    obtain ⟨dx, pt, pf, pd, pw, hi, _⟩ := (show IsT A CT H r _ _ _ _ from h)
    exact ⟨CT, TyX.base (TyOf.ins hi k.iT.cl k.iT.ha k.iT.hn k.iT.htk k.iT.hm), .inl ⟨rfl, rfl⟩⟩
  | pro xs ys q =>
    obtain ⟨dx, pt, pl, pr, pf, pw, hi, _⟩ := (show IsP A CP H r _ _ _ _ _ from h)
    exact ⟨CP, TyX.base (TyOf.ins hi k.iP.cl k.iP.ha k.iP.hn k.iP.htk k.iP.hm), .inr (.inl ⟨rfl, rfl⟩)⟩
theorem isr_T {H : Hp} {r : Addr} {td : TD} {os : List Str} {Q : VK} (k : KK K CT CP CL CR) (h : IsRule A CT CP CL H r td os) (z : Q (.bl (isSum td)) H) : rIsi K [.ref r, .ref CT] H Q := by
  obtain ⟨C, ty, w⟩ := h.ty k
  cases td with
  | loo xs => rcases w with ⟨e, _⟩ | ⟨e, _⟩ | ⟨_, rfl⟩ <;> first | cases e | exact ⟨_, _, _, _, false, rfl, ClsV.own CT, ty, k.lt, z⟩
  | sum ls q => rcases w with ⟨_, rfl⟩ | ⟨e, _⟩ | ⟨e, _⟩ <;> first | cases e | exact ⟨_, _, _, _, true, rfl, ClsV.own _, ty, k.iT.me, z⟩
  | pro xs ys q => rcases w with ⟨e, _⟩ | ⟨_, rfl⟩ | ⟨e, _⟩ <;> first | cases e | exact ⟨_, _, _, _, false, rfl, ClsV.own CT, ty, k.pt, z⟩
theorem isr_P {H : Hp} {r : Addr} {td : TD} {os : List Str} {Q : VK} (k : KK K CT CP CL CR) (h : IsRule A CT CP CL H r td os) (z : Q (.bl (isPro td)) H) : rIsi K [.ref r, .ref CP] H Q := by
  obtain ⟨C, ty, w⟩ := h.ty k
  cases td with
  | loo xs => rcases w with ⟨e, _⟩ | ⟨e, _⟩ | ⟨_, rfl⟩ <;> first | cases e | exact ⟨_, _, _, _, false, rfl, ClsV.own CP, ty, k.lp, z⟩
  | sum ls q => rcases w with ⟨_, rfl⟩ | ⟨e, _⟩ | ⟨e, _⟩ <;> first | cases e | exact ⟨_, _, _, _, false, rfl, ClsV.own CP, ty, k.tp, z⟩
  | pro xs ys q => rcases w with ⟨e, _⟩ | ⟨_, rfl⟩ | ⟨e, _⟩ <;> first | cases e | exact ⟨_, _, _, _, true, rfl, ClsV.own _, ty, k.iP.me, z⟩
theorem isr_L {H : Hp} {r : Addr} {td : TD} {os : List Str} {Q : VK} (k : KK K CT CP CL CR) (h : IsRule A CT CP CL H r td os) (z : Q (.bl (isLoo td)) H) : rIsi K [.ref r, .ref CL] H Q := by
  obtain ⟨C, ty, w⟩ := h.ty k
  cases td with
  | loo xs => rcases w with ⟨e, _⟩ | ⟨e, _⟩ | ⟨_, rfl⟩ <;> first | cases e | exact ⟨_, _, _, _, true, rfl, ClsV.own _, ty, k.iL.me, z⟩
  | sum ls q => rcases w with ⟨_, rfl⟩ | ⟨e, _⟩ | ⟨e, _⟩ <;> first | cases e | exact ⟨_, _, _, _, false, rfl, ClsV.own CL, ty, k.tl, z⟩
  | pro xs ys q => rcases w with ⟨e, _⟩ | ⟨_, rfl⟩ | ⟨e, _⟩ <;> first | cases e | exact ⟨_, _, _, _, false, rfl, ClsV.own CL, ty, k.pl, z⟩
theorem isr_R {H : Hp} {r : Addr} {td : TD} {os : List Str} {Q : VK} (k : KK K CT CP CL CR) (h : IsRule A CT CP CL H r td os) (z : Q (.bl true) H) : rIsi K [.ref r, .ref CR] H Q := by
  obtain ⟨C, ty, w⟩ := h.ty k
  rcases w with ⟨_, rfl⟩ | ⟨_, rfl⟩ | ⟨_, rfl⟩
  · exact ⟨_, _, _, _, true, rfl, ClsV.own CR, ty, k.tr, z⟩
  · exact ⟨_, _, _, _, true, rfl, ClsV.own CR, ty, k.pr, z⟩
  · exact ⟨_, _, _, _, true, rfl, ClsV.own CR, ty, k.lr, z⟩
/-- a rule's fields, its ways -/
def tRf (A CT CP CL : Addr) (ta : TE) : TE := fun σ H Q => ta σ H fun x H1 => ∃ (r : Addr) (td : TD) (os : List Str), x = .ref r ∧ IsRule A CT CP CL H1 r td os ∧ ∀ p, Tp H1 p (srt td.ins) → Q (.ref p) H1
def tRw (A CT CP CL : Addr) (ta : TE) : TE := fun σ H Q => ta σ H fun x H1 => ∃ (r : Addr) (td : TD) (os : List Str), x = .ref r ∧ IsRule A CT CP CL H1 r td os ∧ ∀ p, Tp H1 p (srt os) → Q (.ref p) H1
theorem pe_fields {e : Expr} {ta : TE} {pos : Pos} {k : Nat} (R : RP X.prog X.w X.K X.mg X.base CT CP CL) (hr : Room k X.A) (hk : 2 ≤ k) (he : PE X e ta) (hb : attributeBase e "fields" X.env (eval e X.env) = eval e X.env := by rfl) : PE X (.Attribute e "fields" pos) (tRf A CT CP CL ta) := by
  obtain ⟨p1, g1, fd1, hp1, F1, b1⟩ := R.tf.of
  obtain ⟨p2, g2, fd2, hp2, F2, b2⟩ := R.pf.of
  obtain ⟨p3, g3, fd3, hp3, F3, b3⟩ := R.lf.of
  refine ⟨fun pins s σ H Q I h => ?_⟩
  refine attr_of hb (thn (he.run pins s σ H _ I h) fun u s1 ⟨x, H1, I1, rx, r, td, os, ex, ir, z⟩ => ?_)
  subst ex
  obtain rfl : u = Value.ref r := rx
  cases td with
  | loo xs =>
    obtain ⟨dx, pf, pw, hi, hf, hw⟩ := (show IsL CL H1 r _ _ from ir)
    exact getprop_ok (E := E0) I1 hi R.lf.cl hp3 F3 (hr.mono hk) b3 .nil pass0 ⟨r, dx, _, _, rfl, hi, rfl, z pf hf⟩
  | sum ls q =>
    obtain ⟨dx, pt, pf, pd, pw, hi, hit, hf, hd, hw⟩ := (show IsT A CT H1 r _ _ _ _ from ir)
    exact getprop_ok (E := E0) I1 hi R.tf.cl hp1 F1 (hr.mono hk) b1 .nil pass0 ⟨r, dx, _, _, rfl, hi, rfl, z pf hf⟩
  | pro xs ys q =>
    obtain ⟨dx, pt, pl, pr, pf, pw, hi, hit, hl, hrr, hf, hw⟩ := (show IsP A CP H1 r _ _ _ _ _ from ir)
    exact getprop_ok (E := E0) I1 hi R.pf.cl hp2 F2 (hr.mono hk) b2 .nil pass0 ⟨r, dx, _, _, rfl, hi, rfl, z pf hf⟩
theorem pe_ways {e : Expr} {ta : TE} {pos : Pos} {k : Nat} (R : RP X.prog X.w X.K X.mg X.base CT CP CL) (hr : Room k X.A) (hk : 2 ≤ k) (he : PE X e ta) (hb : attributeBase e "ways" X.env (eval e X.env) = eval e X.env := by rfl) : PE X (.Attribute e "ways" pos) (tRw A CT CP CL ta) := by
  obtain ⟨p1, g1, fd1, hp1, F1, b1⟩ := R.ty.of
  obtain ⟨p2, g2, fd2, hp2, F2, b2⟩ := R.py.of
  obtain ⟨p3, g3, fd3, hp3, F3, b3⟩ := R.ly.of
  refine ⟨fun pins s σ H Q I h => ?_⟩
  refine attr_of hb (thn (he.run pins s σ H _ I h) fun u s1 ⟨x, H1, I1, rx, r, td, os, ex, ir, z⟩ => ?_)
  subst ex
  obtain rfl : u = Value.ref r := rx
  cases td with
  | loo xs =>
    obtain ⟨dx, pf, pw, hi, hf, hw⟩ := (show IsL CL H1 r _ _ from ir)
    exact getprop_ok (E := E0) I1 hi R.ly.cl hp3 F3 (hr.mono hk) b3 .nil pass0 ⟨r, dx, _, _, rfl, hi, rfl, z pw hw⟩
  | sum ls q =>
    obtain ⟨dx, pt, pf, pd, pw, hi, hit, hf, hd, hw⟩ := (show IsT A CT H1 r _ _ _ _ from ir)
    exact getprop_ok (E := E0) I1 hi R.ty.cl hp1 F1 (hr.mono hk) b1 .nil pass0 ⟨r, dx, _, _, rfl, hi, rfl, z pw hw⟩
  | pro xs ys q =>
    obtain ⟨dx, pt, pl, pr, pf, pw, hi, hit, hl, hrr, hf, hw⟩ := (show IsP A CP H1 r _ _ _ _ _ from ir)
    exact getprop_ok (E := E0) I1 hi R.py.cl hp2 F2 (hr.mono hk) b2 .nil pass0 ⟨r, dx, _, _, rfl, hi, rfl, z pw hw⟩
end
end KD

set_option Elab.async false
set_option linter.all false
set_option maxRecDepth 100000
set_option maxHeartbeats 2000000
set_option exponentiation.threshold 20000
/-! _law_is_right. -/
namespace KD
open PySem PySem.Spec PyProof.Rows L2 Oo Gd Am KA SqX
theorem dp_bls {K : W.Frag} {H : Hp} : ∀ xs : List Bool, DpAll K H (xs.map V.bl) (xs.map PyData.bool)
  | [] => .nil
  | x :: r => .cons (.bl x) (dp_bls r)
theorem shaped_4 (a b c d : Bool) : SeqAt.shaped (.list ([a, b, c, d].map PyData.bool)) = true := by
  cases a <;> cases b <;> cases c <;> cases d <;> rfl
theorem d_eq_sum : ∀ td : TD, decide (V.str (kind td) = V.str "sum") = isSum td
  | .loo _ => (by decide : decide (V.str "loose" = V.str "sum") = false)
  | .sum _ _ => (by decide : decide (V.str "sum" = V.str "sum") = true)
  | .pro _ _ _ => (by decide : decide (V.str "product" = V.str "sum") = false)
theorem d_eq_pro : ∀ td : TD, decide (V.str (kind td) = V.str "product") = isPro td
  | .loo _ => (by decide : decide (V.str "loose" = V.str "product") = false)
  | .sum _ _ => (by decide : decide (V.str "sum" = V.str "product") = false)
  | .pro _ _ _ => (by decide : decide (V.str "product" = V.str "product") = true)
theorem d_eq_loo : ∀ td : TD, decide (V.str (kind td) = V.str "loose") = isLoo td
  | .loo _ => (by decide : decide (V.str "loose" = V.str "loose") = true)
  | .sum _ _ => (by decide : decide (V.str "sum" = V.str "loose") = false)
  | .pro _ _ _ => (by decide : decide (V.str "product" = V.str "loose") = false)
section
variable {P : Program} {w : World} {K : W.Frag} {mg : Str → Option Value} {base : Heap} {f A C CT CP CL CR : Addr} {fd : FuncData} {t t2 t3 : Tok}
def spIsr (A CT CP CL : Addr) : Sp := fun vs H Q _ => ∃ (t r : Addr) (td : TD) (os : List Str), vs = [.ref t, .ref r] ∧ TieAt H t td os ∧ TdOk td os ∧ IsRule A CT CP CL H r td os ∧ ∀ H', Am.Ext H H' → Q (.bl true) H'
abbrev nIsr : List Str := ["_law_tie", "_law_rule_here", "_law_due", "_law_kin"]
theorem scIsr : FnScope nIsr ["_law_tie", "_law_rule_here"] (defScope (top 57)) := ⟨rfl, rfl, rfl, by decide +kernel, rfl, by decide +kernel, by decide +kernel⟩
theorem ok_isr (fr : Frees mg) (RPs : RP P w K mg base CT CP CL) (kk : KK K CT CP CL CR) (mT : mg "Total" = some (.ref CT)) (mP : mg "Product" = some (.ref CP)) (mL : mg "Loose" = some (.ref CL)) (mR : mg "Rule" = some (.ref CR))
    (DI : Dn P w K mg base CX0 1 "_law_inside" ["_law_tie"] spIns) (DD : DnG P w K mg base 4 "_law_due_parts" ["_law_tie"] spDue) (DT : DnG P w K mg base 6 "_law_told_parts" ["_law_tie", "_law_rule_here"] (spTold A CT CP CL))
    (F : Fun K "_law_is_right" "_law_is_right" (top 57) f fd) : FnG P w K mg base CX0 7 f fd ["_law_tie", "_law_rule_here"] (spIsr A CT CP CL) := by
  refine Gd.okG F scIsr (fun vs H Q E h => ?_) (fun cdv A' outer s H vs Q E hG hr h => ?_)
  · obtain ⟨t, r, td, os, rfl, _⟩ := h
    rfl
  · obtain ⟨t, r, td, os, rfl, ht, ok, ir, z⟩ := h
    have nd := scIsr.nd
    have isk : IsK K := ⟨trivial⟩
    have big := big_ln
    refine ⟨_, pss_cons (ps_set (i := 2) nd rfl (.inl rfl) (pe_lst (pa_cons (pe_callTy (tupK isk) rfl (fr.h _ (by decide +kernel)) (by decide +kernel) (pa_cons (pe_dn DI hr (by rfl) (by decide) (pa_cons (pv 0) pa_nil)) pa_nil)) (pa_cons (pe_callTy (tupK isk) rfl (fr.h _ (by decide +kernel)) (by decide +kernel) (pa_cons (pe_callBK (srtK isk hr) rfl (fr.h _ (by decide +kernel)) (by decide +kernel) (pa_cons (pe_ix (ixK isk) (pv 0) pe_int (fun _ _ => rfl)) pa_nil) (pk_cons (pe_bltn (v := V.ty "str") rfl (fr.h _ (by decide +kernel)) (by rfl) rfl) pk_nil)) pa_nil)) pa_nil))))
      (pss_cons (ps_if (PW.pt (pw_or (pt_cmpR op_ne (pe_callB (call_repr hG hr) rfl (fr.h _ (by decide +kernel)) (by decide +kernel) (pa_cons (pe_lst (pa_cons (pe_fields (A := A) RPs hr (by decide) (pv 1)) (pa_cons (pe_ways (A := A) RPs hr (by decide) (pv 1)) pa_nil))) pa_nil)) (pe_callB (call_repr hG hr) rfl (fr.h _ (by decide +kernel)) (by decide +kernel) (pa_cons (pv 2) pa_nil)) (nomark _))
          (pw_or1 (pt_cmpR op_ne (pe_dnG DT hG hr (by rfl) (by decide) (pa_cons (pv 0) (pa_cons (pv 1) pa_nil))) (pe_dnG DD hG hr (by rfl) (by decide) (pa_cons (pv 0) pa_nil)) (nomark _))))) (pss_one (ps_ret pe_bl)) pss_nil)
      (pss_cons (ps_set (i := 3) nd rfl (.inl rfl) (pe_lst (pa_cons (pe_callB call_isi rfl (fr.h _ (by decide +kernel)) (by decide +kernel) (pa_cons (pv 1) (pa_cons (pe_glob (v := V.ref CT) rfl mT rfl) pa_nil))) (pa_cons (pe_callB call_isi rfl (fr.h _ (by decide +kernel)) (by decide +kernel) (pa_cons (pv 1) (pa_cons (pe_glob (v := V.ref CP) rfl mP rfl) pa_nil)))
          (pa_cons (pe_callB call_isi rfl (fr.h _ (by decide +kernel)) (by decide +kernel) (pa_cons (pv 1) (pa_cons (pe_glob (v := V.ref CL) rfl mL rfl) pa_nil))) (pa_cons (pe_callB call_isi rfl (fr.h _ (by decide +kernel)) (by decide +kernel) (pa_cons (pv 1) (pa_cons (pe_glob (v := V.ref CR) rfl mR rfl) pa_nil))) pa_nil))))))
      (pss_one (ps_ret (pe_cmpR (eqK isk hr) (pv 3) (pe_lst (pa_cons (pe_cmpR op_eq (pe_ix (ixK isk) (pv 0) pe_int (fun _ _ => rfl)) pe_str (nomark _)) (pa_cons (pe_cmpR op_eq (pe_ix (ixK isk) (pv 0) pe_int (fun _ _ => rfl)) pe_str (nomark _)) (pa_cons (pe_cmpR op_eq (pe_ix (ixK isk) (pv 0) pe_int (fun _ _ => rfl)) pe_str (nomark _)) (pa_cons pe_bl pa_nil))))) (by rfl)))))), ?_⟩
    have fi := ok.nm.f.srt
    have fo := ok.of.srt
    refine ⟨_, rfl, t, td, os, rfl, ht, ok.nm, fun L H1 e1 n1 hL => ⟨L, _, rfl, .inl ⟨SqL.of hL, fun T1 hT1 => ?_⟩⟩⟩
    have e2 := e1.then (o := .tup ((srt td.ins).map V.str)) hT1
    have t1 : Tp (upd H1 T1 (.tup ((srt td.ins).map V.str))) T1 (srt td.ins) := upd_same
    generalize upd H1 T1 (.tup ((srt td.ins).map V.str)) = H2 at e2 t1 ⊢
    obtain ⟨po, v1, v2, ho, hv, htt⟩ := (ht.ext e2).v
    refine ⟨_, rfl, ix4 (i := 3) htt rfl ⟨rfl, po, os, rfl, SqL.of ho, by have := ok.of.2; omega, fun LL h2 => ⟨LL, _, rfl, .inl ⟨SqL.of upd_same, fun T2 hT2 => ?_⟩⟩⟩⟩
    have e3 := (Am.Ext.new (o := .lst ((srt os).map V.str)) h2).trans (Am.Ext.new (o := .tup ((srt os).map V.str)) hT2)
    have t2 : Tp (upd (upd H2 LL (.lst ((srt os).map V.str))) T2 (.tup ((srt os).map V.str))) T2 (srt os) := upd_same
    generalize upd (upd H2 LL (.lst ((srt os).map V.str))) T2 (.tup ((srt os).map V.str)) = H3 at e3 t2 ⊢
    refine ⟨(by show 2 ≤ sizeLine; decide), fun D hD => ?_⟩
    have e4 := Am.Ext.new (o := .lst [.ref T1, .ref T2]) hD
    have hDv : upd H3 D (.lst [.ref T1, .ref T2]) D = some (.lst [.ref T1, .ref T2]) := upd_same
    generalize upd H3 D (.lst [.ref T1, .ref T2]) = H4 at e4 hDv ⊢
    have e04 := (e2.trans e3).trans e4
    have ir4 := ir.ext e04
    refine ⟨_, rfl, r, td, os, rfl, ir4, fun pf tf => ⟨_, rfl, r, td, os, rfl, ir4, fun pw tw => ⟨(by show 2 ≤ sizeLine; decide), fun M hM => ?_⟩⟩⟩
    have e5 := Am.Ext.new (o := .lst [.ref pf, .ref pw]) hM
    dsimp only [L2.tNil]
    refine two_rr upd_same (e5 _ _ tf) (e5 _ _ tw) fi fo ⟨_, rfl, ?_⟩
    dsimp only [L2.tNil]
    refine two_rr (e5 _ _ hDv) (e5 _ _ (e4 _ _ (e3 _ _ t1))) (e5 _ _ (e4 _ _ t2)) fi fo (ne_str _ ⟨_, rfl, iteF ?_⟩)
    have e05 := e04.trans e5
    refine ⟨_, rfl, _, rfl, t, r, td, os, rfl, ht.ext e05, ok, ir.ext e05, fun H6 e6 => ?_⟩
    have e06 := e05.trans e6
    refine ⟨_, rfl, t, td, os, rfl, ht.ext e06, ok, fun H7 e7 => ne_str _ ⟨_, rfl, iteF ?_⟩⟩
    have e07 := e06.trans e7
    have ir7 := ir.ext e07
    refine ⟨_, rfl, ?_⟩
    dsimp only [L2.tNil, L2.tCons, L2.tC]
    refine isr_T kk ir7 ?_
    refine ⟨_, rfl, ?_⟩
    dsimp only [L2.tNil, L2.tCons, L2.tC]
    refine isr_P kk ir7 ?_
    refine ⟨_, rfl, ?_⟩
    dsimp only [L2.tNil, L2.tCons, L2.tC]
    refine isr_L kk ir7 ?_
    refine ⟨_, rfl, ?_⟩
    dsimp only [L2.tNil, L2.tCons, L2.tC]
    refine isr_R kk ir7 ?_
    refine ⟨(by show 4 ≤ sizeLine; decide), fun Kn hKn => ?_⟩
    have e8 := Am.Ext.new (o := .lst [.bl (isSum td), .bl (isPro td), .bl (isLoo td), .bl true]) hKn
    obtain ⟨po', v1', v2', ho', hv', htt'⟩ := (ht.ext (e07.trans e8)).v
    refine ⟨_, rfl, _, rfl, ix4 (i := 0) htt' rfl ⟨rfl, _, rfl, ix4 (i := 0) htt' rfl ⟨rfl, _, rfl, ix4 (i := 0) htt' rfl ⟨rfl, (by show 4 ≤ sizeLine; decide), fun Kd hKd => ?_⟩⟩⟩⟩
    rw [d_eq_sum, d_eq_pro, d_eq_loo]
    have e9 := Am.Ext.new (o := .lst [.bl (isSum td), .bl (isPro td), .bl (isLoo td), .bl true]) hKd
    exact .inr (eqd_same (xs := [isSum td, isPro td, isLoo td, true].map V.bl) (SqL.of (e9 _ _ upd_same)) (SqL.of upd_same) (dp_bls _) (shaped_4 _ _ _ _) (z _ ((e07.trans e8).trans e9)))
end
end KD

set_option Elab.async false
set_option linter.all false
set_option maxRecDepth 100000
set_option maxHeartbeats 2000000
set_option exponentiation.threshold 20000
/-! _law_is_like. -/
namespace KD
open PySem PySem.Spec PyProof.Rows L2 Oo Gd Am KA SqX
/-- what the law takes two ties for -/
def likeB (td : TD) (os : List Str) (ud : TD) (us : List Str) : Bool := decide (kind td = kind ud) && (decide (srt td.ins = srt ud.ins) && (decide (srt os = srt us) && decide (partsT td = partsT ud)))
theorem eq_lst {K : W.Frag} {H : Hp} {a b : Addr} {xs ys : List Str} {Q : VK} (ha : Ls H a xs) (hb : Ls H b ys) (ox : ∀ x ∈ xs, nameB x = true) (oy : ∀ y ∈ ys, nameB y = true) (q : Q (.bl (decide (xs = ys))) H) : rEqD K (.ref a) (.ref b) H Q := by
  refine ⟨.list (xs.map .str), .list (ys.map .str), .lst (SqL.of ha) (dp_strs xs), .lst (SqL.of hb) (dp_strs ys), shaped_strs fun x hx => name_ok (ox x hx), shaped_strs fun x hx => name_ok (oy x hx), ?_⟩
  show Q (.bl (PyData.eqvAll _ _)) H
  rw [eqv_strs]
  exact q
theorem ne_lst {K : W.Frag} {H : Hp} {a b : Addr} {xs ys : List Str} {Q : VK} (ha : Ls H a xs) (hb : Ls H b ys) (ox : ∀ x ∈ xs, nameB x = true) (oy : ∀ y ∈ ys, nameB y = true) (q : Q (.bl (!decide (xs = ys))) H) : rNeD K (.ref a) (.ref b) H Q := by
  refine ⟨.list (xs.map .str), .list (ys.map .str), .lst (SqL.of ha) (dp_strs xs), .lst (SqL.of hb) (dp_strs ys), shaped_strs fun x hx => name_ok (ox x hx), shaped_strs fun x hx => name_ok (oy x hx), ?_⟩
  show Q (.bl (!PyData.eqvAll _ _)) H
  rw [eqv_strs]
  exact q
section
variable {P : Program} {w : World} {K : W.Frag} {mg : Str → Option Value} {base : Heap} {f A C CT CP CL CR : Addr} {fd : FuncData} {t t2 t3 : Tok}
def spLike : Sp := fun vs H Q _ => ∃ (t u : Addr) (td ud : TD) (os us : List Str), vs = [.ref t, .ref u] ∧ TieAt H t td os ∧ TdOk td os ∧ TieAt H u ud us ∧ TdOk ud us ∧ ∀ H', Am.Ext H H' → Q (.bl (likeB td os ud us)) H'
abbrev nLike : List Str := ["_law_tie", "_law_mate", "_law_outs"]
theorem scLike : FnScope nLike ["_law_tie", "_law_mate"] (defScope (top 58)) := ⟨rfl, rfl, rfl, by decide +kernel, rfl, by decide +kernel, by decide +kernel⟩
theorem ok_like (fr : Frees mg) (DI : Dn P w K mg base CX0 1 "_law_inside" ["_law_tie"] spIns) (DD : DnG P w K mg base 4 "_law_due_parts" ["_law_tie"] spDue)
    (F : Fun K "_law_is_like" "_law_is_like" (top 58) f fd) : FnG P w K mg base CX0 5 f fd ["_law_tie", "_law_mate"] spLike := by
  refine Gd.okG F scLike (fun vs H Q E h => ?_) (fun cdv A' outer s H vs Q E hG hr h => ?_)
  · obtain ⟨t, u, td, ud, os, us, rfl, _⟩ := h
    rfl
  · obtain ⟨t, u, td, ud, os, us, rfl, ht, ok, hu, uk, z⟩ := h
    have nd := scLike.nd
    have isk : IsK K := ⟨trivial⟩
    have big := big_ln
    refine ⟨_, pss_cons (ps_if (PW.pt (pw_or (pt_cmpR op_ne (pe_ix (ixK isk) (pv 0) pe_int (fun _ _ => rfl)) (pe_ix (ixK isk) (pv 1) pe_int (fun _ _ => rfl)) (nomark _)) (pw_or1 (pt_cmpR (neK isk hr) (pe_dn DI hr (by rfl) (by decide) (pa_cons (pv 0) pa_nil)) (pe_dn DI hr (by rfl) (by decide) (pa_cons (pv 1) pa_nil)) (by rfl))))) (pss_one (ps_ret pe_bl)) pss_nil)
      (pss_cons (ps_set (i := 2) nd rfl (.inl rfl) (pe_lst (pa_cons (pe_callBK (srtK isk hr) rfl (fr.h _ (by decide +kernel)) (by decide +kernel) (pa_cons (pe_ix (ixK isk) (pv 0) pe_int (fun _ _ => rfl)) pa_nil) (pk_cons (pe_bltn (v := V.ty "str") rfl (fr.h _ (by decide +kernel)) (by rfl) rfl) pk_nil)) (pa_cons (pe_callBK (srtK isk hr) rfl (fr.h _ (by decide +kernel)) (by decide +kernel) (pa_cons (pe_ix (ixK isk) (pv 1) pe_int (fun _ _ => rfl)) pa_nil) (pk_cons (pe_bltn (v := V.ty "str") rfl (fr.h _ (by decide +kernel)) (by rfl) rfl) pk_nil)) pa_nil))))
      (pss_one (ps_ret (pe_and (pe_cmpR (eqK isk hr) (pe_ix (ixK isk) (pv 2) pe_int (fun _ _ => rfl)) (pe_ix (ixK isk) (pv 2) pe_int (fun _ _ => rfl)) (by rfl)) (pe_one (pe_cmpR op_eq (pe_dnG DD hG hr (by rfl) (by decide) (pa_cons (pv 0) pa_nil)) (pe_dnG DD hG hr (by rfl) (by decide) (pa_cons (pv 1) pa_nil)) (nomark _))))))), ?_⟩
    obtain ⟨po, v1, v2, ho, hv, htt⟩ := ht.v
    obtain ⟨qo, w1, w2, ho2, hv2, hut⟩ := hu.v
    have fi := ok.nm.f.srt
    have fj := uk.nm.f.srt
    have fo := ok.of.srt
    have fp := uk.of.srt
    refine ⟨_, rfl, ix4 (i := 0) htt rfl ⟨_, rfl, ix4 (i := 0) hut rfl ⟨rfl, _, rfl, ?_⟩⟩⟩
    by_cases e1 : kind td = kind ud
    · refine if_no (c := !decide (V.str (kind td) = V.str (kind ud))) (by rw [decide_eq_true (by rw [e1])]; decide) ?_
      refine ⟨_, rfl, t, td, os, rfl, ht, ok.nm, fun L1 H1 x1 n1 h1 => ⟨_, rfl, u, ud, us, rfl, hu.ext x1, uk.nm, fun M1 H2 x2 n2 h2 => .inr (ne_lst (x2 _ _ h1) h2 fi.1 fj.1 ⟨_, rfl, ?_⟩)⟩⟩
      have x12 := x1.trans x2
      by_cases e2 : srt td.ins = srt ud.ins
      · rw [decide_eq_true e2]
        refine iteF ?_
        refine ⟨_, rfl, ix4 (i := 3) (x12 _ _ htt) rfl ⟨rfl, po, os, rfl, SqL.of (x12 _ _ ho), by have := ok.of.2; omega, fun S1 hS1 => ?_⟩⟩
        have x3 := Am.Ext.new (o := .lst ((srt os).map V.str)) hS1
        have x13 := x12.trans x3
        refine ⟨_, rfl, ix4 (i := 3) (x13 _ _ hut) rfl ⟨rfl, qo, us, rfl, SqL.of (x13 _ _ ho2), by have := uk.of.2; omega, fun S2 hS2 => ?_⟩⟩
        have x4 := Am.Ext.new (o := .lst ((srt us).map V.str)) hS2
        refine ⟨(by show 2 ≤ sizeLine; decide), fun D hD => ?_⟩
        have x5 := Am.Ext.new (o := .lst [.ref S1, .ref S2]) hD
        have x15 := (x13.trans x4).trans x5
        have hDv := SqL.of (K := K) (upd_same (H := upd (upd H2 S1 (.lst ((srt os).map V.str))) S2 (.lst ((srt us).map V.str))) (a := D) (o := .lst [.ref S1, .ref S2]))
        have s1 := x5 _ _ (x4 _ _ (upd_same (H := H2) (a := S1) (o := .lst ((srt os).map V.str))))
        have s2 := x5 _ _ (upd_same (H := upd H2 S1 (.lst ((srt os).map V.str))) (a := S2) (o := .lst ((srt us).map V.str)))
        generalize upd (upd (upd H2 S1 (.lst ((srt os).map V.str))) S2 (.lst ((srt us).map V.str))) D (.lst [.ref S1, .ref S2]) = H5 at x15 hDv s1 s2 ⊢
        refine ⟨_, rfl, .inl ⟨D, _, 0, _, rfl, rfl, hDv, atI_nat (j := 0) rfl, _, rfl, .inl ⟨D, _, 1, _, rfl, rfl, hDv, atI_nat (j := 1) rfl, .inr (eq_lst s1 s2 fo.1 fp.1 ⟨_, rfl, ?_⟩)⟩⟩⟩
        by_cases e3 : srt os = srt us
        · rw [decide_eq_true e3]
          refine ⟨_, rfl, t, td, os, rfl, ht.ext x15, ok, fun H6 x6 => ⟨_, rfl, u, ud, us, rfl, hu.ext (x15.trans x6), uk, fun H7 x7 => ⟨rfl, ?_⟩⟩⟩
          have := z H7 ((x15.trans x6).trans x7)
          unfold likeB at this
          rw [decide_eq_true e1, decide_eq_true e2, decide_eq_true e3, Bool.true_and, Bool.true_and, Bool.true_and] at this
          rw [show decide (V.str (partsT td) = V.str (partsT ud)) = decide (partsT td = partsT ud) from decide_eq_decide.mpr ⟨fun e => by injection e, fun e => by rw [e]⟩]
          exact this
        · rw [decide_eq_false e3]
          have := z H5 x15
          unfold likeB at this
          rw [decide_eq_true e1, decide_eq_true e2, decide_eq_false e3, Bool.true_and, Bool.true_and, Bool.false_and] at this
          exact this
      · rw [decide_eq_false e2]
        have := z H2 x12
        unfold likeB at this
        rw [decide_eq_true e1, decide_eq_false e2, Bool.true_and, Bool.false_and] at this
        exact iteT this
    · have := z H (Am.Ext.refl H)
      unfold likeB at this
      rw [decide_eq_false e1, Bool.false_and] at this
      exact if_T (c := !decide (V.str (kind td) = V.str (kind ud))) (by rw [decide_eq_false (fun e => e1 (by injection e))]; rfl) this
end
end KD

set_option Elab.async false
set_option linter.all false
set_option maxRecDepth 100000
set_option maxHeartbeats 2000000
set_option exponentiation.threshold 20000
/-! _law_stays_as_it_was. -/
namespace KD
open PySem PySem.Spec PyProof.Rows L2 Oo Gd Am KA SqX
/-- a list is changed: a rule does not hang on lists -/
theorem IsRule.lst {A CT CP CL : Addr} {H : Hp} {r a : Addr} {td : TD} {os : List Str} {xs : List V} {o : HO} (h : IsRule A CT CP CL H r td os) (ha : H a = some (.lst xs)) : IsRule A CT CP CL (upd H a o) r td os := by
  have k : ∀ {b : Addr} {u : HO}, H b = some u → (∀ ys, u ≠ .lst ys) → upd H a o b = some u := fun {b u} hb n => by
    rw [upd_ne (ne_of hb ha (n xs))]
    exact hb
  cases td with
  | loo ys =>
    obtain ⟨dx, pf, pw, hi, hf, hw⟩ := (show IsL CL H r _ _ from h)
    exact ⟨dx, pf, pw, k hi (fun _ e => nomatch e), k hf (fun _ e => nomatch e), k hw (fun _ e => nomatch e)⟩
  | sum ls q =>
    obtain ⟨dx, pt, pf, pd, pw, hi, ⟨dq, hp⟩, hf, hd, hw⟩ := (show IsT A CT H r _ _ _ _ from h)
    exact ⟨dx, pt, pf, pd, pw, k hi (fun _ e => nomatch e), ⟨dq, k hp (fun _ e => nomatch e)⟩, k hf (fun _ e => nomatch e), k hd (fun _ e => nomatch e), k hw (fun _ e => nomatch e)⟩
  | pro ys zs q =>
    obtain ⟨dx, pt, pl, pr, pf, pw, hi, ⟨dq, hp⟩, hl, hrr, hf, hw⟩ := (show IsP A CP H r _ _ _ _ _ from h)
    exact ⟨dx, pt, pl, pr, pf, pw, k hi (fun _ e => nomatch e), ⟨dq, k hp (fun _ e => nomatch e)⟩, k hl (fun _ e => nomatch e), k hrr (fun _ e => nomatch e), k hf (fun _ e => nomatch e), k hw (fun _ e => nomatch e)⟩
/-- another dict is changed -/
theorem IsRule.dic {A CT CP CL : Addr} {H : Hp} {r a : Addr} {ls : List (Str × Int)} {q : Rat} {os : List Str} {kvs : List (Key × V)} {o : HO} (h : IsRule A CT CP CL H r (.sum ls q) os) (ha : H a = some (.dK kvs)) {G : Hp} (hG : G a ≠ none) (fd : FreshD CT G H r (.sum ls q)) : IsRule A CT CP CL (upd H a o) r (.sum ls q) os := by
  obtain ⟨dx, pt, pf, pd, pw, hi, ⟨dq, hp⟩, hf, hd, hw⟩ := (show IsT A CT H r _ _ _ _ from h)
  have k : ∀ {b : Addr} {u : HO}, H b = some u → (∀ ys, u ≠ .dK ys) → upd H a o b = some u := fun {b u} hb n => by
    rw [upd_ne (ne_of hb ha (n kvs))]
    exact hb
  have ne : pd ≠ a := fun e => hG (by rw [← e]; exact fd dx _ pd hi rfl)
  exact ⟨dx, pt, pf, pd, pw, k hi (fun _ e => nomatch e), ⟨dq, k hp (fun _ e => nomatch e)⟩, k hf (fun _ e => nomatch e), by rw [upd_ne ne]; exact hd, k hw (fun _ e => nomatch e)⟩
theorem srt_srt (xs : List Str) : srt (srt xs) = srt xs := srt_of_perm (srt_perm xs)
theorem srt_nms {xs : List Str} (h : Nms xs) : Nms (srt xs) := Nms.perm (srt_perm xs).symm h
theorem srt_ne {xs : List Str} (h : xs ≠ []) : srt xs ≠ [] := fun e => h (by
  have := srt_len xs
  rw [e] at this
  exact List.length_eq_zero_iff.mp this.symm)
section
variable {P : Program} {w : World} {K : W.Frag} {mg : Str → Option Value} {base : Heap} {f A C CT CP CL CR : Addr} {fd : FuncData} {t t2 t3 : Tok}
/-- what is wished of a new rule -/
def Qof (Qr : Addr → Hp → Prop) : VK := fun v H => match v with
  | .ref r => Qr r H
  | _ => False
theorem inL_q {H : Hp} {Qr : Addr → Hp → Prop} {a : Addr} {v : V} {xs os : List Str} (ha : SeqH K H a (xs.map V.str)) (nx : Nms xs) (ne : xs ≠ []) (hv : WaysV K H v (srt xs) (srt os)) (z : NewR A CT CP CL H (Qof Qr) (.loo xs) os) :
    ∀ x dx, H x = none → H dx = none → dx ≠ x → spInL K CL [.ref x, .ref a, v] (upd (upd H dx (.own x)) x (.ins CL dx [])) (fun u H2 => u = .non ∧ Qr x H2) E0 := inL_new ha nx ne hv z
theorem inT_q {H : Hp} {Qr : Addr → Hp → Prop} {a : Addr} {u v : V} {ls : List (Str × Int)} {q : Rat} {os : List Str} (ha : H a = some (.dK (wts ls))) (nx : Nms (ls.map (·.1))) (ne : ls ≠ []) (n0 : ∀ p ∈ ls, p.2 ≠ 0) (nu : Num A H u q) (sq : Sz q) (hv : WaysV K H v (srt (ls.map (·.1))) (srt os))
    (z : NewR A CT CP CL H (Qof Qr) (.sum ls q) os) : ∀ x dx, H x = none → H dx = none → dx ≠ x → spInT K A CT [.ref x, .ref a, u, v] (upd (upd H dx (.own x)) x (.ins CT dx [])) (fun u H2 => u = .non ∧ Qr x H2) E0 := inT_new ha nx ne n0 nu sq hv z
theorem inP_q {H : Hp} {Qr : Addr → Hp → Prop} {a b : Addr} {u v : V} {xs ys : List Str} {q : Rat} {os : List Str} (ha : SeqH K H a (xs.map V.str)) (hb : SeqH K H b (ys.map V.str)) (nx : Nms (xs ++ ys)) (ne : xs ++ ys ≠ []) (nu : Num A H u q) (sq : Sz q) (q0 : q ≠ 0) (hv : WaysV K H v (srt (xs ++ ys)) (srt os))
    (z : NewR A CT CP CL H (Qof Qr) (.pro xs ys q) os) : ∀ x dx, H x = none → H dx = none → dx ≠ x → spInP K A CP [.ref x, .ref a, .ref b, u, v] (upd (upd H dx (.own x)) x (.ins CP dx [])) (fun u H2 => u = .non ∧ Qr x H2) E0 := inP_new ha hb nx ne nu sq q0 hv z
def spStay : Sp := fun vs H Q _ => ∃ (t : Addr) (td : TD) (os : List Str), vs = [.ref t] ∧ TieAt H t td os ∧ TdOk td os ∧ ∀ H', Am.Ext H H' → Q (.bl true) H'
abbrev nStay : List Str := ["_law_tie", "_law_passed", "_law_outs", "_law_rule_here", "_law_loads", "_law_sides"]
theorem scStay : FnScope nStay ["_law_tie"] (defScope (top 60)) := ⟨rfl, rfl, rfl, by decide +kernel, rfl, by decide +kernel, by decide +kernel⟩
theorem ok_stay (fr : Frees mg) (B : Base P w K mg base A) (R : RC P w K mg base A CT CP CL) (RPs : RP P w K mg base CT CP CL) (DI : Dn P w K mg base CX0 1 "_law_inside" ["_law_tie"] spIns) (DR : DnG P w K mg base 7 "_law_is_right" ["_law_tie", "_law_rule_here"] (spIsr A CT CP CL))
    (F : Fun K "_law_stays_as_it_was" "_law_stays_as_it_was" (top 60) f fd) : FnG P w K mg base CX0 8 f fd ["_law_tie"] spStay := by
  refine Gd.okG F scStay (fun vs H Q E h => ?_) (fun cdv A' outer s H vs Q E hG hr h => ?_)
  · obtain ⟨t, td, os, rfl, _⟩ := h
    rfl
  · obtain ⟨t, td, os, rfl, ht, ok, z⟩ := h
    have nd := scStay.nd
    have isk : IsK K := ⟨trivial⟩
    have hu := hu_of hr
    have big := big_ln
    obtain ⟨tI, tfd, MT, FT, BT, _⟩ := R.kT
    obtain ⟨pI, pfd, MP, FP, BP, _⟩ := R.kP
    obtain ⟨lI, lfd, ML, FL, BL, _⟩ := R.kL
    refine ⟨_, pss_cons (ps_par (i := 1) (j := 2) rfl nd rfl rfl (by decide) rfl rfl (pa_cons (pe_callTy call_list_of rfl (fr.h _ (by decide +kernel)) (by decide +kernel) (pa_cons (pe_dn DI hr (by rfl) (by decide) (pa_cons (pv 0) pa_nil)) pa_nil)) (pa_cons (pe_callTy call_list_of rfl (fr.h _ (by decide +kernel)) (by decide +kernel) (pa_cons (pe_ix (ixK isk) (pv 0) pe_int (fun _ _ => rfl)) pa_nil)) pa_nil)) (by rfl))
      (pss_cons (ps_set (i := 3) nd rfl (.inl rfl) (pe_makeK ML FL (hr.mono (by decide)) rfl R.mL BL pass0 (pa_cons (pv 1) pa_nil) (pk_cons (pv 2) pk_nil)))
      (pss_cons (ps_if (pt_cmpR op_eq (pe_ix (ixK isk) (pv 0) pe_int (fun _ _ => rfl)) pe_str (nomark _))
          (pss_cons (ps_set (i := 4) nd rfl (.inl rfl) (pe_callTy (call_dictP rfl) rfl (fr.h _ (by decide +kernel)) (by decide +kernel) (pa_cons (pe_ix (ixK isk) (pv 0) pe_int (fun _ _ => rfl)) pa_nil)))
          (pss_cons (ps_set (i := 3) nd rfl (.inl rfl) (pe_makeK MT FT (hr.mono (by decide)) rfl R.mT BT pass0 (pa_cons (pv 4) (pa_cons (pe_mk2 B (hr.mono (by decide)) rfl (pa_cons (pe_ix (ixK isk) (pe_ix (ixK isk) (pv 0) pe_int (fun _ _ => rfl)) pe_int (fun _ _ => rfl)) (pa_cons (pe_ix (ixK isk) (pe_ix (ixK isk) (pv 0) pe_int (fun _ _ => rfl)) pe_int (fun _ _ => rfl)) pa_nil))) pa_nil)) (pk_cons (pv 2) pk_nil)))
          (pss_cons (ps_dput hu (pv 4) (pe_ix (ixK isk) (pv 1) pe_int (fun _ _ => rfl)) (pe_op op_add (pe_op op_pow pe_int pe_int) pe_int) rfl)
          (pss_one (ps_dput hu (pe_prp RPs.tw hr (by decide) (pv 3)) (pe_ix (ixK isk) (pv 1) pe_int (fun _ _ => rfl)) pe_int rfl))))) pss_nil)
      (pss_cons (ps_if (pt_cmpR op_eq (pe_ix (ixK isk) (pv 0) pe_int (fun _ _ => rfl)) pe_str (nomark _))
          (pss_cons (ps_set (i := 5) nd rfl (.inl rfl) (pe_lst (pa_cons (pe_callTy call_list_of rfl (fr.h _ (by decide +kernel)) (by decide +kernel) (pa_cons (pe_ix (ixK isk) (pe_ix (ixK isk) (pv 0) pe_int (fun _ _ => rfl)) pe_int (fun _ _ => rfl)) pa_nil)) (pa_cons (pe_callTy call_list_of rfl (fr.h _ (by decide +kernel)) (by decide +kernel) (pa_cons (pe_ix (ixK isk) (pe_ix (ixK isk) (pv 0) pe_int (fun _ _ => rfl)) pe_int (fun _ _ => rfl)) pa_nil)) pa_nil))))
          (pss_cons (ps_set (i := 3) nd rfl (.inl rfl) (pe_makeK MP FP (hr.mono (by decide)) rfl R.mP BP pass0 (pa_cons (pe_ix (ixK isk) (pv 5) pe_int (fun _ _ => rfl)) (pa_cons (pe_ix (ixK isk) (pv 5) pe_int (fun _ _ => rfl)) (pa_cons (pe_mk2 B (hr.mono (by decide)) rfl (pa_cons (pe_ix (ixK isk) (pe_ix (ixK isk) (pv 0) pe_int (fun _ _ => rfl)) pe_int (fun _ _ => rfl)) (pa_cons (pe_ix (ixK isk) (pe_ix (ixK isk) (pv 0) pe_int (fun _ _ => rfl)) pe_int (fun _ _ => rfl)) pa_nil))) pa_nil))) (pk_cons (pv 2) pk_nil)))
          (pss_cons (ps_expr (pe_bm PySem.F.plainAttrs_list PySem.F.slot_list_append PySem.F.type_list_append mt_append (pe_ix (ixK isk) (pv 5) pe_int (fun _ _ => rfl)) (pa_cons pe_str pa_nil)))
          (pss_one (ps_expr (pe_bm0 PySem.F.plainAttrs_list PySem.F.slot_list_clear PySem.F.type_list_clear mt_clear (pe_ix (ixK isk) (pv 5) pe_int (fun _ _ => rfl)))))))) pss_nil)
      (pss_cons (ps_expr (pe_bm PySem.F.plainAttrs_list PySem.F.slot_list_append PySem.F.type_list_append mt_append (pv 1) (pa_cons pe_str pa_nil)))
      (pss_cons (ps_expr (pe_bm0 PySem.F.plainAttrs_list PySem.F.slot_list_pop PySem.F.type_list_pop mt_pop (pv 2)))
      (pss_one (ps_ret (pe_dnG DR hG hr (by rfl) (by decide) (pa_cons (pv 0) (pa_cons (pv 3) pa_nil)))))))))), ?_⟩
    obtain ⟨po, v1, v2, ho, hv, htt⟩ := ht.v
    have nS := srt_nms ok.nm
    have neS := srt_ne ok.ne
    have fo := ok.of
    obtain ⟨x0, xr, ex⟩ : ∃ x r, srt td.ins = x :: r := by
      cases e : srt td.ins with
      | nil => exact absurd e neS
      | cons x r => exact ⟨x, r, rfl⟩
    refine ⟨_, rfl, t, td, os, rfl, ht, ok.nm, fun L H1 e1 n1 hL => ⟨L, _, rfl, .inl (SqL.of hL), fun Pp hP => ?_⟩⟩
    have eP := Am.Ext.new (o := .lst ((srt td.ins).map V.str)) hP
    have e1P := e1.trans eP
    refine ⟨_, rfl, ix4 (i := 3) (e1P _ _ htt) rfl ⟨po, _, rfl, .inl (SqL.of (e1P _ _ ho)), fun Oo hO => ⟨_, _, rfl, ?_⟩⟩⟩
    have eO := Am.Ext.new (o := .lst (os.map V.str)) hO
    have e3 := e1P.trans eO
    have hP0 : H Pp = none := e1.gone hP
    have hO0 : H Oo = none := e1P.gone hO
    have hPv : Ls (upd (upd H1 Pp (.lst ((srt td.ins).map V.str))) Oo (.lst (os.map V.str))) Pp (srt td.ins) := eO _ _ upd_same
    have hOv : Ls (upd (upd H1 Pp (.lst ((srt td.ins).map V.str))) Oo (.lst (os.map V.str))) Oo os := upd_same
    have nPO : Pp ≠ Oo := ne_of_none (upd_same (H := H1) (a := Pp) (o := .lst ((srt td.ins).map V.str))) hO
    generalize upd (upd H1 Pp (.lst ((srt td.ins).map V.str))) Oo (.lst (os.map V.str)) = H3 at e3 hPv hOv ⊢
    have wv : ∀ {H' : Hp} {fs : List Str}, Am.Ext H3 H' → (∀ x, x ∈ fs ↔ x ∈ td.ins) → WaysV K H' (.ref Oo) fs (srt os) := fun {H' fs} e hf => ways_os (e _ _ hOv) hf ok.on ok.od ok.oi (by have := fo.2; omega)
    have oe : os ≠ [] := ok.on
    have fin : ∀ (r : Addr) (H4 : Hp), Am.Ext H H4 → Ls H4 Pp (srt td.ins) → Ls H4 Oo os → IsRule A CT CP CL H4 r td os → ∀ e4 e5 : Option V, ∃ l xs y, V.ref Pp = V.ref l ∧ ([V.str "zz"] : List V) = [y] ∧ H4 l = some (.lst xs) ∧ xs.length < sizeLine ∧ ∃ l2 xs2 y2, V.ref Oo = V.ref l2 ∧ ([] : List V) = [] ∧ upd H4 l (.lst (xs ++ [y])) l2 = some (.lst xs2) ∧ xs2[xs2.length - 1]? = some y2 ∧
        IsRule A CT CP CL (upd (upd H4 l (.lst (xs ++ [y]))) l2 (.lst xs2.dropLast)) r td os ∧ Am.Ext H (upd (upd H4 l (.lst (xs ++ [y]))) l2 (.lst xs2.dropLast)) := by
      intro r H4 e04 hp4 ho4 ir e4 e5
      have lo : 0 < os.length := List.length_pos_iff.mpr oe
      have ho5 : upd H4 Pp (.lst ((srt td.ins).map V.str ++ [V.str "zz"])) Oo = some (.lst (os.map V.str)) := by rw [upd_ne (Ne.symm nPO)]; exact ho4
      obtain ⟨y2, hy2⟩ : ∃ y2, (os.map V.str)[(os.map V.str).length - 1]? = some y2 := ⟨_, List.getElem?_eq_getElem (by rw [List.length_map]; omega)⟩
      exact ⟨Pp, _, _, rfl, rfl, hp4, by rw [List.length_map, srt_len]; have := ok.nm.few; omega, Oo, _, y2, rfl, rfl, ho5, hy2, (ir.lst hp4).lst ho5, ext_off (ext_off e04 hP0) hO0⟩
    have first : ∀ r H4, Am.Ext H3 H4 → IsRule A CT CP CL H4 r (.loo (srt td.ins)) os → True := fun _ _ _ _ => trivial
    refine ⟨_, rfl, _, rfl, rfl, rfl, ?_⟩
    refine inL_q (CT := CT) (CP := CP) (CL := CL) (A := A) (os := os) (.inl hPv) nS neS (wv (Am.Ext.refl _) (fun x => (srt_mem _ x).trans (srt_mem _ x))) (fun r0 H4 e4 n4 ir0 _ => ?_)
    have e04 := e3.trans e4
    cases td with
    | loo xs =>
      have ir : IsRule A CT CP CL H4 r0 (.loo xs) os := by
        have i' : IsL CL H4 r0 (srt (srt xs)) (srt os) := ir0
        rw [srt_srt] at i'
        exact i'
      refine ⟨_, rfl, ix4 (i := 0) (e04 _ _ htt) rfl ⟨rfl, _, rfl, if_no s_ls ⟨_, rfl, ix4 (i := 0) (e04 _ _ htt) rfl ⟨rfl, _, rfl, if_no s_lp ?_⟩⟩⟩⟩
      obtain ⟨l, zs, y, h1, h2, h3, h4, l2, zs2, y2, g1, g2, g3, g4, ir6, e06⟩ := fin r0 H4 e04 (e4 _ _ hPv) (e4 _ _ hOv) ir none none
      exact ⟨_, rfl, .inl ⟨rfl, _, SqL.of (e4 _ _ hPv)⟩, l, zs, y, h1, h2, h3, h4, _, rfl, .inl ⟨rfl, _, SqL.of (by injection g1 with g1; rw [g1]; exact g3)⟩, l2, zs2, y2, g1, g2, g3, g4, _, rfl, _, rfl, t, r0, _, os, rfl, ht.ext e06, ok, ir6, fun H7 e7 => z H7 (e06.trans e7)⟩
    | sum ls q =>
      obtain ⟨pl, ps, pq, hl, hp, hq, rfl, rfl⟩ := hv
      obtain ⟨n0, lq⟩ := ok.dt
      have fw : ls.length < 64 := by have := ok.nm.few; rwa [show TD.ins (.sum ls q) = ls.map (·.1) from rfl, List.length_map] at this
      refine ⟨_, rfl, ix4 (i := 0) (e04 _ _ htt) rfl ⟨rfl, _, rfl, if_yes ⟨_, rfl, ix4 (i := 1) (e04 _ _ htt) rfl ⟨pl, ps, wts ls, rfl, SqL.of (e04 _ _ hl), prs_kv (Prs.ext e04 hp), fun d hd => ?_⟩⟩⟩⟩
      rw [merge_w ok.nm.nd]
      have e5 := Am.Ext.new (o := .dK (wts ls)) hd
      have hdv : upd H4 d (.dK (wts ls)) d = some (.dK (wts ls)) := upd_same
      have hd0 : H d = none := e04.gone hd
      generalize upd H4 d (.dK (wts ls)) = H5 at e5 hdv ⊢
      have e05 := e04.trans e5
      refine ⟨_, rfl, _, rfl, ix4 (i := 2) (e05 _ _ htt) rfl (ix4 (i := 0) (e05 _ _ hq) rfl ⟨_, rfl, ix4 (i := 2) (e05 _ _ htt) rfl (ix4 (i := 1) (e05 _ _ hq) rfl ⟨_, _, rfl, den0 q, bn lq, bd lq, fun a H6 e6 n6 ia => ?_⟩)⟩)⟩
      rw [Rat.num_divInt_den] at ia
      have e36 := (e4.trans e5).trans e6
      have hd6 := e6 _ _ hdv
      refine ⟨_, rfl, rfl, rfl, ?_⟩
      refine inT_q (CT := CT) (CP := CP) (CL := CL) (A := A) (os := os) hd6 ok.nm (fun e => ok.ne (by rw [show TD.ins (.sum ls q) = ls.map (·.1) from rfl, e]; rfl)) (fun p hp => (n0 p hp).1) (.inr ⟨a, rfl, ia⟩) (sz_of lq) (wv e36 (srt_mem _)) (fun r H7 e7 n7 ir fdr => ?_)
      have e37 := e36.trans e7
      have e07 := e3.trans e37
      have hd7 := e7 _ _ hd6
      have ir8 := IsRule.dic (o := .dK (putK (wts ls) (Sum.inr x0 : Key) (.int (10 ^ (9 : Int).toNat + 1)))) ir hd7 (G := H6) (by rw [hd6]; exact fun h => nomatch h) fdr
      have e08 : Am.Ext H (upd H7 d (.dK (putK (wts ls) (Sum.inr x0 : Key) (.int (10 ^ (9 : Int).toNat + 1))))) := ext_off e07 hd0
      have hp7 := e37 _ _ hPv
      have ho7 := e37 _ _ hOv
      have hp8 : upd H7 d (.dK (putK (wts ls) (Sum.inr x0 : Key) (.int (10 ^ (9 : Int).toNat + 1)))) Pp = _ := (upd_ne (ne_of hp7 hd7 (fun e => nomatch e))).trans hp7
      have ho8 : upd H7 d (.dK (putK (wts ls) (Sum.inr x0 : Key) (.int (10 ^ (9 : Int).toNat + 1)))) Oo = _ := (upd_ne (ne_of ho7 hd7 (fun e => nomatch e))).trans ho7
      have a0 : atI ((srt (TD.sum ls q).ins).map V.str) ((0 : Nat) : Int) = some (V.str x0) := atI_nat (j := 0) (by rw [ex]; rfl)
      refine ⟨10, 9, rfl, rfl, ⟨by decide, by decide, by decide⟩, _, _, rfl, rfl, _, rfl, _, rfl, .inl ⟨Pp, _, 0, _, rfl, rfl, SqL.of hp7, a0, d, _, rfl, DPut.k (k := (Sum.inr x0 : Key)) hd7 (by rw [len_w]; omega), ?_⟩⟩
      generalize upd H7 d (.dK (putK (wts ls) (Sum.inr x0 : Key) (.int (10 ^ (9 : Int).toNat + 1)))) = H8 at ir8 e08 hp8 ho8 ⊢
      obtain ⟨dx, pt, pf, pd, pw, hi8, hit8, hf8, hdd8, hw8⟩ := (show IsT A CT H8 r _ _ _ _ from ir8)
      refine ⟨_, rfl, r, dx, _, rfl, hi8, r, dx, _, pd, _, rfl, hi8, rfl, hdd8, fun p hp => ?_⟩
      have e9 := Am.Ext.new (o := .dK (wts (ordW ls))) hp
      refine ⟨_, rfl, .inl ⟨Pp, _, 0, _, rfl, rfl, SqL.of (e9 _ _ hp8), a0, p, _, rfl, DPut.k (k := (Sum.inr x0 : Key)) upd_same (by rw [len_w]; unfold ordW; rw [List.length_map, srt_len, List.length_map]; omega), ?_⟩⟩
      rw [upd_upd]
      have e9' := Am.Ext.new (o := .dK (putK (wts (ordW ls)) (Sum.inr x0 : Key) (.int 77))) hp
      have e09 := e08.trans e9'
      have ir9 := IsRule.ext e9' ir8
      refine ⟨_, rfl, ix4 (i := 0) (e09 _ _ htt) rfl ⟨rfl, _, rfl, if_no s_sp ?_⟩⟩
      have hp9 := e9' _ _ hp8
      have ho9 := e9' _ _ ho8
      obtain ⟨l, zs, y, h1, h2, h3, h4, l2, zs2, y2, g1, g2, g3, g4, ir6, e06⟩ := fin r _ e09 hp9 ho9 ir9 none none
      exact ⟨_, rfl, .inl ⟨rfl, _, SqL.of hp9⟩, l, zs, y, h1, h2, h3, h4, _, rfl, .inl ⟨rfl, _, SqL.of (by injection g1 with g1; rw [g1]; exact g3)⟩, l2, zs2, y2, g1, g2, g3, g4, _, rfl, _, rfl, t, r, _, os, rfl, ht.ext e06, ok, ir6, fun H7 e7 => z H7 (e06.trans e7)⟩
    | pro xs ys q =>
      obtain ⟨pp, px, py, pq, hx, hy, hpp, hq, rfl, rfl⟩ := hv
      obtain ⟨q0, lq⟩ := ok.dt
      have fw : xs.length + ys.length < 64 := by have := ok.nm.few; rwa [show TD.ins (.pro xs ys q) = xs ++ ys from rfl, List.length_append] at this
      have h4 := e04 _ _ htt
      refine ⟨_, rfl, ix4 (i := 0) h4 rfl ⟨rfl, _, rfl, if_no s_ps ⟨_, rfl, ix4 (i := 0) h4 rfl ⟨rfl, _, rfl, if_yes ⟨_, rfl, ix4 (i := 1) h4 rfl (ix4 (i := 0) (e04 _ _ hpp) rfl ⟨px, _, rfl, .inl (SqL.of (e04 _ _ hx)), fun A1 h1 => ?_⟩)⟩⟩⟩⟩⟩
      have x1 := Am.Ext.new (o := .lst (xs.map V.str)) h1
      have e05 := e04.trans x1
      refine ⟨_, rfl, ix4 (i := 1) (e05 _ _ htt) rfl (ix4 (i := 1) (e05 _ _ hpp) rfl ⟨py, _, rfl, .inl (SqL.of (e05 _ _ hy)), fun A2 h2 => ⟨(by show 2 ≤ sizeLine; decide), fun Sd hS => ?_⟩⟩)⟩
      have x2 := Am.Ext.new (o := .lst (ys.map V.str)) h2
      have x3 := Am.Ext.new (o := .lst [.ref A1, .ref A2]) hS
      have hA1 := x3 _ _ (x2 _ _ (upd_same (H := H4) (a := A1) (o := .lst (xs.map V.str))))
      have hA2 := x3 _ _ (upd_same (H := upd H4 A1 (.lst (xs.map V.str))) (a := A2) (o := .lst (ys.map V.str)))
      have hSv : upd (upd (upd H4 A1 (.lst (xs.map V.str))) A2 (.lst (ys.map V.str))) Sd (.lst [.ref A1, .ref A2]) Sd = some (.lst [.ref A1, .ref A2]) := upd_same
      have n12 : A1 ≠ A2 := ne_of_none (upd_same (H := H4) (a := A1) (o := .lst (xs.map V.str))) h2
      have nS1 : Sd ≠ A1 := Ne.symm (ne_of_none (x2 _ _ (upd_same (H := H4) (a := A1) (o := .lst (xs.map V.str)))) hS)
      have h20 : H4 A2 = none := x1.gone h2
      have e45 := (x1.trans x2).trans x3
      generalize upd (upd (upd H4 A1 (.lst (xs.map V.str))) A2 (.lst (ys.map V.str))) Sd (.lst [.ref A1, .ref A2]) = H5 at e45 hA1 hA2 hSv ⊢
      have e05 := e04.trans e45
      refine ⟨_, rfl, .inl ⟨Sd, _, 0, _, rfl, rfl, SqL.of hSv, atI_nat (j := 0) rfl, _, rfl, .inl ⟨Sd, _, 1, _, rfl, rfl, SqL.of hSv, atI_nat (j := 1) rfl, _, rfl, ix4 (i := 2) (e05 _ _ htt) rfl (ix4 (i := 0) (e05 _ _ hq) rfl ⟨_, rfl, ix4 (i := 2) (e05 _ _ htt) rfl (ix4 (i := 1) (e05 _ _ hq) rfl ⟨_, _, rfl, den0 q, bn lq, bd lq, fun a H6 e6 n6 ia => ?_⟩)⟩)⟩⟩⟩
      rw [Rat.num_divInt_den] at ia
      have e36 := (e4.trans e45).trans e6
      refine ⟨_, rfl, rfl, rfl, ?_⟩
      refine inP_q (CT := CT) (CP := CP) (CL := CL) (A := A) (os := os) (.inl (e6 _ _ hA1)) (.inl (e6 _ _ hA2)) ok.nm ok.ne (.inr ⟨a, rfl, ia⟩) (sz_of lq) q0 (wv e36 (srt_mem _)) (fun r H7 e7 n7 ir _ => ?_)
      have e67 := e6.trans e7
      have e37 := e36.trans e7
      have e07 := e3.trans e37
      have a1 := e67 _ _ hA1
      have ir8 := ir.lst (o := .lst (xs.map V.str ++ [V.str "zz"])) a1
      have s8 : upd H7 A1 (.lst (xs.map V.str ++ [V.str "zz"])) Sd = some (.lst [.ref A1, .ref A2]) := (upd_ne nS1).trans (e67 _ _ hSv)
      have a2 : upd H7 A1 (.lst (xs.map V.str ++ [V.str "zz"])) A2 = some (.lst (ys.map V.str)) := (upd_ne (Ne.symm n12)).trans (e67 _ _ hA2)
      have ir9 := ir8.lst (o := .lst []) a2
      have e09 : Am.Ext H (upd (upd H7 A1 (.lst (xs.map V.str ++ [V.str "zz"]))) A2 (.lst [])) := ext_off (ext_off e07 (e04.gone h1)) (e04.gone h20)
      have hp4 := e4 _ _ hPv
      have ho4 := e4 _ _ hOv
      have hp9 : Ls (upd (upd H7 A1 (.lst (xs.map V.str ++ [V.str "zz"]))) A2 (.lst [])) Pp (srt (TD.pro xs ys q).ins) := (upd_ne (ne_of_none hp4 h20)).trans ((upd_ne (ne_of_none hp4 h1)).trans (e37 _ _ hPv))
      have ho9 : Ls (upd (upd H7 A1 (.lst (xs.map V.str ++ [V.str "zz"]))) A2 (.lst [])) Oo os := (upd_ne (ne_of_none ho4 h20)).trans ((upd_ne (ne_of_none ho4 h1)).trans (e37 _ _ hOv))
      refine ⟨_, rfl, .inl ⟨Sd, _, 0, _, rfl, rfl, SqL.of (e67 _ _ hSv), atI_nat (j := 0) rfl, .inl ⟨rfl, _, SqL.of a1⟩, A1, _, _, rfl, rfl, a1, by rw [List.length_map]; omega, ?_⟩⟩
      refine ⟨_, rfl, .inl ⟨Sd, _, 1, _, rfl, rfl, SqL.of s8, atI_nat (j := 1) rfl, .inl ⟨rfl, _, SqL.of a2⟩, A2, _, rfl, rfl, a2, ?_⟩⟩
      obtain ⟨l, zs, y, h1, h2, h3, h4, l2, zs2, y2, g1, g2, g3, g4, ir6, e06⟩ := fin r _ e09 hp9 ho9 ir9 none none
      exact ⟨_, rfl, .inl ⟨rfl, _, SqL.of hp9⟩, l, zs, y, h1, h2, h3, h4, _, rfl, .inl ⟨rfl, _, SqL.of (by injection g1 with g1; rw [g1]; exact g3)⟩, l2, zs2, y2, g1, g2, g3, g4, _, rfl, _, rfl, t, r, _, os, rfl, ht.ext e06, ok, ir6, fun H7 e7 => z H7 (e06.trans e7)⟩
end
end KD

set_option Elab.async false
set_option linter.all false
set_option maxRecDepth 100000
set_option maxHeartbeats 1000000
/-! The texts of fractions, as lists of codes. -/
namespace TX
open PySem L2 NumText
open TL (numL spl par)
def sg (n : Int) : List Nat := if n < 0 then [45] else []
/-- the text of a fraction -/
def wr (q : Rat) : List Nat := sg q.num ++ (numL q.num.natAbs ++ (if q.den = 1 then [] else 47 :: numL q.den))
/-- the text without a first - -/
def bd (l : List Nat) : List Nat := if l.take 1 = [45] then l.drop 1 else l
def ng (l : List Nat) : Bool := decide (l.take 1 = [45])
def fig (c : Nat) : Bool := decide (48 ≤ c) && decide (c ≤ 57)
/-- figures without a needless zero -/
def cnt (l : List Nat) : Bool := !l.isEmpty && (l.all fig && (decide (l = [48]) || !decide (l.take 1 = [48])))
theorem all_fig {l : List Nat} : l.all fig = true ↔ AllDigits l := by
  rw [List.all_eq_true]
  unfold AllDigits fig
  simp only [Bool.and_eq_true, decide_eq_true_eq]
theorem numL_take (n : Nat) (h : 0 < n) : (numL n).take 1 ≠ [48] := by
  induction n using Nat.strongRecOn with
  | _ n ih =>
    by_cases h9 : n < 10
    · rw [TL.numL_lt h9]
      intro e
      have e' : 48 + n = 48 := by simpa using e
      omega
    · rw [TL.numL_step (by omega), List.take_append_of_le_length (List.length_pos_iff.mpr (TL.numL_ne _))]
      exact ih (n / 10) (by omega) (by omega)
theorem numL_zero : numL 0 = [48] := by rw [TL.numL_lt (by decide)]
theorem cnt_numL (n : Nat) : cnt (numL n) = true := by
  have a : (numL n).all fig = true := all_fig.mpr (TL.numL_digits n)
  have b : (numL n).isEmpty = false := by
    cases e : numL n with
    | nil => exact absurd e (TL.numL_ne n)
    | cons _ _ => rfl
  unfold cnt
  rw [a, b]
  by_cases h : n = 0
  · subst h
    rw [numL_zero]
    rfl
  · rw [decide_eq_false (numL_take n (by omega))]
    simp
theorem numL_head (n : Nat) (r : List Nat) : (numL n ++ r).take 1 ≠ [45] := by
  rw [List.take_append_of_le_length (List.length_pos_iff.mpr (TL.numL_ne _))]
  intro e
  cases z : numL n with
  | nil => exact TL.numL_ne n z
  | cons c t =>
    rw [z] at e
    have e' : c = 45 := by simpa using e
    have := TL.numL_digits n c (by rw [z]; exact List.mem_cons_self)
    omega
theorem bd_wr (q : Rat) : bd (wr q) = numL q.num.natAbs ++ (if q.den = 1 then [] else 47 :: numL q.den) := by
  unfold bd wr sg
  by_cases h : q.num < 0
  · rw [if_pos h]
    rfl
  · rw [if_neg h, List.nil_append, if_neg (numL_head _ _)]
theorem ng_wr (q : Rat) : ng (wr q) = decide (q.num < 0) := by
  unfold ng wr sg
  by_cases h : q.num < 0
  · rw [if_pos h, decide_eq_true h]
    rfl
  · rw [if_neg h, List.nil_append, decide_eq_false h, decide_eq_false (numL_head _ _)]
/-- the halves of a text -/
def hv (l : List Nat) : List (List Nat) := spl [47] 0 [] (bd l)
theorem hv_wr (q : Rat) : hv (wr q) = if q.den = 1 then [numL q.num.natAbs] else [numL q.num.natAbs, numL q.den] := by
  have f : ∀ n, 47 ∉ numL n := fun n => TL.numL_free (by decide)
  unfold hv
  rw [bd_wr]
  split
  · rw [List.append_nil, TL.spl_last1 (f _), List.nil_append]
  · have e := TL.spl_part1 (s := 47) (S := []) (acc := []) (rest := numL q.den) (f q.num.natAbs)
    rw [show [47] ++ numL q.den = 47 :: numL q.den from rfl, List.nil_append] at e
    rw [e, TL.spl_last1 (f _), List.nil_append]
/-- the number that a text tells by its sign and its halves -/
def hi (l : List Nat) : Int := if ng l then -((digitsVal ((hv l).getD 0 []) : Nat) : Int) else ((digitsVal ((hv l).getD 0 []) : Nat) : Int)
def lo (l : List Nat) : Nat := if (hv l).length = 2 then digitsVal ((hv l).getD 1 []) else 1
theorem hi_wr (q : Rat) : hi (wr q) = q.num := by
  unfold hi
  rw [ng_wr, hv_wr]
  have e : (if q.den = 1 then [numL q.num.natAbs] else [numL q.num.natAbs, numL q.den]).getD 0 [] = numL q.num.natAbs := by split <;> rfl
  rw [e, TL.numL_val]
  by_cases h : q.num < 0
  · rw [if_pos (decide_eq_true h)]
    omega
  · rw [if_neg (by rw [decide_eq_false h]; decide)]
    omega
theorem lo_wr (q : Rat) : lo (wr q) = q.den := by
  unfold lo
  rw [hv_wr]
  by_cases h : q.den = 1
  · rw [if_pos h, if_neg (show ¬ ([numL q.num.natAbs] : List (List Nat)).length = 2 from fun e => by cases e), h]
  · rw [if_neg h, if_pos (show ([numL q.num.natAbs, numL q.den] : List (List Nat)).length = 2 from rfl)]
    exact TL.numL_val _
theorem val_wr (q : Rat) : Rat.divInt (hi (wr q)) (lo (wr q) : Int) = q := by
  rw [hi_wr, lo_wr]
  exact Rat.num_divInt_den q
theorem wr_inj {q p : Rat} (h : wr q = wr p) : q = p := by rw [← val_wr q, h, val_wr p]
/-- the same, as the program reads: by the first / -/
theorem par_free {p rest : List Nat} (h : 47 ∉ p) : par [47] [] (p ++ 47 :: rest) = some (p, rest) := by
  have e := TL.par_part1 (s := 47) (S := []) (acc := []) (rest := rest) h
  rw [show [47] ++ rest = 47 :: rest from rfl, List.nil_append] at e
  exact e
theorem sg_free {n : Int} {m : Nat} : 47 ∉ sg n ++ numL m := by
  intro h
  rcases List.mem_append.mp h with h | h
  · unfold sg at h
    split at h <;> simp at h
  · exact TL.numL_free (s := 47) (by decide) h
theorem par_wr (q : Rat) : par [47] [] (wr q) = if q.den = 1 then none else some (sg q.num ++ numL q.num.natAbs, numL q.den) := by
  unfold wr
  split
  · rw [List.append_nil]
    exact TL.par_none1 sg_free
  · rw [← List.append_assoc]
    exact par_free sg_free
theorem bd_num (q : Rat) : bd (sg q.num ++ numL q.num.natAbs) = numL q.num.natAbs := by
  unfold bd sg
  by_cases h : q.num < 0
  · rw [if_pos h]
    rfl
  · have := numL_head q.num.natAbs []
    rw [List.append_nil] at this
    rw [if_neg h, List.nil_append, if_neg this]
theorem fold_lt : ∀ (l : List Nat) (a : Nat), AllDigits l → l.foldl (fun acc c => acc * 10 + (c - 48)) a < (a + 1) * 10 ^ l.length
  | [], a, _ => by simp
  | c :: l, a, h => by
    have hc := h.head
    have ih := fold_lt l (a * 10 + (c - 48)) h.tail
    rw [List.foldl_cons, List.length_cons, Nat.pow_succ]
    refine Nat.lt_of_lt_of_le ih ?_
    have e : (a + 1) * (10 ^ l.length * 10) = ((a + 1) * 10) * 10 ^ l.length := by
      rw [Nat.mul_comm (10 ^ l.length) 10, Nat.mul_assoc]
    rw [e]
    exact Nat.mul_le_mul_right _ (by omega)
theorem val_lt {l : List Nat} (h : AllDigits l) : digitsVal l < 10 ^ l.length := by
  have := fold_lt l 0 h
  unfold digitsVal
  omega
theorem pow_le_two (n : Nat) : 10 ^ n ≤ 2 ^ (4 * n) := by
  rw [Nat.pow_mul]
  exact Nat.pow_le_pow_left (by decide) n
theorem val_bits {l : List Nat} {n : Nat} (h : AllDigits l) (hl : l.length ≤ n) : digitsVal l < 2 ^ (4 * n) :=
  Nat.lt_of_lt_of_le (val_lt h) (Nat.le_trans (pow_le_two _) (Nat.pow_le_pow_right (by decide) (by omega)))
/-- the text without its - ahead -/
theorem tl_rp (x : Str) : TL.tl (Txt.removeprefix x "-") = bd (TL.tl x) := by
  rw [StrLaws.removeprefix_eq, StrLaws.subAt_eq]
  have e1 : (Str.ofString "-").length = 1 := by decide
  have e2 : (Str.ofString "-").cps.toList = [45] := by decide
  have el : x.length = (TL.tl x).length := TL.len_tl x
  rw [e1, e2, List.drop_zero]
  unfold bd
  show TL.tl (if _ then _ else _) = _
  by_cases h : (TL.tl x).take 1 = [45]
  · have l1 : 1 ≤ (TL.tl x).length := by
      have := congrArg List.length h
      rw [List.length_take] at this
      simp only [List.length_cons, List.length_nil] at this
      omega
    rw [if_pos h, if_pos]
    · show ((TL.tl x).drop 1).take (x.length - 1) = _
      rw [List.take_of_length_le]
      rw [List.length_drop]
      omega
    · rw [decide_eq_true (by omega), Bool.true_and]
      exact beq_iff_eq.mpr h
  · rw [if_neg h, if_neg]
    intro e
    rw [Bool.and_eq_true, beq_iff_eq] at e
    exact h e.2
theorem bd_len (l : List Nat) : (bd l).length ≤ l.length := by
  unfold bd
  split
  · rw [List.length_drop]; omega
  · exact Nat.le_refl _
/-- int of such a text -/
theorem int_bd {x : Str} (h : AllDigits (bd (TL.tl x))) (h1 : bd (TL.tl x) ≠ []) (h2 : x.length ≤ 4300) : PySem.intText? x = some (if ng (TL.tl x) then -((digitsVal (bd (TL.tl x)) : Nat) : Int) else ((digitsVal (bd (TL.tl x)) : Nat) : Int)) := by
  unfold ng
  by_cases e : (TL.tl x).take 1 = [45]
  · rw [if_pos (decide_eq_true e)]
    have eb : bd (TL.tl x) = (TL.tl x).drop 1 := by unfold bd; rw [if_pos e]
    have ex : TL.tl x = 45 :: bd (TL.tl x) := by
      rw [eb]
      conv => lhs; rw [← List.take_append_drop 1 (TL.tl x), e]
      rfl
    exact intText_neg ex h h1 h2
  · rw [if_neg (by rw [decide_eq_false e]; decide)]
    have eb : bd (TL.tl x) = TL.tl x := by unfold bd; rw [if_neg e]
    rw [eb] at h h1 ⊢
    exact intText_digits h h1 h2
end TX

set_option Elab.async false
set_option linter.all false
/-! What a text of a rule says, it says of one rule alone: lists of codes. -/
namespace X
open PySem L2 NumText
open TL (numL)
open TX
/-- what stands before the first c, and what after it -/
theorem cut {c : Nat} : ∀ {a a' r r' : List Nat}, c ∉ a → c ∉ a' → a ++ c :: r = a' ++ c :: r' → a = a' ∧ r = r'
  | [], [], r, r', _, _, h => ⟨rfl, (List.cons.inj h).2⟩
  | [], x :: a', r, r', _, h2, h => by
      have e := (List.cons.inj h).1
      exact absurd (e ▸ List.mem_cons_self) h2
  | x :: a, [], r, r', h1, _, h => by
      have e := (List.cons.inj h).1
      exact absurd (e ▸ List.mem_cons_self) h1
  | x :: a, y :: a', r, r', h1, h2, h => by
      obtain ⟨e1, e2⟩ := List.cons.inj h
      obtain ⟨i1, i2⟩ := cut (fun m => h1 (List.mem_cons_of_mem _ m)) (fun m => h2 (List.mem_cons_of_mem _ m)) e2
      exact ⟨by rw [e1, i1], i2⟩
theorem numL_inj {m n : Nat} (h : numL m = numL n) : m = n := by rw [← TL.numL_val m, h, TL.numL_val n]
/-- the text of an int -/
def il (i : Int) : List Nat := sg i ++ numL i.natAbs
theorem il_mem {i : Int} {c : Nat} (h : c ∈ il i) : c = 45 ∨ (48 ≤ c ∧ c ≤ 57) := by
  unfold il at h
  rw [List.mem_append] at h
  rcases h with h | h
  · left
    unfold sg at h
    split at h
    · simpa using h
    · cases h
  · right
    have := TL.numL_digits i.natAbs c h
    exact ⟨by omega, by omega⟩
theorem il_inj {i j : Int} (h : il i = il j) : i = j := by
  unfold il sg at h
  by_cases hi : i < 0 <;> by_cases hj : j < 0
  · rw [if_pos hi, if_pos hj] at h
    have e := numL_inj (List.append_cancel_left h)
    omega
  · rw [if_pos hi, if_neg hj] at h
    have z := numL_head j.natAbs []
    rw [List.append_nil] at z
    rw [List.nil_append] at h
    exact absurd (show (numL j.natAbs).take 1 = [45] by rw [← h]; rfl) z
  · rw [if_neg hi, if_pos hj] at h
    have z := numL_head i.natAbs []
    rw [List.append_nil] at z
    rw [List.nil_append] at h
    exact absurd (show (numL i.natAbs).take 1 = [45] by rw [h]; rfl) z
  · rw [if_neg hi, if_neg hj] at h
    have e := numL_inj (by simpa using h)
    omega
/-- the text of a pair: the codes of the name, and the number -/
def pl (p : List Nat × Int) : List Nat := 40 :: (p.1 ++ (44 :: 32 :: (il p.2 ++ [41])))
/-- the text of a list, when its first bracket is away -/
def tails : List (List Nat) → List Nat
  | [] => [93]
  | [x] => x ++ [93]
  | x :: y :: r => x ++ (44 :: 32 :: tails (y :: r))
theorem il_free {i : Int} : 41 ∉ il i := fun h => by
  rcases il_mem h with e | e <;> omega
theorem pl_cut {n : List Nat} {i j : Int} {r r' : List Nat} (h : pl (n, i) ++ r = pl (n, j) ++ r') : i = j ∧ r = r' := by
  have h2 : 40 :: (n ++ (44 :: 32 :: (il i ++ 41 :: r))) = 40 :: (n ++ (44 :: 32 :: (il j ++ 41 :: r'))) := by
    simpa only [pl, List.cons_append, List.append_assoc, List.nil_append] using h
  have h3 := List.append_cancel_left (List.cons.inj h2).2
  have h4 := (List.cons.inj (List.cons.inj h3).2).2
  obtain ⟨e, f⟩ := cut il_free il_free h4
  exact ⟨il_inj e, f⟩
/-- pairs of the same names, with the same text and something behind it: they are the same -/
theorem pairs_cut : ∀ {a b : List (List Nat × Int)} {w w' : List Nat}, a.map (·.1) = b.map (·.1) → tails (a.map pl) ++ w = tails (b.map pl) ++ w' → a = b ∧ w = w'
  | [], [], w, w', _, h => ⟨rfl, (List.cons.inj h).2⟩
  | [], _ :: _, _, _, e, _ => nomatch e
  | _ :: _, [], _, _, e, _ => nomatch e
  | [(n, i)], [(m, j)], w, w', e, h => by
      have en : n = m := (List.cons.inj e).1
      subst en
      have h2 : pl (n, i) ++ (93 :: w) = pl (n, j) ++ (93 :: w') := by
        simpa only [List.map_cons, List.map_nil, tails, List.append_assoc, List.cons_append, List.nil_append] using h
      obtain ⟨e1, e2⟩ := pl_cut h2
      exact ⟨by rw [e1], (List.cons.inj e2).2⟩
  | [_], _ :: _ :: _, _, _, e, _ => nomatch (List.cons.inj e).2
  | _ :: _ :: _, [_], _, _, e, _ => nomatch (List.cons.inj e).2
  | (n, i) :: p :: a, (m, j) :: p' :: b, w, w', e, h => by
      have en : n = m := (List.cons.inj e).1
      subst en
      have h2 : pl (n, i) ++ (44 :: 32 :: (tails ((p :: a).map pl) ++ w)) = pl (n, j) ++ (44 :: 32 :: (tails ((p' :: b).map pl) ++ w')) := by
        simpa only [List.map_cons, tails, List.append_assoc, List.cons_append, List.nil_append] using h
      obtain ⟨e1, e2⟩ := pl_cut h2
      obtain ⟨e3, e4⟩ := pairs_cut (a := p :: a) (b := p' :: b) (List.cons.inj e).2 (List.cons.inj (List.cons.inj e2).2).2
      exact ⟨by rw [e1, e3], e4⟩
/-- the text of a name -/
def qn (x : List Nat) : List Nat := 39 :: (x ++ [39])
theorem qn_cut {x y r r' : List Nat} (hx : 39 ∉ x) (hy : 39 ∉ y) (h : qn x ++ r = qn y ++ r') : x = y ∧ r = r' := by
  have h2 : 39 :: (x ++ 39 :: r) = 39 :: (y ++ 39 :: r') := by
    simpa only [qn, List.cons_append, List.append_assoc, List.nil_append] using h
  exact cut hx hy (List.cons.inj h2).2
/-- a tuple of names, past its second name -/
def more : List (List Nat) → List Nat
  | [] => [41]
  | [x] => qn x ++ [41]
  | x :: y :: r => qn x ++ (44 :: 32 :: more (y :: r))
/-- a tuple of names, past its first bracket -/
def tup : List (List Nat) → List Nat
  | [] => [41]
  | [x] => qn x ++ [44, 41]
  | x :: y :: r => qn x ++ (44 :: 32 :: more (y :: r))
def clear (l : List (List Nat)) : Prop := ∀ x ∈ l, 39 ∉ x
theorem more_cut : ∀ {a b : List (List Nat)} {w w' : List Nat}, clear a → clear b → more a ++ w = more b ++ w' → a = b ∧ w = w'
  | [], [], w, w', _, _, h => ⟨rfl, (List.cons.inj h).2⟩
  | [], [y], w, w', _, _, h => by
      have e : (41 : Nat) = 39 := (List.cons.inj h).1
      omega
  | [], y :: z :: b, w, w', _, _, h => by
      have e : (41 : Nat) = 39 := (List.cons.inj h).1
      omega
  | [x], [], w, w', _, _, h => by
      have e : (39 : Nat) = 41 := (List.cons.inj h).1
      omega
  | x :: z :: a, [], w, w', _, _, h => by
      have e : (39 : Nat) = 41 := (List.cons.inj h).1
      omega
  | [x], [y], w, w', ha, hb, h => by
      have h2 : qn x ++ (41 :: w) = qn y ++ (41 :: w') := by simpa only [more, List.append_assoc, List.cons_append, List.nil_append] using h
      obtain ⟨e1, e2⟩ := qn_cut (ha x List.mem_cons_self) (hb y List.mem_cons_self) h2
      exact ⟨by rw [e1], (List.cons.inj e2).2⟩
  | [x], y :: z :: b, w, w', ha, hb, h => by
      have h2 : qn x ++ (41 :: w) = qn y ++ (44 :: 32 :: (more (z :: b) ++ w')) := by simpa only [more, List.append_assoc, List.cons_append, List.nil_append] using h
      obtain ⟨e1, e2⟩ := qn_cut (ha x List.mem_cons_self) (hb y List.mem_cons_self) h2
      have e : (41 : Nat) = 44 := (List.cons.inj e2).1
      omega
  | x :: z :: a, [y], w, w', ha, hb, h => by
      have h2 : qn x ++ (44 :: 32 :: (more (z :: a) ++ w)) = qn y ++ (41 :: w') := by simpa only [more, List.append_assoc, List.cons_append, List.nil_append] using h
      obtain ⟨e1, e2⟩ := qn_cut (ha x List.mem_cons_self) (hb y List.mem_cons_self) h2
      have e : (44 : Nat) = 41 := (List.cons.inj e2).1
      omega
  | x :: u :: a, y :: v :: b, w, w', ha, hb, h => by
      have h2 : qn x ++ (44 :: 32 :: (more (u :: a) ++ w)) = qn y ++ (44 :: 32 :: (more (v :: b) ++ w')) := by simpa only [more, List.append_assoc, List.cons_append, List.nil_append] using h
      obtain ⟨e1, e2⟩ := qn_cut (ha x List.mem_cons_self) (hb y List.mem_cons_self) h2
      obtain ⟨e3, e4⟩ := more_cut (a := u :: a) (b := v :: b) (fun z hz => ha z (List.mem_cons_of_mem _ hz)) (fun z hz => hb z (List.mem_cons_of_mem _ hz)) (List.cons.inj (List.cons.inj e2).2).2
      exact ⟨by rw [e1, e3], e4⟩
theorem tup_cut : ∀ {a b : List (List Nat)} {w w' : List Nat}, clear a → clear b → tup a ++ w = tup b ++ w' → a = b ∧ w = w'
  | [], [], w, w', _, _, h => ⟨rfl, (List.cons.inj h).2⟩
  | [], [y], w, w', _, _, h => by
      have e : (41 : Nat) = 39 := (List.cons.inj h).1
      omega
  | [], y :: z :: b, w, w', _, _, h => by
      have e : (41 : Nat) = 39 := (List.cons.inj h).1
      omega
  | [x], [], w, w', _, _, h => by
      have e : (39 : Nat) = 41 := (List.cons.inj h).1
      omega
  | x :: z :: a, [], w, w', _, _, h => by
      have e : (39 : Nat) = 41 := (List.cons.inj h).1
      omega
  | [x], [y], w, w', ha, hb, h => by
      have h2 : qn x ++ (44 :: 41 :: w) = qn y ++ (44 :: 41 :: w') := by simpa only [tup, List.append_assoc, List.cons_append, List.nil_append] using h
      obtain ⟨e1, e2⟩ := qn_cut (ha x List.mem_cons_self) (hb y List.mem_cons_self) h2
      exact ⟨by rw [e1], (List.cons.inj (List.cons.inj e2).2).2⟩
  | [x], y :: z :: b, w, w', ha, hb, h => by
      have h2 : qn x ++ (44 :: 41 :: w) = qn y ++ (44 :: 32 :: (more (z :: b) ++ w')) := by simpa only [tup, List.append_assoc, List.cons_append, List.nil_append] using h
      obtain ⟨e1, e2⟩ := qn_cut (ha x List.mem_cons_self) (hb y List.mem_cons_self) h2
      have e : (41 : Nat) = 32 := (List.cons.inj (List.cons.inj e2).2).1
      omega
  | x :: z :: a, [y], w, w', ha, hb, h => by
      have h2 : qn x ++ (44 :: 32 :: (more (z :: a) ++ w)) = qn y ++ (44 :: 41 :: w') := by simpa only [tup, List.append_assoc, List.cons_append, List.nil_append] using h
      obtain ⟨e1, e2⟩ := qn_cut (ha x List.mem_cons_self) (hb y List.mem_cons_self) h2
      have e : (32 : Nat) = 41 := (List.cons.inj (List.cons.inj e2).2).1
      omega
  | x :: u :: a, y :: v :: b, w, w', ha, hb, h => by
      have h2 : qn x ++ (44 :: 32 :: (more (u :: a) ++ w)) = qn y ++ (44 :: 32 :: (more (v :: b) ++ w')) := by simpa only [tup, List.append_assoc, List.cons_append, List.nil_append] using h
      obtain ⟨e1, e2⟩ := qn_cut (ha x List.mem_cons_self) (hb y List.mem_cons_self) h2
      obtain ⟨e3, e4⟩ := more_cut (a := u :: a) (b := v :: b) (fun z hz => ha z (List.mem_cons_of_mem _ hz)) (fun z hz => hb z (List.mem_cons_of_mem _ hz)) (List.cons.inj (List.cons.inj e2).2).2
      exact ⟨by rw [e1, e3], e4⟩
/-- the text of two sides -/
def sides (a b : List (List Nat)) : List Nat := 91 :: 40 :: (tup a ++ (44 :: 32 :: 40 :: (tup b ++ [93])))
theorem sides_cut {a b a' b' : List (List Nat)} {w w' : List Nat} (ha : clear a) (hb : clear b) (ha' : clear a') (hb' : clear b') (h : sides a b ++ w = sides a' b' ++ w') : a = a' ∧ b = b' ∧ w = w' := by
  have h2 : 91 :: 40 :: (tup a ++ (44 :: 32 :: 40 :: (tup b ++ 93 :: w))) = 91 :: 40 :: (tup a' ++ (44 :: 32 :: 40 :: (tup b' ++ 93 :: w'))) := by
    simpa only [sides, List.append_assoc, List.cons_append, List.nil_append] using h
  obtain ⟨e1, e2⟩ := tup_cut ha ha' (List.cons.inj (List.cons.inj h2).2).2
  obtain ⟨e3, e4⟩ := tup_cut hb hb' (List.cons.inj (List.cons.inj (List.cons.inj e2).2).2).2
  exact ⟨e1, e3, (List.cons.inj e4).2⟩
end X

set_option Elab.async false
set_option linter.all false
set_option maxRecDepth 100000
set_option maxHeartbeats 2000000
/-! The texts of names, pairs and sides, as lists of codes. -/
namespace X
open PySem Oo KD
open TL (tl tl_append tl_join joinL)
theorem rep_char {c : Nat} (h : nsg c = true) : Builtin.Str.reprChar 39 c = [c] := by
  have k : ∀ c, c < 123 → nsg c = true → Builtin.Str.reprChar 39 c = [c] := by decide +kernel
  refine k c ?_ h
  have := of_decide_eq_true h
  omega
theorem fold_rep : ∀ (l : List Nat) (acc : Array Nat), (∀ c ∈ l, nsg c = true) → (l.foldl (fun out c => out ++ (Builtin.Str.reprChar 39 c).toArray) acc).toList = acc.toList ++ l
  | [], acc, _ => by simp
  | c :: r, acc, h => by
    rw [List.foldl_cons, fold_rep r _ fun d hd => h d (List.mem_cons_of_mem _ hd), rep_char (h c List.mem_cons_self)]
    simp
theorem plain_free {l : List Nat} (h : ∀ c ∈ l, nsg c = true) : 39 ∉ l := fun m => by
  have := of_decide_eq_true (h 39 m)
  omega
theorem tl_repr {x : Str} (h : ∀ c ∈ tl x, nsg c = true) : tl (reprText x) = qn (tl x) := by
  have e : reprQuote x = 39 := by
    unfold reprQuote
    have f : x.cps.contains 39 = false := by
      rw [Bool.eq_false_iff]
      intro m
      exact plain_free h (by simpa using m)
    rw [f]
    rfl
  unfold reprText
  rw [e]
  show ((x.cps.foldl (fun out c => out ++ (Builtin.Str.reprChar 39 c).toArray) #[39]).push 39).toList = _
  rw [Array.toList_push, ← Array.foldl_toList, fold_rep _ _ h]
  rfl
theorem name_nsg {x : Str} (h : nameB x = true) : ∀ c ∈ tl x, nsg c = true := by
  unfold nameB at h
  simp only [Bool.and_eq_true] at h
  exact List.all_eq_true.mp h.2.2.2
theorem join_tails : ∀ l : List (List Nat), joinL [44, 32] l ++ [93] = tails l
  | [] => rfl
  | [_] => rfl
  | x :: y :: r => by
    show x ++ ([44, 32] ++ joinL [44, 32] (y :: r)) ++ [93] = x ++ (44 :: 32 :: tails (y :: r))
    rw [← join_tails (y :: r)]
    simp
theorem tl_list (ts : List Str) : tl (listText ts) = 91 :: tails (ts.map tl) := by
  rw [listText_eq_join, tl_append, tl_append, tl_join, ← join_tails]
  have e1 : tl (Str.ofString "[") = [91] := by decide
  have e2 : tl (Str.ofString "]") = [93] := by decide
  have e3 : tl (Str.ofString ", ") = [44, 32] := by decide
  show tl (Str.ofString "[") ++ joinL (tl (Str.ofString ", ")) _ ++ tl (Str.ofString "]") = _
  rw [e1, e2, e3]
  rfl
theorem tl_il (n : Int) : TL.tl (Str.ofString (toString n)) = il n := by
  unfold il
  cases n with
  | ofNat m =>
    have e : TX.sg (Int.ofNat m) = [] := if_neg (by show ¬ (Int.ofNat m) < 0; exact Int.not_lt.mpr (Int.natCast_nonneg m))
    rw [e]
    exact TL.tl_num m
  | negSucc m =>
    have e : TX.sg (Int.negSucc m) = [45] := if_pos (Int.negSucc_lt_zero m)
    rw [e, TL.tl_ofString]
    have e2 := TL.tl_num (m + 1)
    rw [TL.tl_ofString] at e2
    show (String.append "-" (Nat.repr (m + 1))).toList.map Char.toNat = _
    show ("-" ++ Nat.repr (m + 1)).toList.map Char.toNat = _
    rw [String.toList_append, List.map_append]
    show [45] ++ _ = [45] ++ TL.numL (m + 1)
    rw [← e2]
    rfl
theorem tl_pair {p : Str × Int} (h : nameB p.1 = true) : tl (pairT p) = pl (qn (tl p.1), p.2) := by
  have e1 : tl (Str.ofString "(") = [40] := by decide
  have e2 : tl (Str.ofString ")") = [41] := by decide
  have e3 : tl (Str.ofString ", ") = [44, 32] := by decide
  show tl ((Str.ofString "(") ++ (reprText p.1 ++ Str.ofString ", " ++ Str.ofString (toString p.2)) ++ (Str.ofString ")")) = _
  rw [tl_append, tl_append, tl_append, tl_append, e1, e2, e3, tl_repr (name_nsg h)]
  have e4 : tl (Str.ofString (toString p.2)) = il p.2 := tl_il p.2
  rw [e4]
  simp [pl]
/-- a list of pairs, as codes -/
def cd (ls : List (Str × Int)) : List (List Nat × Int) := ls.map fun p => (qn (tl p.1), p.2)
theorem tl_prs {ls : List (Str × Int)} (h : ∀ p ∈ ls, nameB p.1 = true) : tl (prsT ls) = 91 :: tails ((cd ls).map pl) := by
  unfold prsT
  rw [tl_list, List.map_map, cd, List.map_map]
  congr 2
  exact List.map_congr_left fun p hp => tl_pair (h p hp)
theorem cd_inj : ∀ {a b : List (Str × Int)}, a.map (·.1) = b.map (·.1) → cd a = cd b → a = b
  | [], [], _, _ => rfl
  | [], _ :: _, e, _ => nomatch e
  | _ :: _, [], e, _ => nomatch e
  | (x, i) :: a, (y, j) :: b, e, h => by
    obtain ⟨e1, e2⟩ := List.cons.inj e
    obtain ⟨h1, h2⟩ := List.cons.inj h
    have e1' : x = y := e1
    have h1' : i = j := (Prod.mk.inj h1).2
    rw [cd_inj e2 h2, e1', h1']
theorem cd_names : ∀ {a b : List (Str × Int)}, a.map (·.1) = b.map (·.1) → (cd a).map (·.1) = (cd b).map (·.1) := by
  intro a b e
  have k : ∀ l : List (Str × Int), (cd l).map (·.1) = (l.map (·.1)).map fun x => qn (tl x) := fun l => by
    rw [cd, List.map_map, List.map_map]
    rfl
  rw [k, k, e]
/-- the text of a sum's parts says one thing alone, for the same names in the same order -/
theorem prs_shown {a b : List (Str × Int)} {u v : Str} (ha : ∀ p ∈ a, nameB p.1 = true) (hb : ∀ p ∈ b, nameB p.1 = true) (e : a.map (·.1) = b.map (·.1)) (h : prsT a ++ u = prsT b ++ v) : a = b ∧ u = v := by
  have h2 : tl (prsT a) ++ tl u = tl (prsT b) ++ tl v := by rw [← tl_append, ← tl_append, h]
  rw [tl_prs ha, tl_prs hb] at h2
  obtain ⟨e1, e2⟩ := pairs_cut (cd_names e) (List.cons.inj h2).2
  exact ⟨cd_inj e e1, TL.ext_tl e2⟩
theorem tup_more : ∀ l : List (List Nat), l ≠ [] → joinL [44, 32] (l.map qn) ++ [41] = more l
  | [], h => absurd rfl h
  | [_], _ => rfl
  | x :: y :: r, _ => by
    show qn x ++ ([44, 32] ++ joinL [44, 32] ((y :: r).map qn)) ++ [41] = qn x ++ (44 :: 32 :: more (y :: r))
    rw [← tup_more (y :: r) (by simp)]
    simp
theorem tl_tup {xs : List Str} (h : ∀ x ∈ xs, nameB x = true) : tl (tupS xs) = 40 :: tup (xs.map tl) := by
  have e1 : tl (Str.ofString "(") = [40] := by decide
  have e2 : tl (Str.ofString ")") = [41] := by decide
  have e4 : tl (Str.ofString ",)") = [44, 41] := by decide
  have e3 : tl (Str.ofString ", ") = [44, 32] := by decide
  have em : (xs.map reprText).map tl = (xs.map tl).map qn := by
    rw [List.map_map, List.map_map]
    exact List.map_congr_left fun x hx => tl_repr (name_nsg (h x hx))
  show tl ((Str.ofString "(") ++ Str.join (Str.ofString ", ") (xs.map reprText) ++ Str.ofString (if (xs.map reprText).length == 1 then ",)" else ")")) = _
  rw [tl_append, tl_append, e1, tl_join, e3, em]
  match xs with
  | [] => exact e2 ▸ rfl
  | [x] =>
    show [40] ++ qn (tl x) ++ tl (Str.ofString ",)") = _
    rw [e4]
    rfl
  | x :: y :: r =>
    show [40] ++ (qn (tl x) ++ ([44, 32] ++ joinL [44, 32] (((y :: r).map tl).map qn))) ++ tl (Str.ofString (if (r.map reprText).length + 1 + 1 == 1 then ",)" else ")")) = _
    rw [if_neg (by simp), e2]
    show _ = 40 :: (qn (tl x) ++ (44 :: 32 :: more ((y :: r).map tl)))
    rw [← tup_more _ (by simp)]
    simp
theorem tl_sides {xs ys : List Str} (hx : ∀ x ∈ xs, nameB x = true) (hy : ∀ x ∈ ys, nameB x = true) : tl (sidesT xs ys) = sides (xs.map tl) (ys.map tl) := by
  unfold sidesT
  rw [tl_list]
  show 91 :: (tl (tupS xs) ++ (44 :: 32 :: (tl (tupS ys) ++ [93]))) = _
  rw [tl_tup hx, tl_tup hy]
  simp [sides]
theorem names_clear {xs : List Str} (h : ∀ x ∈ xs, nameB x = true) : clear (xs.map tl) := fun l hl => by
  obtain ⟨x, hx, rfl⟩ := List.mem_map.mp hl
  exact plain_free (name_nsg (h x hx))
/-- the text of a product's parts says one thing alone -/
theorem sides_shown {a b a' b' : List Str} {u v : Str} (ha : ∀ x ∈ a, nameB x = true) (hb : ∀ x ∈ b, nameB x = true) (ha' : ∀ x ∈ a', nameB x = true) (hb' : ∀ x ∈ b', nameB x = true) (h : sidesT a b ++ u = sidesT a' b' ++ v) : a = a' ∧ b = b' ∧ u = v := by
  have h2 : tl (sidesT a b) ++ tl u = tl (sidesT a' b') ++ tl v := by rw [← tl_append, ← tl_append, h]
  rw [tl_sides ha hb, tl_sides ha' hb'] at h2
  obtain ⟨e1, e2, e3⟩ := sides_cut (names_clear ha) (names_clear hb) (names_clear ha') (names_clear hb') h2
  exact ⟨TL.map_tl_inj e1, TL.map_tl_inj e2, TL.ext_tl e3⟩
end X

set_option Elab.async false
set_option linter.all false
set_option maxRecDepth 100000
set_option maxHeartbeats 2000000
set_option exponentiation.threshold 20000
/-! Two rules are equal just where the law takes their ties for alike. -/
namespace X
open PySem Oo KD
open TL (tl tl_append)
theorem il_no44 {i : Int} : 44 ∉ il i := fun h => by
  rcases il_mem h with e | e <;> omega
theorem shown_inj {q p : Rat} (h : Am.shown q = Am.shown p) : q = p := by
  have k : ∀ r : Rat, tl (Am.shown r) = tl (Str.ofString "Amount(") ++ (il r.num ++ 44 :: (32 :: (il r.den ++ [41]))) := fun r => by
    have e2 : tl (Str.ofString ")") = [41] := by decide
    have e3 : tl (Str.ofString ", ") = [44, 32] := by decide
    rw [Am.shown_eq]
    show tl (Str.ofString "Amount(" ++ Str.ofString (toString r.num) ++ Str.ofString ", " ++ Str.ofString (toString (r.den : Int)) ++ Str.ofString ")") = _
    rw [tl_append, tl_append, tl_append, tl_append, tl_il, tl_il, e2, e3]
    simp
  have h2 : tl (Am.shown q) = tl (Am.shown p) := by rw [h]
  rw [k, k] at h2
  obtain ⟨e1, e2⟩ := cut il_no44 il_no44 (List.append_cancel_left h2)
  have e3 := List.append_cancel_right (List.cons.inj e2).2
  have e4 := il_inj e3
  exact Rat.ext (il_inj e1) (by omega)
theorem same_names : ∀ {a b : List (Str × Int)}, a.map (·.1) = b.map (·.1) → (b.map (·.1)).Nodup → (∀ p ∈ a, p ∈ b) → a = b
  | [], [], _, _, _ => rfl
  | [], _ :: _, e, _, _ => nomatch e
  | _ :: _, [], e, _, _ => nomatch e
  | p :: a, r :: b, e, nd, h => by
    obtain ⟨e1, e2⟩ := List.cons.inj e
    have nd' := List.nodup_cons.mp (show (r.1 :: b.map (·.1)).Nodup from nd)
    have e1' : p.1 = r.1 := e1
    have hp : p = r := by
      rcases List.mem_cons.mp (h p List.mem_cons_self) with q | q
      · exact q
      · exact absurd (show r.1 ∈ b.map (·.1) from e1' ▸ List.mem_map_of_mem (f := (·.1)) q) nd'.1
    have ht : a = b := same_names e2 nd'.2 fun z hz => by
      rcases List.mem_cons.mp (h z (List.mem_cons_of_mem _ hz)) with q | q
      · exact absurd (show r.1 ∈ b.map (·.1) by rw [← e2, ← q]; exact List.mem_map_of_mem hz) nd'.1
      · exact q
    rw [hp, ht]
theorem perm_sub : ∀ {l m : List Str}, l.Nodup → l.length = m.length → (∀ x ∈ l, x ∈ m) → l.Perm m
  | [], m, _, e, _ => by
    rw [List.length_eq_zero_iff.mp e.symm]
  | x :: l, m, nd, e, h => by
    have nd' := List.nodup_cons.mp nd
    have hx := h x List.mem_cons_self
    have hp := List.perm_cons_erase hx
    have hl : l.length = (m.erase x).length := by
      have := hp.length_eq
      rw [List.length_cons] at this e
      omega
    refine ((perm_sub nd'.2 hl fun y hy => ?_).cons x).trans hp.symm
    have yx : y ≠ x := fun q => nd'.1 (by rw [← q]; exact hy)
    exact (List.mem_erase_of_ne yx).mpr (h y (List.mem_cons_of_mem _ hy))
theorem find_mem {ls : List (Str × Int)} {x : Str} {n : Int} (h : wt ls x = some n) : (x, n) ∈ ls := by
  by_cases m : x ∈ ls.map (·.1)
  · obtain ⟨k, hk, hm⟩ := wt_some m
    rw [h] at hk
    rw [Option.some.inj hk]
    exact hm
  · rw [wt_none m] at h
    cases h
theorem ordW_names (ls : List (Str × Int)) : (ordW ls).map (·.1) = srt (ls.map (·.1)) := fst_map _
theorem eqW_refl {l : List (Str × Int)} (nd : (l.map (·.1)).Nodup) : eqW l l = true := by
  unfold eqW
  rw [decide_eq_true rfl, Bool.true_and, List.all_eq_true]
  exact fun p hp => decide_eq_true (wt_mem nd hp)
theorem eqW_ord {a b : List (Str × Int)} (na : (a.map (·.1)).Nodup) (nb : (b.map (·.1)).Nodup) (h : eqW (ordW a) (ordW b) = true) : ordW a = ordW b := by
  unfold eqW at h
  rw [Bool.and_eq_true] at h
  have hl := of_decide_eq_true h.1
  have hm : ∀ p ∈ ordW a, p ∈ ordW b := fun p hp => find_mem (of_decide_eq_true (List.all_eq_true.mp h.2 p hp))
  have ea := ordW_names a
  have eb := ordW_names b
  have hs : ∀ x ∈ srt (a.map (·.1)), x ∈ srt (b.map (·.1)) := fun x hx => by
    rw [← ea] at hx
    obtain ⟨p, hp, rfl⟩ := List.mem_map.mp hx
    rw [← eb]
    exact List.mem_map_of_mem (hm p hp)
  have hln : (srt (a.map (·.1))).length = (srt (b.map (·.1))).length := by
    rw [← ea, ← eb, List.length_map, List.length_map, hl]
  have hp : (srt (a.map (·.1))).Perm (srt (b.map (·.1))) := perm_sub (srt_nd na) hln hs
  have he : srt (a.map (·.1)) = srt (b.map (·.1)) := srt_of_perm ((srt_perm _).symm.trans (hp.trans (srt_perm _)))
  exact same_names (by rw [ea, eb, he]) (by rw [eb]; exact srt_nd nb) hm
/-- what two rules are equal by -/
def eqR (td : TD) (os : List Str) (ud : TD) (us : List Str) : Bool := match td, ud with
  | .loo xs, .loo ys => decide (srt xs = srt ys) && decide (srt os = srt us)
  | .sum a q, .sum b p => eqW (ordW a) (ordW b) && (decide (q = p) && decide (srt os = srt us))
  | .pro a b q, .pro c d p => decide (srt a = srt c) && (decide (srt b = srt d) && (decide (q = p) && decide (srt os = srt us)))
  | _, _ => false
theorem eqR_like {td ud : TD} {os us : List Str} (h : TdOk td os) (h' : TdOk ud us) : eqR td os ud us = likeB td os ud us := by
  have kls : ¬ ((Str.ofString "loose") = Str.ofString "sum") := by decide
  have klp : ¬ ((Str.ofString "loose") = Str.ofString "product") := by decide
  have ksp : ¬ ((Str.ofString "sum") = Str.ofString "product") := by decide
  have no : ∀ {u v : Str} {r : Bool}, ¬ u = v → (decide (u = v) && r) = false := fun n => by rw [decide_eq_false n, Bool.false_and]
  cases td with
  | loo xs =>
    cases ud with
    | loo ys =>
      show (decide (srt xs = srt ys) && decide (srt os = srt us)) = (true && (decide (srt xs = srt ys) && (decide (srt os = srt us) && decide (("" : Str) = ""))))
      simp
    | sum b p => exact (no kls).symm
    | pro c d p => exact (no klp).symm
  | sum a q =>
    cases ud with
    | loo ys => exact (no fun e => kls e.symm).symm
    | pro c d p => exact (no ksp).symm
    | sum b p =>
      have na : (a.map (·.1)).Nodup := h.nm.nd
      have nb : (b.map (·.1)).Nodup := h'.nm.nd
      rw [Bool.eq_iff_iff]
      show (eqW (ordW a) (ordW b) && (decide (q = p) && decide (srt os = srt us))) = true ↔ (decide ((Str.ofString "sum") = Str.ofString "sum") && (decide (srt (a.map (·.1)) = srt (b.map (·.1))) && (decide (srt os = srt us) && decide (prsT (ordW a) ++ Am.shown q = prsT (ordW b) ++ Am.shown p)))) = true
      simp only [Bool.and_eq_true, decide_eq_true_eq]
      constructor
      · rintro ⟨e1, e2, e3⟩
        have e := eqW_ord na nb e1
        exact ⟨trivial, by rw [← ordW_names, ← ordW_names, e], e3, by rw [e, e2]⟩
      · rintro ⟨_, e1, e2, e3⟩
        have ok : ∀ (l : List (Str × Int)), (∀ x ∈ l.map (·.1), nameB x = true) → ∀ p ∈ ordW l, nameB p.1 = true := fun l hl p hp => by
          have m : p.1 ∈ (ordW l).map (·.1) := List.mem_map_of_mem hp
          rw [ordW_names, srt_mem] at m
          exact hl _ m
        obtain ⟨f1, f2⟩ := prs_shown (ok a h.nm.ok) (ok b h'.nm.ok) (by rw [ordW_names, ordW_names, e1]) e3
        exact ⟨by rw [f1]; exact eqW_refl (by rw [ordW_names]; exact srt_nd nb), shown_inj f2, e2⟩
  | pro a b q =>
    cases ud with
    | loo ys => exact (no fun e => klp e.symm).symm
    | sum b' p => exact (no fun e => ksp e.symm).symm
    | pro c d p =>
      rw [Bool.eq_iff_iff]
      show (decide (srt a = srt c) && (decide (srt b = srt d) && (decide (q = p) && decide (srt os = srt us)))) = true ↔ (decide ((Str.ofString "product") = Str.ofString "product") && (decide (srt (a ++ b) = srt (c ++ d)) && (decide (srt os = srt us) && decide (sidesT (srt a) (srt b) ++ Am.shown q = sidesT (srt c) (srt d) ++ Am.shown p)))) = true
      simp only [Bool.and_eq_true, decide_eq_true_eq]
      have ok1 : ∀ x ∈ a ++ b, nameB x = true := h.nm.ok
      have ok2 : ∀ x ∈ c ++ d, nameB x = true := h'.nm.ok
      have oks : ∀ {l : List Str}, (∀ x ∈ l, nameB x = true) → ∀ x ∈ srt l, nameB x = true := fun hl x hx => hl x ((srt_mem _ x).mp hx)
      have back : ∀ {l m : List Str}, srt l = srt m → l.Perm m := fun {l m} e => (srt_perm l).symm.trans (e ▸ srt_perm m)
      constructor
      · rintro ⟨e1, e2, e3, e4⟩
        exact ⟨trivial, srt_of_perm ((back e1).append (back e2)), e4, by rw [e1, e2, e3]⟩
      · rintro ⟨_, e1, e2, e3⟩
        obtain ⟨f1, f2, f3⟩ := sides_shown (oks fun x hx => ok1 x (List.mem_append_left _ hx)) (oks fun x hx => ok1 x (List.mem_append_right _ hx)) (oks fun x hx => ok2 x (List.mem_append_left _ hx)) (oks fun x hx => ok2 x (List.mem_append_right _ hx)) e3
        exact ⟨f1, f2, shown_inj f3, e2⟩
end X

set_option Elab.async false
set_option linter.all false
set_option maxRecDepth 100000
set_option maxHeartbeats 1000000
/-! != of own instances whose class lies below another own class: nothing of its own but ==. -/
namespace Oo
open PySem PySem.Spec PySem.W PyProof.Rows
section
variable {prog : Program} {w : World} {A : Around} {E : Value → Shared → Prop} {s : Shared} {K : Frag} {x y C f : Addr} {ox oy : Obj} {od oe : Option Obj} {b : Value}
theorem neK_entry {Q : Fin → Shared → Prop} (X : K.In s.heap) (I : InstAt s.heap x ox C od) (hs : findIn K (.ref C) "__eq__" = some (some (.ref f))) (hf : isFn K (.ref f) = true) (hu : A.units < cLine)
    (go : Turned prog w A E f x b (fun c s' => Q (.done (.ret (.bool c))) s') s) : wpAny (model prog w) A (Builtin.«object.__ne__» ⟨[.ref x, b], []⟩) Q E s := by
  have first := ifBound_K (A := A) (E := E) (M := model prog w) (args := [b]) X I hs hf (Q := fun r s' => ∃ c, r = some (.bool c) ∧ Q (.done (.ret (.bool (!c)))) s')
    (wpAny_mono go (fun r s' hr => let ⟨c, e, q⟩ := hr; ⟨c, by rw [e], q⟩) fun _ _ e => e)
  unfold Builtin.«object.__ne__»
  repeat (first
    | with_reducible refine wpAny_cRoomFor hu ?_
    | (refine wpAny_bind (m := callSpecialIfBound? (.ref x) (Str.ofString "__eq__") [b]) (wpAny_mono first (fun r s' hr => by
        obtain ⟨c, rfl, hq⟩ := hr
        repeat (first | exact hq | exact wpAny_pure hq | exact wpAny_truthy_bool hq | (refine wpAny_bind (m := truthy (.bool _)) (wpAny_truthy_bool ?_)) | wp_step)) fun _ _ e => e))
    | wp_step)
theorem neK_check {R : Unit → Shared → Prop} {rest : List Value} (X : K.In s.heap) (I : InstAt s.heap x ox C od) (hb : subIn K (.ref C) (.type "object") = some true) (ha : argsOk "object.__ne__" ⟨.ref x :: rest, []⟩) (hq : R () s) :
    wpAny (model prog w) A (checkBuiltinCall "object.__ne__" ⟨.ref x :: rest, []⟩) R E s := by
  simp only [checkBuiltinCall, F.cmpKind_ne, F.cmpSplit_ne]
  refine wpAny_bind ?_
  unfold isInstance
  refine wpAny_bind (I.type.here ((looks_subIn X hb).here ?_))
  cases hsig : Manifest.signature? "object.__ne__" with
  | none => exact wpAny_pure hq
  | some sig =>
    simp only [argsOk, hsig] at ha
    have h2 : Bind.checkArgs "object.__ne__" sig ⟨.ref x :: rest, []⟩ = pure () := ha
    show wpAny _ A (Bind.checkArgs "object.__ne__" sig ⟨.ref x :: rest, []⟩) R E _
    rw [h2]
    exact wpAny_pure hq
theorem ifBoundB {M : Model} {args : List Value} {name : Str} {id B : String} {Q : Option Value → Shared → Prop} (X : K.In s.heap) (I : InstAt s.heap x ox C od) (hs : findIn K (.ref C) name = some (some (.builtin id))) (S : Slot B name id)
    (h : wpAny M A (call (.builtin id) (.ref x :: args)) (fun v => Q (some v)) E s) : wpAny M A (callSpecialIfBound? (.ref x) name args) Q E s := by
  simp only [callSpecialIfBound?, bindSpecialIfBound?]
  refine wpAny_holding (wpAny_bind (wpAny_bind (wpAny_bind (I.type.here ((looks_findIn X hs).here ?_)))))
  simp only [S.bind]
  refine wpAny_bind (wpAny_askSetting (wpAny_ite ?_))
  have fin : wpAny M A (call (.builtin id) ([.ref x] ++ args) >>= fun v => pure (some v)) Q E s := wpAny_bind (wpAny_mono h (fun v s' h' => wpAny_pure h') fun _ _ h' => h')
  split
  · exact wpAny_bind (wpAny_pure (wpAny_pure fin))
  · exact wpAny_tryCatch (wpAny_bind (wpAny_pure (wpAny_pure fin)))
theorem neK_try {Q : Option Value → Shared → Prop} (X : K.In s.heap) (I : InstAt s.heap x ox C od) (hs : findIn K (.ref C) "__eq__" = some (some (.ref f))) (hf : isFn K (.ref f) = true) (hn : findIn K (.ref C) "__ne__" = some (some (.builtin "object.__ne__")))
    (hb : subIn K (.ref C) (.type "object") = some true) (hu : A.units + 1 < cLine) (go : Turned prog w A.in1 E f x b (fun c s' => Q (some (.bool c)) s') s) : wpAny (model prog w) A (tryCompare (.ref x) "__ne__" b) Q E s := by
  have FB := PySem.F.cmp_object
  simp only [tryCompare]
  have body : ∀ (R : Fin → Shared → Prop) (E' : Value → Shared → Prop), (∀ c s', Q (some (.bool c)) s' → R (.done (.ret (.bool c))) s') → (∀ e s', E e s' → E' e s') → wpAny (model prog w) A.in1 (Builtin.«object.__ne__» ⟨[.ref x, b], []⟩) R E' s := fun R E' hR hE =>
    neK_entry (A := A.in1) X I hs hf hu (wpAny_mono go (fun v s' hv => let ⟨c, e, hq⟩ := hv; ⟨c, e, hR _ _ hq⟩) hE)
  refine wpAny_bind (ifBoundB X I hn FB.ne (wpAny_call (codeAny_call_builtin FB.ne.plain F.cmpEntry_ne (neK_check X I hb (F.cmpArgs_ne _ _) (body _ _ (fun c s' hq => ?_) fun e s' z => z)))))
  first | exact wpAny_pure hq | exact wpAny_pure (wpAny_pure hq) | exact hq
/-- != of an own instance and a thing of the same class -/
theorem ne_same {Q : Value → Shared → Prop} (X : K.In s.heap) (I : InstAt s.heap x ox C od) (J : InstAt s.heap y oy C oe) (hs : findIn K (.ref C) "__eq__" = some (some (.ref f))) (hf : isFn K (.ref f) = true) (hn : findIn K (.ref C) "__ne__" = some (some (.builtin "object.__ne__")))
    (hb : subIn K (.ref C) (.type "object") = some true) (hu : A.units + 1 < cLine) (go : Turned prog w A.in1 E f x (.ref y) (fun c s' => Q (.bool c) s') s) : wpAny (model prog w) A (richCompare .NotEq (.ref x) (.ref y)) Q E s := by
  unfold richCompare
  simp only [oneThing_ref]
  refine wpAny_holding (wpAny_bind (wpAny_cRoomFor (Nat.lt_of_succ_lt hu) ?_))
  rw [cmpInfo_NotEq]
  dsimp only
  refine wpAny_bind (I.type.here (wpAny_bind (J.type.here ?_)))
  rw [show (Value.ref C != Value.ref C) = false from by simp]
  simp only [Bool.false_eq_true, if_false]
  refine wpAny_bind (wpAny_pure ?_)
  simp only [Bool.false_eq_true, if_false]
  refine wpAny_bind (wpAny_mono (neK_try (Q := fun r s' => ∃ c, r = some (.bool c) ∧ Q (.bool c) s') X I hs hf hn hb hu (wpAny_mono go (fun v s' hv => ?_) fun _ _ e => e)) (fun r s' hr => ?_) fun _ _ e => e)
  · obtain ⟨c, rfl, hq⟩ := hv
    exact ⟨c, rfl, _, rfl, hq⟩
  · obtain ⟨c, rfl, hq⟩ := hr
    exact wpAny_pure hq
end
end Oo

set_option Elab.async false
set_option linter.all false
set_option maxRecDepth 100000
set_option maxHeartbeats 2000000
set_option exponentiation.threshold 20000
/-! text, repr, ==, != of a rule of any class. -/
namespace KD
open PySem PySem.Spec PyProof.Rows L2 Oo Gd Am KA SqX
/-- a rule's text -/
def textT (td : TD) (os : List Str) : Str := match td with
  | .loo xs => looseT (srt xs) (srt os)
  | .sum ls q => sumT q (ordW ls) (srt (ls.map (·.1))) (srt os)
  | .pro xs ys q => prodT q (srt xs) (srt ys) (srt (xs ++ ys)) (srt os)
theorem ok_wts {ls : List (Str × Int)} {q : Rat} {os : List Str} (h : TdOk (.sum ls q) os) : Wts (ordW ls) := fun p hp => by
  obtain ⟨y, hy, rfl⟩ := List.mem_map.mp hp
  have hy' := (srt_mem _ y).mp hy
  obtain ⟨n, e, m⟩ := wt_some hy'
  show ((wt ls y).getD 0).natAbs < _
  rw [e]
  exact Nat.lt_trans (h.dt.1 _ m).2 (Nat.pow_lt_pow_right (by decide) (by decide))
theorem ord_sub (ls : List (Str × Int)) : ∀ x ∈ srt (ls.map (·.1)), x ∈ (ordW ls).map (·.1) := fun x hx => by
  rw [X.ordW_names]
  exact hx
theorem TdOk.fi {td : TD} {os : List Str} (h : TdOk td os) : Few (srt td.ins) := h.nm.f.srt
theorem TdOk.fo {td : TD} {os : List Str} (h : TdOk td os) : Few (srt os) := h.of.srt
theorem low25 {q : Rat} (h : Low 200 q) : Low 250 q := h.more (by decide)
theorem textT_ok {td : TD} {os : List Str} (h : TdOk td os) : PyData.strOk (textT td os) = true := by
  cases td with
  | loo xs => exact sok_loose h.fi h.fo
  | sum ls q => exact sok_sum h.fi h.fo
  | pro xs ys q => exact sok_prod h.nm.left.f.srt h.nm.right.f.srt h.fo
theorem textT_len {td : TD} {os : List Str} (h : TdOk td os) : (textT td os).length ≤ 30000 := by
  cases td with
  | loo xs => exact Nat.le_trans (looseT_len h.fi h.fo) (by decide)
  | sum ls q => exact sumT_len (low25 h.dt.2) h.fi (ok_wts h) (ord_sub ls) h.fo
  | pro xs ys q => exact Nat.le_trans (prodT_len (low25 h.dt.2) h.nm.left.f.srt h.nm.right.f.srt h.fo) (by decide)
theorem rule_wrap (x : Str) : ruleT x = Str.ofString "Rule(" ++ reprText x ++ Str.ofString ")" := by
  show Str.empty ++ Str.ofString "Rule(" ++ reprText x ++ Str.ofString ")" = _
  rw [Am.emp]
/-- ==, as a class has it -/
structure EqM (P : Program) (w : World) (K : W.Frag) (mg : Str → Option Value) (base : Heap) (C : Addr) (k : Nat) (sp : Sp) : Prop where
  of : ∃ f fd, W.findIn K (.ref C) "__eq__" = some (some (.ref f)) ∧ W.isFn K (.ref f) = true ∧ FnOk P w K mg base CX0 k f fd ["self", "other"] sp ∧ Binds K fd ["self", "other"] [] ∧
    W.findIn K (.ref C) "__ne__" = some (some (.builtin "object.__ne__")) ∧ W.subIn K (.ref C) (.type "object") = some true
structure RpM (P : Program) (w : World) (K : W.Frag) (mg : Str → Option Value) (base : Heap) (C : Addr) (k : Nat) (sp : Sp) : Prop where
  of : ∃ f fd, W.findIn K (.ref C) "__repr__" = some (some (.ref f)) ∧ W.isFn K (.ref f) = true ∧ FnOk P w K mg base CX0 k f fd ["self"] sp ∧ Binds K fd ["self"] []
/-- the rules' own methods -/
structure RM (P : Program) (w : World) (K : W.Frag) (mg : Str → Option Value) (base : Heap) (A CT CP CL : Addr) : Prop where
  eT : EqM P w K mg base CT 3 (spEqT K A CT)
  eP : EqM P w K mg base CP 3 (spEqP K A CP)
  eL : EqM P w K mg base CL 1 (spEqL K CL)
  rT : RpM P w K mg base CT 5 (spRpT A CT)
  rP : RpM P w K mg base CP 5 (spRpP A CP)
  rL : RpM P w K mg base CL 3 (spRpL CL)
  tT : Mt0 P w K mg base CT "text" 4 (spTxT A CT)
  tP : Mt0 P w K mg base CP "text" 4 (spTxP A CP)
  tL : Mt0 P w K mg base CL "text" 2 (spTxL CL)
  sTP : W.subIn K (.ref CP) (.ref CT) = some false
  sTL : W.subIn K (.ref CL) (.ref CT) = some false
  sPT : W.subIn K (.ref CT) (.ref CP) = some false
  sPL : W.subIn K (.ref CL) (.ref CP) = some false
  sLT : W.subIn K (.ref CT) (.ref CL) = some false
  sLP : W.subIn K (.ref CP) (.ref CL) = some false
  kT : W.typeIn K (.ref CT) = some (.type "type")
  kP : W.typeIn K (.ref CP) = some (.type "type")
  kL : W.typeIn K (.ref CL) = some (.type "type")
  cT : (W.clsIn K CT).isSome = true
  cP : (W.clsIn K CP).isSome = true
  cL : (W.clsIn K CL).isSome = true
section
variable {X : Cx} {K : W.Frag} {A C CT CP CL CR : Addr} {pins : List (Addr × Obj)} {σ : L2.St} {H : Hp} {s : Shared} {k : Nat} {Q : VK}
/-- e.text(), e a rule -/
def tRt (A CT CP CL : Addr) (ta : TE) : TE := fun σ H Q => ta σ H fun x H1 => ∃ (r : Addr) (td : TD) (os : List Str), x = .ref r ∧ IsRule A CT CP CL H1 r td os ∧ TdOk td os ∧ ∀ H', Am.Ext H1 H' → Q (.str (textT td os)) H'
theorem pe_text {o : Expr} {ta : TE} {apos pos : Pos} {pl : Sem Bool} (kk : KK X.K CT CP CL CR) (M : RM X.prog X.w X.K X.mg X.base A CT CP CL) (hr : Room k X.A) (hk : 4 ≤ k) (he : PE X o ta)
    (ht : eval (.Call (.Attribute o "text" apos) [] [] pos) X.env = (do
      let ov ← eval o X.env
      standAt apos.atName
      let (f, first) ← holding [ov] (getMethod ov "text" pl)
      callWith pos f first (backTo pos (starEach [] X.env)) (backToKw pos (keywordEach [] X.env))) := by rfl) :
    PE X (.Call (.Attribute o "text" apos) [] [] pos) (tRt A CT CP CL ta) := by
  refine ⟨fun pins s σ H Q I h => ?_⟩
  refine PySem.W.methodCall_KW (pl := pl) (thn (he.run pins s σ H _ I h) fun u s1 ⟨x, H1, I1, rx, r, td, os, ex, ir, ok, q⟩ => ?_) ht
  subst ex
  obtain rfl : u = Value.ref r := rx
  cases td with
  | loo xs =>
    obtain ⟨dx, pf, pw, hi, hf, hw⟩ := (show IsL CL H1 r _ _ from ir)
    obtain ⟨f, fd, MM, F, MB⟩ := M.tL.of
    refine getmeth_ok I1 hi kk.iL.cl MM rfl ?_
    exact PySem.W.callWith_K0 (first := [.ref r]) I1.kIn MM.kp (run_fn (E := E0) (us := [.ref r]) (vs := [.ref r]) F (hr.mono (by omega)) MB .nil pass0 I1 (.cons rfl .nil) ⟨r, _, _, rfl, ⟨dx, pf, pw, hi, hf, hw⟩, ok.fi, ok.fo, q H1 (Am.Ext.refl _)⟩)
  | sum ls p =>
    obtain ⟨dx, pt, pf, pd, pw, hi, hit, hf, hd, hw⟩ := (show IsT A CT H1 r _ _ _ _ from ir)
    obtain ⟨f, fd, MM, F, MB⟩ := M.tT.of
    refine getmeth_ok I1 hi kk.iT.cl MM rfl ?_
    exact PySem.W.callWith_K0 (first := [.ref r]) I1.kIn MM.kp (run_fn (E := E0) (us := [.ref r]) (vs := [.ref r]) F (hr.mono hk) MB .nil pass0 I1 (.cons rfl .nil) ⟨r, _, _, _, _, rfl, ⟨dx, pt, pf, pd, pw, hi, hit, hf, hd, hw⟩, low25 ok.dt.2, ok_wts ok, ord_sub ls, ok.fi, ok.fo, q⟩)
  | pro xs ys p =>
    obtain ⟨dx, pt, pl', pr, pf, pw, hi, hit, hl, hrr, hf, hw⟩ := (show IsP A CP H1 r _ _ _ _ _ from ir)
    obtain ⟨f, fd, MM, F, MB⟩ := M.tP.of
    refine getmeth_ok I1 hi kk.iP.cl MM rfl ?_
    exact PySem.W.callWith_K0 (first := [.ref r]) I1.kIn MM.kp (run_fn (E := E0) (us := [.ref r]) (vs := [.ref r]) F (hr.mono hk) MB .nil pass0 I1 (.cons rfl .nil) ⟨r, _, _, _, _, _, rfl, ⟨dx, pt, pl', pr, pf, pw, hi, hit, hl, hrr, hf, hw⟩, low25 ok.dt.2, ok.nm.left.f.srt, ok.nm.right.f.srt, ok.fi, ok.fo, q⟩)
/-- repr of a rule -/
def rRule (A CT CP CL : Addr) : List V → Hp → VK → Prop := fun vs H Q => ∃ (r : Addr) (td : TD) (os : List Str), vs = [.ref r] ∧ IsRule A CT CP CL H r td os ∧ TdOk td os ∧ ∀ H', Am.Ext H H' → Q (.str (ruleT (textT td os))) H'
theorem call_reprR (M : RM X.prog X.w X.K X.mg X.base A CT CP CL) (hr : Room (k + 6) X.A) : CallR X (.builtin "repr") (rRule A CT CP CL) := fun pins s σ H vs us Q I rv h => by
  obtain ⟨r, td, os, rfl, ir, ok, z⟩ := h
  cases td with
  | loo xs =>
    obtain ⟨dx, pf, pw, hi, hf, hw⟩ := (show IsL CL H r _ _ from ir)
    obtain ⟨f, fd, hs, hfn, F, bd⟩ := M.rL.of
    exact call_reprO (E := E0) hs hfn F bd (hr.mono (by omega)) pass0 pins s σ H _ us Q I rv ⟨r, dx, _, rfl, hi, r, _, _, rfl, ⟨dx, pf, pw, hi, hf, hw⟩, ok.fi, ok.fo, fun H' e => ⟨⟨_, rfl⟩, z H' e⟩⟩
  | sum ls p =>
    obtain ⟨dx, pt, pf, pd, pw, hi, hit, hf, hd, hw⟩ := (show IsT A CT H r _ _ _ _ from ir)
    obtain ⟨f, fd, hs, hfn, F, bd⟩ := M.rT.of
    exact call_reprO (E := E0) hs hfn F bd (hr.mono (by omega)) pass0 pins s σ H _ us Q I rv ⟨r, dx, _, rfl, hi, r, _, _, _, _, rfl, ⟨dx, pt, pf, pd, pw, hi, hit, hf, hd, hw⟩, low25 ok.dt.2, ok_wts ok, ord_sub ls, ok.fi, ok.fo, fun H' e => ⟨⟨_, rfl⟩, z H' e⟩⟩
  | pro xs ys p =>
    obtain ⟨dx, pt, pl', pr, pf, pw, hi, hit, hl, hrr, hf, hw⟩ := (show IsP A CP H r _ _ _ _ _ from ir)
    obtain ⟨f, fd, hs, hfn, F, bd⟩ := M.rP.of
    exact call_reprO (E := E0) hs hfn F bd (hr.mono (by omega)) pass0 pins s σ H _ us Q I rv ⟨r, dx, _, rfl, hi, r, _, _, _, _, _, rfl, ⟨dx, pt, pl', pr, pf, pw, hi, hit, hl, hrr, hf, hw⟩, low25 ok.dt.2, ok.nm.left.f.srt, ok.nm.right.f.srt, ok.fi, ok.fo, fun H' e => ⟨⟨_, rfl⟩, z H' e⟩⟩
/-- an own instance, compared with any other thing by == -/
theorem eq_go {sp : Sp} {j : Nat} {r dx : Addr} {fs : List (Str × V)} {y : V} {u : Value} (T : EqM X.prog X.w X.K X.mg X.base C j sp) (hr : Room j X.A) (I : Inv X pins σ H s) (hi : H r = some (.ins C dx fs)) (ry : RelV y u)
    (hy : (∃ b D dy gs, y = .ref b ∧ H b = some (.ins D dy gs) ∧ (D = C ∨ W.subIn X.K (.ref D) (.ref C) = some false)) ∨ ∃ T, Bt H y T) (z : sp [.ref r, y] H Q E0) : wpAny (model X.prog X.w) X.A (compareOp .Eq (.ref r) u) (EP X pins σ Q) X.xe s := by
  obtain ⟨f, fd, hs, hf, F, bd, _⟩ := T.of
  obtain ⟨od, J, _⟩ := inst_at I hi
  obtain ⟨m, hF⟩ := I.fr
  refine W.cmp_ofEq ?_
  have go := wpAny_mono (run_fn (E := E0) (us := [.ref r, u]) (vs := [.ref r, y]) F hr bd .nil pass0 I (.cons rfl (.cons ry .nil)) (by simpa using z)) (fun v' s' ⟨z', H', I', rz, qz⟩ => SlX.cmpback (P := EP X pins σ Q) rz ⟨z', H', I', rz, qz⟩) fun _ _ z => z
  rcases hy with ⟨b, D, dy, gs, rfl, hb2, hD⟩ | ⟨T, bt⟩
  · cases (show u = Value.ref b from ry)
    obtain ⟨oe, J2, _⟩ := inst_at I hb2
    refine W.cmp_K (op := .Eq) (tb := .ref D) hr.units0 hF I.ok.mod.kin J J2.type ?_ hs hf go
    unfold W.notFirst
    rcases hD with rfl | e
    · rw [beq_self_eq_true]
      rfl
    · rw [e]
      simp
  · refine W.cmp_K (op := .Eq) (tb := .type T) hr.units0 hF I.ok.mod.kin J (fun A Q E s' kp q => wpAny_typeOf (is_keeps (bt.is I ry) kp) q) ?_ hs hf go
    unfold W.notFirst
    rw [sub_T bt.mem]
    simp
/-- != of two of a class -/
theorem ne_go {sp : Sp} {j : Nat} {r r2 dx dy : Addr} {fs gs : List (Str × V)} {c : Bool} (T : EqM X.prog X.w X.K X.mg X.base C j sp) (hr : Room (j + 1) X.A) (I : Inv X pins σ H s) (hi : H r = some (.ins C dx fs)) (hi2 : H r2 = some (.ins C dy gs))
    (z : sp [.ref r, .ref r2] H (fun w' H' => w' = .bl c ∧ H' = H) E0) (q : Q (.bl (!c)) H) : wpAny (model X.prog X.w) X.A (compareOp .NotEq (.ref r) (.ref r2)) (EP X pins σ Q) X.xe s := by
  obtain ⟨f, fd, hs, hf, F, bd, hn, ho⟩ := T.of
  obtain ⟨od, J, e1⟩ := inst_at I hi
  obtain ⟨oe, J2, e2⟩ := inst_at I hi2
  refine W.cmp_ofNotEq (ne_same I.kIn J J2 hs hf hn ho (by have := hr.units; omega) ?_)
  refine wpAny_mono (run_atO (Q := fun w' H' => w' = .bl c ∧ H' = H) (us := [.ref r, .ref r2]) (ws := [.ref r, .ref r2]) F bd hr.in1 I.env0.in1 pass0 I (.cons rfl (.cons rfl .nil)) z) (fun v' s' ⟨z', H', I', rz, ez, eh⟩ => ?_) fun _ _ z => z
  subst ez eh
  cases (show v' = Value.bool c from rz)
  exact ⟨_, rfl, .bl (!c), _, I', rfl, q⟩
end
end KD

set_option Elab.async false
set_option linter.all false
set_option maxRecDepth 100000
set_option maxHeartbeats 2000000
set_option exponentiation.threshold 20000
/-! ==, != of rules. -/
namespace KD
open PySem PySem.Spec PyProof.Rows L2 Oo Gd Am KA SqX
theorem likeB_refl (td : TD) (os : List Str) : likeB td os td os = true := by
  unfold likeB
  simp
section
variable {X : Cx} {K : W.Frag} {A C CT CP CL CR : Addr} {k : Nat}
/-- a rule == a rule -/
def rEqR (A CT CP CL : Addr) : R2 := fun x y H Q => ∃ (r r2 : Addr) (td ud : TD) (os us : List Str), x = .ref r ∧ y = .ref r2 ∧ IsRule A CT CP CL H r td os ∧ TdOk td os ∧ IsRule A CT CP CL H r2 ud us ∧ TdOk ud us ∧ Q (.bl (likeB td os ud us)) H
/-- a rule == what is no own instance -/
def rEqB (A CT CP CL : Addr) : R2 := fun x y H Q => ∃ (r : Addr) (td : TD) (os : List Str) (T : String), x = .ref r ∧ IsRule A CT CP CL H r td os ∧ TdOk td os ∧ Bt H y T ∧ Q (.bl false) H
/-- a rule != one with equal parts -/
def rNeR (A CT CP CL : Addr) : R2 := fun x y H Q => ∃ (r r2 : Addr) (td : TD) (os : List Str), x = .ref r ∧ y = .ref r2 ∧ IsRule A CT CP CL H r td os ∧ TdOk td os ∧ IsRule A CT CP CL H r2 td os ∧ Q (.bl false) H
theorem op_eqR (kk : KK X.K CT CP CL CR) (M : RM X.prog X.w X.K X.mg X.base A CT CP CL) (hr : Room (k + 3) X.A) : OpR X (compareOp .Eq) (rEqR A CT CP CL) := fun pins s σ H x y v u Q I rx ry h => by
  obtain ⟨r, r2, td, ud, os, us, rfl, rfl, ir, ok, ir2, uk, z⟩ := h
  cases (show v = Value.ref r from rx)
  rw [← _root_.X.eqR_like ok uk] at z
  cases td with
  | loo xs =>
    obtain ⟨dx, pf, pw, hi, hf, hw⟩ := (show IsL CL H r _ _ from ir)
    cases ud with
    | loo xs' =>
      obtain ⟨dx2, pf2, pw2, hi2, hf2, hw2⟩ := (show IsL CL H r2 _ _ from ir2)
      exact eq_go M.eL (hr.mono (by omega)) I hi ry (.inl ⟨r2, CL, dx2, _, rfl, hi2, .inl rfl⟩) ⟨r, .ref r2, _, _, rfl, ⟨dx, pf, pw, hi, hf, hw⟩, ok.fi, ok.fo, .inl ⟨r2, _, _, rfl, ⟨dx2, pf2, pw2, hi2, hf2, hw2⟩, uk.fi, uk.fo, z⟩⟩
    | sum ls' q' =>
      obtain ⟨dx2, pt2, pf2, pd2, pw2, hi2, hit2, hf2, hd2, hw2⟩ := (show IsT A CT H r2 _ _ _ _ from ir2)
      exact eq_go M.eL (hr.mono (by omega)) I hi ry (.inl ⟨r2, CT, dx2, _, rfl, hi2, .inr M.sLT⟩) ⟨r, .ref r2, _, _, rfl, ⟨dx, pf, pw, hi, hf, hw⟩, ok.fi, ok.fo, .inr ⟨⟨_, TyX.base (TyOf.ins hi2 kk.iT.cl kk.iT.ha kk.iT.hn kk.iT.htk kk.iT.hm), kk.tl⟩, z⟩⟩
    | pro xs' ys' q' =>
      obtain ⟨dx2, pt2, pl2, pr2, pf2, pw2, hi2, hit2, hl2, hrr2, hf2, hw2⟩ := (show IsP A CP H r2 _ _ _ _ _ from ir2)
      exact eq_go M.eL (hr.mono (by omega)) I hi ry (.inl ⟨r2, CP, dx2, _, rfl, hi2, .inr M.sLP⟩) ⟨r, .ref r2, _, _, rfl, ⟨dx, pf, pw, hi, hf, hw⟩, ok.fi, ok.fo, .inr ⟨⟨_, TyX.base (TyOf.ins hi2 kk.iP.cl kk.iP.ha kk.iP.hn kk.iP.htk kk.iP.hm), kk.pl⟩, z⟩⟩
  | sum ls q =>
    obtain ⟨dx, pt, pf, pd, pw, hi, hit, hf, hd, hw⟩ := (show IsT A CT H r _ _ _ _ from ir)
    cases ud with
    | loo xs' =>
      obtain ⟨dx2, pf2, pw2, hi2, hf2, hw2⟩ := (show IsL CL H r2 _ _ from ir2)
      exact eq_go M.eT (hr.mono (by omega)) I hi ry (.inl ⟨r2, CL, dx2, _, rfl, hi2, .inr M.sTL⟩) ⟨r, .ref r2, _, _, _, _, rfl, ⟨dx, pt, pf, pd, pw, hi, hit, hf, hd, hw⟩, ok.fo, .inr ⟨⟨_, TyX.base (TyOf.ins hi2 kk.iL.cl kk.iL.ha kk.iL.hn kk.iL.htk kk.iL.hm), kk.lt⟩, z⟩⟩
    | sum ls' q' =>
      obtain ⟨dx2, pt2, pf2, pd2, pw2, hi2, hit2, hf2, hd2, hw2⟩ := (show IsT A CT H r2 _ _ _ _ from ir2)
      exact eq_go M.eT (hr.mono (by omega)) I hi ry (.inl ⟨r2, CT, dx2, _, rfl, hi2, .inl rfl⟩) ⟨r, .ref r2, _, _, _, _, rfl, ⟨dx, pt, pf, pd, pw, hi, hit, hf, hd, hw⟩, ok.fo, .inl ⟨r2, _, _, _, _, rfl, ⟨dx2, pt2, pf2, pd2, pw2, hi2, hit2, hf2, hd2, hw2⟩, uk.fo, z⟩⟩
    | pro xs' ys' q' =>
      obtain ⟨dx2, pt2, pl2, pr2, pf2, pw2, hi2, hit2, hl2, hrr2, hf2, hw2⟩ := (show IsP A CP H r2 _ _ _ _ _ from ir2)
      exact eq_go M.eT (hr.mono (by omega)) I hi ry (.inl ⟨r2, CP, dx2, _, rfl, hi2, .inr M.sTP⟩) ⟨r, .ref r2, _, _, _, _, rfl, ⟨dx, pt, pf, pd, pw, hi, hit, hf, hd, hw⟩, ok.fo, .inr ⟨⟨_, TyX.base (TyOf.ins hi2 kk.iP.cl kk.iP.ha kk.iP.hn kk.iP.htk kk.iP.hm), kk.pt⟩, z⟩⟩
  | pro xs ys q =>
    obtain ⟨dx, pt, pl, pr, pf, pw, hi, hit, hl, hrr, hf, hw⟩ := (show IsP A CP H r _ _ _ _ _ from ir)
    cases ud with
    | loo xs' =>
      obtain ⟨dx2, pf2, pw2, hi2, hf2, hw2⟩ := (show IsL CL H r2 _ _ from ir2)
      exact eq_go M.eP (hr.mono (by omega)) I hi ry (.inl ⟨r2, CL, dx2, _, rfl, hi2, .inr M.sPL⟩) ⟨r, .ref r2, _, _, _, _, _, rfl, ⟨dx, pt, pl, pr, pf, pw, hi, hit, hl, hrr, hf, hw⟩, ok.nm.left.f.srt, ok.nm.right.f.srt, ok.fo, .inr ⟨⟨_, TyX.base (TyOf.ins hi2 kk.iL.cl kk.iL.ha kk.iL.hn kk.iL.htk kk.iL.hm), kk.lp⟩, z⟩⟩
    | sum ls' q' =>
      obtain ⟨dx2, pt2, pf2, pd2, pw2, hi2, hit2, hf2, hd2, hw2⟩ := (show IsT A CT H r2 _ _ _ _ from ir2)
      exact eq_go M.eP (hr.mono (by omega)) I hi ry (.inl ⟨r2, CT, dx2, _, rfl, hi2, .inr M.sPT⟩) ⟨r, .ref r2, _, _, _, _, _, rfl, ⟨dx, pt, pl, pr, pf, pw, hi, hit, hl, hrr, hf, hw⟩, ok.nm.left.f.srt, ok.nm.right.f.srt, ok.fo, .inr ⟨⟨_, TyX.base (TyOf.ins hi2 kk.iT.cl kk.iT.ha kk.iT.hn kk.iT.htk kk.iT.hm), kk.tp⟩, z⟩⟩
    | pro xs' ys' q' =>
      obtain ⟨dx2, pt2, pl2, pr2, pf2, pw2, hi2, hit2, hl2, hrr2, hf2, hw2⟩ := (show IsP A CP H r2 _ _ _ _ _ from ir2)
      exact eq_go M.eP (hr.mono (by omega)) I hi ry (.inl ⟨r2, CP, dx2, _, rfl, hi2, .inl rfl⟩) ⟨r, .ref r2, _, _, _, _, _, rfl, ⟨dx, pt, pl, pr, pf, pw, hi, hit, hl, hrr, hf, hw⟩, ok.nm.left.f.srt, ok.nm.right.f.srt, ok.fo, .inl ⟨r2, _, _, _, _, _, rfl, ⟨dx2, pt2, pl2, pr2, pf2, pw2, hi2, hit2, hl2, hrr2, hf2, hw2⟩, uk.nm.left.f.srt, uk.nm.right.f.srt, uk.fo, z⟩⟩
theorem op_eqB (kk : KK X.K CT CP CL CR) (M : RM X.prog X.w X.K X.mg X.base A CT CP CL) (hr : Room (k + 3) X.A) : OpR X (compareOp .Eq) (rEqB A CT CP CL) := fun pins s σ H x y v u Q I rx ry h => by
  obtain ⟨r, td, os, T, rfl, ir, ok, bt, z⟩ := h
  cases (show v = Value.ref r from rx)
  cases td with
  | loo xs =>
    obtain ⟨dx, pf, pw, hi, hf, hw⟩ := (show IsL CL H r _ _ from ir)
    exact eq_go M.eL (hr.mono (by omega)) I hi ry (.inr ⟨T, bt⟩) ⟨r, y, _, _, rfl, ⟨dx, pf, pw, hi, hf, hw⟩, ok.fi, ok.fo, .inr ⟨⟨_, bt.ty, kit_no bt.mem M.cL M.kL⟩, z⟩⟩
  | sum ls q =>
    obtain ⟨dx, pt, pf, pd, pw, hi, hit, hf, hd, hw⟩ := (show IsT A CT H r _ _ _ _ from ir)
    exact eq_go M.eT (hr.mono (by omega)) I hi ry (.inr ⟨T, bt⟩) ⟨r, y, _, _, _, _, rfl, ⟨dx, pt, pf, pd, pw, hi, hit, hf, hd, hw⟩, ok.fo, .inr ⟨⟨_, bt.ty, kit_no bt.mem M.cT M.kT⟩, z⟩⟩
  | pro xs ys q =>
    obtain ⟨dx, pt, pl, pr, pf, pw, hi, hit, hl, hrr, hf, hw⟩ := (show IsP A CP H r _ _ _ _ _ from ir)
    exact eq_go M.eP (hr.mono (by omega)) I hi ry (.inr ⟨T, bt⟩) ⟨r, y, _, _, _, _, _, rfl, ⟨dx, pt, pl, pr, pf, pw, hi, hit, hl, hrr, hf, hw⟩, ok.nm.left.f.srt, ok.nm.right.f.srt, ok.fo, .inr ⟨⟨_, bt.ty, kit_no bt.mem M.cP M.kP⟩, z⟩⟩
theorem op_neR (M : RM X.prog X.w X.K X.mg X.base A CT CP CL) (hr : Room (k + 4) X.A) : OpR X (compareOp .NotEq) (rNeR A CT CP CL) := fun pins s σ H x y v u Q I rx ry h => by
  obtain ⟨r, r2, td, os, rfl, rfl, ir, ok, ir2, z⟩ := h
  cases (show v = Value.ref r from rx)
  cases (show u = Value.ref r2 from ry)
  have e : _root_.X.eqR td os td os = true := (_root_.X.eqR_like ok ok).trans (likeB_refl td os)
  cases td with
  | loo xs =>
    obtain ⟨dx, pf, pw, hi, hf, hw⟩ := (show IsL CL H r _ _ from ir)
    obtain ⟨dx2, pf2, pw2, hi2, hf2, hw2⟩ := (show IsL CL H r2 _ _ from ir2)
    exact ne_go (c := true) M.eL (hr.mono (by omega)) I hi hi2 ⟨r, .ref r2, _, _, rfl, ⟨dx, pf, pw, hi, hf, hw⟩, ok.fi, ok.fo, .inl ⟨r2, _, _, rfl, ⟨dx2, pf2, pw2, hi2, hf2, hw2⟩, ok.fi, ok.fo, congrArg V.bl e, rfl⟩⟩ z
  | sum ls q =>
    obtain ⟨dx, pt, pf, pd, pw, hi, hit, hf, hd, hw⟩ := (show IsT A CT H r _ _ _ _ from ir)
    obtain ⟨dx2, pt2, pf2, pd2, pw2, hi2, hit2, hf2, hd2, hw2⟩ := (show IsT A CT H r2 _ _ _ _ from ir2)
    exact ne_go (c := true) M.eT (hr.mono (by omega)) I hi hi2 ⟨r, .ref r2, _, _, _, _, rfl, ⟨dx, pt, pf, pd, pw, hi, hit, hf, hd, hw⟩, ok.fo, .inl ⟨r2, _, _, _, _, rfl, ⟨dx2, pt2, pf2, pd2, pw2, hi2, hit2, hf2, hd2, hw2⟩, ok.fo, congrArg V.bl e, rfl⟩⟩ z
  | pro xs ys q =>
    obtain ⟨dx, pt, pl, pr, pf, pw, hi, hit, hl, hrr, hf, hw⟩ := (show IsP A CP H r _ _ _ _ _ from ir)
    obtain ⟨dx2, pt2, pl2, pr2, pf2, pw2, hi2, hit2, hl2, hrr2, hf2, hw2⟩ := (show IsP A CP H r2 _ _ _ _ _ from ir2)
    exact ne_go (c := true) M.eP (hr.mono (by omega)) I hi hi2 ⟨r, .ref r2, _, _, _, _, _, rfl, ⟨dx, pt, pl, pr, pf, pw, hi, hit, hl, hrr, hf, hw⟩, ok.nm.left.f.srt, ok.nm.right.f.srt, ok.fo, .inl ⟨r2, _, _, _, _, _, rfl, ⟨dx2, pt2, pl2, pr2, pf2, pw2, hi2, hit2, hl2, hrr2, hf2, hw2⟩, ok.nm.left.f.srt, ok.nm.right.f.srt, ok.fo, congrArg V.bl e, rfl⟩⟩ z
end
end KD

set_option Elab.async false
set_option linter.all false
set_option maxRecDepth 100000
set_option maxHeartbeats 4000000
set_option exponentiation.threshold 20000
/-! _law_defaults_right. -/
namespace KD
open PySem PySem.Spec PyProof.Rows L2 Oo Gd Am KA SqX
/-- the makers by the places alone, the defaults filling up -/
structure RD (P : Program) (w : World) (K : W.Frag) (mg : Str → Option Value) (base : Heap) (A CT CP CL : Addr) : Prop where
  dT : ∃ fI fd ds, Mk K CT fI ∧ FnOk P w K mg base CX0 5 fI fd ["self", "weights", "total", "ways"] (spInT K A CT) ∧ Binds K fd ["self", "weights", "total", "ways"] ds ∧ Vals [V.int 0, V.non] ds
  dP1 : ∃ tp fI fd ds, Mk K CP fI ∧ FnOk P w K mg base CX0 5 fI fd nInP (spInP K A CP) ∧ Binds K fd nInP ds ∧ Vals [V.ref tp, V.int 1, V.non] ds ∧ ∀ H, SeqH K H tp []
  dP2 : ∃ fI fd ds, Mk K CP fI ∧ FnOk P w K mg base CX0 5 fI fd nInP (spInP K A CP) ∧ Binds K fd nInP ds ∧ Vals [V.int 1, V.non] ds
  dL : ∃ fI fd ds, Mk K CL fI ∧ FnOk P w K mg base CX0 4 fI fd ["self", "fields", "ways"] (spInL K CL) ∧ Binds K fd ["self", "fields", "ways"] ds ∧ Vals [V.non] ds
section
variable {P : Program} {w : World} {K : W.Frag} {mg : Str → Option Value} {base : Heap} {f A C CT CP CL CR : Addr} {fd : FuncData} {t t2 t3 : Tok}
def spDfl : Sp := fun vs H Q _ => ∃ (a : Addr) (spots : List Str), vs = [.ref a] ∧ Ls H a spots ∧ Nms spots ∧ 2 ≤ spots.length ∧ ∀ H', Am.Ext H H' → Q (.bl true) H'
abbrev nDfl : List Str := ["_law_spots", "_law_some_here", "_law_due", "_law_at"]
theorem scDfl : FnScope nDfl ["_law_spots"] (defScope (top 61)) := ⟨rfl, rfl, rfl, by decide +kernel, rfl, by decide +kernel, by decide +kernel⟩
/-- two rules of one tie -/
structure Two (A CT CP CL : Addr) (H : Hp) (r r2 : Addr) (td : TD) (os : List Str) : Prop where
  a : IsRule A CT CP CL H r td os
  b : IsRule A CT CP CL H r2 td os
  ok : TdOk td os
theorem Two.ext {H H' : Hp} {r r2 : Addr} {td : TD} {os : List Str} (e : Am.Ext H H') (h : Two A CT CP CL H r r2 td os) : Two A CT CP CL H' r r2 td os := ⟨h.a.ext e, h.b.ext e, h.ok⟩
theorem rule_os {H : Hp} {r : Addr} {td : TD} {os us : List Str} (e : srt os = srt us) (h : IsRule A CT CP CL H r td os) : IsRule A CT CP CL H r td us := by
  cases td with
  | loo xs => exact (show IsL CL H r (srt xs) (srt us) from e ▸ h)
  | sum ls q => exact (show IsT A CT H r q (ordW ls) (srt (ls.map (·.1))) (srt us) from e ▸ h)
  | pro xs ys q => exact (show IsP A CP H r q (srt xs) (srt ys) (srt (xs ++ ys)) (srt us) from e ▸ h)
theorem low1 (i : Int) (h : i.natAbs < 2 ^ 100) : Low 200 ((i : Int) : Rat) := by
  refine ⟨?_, ?_⟩
  · rw [Rat.num_intCast]
    exact Nat.lt_trans h (by decide)
  · rw [Rat.den_intCast]
    decide
/-- how the pairs of rules are told one by one -/
def Fours (A CT CP CL : Addr) (H : Hp) (xs ys : List V) : Prop := ∀ i : Nat, i < 4 → ∃ (r r2 : Addr) (td : TD) (os : List Str), xs[i]? = some (.ref r) ∧ ys[i]? = some (.ref r2) ∧ Two A CT CP CL H r r2 td os
theorem ok_dfl (fr : Frees mg) (B : Base P w K mg base A) (R : RC P w K mg base A CT CP CL) (D : RD P w K mg base A CT CP CL) (kk : KK K CT CP CL CR) (M : RM P w K mg base A CT CP CL)
    (F : Fun K "_law_defaults_right" "_law_defaults_right" (top 61) f fd) : FnOk P w K mg base CX0 8 f fd ["_law_spots"] spDfl := by
  refine F.ok scDfl (fun vs H Q E h => ?_) (fun cdv A' outer s H vs Q E hr h => ?_)
  · obtain ⟨a, spots, rfl, _⟩ := h
    rfl
  · obtain ⟨a, spots, rfl, ha, nm, l2, z⟩ := h
    have nd := scDfl.nd
    have isk : IsK K := ⟨trivial⟩
    have big := big_ln
    obtain ⟨tI, tfd, MT, FT, BT, _⟩ := R.kT
    obtain ⟨pI, pfd, MP, FP, BP, _⟩ := R.kP
    obtain ⟨lI, lfd, ML, FL, BL, _⟩ := R.kL
    obtain ⟨tI1, tfd1, tds, MT1, FT1, BT1, VT1⟩ := D.dT
    obtain ⟨tp, pI1, pfd1, pds, MP1, FP1, BP1, VP1, tpe⟩ := D.dP1
    obtain ⟨pI2, pfd2, pds2, MP2, FP2, BP2, VP2⟩ := D.dP2
    obtain ⟨lI1, lfd1, lds, ML1, FL1, BL1, VL1⟩ := D.dL
    refine ⟨_, pss_cons (ps_set (i := 1) nd rfl (.inr rfl) (pe_lst (pa_cons (pe_make MT1 FT1 (hr.mono (by decide)) rfl R.mT BT1 VT1 pass0 (pa_cons (pe_disp (pps_cons (pe_ix (ixK isk) (pv 0) pe_int (fun _ _ => rfl)) pe_int pps_nil) rfl rfl (fun z => by cases z) (by decide)) pa_nil))
        (pa_cons (pe_make MP1 FP1 (hr.mono (by decide)) rfl R.mP BP1 VP1 pass0 (pa_cons (pe_lst (pa_cons (pe_ix (ixK isk) (pv 0) pe_int (fun _ _ => rfl)) pa_nil)) pa_nil))
        (pa_cons (pe_make MP2 FP2 (hr.mono (by decide)) rfl R.mP BP2 VP2 pass0 (pa_cons (pe_lst (pa_cons (pe_ix (ixK isk) (pv 0) pe_int (fun _ _ => rfl)) pa_nil)) (pa_cons (pe_lst (pa_cons (pe_ix (ixK isk) (pv 0) pe_int (fun _ _ => rfl)) pa_nil)) pa_nil)))
        (pa_cons (pe_make ML1 FL1 (hr.mono (by decide)) rfl R.mL BL1 VL1 pass0 (pa_cons (pe_lst (pa_cons (pe_ix (ixK isk) (pv 0) pe_int (fun _ _ => rfl)) pa_nil)) pa_nil)) pa_nil))))))
      (pss_cons (ps_set (i := 2) nd rfl (.inr rfl) (pe_lst (pa_cons (pe_makeK MT FT (hr.mono (by decide)) rfl R.mT BT pass0 (pa_cons (pe_disp (pps_cons (pe_ix (ixK isk) (pv 0) pe_int (fun _ _ => rfl)) pe_int pps_nil) rfl rfl (fun z => by cases z) (by decide)) (pa_cons pe_int pa_nil)) (pk_cons (pe_lst (pa_cons (pe_ix (ixK isk) (pv 0) pe_int (fun _ _ => rfl)) pa_nil)) pk_nil))
        (pa_cons (pe_makeK MP FP (hr.mono (by decide)) rfl R.mP BP pass0 (pa_cons (pe_lst (pa_cons (pe_ix (ixK isk) (pv 0) pe_int (fun _ _ => rfl)) pa_nil)) (pa_cons (pe_lst pa_nil) (pa_cons pe_int pa_nil))) (pk_cons (pe_lst (pa_cons (pe_ix (ixK isk) (pv 0) pe_int (fun _ _ => rfl)) pa_nil)) pk_nil)) pa_nil))))
      (pss_cons (ps_set (i := 2) nd rfl (.inr rfl) (pe_op op_addA (pv 2) (pe_lst (pa_cons (pe_makeK MP FP (hr.mono (by decide)) rfl R.mP BP pass0 (pa_cons (pe_lst (pa_cons (pe_ix (ixK isk) (pv 0) pe_int (fun _ _ => rfl)) pa_nil)) (pa_cons (pe_lst (pa_cons (pe_ix (ixK isk) (pv 0) pe_int (fun _ _ => rfl)) pa_nil)) (pa_cons (pe_mk1 B (hr.mono (by decide)) rfl (pa_cons pe_int pa_nil)) pa_nil)))
          (pk_cons (pe_lst (pa_cons (pe_ix (ixK isk) (pv 0) pe_int (fun _ _ => rfl)) (pa_cons (pe_ix (ixK isk) (pv 0) pe_int (fun _ _ => rfl)) pa_nil))) pk_nil)) pa_nil))))
      (pss_cons (ps_expr (pe_bm PySem.F.plainAttrs_list PySem.F.slot_list_append PySem.F.type_list_append mt_append (pv 2) (pa_cons (pe_makeK ML FL (hr.mono (by decide)) rfl R.mL BL pass0 (pa_cons (pe_lst (pa_cons (pe_ix (ixK isk) (pv 0) pe_int (fun _ _ => rfl)) pa_nil)) pa_nil) (pk_cons (pe_lst (pa_cons (pe_ix (ixK isk) (pv 0) pe_int (fun _ _ => rfl)) pa_nil)) pk_nil)) pa_nil)))
      (pss_one (ps_ret (pe_callB (allK isk rfl) rfl (fr.h _ (by decide +kernel)) (by decide +kernel) (pa_cons (pe_lc (own := [("_law_at", 3)]) (g := gName 3) (tt := tYes) rfl nd (pi_range1 rfl (fr.h _ (by decide +kernel)) (pa_cons pe_int pa_nil)) (blkOk_by (N := nDfl) (sc := defScope (top 61)) (by decide +kernel)) (fun _ _ _ _ _ => pg_name (i := 3) nd rfl (Or.inl rfl)) (fun _ _ _ _ _ => pts_nil)
          (fun s1 H1 C1 c1 f1 => by exact pe_and (pe_cmpR (op_eqR (k := 0) (A := A) kk M (hr.mono (by decide))) (pe_ix (ixK isk) (pv 1) (pv 3) (fun _ _ => rfl)) (pe_ix (ixK isk) (pv 2) (pv 3) (fun _ _ => rfl)) (by rfl)) (pe_one (pe_not (pe_cmpR (op_neR (k := 0) (A := A) M (hr.mono (by decide))) (pe_ix (ixK isk) (pv 1) (pv 3) (fun _ _ => rfl)) (pe_ix (ixK isk) (pv 2) (pv 3) (fun _ _ => rfl)) (by rfl)))))) pa_nil))))))), ?_⟩
    obtain ⟨x0, x1, rest, rfl⟩ : ∃ x0 x1 rest, spots = x0 :: x1 :: rest := by
      match spots, l2 with
      | x :: y :: r, _ => exact ⟨x, y, r, rfl⟩
    have e0 : ((x0 :: x1 :: rest).map V.str)[0]? = some (.str x0) := rfl
    have e1 : ((x0 :: x1 :: rest).map V.str)[1]? = some (.str x1) := rfl
    have o0 : nameB x0 = true := nm.ok x0 List.mem_cons_self
    have o1 : nameB x1 = true := nm.ok x1 (List.mem_cons_of_mem _ List.mem_cons_self)
    have d01 : x0 ≠ x1 := fun e => (List.nodup_cons.mp nm.nd).1 (e ▸ List.mem_cons_self)
    have n1 : Nms [x0] := ⟨fun x hx => by rw [List.mem_singleton] at hx; rw [hx]; exact o0, by simp, (by show 1 < 64; decide)⟩
    have n2 : Nms ([x0] ++ [x1]) := ⟨fun x hx => by
      simp at hx
      rcases hx with rfl | rfl
      · exact o0
      · exact o1, by simp [d01], (by show 2 < 64; decide)⟩
    have w3 : ∀ p ∈ [(x0, (3 : Int))], p.2 ≠ 0 := fun p hp => by rw [List.mem_singleton] at hp; rw [hp]; show (3 : Int) ≠ 0; decide
    have w3' : ∀ p ∈ [(x0, (3 : Int))], p.2 ≠ 0 ∧ p.2.natAbs < 2 ^ 150 := fun p hp => ⟨w3 p hp, by rw [List.mem_singleton] at hp; rw [hp]; show (3 : Int).natAbs < 2 ^ 150; decide⟩
    have s0 : Sz ((0 : Int) : Rat) := ⟨by decide, by decide⟩
    have s1 : Sz ((1 : Int) : Rat) := ⟨by decide, by decide⟩
    have q1 : ((1 : Int) : Rat) ≠ 0 := by decide
    have kT : TdOk (.sum [(x0, 3)] ((0 : Int) : Rat)) [x0] := ⟨n1, by simp [TD.ins], by simp, fun o ho => ho, by simp, w3', low1 0 (by decide)⟩
    have kP : TdOk (.pro [x0] [] ((1 : Int) : Rat)) [x0] := ⟨n1, by simp [TD.ins], by simp, fun o ho => ho, by simp, q1, low1 1 (by decide)⟩
    have kP2 : TdOk (.pro [x0] [x1] ((1 : Int) : Rat)) [x1, x0] := ⟨n2, by simp [TD.ins], by simp [Ne.symm d01], fun o ho => by simp [TD.ins] at ho ⊢; exact ho.symm, by simp, q1, low1 1 (by decide)⟩
    have kL : TdOk (.loo [x0]) [x0] := ⟨n1, by simp [TD.ins], by simp, fun o ho => ho, by simp, trivial⟩
    have perm2 : srt [x1, x0] = srt ([x0] ++ [x1]) := srt_of_perm (List.Perm.swap x0 x1 [])
    have wdk : mergeK [] [(Sum.inr x0, V.int 3)] = wts [(x0, 3)] := rfl
    have way1 : ∀ {H' : Hp} {L : Addr}, Ls H' L [x0] → WaysV K H' (.ref L) (srt [x0]) (srt [x0]) := fun h => ways_os h (srt_mem _) (by simp) (by simp) (fun o ho => ho) (by show 1 ≤ 100; decide)
    have way2 : ∀ {H' : Hp} {L : Addr}, Ls H' L [x1, x0] → WaysV K H' (.ref L) (srt ([x0] ++ [x1])) (srt [x1, x0]) := fun h => ways_os h (srt_mem _) (by simp) kP2.od kP2.oi (by show 2 ≤ 100; decide)
    -- the rules with the defaults
    refine fun d hd => ⟨_, rfl, .inl ⟨a, _, 0, _, rfl, rfl, SqL.of (Am.Ext.new hd _ _ ha), atI_nat (j := 0) e0, upd_same, [(Sum.inr x0, .int 3)], rfl, (by show 1 ≤ 15; decide), ?_⟩⟩
    rw [upd_upd, wdk]
    have xd := Am.Ext.new (o := .dK (wts [(x0, 3)])) hd
    refine inT_q (CT := CT) (CP := CP) (CL := CL) (A := A) (ls := [(x0, 3)]) (q := ((0 : Int) : Rat)) (os := [x0]) upd_same n1 (by simp) w3 (Num.int 0) s0 (.inl ⟨rfl, rfl⟩) (fun r1 H1 f1 g1 i1 _ => ?_)
    have E1 := xd.trans f1
    refine ⟨_, rfl, .inl ⟨a, _, 0, _, rfl, rfl, SqL.of (E1 _ _ ha), atI_nat (j := 0) e0, (by show 1 ≤ sizeLine; decide), fun L2 h2 => ?_⟩⟩
    have x2 := Am.Ext.new (o := .lst [.str x0]) h2
    refine inP_q (CT := CT) (CP := CP) (CL := CL) (A := A) (xs := [x0]) (ys := []) (q := ((1 : Int) : Rat)) (os := [x0]) (.inl upd_same) (tpe _) n1 (by simp) (Num.int 1) s1 q1 (.inl ⟨rfl, rfl⟩) (fun r2 H2 f2 g2 i2 _ => ?_)
    have E12 := x2.trans f2
    have E2 := E1.trans E12
    replace i1 := i1.ext E12
    refine ⟨_, rfl, .inl ⟨a, _, 0, _, rfl, rfl, SqL.of (E2 _ _ ha), atI_nat (j := 0) e0, (by show 1 ≤ sizeLine; decide), fun L3 h3 => ?_⟩⟩
    have x3 := Am.Ext.new (o := .lst [.str x0]) h3
    refine ⟨_, rfl, .inl ⟨a, _, 1, _, rfl, rfl, SqL.of (x3 _ _ (E2 _ _ ha)), atI_nat (j := 1) e1, (by show 1 ≤ sizeLine; decide), fun L4 h4 => ?_⟩⟩
    have x4 := Am.Ext.new (o := .lst [.str x1]) h4
    refine inP_q (CT := CT) (CP := CP) (CL := CL) (A := A) (xs := [x0]) (ys := [x1]) (q := ((1 : Int) : Rat)) (os := [x1, x0]) (.inl (x4 _ _ upd_same)) (.inl upd_same) n2 (by simp) (Num.int 1) s1 q1 (.inl ⟨rfl, perm2⟩) (fun r3 H3 f3 g3 i3 _ => ?_)
    have E23 := (x3.trans x4).trans f3
    have E3 := E2.trans E23
    replace i1 := i1.ext E23
    replace i2 := i2.ext E23
    refine ⟨_, rfl, .inl ⟨a, _, 0, _, rfl, rfl, SqL.of (E3 _ _ ha), atI_nat (j := 0) e0, (by show 1 ≤ sizeLine; decide), fun L5 h5 => ?_⟩⟩
    have x5 := Am.Ext.new (o := .lst [.str x0]) h5
    refine inL_q (CT := CT) (CP := CP) (CL := CL) (A := A) (xs := [x0]) (os := [x0]) (.inl upd_same) n1 (by simp) (.inl ⟨rfl, rfl⟩) (fun r4 H4 f4 g4 i4 _ => ?_)
    have E34 := x5.trans f4
    replace i1 := i1.ext E34
    replace i2 := i2.ext E34
    replace i3 := i3.ext E34
    refine ⟨(by show 4 ≤ sizeLine; decide), fun S hS => ?_⟩
    have xS := Am.Ext.new (o := .lst [.ref r1, .ref r2, .ref r3, .ref r4]) hS
    have ES := (E3.trans E34).trans xS
    have hSv : upd H4 S (.lst [.ref r1, .ref r2, .ref r3, .ref r4]) S = some (.lst [.ref r1, .ref r2, .ref r3, .ref r4]) := upd_same
    replace i1 := i1.ext xS
    replace i2 := i2.ext xS
    replace i3 := i3.ext xS
    replace i4 := i4.ext xS
    generalize upd H4 S (.lst [.ref r1, .ref r2, .ref r3, .ref r4]) = HS at ES hSv i1 i2 i3 i4 ⊢
    -- the same ones, all told
    refine fun d' hd' => ⟨_, rfl, .inl ⟨a, _, 0, _, rfl, rfl, SqL.of (Am.Ext.new hd' _ _ (ES _ _ ha)), atI_nat (j := 0) e0, upd_same, [(Sum.inr x0, .int 3)], rfl, (by show 1 ≤ 15; decide), ?_⟩⟩
    rw [upd_upd, wdk]
    have xd' := Am.Ext.new (o := .dK (wts [(x0, 3)])) hd'
    have hdv : upd HS d' (.dK (wts [(x0, 3)])) d' = some (.dK (wts [(x0, 3)])) := upd_same
    generalize upd HS d' (.dK (wts [(x0, 3)])) = HD at xd' hdv ⊢
    refine ⟨_, rfl, .inl ⟨a, _, 0, _, rfl, rfl, SqL.of (xd' _ _ (ES _ _ ha)), atI_nat (j := 0) e0, (by show 1 ≤ sizeLine; decide), fun L6 h6 => ⟨rfl, rfl, ?_⟩⟩⟩
    have x6 := Am.Ext.new (o := .lst [.str x0]) h6
    refine inT_q (CT := CT) (CP := CP) (CL := CL) (A := A) (ls := [(x0, 3)]) (q := ((0 : Int) : Rat)) (os := [x0]) (x6 _ _ hdv) n1 (by simp) w3 (Num.int 0) s0 (way1 upd_same) (fun u1 H5 f5 g5 j1 _ => ?_)
    have ES5 := (xd'.trans x6).trans f5
    have E5 := ES.trans ES5
    refine ⟨_, rfl, .inl ⟨a, _, 0, _, rfl, rfl, SqL.of (E5 _ _ ha), atI_nat (j := 0) e0, (by show 1 ≤ sizeLine; decide), fun L7 h7 => ⟨(by show 0 ≤ sizeLine; decide), fun L8 h8 => ?_⟩⟩⟩
    have x7 := Am.Ext.new (o := .lst [.str x0]) h7
    have x8 := Am.Ext.new (o := .lst []) h8
    have x78 := x7.trans x8
    refine ⟨_, rfl, .inl ⟨a, _, 0, _, rfl, rfl, SqL.of (x78 _ _ (E5 _ _ ha)), atI_nat (j := 0) e0, (by show 1 ≤ sizeLine; decide), fun L9 h9 => ⟨rfl, rfl, ?_⟩⟩⟩
    have x9 := Am.Ext.new (o := .lst [.str x0]) h9
    refine inP_q (CT := CT) (CP := CP) (CL := CL) (A := A) (xs := [x0]) (ys := []) (q := ((1 : Int) : Rat)) (os := [x0]) (.inl (x9 _ _ (x8 _ _ upd_same))) (.inl (x9 _ _ upd_same)) n1 (by simp) (Num.int 1) s1 q1 (way1 upd_same) (fun u2 H6 f6 g6 j2 _ => ?_)
    have E56 := (x78.trans x9).trans f6
    replace j1 := j1.ext E56
    refine ⟨(by show 2 ≤ sizeLine; decide), fun D1 hD1 => ?_⟩
    have xD1 := Am.Ext.new (o := .lst [.ref u1, .ref u2]) hD1
    have ESD := (ES5.trans E56).trans xD1
    have hD1v : upd H6 D1 (.lst [.ref u1, .ref u2]) D1 = some (.lst [.ref u1, .ref u2]) := upd_same
    replace j1 := j1.ext xD1
    replace j2 := j2.ext xD1
    generalize upd H6 D1 (.lst [.ref u1, .ref u2]) = H7 at ESD hD1v j1 j2 ⊢
    have E7 := ES.trans ESD
    refine ⟨_, rfl, _, rfl, .inl ⟨a, _, 0, _, rfl, rfl, SqL.of (E7 _ _ ha), atI_nat (j := 0) e0, (by show 1 ≤ sizeLine; decide), fun L10 h10 => ?_⟩⟩
    have x10 := Am.Ext.new (o := .lst [.str x0]) h10
    refine ⟨_, rfl, .inl ⟨a, _, 1, _, rfl, rfl, SqL.of (x10 _ _ (E7 _ _ ha)), atI_nat (j := 1) e1, (by show 1 ≤ sizeLine; decide), fun L11 h11 => ?_⟩⟩
    have x11 := x10.trans (Am.Ext.new (o := .lst [.str x1]) h11)
    have l10 := Am.Ext.new (o := .lst [.str x1]) h11 _ _ (upd_same (H := H7) (a := L10) (o := .lst [.str x0]))
    have l11 : upd (upd H7 L10 (.lst [.str x0])) L11 (.lst [.str x1]) L11 = some (.lst [.str x1]) := upd_same
    generalize upd (upd H7 L10 (.lst [.str x0])) L11 (.lst [.str x1]) = H8 at x11 l10 l11 ⊢
    refine ⟨1, rfl, (by decide), fun am H9 f9 g9 ia => ?_⟩
    have x19 := x11.trans f9
    refine ⟨_, rfl, .inl ⟨a, _, 1, _, rfl, rfl, SqL.of (x19 _ _ (E7 _ _ ha)), atI_nat (j := 1) e1, _, rfl, .inl ⟨a, _, 0, _, rfl, rfl, SqL.of (x19 _ _ (E7 _ _ ha)), atI_nat (j := 0) e0, (by show 2 ≤ sizeLine; decide), fun L12 h12 => ⟨rfl, rfl, ?_⟩⟩⟩⟩
    have x12 := Am.Ext.new (o := .lst [.str x1, .str x0]) h12
    refine inP_q (CT := CT) (CP := CP) (CL := CL) (A := A) (xs := [x0]) (ys := [x1]) (q := ((1 : Int) : Rat)) (os := [x1, x0]) (.inl (x12 _ _ (f9 _ _ l10))) (.inl (x12 _ _ (f9 _ _ l11))) n2 (by simp) (.inr ⟨am, rfl, ia.ext x12⟩) s1 q1 (way2 upd_same) (fun u3 H10 f10 g10 j3 _ => ?_)
    have E710 := (x19.trans x12).trans f10
    refine ⟨(by show 1 ≤ sizeLine; decide), fun D2 hD2 => ?_⟩
    have xD2 := Am.Ext.new (o := .lst [.ref u3]) hD2
    have E7D := E710.trans xD2
    refine .inr (.inr ⟨D1, D2, _, _, rfl, rfl, E7D _ _ hD1v, upd_same, (by show 2 + 1 ≤ sizeLine; decide), fun D3 hD3 => ?_⟩)
    have xD3 := Am.Ext.new (o := .lst ([.ref u1, .ref u2] ++ [.ref u3])) hD3
    have E7E := E7D.trans xD3
    have hD3v : upd (upd H10 D2 (.lst [.ref u3])) D3 (.lst ([.ref u1, .ref u2] ++ [.ref u3])) D3 = some (.lst ([.ref u1, .ref u2] ++ [.ref u3])) := upd_same
    have D30 : HS D3 = none := (ESD.trans E7D).gone hD3
    replace j1 := j1.ext E7E
    replace j2 := j2.ext E7E
    replace j3 := (j3.ext xD2).ext xD3
    generalize upd (upd H10 D2 (.lst [.ref u3])) D3 (.lst ([.ref u1, .ref u2] ++ [.ref u3])) = H11 at E7E hD3v j1 j2 j3 ⊢
    have E11 := E7.trans E7E
    refine ⟨_, rfl, .inl ⟨rfl, _, SqL.of hD3v⟩, _, rfl, .inl ⟨a, _, 0, _, rfl, rfl, SqL.of (E11 _ _ ha), atI_nat (j := 0) e0, (by show 1 ≤ sizeLine; decide), fun L13 h13 => ?_⟩⟩
    have x13 := Am.Ext.new (o := .lst [.str x0]) h13
    refine ⟨_, rfl, .inl ⟨a, _, 0, _, rfl, rfl, SqL.of (x13 _ _ (E11 _ _ ha)), atI_nat (j := 0) e0, (by show 1 ≤ sizeLine; decide), fun L14 h14 => ⟨rfl, rfl, ?_⟩⟩⟩
    have x14 := Am.Ext.new (o := .lst [.str x0]) h14
    refine inL_q (CT := CT) (CP := CP) (CL := CL) (A := A) (xs := [x0]) (os := [x0]) (.inl (x14 _ _ upd_same)) n1 (by simp) (way1 upd_same) (fun u4 H12 f12 g12 j4 _ => ?_)
    have E112 := (x13.trans x14).trans f12
    have hD12 := E112 _ _ hD3v
    refine ⟨D3, _, _, rfl, rfl, hD12, (by show 3 < sizeLine; decide), ?_⟩
    have IL : ∀ {r : Addr} {td : TD} {os : List Str}, IsRule A CT CP CL H12 r td os → IsRule A CT CP CL (upd H12 D3 (.lst ([.ref u1, .ref u2] ++ [.ref u3] ++ [.ref u4]))) r td os := fun h => h.lst hD12
    have ESf : Am.Ext HS (upd H12 D3 (.lst ([.ref u1, .ref u2] ++ [.ref u3] ++ [.ref u4]))) := ext_off (((ESD.trans E7E)).trans E112) D30
    have E0f := ES.trans ESf
    have hDf : upd H12 D3 (.lst ([.ref u1, .ref u2] ++ [.ref u3] ++ [.ref u4])) D3 = some (.lst [.ref u1, .ref u2, .ref u3, .ref u4]) := upd_same
    have four : Fours A CT CP CL (upd H12 D3 (.lst ([.ref u1, .ref u2] ++ [.ref u3] ++ [.ref u4]))) [.ref r1, .ref r2, .ref r3, .ref r4] [.ref u1, .ref u2, .ref u3, .ref u4] := fun i hi => by
      match i, hi with
      | 0, _ => exact ⟨r1, u1, _, _, rfl, rfl, i1.ext ESf, IL (j1.ext E112), kT⟩
      | 1, _ => exact ⟨r2, u2, _, _, rfl, rfl, i2.ext ESf, IL (j2.ext E112), kP⟩
      | 2, _ => exact ⟨r3, u3, _, _, rfl, rfl, i3.ext ESf, IL (j3.ext E112), kP2⟩
      | 3, _ => exact ⟨r4, u4, _, _, rfl, rfl, i4.ext ESf, IL j4, kL⟩
    have hSf := ESf _ _ hSv
    generalize upd H12 D3 (.lst ([.ref u1, .ref u2] ++ [.ref u3] ++ [.ref u4])) = Hf at E0f hDf four hSf ⊢
    have is4 : ([.ref r1, .ref r2, .ref r3, .ref r4] : List V).length = 4 := rfl
    generalize ([.ref r1, .ref r2, .ref r3, .ref r4] : List V) = us at hSf four
    generalize ([.ref u1, .ref u2, .ref u3, .ref u4] : List V) = ws at hDf four
    refine ⟨4, rfl, (by decide), (by decide), fun D hD => ?_⟩
    refine lc_range (lo := 0) (n := 4) (fun i H' => Am.Ext Hf H' ∧ H' D = some (.lst ((List.replicate i true).map V.bl))) ⟨Am.Ext.new hD, upd_same⟩ ?_ ?_
    · rintro i H' hi ⟨e, d⟩
      obtain ⟨r, r2, td, os, h1, h2, tw⟩ := four i hi
      have tw' := tw.ext e
      have a1 : atI us ((0 : Int) + (i : Int)) = some (.ref r) := by rw [Int.zero_add]; exact atI_nat h1
      have a2 : atI ws ((0 : Int) + (i : Int)) = some (.ref r2) := by rw [Int.zero_add]; exact atI_nat h2
      refine ⟨rfl, _, rfl, _, rfl, .inl ⟨S, us, _, _, rfl, rfl, SqL.of (e _ _ hSf), a1, _, rfl, _, rfl, .inl ⟨D3, ws, _, _, rfl, rfl, SqL.of (e _ _ hDf), a2, r, r2, td, td, os, os, rfl, rfl, tw'.a, tw'.ok, tw'.b, tw'.ok, ?_⟩⟩⟩
      rw [likeB_refl]
      refine ⟨true, rfl, iteT ?_⟩
      refine ⟨_, rfl, _, rfl, .inl ⟨S, us, _, _, rfl, rfl, SqL.of (e _ _ hSf), a1, _, rfl, _, rfl, .inl ⟨D3, ws, _, _, rfl, rfl, SqL.of (e _ _ hDf), a2, r, r2, td, os, rfl, rfl, tw'.a, tw'.ok, tw'.b, false, rfl, ?_⟩⟩⟩
      refine ⟨_, d, ?_, ext_off e hD, ?_⟩
      · rw [List.length_map, List.length_replicate]
        omega
      · rw [upd_same, List.replicate_succ', List.map_append]
        rfl
    · rintro H' ⟨e, d⟩
      refine ⟨D, List.replicate 4 true, rfl, SqL.of d, ?_⟩
      exact z H' (E0f.trans e)
end
end KD

set_option Elab.async false
set_option linter.all false
set_option maxRecDepth 100000
set_option maxHeartbeats 4000000
set_option exponentiation.threshold 20000
/-! _law_long_right. -/
namespace KD
open PySem PySem.Spec PyProof.Rows L2 Oo Gd Am KA SqX
theorem str_ne {H : Hp} {a b r : Addr} {xs : List Str} {rs : List V} (ha : Ls H a xs) (ne : xs ≠ []) (hb : H b = some (.lst (V.ref r :: rs))) : a ≠ b := fun e => by
  have h' : H b = some (.lst (xs.map V.str)) := by rw [← e]; exact ha
  rw [hb] at h'
  have := Option.some.inj h'
  injection this with e2
  cases xs with
  | nil => exact ne rfl
  | cons x r => rw [List.map_cons] at e2; injection e2 with e3; cases e3
theorem Ls.put {H : Hp} {a b r : Addr} {xs : List Str} {rs : List V} {o : HO} (ha : Ls H a xs) (ne : xs ≠ []) (hb : H b = some (.lst (V.ref r :: rs))) : Ls (upd H b o) a xs := by
  show upd _ _ _ _ = _
  rw [upd_ne (str_ne ha ne hb)]
  exact ha
theorem tup_put {H : Hp} {a b : Addr} {xs ys : List V} {o : HO} (ha : H a = some (.tup xs)) (hb : H b = some (.lst ys)) : upd H b o a = some (.tup xs) := by
  rw [upd_ne (ne_of ha hb (fun e => nomatch e))]
  exact ha
theorem TieAt.put {H : Hp} {t b r : Addr} {td : TD} {os : List Str} {rs : List V} {o : HO} (h : TieAt H t td os) (hb : H b = some (.lst (V.ref r :: rs))) (no : os ≠ []) (nt : match td with | .loo xs => xs ≠ [] | .pro xs ys _ => xs ≠ [] ∧ ys ≠ [] | .sum _ _ => False) : TieAt (upd H b o) t td os := by
  obtain ⟨po, ho, h⟩ := h
  cases td with
  | loo xs => obtain ⟨px, a, c⟩ := h; exact ⟨po, ho.put no hb, px, Ls.put a nt hb, tup_put c hb⟩
  | sum ls q => exact nt.elim
  | pro xs ys q => obtain ⟨pp, px, py, pq, a, c, d, e, f⟩ := h; exact ⟨po, ho.put no hb, pp, px, py, pq, Ls.put a nt.1 hb, Ls.put c nt.2 hb, tup_put d hb, tup_put e hb, tup_put f hb⟩
section
variable {P : Program} {w : World} {K : W.Frag} {mg : Str → Option Value} {base : Heap} {f A C CT CP CL CR : Addr} {fd : FuncData} {t t2 t3 : Tok}
def spPK : Sp := fun vs H Q _ => ∃ p : Addr, vs = [.ref p] ∧ Pot H p ∧ ∀ H', Kp p H H' → Q (.bl true) H'
abbrev nLong : List Str := ["_law_pot_here", "_law_spots", "_law_cut", "_law_ties", "_law_spot", "_law_tie"]
theorem scLong : FnScope nLong ["_law_pot_here"] (defScope (top 62)) := ⟨rfl, rfl, rfl, by decide +kernel, rfl, by decide +kernel, by decide +kernel⟩
theorem ok_long (fr : Frees mg) (D1 : DnD P w K mg base) (DN : Dn P w K mg base CX0 3 "_law_named" ["_law_pot_here", "_law_size", "_law_taken"] (spNamed K)) (DW : Dn P w K mg base CX0 3 "_law_weight" ["_law_pot_here"] spWei) (DF : Dn P w K mg base CX0 3 "_law_fraction" ["_law_pot_here"] spFrac)
    (DX : Dn P w K mg base CX0 7 "_law_rule" ["_law_tie"] (spRule A CT CP CL)) (DR : DnG P w K mg base 7 "_law_is_right" ["_law_tie", "_law_rule_here"] (spIsr A CT CP CL))
    (F : Fun K "_law_long_right" "_law_long_right" (top 62) f fd) : FnG P w K mg base CX0 8 f fd ["_law_pot_here"] spPK := by
  refine Gd.okG F scLong (fun vs H Q E h => ?_) (fun cdv A' outer s H vs Q E hG hr h => ?_)
  · obtain ⟨p, rfl, _⟩ := h
    rfl
  · obtain ⟨p, rfl, hp, z⟩ := h
    have nd := scLong.nd
    have isk : IsK K := ⟨trivial⟩
    have big : (1000000 : Nat) ≤ sizeLine := by decide
    refine ⟨_, pss_cons (ps_set (i := 1) nd rfl (.inl rfl) (pe_dn DN hr (by rfl) (by decide) (pa_cons (pv 0) (pa_cons (pe_op op_add pe_int (pe_dn D1 hr (by rfl) (by decide) (pa_cons (pv 0) (pa_cons pe_int pa_nil)))) (pa_cons (pe_lst pa_nil) pa_nil)))))
      (pss_cons (ps_set (i := 2) nd rfl (.inl rfl) (pe_op op_add pe_int (pe_dn D1 hr (by rfl) (by decide) (pa_cons (pv 0) (pa_cons (pe_op op_sub (pe_callB (lenK isk) rfl (fr.h _ (by decide +kernel)) (by decide +kernel) (pa_cons (pv 1) pa_nil)) pe_int) pa_nil)))))
      (pss_cons (ps_set (i := 3) nd rfl (.inl rfl) (pe_lst (pa_cons (pe_tup (pa_cons pe_str (pa_cons (pe_lc (own := [("_law_spot", 4)]) (g := gName 4) (tt := tYes) rfl nd (pi_list (pv 1)) (blkOk_by (N := nLong) (sc := defScope (top 62)) (by decide +kernel)) (fun _ _ _ _ _ => pg_name (i := 4) nd rfl (Or.inl rfl)) (fun _ _ _ _ _ => pts_nil)
          (fun s1 H1 C1 c1 f1 => by exact pe_tup (pa_cons (pv 4) (pa_cons (pe_dn DW hr (by rfl) (by decide) (pa_cons (pv 0) pa_nil)) pa_nil))))
        (pa_cons (pe_dn DF hr (by rfl) (by decide) (pa_cons (pv 0) pa_nil)) (pa_cons (pe_slice sl_list (pv 1) (po_some (pv 2)) po_none) pa_nil))))) pa_nil)))
      (pss_cons (ps_expr (pe_bm PySem.F.plainAttrs_list PySem.F.slot_list_append PySem.F.type_list_append mt_append (pv 3) (pa_cons (pe_tup (pa_cons pe_str (pa_cons (pe_tup (pa_cons (pe_slice sl_list (pv 1) po_none (po_some (pv 2))) (pa_cons (pe_slice sl_list (pv 1) (po_some (pv 2)) po_none) pa_nil)))
        (pa_cons (pe_tup (pa_cons pe_int (pa_cons pe_int pa_nil))) (pa_cons (pe_slice sl_list (pv 1) po_none (po_some (pv 2))) pa_nil))))) pa_nil)))
      (pss_cons (ps_expr (pe_bm PySem.F.plainAttrs_list PySem.F.slot_list_append PySem.F.type_list_append mt_append (pv 3) (pa_cons (pe_tup (pa_cons pe_str (pa_cons (pv 1) (pa_cons pe_non (pa_cons (pv 1) pa_nil))))) pa_nil)))
      (pss_one (ps_ret (pe_callB (allK isk rfl) rfl (fr.h _ (by decide +kernel)) (by decide +kernel) (pa_cons (pe_lc (own := [("_law_tie", 5)]) (g := gName 5) (tt := tYes) rfl nd (pi_list (pv 3)) (blkOk_by (N := nLong) (sc := defScope (top 62)) (by decide +kernel)) (fun _ _ _ _ _ => pg_name (i := 5) nd rfl (Or.inl rfl)) (fun _ _ _ _ _ => pts_nil)
          (fun s1 H1 C1 c1 f1 => by exact pe_dnG DR hG hr (by rfl) (by decide) (pa_cons (pv 5) (pa_cons (pe_dn DX hr (by rfl) (by decide) (pa_cons (pv 5) pa_nil)) pa_nil)))) pa_nil)))))))), ?_⟩
    refine ⟨_, rfl, _, rfl, p, 20, rfl, hp, by decide, by decide, fun d H1 d0 d1 k1 => ⟨11, _, rfl, rfl, (by show 0 ≤ sizeLine; decide), fun tk htk => ?_⟩⟩
    refine ⟨p, _, tk, rfl, k1.pot.new htk, by omega, by omega, upd_same, fun D H2 xs k2' nD Dp hD nm lx => ?_⟩
    have k2 := (k1.trans (Kp.new k1.pot htk)).trans k2'
    have len : 11 ≤ xs.length := by omega
    have few := nm.few
    refine ⟨_, rfl, _, rfl, .inl ⟨D, _, rfl, .inl (SqL.of hD), _, _, rfl, rfl, p, _, rfl, k2.pot, by rw [List.length_map]; omega, by rw [List.length_map]; omega, fun c H3 c0 c1 k3' => ⟨1, _, rfl, rfl, ?_⟩⟩⟩
    rw [List.length_map] at c1
    obtain ⟨j, hj⟩ : ∃ j : Nat, 1 + c = (j : Int) := ⟨(1 + c).toNat, by omega⟩
    have j1 : 1 ≤ j := by omega
    have j2 : j < xs.length := by omega
    show gName 2 (V.int (1 + c)) _ _ _
    rw [hj]
    have k3 := k2.trans k3'
    have hD3 := k3'.at Dp hD
    have nt : xs.take j ≠ [] := fun e => by
      have : (xs.take j).length = 0 := by rw [e]; rfl
      rw [List.length_take] at this
      omega
    have nr : xs.drop j ≠ [] := fun e => by
      have := congrArg List.length e
      rw [List.length_drop] at this
      simp at this
      omega
    have xne : xs ≠ [] := fun e => by rw [e] at len; simp at len
    have lenm : (xs.map V.str).length = xs.length := List.length_map _
    -- the sum's terms
    refine ⟨_, rfl, D, rfl, ⟨_, SqL.of hD3⟩, fun G hG0 => ?_⟩
    have Gp := ne_pot k3.pot hG0
    refine lc_it (walk_list (xs := xs.map V.str)) (fun i H' => Kp p H3 H' ∧ ∃ (ps : List Addr) (ls : List (Str × Int)), H' G = some (.lst (ps.map V.ref)) ∧ Prs H' ps ls ∧ ls.map (·.1) = xs.take i ∧ ∀ x ∈ ls, x.2 ≠ 0 ∧ x.2.natAbs < 2 ^ 100) ⟨Kp.new k3.pot hG0, [], [], by rw [upd_same]; rfl, .nil, rfl, fun _ q => nomatch q⟩ (fun i H' _ h => SqL.of (h.1.at Dp hD3)) ?_ ?_
    · rintro i y H4 H5 hi ⟨k4, ps, ls, d4, pr, lm, lb⟩ ⟨rfl, hy⟩
      obtain ⟨x, hx, rfl⟩ := map_at hy
      have lps : ps.length ≤ 64 := by
        have := congrArg List.length lm
        rw [List.length_map, List.length_take] at this
        rw [prs_len pr]
        omega
      refine ⟨rfl, _, rfl, _, rfl, p, rfl, k4.pot, fun n H6 n0 nb k6 => ⟨(by show 2 ≤ sizeLine; decide), fun T hT => ?_⟩⟩
      have k46 := k4.trans k6
      have d6 := k6.at Gp d4
      have DT : G ≠ T := ne_of_none d6 hT
      have pr6 : Prs H6 ps ls := pr.mono fun a xs h => kp_tup k6 k4.pot h
      refine ⟨ps.map V.ref, by rw [upd_ne DT]; exact d6, by rw [List.length_map]; omega, (k46.trans (Kp.new k6.pot hT)).over Gp hG0, ps ++ [T], ls ++ [(x, n)], ?_, ?_, ?_, ?_⟩
      · rw [upd_same, List.map_append]
        rfl
      · refine prs_new (pr6.mono fun a xs h => ?_) ?_
        · rw [upd_ne (ne_of h d6 (fun e => nomatch e)), upd_ne (ne_of_none h hT)]
          exact h
        · rw [upd_ne (Ne.symm DT), upd_same]
      · rw [List.map_append, lm, take_suc hx]
        rfl
      · intro u hu
        rcases List.mem_append.mp hu with hu | hu
        · exact lb u hu
        · rw [List.mem_singleton] at hu
          rw [hu]
          exact ⟨n0, nb⟩
    rintro H4 ⟨k4, ps, ls, d4, pr, lm, lb⟩
    rw [List.length_map, List.take_length] at lm
    refine ⟨_, rfl, p, rfl, k4.pot, fun tq H5 q k5 n5 tqp hq lq => ?_⟩
    have k35 := k4.trans k5
    have pr5 : Prs H5 ps ls := pr.mono fun a xs h => kp_tup k5 k4.pot h
    have d5 := k5.at Gp d4
    have hD5 := k35.at Dp hD3
    refine ⟨_, rfl, _, rfl, j, rfl, D, _, rfl, SqL.of hD5, fun X1 h1 => ?_⟩
    rw [cut_from _ j (by rw [lenm]; omega), ← List.map_drop]
    have e1 := Am.Ext.new (o := .lst ((xs.drop j).map V.str)) h1
    refine ⟨(by show 4 ≤ sizeLine; decide), fun T1 hT1 => ?_⟩
    have e2 := Am.Ext.new (o := .tup [.str "sum", .ref G, .ref tq, .ref X1]) hT1
    have e12 := e1.trans e2
    have t1 : TieAt (upd (upd H5 X1 (.lst ((xs.drop j).map V.str))) T1 (.tup [.str "sum", .ref G, .ref tq, .ref X1])) T1 (.sum ls q) (xs.drop j) := ⟨X1, e2 _ _ upd_same, G, ps, tq, e12 _ _ d5, pr5.ext e12, e12 _ _ hq, upd_same⟩
    have okS : TdOk (.sum ls q) (xs.drop j) := ⟨by show Nms (ls.map (·.1)); rw [lm]; exact nm, by show ls.map (·.1) ≠ []; rw [lm]; exact xne, nm.nd.sublist (List.drop_sublist j xs), by show ∀ o ∈ xs.drop j, o ∈ ls.map (·.1); rw [lm]; exact fun o ho => List.mem_of_mem_drop ho, nr, fun x hx => ⟨(lb x hx).1, Nat.lt_trans (lb x hx).2 (by decide)⟩, lq.more (by decide)⟩
    have k6 := (k3.trans k35).trans (Kp.ext k5.pot e12)
    have hD6 := e12 _ _ hD5
    generalize upd (upd H5 X1 (.lst ((xs.drop j).map V.str))) T1 (.tup [.str "sum", .ref G, .ref tq, .ref X1]) = H6 at t1 k6 hD6 ⊢
    refine ⟨(by show 1 ≤ sizeLine; decide), fun L hL => ?_⟩
    have eL := Am.Ext.new (o := .lst [.ref T1]) hL
    have hLv : upd H6 L (.lst [.ref T1]) L = some (.lst [.ref T1]) := upd_same
    have hD7 := eL _ _ hD6
    have k7 := k6.trans (Kp.ext k6.pot eL)
    have eL7 : Am.Ext H6 (upd H6 L (.lst [.ref T1])) := eL
    generalize upd H6 L (.lst [.ref T1]) = H7 at eL7 hLv hD7 k7 ⊢
    -- the product
    refine ⟨_, rfl, .inl ⟨rfl, _, SqL.of hLv⟩, _, rfl, _, rfl, j, rfl, D, _, rfl, SqL.of hD7, fun A1 g1 => ?_⟩
    rw [cut_to _ j (by rw [lenm]; omega), ← List.map_take]
    have x1 := Am.Ext.new (o := .lst ((xs.take j).map V.str)) g1
    refine ⟨_, rfl, _, rfl, j, rfl, D, _, rfl, SqL.of (x1 _ _ hD7), fun A2 g2 => ?_⟩
    rw [cut_from _ j (by rw [lenm]; omega), ← List.map_drop]
    have x2 := Am.Ext.new (o := .lst ((xs.drop j).map V.str)) g2
    have x12 := x1.trans x2
    have a1 := x2 _ _ (upd_same (H := H7) (a := A1) (o := .lst ((xs.take j).map V.str)))
    have a2 : upd (upd H7 A1 (.lst ((xs.take j).map V.str))) A2 (.lst ((xs.drop j).map V.str)) A2 = some (.lst ((xs.drop j).map V.str)) := upd_same
    generalize upd (upd H7 A1 (.lst ((xs.take j).map V.str))) A2 (.lst ((xs.drop j).map V.str)) = H8 at x12 a1 a2 ⊢
    refine ⟨(by show 2 ≤ sizeLine; decide), fun B1 g3 => ⟨(by show 2 ≤ sizeLine; decide), fun B2 g4 => ?_⟩⟩
    have x3 := Am.Ext.new (o := .tup [.ref A1, .ref A2]) g3
    have x4 := Am.Ext.new (o := .tup [.int 7, .int 1]) g4
    have b1 := x4 _ _ (upd_same (H := H8) (a := B1) (o := .tup [.ref A1, .ref A2]))
    have b2 : upd (upd H8 B1 (.tup [.ref A1, .ref A2])) B2 (.tup [.int 7, .int 1]) B2 = some (.tup [.int 7, .int 1]) := upd_same
    have x14 := (x12.trans x3).trans x4
    replace a1 := x4 _ _ (x3 _ _ a1)
    replace a2 := x4 _ _ (x3 _ _ a2)
    generalize upd (upd H8 B1 (.tup [.ref A1, .ref A2])) B2 (.tup [.int 7, .int 1]) = H9 at x14 a1 a2 b1 b2 ⊢
    refine ⟨_, rfl, _, rfl, j, rfl, D, _, rfl, SqL.of (x14 _ _ hD7), fun A3 g5 => ?_⟩
    rw [cut_to _ j (by rw [lenm]; omega), ← List.map_take]
    have x5 := Am.Ext.new (o := .lst ((xs.take j).map V.str)) g5
    refine ⟨(by show 4 ≤ sizeLine; decide), fun T2 g6 => ?_⟩
    have x6 := Am.Ext.new (o := .tup [.str "product", .ref B1, .ref B2, .ref A3]) g6
    have x56 := x5.trans x6
    have x16 := x14.trans x56
    have tk : xs.take j ++ xs.drop j = xs := List.take_append_drop j xs
    have t2 : TieAt (upd (upd H9 A3 (.lst ((xs.take j).map V.str))) T2 (.tup [.str "product", .ref B1, .ref B2, .ref A3])) T2 (.pro (xs.take j) (xs.drop j) ((7 : Int) : Rat)) (xs.take j) := ⟨A3, x6 _ _ upd_same, B1, A1, A2, B2, x56 _ _ a1, x56 _ _ a2, x56 _ _ b1, x56 _ _ b2, upd_same⟩
    have okP : TdOk (.pro (xs.take j) (xs.drop j) ((7 : Int) : Rat)) (xs.take j) := ⟨by show Nms (xs.take j ++ xs.drop j); rw [tk]; exact nm, by show xs.take j ++ xs.drop j ≠ []; rw [tk]; exact xne, nm.nd.sublist (List.take_sublist j xs), by show ∀ o ∈ xs.take j, o ∈ xs.take j ++ xs.drop j; exact fun o ho => List.mem_append_left _ ho, nt, by decide, low1 7 (by decide)⟩
    have hL2 := x16 _ _ hLv
    have hD8 := x16 _ _ hD7
    have k8 := k7.trans (Kp.ext k7.pot x16)
    have e68 := eL7.trans x16
    generalize upd (upd H9 A3 (.lst ((xs.take j).map V.str))) T2 (.tup [.str "product", .ref B1, .ref B2, .ref A3]) = H10 at t2 hL2 hD8 k8 e68 ⊢
    refine ⟨L, _, _, rfl, rfl, hL2, (by show 1 < sizeLine; decide), ?_⟩
    have t2' := t2.put (o := .lst ([.ref T1] ++ [.ref T2])) hL2 nt ⟨nt, nr⟩
    have hD9 := Ls.put (o := .lst ([.ref T1] ++ [.ref T2])) hD8 xne hL2
    have hL3 : upd H10 L (.lst ([.ref T1] ++ [.ref T2])) L = some (.lst [.ref T1, .ref T2]) := upd_same
    have e69 : Am.Ext H6 (upd H10 L (.lst ([.ref T1] ++ [.ref T2]))) := ext_off e68 hL
    generalize upd H10 L (.lst ([.ref T1] ++ [.ref T2])) = H11 at t2' hD9 hL3 e69 ⊢
    -- the loose one
    refine ⟨_, rfl, .inl ⟨rfl, _, SqL.of hL3⟩, _, rfl, _, rfl, (by show 4 ≤ sizeLine; decide), fun T3 g7 => ?_⟩
    have x7 := Am.Ext.new (o := .tup [.str "loose", .ref D, .non, .ref D]) g7
    have t3 : TieAt (upd H11 T3 (.tup [.str "loose", .ref D, .non, .ref D])) T3 (.loo xs) xs := ⟨D, x7 _ _ hD9, D, x7 _ _ hD9, upd_same⟩
    have okL : TdOk (.loo xs) xs := ⟨nm, xne, nm.nd, fun o ho => ho, xne, trivial⟩
    have hL4 := x7 _ _ hL3
    refine ⟨L, _, _, rfl, rfl, hL4, (by show 2 < sizeLine; decide), ?_⟩
    have t2f := (t2'.ext x7).put (o := .lst ([.ref T1, .ref T2] ++ [.ref T3])) hL4 nt ⟨nt, nr⟩
    have t3f := t3.put (o := .lst ([.ref T1, .ref T2] ++ [.ref T3])) hL4 xne xne
    have e6f : Am.Ext H6 (upd (upd H11 T3 (.tup [.str "loose", .ref D, .non, .ref D])) L (.lst ([.ref T1, .ref T2] ++ [.ref T3]))) := ext_off (e69.trans x7) hL
    have t1f := t1.ext e6f
    have hLf : upd (upd H11 T3 (.tup [.str "loose", .ref D, .non, .ref D])) L (.lst ([.ref T1, .ref T2] ++ [.ref T3])) L = some (.lst [.ref T1, .ref T2, .ref T3]) := upd_same
    have kf := k6.trans (Kp.ext k6.pot e6f)
    generalize upd (upd H11 T3 (.tup [.str "loose", .ref D, .non, .ref D])) L (.lst ([.ref T1, .ref T2] ++ [.ref T3])) = Hf at t1f t2f t3f hLf kf ⊢
    have three : ∀ (i : Nat) (y : V), ([.ref T1, .ref T2, .ref T3] : List V)[i]? = some y → ∃ (t : Addr) (td : TD) (os : List Str), y = .ref t ∧ TieAt Hf t td os ∧ TdOk td os := fun i y h => by
      match i, h with
      | 0, h => cases h; exact ⟨T1, _, _, rfl, t1f, okS⟩
      | 1, h => cases h; exact ⟨T2, _, _, rfl, t2f, okP⟩
      | 2, h => cases h; exact ⟨T3, _, _, rfl, t3f, okL⟩
      | i + 3, h => simp at h
    have l3 : ([.ref T1, .ref T2, .ref T3] : List V).length = 3 := rfl
    generalize ([.ref T1, .ref T2, .ref T3] : List V) = ts at hLf three l3
    refine ⟨_, rfl, L, rfl, ⟨_, SqL.of hLf⟩, fun G2 hG2 => ?_⟩
    refine lc_it (walk_list (xs := ts)) (fun i H' => Am.Ext Hf H' ∧ H' G2 = some (.lst ((List.replicate i true).map V.bl))) ⟨Am.Ext.new hG2, upd_same⟩ (fun i H' _ h => SqL.of (h.1 _ _ hLf)) ?_ ?_
    · rintro i y H' H'' hi ⟨e, d⟩ ⟨rfl, hy⟩
      obtain ⟨t, td, os, rfl, ht, ok⟩ := three i y hy
      refine ⟨rfl, _, rfl, _, rfl, t, td, os, rfl, ht.ext e, ok, fun r H2 f2 n2 ir fd2 => ?_⟩
      refine ⟨t, r, td, os, rfl, (ht.ext e).ext f2, ok, ir, fun H3' f3 => ?_⟩
      have f23 := f2.trans f3
      have d3 := f23 _ _ d
      refine ⟨_, d3, ?_, ext_off (e.trans f23) hG2, ?_⟩
      · rw [List.length_map, List.length_replicate]
        omega
      · rw [upd_same, List.replicate_succ', List.map_append]
        rfl
    · rintro H' ⟨e, d⟩
      rw [l3] at d
      refine ⟨G2, List.replicate 3 true, rfl, SqL.of d, ?_⟩
      exact z H' (kf.trans (Kp.ext kf.pot e))
end
end KD

set_option Elab.async false
set_option linter.all false
set_option maxRecDepth 100000
set_option maxHeartbeats 8000000
set_option exponentiation.threshold 20000
/-! _law_right. -/
namespace KD
open PySem PySem.Spec PyProof.Rows L2 Oo Gd Am KA SqX
/-- a rule does not hang on the pot -/
theorem IsRule.kp {A CT CP CL p : Addr} {H H' : Hp} {r : Addr} {td : TD} {os : List Str} (k : Kp p H H') (hp : Pot H p) (h : IsRule A CT CP CL H r td os) : IsRule A CT CP CL H' r td os := by
  obtain ⟨a, b, q, _⟩ := hp
  have m : ∀ {c : Addr} {u : HO}, H c = some u → (∀ ys, u ≠ .lst ys) → H' c = some u := fun {c u} hc n => k.at (ne_of hc q (n _)) hc
  cases td with
  | loo ys =>
    obtain ⟨dx, pf, pw, hi, hf, hw⟩ := (show IsL CL H r _ _ from h)
    exact ⟨dx, pf, pw, m hi (fun _ e => nomatch e), m hf (fun _ e => nomatch e), m hw (fun _ e => nomatch e)⟩
  | sum ls q =>
    obtain ⟨dx, pt, pf, pd, pw, hi, ⟨dq, hq⟩, hf, hd, hw⟩ := (show IsT A CT H r _ _ _ _ from h)
    exact ⟨dx, pt, pf, pd, pw, m hi (fun _ e => nomatch e), ⟨dq, m hq (fun _ e => nomatch e)⟩, m hf (fun _ e => nomatch e), m hd (fun _ e => nomatch e), m hw (fun _ e => nomatch e)⟩
  | pro ys zs q =>
    obtain ⟨dx, pt, pl, pr, pf, pw, hi, ⟨dq, hq⟩, hl, hrr, hf, hw⟩ := (show IsP A CP H r _ _ _ _ _ from h)
    exact ⟨dx, pt, pl, pr, pf, pw, m hi (fun _ e => nomatch e), ⟨dq, m hq (fun _ e => nomatch e)⟩, m hl (fun _ e => nomatch e), m hrr (fun _ e => nomatch e), m hf (fun _ e => nomatch e), m hw (fun _ e => nomatch e)⟩
/-- a heap of one thing -/
def one (a : Addr) (o : HO) : Hp := upd (fun _ => none) a o
theorem one_ext {H : Hp} {a : Addr} {o : HO} (h : H a = some o) : Am.Ext (one a o) H := fun b u hb => by
  unfold one at hb
  by_cases e : b = a
  · rw [e, upd_same] at hb
    rw [e, h, hb]
  · rw [upd_ne e] at hb
    cases hb
theorem ref_at {ts : List Addr} {i : Nat} {y : V} (h : (ts.map V.ref)[i]? = some y) : ∃ t, y = .ref t ∧ ts[i]? = some t := by
  rw [List.getElem?_map] at h
  cases e : ts[i]? with
  | none => rw [e] at h; cases h
  | some t => rw [e] at h; exact ⟨t, (Option.some.inj h).symm, rfl⟩
section
variable {P : Program} {w : World} {K : W.Frag} {mg : Str → Option Value} {base : Heap} {f A C CT CP CL CR : Addr} {fd : FuncData} {t t2 t3 : Tok}
abbrev nRight : List Str := ["_law_pot_here", "_law_spots", "_law_ties", "_law_some_here", "_law_at", "_law_tie", "_law_again", "_law_place", "_law_mate", "_law_turn"]
theorem scRight : FnScope nRight ["_law_pot_here"] (defScope (top 63)) := ⟨rfl, rfl, rfl, by decide +kernel, rfl, by decide +kernel, by decide +kernel⟩
/-- the defs that _law_right calls -/
structure RT (P : Program) (w : World) (K : W.Frag) (mg : Str → Option Value) (base : Heap) (A CT CP CL CR : Addr) : Prop where
  fr : Frees mg
  D1 : DnD P w K mg base
  DN : Dn P w K mg base CX0 3 "_law_named" ["_law_pot_here", "_law_size", "_law_taken"] (spNamed K)
  DT : Dn P w K mg base CX0 5 "_law_wide_tie" ["_law_pot_here", "_law_spots"] spTie
  DY : Dn P w K mg base CX0 3 "_law_near_tie" ["_law_pot_here", "_law_tie"] spNear
  DX : Dn P w K mg base CX0 7 "_law_rule" ["_law_tie"] (spRule A CT CP CL)
  DB : Dn P w K mg base CX0 7 "_law_rule_by_names" ["_law_tie", "_law_plainly"] (spRbn A CT CP CL)
  DR : DnG P w K mg base 7 "_law_is_right" ["_law_tie", "_law_rule_here"] (spIsr A CT CP CL)
  DS : DnG P w K mg base 8 "_law_stays_as_it_was" ["_law_tie"] spStay
  DL : DnG P w K mg base 5 "_law_is_like" ["_law_tie", "_law_mate"] spLike
  DF : Dn P w K mg base CX0 8 "_law_defaults_right" ["_law_spots"] spDfl
  DO : DnG P w K mg base 8 "_law_long_right" ["_law_pot_here"] spPK
  kk : KK K CT CP CL CR
  M : RM P w K mg base A CT CP CL
  RPs : RP P w K mg base CT CP CL
theorem ok_right (Z : RT P w K mg base A CT CP CL CR) (F : Fun K "_law_right" "_law_right" (top 63) f fd) : FnG P w K mg base CX0 9 f fd ["_law_pot_here"] spPK := by
  refine Gd.okG F scRight (fun vs H Q E h => ?_) (fun cdv A' outer s H vs Q E hG hr h => ?_)
  · obtain ⟨p, rfl, _⟩ := h
    rfl
  · obtain ⟨p, rfl, hp, z⟩ := h
    have nd := scRight.nd
    have isk : IsK K := ⟨trivial⟩
    have big : (1000000 : Nat) ≤ sizeLine := by decide
    obtain ⟨fr, D1, DN, DT, DY, DX, DB, DR, DS, DL, DF, DO, kk, M, RPs⟩ := Z
    refine ⟨_, pss_cons (ps_set (i := 1) nd rfl (.inr rfl) (pe_dn DN hr (by rfl) (by decide) (pa_cons (pv 0) (pa_cons pe_int (pa_cons (pe_lst pa_nil) pa_nil)))))
      (pss_cons (ps_setLc (i := 2) (own := [("_law_turn", 9)]) (g := gName 9) (tt := tYes) rfl nd rfl rfl (by exact sw_true rfl rfl rfl (by decide +kernel)) (pi_range1 rfl (fr.h _ (by decide +kernel)) (pa_cons pe_int pa_nil)) (blkOk_by (N := nRight) (sc := defScope (top 63)) (by decide +kernel)) (fun _ _ _ _ _ => pg_name (i := 9) nd rfl (Or.inl rfl)) (fun _ _ _ _ _ => pts_nil)
          (fun s1 H1 C1 c1 f1 => by exact pe_dn DT hr (by rfl) (by decide) (pa_cons (pv 0) (pa_cons (pv 1) pa_nil))))
      (pss_cons (ps_set (i := 2) nd rfl (.inl rfl) (pe_op op_addA (pv 2) (pe_lc (own := [("_law_tie", 5)]) (g := gName 5) (tt := tYes) rfl nd (pi_list (pv 2)) (blkOk_by (N := nRight) (sc := defScope (top 63)) (by decide +kernel)) (fun _ _ _ _ _ => pg_name (i := 5) nd rfl (Or.inl rfl)) (fun _ _ _ _ _ => pts_nil)
          (fun s1 H1 C1 c1 f1 => by exact pe_dn DY hr (by rfl) (by decide) (pa_cons (pv 0) (pa_cons (pv 5) pa_nil))))))
      (pss_cons (ps_setLc (i := 3) (own := [("_law_tie", 5)]) (g := gName 5) (tt := tYes) rfl nd rfl rfl (by exact sw_true rfl rfl rfl (by decide +kernel)) (pi_list (pv 2)) (blkOk_by (N := nRight) (sc := defScope (top 63)) (by decide +kernel)) (fun _ _ _ _ _ => pg_name (i := 5) nd rfl (Or.inl rfl)) (fun _ _ _ _ _ => pts_nil)
          (fun s1 H1 C1 c1 f1 => by exact pe_dn DX hr (by rfl) (by decide) (pa_cons (pv 5) pa_nil)))
      (pss_cons (ps_for PassesOwn.never rfl (pi_enumA rfl (fr.h _ (by decide +kernel)) (pa_cons (pv 2) pa_nil)) (pg_tup rfl (pgs_cons (pg_name (i := 4) nd rfl (.inl rfl)) (pgs_cons (pg_name (i := 5) nd rfl (.inl rfl)) pgs_nil)))
        (pss_cons (ps_set (i := 6) nd rfl (.inl rfl) (pe_dn DB hr (by rfl) (by decide) (pa_cons (pv 5) (pa_cons (pe_cmpR op_eq (pe_dn D1 hr (by rfl) (by decide) (pa_cons (pv 0) (pa_cons pe_int pa_nil))) pe_int (nomark _)) pa_nil))))
        (pss_cons (ps_if (PW.pt (pw_or (pt_not (pt_val (pe_dnG DR hG hr (by rfl) (by decide) (pa_cons (pv 5) (pa_cons (pe_ix (ixK isk) (pv 3) (pv 4) (fun _ _ => rfl)) pa_nil))))) (pw_or (pt_not (pt_val (pe_dnG DR hG hr (by rfl) (by decide) (pa_cons (pv 5) (pa_cons (pv 6) pa_nil))))) (pw_or1 (pt_not (pt_val (pe_dnG DS hG hr (by rfl) (by decide) (pa_cons (pv 5) pa_nil)))))))) (pss_one (ps_ret pe_bl)) pss_nil)
        (pss_cons (ps_if (PW.pt (pw_or (pt_cmpR (op_neR (k := 0) (A := A) M (hr.mono (by decide))) (pe_ix (ixK isk) (pv 3) (pv 4) (fun _ _ => rfl)) (pv 6) (by rfl))
            (pw_or1 (pt_cmpR op_ne (pe_callB (call_reprR (k := 0) (A := A) M (hr.mono (by decide))) rfl (fr.h _ (by decide +kernel)) (by decide +kernel) (pa_cons (pe_ix (ixK isk) (pv 3) (pv 4) (fun _ _ => rfl)) pa_nil))
              (pe_op op_addA (pe_op op_addA pe_str (pe_callB (call_repr hG hr) rfl (fr.h _ (by decide +kernel)) (by decide +kernel) (pa_cons (pe_text (A := A) kk M hr (by decide) (pv 6)) pa_nil))) pe_str) (by rfl))))) (pss_one (ps_ret pe_bl)) pss_nil)
        (pss_cons (ps_for PassesOwn.never rfl (pi_enumA rfl (fr.h _ (by decide +kernel)) (pa_cons (pv 2) pa_nil)) (pg_tup rfl (pgs_cons (pg_name (i := 7) nd rfl (.inl rfl)) (pgs_cons (pg_name (i := 8) nd rfl (.inl rfl)) pgs_nil)))
          (pss_one (ps_if (pt_cmpR op_ne (pe_callB (call_repr hG hr) rfl (fr.h _ (by decide +kernel)) (by decide +kernel) (pa_cons (pe_cmpR (op_eqR (k := 0) (A := A) kk M (hr.mono (by decide))) (pe_ix (ixK isk) (pv 3) (pv 4) (fun _ _ => rfl)) (pe_ix (ixK isk) (pv 3) (pv 7) (fun _ _ => rfl)) (by rfl)) pa_nil))
              (pe_callB (call_repr hG hr) rfl (fr.h _ (by decide +kernel)) (by decide +kernel) (pa_cons (pe_dnG DL hG hr (by rfl) (by decide) (pa_cons (pv 5) (pa_cons (pv 8) pa_nil))) pa_nil)) (by rfl)) (pss_one (ps_ret pe_bl)) pss_nil)))
        (pss_one (ps_if (PW.pt (pw_or (pt_cmpR (op_eqB (k := 0) (A := A) kk M (hr.mono (by decide))) (pe_ix (ixK isk) (pv 3) (pv 4) (fun _ _ => rfl)) (pe_text (A := A) kk M hr (by decide) (pe_ix (ixK isk) (pv 3) (pv 4) (fun _ _ => rfl))) (by rfl))
            (pw_or (pt_cmpR (op_eqB (k := 0) (A := A) kk M (hr.mono (by decide))) (pe_ix (ixK isk) (pv 3) (pv 4) (fun _ _ => rfl)) (pv 5) (by rfl))
            (pw_or (pt_cmpR (op_eqB (k := 0) (A := A) kk M (hr.mono (by decide))) (pe_ix (ixK isk) (pv 3) (pv 4) (fun _ _ => rfl)) (pe_fields (A := A) RPs hr (by decide) (pe_ix (ixK isk) (pv 3) (pv 4) (fun _ _ => rfl))) (by rfl))
            (pw_or1 (pt_cmpR (op_eqB (k := 0) (A := A) kk M (hr.mono (by decide))) (pe_ix (ixK isk) (pv 3) (pv 4) (fun _ _ => rfl)) pe_non (by rfl))))))) (pss_one (ps_ret pe_bl)) pss_nil)))))))
      (pss_one (ps_ret (pe_and (pe_dn DF hr (by rfl) (by decide) (pa_cons (pv 1) pa_nil)) (pe_one (pe_dnG DO hG hr (by rfl) (by decide) (pa_cons (pv 0) pa_nil)))))))))), ?_⟩
    refine ⟨_, rfl, (by show 0 ≤ sizeLine; decide), fun tk htk => ?_⟩
    refine ⟨p, 8, tk, rfl, hp.new htk, (by decide), (by decide), upd_same, fun a H1 spots k1' nD ap ha nm lx => ?_⟩
    have k1 := (Kp.new hp htk).trans k1'
    have sne : spots ≠ [] := fun e => by rw [e] at lx; cases lx
    have l8 : spots.length = 8 := by omega
    -- four ties
    refine ⟨4, rfl, (by decide), (by decide), fun D hD => ?_⟩
    have Dp := ne_pot k1.pot hD
    refine lc_range (lo := 0) (n := 4) (fun i H' => Kp p H1 H' ∧ ∃ ts : List Addr, H' D = some (.lst (ts.map V.ref)) ∧ ts.length = i ∧ ∀ t ∈ ts, ∃ td os, TieIn (· ≠ D) H' t td os ∧ TdOk td os ∧ Sm td) ⟨Kp.new k1.pot hD, [], upd_same, rfl, fun _ q => nomatch q⟩ ?_ ?_
    · rintro i H' hi ⟨k2, ts, d2, lt, al⟩
      refine ⟨rfl, _, rfl, _, rfl, p, a, spots, rfl, k2.pot, k2.at ap ha, nm, sne, fun T H2 td os k3 nT Tp tin ok sm sub => ?_⟩
      have d3 := k3.at Dp d2
      refine ⟨ts.map V.ref, d3, by rw [List.length_map]; omega, (k2.trans k3).over Dp hD, ts ++ [T], by rw [upd_same, List.map_append]; rfl, by rw [List.length_append, lt]; rfl, fun t ht => ?_⟩
      rcases List.mem_append.mp ht with ht | ht
      · obtain ⟨td', os', t1, o1, s1⟩ := al t ht
        exact ⟨td', os', (t1.kp k3 k2.pot).upd d3, o1, s1⟩
      · rw [List.mem_singleton] at ht
        rw [ht]
        refine ⟨td, os, TieIn.upd (tin.imp fun b hb e => ?_) d3, ok, sm⟩
        rw [e, d2] at hb
        cases hb
    rintro H2 ⟨k2, ts, d2, lt, al⟩
    -- their neighbours
    refine ⟨_, rfl, _, rfl, D, rfl, ⟨_, SqL.of d2⟩, fun D2 hD2 => ?_⟩
    have Dp2 := ne_pot k2.pot hD2
    refine lc_it (walk_list (xs := ts.map V.ref)) (fun i H' => Kp p H2 H' ∧ ∃ us : List Addr, H' D2 = some (.lst (us.map V.ref)) ∧ us.length = i ∧ ∀ t ∈ us, ∃ td os, TieIn (· ≠ D2) H' t td os ∧ TdOk td os) ⟨Kp.new k2.pot hD2, [], upd_same, rfl, fun _ q => nomatch q⟩ (fun i H' _ h => SqL.of (h.1.at Dp d2)) ?_ ?_
    · rintro i y H' H'' hi ⟨k3, us, d3, lu, al2⟩ ⟨rfl, hy⟩
      obtain ⟨t, rfl, ht⟩ := ref_at hy
      obtain ⟨td, os, t1, o1, s1⟩ := al t (List.mem_of_getElem? ht)
      have t2 : TieIn (· ≠ D2) H2 t td os := t1.at.in_.imp fun b hb e => hb (by rw [e]; exact hD2)
      rw [List.length_map, lt] at hi
      refine ⟨rfl, _, rfl, _, rfl, p, t, td, os, (· ≠ D2), rfl, k3.pot, t2.kp k3 k2.pot, o1, s1, (fun b hb e => by rw [e, d3] at hb; cases hb), fun T H3 td2 os2 k4 tin ok => ?_⟩
      have d4 := k4.at Dp2 d3
      refine ⟨us.map V.ref, d4, by rw [List.length_map]; omega, (k3.trans k4).over Dp2 hD2, us ++ [T], by rw [upd_same, List.map_append]; rfl, by rw [List.length_append, lu]; rfl, fun t' ht' => ?_⟩
      rcases List.mem_append.mp ht' with ht' | ht'
      · obtain ⟨td', os', t3, o3⟩ := al2 t' ht'
        exact ⟨td', os', (t3.kp k4 k3.pot).upd d4, o3⟩
      · rw [List.mem_singleton] at ht'
        rw [ht']
        exact ⟨td2, os2, tin.upd d4, ok⟩
    rintro H3 ⟨k3, us, d3, lu, al2⟩
    rw [List.length_map, lt] at lu
    have d23 := k3.at Dp d2
    refine .inr (.inr ⟨D, D2, _, _, rfl, rfl, d23, d3, by rw [List.length_map, List.length_map]; omega, fun TL hTL => ?_⟩)
    have eT := Am.Ext.new (o := .lst (ts.map V.ref ++ us.map V.ref)) hTL
    have hTv : upd H3 TL (.lst (ts.map V.ref ++ us.map V.ref)) TL = some (.lst ((ts ++ us).map V.ref)) := by rw [upd_same, List.map_append]
    have all : ∀ t ∈ ts ++ us, ∃ td os, TieAt (upd H3 TL (.lst (ts.map V.ref ++ us.map V.ref))) t td os ∧ TdOk td os := fun t ht => by
      rcases List.mem_append.mp ht with ht | ht
      · obtain ⟨td, os, t1, o1, _⟩ := al t ht
        exact ⟨td, os, ((t1.at).kp k3 k2.pot).ext eT, o1⟩
      · obtain ⟨td, os, t1, o1⟩ := al2 t ht
        exact ⟨td, os, t1.at.ext eT, o1⟩
    have kT := ((k1.trans k2).trans k3).trans (Kp.ext k3.pot eT)
    have haT := eT _ _ (k3.at ap (k2.at ap ha))
    have lw : (ts ++ us).length = 8 := by rw [List.length_append]; omega
    generalize upd H3 TL (.lst (ts.map V.ref ++ us.map V.ref)) = H4 at hTv all kT haT ⊢
    generalize ts ++ us = ws at hTv all lw
    -- their rules
    refine ⟨_, rfl, TL, rfl, ⟨_, SqL.of hTv⟩, fun RL hRL => ?_⟩
    refine lc_it (walk_list (xs := ws.map V.ref)) (fun i H' => Am.Ext H4 H' ∧ ∃ rs : List Addr, H' RL = some (.lst (rs.map V.ref)) ∧ rs.length = i ∧ ∀ j < i, ∃ (t r : Addr) (td : TD) (os : List Str), ws[j]? = some t ∧ rs[j]? = some r ∧ TieAt H4 t td os ∧ TdOk td os ∧ IsRule A CT CP CL H' r td os) ⟨Am.Ext.new hRL, [], upd_same, rfl, fun _ q => absurd q (Nat.not_lt_zero _)⟩ (fun i H' _ h => SqL.of (h.1 _ _ hTv)) ?_ ?_
    · rintro i y H' H'' hi ⟨e, rs, d, lr, al3⟩ ⟨rfl, hy⟩
      obtain ⟨t, rfl, ht⟩ := ref_at hy
      obtain ⟨td, os, t1, o1⟩ := all t (List.mem_of_getElem? ht)
      rw [List.length_map, lw] at hi
      refine ⟨rfl, _, rfl, t, td, os, rfl, t1.ext e, o1, fun r H5 e5 nr ir _ => ?_⟩
      have d5 := e5 _ _ d
      refine ⟨rs.map V.ref, d5, by rw [List.length_map]; omega, ext_off (e.trans e5) hRL, rs ++ [r], by rw [upd_same, List.map_append]; rfl, by rw [List.length_append, lr]; rfl, fun j hj => ?_⟩
      by_cases ej : j < i
      · obtain ⟨t', r', td', os', a1, a2, a3, a4, a5⟩ := al3 j ej
        exact ⟨t', r', td', os', a1, by rw [List.getElem?_append_left (by omega)]; exact a2, a3, a4, (a5.ext e5).lst d5⟩
      · have : j = i := by omega
        subst this
        exact ⟨t, r, td, os, ht, by rw [List.getElem?_append_right (by omega), lr]; simp, t1, o1, ir.lst d5⟩
    rintro H5 ⟨e5, rs, d5, lr, al3⟩
    rw [List.length_map, lw] at lr al3
    have kR := kT.trans (Kp.ext kT.pot e5)
    have haR := e5 _ _ haT
    have hTR := e5 _ _ hTv
    have each : ∀ j < 8, ∃ (t r : Addr) (td : TD) (os : List Str), ws[j]? = some t ∧ rs[j]? = some r ∧ TieAt H5 t td os ∧ TdOk td os ∧ IsRule A CT CP CL H5 r td os := fun j hj => by
      obtain ⟨t, r, td, os, a1, a2, a3, a4, a5⟩ := al3 j hj
      exact ⟨t, r, td, os, a1, a2, a3.ext e5, a4, a5⟩
    have Tp : TL ≠ p := rf_pot kR.pot hTR
    have Rp : RL ≠ p := rf_pot kR.pot d5
    clear al3 all al al2 hTv haT
    refine ⟨_, rfl, TL, _, one TL (.lst (ws.map V.ref)), rfl, .inl (SqL.of upd_same), one_ext hTR, fun J G wk st => ?_⟩
    rw [List.length_map, lw] at wk
    refine for_it wk (fun i σ H' => Kp p H5 H' ∧ ∃ e4 e5 e6 e7 e8, σ = [some (.ref p), some (.ref a), some (.ref TL), some (.ref RL), e4, e5, e6, e7, e8, none]) ⟨Kp.refl kR.pot, none, none, none, none, none, rfl⟩ (fun i σ H' _ h => st H' (one_ext (h.1.at Tp hTR))) ?_ ?_
    · rintro i x σ H' H6 hi ⟨k6, e4, e5', e6, e7, e8, rfl⟩ ⟨T, v1, v2, rfl, hT, rfl, hv1, hx⟩
      cases hv1
      obtain ⟨t, rfl, ht⟩ := ref_at hx
      obtain ⟨t', r, td, os, a1, a2, tie0, ok, ir0⟩ := each i hi
      rw [ht] at a1
      cases a1
      have at_i : atI (rs.map V.ref) ((i : Nat) : Int) = some (V.ref r) := atI_nat (j := i) (by rw [List.getElem?_map, a2]; rfl)
      have xT := Am.Ext.new (o := .tup [.int (i : Nat), .ref t]) hT
      have k7 := k6.trans (Kp.ext k6.pot xT)
      refine ⟨T, _, rfl, SqT.of upd_same, rfl, _, _, rfl, _, _, rfl, rfl, ?_⟩
      generalize upd H' T (.tup [.int (i : Nat), .ref t]) = H7 at k7 ⊢
      refine ⟨_, rfl, _, rfl, p, 2, rfl, k7.pot, (by decide), (by decide), fun d H8 d0 d1 k8' => ?_⟩
      have k8 := k7.trans k8'
      have tie := tie0.kp k8 kR.pot
      have ir := ir0.kp k8 kR.pot
      have hR8 := k8.at Rp d5
      have hT8 := k8.at Tp hTR
      refine ⟨rfl, t, _, td, os, rfl, tie, ok, fun r2 H9 x9 n9 ir2 _ => ?_⟩
      have rr := rep_len (textT_ok ok)
      have tl := textT_len ok
      have lR : (Str.ofString "Rule(").length = 5 := by decide
      have lP : (Str.ofString ")").length = 1 := by decide
      refine ⟨_, rfl, _, rfl, _, rfl, .inl ⟨RL, _, _, _, rfl, rfl, SqL.of (x9 _ _ hR8), at_i, t, r, td, os, rfl, tie.ext x9, ok, ir.ext x9, fun H10 x10 => ⟨_, rfl, iteF ?_⟩⟩⟩
      have y10 := x9.trans x10
      refine ⟨_, rfl, _, rfl, t, r2, td, os, rfl, tie.ext y10, ok, ir2.ext x10, fun H11 x11 => ⟨_, rfl, iteF ?_⟩⟩
      have y11 := y10.trans x11
      have ir2a := (ir2.ext x10).ext x11
      refine ⟨_, rfl, t, td, os, rfl, tie.ext y11, ok, fun H12 x12 => ⟨_, rfl, iteF ?_⟩⟩
      have y12 := y11.trans x12
      have ir2b := ir2a.ext x12
      have irb := ir.ext y12
      refine ⟨_, rfl, _, rfl, .inl ⟨RL, _, _, _, rfl, rfl, SqL.of (y12 _ _ hR8), at_i, _, rfl, r, r2, td, os, rfl, rfl, irb, ok, ir2b, _, rfl, iteF ?_⟩⟩
      refine ⟨_, rfl, _, rfl, .inl ⟨RL, _, _, _, rfl, rfl, SqL.of (y12 _ _ hR8), at_i, r, td, os, rfl, irb, ok, fun H13 x13 => ?_⟩⟩
      refine ⟨_, rfl, r2, td, os, rfl, ir2b.ext x13, ok, fun H14 x14 => ⟨.str (textT td os), [], 0, _, rfl, .str _ (by omega), by decide, by omega, .inr (.inl ⟨_, _, rfl, rfl, by omega, .inr (.inl ⟨_, _, rfl, rfl, by rw [strLen_append]; omega, ?_⟩)⟩)⟩⟩
      rw [rule_wrap]
      refine ne_str _ ⟨_, rfl, iteF ?_⟩
      have y14 := (y12.trans x13).trans x14
      refine ⟨_, rfl, TL, _, one TL (.lst (ws.map V.ref)), rfl, .inl (SqL.of upd_same), one_ext (y14 _ _ hT8), fun J2 G2 wk2 st2 => ?_⟩
      rw [List.length_map, lw] at wk2
      refine for_it wk2 (fun j σ H' => Am.Ext H8 H' ∧ ∃ e7 e8, σ = [some (.ref p), some (.ref a), some (.ref TL), some (.ref RL), some (.int (i : Nat)), some (.ref t), some (.ref r2), e7, e8, none]) ⟨y14, e7, e8, rfl⟩ (fun j σ H' _ h => st2 H' (one_ext (h.1 _ _ hT8))) ?_ ?_
      · rintro j x2 σ H15 H16 hj ⟨z15, g7, g8, rfl⟩ ⟨T2, w1, w2, rfl, hT2, rfl, hw1, hx2⟩
        cases hw1
        obtain ⟨tj, rfl, htj⟩ := ref_at hx2
        obtain ⟨t', rj, tdj, osj, b1, b2, tiej0, okj, irj0⟩ := each j hj
        rw [htj] at b1
        cases b1
        have at_j : atI (rs.map V.ref) ((j : Nat) : Int) = some (V.ref rj) := atI_nat (j := j) (by rw [List.getElem?_map, b2]; rfl)
        have x16 := Am.Ext.new (o := .tup [.int (j : Nat), .ref tj]) hT2
        refine ⟨T2, _, rfl, SqT.of upd_same, rfl, _, _, rfl, _, _, rfl, rfl, ?_⟩
        have z16 := z15.trans x16
        generalize upd H15 T2 (.tup [.int (j : Nat), .ref tj]) = H17 at z16 ⊢
        have tiej := (tiej0.kp k8 kR.pot).ext z16
        have irj := (irj0.kp k8 kR.pot).ext z16
        refine ⟨_, rfl, _, rfl, .inl ⟨RL, _, _, _, rfl, rfl, SqL.of (z16 _ _ hR8), at_i, _, rfl, _, rfl, .inl ⟨RL, _, _, _, rfl, rfl, SqL.of (z16 _ _ hR8), at_j, r, rj, td, tdj, os, osj, rfl, rfl, ir.ext z16, ok, irj, okj, ?_⟩⟩⟩
        refine ⟨.bl (likeB td os tdj osj), [], 0, _, rfl, .bl _, by decide, by cases likeB td os tdj osj <;> decide, ?_⟩
        refine ⟨_, rfl, _, rfl, t, tj, td, tdj, os, osj, rfl, tie.ext z16, ok, tiej, okj, fun H18 x18 => ?_⟩
        refine ⟨.bl (likeB td os tdj osj), [], 0, _, rfl, .bl _, by decide, by cases likeB td os tdj osj <;> decide, ?_⟩
        refine ne_str _ ⟨_, rfl, iteF ?_⟩
        exact ⟨z16.trans x18, _, _, rfl⟩
      · rintro σ H15 ⟨z15, g7, g8, rfl⟩
        have irz := ir.ext z15
        refine ⟨_, rfl, _, rfl, .inl ⟨RL, _, _, _, rfl, rfl, SqL.of (z15 _ _ hR8), at_i, _, rfl, _, rfl, .inl ⟨RL, _, _, _, rfl, rfl, SqL.of (z15 _ _ hR8), at_i, r, td, os, rfl, irz, ok, fun H16 x16 => ?_⟩⟩⟩
        have z16 := z15.trans x16
        refine ⟨r, td, os, "str", rfl, ir.ext z16, ok, .str _, _, rfl, iteF ?_⟩
        obtain ⟨po, v1, v2, _, _, htt⟩ := (tie.ext z16).v
        refine ⟨_, rfl, _, rfl, .inl ⟨RL, _, _, _, rfl, rfl, SqL.of (z16 _ _ hR8), at_i, _, rfl, r, td, os, "tuple", rfl, ir.ext z16, ok, .tup htt, _, rfl, iteF ?_⟩⟩
        refine ⟨_, rfl, _, rfl, .inl ⟨RL, _, _, _, rfl, rfl, SqL.of (z16 _ _ hR8), at_i, _, rfl, _, rfl, .inl ⟨RL, _, _, _, rfl, rfl, SqL.of (z16 _ _ hR8), at_i, r, td, os, rfl, ir.ext z16, fun pf tf => ?_⟩⟩⟩
        refine ⟨r, td, os, "tuple", rfl, ir.ext z16, ok, .tup tf, _, rfl, iteF ?_⟩
        refine ⟨_, rfl, _, rfl, .inl ⟨RL, _, _, _, rfl, rfl, SqL.of (z16 _ _ hR8), at_i, r, td, os, "NoneType", rfl, ir.ext z16, ok, .non, _, rfl, iteF ?_⟩⟩
        exact ⟨k8.trans (Kp.ext k8.pot z16), _, _, _, _, _, rfl⟩
    · rintro σ H' ⟨k6, e4, e5', e6, e7, e8, rfl⟩
      refine ⟨_, rfl, a, spots, rfl, k6.at ap haR, nm, by omega, fun H7 x7 => ⟨true, rfl, iteT ?_⟩⟩
      have k7 := (kR.trans k6).trans (Kp.ext k6.pot x7)
      exact ⟨_, rfl, p, rfl, k7.pot, fun H8 k8 => z H8 (k7.trans k8)⟩
end
end KD

set_option Elab.async false
set_option linter.all false
set_option maxRecDepth 100000
set_option maxHeartbeats 2000000
/-! law. -/
namespace KD
open PySem PySem.Spec PyProof.Rows L2 Oo Gd Am KA SqX
abbrev nLaw : List Str := ["_law_script", "_law_k"]
theorem scLaw : FnScope nLaw ["_law_script"] (defScope (top 64)) := ⟨rfl, rfl, rfl, by decide +kernel, rfl, by decide +kernel, by decide +kernel⟩
def spLaw (K : W.Frag) : Sp := fun vs H Q _ => ∃ (a : Addr) (ns : List Int), vs = [.ref a] ∧ ns.length ≤ 63 ∧ SqL K H a (ns.map V.int) ∧ ∀ H', Q (.bl true) H'
theorem all_rep (n : Nat) : (List.replicate n true).all id = true := by
  rw [List.all_eq_true]
  intro x h
  exact List.eq_of_mem_replicate h
section
variable {P : Program} {w : World} {K : W.Frag} {mg : Str → Option Value} {base : Heap} {f : Addr} {fd : FuncData}
theorem ok_law (fr : Frees mg) (D0 : Dn P w K mg base CX0 1 "_law_pot" ["_law_script", "_law_k"] (spPot K)) (D1 : DnG P w K mg base 9 "_law_right" ["_law_pot_here"] spPK)
    (F : Fun K "law" "law" (top 64) f fd) : FnG P w K mg base CX0 10 f fd ["_law_script"] (spLaw K) := by
  refine Gd.okG F scLaw (fun vs H Q E h => ?_) (fun cdv A outer s H vs Q E hG hr h => ?_)
  · obtain ⟨a, ns, rfl, _⟩ := h
    rfl
  · obtain ⟨a, ns, rfl, ln, sq, q⟩ := h
    have nd := scLaw.nd
    have isk : IsK K := ⟨trivial⟩
    refine ⟨_, pss_one (ps_ret (pe_callB (allK isk rfl) rfl (fr.h _ (by decide +kernel)) (by decide +kernel) (pa_cons (pe_lc (own := [("_law_k", 1)]) (g := gName 1) (tt := tYes) rfl nd (pi_range1 rfl (fr.h _ (by decide +kernel)) (pa_cons (pe_callB (call_max2 rfl) rfl (fr.h _ (by decide +kernel)) (by decide +kernel) (pa_cons pe_int (pa_cons (pe_callB (call_min2 rfl) rfl (fr.h _ (by decide +kernel)) (by decide +kernel) (pa_cons (pe_callB (lenK isk) rfl (fr.h _ (by decide +kernel)) (by decide +kernel) (pa_cons (pv 0) pa_nil)) (pa_cons pe_int pa_nil))) pa_nil))) pa_nil)) (blkOk_by (N := nLaw) (sc := defScope (top 64)) (by decide +kernel))
          (fun _ _ _ _ _ => pg_name (i := 1) nd rfl (Or.inl rfl)) (fun _ _ _ _ _ => pts_nil) (fun _ _ _ _ _ => pe_dnG D1 hG hr (by rfl) (by decide) (pa_cons (pe_dn D0 hr (by rfl) (by decide) (pa_cons (pv 0) (pa_cons (pv 1) pa_nil))) pa_nil))) pa_nil))), ?_⟩
    have gs : ∃ G : Hp → Prop, G H ∧ (∀ H', G H' → SqL K H' a (ns.map V.int)) ∧ ∀ H1 H2, G H1 → (∀ o, H1 a = some o → H2 a = some o) → G H2 := by
      rcases sq with (h | ⟨o, h⟩) | h
      · exact ⟨fun H' => H' a = some (.lst (ns.map V.int)), h, fun H' h => .inl (.inl h), fun H1 H2 g k => k _ g⟩
      · exact ⟨fun H' => H' a = some (.frz o (.lst (ns.map V.int))), h, fun H' h => .inl (.inr ⟨o, h⟩), fun H1 H2 g k => k _ g⟩
      · exact ⟨fun _ => True, trivial, fun H' _ => .inr h, fun _ _ _ _ => trivial⟩
    obtain ⟨G, g0, g1, g2⟩ := gs
    obtain ⟨m, em, m0, m6⟩ : ∃ m : Int, (if (if (6 : Int) < ((ns.map V.int).length : Int) then (6 : Int) else ((ns.map V.int).length : Int)) > 1 then (if (6 : Int) < ((ns.map V.int).length : Int) then (6 : Int) else ((ns.map V.int).length : Int)) else (1 : Int)) = m ∧ 0 ≤ m ∧ m ≤ 6 :=
      ⟨_, rfl, by split <;> split <;> omega, by split <;> split <;> omega⟩
    refine ⟨_, rfl, .inl ⟨a, _, rfl, .inl sq, _, 6, rfl, 1, _, rfl, m, congrArg (fun z => [V.int z]) em, by omega, by omega, fun D hD => ?_⟩⟩
    refine lc_range (lo := 0) (n := m.toNat) (fun j H' => H' D = some (.lst ((List.replicate j true).map V.bl)) ∧ ∀ o, H a = some o → H' a = some o) ⟨upd_same, fun o h => Am.Ext.new hD _ _ h⟩ ?_ ?_
    · rintro j H3 hj ⟨d3, a3⟩
      have big : (10000 : Nat) < sizeLine := by decide
      refine ⟨rfl, _, rfl, _, rfl, a, ns, (0 : Int) + (j : Int), rfl, g1 _ (g2 _ _ g0 a3), by omega, by omega, fun p H2 np sm pt => ?_⟩
      have nDp : D ≠ p := ne_of_none d3 np
      refine ⟨p, rfl, pt, fun H4 k4 => ?_⟩
      have d4 := k4.at nDp (sm _ _ d3)
      refine ⟨_, d4, ?_, ?_, fun o h => ?_⟩
      · simp only [List.length_map, List.length_replicate]
        omega
      · rw [upd_same, List.replicate_succ', List.map_append]
        rfl
      · rw [upd_ne (ne_of_none h hD)]
        exact k4.at (ne_of_none (a3 o h) np) (sm _ _ (a3 o h))
    · rintro H3 ⟨d3, a3⟩
      refine ⟨D, List.replicate m.toNat true, rfl, SqL.of d3, ?_⟩
      rw [all_rep]
      exact q _
end
end KD

set_option Elab.async false
set_option linter.all false
set_option maxRecDepth 100000
set_option maxHeartbeats 1000000
/-! How the rules' makers bind what they are called with. -/
namespace KB
open PySem PySem.Spec PyProof.Rows L2 Oo Gd Am KA SqX KD
section
variable {K : W.Frag} {f tp : Addr} {fd : FuncData}
theorem vals_rev : ∀ {vs : List V} {us : List Value}, Vals vs us → Vals vs.reverse us.reverse
  | _, _, .nil => .nil
  | _, _, .cons h r => by
    rw [List.reverse_cons, List.reverse_cons]
    exact (vals_rev r).append (.cons h .nil)
theorem vals_pm4 {vs zs : List V} {us ws : List Value} (a : Vals vs us) (b : Vals zs ws) : Vals (pm4 vs zs) (pm4 us ws) := by
  cases b with
  | nil => exact a.append .nil
  | cons b1 b => cases b with
    | nil => exact a.append (.cons b1 .nil)
    | cons b2 b => cases b with
      | nil => exact a.append (.cons b1 (.cons b2 .nil))
      | cons b3 b => cases b with
        | nil => exact a.append (.cons b1 (.cons b2 (.cons b3 .nil)))
        | cons b4 b => cases b with
          | nil => exact a.append (.cons b4 (.cons b2 (.cons b1 (.cons b3 .nil))))
          | cons b5 b => exact a.append (.cons b1 (.cons b2 (.cons b3 (.cons b4 (.cons b5 b)))))
/-- Total(w, t, ways = ..), Total(ways = .., total = .., weights = ..), Total(w) -/
theorem tot_binds (F : FunIT K f fd) : KBn K fd ["self", "weights", "total", "ways"] 3 [("ways" : Str)] (fun us ws => us ++ ws) (fun us ws => us ++ ws) ∧ KBn K fd ["self", "weights", "total", "ways"] 1 [("ways" : Str), "total", "weights"] (fun us ws => us ++ ws.reverse) (fun us ws => us ++ ws.reverse) ∧
    ∃ ds, Vals [V.int 0, V.non] ds ∧ Binds K fd ["self", "weights", "total", "ways"] ds := by
  refine ⟨?_, ?_, ?_⟩
  · obtain ⟨its, k⟩ := F.kbindsD (ps := ["self", "weights", "total", "ways"]) 3 [("ways" : Str)] (fun us _ ws => us ++ ws) (by decide) (fun a _ b => a.append b) (fun T kV doc pm an cdv ct us its ws l1 l2 l3 => by
      match us, l1, its, l2, ws, l3 with
      | [a, b, c], _, [d], _, [e], _ => exact ⟨_, rfl, rfl⟩)
    exact k
  · obtain ⟨its, k⟩ := F.kbindsD (ps := ["self", "weights", "total", "ways"]) 1 [("ways" : Str), "total", "weights"] (fun us _ ws => us ++ ws.reverse) (by decide) (fun a _ b => a.append (vals_rev b)) (fun T kV doc pm an cdv ct us its ws l1 l2 l3 => by
      match us, l1, its, l2, ws, l3 with
      | [a], _, [d], _, [e1, e2, e3], _ => exact ⟨_, rfl, rfl⟩)
    exact k
  · exact F.binds (ps := ["self", "weights", "total", "ways"]) 2 0 (by decide) (by decide) (fun T D doc pm an cdv ct us its ks l1 l2 l3 => by
      match us, l1, its, l2, ks, l3 with
      | [a, b], _, [c], _, [d], _ => exact ⟨_, rfl, ⟨_, _, _, _, _, _, rfl, rfl, rfl⟩⟩) (by decide)
theorem pro_binds (F : FunIP K tp f fd) : KBn K fd nInP 4 [("ways" : Str)] (fun us ws => us ++ ws) (fun us ws => us ++ ws) ∧ KBn K fd nInP 1 [("factor" : Str), "right", "ways", "left"] pm4 pm4 ∧ (∃ ds, Vals [V.ref tp, V.int 1, V.non] ds ∧ Binds K fd nInP ds) ∧ ∃ ds, Vals [V.int 1, V.non] ds ∧ Binds K fd nInP ds := by
  refine ⟨?_, ?_, ?_, ?_⟩
  · obtain ⟨its, k⟩ := F.kbindsD (ps := nInP) 4 [("ways" : Str)] (fun us _ ws => us ++ ws) (by simp) (fun a _ b => a.append b) (fun T kV doc pm an cdv ct us its ws l1 l2 l3 => by
      match us, l1, its, l2, ws, l3 with
      | [a, b, c, d], _, [d1, d2], _, [e], _ => exact ⟨_, rfl, rfl⟩)
    exact k
  · obtain ⟨its, k⟩ := F.kbindsD (ps := nInP) 1 [("factor" : Str), "right", "ways", "left"] (fun us _ ws => pm4 us ws) (by simp) (fun a _ b => vals_pm4 a b) (fun T kV doc pm an cdv ct us its ws l1 l2 l3 => by
      match us, l1, its, l2, ws, l3 with
      | [a], _, [d1, d2], _, [e1, e2, e3, e4], _ => exact ⟨_, rfl, rfl⟩)
    exact k
  · exact F.binds (ps := nInP) 2 0 (by simp) rfl (fun T D doc pm an cdv ct us its ks l1 l2 l3 => by
      match us, l1, its, l2, ks, l3 with
      | [a, b], _, [c, c2], _, [d], _ => exact ⟨_, rfl, ⟨_, _, _, _, _, _, rfl, rfl, rfl⟩⟩) (by decide)
  · exact F.binds (ps := nInP) 3 1 (by simp) rfl (fun T D doc pm an cdv ct us its ks l1 l2 l3 => by
      match us, l1, its, l2, ks, l3 with
      | [a, b, b2], _, [c, c2], _, [d], _ => exact ⟨_, rfl, ⟨_, _, _, _, _, _, rfl, rfl, rfl⟩⟩) (by decide)
theorem lo_binds (F : FunIL K f fd) : KBn K fd ["self", "fields", "ways"] 2 [("ways" : Str)] (fun us ws => us ++ ws) (fun us ws => us ++ ws) ∧ KBn K fd ["self", "fields", "ways"] 1 [("ways" : Str), "fields"] (fun us ws => us ++ ws.reverse) (fun us ws => us ++ ws.reverse) ∧
    ∃ ds, Vals [V.non] ds ∧ Binds K fd ["self", "fields", "ways"] ds := by
  refine ⟨?_, ?_, ?_⟩
  · obtain ⟨mv, k⟩ := F.kbinds0 (ps := ["self", "fields", "ways"]) 2 [("ways" : Str)] [] (fun us _ ws => us ++ ws) (by decide) (fun q h => nomatch h) (fun a _ b => a.append b) (fun D doc pm an cdv ct us mv ws l1 l2 l3 => by
      match us, l1, mv, l2, ws, l3 with
      | [a, b], _, [], _, [e], _ => exact rfl)
    exact k
  · obtain ⟨mv, k⟩ := F.kbinds0 (ps := ["self", "fields", "ways"]) 1 [("ways" : Str), "fields"] [] (fun us _ ws => us ++ ws.reverse) (by decide) (fun q h => nomatch h) (fun a _ b => a.append (vals_rev b)) (fun D doc pm an cdv ct us mv ws l1 l2 l3 => by
      match us, l1, mv, l2, ws, l3 with
      | [a], _, [], _, [e1, e2], _ => exact rfl)
    exact k
  · exact F.binds0 (ps := ["self", "fields", "ways"]) 2 (by decide) (by decide) (fun D doc pm an cdv ct us ks l1 l2 => by
      match us, l1, ks, l2 with
      | [a, b], _, [d], _ => exact ⟨_, _, _, _, _, _, rfl, rfl, rfl⟩)
end
end KB

set_option Elab.async false
set_option linter.all false
set_option maxRecDepth 100000
set_option maxHeartbeats 2000000
/-! The end of a law of ours that makes code objects: several tables, no repr under way, no limit of digits. -/
namespace Gd
open PySem PySem.Spec PyProof.Rows L2
/-- where the module of the built-ins stands -/
def Bltn (mg : Str → Option Value) (h : Heap) : Prop := ∃ (m : Addr) (u : Obj), mg "__builtins__" = some (.ref m) ∧ m ≠ builtinsNs ∧ h.get? m = some u ∧ u.cls = .type "module" ∧ u.dict = some builtinsNs ∧ u.data = .plain
abbrev noTab : Obj := { cls := .none, data := .fields #[] }
theorem lawGTs {P : Program} {w : World} {K : PySem.W.Frag} {mg mb : Str → Option Value} {k : Nat} {fa a : Addr} {cf : Addr → Addr} {T : List (Addr × Str)} {fd : FuncData} {x : Str} {sp : Sp} {s₁ : Shared} {vs : List Value} {ns : List Int}
    (inK : K.In s₁.heap) (hmg : s₁.heap.Ns mainGlobals mg) (hmb : s₁.heap.Ns builtinsNs mb) (hbt : ∀ y : Str, y ≠ "__name__" → mb y = bootBuiltins y) (lim : s₁.heap.NoLimit) (dig : s₁.heap.NoDigits) (hbm : Bltn mg s₁.heap) (hgen : s₁.gens = #[])
    (tab : ∀ p ∈ T.map (·.1), s₁.heap.get? p = some noTab) (out : ∀ p ∈ T.map (·.1), K.lookup p = none) (head : ∀ p ∈ T.map (·.1), PySem.W.CodeHd s₁.heap (cf p) p)
    (hobj : s₁.heap.get? a = some { cls := .type "list", data := .seq vs.toArray }) (hints : IntsAre vs ns) (hlen : ns.length ≤ sizeLine) (room : Room k callerA)
    (F : ∀ base : Heap, K.In base → base.Ns mainGlobals mg → base.NoDigits → (∀ p ∈ T.map (·.1), LamX.TabB base mg (cf p) p) → FnG P w K mg base CX0 k fa fd [x] sp) (hbd : ∀ (s : Shared) (u : Value), BindsTo s fd ⟨[u], []⟩ [(x, u)])
    (hsp : ∀ H : Hp, LamX.Tabs T H → SqL K H a (ns.map V.int) → sp [.ref a] H (fun v _ => v = .bl true) fun _ _ _ => False) :
    codeAny (model P w) callerA (.call (.ref fa) ⟨[.ref a], []⟩) (fun r s' => r = .ok (.ret (.bool true)) ∧ OldK s₁.heap s'.heap ∧ s'.os = s₁.os ∧ AllBare s'.gens) s₁ := by
  have rv := vals_ints hints
  have nvs := hints.length
  have nap : a ∉ T.map (·.1) := fun e => by
    rw [tab a e] at hobj
    have z : Data.fields #[] = Data.seq vs.toArray _ := congrArg Obj.data (Option.some.inj hobj)
    cases z
  have core : ∀ H : Hp, (∀ p ∈ T.map (·.1), H p = some (.tbl #[])) → (∀ b, b ∉ T.map (·.1) → H b = none ∨ ∃ ob xs, H b = some (.frz ob (.lst xs))) → SqL K H a (ns.map V.int) → HOk P w H s₁.heap → (∀ b, H b ≠ none → b = a ∨ b ∈ T.map (·.1)) → (H a ≠ none → K.lookup a = none) →
      codeAny (model P w) callerA (.call (.ref fa) ⟨[.ref a], []⟩) (fun r s' => r = .ok (.ret (.bool true)) ∧ OldK s₁.heap s'.heap ∧ s'.os = s₁.os ∧ AllBare s'.gens) s₁ := by
    intro H tp only sq hok onlyA notK
    have free_of : ∀ {b : Addr} {o : Obj}, s₁.heap.get? b = some o → (∀ us m, o.data ≠ .seq us m) → o.data ≠ .fields #[] → H b = none := by
      intro b o e no1 no2
      cases z : H b with
      | none => rfl
      | some u =>
        rcases onlyA b (by rw [z]; simp) with eb | eb
        · rw [eb, hobj] at e
          cases e
          exact absurd rfl (no1 _ _)
        · rw [tab b eb] at e
          cases e
          exact absurd rfl no2
    have dict_of : ∀ {b : Addr} {o : Obj} {es : Array DictEntry} {ep : Nat}, s₁.heap.get? b = some o → o.data = .dict es ep → H b = none := fun {b o es ep} e d =>
      free_of e (fun us m z => by rw [d] at z; cases z) (fun z => by rw [d] at z; cases z)
    have ns_of : ∀ {b : Addr} {m : Str → Option Value}, s₁.heap.Ns b m → (hidT s₁.heap H).Ns b m := by
      rintro b m ⟨o, es, ep, e, d, r⟩
      exact ⟨o, es, ep, hidT_get e (dict_of e d), d, r⟩
    have inB : K.In (hidT s₁.heap H) := by
      intro b o e
      refine hidT_get (inK b o e) ?_
      cases z : H b with
      | none => rfl
      | some u =>
        rcases onlyA b (by rw [z]; simp) with eb | eb
        · subst eb
          rw [notK (by rw [z]; simp)] at e
          cases e
        · rw [out b eb] at e
          cases e
    obtain ⟨mc, l1, l2⟩ := lim
    obtain ⟨md', d1, d2⟩ := dig
    have md : Mod K mg (hidT s₁.heap H) := ⟨inB, ns_of hmg, ⟨mb, ns_of hmb, hbt⟩, ⟨mc, ns_of l1, l2⟩⟩
    have nil : ∀ b : Addr, b ∉ ([] : List Addr) := fun b z => nomatch z
    have e0 : Env0 P w K mg (hidT s₁.heap H) callerA [] s₁ H :=
      ⟨rfl, md, fun b o e => of_hidT e, Nat.le_of_eq (hidT_size _ _), trivial, fun b hb => absurd (show b ∈ ([] : List Addr) from hb) (nil b), hok, .of_eq hgen⟩
    have gp : ∀ p ∈ T.map (·.1), mainGlobals ≠ p := fun p hp e => by
      obtain ⟨o, es, ep, e1, d, _⟩ := hmg
      rw [e, tab p hp] at e1
      cases e1
      cases d
    have tb : ∀ p ∈ T.map (·.1), LamX.TabB (hidT s₁.heap H) mg (cf p) p := by
      intro p hp
      refine ⟨?_, ?_, gp p hp⟩
      · obtain ⟨o, us, fi, tf, fl, tg, iF, tx, tt, e, r1, r2, r3, r⟩ := head p hp
        refine ⟨o, us, fi, tf, fl, tg, iF, tx, tt, hidT_get e (free_of e (fun us' m z => ?_) fun z => ?_), r1, r2, r3, r⟩
        · rw [r2] at z
          cases z
        · rw [r2] at z
          injection z with z
          rw [z] at r3
          cases r3
      · obtain ⟨m, u, b1, b2, b3, b4, b5, b6⟩ := hbm
        have n1 : m ≠ mainGlobals := fun e => by
          obtain ⟨o, es, ep, e1, d, _⟩ := hmg
          rw [e, e1] at b3
          cases b3
          rw [b6] at d
          cases d
        have n2 : m ≠ p := fun e => by
          rw [e, tab p hp] at b3
          cases b3
          cases b6
        exact ⟨m, u, b1, b2, n1, n2, hidT_get b3 (free_of b3 (fun us' m' z => by rw [b6] at z; cases z) fun z => by rw [b6] at z; cases z), b4, b5, b6⟩
    have tT : LamX.Tabs T H := fun r hr => LamX.TabS.nil (tp r.1 (List.mem_map_of_mem hr))
    refine codeAny_mono ((F _ inB (ns_of hmg) ⟨md', ns_of d1, d2⟩ tb).go callerA [] s₁ H ⟨[.ref a], []⟩ [.ref a] [.ref a] _ _ rfl room e0 (hbd s₁ (.ref a)) (.cons rfl .nil) (hsp H tT sq)) (fun r s2 z => ?_)
    cases r with
    | error er => exact z.elim
    | ok fl =>
      cases fl with
      | next => exact z.elim
      | brk => exact z.elim
      | cont => exact z.elim
      | ret u =>
        obtain ⟨v, H2, os, bare, un, hok2, rr, qq⟩ := z
        have ev : v = .bl true := qq
        subst ev
        obtain rfl : u = Value.bool true := rr
        have kept : ∀ b o, b ∉ T.map (·.1) → s₁.heap.get? b = some o → s2.heap.get? b = some o := fun b o nb e => by
          cases q2 : H b with
          | none => exact un.keep b o e q2 (nil b) (nil b)
          | some u =>
            cases only b nb with
            | inl z => rw [q2] at z; cases z
            | inr z =>
              obtain ⟨ob, xs, z⟩ := z
              obtain ⟨e1, _⟩ := hok b _ z
              obtain ⟨e2, _⟩ := hok2 b _ (un.frzs b ob _ z)
              rw [e] at e1
              cases e1
              exact e2
        refine ⟨rfl, ⟨fun b o e => ?_, fun b o e => ?_⟩, os, bare⟩
        · by_cases eb : b ∈ T.map (·.1)
          · obtain ⟨new, hn⟩ := un.tbls b #[] (tp b eb)
            have at2 := hok2 b _ hn
            rw [tab b eb] at e
            cases e
            refine .inr (.inl ⟨((head b eb).tab (tab b eb)).isCodeTable, rfl, #[], new, rfl, ?_⟩)
            rw [Array.empty_append] at at2 ⊢
            exact at2
          · exact .inl (kept b o eb e)
        · by_cases eb : b ∈ T.map (·.1)
          · obtain ⟨new, hn⟩ := un.tbls b #[] (tp b eb)
            exact ⟨_, hok2 b _ hn⟩
          · exact ⟨o, kept b o eb e⟩
  cases hk : K.lookup a with
  | some o =>
    have e := inK a o hk
    rw [hobj] at e
    cases e
    refine core (fun b => if b ∈ T.map (·.1) then some (.tbl #[]) else none) (fun p hp => if_pos hp) (fun b nb => .inl (if_neg nb)) (.inr ⟨_, vs.toArray, _, hk, rfl, rfl, rfl, by rw [List.size_toArray, nvs]; exact hlen, by simpa using rv⟩) (fun b u z => ?_) (fun b z => ?_) (fun z => absurd (if_neg nap) z)
    · by_cases eb : b ∈ T.map (·.1)
      · have z2 := (if_pos eb).symm.trans z
        cases z2
        exact tab b eb
      · have z2 := (if_neg eb).symm.trans z
        cases z2
    · by_cases eb : b ∈ T.map (·.1)
      · exact .inr eb
      · exact absurd (if_neg eb) z
  | none =>
    refine core (fun b => if b ∈ T.map (·.1) then some (.tbl #[]) else if b = a then some (.frz { cls := .type "list", data := .seq vs.toArray } (.lst (ns.map V.int))) else none) (fun p hp => if_pos hp) (fun b nb => ?_) (.inl (.inr ⟨_, (if_neg nap).trans (if_pos rfl)⟩)) (fun b u z => ?_) (fun b z => ?_) (fun _ => hk)
    · by_cases hb : b = a
      · exact .inr ⟨_, _, (if_neg nb).trans (if_pos hb)⟩
      · exact .inl ((if_neg nb).trans (if_neg hb))
    · by_cases eb : b ∈ T.map (·.1)
      · have z2 := (if_pos eb).symm.trans z
        cases z2
        exact tab b eb
      · have z1 := (if_neg eb).symm.trans z
        by_cases hb : b = a
        · have z2 := (if_pos hb).symm.trans z1
          cases z2
          subst hb
          exact ⟨hobj, by rw [List.length_map]; exact hlen, vs, _, rv, hobj⟩
        · have z2 := (if_neg hb).symm.trans z1
          cases z2
    · by_cases eb : b ∈ T.map (·.1)
      · exact .inr eb
      · by_cases hb : b = a
        · exact .inl hb
        · exact absurd ((if_neg eb).trans (if_neg hb)) z
/-- a law over a head by facts, a table told -/
theorem walkGTs {l : PySem.W.OpenLaw} {n k : Nat} {q : Program} {loose : List Str} {XP : (Str → Option Value) → Heap → Prop} {YP : World → Heap → Prop} {d : DefRec} {x : Str}
    (hn : l.most = some n) (hn2 : n ≤ sizeLine) (hdf : d.params.defaults = []) (room : Room k callerA)
    (F : ∀ (w : World) (mg : Str → Option Value) (fa : Addr) (h : Heap), YP w h → h.Ns mainGlobals mg → mg d.name = some (.ref fa) →
      ∃ (K : PySem.W.Frag) (fd : FuncData) (sp : Sp) (cf : Addr → Addr) (T : List (Addr × Str)), K.In h ∧ (∀ p ∈ T.map (·.1), h.get? p = some noTab) ∧ (∀ p ∈ T.map (·.1), K.lookup p = none) ∧ (∀ p ∈ T.map (·.1), PySem.W.CodeHd h (cf p) p) ∧ (∀ (s : Shared) (u : Value), BindsTo s fd ⟨[u], []⟩ [(x, u)]) ∧
        (∀ (H : Hp) (a : Addr) (ns : List Int), ns.length ≤ n → LamX.Tabs T H → SqL K H a (ns.map V.int) → sp [.ref a] H (fun v _ => v = .bl true) fun _ _ _ => False) ∧
        ∀ base : Heap, K.In base → base.Ns mainGlobals mg → base.NoDigits → (∀ p ∈ T.map (·.1), LamX.TabB base mg (cf p) p) → FnG l.prog w K mg base CX0 k fa fd [x] sp) :
    PySem.W.WalkO q loose XP YP l.row.toRowW d [] (fun f vs => PySem.call f vs) := by
  refine Att.attach_call hn hdf (fun w s₀ s₁ mg mb fa o pm cd doc a vs ns G Y ho hd hcd hmg hobj hints hlen hg => ?_)
  obtain ⟨K, fd, sp, cf, T, inK, tab, out, head, hbd, hsp, hF⟩ := F w mg fa _ Y G.T.g hmg
  exact lawGTs (T := T) inK G.T.g G.T.b G.T.builtins G.T.nolimit G.T.nodigits G.T.bmain hg tab out head hobj hints (Nat.le_trans hlen hn2) room hF hbd (fun H tT sq => hsp H a ns hlen tT sq)
end Gd

set_option Elab.async false
set_option linter.all false
set_option maxRecDepth 100000
set_option maxHeartbeats 1000000
namespace KB
open PySem PySem.Spec PyProof.Rows L2 Oo Gd Am KA
section
variable {K : W.Frag} {C Z ZA : Addr} {h : Heap} {mg : Str → Option Value}
theorem una_ok {m : Str} (e : unaB K C m = true) : W.findIn K (.ref C) m = some (some (.ref (He.ma K C m))) ∧ W.isFn K (.ref (He.ma K C m)) = true := let ⟨a, b⟩ := He.ba e; ⟨He.eqO_ok a, b⟩
theorem prop_ok {m : Str} (e : propB K C m = true) : PropOf K C m (He.ma K C m) (He5.wf K C "property" m) := by
  obtain ⟨a1, e⟩ := He.ba e
  obtain ⟨a2, e⟩ := He.ba e
  obtain ⟨a3, a4⟩ := He.ba e
  refine ⟨He.eqO_ok a1, He.eqO_ok a2, of_decide_eq_true a3, ?_⟩
  unfold He5.wf
  split at a4
  · rename_i f r z
    exact ⟨r, by rw [z]⟩
  · cases a4
theorem stat_ok {m : Str} (e : statB K C m = true) : ClX.CRead K C (.type "type") ∧ (W.findCls K (.ref C) (.type "type") m = some (.get (.builtin "staticmethod.__get__") (.ref (He.ma K C m)) .none (.ref C)) ∧ W.typeIn K (.ref C) = some (.type "type") ∧ (∃ rest, W.recIn K (He.ma K C m) "staticmethod" = some (.ref (He5.wf K C "staticmethod" m) :: rest)) ∧ W.keepIn K (.ref (He5.wf K C "staticmethod" m)) = true) := by
  obtain ⟨a1, e⟩ := He.ba e
  obtain ⟨a2, e⟩ := He.ba e
  obtain ⟨a3, e⟩ := He.ba e
  obtain ⟨a4, a5⟩ := He.ba e
  obtain ⟨b1, b2⟩ := He5.wrapB_ok a1
  exact ⟨⟨a4, He.eqO_ok a5⟩, b1, of_decide_eq_true a2, b2, a3⟩
theorem smet_ok {m : Str} (e : statB K C m = true) : SMet K C (.type "type") m (He.ma K C m) (He5.wf K C "staticmethod" m) := let ⟨_, b1, b2, b3, b4⟩ := stat_ok e; ⟨b1, b2, b3, b4⟩
theorem ns_ok {N : Addr} {es : Array DictEntry} {n : Str} {v : Value} (hf : ∃ oc od ep sl, K.lookup N = some ⟨oc, od, .dict es ep, sl⟩) (e : W.nsIn K N n = some (some v)) : nsFind es n = some v := by
  obtain ⟨oc, od, ep, sl, q⟩ := hf
  unfold W.nsIn at e
  rw [q] at e
  dsimp only at e
  split at e
  · rename_i en he
    cases e
    unfold nsFind findBy
    rw [← Array.find?_toList, he]
    rfl
  · split at e <;> cases e
theorem ns_no {N : Addr} {es : Array DictEntry} {n : Str} (hf : ∃ oc od ep sl, K.lookup N = some ⟨oc, od, .dict es ep, sl⟩) (e : W.nsIn K N n = some none) : nsFind es n = none := by
  obtain ⟨oc, od, ep, sl, q⟩ := hf
  unfold W.nsIn at e
  rw [q] at e
  dsimp only at e
  split at e
  · cases e
  · rename_i he
    unfold nsFind findBy
    rw [← Array.find?_toList, he]
    rfl
theorem slots_of {sl : Array (Option Value)} (h : (match sl.toList with
      | [_, _, _, _, some (.builtin _), _] => true
      | _ => false) = true) : ∃ k0 k1 k2 k3 k5 n, sl = #[k0, k1, k2, k3, some (.builtin n), k5] := by
  split at h
  · rename_i k0 k1 k2 k3 n k5 z
    refine ⟨k0, k1, k2, k3, k5, n, ?_⟩
    have y := congrArg List.toArray z
    rwa [Array.toArray_toList] at y
  · cases h
theorem eqc_ok (e : eqcB K C = true) (fn : W.isFn K (.ref (He.ma K C "__eq__")) = true) (h : Heap) (x dx : Addr) (X : K.In h) (hx : h.get? x = some (W.instObj C dx)) : h.OwnEqNoNe x C (He.ma K C "__eq__") "object" [.type "object"] := by
  unfold eqcB at e
  split at e
  · rename_i t dd cd sl hC
    obtain ⟨a1, e⟩ := He.ba e
    obtain ⟨a2, e⟩ := He.ba e
    obtain ⟨a3, e⟩ := He.ba e
    obtain ⟨a4, e⟩ := He.ba e
    obtain ⟨a5, e⟩ := He.ba e
    obtain ⟨a6, a7⟩ := He.ba e
    split at a7
    · rename_i oc od es ep osl hN
      have hN' : ∃ oc od ep sl, K.lookup cd.ns = some ⟨oc, od, .dict es ep, sl⟩ := ⟨_, _, _, _, hN⟩
      obtain ⟨k0, k1, k2, k3, k5, n, rfl⟩ := slots_of a4
      obtain ⟨nm, bs, mro, ns, qn, hdct, sn, sub, ab, col, hd⟩ := cd
      have m1 : mro = [.ref C, .type "object"] := of_decide_eq_true a2
      subst m1
      have m2 : hd = false := by simpa using a3
      subst m2
      have t1 : t = "type" := of_decide_eq_true a1
      subst t1
      have f1 : ((K.lookup (He.ma K C "__eq__")).map (·.cls) == some (Value.type "function")) = true := fn
      cases q : K.lookup (He.ma K C "__eq__") with
      | none => rw [q] at f1; cases f1
      | some of =>
        rw [q] at f1
        have f2 : of.cls = .type "function" := by
          have : (some of.cls == some (Value.type "function")) = true := f1
          simpa using this
        refine ⟨_, of, nm, qn, ns, bs, hdct, sn, sub, ab, col, dd, k0, k1, k2, k3, k5, n, nsFind es, _, hx, rfl, X _ _ hC, ⟨_, es, ep, X _ _ hN, rfl, ?_, fun _ => rfl⟩, ns_ok hN' (He.eqO_ok a5), X _ _ q, f2, PySem.F.cmp_object.mro, rfl, ns_no hN' (He.eqO_ok a6)⟩
        intro en hen
        have k := List.all_eq_true.mp a7 en (Array.mem_toList_iff.mpr hen)
        split at k
        · rename_i s tk z
          exact ⟨s, tk, z⟩
        · cases k
    · cases a7
  · cases e
end
end KB

set_option Elab.async false
set_option linter.all false
set_option maxRecDepth 100000
set_option maxHeartbeats 1000000
namespace KB
open PySem PySem.Spec PyProof.Rows L2 Oo Gd Am KA SqX KD
section
variable {K : W.Frag} {C D1 D2 R Z ZA : Addr} {h : Heap} {mg : Str → Option Value}
structure ClsF (K : W.Frag) (C : Addr) : Prop where
  ha : W.findIn K (.ref C) "__class__" = some (some (.builtin "object.__class__"))
  hn : W.specialIn K (.builtin "object.__class__") "__get__" = some (some (.builtin "getset_descriptor.__get__"))
  tk : W.takesIn K (.builtin "object.__class__") = some true
  ob : W.mroIn K C (.type "object") = some true
  me : W.kitOne K (.ref C) (.ref C) = some true
  kI : W.kitOne K (.type "int") (.ref C) = some false
theorem cls_ok (e : clsB K C = true) : ClsF K C := by
  obtain ⟨a1, e⟩ := He.ba e
  obtain ⟨a2, e⟩ := He.ba e
  obtain ⟨a3, e⟩ := He.ba e
  obtain ⟨a4, e⟩ := He.ba e
  obtain ⟨a5, a6⟩ := He.ba e
  exact ⟨He.eqO_ok a1, He.eqO_ok a2, of_decide_eq_true a3, of_decide_eq_true a4, of_decide_eq_true a5, of_decide_eq_true a6⟩
structure RuF (K : W.Frag) (C D1 D2 R : Addr) : Prop where
  ha : W.findIn K (.ref C) "__class__" = some (some (.builtin "object.__class__"))
  ob : W.mroIn K C (.type "object") = some true
  me : W.kitOne K (.ref C) (.ref C) = some true
  k1 : W.kitOne K (.ref C) (.ref D1) = some false
  k2 : W.kitOne K (.ref C) (.ref D2) = some false
  kr : W.kitOne K (.ref C) (.ref R) = some true
  s1 : W.subIn K (.ref D1) (.ref C) = some false
  s2 : W.subIn K (.ref D2) (.ref C) = some false
  ty : W.typeIn K (.ref C) = some (.type "type")
  cs : (W.clsIn K C).isSome = true
  ne : W.findIn K (.ref C) "__ne__" = some (some (.builtin "object.__ne__"))
  so : W.subIn K (.ref C) (.type "object") = some true
  eq : W.findIn K (.ref C) "__eq__" = some (some (.ref (He.ma K C "__eq__"))) ∧ W.isFn K (.ref (He.ma K C "__eq__")) = true
  rp : W.findIn K (.ref C) "__repr__" = some (some (.ref (He.ma K C "__repr__"))) ∧ W.isFn K (.ref (He.ma K C "__repr__")) = true
theorem ru_ok (e : ruB K C D1 D2 R = true) : RuF K C D1 D2 R := by
  obtain ⟨a1, e⟩ := He.ba e
  obtain ⟨a2, e⟩ := He.ba e
  obtain ⟨a3, e⟩ := He.ba e
  obtain ⟨a4, e⟩ := He.ba e
  obtain ⟨a5, e⟩ := He.ba e
  obtain ⟨a6, e⟩ := He.ba e
  obtain ⟨a7, e⟩ := He.ba e
  obtain ⟨a8, e⟩ := He.ba e
  obtain ⟨a9, e⟩ := He.ba e
  obtain ⟨a10, e⟩ := He.ba e
  obtain ⟨a11, e⟩ := He.ba e
  obtain ⟨a12, e⟩ := He.ba e
  obtain ⟨a13, a14⟩ := He.ba e
  exact ⟨He.eqO_ok a1, of_decide_eq_true a2, of_decide_eq_true a3, of_decide_eq_true a4, of_decide_eq_true a5, of_decide_eq_true a6, of_decide_eq_true a7, of_decide_eq_true a8, of_decide_eq_true a9, a10, He.eqO_ok a11, of_decide_eq_true a12, una_ok a13, una_ok a14⟩
theorem cl2_of (cl : Cls K C) (c : ClsF K C) : Cl2 K C := ⟨⟨cl, c.ha, c.hn, c.tk, c.ob, c.me⟩, c.kI⟩
theorem ins_of {A : Addr} (cl : Cls K C) (r : RuF K C D1 D2 R) (c : ClsF K A) : C8.InsC K C := ⟨cl, r.ha, c.hn, c.tk, r.ob, r.me⟩
theorem empty_ok {a : Addr} (e : emptyB K a = true) (H : Hp) : SeqH K H a [] := by
  unfold emptyB at e
  split at e
  · rename_i t od its n sl q
    obtain ⟨e1, e2⟩ := He.ba e
    have t1 := of_decide_eq_true e1
    subst t1
    have e3 : its.toList = [] := List.isEmpty_iff.mp e2
    refine .inr (.inr ⟨_, its, n, q, rfl, rfl, ?_, by rw [e3]; exact .nil⟩)
    have : its.size = 0 := by rw [← Array.length_toList, e3]; rfl
    rw [this]
    exact Nat.zero_le _
  · cases e
end
section
variable {K : W.Frag} {x qual : Str} {st : Stmt} {f : Addr} {fd : FuncData}
/-- Amount(n, d) | Amount(n) | Amount(bottom = d, top = n) -/
theorem init_binds (F : FunI K f fd) : Binds K fd ["self", "top", "bottom"] [] ∧ (∃ ds, Vals [V.int 1] ds ∧ Binds K fd ["self", "top", "bottom"] ds) := by
  refine ⟨?_, ?_⟩
  · obtain ⟨ds, v, b⟩ := F.binds1 (ps := ["self", "top", "bottom"]) 3 1 (by decide) (by decide) (fun T kV doc pm an cdv ct us its l1 l2 => by
      match us, l1, its, l2 with
      | [a, b, c], _, [d], _ => exact ⟨_, rfl, rfl⟩)
    cases v
    exact b
  · exact F.binds1 (ps := ["self", "top", "bottom"]) 2 0 (by decide) (by decide) (fun T kV doc pm an cdv ct us its l1 l2 => by
      match us, l1, its, l2 with
      | [a, b], _, [c], _ => exact ⟨_, rfl, rfl⟩)
end
end KB

set_option Elab.async false
set_option linter.all false
set_option maxRecDepth 100000
set_option maxHeartbeats 4000000
namespace KB
open PySem PySem.Spec PyProof.Rows L2 Oo Gd Am KA SqX KD
theorem factM {K : W.Frag} (c : He5.SaysA fa fn K) {f : He.Fa} (h : f ∈ fa) : f.ok K = true := by
  have c1 := (He.ba (show ((fa.all fun f => f.ok K) && fn.all fun d => d.ok K) = true from congrArg (fun z : He.AlD => z.1) c)).1
  exact List.all_eq_true.mp c1 f h
theorem facts {P : Program} {w : World} {K : W.Frag} {h : Heap} {mg : Str → Option Value} (X : K.In h) (G : h.Ns mainGlobals mg) (S : SayK K) :
    mg ("law" : Str) = some (.ref (He.ga K "law")) ∧ ∃ fd : FuncData, (∀ (s : Shared) (v : Value), BindsTo s fd ⟨[v], []⟩ [("_law_script", v)]) ∧
      ∀ base : Heap, K.In base → base.Ns mainGlobals mg → base.NoDigits → FnG P w K mg base CX0 10 (He.ga K "law") fd ["_law_script"] (KD.spLaw K) := by
  have fr : Frees mg := ⟨fun x hx => He.free_ok X G (factM S.a (f := .free x) (List.mem_append_right _ (List.mem_append_left _ (List.mem_map_of_mem (List.contains_iff_mem.mp hx)))))⟩
  have gw : ∀ x, (ownNames ++ lawNames ++ [("law" : Str)]).contains x = true → mg x = some (.ref (He.ga K x)) := fun x hx => He.glo_ok X G (factM S.a (f := .glo x) (List.mem_append_left _ (List.mem_map_of_mem (List.contains_iff_mem.mp hx))))
  have rest : ∀ f : He.Fa, f ∈ ([.int "LONGEST_NAME" 8, .str "LETTERS" "abcdefghijklmnopqrstuvwxyz", .str "NAME_SIGNS" "abcdefghijklmnopqrstuvwxyz0123456789", .cls "Amount", .noat "Amount" "_top", .noat "Amount" "_bottom", .mkr "Amount",
      .cls "Total", .cls "Product", .cls "Loose", .mkr "Total", .mkr "Product", .mkr "Loose", .meth "Total" "text", .meth "Product" "text", .meth "Loose" "text"] : List He.Fa) → f.ok K = true := fun f hf => factM S.a (List.mem_append_right _ (List.mem_append_right _ (List.mem_append_left _ hf)))
  have noT : ∀ x ∈ (["_fields", "_ways", "_weights", "_total", "_factor", "_left", "_right"] : List Str), NoAttr K (kT K) x := fun x hx => He.noat_ok (factM S.a (f := .noat "Total" x) (List.mem_append_right _ (List.mem_append_right _ (List.mem_append_right _ (List.mem_append_left _ (List.mem_map_of_mem hx))))))
  have noP : ∀ x ∈ (["_fields", "_ways", "_weights", "_total", "_factor", "_left", "_right"] : List Str), NoAttr K (kP K) x := fun x hx => He.noat_ok (factM S.a (f := .noat "Product" x) (List.mem_append_right _ (List.mem_append_right _ (List.mem_append_right _ (List.mem_append_right _ (List.mem_append_left _ (List.mem_map_of_mem hx)))))))
  have noL : ∀ x ∈ (["_fields", "_ways", "_weights", "_total", "_factor", "_left", "_right"] : List Str), NoAttr K (kL K) x := fun x hx => He.noat_ok (factM S.a (f := .noat "Loose" x) (List.mem_append_right _ (List.mem_append_right _ (List.mem_append_right _ (List.mem_append_right _ (List.mem_append_right _ (List.mem_map_of_mem hx)))))))
  obtain ⟨tk1, m8⟩ := He.int_ok X G (rest (.int "LONGEST_NAME" 8) (by simp))
  obtain ⟨tk2, mLet⟩ := He.str_ok X G (rest (.str "LETTERS" "abcdefghijklmnopqrstuvwxyz") (by simp))
  obtain ⟨tk3, mSig⟩ := He.str_ok X G (rest (.str "NAME_SIGNS" "abcdefghijklmnopqrstuvwxyz0123456789") (by simp))
  have cls := He.cls_ok (rest (.cls "Amount") (by simp))
  have T : Cl K (kC K) := ⟨cls, He.noat_ok (rest (.noat "Amount" "_top") (by simp)), He.noat_ok (rest (.noat "Amount" "_bottom") (by simp))⟩
  have mMk := He.mkr_ok (rest (.mkr "Amount") (by simp))
  have clT := He.cls_ok (rest (.cls "Total") (by simp))
  have clP := He.cls_ok (rest (.cls "Product") (by simp))
  have clL := He.cls_ok (rest (.cls "Loose") (by simp))
  have mkT := He.mkr_ok (rest (.mkr "Total") (by simp))
  have mkP := He.mkr_ok (rest (.mkr "Product") (by simp))
  have mkL := He.mkr_ok (rest (.mkr "Loose") (by simp))
  have mtT := He.meth_ok (rest (.meth "Total" "text") (by simp))
  have mtP := He.meth_ok (rest (.meth "Product" "text") (by simp))
  have mtL := He.meth_ok (rest (.meth "Loose" "text") (by simp))
  have crT : ClR K (kT K) := ⟨clT, noT⟩
  have crP : ClR K (kP K) := ⟨clP, noP⟩
  have crL : ClR K (kL K) := ⟨clL, noL⟩
  obtain ⟨x1, ex⟩ := He.ba S.ex
  obtain ⟨x2, ex⟩ := He.ba ex
  obtain ⟨x3, ex⟩ := He.ba ex
  obtain ⟨x4, ex⟩ := He.ba ex
  obtain ⟨x5, ex⟩ := He.ba ex
  obtain ⟨x6, ex⟩ := He.ba ex
  obtain ⟨x7, ex⟩ := He.ba ex
  obtain ⟨x8, ex⟩ := He.ba ex
  obtain ⟨x9, ex⟩ := He.ba ex
  obtain ⟨x10, ex⟩ := He.ba ex
  obtain ⟨x11, ex⟩ := He.ba ex
  obtain ⟨x12, x13⟩ := He.ba ex
  have mG : mg "gcd" = some (.builtin "math.gcd") := W.mg_of X G (He.eqO_ok x13)
  have una : ∀ m, m ∈ (["__eq__", "__str__", "__repr__"] : List String) → W.findIn K (.ref (kC K)) (Str.ofString m) = some (some (.ref (He.ma K (kC K) (Str.ofString m)))) ∧ W.isFn K (.ref (He.ma K (kC K) (Str.ofString m))) = true := fun m hm => una_ok (List.all_eq_true.mp x1 m hm)
  have prp : ∀ m, m ∈ (["top", "bottom", "sign"] : List String) → PropOf K (kC K) (Str.ofString m) (He.ma K (kC K) (Str.ofString m)) (He5.wf K (kC K) "property" (Str.ofString m)) := fun m hm => prop_ok (List.all_eq_true.mp x2 m hm)
  have prT : ∀ m, m ∈ (["fields", "ways", "weights", "total"] : List String) → PropOf K (kT K) (Str.ofString m) (He.ma K (kT K) (Str.ofString m)) (He5.wf K (kT K) "property" (Str.ofString m)) := fun m hm => prop_ok (List.all_eq_true.mp x6 m hm)
  have prP : ∀ m, m ∈ (["fields", "ways", "left", "right", "factor"] : List String) → PropOf K (kP K) (Str.ofString m) (He.ma K (kP K) (Str.ofString m)) (He5.wf K (kP K) "property" (Str.ofString m)) := fun m hm => prop_ok (List.all_eq_true.mp x7 m hm)
  have prL : ∀ m, m ∈ (["fields", "ways"] : List String) → PropOf K (kL K) (Str.ofString m) (He.ma K (kL K) (Str.ofString m)) (He5.wf K (kL K) "property" (Str.ofString m)) := fun m hm => prop_ok (List.all_eq_true.mp x8 m hm)
  have sm := smet_ok x3
  have cr := (stat_ok x3).1
  have cF := cls_ok x5
  have T2 : Cl2 K (kC K) := cl2_of cls cF
  have rT := ru_ok x9
  have rP := ru_ok x10
  have rL := ru_ok x11
  have iT := ins_of clT rT cF
  have iP := ins_of clP rP cF
  have iL := ins_of clL rL cF
  have kk : KK K (kT K) (kP K) (kL K) (kR K) := ⟨iT, iP, iL, rT.k1, rT.k2, rP.k1, rP.k2, rL.k1, rL.k2, rT.kr, rP.kr, rL.kr⟩
  have gA := gw "Amount" (by decide +kernel)
  have gT := gw "Total" (by decide +kernel)
  have gP := gw "Product" (by decide +kernel)
  have gL := gw "Loose" (by decide +kernel)
  have gR := gw "Rule" (by decide +kernel)
  obtain ⟨d_is_whole, E_is_whole⟩ := S.a.def_ 0 (d := ⟨fun K => He.ga K "is_whole", "is_whole", "is_whole", defArgs (top 15), defBody (top 15), defScope (top 15), [], []⟩) rfl
  have E_is_whole : FunD K "is_whole" "is_whole" (defArgs (top 15)) (defBody (top 15)) (defScope (top 15)) [] [] (He.ga K "is_whole") d_is_whole := E_is_whole
  have F_is_whole : Fun K "is_whole" "is_whole" (top 15) (He.ga K "is_whole") d_is_whole := He5.fun_of E_is_whole
  have b_is_whole : Binds K d_is_whole ["value"] [] := E_is_whole.bindsN (ps := ["value"]) (fun kV doc pm an cdv ct us l => by
    match us, l with
    | [a], _ => rfl)
  obtain ⟨d_is_name, E_is_name⟩ := S.a.def_ 1 (d := ⟨fun K => He.ga K "is_name", "is_name", "is_name", defArgs (top 17), defBody (top 17), defScope (top 17), [], []⟩) rfl
  have E_is_name : FunD K "is_name" "is_name" (defArgs (top 17)) (defBody (top 17)) (defScope (top 17)) [] [] (He.ga K "is_name") d_is_name := E_is_name
  have F_is_name : Fun K "is_name" "is_name" (top 17) (He.ga K "is_name") d_is_name := He5.fun_of E_is_name
  have b_is_name : Binds K d_is_name ["value"] [] := E_is_name.bindsN (ps := ["value"]) (fun kV doc pm an cdv ct us l => by
    match us, l with
    | [a], _ => rfl)
  obtain ⟨d_is_list, E_is_list⟩ := S.a.def_ 2 (d := ⟨fun K => He.ga K "is_list", "is_list", "is_list", defArgs (top 18), defBody (top 18), defScope (top 18), [], []⟩) rfl
  have E_is_list : FunD K "is_list" "is_list" (defArgs (top 18)) (defBody (top 18)) (defScope (top 18)) [] [] (He.ga K "is_list") d_is_list := E_is_list
  have F_is_list : Fun K "is_list" "is_list" (top 18) (He.ga K "is_list") d_is_list := He5.fun_of E_is_list
  have b_is_list : Binds K d_is_list ["value"] [] := E_is_list.bindsN (ps := ["value"]) (fun kV doc pm an cdv ct us l => by
    match us, l with
    | [a], _ => rfl)
  obtain ⟨d_wrong_name_at, E_wrong_name_at⟩ := S.a.def_ 3 (d := ⟨fun K => He.ga K "wrong_name_at", "wrong_name_at", "wrong_name_at", defArgs (top 19), defBody (top 19), defScope (top 19), [], []⟩) rfl
  have E_wrong_name_at : FunD K "wrong_name_at" "wrong_name_at" (defArgs (top 19)) (defBody (top 19)) (defScope (top 19)) [] [] (He.ga K "wrong_name_at") d_wrong_name_at := E_wrong_name_at
  have F_wrong_name_at : Fun K "wrong_name_at" "wrong_name_at" (top 19) (He.ga K "wrong_name_at") d_wrong_name_at := He5.fun_of E_wrong_name_at
  have b_wrong_name_at : Binds K d_wrong_name_at ["values", "earlier"] [] := E_wrong_name_at.bindsN (ps := ["values", "earlier"]) (fun kV doc pm an cdv ct us l => by
    match us, l with
    | [a, b], _ => rfl)
  obtain ⟨d_wrong_choice_at, E_wrong_choice_at⟩ := S.a.def_ 4 (d := ⟨fun K => He.ga K "wrong_choice_at", "wrong_choice_at", "wrong_choice_at", defArgs (top 20), defBody (top 20), defScope (top 20), [], []⟩) rfl
  have E_wrong_choice_at : FunD K "wrong_choice_at" "wrong_choice_at" (defArgs (top 20)) (defBody (top 20)) (defScope (top 20)) [] [] (He.ga K "wrong_choice_at") d_wrong_choice_at := E_wrong_choice_at
  have F_wrong_choice_at : Fun K "wrong_choice_at" "wrong_choice_at" (top 20) (He.ga K "wrong_choice_at") d_wrong_choice_at := He5.fun_of E_wrong_choice_at
  have b_wrong_choice_at : Binds K d_wrong_choice_at ["values", "choices"] [] := E_wrong_choice_at.bindsN (ps := ["values", "choices"]) (fun kV doc pm an cdv ct us l => by
    match us, l with
    | [a, b], _ => rfl)
  obtain ⟨d_sorted_names, E_sorted_names⟩ := S.a.def_ 5 (d := ⟨fun K => He.ga K "sorted_names", "sorted_names", "sorted_names", defArgs (top 21), defBody (top 21), defScope (top 21), [], []⟩) rfl
  have E_sorted_names : FunD K "sorted_names" "sorted_names" (defArgs (top 21)) (defBody (top 21)) (defScope (top 21)) [] [] (He.ga K "sorted_names") d_sorted_names := E_sorted_names
  have F_sorted_names : Fun K "sorted_names" "sorted_names" (top 21) (He.ga K "sorted_names") d_sorted_names := He5.fun_of E_sorted_names
  have b_sorted_names : Binds K d_sorted_names ["names"] [] := E_sorted_names.bindsN (ps := ["names"]) (fun kV doc pm an cdv ct us l => by
    match us, l with
    | [a], _ => rfl)
  obtain ⟨d_check_weights, E_check_weights⟩ := S.a.def_ 6 (d := ⟨fun K => He.ga K "_check_weights", "_check_weights", "_check_weights", defArgs (top 33), defBody (top 33), defScope (top 33), [], []⟩) rfl
  have E_check_weights : FunD K "_check_weights" "_check_weights" (defArgs (top 33)) (defBody (top 33)) (defScope (top 33)) [] [] (He.ga K "_check_weights") d_check_weights := E_check_weights
  have F_check_weights : Fun K "_check_weights" "_check_weights" (top 33) (He.ga K "_check_weights") d_check_weights := He5.fun_of E_check_weights
  have b_check_weights : Binds K d_check_weights ["weights"] [] := E_check_weights.bindsN (ps := ["weights"]) (fun kV doc pm an cdv ct us l => by
    match us, l with
    | [a], _ => rfl)
  obtain ⟨d_check_side, E_check_side⟩ := S.a.def_ 7 (d := ⟨fun K => He.ga K "_check_side", "_check_side", "_check_side", defArgs (top 34), defBody (top 34), defScope (top 34), [], []⟩) rfl
  have E_check_side : FunD K "_check_side" "_check_side" (defArgs (top 34)) (defBody (top 34)) (defScope (top 34)) [] [] (He.ga K "_check_side") d_check_side := E_check_side
  have F_check_side : Fun K "_check_side" "_check_side" (top 34) (He.ga K "_check_side") d_check_side := He5.fun_of E_check_side
  have b_check_side : Binds K d_check_side ["side", "names", "earlier"] [] := E_check_side.bindsN (ps := ["side", "names", "earlier"]) (fun kV doc pm an cdv ct us l => by
    match us, l with
    | [a, b, c], _ => rfl)
  obtain ⟨d_checked_ways, E_checked_ways⟩ := S.a.def_ 8 (d := ⟨fun K => He.ga K "_checked_ways", "_checked_ways", "_checked_ways", defArgs (top 35), defBody (top 35), defScope (top 35), [], []⟩) rfl
  have E_checked_ways : FunD K "_checked_ways" "_checked_ways" (defArgs (top 35)) (defBody (top 35)) (defScope (top 35)) [] [] (He.ga K "_checked_ways") d_checked_ways := E_checked_ways
  have F_checked_ways : Fun K "_checked_ways" "_checked_ways" (top 35) (He.ga K "_checked_ways") d_checked_ways := He5.fun_of E_checked_ways
  have b_checked_ways : Binds K d_checked_ways ["fields", "ways"] [] := E_checked_ways.bindsN (ps := ["fields", "ways"]) (fun kV doc pm an cdv ct us l => by
    match us, l with
    | [a, b], _ => rfl)
  obtain ⟨d_signed_term, E_signed_term⟩ := S.a.def_ 9 (d := ⟨fun K => He.ga K "_signed_term", "_signed_term", "_signed_term", defArgs (top 36), defBody (top 36), defScope (top 36), [], []⟩) rfl
  have E_signed_term : FunD K "_signed_term" "_signed_term" (defArgs (top 36)) (defBody (top 36)) (defScope (top 36)) [] [] (He.ga K "_signed_term") d_signed_term := E_signed_term
  have F_signed_term : Fun K "_signed_term" "_signed_term" (top 36) (He.ga K "_signed_term") d_signed_term := He5.fun_of E_signed_term
  have b_signed_term : Binds K d_signed_term ["field", "weight"] [] := E_signed_term.bindsN (ps := ["field", "weight"]) (fun kV doc pm an cdv ct us l => by
    match us, l with
    | [a, b], _ => rfl)
  obtain ⟨d_ways_text, E_ways_text⟩ := S.a.def_ 10 (d := ⟨fun K => He.ga K "_ways_text", "_ways_text", "_ways_text", defArgs (top 37), defBody (top 37), defScope (top 37), [], []⟩) rfl
  have E_ways_text : FunD K "_ways_text" "_ways_text" (defArgs (top 37)) (defBody (top 37)) (defScope (top 37)) [] [] (He.ga K "_ways_text") d_ways_text := E_ways_text
  have F_ways_text : Fun K "_ways_text" "_ways_text" (top 37) (He.ga K "_ways_text") d_ways_text := He5.fun_of E_ways_text
  have b_ways_text : Binds K d_ways_text ["fields", "ways"] [] := E_ways_text.bindsN (ps := ["fields", "ways"]) (fun kV doc pm an cdv ct us l => by
    match us, l with
    | [a, b], _ => rfl)
  obtain ⟨d_law_pot, E_law_pot⟩ := S.a.def_ 11 (d := ⟨fun K => He.ga K "_law_pot", "_law_pot", "_law_pot", defArgs (top 42), defBody (top 42), defScope (top 42), [], []⟩) rfl
  have E_law_pot : FunD K "_law_pot" "_law_pot" (defArgs (top 42)) (defBody (top 42)) (defScope (top 42)) [] [] (He.ga K "_law_pot") d_law_pot := E_law_pot
  have F_law_pot : Fun K "_law_pot" "_law_pot" (top 42) (He.ga K "_law_pot") d_law_pot := He5.fun_of E_law_pot
  have b_law_pot : Binds K d_law_pot ["_law_script", "_law_k"] [] := E_law_pot.bindsN (ps := ["_law_script", "_law_k"]) (fun kV doc pm an cdv ct us l => by
    match us, l with
    | [a, b], _ => rfl)
  obtain ⟨d_law_draw, E_law_draw⟩ := S.a.def_ 12 (d := ⟨fun K => He.ga K "_law_draw", "_law_draw", "_law_draw", defArgs (top 43), defBody (top 43), defScope (top 43), [], []⟩) rfl
  have E_law_draw : FunD K "_law_draw" "_law_draw" (defArgs (top 43)) (defBody (top 43)) (defScope (top 43)) [] [] (He.ga K "_law_draw") d_law_draw := E_law_draw
  have F_law_draw : Fun K "_law_draw" "_law_draw" (top 43) (He.ga K "_law_draw") d_law_draw := He5.fun_of E_law_draw
  have b_law_draw : Binds K d_law_draw ["_law_pot_here", "_law_sides"] [] := E_law_draw.bindsN (ps := ["_law_pot_here", "_law_sides"]) (fun kV doc pm an cdv ct us l => by
    match us, l with
    | [a, b], _ => rfl)
  obtain ⟨d_law_pick, E_law_pick⟩ := S.a.def_ 13 (d := ⟨fun K => He.ga K "_law_pick", "_law_pick", "_law_pick", defArgs (top 44), defBody (top 44), defScope (top 44), [], []⟩) rfl
  have E_law_pick : FunD K "_law_pick" "_law_pick" (defArgs (top 44)) (defBody (top 44)) (defScope (top 44)) [] [] (He.ga K "_law_pick") d_law_pick := E_law_pick
  have F_law_pick : Fun K "_law_pick" "_law_pick" (top 44) (He.ga K "_law_pick") d_law_pick := He5.fun_of E_law_pick
  have b_law_pick : Binds K d_law_pick ["_law_pot_here", "_law_some_here"] [] := E_law_pick.bindsN (ps := ["_law_pot_here", "_law_some_here"]) (fun kV doc pm an cdv ct us l => by
    match us, l with
    | [a, b], _ => rfl)
  obtain ⟨d_law_named, E_law_named⟩ := S.a.def_ 14 (d := ⟨fun K => He.ga K "_law_named", "_law_named", "_law_named", defArgs (top 45), defBody (top 45), defScope (top 45), [], []⟩) rfl
  have E_law_named : FunD K "_law_named" "_law_named" (defArgs (top 45)) (defBody (top 45)) (defScope (top 45)) [] [] (He.ga K "_law_named") d_law_named := E_law_named
  have F_law_named : Fun K "_law_named" "_law_named" (top 45) (He.ga K "_law_named") d_law_named := He5.fun_of E_law_named
  have b_law_named : Binds K d_law_named ["_law_pot_here", "_law_size", "_law_taken"] [] := E_law_named.bindsN (ps := ["_law_pot_here", "_law_size", "_law_taken"]) (fun kV doc pm an cdv ct us l => by
    match us, l with
    | [a, b, c], _ => rfl)
  obtain ⟨d_law_some, E_law_some⟩ := S.a.def_ 15 (d := ⟨fun K => He.ga K "_law_some", "_law_some", "_law_some", defArgs (top 46), defBody (top 46), defScope (top 46), [], []⟩) rfl
  have E_law_some : FunD K "_law_some" "_law_some" (defArgs (top 46)) (defBody (top 46)) (defScope (top 46)) [] [] (He.ga K "_law_some") d_law_some := E_law_some
  have F_law_some : Fun K "_law_some" "_law_some" (top 46) (He.ga K "_law_some") d_law_some := He5.fun_of E_law_some
  have b_law_some : Binds K d_law_some ["_law_pot_here", "_law_things", "_law_most"] [] := E_law_some.bindsN (ps := ["_law_pot_here", "_law_things", "_law_most"]) (fun kV doc pm an cdv ct us l => by
    match us, l with
    | [a, b, c], _ => rfl)
  obtain ⟨d_law_lowest, E_law_lowest⟩ := S.a.def_ 16 (d := ⟨fun K => He.ga K "_law_lowest", "_law_lowest", "_law_lowest", defArgs (top 47), defBody (top 47), defScope (top 47), [], []⟩) rfl
  have E_law_lowest : FunD K "_law_lowest" "_law_lowest" (defArgs (top 47)) (defBody (top 47)) (defScope (top 47)) [] [] (He.ga K "_law_lowest") d_law_lowest := E_law_lowest
  have F_law_lowest : Fun K "_law_lowest" "_law_lowest" (top 47) (He.ga K "_law_lowest") d_law_lowest := He5.fun_of E_law_lowest
  have b_law_lowest : Binds K d_law_lowest ["_law_high", "_law_low"] [] := E_law_lowest.bindsN (ps := ["_law_high", "_law_low"]) (fun kV doc pm an cdv ct us l => by
    match us, l with
    | [a, b], _ => rfl)
  obtain ⟨d_law_weight, E_law_weight⟩ := S.a.def_ 17 (d := ⟨fun K => He.ga K "_law_weight", "_law_weight", "_law_weight", defArgs (top 48), defBody (top 48), defScope (top 48), [], []⟩) rfl
  have E_law_weight : FunD K "_law_weight" "_law_weight" (defArgs (top 48)) (defBody (top 48)) (defScope (top 48)) [] [] (He.ga K "_law_weight") d_law_weight := E_law_weight
  have F_law_weight : Fun K "_law_weight" "_law_weight" (top 48) (He.ga K "_law_weight") d_law_weight := He5.fun_of E_law_weight
  have b_law_weight : Binds K d_law_weight ["_law_pot_here"] [] := E_law_weight.bindsN (ps := ["_law_pot_here"]) (fun kV doc pm an cdv ct us l => by
    match us, l with
    | [a], _ => rfl)
  obtain ⟨d_law_fraction, E_law_fraction⟩ := S.a.def_ 18 (d := ⟨fun K => He.ga K "_law_fraction", "_law_fraction", "_law_fraction", defArgs (top 49), defBody (top 49), defScope (top 49), [], []⟩) rfl
  have E_law_fraction : FunD K "_law_fraction" "_law_fraction" (defArgs (top 49)) (defBody (top 49)) (defScope (top 49)) [] [] (He.ga K "_law_fraction") d_law_fraction := E_law_fraction
  have F_law_fraction : Fun K "_law_fraction" "_law_fraction" (top 49) (He.ga K "_law_fraction") d_law_fraction := He5.fun_of E_law_fraction
  have b_law_fraction : Binds K d_law_fraction ["_law_pot_here"] [] := E_law_fraction.bindsN (ps := ["_law_pot_here"]) (fun kV doc pm an cdv ct us l => by
    match us, l with
    | [a], _ => rfl)
  obtain ⟨d_law_inside, E_law_inside⟩ := S.a.def_ 19 (d := ⟨fun K => He.ga K "_law_inside", "_law_inside", "_law_inside", defArgs (top 50), defBody (top 50), defScope (top 50), [], []⟩) rfl
  have E_law_inside : FunD K "_law_inside" "_law_inside" (defArgs (top 50)) (defBody (top 50)) (defScope (top 50)) [] [] (He.ga K "_law_inside") d_law_inside := E_law_inside
  have F_law_inside : Fun K "_law_inside" "_law_inside" (top 50) (He.ga K "_law_inside") d_law_inside := He5.fun_of E_law_inside
  have b_law_inside : Binds K d_law_inside ["_law_tie"] [] := E_law_inside.bindsN (ps := ["_law_tie"]) (fun kV doc pm an cdv ct us l => by
    match us, l with
    | [a], _ => rfl)
  obtain ⟨d_law_rule, E_law_rule⟩ := S.a.def_ 20 (d := ⟨fun K => He.ga K "_law_rule", "_law_rule", "_law_rule", defArgs (top 51), defBody (top 51), defScope (top 51), [], []⟩) rfl
  have E_law_rule : FunD K "_law_rule" "_law_rule" (defArgs (top 51)) (defBody (top 51)) (defScope (top 51)) [] [] (He.ga K "_law_rule") d_law_rule := E_law_rule
  have F_law_rule : Fun K "_law_rule" "_law_rule" (top 51) (He.ga K "_law_rule") d_law_rule := He5.fun_of E_law_rule
  have b_law_rule : Binds K d_law_rule ["_law_tie"] [] := E_law_rule.bindsN (ps := ["_law_tie"]) (fun kV doc pm an cdv ct us l => by
    match us, l with
    | [a], _ => rfl)
  obtain ⟨d_law_wide_tie, E_law_wide_tie⟩ := S.a.def_ 21 (d := ⟨fun K => He.ga K "_law_wide_tie", "_law_wide_tie", "_law_wide_tie", defArgs (top 52), defBody (top 52), defScope (top 52), [], []⟩) rfl
  have E_law_wide_tie : FunD K "_law_wide_tie" "_law_wide_tie" (defArgs (top 52)) (defBody (top 52)) (defScope (top 52)) [] [] (He.ga K "_law_wide_tie") d_law_wide_tie := E_law_wide_tie
  have F_law_wide_tie : Fun K "_law_wide_tie" "_law_wide_tie" (top 52) (He.ga K "_law_wide_tie") d_law_wide_tie := He5.fun_of E_law_wide_tie
  have b_law_wide_tie : Binds K d_law_wide_tie ["_law_pot_here", "_law_spots"] [] := E_law_wide_tie.bindsN (ps := ["_law_pot_here", "_law_spots"]) (fun kV doc pm an cdv ct us l => by
    match us, l with
    | [a, b], _ => rfl)
  obtain ⟨d_law_number, E_law_number⟩ := S.a.def_ 22 (d := ⟨fun K => He.ga K "_law_number", "_law_number", "_law_number", defArgs (top 53), defBody (top 53), defScope (top 53), [], []⟩) rfl
  have E_law_number : FunD K "_law_number" "_law_number" (defArgs (top 53)) (defBody (top 53)) (defScope (top 53)) [] [] (He.ga K "_law_number") d_law_number := E_law_number
  have F_law_number : Fun K "_law_number" "_law_number" (top 53) (He.ga K "_law_number") d_law_number := He5.fun_of E_law_number
  have b_law_number : Binds K d_law_number ["_law_part", "_law_plainly"] [] := E_law_number.bindsN (ps := ["_law_part", "_law_plainly"]) (fun kV doc pm an cdv ct us l => by
    match us, l with
    | [a, b], _ => rfl)
  obtain ⟨d_law_rule_by_names, E_law_rule_by_names⟩ := S.a.def_ 23 (d := ⟨fun K => He.ga K "_law_rule_by_names", "_law_rule_by_names", "_law_rule_by_names", defArgs (top 54), defBody (top 54), defScope (top 54), [], []⟩) rfl
  have E_law_rule_by_names : FunD K "_law_rule_by_names" "_law_rule_by_names" (defArgs (top 54)) (defBody (top 54)) (defScope (top 54)) [] [] (He.ga K "_law_rule_by_names") d_law_rule_by_names := E_law_rule_by_names
  have F_law_rule_by_names : Fun K "_law_rule_by_names" "_law_rule_by_names" (top 54) (He.ga K "_law_rule_by_names") d_law_rule_by_names := He5.fun_of E_law_rule_by_names
  have b_law_rule_by_names : Binds K d_law_rule_by_names ["_law_tie", "_law_plainly"] [] := E_law_rule_by_names.bindsN (ps := ["_law_tie", "_law_plainly"]) (fun kV doc pm an cdv ct us l => by
    match us, l with
    | [a, b], _ => rfl)
  obtain ⟨d_law_due_parts, E_law_due_parts⟩ := S.a.def_ 24 (d := ⟨fun K => He.ga K "_law_due_parts", "_law_due_parts", "_law_due_parts", defArgs (top 55), defBody (top 55), defScope (top 55), [], []⟩) rfl
  have E_law_due_parts : FunD K "_law_due_parts" "_law_due_parts" (defArgs (top 55)) (defBody (top 55)) (defScope (top 55)) [] [] (He.ga K "_law_due_parts") d_law_due_parts := E_law_due_parts
  have F_law_due_parts : Fun K "_law_due_parts" "_law_due_parts" (top 55) (He.ga K "_law_due_parts") d_law_due_parts := He5.fun_of E_law_due_parts
  have b_law_due_parts : Binds K d_law_due_parts ["_law_tie"] [] := E_law_due_parts.bindsN (ps := ["_law_tie"]) (fun kV doc pm an cdv ct us l => by
    match us, l with
    | [a], _ => rfl)
  obtain ⟨d_law_told_parts, E_law_told_parts⟩ := S.a.def_ 25 (d := ⟨fun K => He.ga K "_law_told_parts", "_law_told_parts", "_law_told_parts", defArgs (top 56), defBody (top 56), defScope (top 56), [], []⟩) rfl
  have E_law_told_parts : FunD K "_law_told_parts" "_law_told_parts" (defArgs (top 56)) (defBody (top 56)) (defScope (top 56)) [] [] (He.ga K "_law_told_parts") d_law_told_parts := E_law_told_parts
  have F_law_told_parts : Fun K "_law_told_parts" "_law_told_parts" (top 56) (He.ga K "_law_told_parts") d_law_told_parts := He5.fun_of E_law_told_parts
  have b_law_told_parts : Binds K d_law_told_parts ["_law_tie", "_law_rule_here"] [] := E_law_told_parts.bindsN (ps := ["_law_tie", "_law_rule_here"]) (fun kV doc pm an cdv ct us l => by
    match us, l with
    | [a, b], _ => rfl)
  obtain ⟨d_law_is_right, E_law_is_right⟩ := S.a.def_ 26 (d := ⟨fun K => He.ga K "_law_is_right", "_law_is_right", "_law_is_right", defArgs (top 57), defBody (top 57), defScope (top 57), [], []⟩) rfl
  have E_law_is_right : FunD K "_law_is_right" "_law_is_right" (defArgs (top 57)) (defBody (top 57)) (defScope (top 57)) [] [] (He.ga K "_law_is_right") d_law_is_right := E_law_is_right
  have F_law_is_right : Fun K "_law_is_right" "_law_is_right" (top 57) (He.ga K "_law_is_right") d_law_is_right := He5.fun_of E_law_is_right
  have b_law_is_right : Binds K d_law_is_right ["_law_tie", "_law_rule_here"] [] := E_law_is_right.bindsN (ps := ["_law_tie", "_law_rule_here"]) (fun kV doc pm an cdv ct us l => by
    match us, l with
    | [a, b], _ => rfl)
  obtain ⟨d_law_is_like, E_law_is_like⟩ := S.a.def_ 27 (d := ⟨fun K => He.ga K "_law_is_like", "_law_is_like", "_law_is_like", defArgs (top 58), defBody (top 58), defScope (top 58), [], []⟩) rfl
  have E_law_is_like : FunD K "_law_is_like" "_law_is_like" (defArgs (top 58)) (defBody (top 58)) (defScope (top 58)) [] [] (He.ga K "_law_is_like") d_law_is_like := E_law_is_like
  have F_law_is_like : Fun K "_law_is_like" "_law_is_like" (top 58) (He.ga K "_law_is_like") d_law_is_like := He5.fun_of E_law_is_like
  have b_law_is_like : Binds K d_law_is_like ["_law_tie", "_law_mate"] [] := E_law_is_like.bindsN (ps := ["_law_tie", "_law_mate"]) (fun kV doc pm an cdv ct us l => by
    match us, l with
    | [a, b], _ => rfl)
  obtain ⟨d_law_near_tie, E_law_near_tie⟩ := S.a.def_ 28 (d := ⟨fun K => He.ga K "_law_near_tie", "_law_near_tie", "_law_near_tie", defArgs (top 59), defBody (top 59), defScope (top 59), [], []⟩) rfl
  have E_law_near_tie : FunD K "_law_near_tie" "_law_near_tie" (defArgs (top 59)) (defBody (top 59)) (defScope (top 59)) [] [] (He.ga K "_law_near_tie") d_law_near_tie := E_law_near_tie
  have F_law_near_tie : Fun K "_law_near_tie" "_law_near_tie" (top 59) (He.ga K "_law_near_tie") d_law_near_tie := He5.fun_of E_law_near_tie
  have b_law_near_tie : Binds K d_law_near_tie ["_law_pot_here", "_law_tie"] [] := E_law_near_tie.bindsN (ps := ["_law_pot_here", "_law_tie"]) (fun kV doc pm an cdv ct us l => by
    match us, l with
    | [a, b], _ => rfl)
  obtain ⟨d_law_stays_as_it_was, E_law_stays_as_it_was⟩ := S.a.def_ 29 (d := ⟨fun K => He.ga K "_law_stays_as_it_was", "_law_stays_as_it_was", "_law_stays_as_it_was", defArgs (top 60), defBody (top 60), defScope (top 60), [], []⟩) rfl
  have E_law_stays_as_it_was : FunD K "_law_stays_as_it_was" "_law_stays_as_it_was" (defArgs (top 60)) (defBody (top 60)) (defScope (top 60)) [] [] (He.ga K "_law_stays_as_it_was") d_law_stays_as_it_was := E_law_stays_as_it_was
  have F_law_stays_as_it_was : Fun K "_law_stays_as_it_was" "_law_stays_as_it_was" (top 60) (He.ga K "_law_stays_as_it_was") d_law_stays_as_it_was := He5.fun_of E_law_stays_as_it_was
  have b_law_stays_as_it_was : Binds K d_law_stays_as_it_was ["_law_tie"] [] := E_law_stays_as_it_was.bindsN (ps := ["_law_tie"]) (fun kV doc pm an cdv ct us l => by
    match us, l with
    | [a], _ => rfl)
  obtain ⟨d_law_defaults_right, E_law_defaults_right⟩ := S.a.def_ 30 (d := ⟨fun K => He.ga K "_law_defaults_right", "_law_defaults_right", "_law_defaults_right", defArgs (top 61), defBody (top 61), defScope (top 61), [], []⟩) rfl
  have E_law_defaults_right : FunD K "_law_defaults_right" "_law_defaults_right" (defArgs (top 61)) (defBody (top 61)) (defScope (top 61)) [] [] (He.ga K "_law_defaults_right") d_law_defaults_right := E_law_defaults_right
  have F_law_defaults_right : Fun K "_law_defaults_right" "_law_defaults_right" (top 61) (He.ga K "_law_defaults_right") d_law_defaults_right := He5.fun_of E_law_defaults_right
  have b_law_defaults_right : Binds K d_law_defaults_right ["_law_spots"] [] := E_law_defaults_right.bindsN (ps := ["_law_spots"]) (fun kV doc pm an cdv ct us l => by
    match us, l with
    | [a], _ => rfl)
  obtain ⟨d_law_long_right, E_law_long_right⟩ := S.a.def_ 31 (d := ⟨fun K => He.ga K "_law_long_right", "_law_long_right", "_law_long_right", defArgs (top 62), defBody (top 62), defScope (top 62), [], []⟩) rfl
  have E_law_long_right : FunD K "_law_long_right" "_law_long_right" (defArgs (top 62)) (defBody (top 62)) (defScope (top 62)) [] [] (He.ga K "_law_long_right") d_law_long_right := E_law_long_right
  have F_law_long_right : Fun K "_law_long_right" "_law_long_right" (top 62) (He.ga K "_law_long_right") d_law_long_right := He5.fun_of E_law_long_right
  have b_law_long_right : Binds K d_law_long_right ["_law_pot_here"] [] := E_law_long_right.bindsN (ps := ["_law_pot_here"]) (fun kV doc pm an cdv ct us l => by
    match us, l with
    | [a], _ => rfl)
  obtain ⟨d_law_right, E_law_right⟩ := S.a.def_ 32 (d := ⟨fun K => He.ga K "_law_right", "_law_right", "_law_right", defArgs (top 63), defBody (top 63), defScope (top 63), [], []⟩) rfl
  have E_law_right : FunD K "_law_right" "_law_right" (defArgs (top 63)) (defBody (top 63)) (defScope (top 63)) [] [] (He.ga K "_law_right") d_law_right := E_law_right
  have F_law_right : Fun K "_law_right" "_law_right" (top 63) (He.ga K "_law_right") d_law_right := He5.fun_of E_law_right
  have b_law_right : Binds K d_law_right ["_law_pot_here"] [] := E_law_right.bindsN (ps := ["_law_pot_here"]) (fun kV doc pm an cdv ct us l => by
    match us, l with
    | [a], _ => rfl)
  obtain ⟨d_law, E_law⟩ := S.a.def_ 33 (d := ⟨fun K => He.ga K "law", "law", "law", defArgs (top 64), defBody (top 64), defScope (top 64), [], []⟩) rfl
  have E_law : FunD K "law" "law" (defArgs (top 64)) (defBody (top 64)) (defScope (top 64)) [] [] (He.ga K "law") d_law := E_law
  have F_law : Fun K "law" "law" (top 64) (He.ga K "law") d_law := He5.fun_of E_law
  have b_law : Binds K d_law ["_law_script"] [] := E_law.bindsN (ps := ["_law_script"]) (fun kV doc pm an cdv ct us l => by
    match us, l with
    | [a], _ => rfl)
  obtain ⟨d_Ai, E_Ai⟩ := S.a.def_ 34 (d := ⟨fun K => He.ma K (kC K) "__init__", "__init__", "Amount.__init__", defArgs (am 0), defBody (am 0), defScope (am 0), [.int 1], []⟩) rfl
  have F_Ai : FunI K (He.ma K (kC K) "__init__") d_Ai := E_Ai
  obtain ⟨d_Aof, E_Aof⟩ := S.a.def_ 35 (d := ⟨fun K => He5.wf K (kC K) "staticmethod" "of", "of", "Amount.of", defArgs (am 1), defBody (am 1), defScope (am 1), [], []⟩) rfl
  have E_Aof : FunD K "of" "Amount.of" (defArgs (am 1)) (defBody (am 1)) (defScope (am 1)) [] [] (He5.wf K (kC K) "staticmethod" "of") d_Aof := E_Aof
  have F_Aof : Fun K "of" "Amount.of" (am 1) (He5.wf K (kC K) "staticmethod" "of") d_Aof := He5.fun_of E_Aof
  have b_Aof : Binds K d_Aof ["number"] [] := E_Aof.bindsN (ps := ["number"]) (fun kV doc pm an cdv ct us l => by
    match us, l with
    | [a], _ => rfl)
  obtain ⟨d_Atop, E_Atop⟩ := S.a.def_ 36 (d := ⟨fun K => He5.wf K (kC K) "property" "top", "top", "Amount.top", defArgs (am 3), defBody (am 3), defScope (am 3), [], []⟩) rfl
  have E_Atop : FunD K "top" "Amount.top" (defArgs (am 3)) (defBody (am 3)) (defScope (am 3)) [] [] (He5.wf K (kC K) "property" "top") d_Atop := E_Atop
  have F_Atop : Fun K "top" "Amount.top" (am 3) (He5.wf K (kC K) "property" "top") d_Atop := He5.fun_of E_Atop
  have b_Atop : Binds K d_Atop ["self"] [] := E_Atop.bindsN (ps := ["self"]) (fun kV doc pm an cdv ct us l => by
    match us, l with
    | [a], _ => rfl)
  obtain ⟨d_Abottom, E_Abottom⟩ := S.a.def_ 37 (d := ⟨fun K => He5.wf K (kC K) "property" "bottom", "bottom", "Amount.bottom", defArgs (am 4), defBody (am 4), defScope (am 4), [], []⟩) rfl
  have E_Abottom : FunD K "bottom" "Amount.bottom" (defArgs (am 4)) (defBody (am 4)) (defScope (am 4)) [] [] (He5.wf K (kC K) "property" "bottom") d_Abottom := E_Abottom
  have F_Abottom : Fun K "bottom" "Amount.bottom" (am 4) (He5.wf K (kC K) "property" "bottom") d_Abottom := He5.fun_of E_Abottom
  have b_Abottom : Binds K d_Abottom ["self"] [] := E_Abottom.bindsN (ps := ["self"]) (fun kV doc pm an cdv ct us l => by
    match us, l with
    | [a], _ => rfl)
  obtain ⟨d_Asign, E_Asign⟩ := S.a.def_ 38 (d := ⟨fun K => He5.wf K (kC K) "property" "sign", "sign", "Amount.sign", defArgs (am 5), defBody (am 5), defScope (am 5), [], []⟩) rfl
  have E_Asign : FunD K "sign" "Amount.sign" (defArgs (am 5)) (defBody (am 5)) (defScope (am 5)) [] [] (He5.wf K (kC K) "property" "sign") d_Asign := E_Asign
  have F_Asign : Fun K "sign" "Amount.sign" (am 5) (He5.wf K (kC K) "property" "sign") d_Asign := He5.fun_of E_Asign
  have b_Asign : Binds K d_Asign ["self"] [] := E_Asign.bindsN (ps := ["self"]) (fun kV doc pm an cdv ct us l => by
    match us, l with
    | [a], _ => rfl)
  obtain ⟨d_Aeq, E_Aeq⟩ := S.a.def_ 39 (d := ⟨fun K => He.ma K (kC K) "__eq__", "__eq__", "Amount.__eq__", defArgs (am 21), defBody (am 21), defScope (am 21), [], []⟩) rfl
  have E_Aeq : FunD K "__eq__" "Amount.__eq__" (defArgs (am 21)) (defBody (am 21)) (defScope (am 21)) [] [] (He.ma K (kC K) "__eq__") d_Aeq := E_Aeq
  have F_Aeq : Fun K "__eq__" "Amount.__eq__" (am 21) (He.ma K (kC K) "__eq__") d_Aeq := He5.fun_of E_Aeq
  have b_Aeq : Binds K d_Aeq ["self", "other"] [] := E_Aeq.bindsN (ps := ["self", "other"]) (fun kV doc pm an cdv ct us l => by
    match us, l with
    | [a, b], _ => rfl)
  obtain ⟨d_Astr, E_Astr⟩ := S.a.def_ 40 (d := ⟨fun K => He.ma K (kC K) "__str__", "__str__", "Amount.__str__", defArgs (am 26), defBody (am 26), defScope (am 26), [], []⟩) rfl
  have E_Astr : FunD K "__str__" "Amount.__str__" (defArgs (am 26)) (defBody (am 26)) (defScope (am 26)) [] [] (He.ma K (kC K) "__str__") d_Astr := E_Astr
  have F_Astr : Fun K "__str__" "Amount.__str__" (am 26) (He.ma K (kC K) "__str__") d_Astr := He5.fun_of E_Astr
  have b_Astr : Binds K d_Astr ["self"] [] := E_Astr.bindsN (ps := ["self"]) (fun kV doc pm an cdv ct us l => by
    match us, l with
    | [a], _ => rfl)
  obtain ⟨d_Arepr, E_Arepr⟩ := S.a.def_ 41 (d := ⟨fun K => He.ma K (kC K) "__repr__", "__repr__", "Amount.__repr__", defArgs (am 27), defBody (am 27), defScope (am 27), [], []⟩) rfl
  have E_Arepr : FunD K "__repr__" "Amount.__repr__" (defArgs (am 27)) (defBody (am 27)) (defScope (am 27)) [] [] (He.ma K (kC K) "__repr__") d_Arepr := E_Arepr
  have F_Arepr : Fun K "__repr__" "Amount.__repr__" (am 27) (He.ma K (kC K) "__repr__") d_Arepr := He5.fun_of E_Arepr
  have b_Arepr : Binds K d_Arepr ["self"] [] := E_Arepr.bindsN (ps := ["self"]) (fun kV doc pm an cdv ct us l => by
    match us, l with
    | [a], _ => rfl)
  obtain ⟨d_Ti, E_Ti⟩ := S.a.def_ 42 (d := ⟨fun K => He.ma K (kT K) "__init__", "__init__", "Total.__init__", defArgs (tot 0), defBody (tot 0), defScope (tot 0), [.int 0], [("ways", .non)]⟩) rfl
  have F_Ti : FunIT K (He.ma K (kT K) "__init__") d_Ti := E_Ti
  obtain ⟨d_Tfields, E_Tfields⟩ := S.a.def_ 43 (d := ⟨fun K => He5.wf K (kT K) "property" "fields", "fields", "Total.fields", defArgs (tot 1), defBody (tot 1), defScope (tot 1), [], []⟩) rfl
  have E_Tfields : FunD K "fields" "Total.fields" (defArgs (tot 1)) (defBody (tot 1)) (defScope (tot 1)) [] [] (He5.wf K (kT K) "property" "fields") d_Tfields := E_Tfields
  have F_Tfields : Fun K "fields" "Total.fields" (tot 1) (He5.wf K (kT K) "property" "fields") d_Tfields := He5.fun_of E_Tfields
  have b_Tfields : Binds K d_Tfields ["self"] [] := E_Tfields.bindsN (ps := ["self"]) (fun kV doc pm an cdv ct us l => by
    match us, l with
    | [a], _ => rfl)
  obtain ⟨d_Tways, E_Tways⟩ := S.a.def_ 44 (d := ⟨fun K => He5.wf K (kT K) "property" "ways", "ways", "Total.ways", defArgs (tot 2), defBody (tot 2), defScope (tot 2), [], []⟩) rfl
  have E_Tways : FunD K "ways" "Total.ways" (defArgs (tot 2)) (defBody (tot 2)) (defScope (tot 2)) [] [] (He5.wf K (kT K) "property" "ways") d_Tways := E_Tways
  have F_Tways : Fun K "ways" "Total.ways" (tot 2) (He5.wf K (kT K) "property" "ways") d_Tways := He5.fun_of E_Tways
  have b_Tways : Binds K d_Tways ["self"] [] := E_Tways.bindsN (ps := ["self"]) (fun kV doc pm an cdv ct us l => by
    match us, l with
    | [a], _ => rfl)
  obtain ⟨d_Tweights, E_Tweights⟩ := S.a.def_ 45 (d := ⟨fun K => He5.wf K (kT K) "property" "weights", "weights", "Total.weights", defArgs (tot 3), defBody (tot 3), defScope (tot 3), [], []⟩) rfl
  have E_Tweights : FunD K "weights" "Total.weights" (defArgs (tot 3)) (defBody (tot 3)) (defScope (tot 3)) [] [] (He5.wf K (kT K) "property" "weights") d_Tweights := E_Tweights
  have F_Tweights : Fun K "weights" "Total.weights" (tot 3) (He5.wf K (kT K) "property" "weights") d_Tweights := He5.fun_of E_Tweights
  have b_Tweights : Binds K d_Tweights ["self"] [] := E_Tweights.bindsN (ps := ["self"]) (fun kV doc pm an cdv ct us l => by
    match us, l with
    | [a], _ => rfl)
  obtain ⟨d_Ttotal, E_Ttotal⟩ := S.a.def_ 46 (d := ⟨fun K => He5.wf K (kT K) "property" "total", "total", "Total.total", defArgs (tot 4), defBody (tot 4), defScope (tot 4), [], []⟩) rfl
  have E_Ttotal : FunD K "total" "Total.total" (defArgs (tot 4)) (defBody (tot 4)) (defScope (tot 4)) [] [] (He5.wf K (kT K) "property" "total") d_Ttotal := E_Ttotal
  have F_Ttotal : Fun K "total" "Total.total" (tot 4) (He5.wf K (kT K) "property" "total") d_Ttotal := He5.fun_of E_Ttotal
  have b_Ttotal : Binds K d_Ttotal ["self"] [] := E_Ttotal.bindsN (ps := ["self"]) (fun kV doc pm an cdv ct us l => by
    match us, l with
    | [a], _ => rfl)
  obtain ⟨d_Ttext, E_Ttext⟩ := S.a.def_ 47 (d := ⟨fun K => He.ma K (kT K) "text", "text", "Total.text", defArgs (tot 8), defBody (tot 8), defScope (tot 8), [], []⟩) rfl
  have E_Ttext : FunD K "text" "Total.text" (defArgs (tot 8)) (defBody (tot 8)) (defScope (tot 8)) [] [] (He.ma K (kT K) "text") d_Ttext := E_Ttext
  have F_Ttext : Fun K "text" "Total.text" (tot 8) (He.ma K (kT K) "text") d_Ttext := He5.fun_of E_Ttext
  have b_Ttext : Binds K d_Ttext ["self"] [] := E_Ttext.bindsN (ps := ["self"]) (fun kV doc pm an cdv ct us l => by
    match us, l with
    | [a], _ => rfl)
  obtain ⟨d_Teq, E_Teq⟩ := S.a.def_ 48 (d := ⟨fun K => He.ma K (kT K) "__eq__", "__eq__", "Total.__eq__", defArgs (tot 9), defBody (tot 9), defScope (tot 9), [], []⟩) rfl
  have E_Teq : FunD K "__eq__" "Total.__eq__" (defArgs (tot 9)) (defBody (tot 9)) (defScope (tot 9)) [] [] (He.ma K (kT K) "__eq__") d_Teq := E_Teq
  have F_Teq : Fun K "__eq__" "Total.__eq__" (tot 9) (He.ma K (kT K) "__eq__") d_Teq := He5.fun_of E_Teq
  have b_Teq : Binds K d_Teq ["self", "other"] [] := E_Teq.bindsN (ps := ["self", "other"]) (fun kV doc pm an cdv ct us l => by
    match us, l with
    | [a, b], _ => rfl)
  obtain ⟨d_Trepr, E_Trepr⟩ := S.a.def_ 49 (d := ⟨fun K => He.ma K (kT K) "__repr__", "__repr__", "Total.__repr__", defArgs (tot 10), defBody (tot 10), defScope (tot 10), [], []⟩) rfl
  have E_Trepr : FunD K "__repr__" "Total.__repr__" (defArgs (tot 10)) (defBody (tot 10)) (defScope (tot 10)) [] [] (He.ma K (kT K) "__repr__") d_Trepr := E_Trepr
  have F_Trepr : Fun K "__repr__" "Total.__repr__" (tot 10) (He.ma K (kT K) "__repr__") d_Trepr := He5.fun_of E_Trepr
  have b_Trepr : Binds K d_Trepr ["self"] [] := E_Trepr.bindsN (ps := ["self"]) (fun kV doc pm an cdv ct us l => by
    match us, l with
    | [a], _ => rfl)
  obtain ⟨d_Pi, E_Pi⟩ := S.a.def_ 50 (d := ⟨fun K => He.ma K (kP K) "__init__", "__init__", "Product.__init__", defArgs (pro 0), defBody (pro 0), defScope (pro 0), [.adr kTP, .int 1], [("ways", .non)]⟩) rfl
  have F_Pi : FunIP K (kTP K) (He.ma K (kP K) "__init__") d_Pi := E_Pi
  obtain ⟨d_Pfields, E_Pfields⟩ := S.a.def_ 51 (d := ⟨fun K => He5.wf K (kP K) "property" "fields", "fields", "Product.fields", defArgs (pro 1), defBody (pro 1), defScope (pro 1), [], []⟩) rfl
  have E_Pfields : FunD K "fields" "Product.fields" (defArgs (pro 1)) (defBody (pro 1)) (defScope (pro 1)) [] [] (He5.wf K (kP K) "property" "fields") d_Pfields := E_Pfields
  have F_Pfields : Fun K "fields" "Product.fields" (pro 1) (He5.wf K (kP K) "property" "fields") d_Pfields := He5.fun_of E_Pfields
  have b_Pfields : Binds K d_Pfields ["self"] [] := E_Pfields.bindsN (ps := ["self"]) (fun kV doc pm an cdv ct us l => by
    match us, l with
    | [a], _ => rfl)
  obtain ⟨d_Pways, E_Pways⟩ := S.a.def_ 52 (d := ⟨fun K => He5.wf K (kP K) "property" "ways", "ways", "Product.ways", defArgs (pro 2), defBody (pro 2), defScope (pro 2), [], []⟩) rfl
  have E_Pways : FunD K "ways" "Product.ways" (defArgs (pro 2)) (defBody (pro 2)) (defScope (pro 2)) [] [] (He5.wf K (kP K) "property" "ways") d_Pways := E_Pways
  have F_Pways : Fun K "ways" "Product.ways" (pro 2) (He5.wf K (kP K) "property" "ways") d_Pways := He5.fun_of E_Pways
  have b_Pways : Binds K d_Pways ["self"] [] := E_Pways.bindsN (ps := ["self"]) (fun kV doc pm an cdv ct us l => by
    match us, l with
    | [a], _ => rfl)
  obtain ⟨d_Pleft, E_Pleft⟩ := S.a.def_ 53 (d := ⟨fun K => He5.wf K (kP K) "property" "left", "left", "Product.left", defArgs (pro 3), defBody (pro 3), defScope (pro 3), [], []⟩) rfl
  have E_Pleft : FunD K "left" "Product.left" (defArgs (pro 3)) (defBody (pro 3)) (defScope (pro 3)) [] [] (He5.wf K (kP K) "property" "left") d_Pleft := E_Pleft
  have F_Pleft : Fun K "left" "Product.left" (pro 3) (He5.wf K (kP K) "property" "left") d_Pleft := He5.fun_of E_Pleft
  have b_Pleft : Binds K d_Pleft ["self"] [] := E_Pleft.bindsN (ps := ["self"]) (fun kV doc pm an cdv ct us l => by
    match us, l with
    | [a], _ => rfl)
  obtain ⟨d_Pright, E_Pright⟩ := S.a.def_ 54 (d := ⟨fun K => He5.wf K (kP K) "property" "right", "right", "Product.right", defArgs (pro 4), defBody (pro 4), defScope (pro 4), [], []⟩) rfl
  have E_Pright : FunD K "right" "Product.right" (defArgs (pro 4)) (defBody (pro 4)) (defScope (pro 4)) [] [] (He5.wf K (kP K) "property" "right") d_Pright := E_Pright
  have F_Pright : Fun K "right" "Product.right" (pro 4) (He5.wf K (kP K) "property" "right") d_Pright := He5.fun_of E_Pright
  have b_Pright : Binds K d_Pright ["self"] [] := E_Pright.bindsN (ps := ["self"]) (fun kV doc pm an cdv ct us l => by
    match us, l with
    | [a], _ => rfl)
  obtain ⟨d_Pfactor, E_Pfactor⟩ := S.a.def_ 55 (d := ⟨fun K => He5.wf K (kP K) "property" "factor", "factor", "Product.factor", defArgs (pro 5), defBody (pro 5), defScope (pro 5), [], []⟩) rfl
  have E_Pfactor : FunD K "factor" "Product.factor" (defArgs (pro 5)) (defBody (pro 5)) (defScope (pro 5)) [] [] (He5.wf K (kP K) "property" "factor") d_Pfactor := E_Pfactor
  have F_Pfactor : Fun K "factor" "Product.factor" (pro 5) (He5.wf K (kP K) "property" "factor") d_Pfactor := He5.fun_of E_Pfactor
  have b_Pfactor : Binds K d_Pfactor ["self"] [] := E_Pfactor.bindsN (ps := ["self"]) (fun kV doc pm an cdv ct us l => by
    match us, l with
    | [a], _ => rfl)
  obtain ⟨d_Ptext, E_Ptext⟩ := S.a.def_ 56 (d := ⟨fun K => He.ma K (kP K) "text", "text", "Product.text", defArgs (pro 8), defBody (pro 8), defScope (pro 8), [], []⟩) rfl
  have E_Ptext : FunD K "text" "Product.text" (defArgs (pro 8)) (defBody (pro 8)) (defScope (pro 8)) [] [] (He.ma K (kP K) "text") d_Ptext := E_Ptext
  have F_Ptext : Fun K "text" "Product.text" (pro 8) (He.ma K (kP K) "text") d_Ptext := He5.fun_of E_Ptext
  have b_Ptext : Binds K d_Ptext ["self"] [] := E_Ptext.bindsN (ps := ["self"]) (fun kV doc pm an cdv ct us l => by
    match us, l with
    | [a], _ => rfl)
  obtain ⟨d_Peq, E_Peq⟩ := S.a.def_ 57 (d := ⟨fun K => He.ma K (kP K) "__eq__", "__eq__", "Product.__eq__", defArgs (pro 9), defBody (pro 9), defScope (pro 9), [], []⟩) rfl
  have E_Peq : FunD K "__eq__" "Product.__eq__" (defArgs (pro 9)) (defBody (pro 9)) (defScope (pro 9)) [] [] (He.ma K (kP K) "__eq__") d_Peq := E_Peq
  have F_Peq : Fun K "__eq__" "Product.__eq__" (pro 9) (He.ma K (kP K) "__eq__") d_Peq := He5.fun_of E_Peq
  have b_Peq : Binds K d_Peq ["self", "other"] [] := E_Peq.bindsN (ps := ["self", "other"]) (fun kV doc pm an cdv ct us l => by
    match us, l with
    | [a, b], _ => rfl)
  obtain ⟨d_Prepr, E_Prepr⟩ := S.a.def_ 58 (d := ⟨fun K => He.ma K (kP K) "__repr__", "__repr__", "Product.__repr__", defArgs (pro 10), defBody (pro 10), defScope (pro 10), [], []⟩) rfl
  have E_Prepr : FunD K "__repr__" "Product.__repr__" (defArgs (pro 10)) (defBody (pro 10)) (defScope (pro 10)) [] [] (He.ma K (kP K) "__repr__") d_Prepr := E_Prepr
  have F_Prepr : Fun K "__repr__" "Product.__repr__" (pro 10) (He.ma K (kP K) "__repr__") d_Prepr := He5.fun_of E_Prepr
  have b_Prepr : Binds K d_Prepr ["self"] [] := E_Prepr.bindsN (ps := ["self"]) (fun kV doc pm an cdv ct us l => by
    match us, l with
    | [a], _ => rfl)
  obtain ⟨d_Li, E_Li⟩ := S.a.def_ 59 (d := ⟨fun K => He.ma K (kL K) "__init__", "__init__", "Loose.__init__", defArgs (lo 0), defBody (lo 0), defScope (lo 0), [], [("ways", .non)]⟩) rfl
  have F_Li : FunIL K (He.ma K (kL K) "__init__") d_Li := E_Li
  obtain ⟨d_Lfields, E_Lfields⟩ := S.a.def_ 60 (d := ⟨fun K => He5.wf K (kL K) "property" "fields", "fields", "Loose.fields", defArgs (lo 1), defBody (lo 1), defScope (lo 1), [], []⟩) rfl
  have E_Lfields : FunD K "fields" "Loose.fields" (defArgs (lo 1)) (defBody (lo 1)) (defScope (lo 1)) [] [] (He5.wf K (kL K) "property" "fields") d_Lfields := E_Lfields
  have F_Lfields : Fun K "fields" "Loose.fields" (lo 1) (He5.wf K (kL K) "property" "fields") d_Lfields := He5.fun_of E_Lfields
  have b_Lfields : Binds K d_Lfields ["self"] [] := E_Lfields.bindsN (ps := ["self"]) (fun kV doc pm an cdv ct us l => by
    match us, l with
    | [a], _ => rfl)
  obtain ⟨d_Lways, E_Lways⟩ := S.a.def_ 61 (d := ⟨fun K => He5.wf K (kL K) "property" "ways", "ways", "Loose.ways", defArgs (lo 2), defBody (lo 2), defScope (lo 2), [], []⟩) rfl
  have E_Lways : FunD K "ways" "Loose.ways" (defArgs (lo 2)) (defBody (lo 2)) (defScope (lo 2)) [] [] (He5.wf K (kL K) "property" "ways") d_Lways := E_Lways
  have F_Lways : Fun K "ways" "Loose.ways" (lo 2) (He5.wf K (kL K) "property" "ways") d_Lways := He5.fun_of E_Lways
  have b_Lways : Binds K d_Lways ["self"] [] := E_Lways.bindsN (ps := ["self"]) (fun kV doc pm an cdv ct us l => by
    match us, l with
    | [a], _ => rfl)
  obtain ⟨d_Ltext, E_Ltext⟩ := S.a.def_ 62 (d := ⟨fun K => He.ma K (kL K) "text", "text", "Loose.text", defArgs (lo 4), defBody (lo 4), defScope (lo 4), [], []⟩) rfl
  have E_Ltext : FunD K "text" "Loose.text" (defArgs (lo 4)) (defBody (lo 4)) (defScope (lo 4)) [] [] (He.ma K (kL K) "text") d_Ltext := E_Ltext
  have F_Ltext : Fun K "text" "Loose.text" (lo 4) (He.ma K (kL K) "text") d_Ltext := He5.fun_of E_Ltext
  have b_Ltext : Binds K d_Ltext ["self"] [] := E_Ltext.bindsN (ps := ["self"]) (fun kV doc pm an cdv ct us l => by
    match us, l with
    | [a], _ => rfl)
  obtain ⟨d_Leq, E_Leq⟩ := S.a.def_ 63 (d := ⟨fun K => He.ma K (kL K) "__eq__", "__eq__", "Loose.__eq__", defArgs (lo 5), defBody (lo 5), defScope (lo 5), [], []⟩) rfl
  have E_Leq : FunD K "__eq__" "Loose.__eq__" (defArgs (lo 5)) (defBody (lo 5)) (defScope (lo 5)) [] [] (He.ma K (kL K) "__eq__") d_Leq := E_Leq
  have F_Leq : Fun K "__eq__" "Loose.__eq__" (lo 5) (He.ma K (kL K) "__eq__") d_Leq := He5.fun_of E_Leq
  have b_Leq : Binds K d_Leq ["self", "other"] [] := E_Leq.bindsN (ps := ["self", "other"]) (fun kV doc pm an cdv ct us l => by
    match us, l with
    | [a, b], _ => rfl)
  obtain ⟨d_Lrepr, E_Lrepr⟩ := S.a.def_ 64 (d := ⟨fun K => He.ma K (kL K) "__repr__", "__repr__", "Loose.__repr__", defArgs (lo 6), defBody (lo 6), defScope (lo 6), [], []⟩) rfl
  have E_Lrepr : FunD K "__repr__" "Loose.__repr__" (defArgs (lo 6)) (defBody (lo 6)) (defScope (lo 6)) [] [] (He.ma K (kL K) "__repr__") d_Lrepr := E_Lrepr
  have F_Lrepr : Fun K "__repr__" "Loose.__repr__" (lo 6) (He.ma K (kL K) "__repr__") d_Lrepr := He5.fun_of E_Lrepr
  have b_Lrepr : Binds K d_Lrepr ["self"] [] := E_Lrepr.bindsN (ps := ["self"]) (fun kV doc pm an cdv ct us l => by
    match us, l with
    | [a], _ => rfl)
  obtain ⟨bI, bI1⟩ := init_binds F_Ai
  obtain ⟨bT1, bT2, dsT, vT, bT3⟩ := tot_binds F_Ti
  obtain ⟨bP1, bP2, ⟨dsP, vP, bP3⟩, dsP2, vP2, bP4⟩ := pro_binds F_Pi
  obtain ⟨bL1, bL2, dsL, vL, bL3⟩ := lo_binds F_Li
  refine ⟨gw _ (by decide +kernel), d_law, fun s v => E_law.bindsA (ps := ["_law_script"]) (fun kV doc pm an cdv ct us l => by
    match us, l with
    | [a], _ => rfl) s [v] rfl, fun base XB GB nb => ?_⟩
  have DW : Dn P w K mg base CX0 1 "is_whole" ["value"] spWhole := ⟨_, d_is_whole, ok_whole fr F_is_whole, gw _ (by decide +kernel), F_is_whole.kp, b_is_whole⟩
  have oI : FnOk P w K mg base CX0 2 (He.ma K (kC K) "__init__") d_Ai ["self", "top", "bottom"] (spInit (kC K)) := ok_init T DW mG F_Ai
  have B : Base P w K mg base (kC K) := ⟨T, gA, ⟨_, d_Ai, mMk, oI, bI, bI1⟩, ⟨_, _, d_Atop, prp "top" (by decide), ok_top T F_Atop, b_Atop⟩, ⟨_, _, d_Abottom, prp "bottom" (by decide), ok_bot T F_Abottom, b_Abottom⟩, ⟨_, _, d_Asign, prp "sign" (by decide), ok_sgn T F_Asign, b_Asign⟩⟩
  have O : Of P w K mg base (kC K) := ⟨⟨_, _, _, d_Aof, cr, sm, ok_of fr B T2 F_Aof, b_Aof⟩⟩
  have Rp : Rep P w K mg base (kC K) := ⟨⟨_, d_Arepr, (una "__repr__" (by decide)).1, (una "__repr__" (by decide)).2, ok_repr nb fr T F_Arepr, b_Arepr⟩⟩
  have st : Una P w K mg base (kC K) "__str__" 1 (spText (kC K) written) := ⟨⟨_, d_Astr, (una "__str__" (by decide)).1, (una "__str__" (by decide)).2, ok_str nb fr T F_Astr, b_Astr⟩⟩
  have eqF : EqF P w K mg base (kC K) := ⟨⟨_, d_Aeq, (una "__eq__" (by decide)).1, (una "__eq__" (by decide)).2, ok_eq fr B T2 F_Aeq, b_Aeq, "object", [.type "object"], PySem.F.cmp_object, fun h x dx X hx => eqc_ok x4 (una "__eq__" (by decide)).2 h x dx X hx⟩⟩
  have Dname : Dn P w K mg base CX0 1 "is_name" ["value"] spName := ⟨_, d_is_name, ok_name fr m8 mLet mSig F_is_name, gw _ (by decide +kernel), F_is_name.kp, b_is_name⟩
  have Dlist : Dn P w K mg base CX0 1 "is_list" ["value"] (spList K) := ⟨_, d_is_list, ok_list fr F_is_list, gw _ (by decide +kernel), F_is_list.kp, b_is_list⟩
  have Dwna : Dn P w K mg base CX0 2 "wrong_name_at" ["values", "earlier"] (spWna K) := ⟨_, d_wrong_name_at, ok_wna fr Dname F_wrong_name_at, gw _ (by decide +kernel), F_wrong_name_at.kp, b_wrong_name_at⟩
  have Dwch : Dn P w K mg base CX0 1 "wrong_choice_at" ["values", "choices"] (spWch K) := ⟨_, d_wrong_choice_at, ok_wch fr F_wrong_choice_at, gw _ (by decide +kernel), F_wrong_choice_at.kp, b_wrong_choice_at⟩
  have Dsn : Dn P w K mg base CX0 1 "sorted_names" ["names"] (spSn K) := ⟨_, d_sorted_names, ok_sn fr F_sorted_names, gw _ (by decide +kernel), F_sorted_names.kp, b_sorted_names⟩
  have DsnD : Dn P w K mg base CX0 1 "sorted_names" ["names"] spSnD := ⟨_, d_sorted_names, ok_snD fr F_sorted_names, gw _ (by decide +kernel), F_sorted_names.kp, b_sorted_names⟩
  have DchW : Dn P w K mg base CX0 2 "_check_weights" ["weights"] spChkW := ⟨_, d_check_weights, ok_chkW fr Dname DW DsnD F_check_weights, gw _ (by decide +kernel), F_check_weights.kp, b_check_weights⟩
  have DchS : Dn P w K mg base CX0 3 "_check_side" ["side", "names", "earlier"] (spChkS K) := ⟨_, d_check_side, ok_chkS Dlist Dwna F_check_side, gw _ (by decide +kernel), F_check_side.kp, b_check_side⟩
  have Dways : Dn P w K mg base CX0 2 "_checked_ways" ["fields", "ways"] (spWays K) := ⟨_, d_checked_ways, ok_ways fr Dlist Dwch Dsn F_checked_ways, gw _ (by decide +kernel), F_checked_ways.kp, b_checked_ways⟩
  have Dterm : Dn P w K mg base CX0 1 "_signed_term" ["field", "weight"] spTerm := ⟨_, d_signed_term, ok_term fr F_signed_term, gw _ (by decide +kernel), F_signed_term.kp, b_signed_term⟩
  have DwayT : Dn P w K mg base CX0 1 "_ways_text" ["fields", "ways"] spWayT := ⟨_, d_ways_text, ok_wayT F_ways_text, gw _ (by decide +kernel), F_ways_text.kp, b_ways_text⟩
  have oT : FnOk P w K mg base CX0 5 (He.ma K (kT K) "__init__") d_Ti ["self", "weights", "total", "ways"] (spInT K (kC K) (kT K)) := ok_inT fr crT B O DchW DsnD Dways F_Ti
  have oP : FnOk P w K mg base CX0 5 (He.ma K (kP K) "__init__") d_Pi nInP (spInP K (kC K) (kP K)) := ok_inP fr crP B O DchS Dsn Dways F_Pi
  have oL : FnOk P w K mg base CX0 4 (He.ma K (kL K) "__init__") d_Li ["self", "fields", "ways"] (spInL K (kL K)) := ok_inL fr crL DchS Dsn Dways F_Li
  have rc : RC P w K mg base (kC K) (kT K) (kP K) (kL K) := ⟨gT, gP, gL, ⟨_, d_Ti, mkT, oT, bT1, bT2⟩, ⟨_, d_Pi, mkP, oP, bP1, bP2⟩, ⟨_, d_Li, mkL, oL, bL1, bL2⟩⟩
  have rd : RD P w K mg base (kC K) (kT K) (kP K) (kL K) := ⟨⟨_, d_Ti, dsT, mkT, oT, bT3, vT⟩, ⟨kTP K, _, d_Pi, dsP, mkP, oP, bP3, vP, empty_ok x12⟩, ⟨_, d_Pi, dsP2, mkP, oP, bP4, vP2⟩, ⟨_, d_Li, dsL, mkL, oL, bL3, vL⟩⟩
  have tT : Mt0 P w K mg base (kT K) "text" 4 (spTxT (kC K) (kT K)) := ⟨⟨_, d_Ttext, mtT, ok_txT fr crT st Dterm DwayT F_Ttext, b_Ttext⟩⟩
  have tP : Mt0 P w K mg base (kP K) "text" 4 (spTxP (kC K) (kP K)) := ⟨⟨_, d_Ptext, mtP, ok_txP fr crP st DwayT F_Ptext, b_Ptext⟩⟩
  have tL : Mt0 P w K mg base (kL K) "text" 2 (spTxL (kL K)) := ⟨⟨_, d_Ltext, mtL, ok_txL crL DwayT F_Ltext, b_Ltext⟩⟩
  have rm : RM P w K mg base (kC K) (kT K) (kP K) (kL K) := ⟨⟨⟨_, d_Teq, rT.eq.1, rT.eq.2, ok_eqT fr crT iT eqF gT F_Teq, b_Teq, rT.ne, rT.so⟩⟩, ⟨⟨_, d_Peq, rP.eq.1, rP.eq.2, ok_eqP fr crP iP eqF gP F_Peq, b_Peq, rP.ne, rP.so⟩⟩, ⟨⟨_, d_Leq, rL.eq.1, rL.eq.2, ok_eqL fr crL iL gL F_Leq, b_Leq, rL.ne, rL.so⟩⟩, ⟨⟨_, d_Trepr, rT.rp.1, rT.rp.2, ok_rpT crT tT F_Trepr, b_Trepr⟩⟩, ⟨⟨_, d_Prepr, rP.rp.1, rP.rp.2, ok_rpP crP tP F_Prepr, b_Prepr⟩⟩, ⟨⟨_, d_Lrepr, rL.rp.1, rL.rp.2, ok_rpL crL tL F_Lrepr, b_Lrepr⟩⟩, tT, tP, tL, rT.s1, rT.s2, rP.s1, rP.s2, rL.s1, rL.s2, rT.ty, rP.ty, rL.ty, rT.cs, rP.cs, rL.cs⟩
  have rps : RP P w K mg base (kT K) (kP K) (kL K) := ⟨⟨clT, ⟨_, _, d_Tweights, prT "weights" (by decide), ok_tot_weights fr crT F_Tweights, b_Tweights⟩⟩, ⟨clT, ⟨_, _, d_Ttotal, prT "total" (by decide), ok_tot_total crT F_Ttotal, b_Ttotal⟩⟩, ⟨clT, ⟨_, _, d_Tfields, prT "fields" (by decide), ok_tot_fields crT F_Tfields, b_Tfields⟩⟩, ⟨clT, ⟨_, _, d_Tways, prT "ways" (by decide), ok_tot_ways crT F_Tways, b_Tways⟩⟩, ⟨clP, ⟨_, _, d_Pleft, prP "left" (by decide), ok_pro_left crP F_Pleft, b_Pleft⟩⟩, ⟨clP, ⟨_, _, d_Pright, prP "right" (by decide), ok_pro_right crP F_Pright, b_Pright⟩⟩, ⟨clP, ⟨_, _, d_Pfactor, prP "factor" (by decide), ok_pro_factor crP F_Pfactor, b_Pfactor⟩⟩, ⟨clP, ⟨_, _, d_Pfields, prP "fields" (by decide), ok_pro_fields crP F_Pfields, b_Pfields⟩⟩, ⟨clP, ⟨_, _, d_Pways, prP "ways" (by decide), ok_pro_ways crP F_Pways, b_Pways⟩⟩, ⟨clL, ⟨_, _, d_Lfields, prL "fields" (by decide), ok_lo_fields crL F_Lfields, b_Lfields⟩⟩, ⟨clL, ⟨_, _, d_Lways, prL "ways" (by decide), ok_lo_ways crL F_Lways, b_Lways⟩⟩⟩
  have LD : DnD P w K mg base := ⟨_, d_law_draw, ok_draw fr F_law_draw, gw _ (by decide +kernel), F_law_draw.kp, b_law_draw⟩
  have LP : DnP P w K mg base := ⟨_, d_law_pick, ok_pick fr LD F_law_pick, gw _ (by decide +kernel), F_law_pick.kp, b_law_pick⟩
  have LL : DnL P w K mg base := ⟨_, d_law_lowest, ok_low fr F_law_lowest, gw _ (by decide +kernel), F_law_lowest.kp, b_law_lowest⟩
  have L0 : Dn P w K mg base CX0 1 "_law_pot" ["_law_script", "_law_k"] (spPot K) := ⟨_, d_law_pot, ok_pot fr F_law_pot, gw _ (by decide +kernel), F_law_pot.kp, b_law_pot⟩
  have LN : Dn P w K mg base CX0 3 "_law_named" ["_law_pot_here", "_law_size", "_law_taken"] (KD.spNamed K) := ⟨_, d_law_named, KD.ok_named fr LD LP F_law_named, gw _ (by decide +kernel), F_law_named.kp, b_law_named⟩
  have LS : Dn P w K mg base CX0 2 "_law_some" ["_law_pot_here", "_law_things", "_law_most"] (spSome K) := ⟨_, d_law_some, ok_some fr LD F_law_some, gw _ (by decide +kernel), F_law_some.kp, b_law_some⟩
  have LW : Dn P w K mg base CX0 3 "_law_weight" ["_law_pot_here"] spWei := ⟨_, d_law_weight, ok_wei LD LP F_law_weight, gw _ (by decide +kernel), F_law_weight.kp, b_law_weight⟩
  have LF : Dn P w K mg base CX0 3 "_law_fraction" ["_law_pot_here"] spFrac := ⟨_, d_law_fraction, ok_frac LP LL F_law_fraction, gw _ (by decide +kernel), F_law_fraction.kp, b_law_fraction⟩
  have LI : Dn P w K mg base CX0 1 "_law_inside" ["_law_tie"] spIns := ⟨_, d_law_inside, ok_ins fr F_law_inside, gw _ (by decide +kernel), F_law_inside.kp, b_law_inside⟩
  have LX : Dn P w K mg base CX0 7 "_law_rule" ["_law_tie"] (spRule (kC K) (kT K) (kP K) (kL K)) := ⟨_, d_law_rule, ok_rule fr B rc F_law_rule, gw _ (by decide +kernel), F_law_rule.kp, b_law_rule⟩
  have LT5 : Dn P w K mg base CX0 5 "_law_wide_tie" ["_law_pot_here", "_law_spots"] spTie := ⟨_, d_law_wide_tie, (ok_tie fr LD LS LW LF F_law_wide_tie).mono (by decide), gw _ (by decide +kernel), F_law_wide_tie.kp, b_law_wide_tie⟩
  have LU : Dn P w K mg base CX0 4 "_law_number" ["_law_part", "_law_plainly"] (spNum (kC K)) := ⟨_, d_law_number, ok_num B F_law_number, gw _ (by decide +kernel), F_law_number.kp, b_law_number⟩
  have LB : Dn P w K mg base CX0 7 "_law_rule_by_names" ["_law_tie", "_law_plainly"] (spRbn (kC K) (kT K) (kP K) (kL K)) := ⟨_, d_law_rule_by_names, ok_rbn fr rc LI LU F_law_rule_by_names, gw _ (by decide +kernel), F_law_rule_by_names.kp, b_law_rule_by_names⟩
  have G1 : DnG P w K mg base 4 "_law_due_parts" ["_law_tie"] spDue := ⟨_, d_law_due_parts, ok_due nb fr LI F_law_due_parts, gw _ (by decide +kernel), F_law_due_parts.kp, b_law_due_parts⟩
  have G2 : DnG P w K mg base 6 "_law_told_parts" ["_law_tie", "_law_rule_here"] (spTold (kC K) (kT K) (kP K) (kL K)) := ⟨_, d_law_told_parts, ok_told fr Rp rps F_law_told_parts, gw _ (by decide +kernel), F_law_told_parts.kp, b_law_told_parts⟩
  have G3 : DnG P w K mg base 7 "_law_is_right" ["_law_tie", "_law_rule_here"] (spIsr (kC K) (kT K) (kP K) (kL K)) := ⟨_, d_law_is_right, ok_isr fr rps kk gT gP gL gR LI G1 G2 F_law_is_right, gw _ (by decide +kernel), F_law_is_right.kp, b_law_is_right⟩
  have G4 : DnG P w K mg base 5 "_law_is_like" ["_law_tie", "_law_mate"] spLike := ⟨_, d_law_is_like, ok_like fr LI G1 F_law_is_like, gw _ (by decide +kernel), F_law_is_like.kp, b_law_is_like⟩
  have LY : Dn P w K mg base CX0 3 "_law_near_tie" ["_law_pot_here", "_law_tie"] spNear := ⟨_, d_law_near_tie, (ok_near fr LD LI LL F_law_near_tie).mono (by decide), gw _ (by decide +kernel), F_law_near_tie.kp, b_law_near_tie⟩
  have G5 : DnG P w K mg base 8 "_law_stays_as_it_was" ["_law_tie"] spStay := ⟨_, d_law_stays_as_it_was, ok_stay fr B rc rps LI G3 F_law_stays_as_it_was, gw _ (by decide +kernel), F_law_stays_as_it_was.kp, b_law_stays_as_it_was⟩
  have LV : Dn P w K mg base CX0 8 "_law_defaults_right" ["_law_spots"] spDfl := ⟨_, d_law_defaults_right, ok_dfl fr B rc rd kk rm F_law_defaults_right, gw _ (by decide +kernel), F_law_defaults_right.kp, b_law_defaults_right⟩
  have G6 : DnG P w K mg base 8 "_law_long_right" ["_law_pot_here"] spPK := ⟨_, d_law_long_right, ok_long fr LD LN LW LF LX G3 F_law_long_right, gw _ (by decide +kernel), F_law_long_right.kp, b_law_long_right⟩
  have G7 : DnG P w K mg base 9 "_law_right" ["_law_pot_here"] spPK := ⟨_, d_law_right, KD.ok_right ⟨fr, LD, LN, LT5, LY, LX, LB, G3, G5, G4, LV, G6, kk, rm, rps⟩ F_law_right, gw _ (by decide +kernel), F_law_right.kp, b_law_right⟩
  exact KD.ok_law fr L0 G7 F_law
end KB

set_option Elab.async false
set_option linter.all false
set_option maxRecDepth 100000
set_option maxHeartbeats 0
namespace KB
open PySem PySem.W PySem.Calls PyProof.Rows
abbrev qv : Program := view R.prog [0, 64]
abbrev dL : DefRec := HandSHeadRun.topDef R.prog 64
theorem g3 : defOf qv R.name = some (dL, []) := by kernel_rfl
theorem g4 : R.prog.theDef R.name = some (dL.params, dL.body, dL.scope) := by kernel_rfl
theorem g5 : kwWritten? dL.params.kwonlyargs dL.params.kw_defaults = some [] := by kernel_rfl
theorem g6 : (!R.writes || R.records.isEmpty) = true := by rfl
theorem g7 : R.wellSaid = true := by decide +kernel
theorem g8 : (chainsOk qv && opensWell R.prog && (frees R.toRowW && R.within.isEmpty)) = true := by decide +kernel
theorem g9 : R.prog.bare := ⟨rfl, rfl, rfl, rfl, rfl, by decide +kernel⟩
set_option maxHeartbeats 8000000 in
theorem gwi : R.toRowW.promised := by w_witness2
set_option maxHeartbeats 8000000 in
theorem gcl : WalkO qv loose (XL qv []) hk.says R.toRowW dL [] fun f vs => PySem.call f vs := by
  refine Gd.walkGTs (l := PySem.Challenge.rw_keptlast_k14_rules_by_parts) (n := 63) (k := 10) (x := "_law_script") rfl (by decide) (by kernel_rfl) ⟨rfl, by decide, by decide⟩ ?F
  intro w mg f h Y G hmg0
  obtain ⟨K, KX, c⟩ := Y
  have hmg : mg ("law" : PySem.Str) = some (.ref f) := by
    have e : dL.name = ("law" : PySem.Str) := by kernel_rfl
    rw [← e]
    exact hmg0
  obtain ⟨gL, fd, hb, hF⟩ := KB.facts (P := (PySem.Challenge.rw_keptlast_k14_rules_by_parts).prog) (w := w) KX G c
  have e2 : f = He.ga K "law" := by
    have z := hmg.symm.trans gL
    injection z with z
    injection z
  subst e2
  exact ⟨K, fd, KD.spLaw K, fun _ => 0, [], KX, (fun p hp => nomatch hp), (fun p hp => nomatch hp), (fun p hp => nomatch hp), hb, fun H a ns hl _ hS => ⟨a, ns, rfl, hl, hS, fun _ => rfl⟩, fun base XB GB nb _ => hF base XB GB nb⟩
end KB
open PySem PySem.W PySem.Calls PyProof.Rows
set_option maxRecDepth 100000 in
set_option maxHeartbeats 8000000 in
theorem PySem.Challenge.cw_keptlast_k14_rules_by_parts_holds : PySem.Challenge.rw_keptlast_k14_rules_by_parts.Holds := by
  w_on; o_law
  exact HandSHeadRun.head_imp (r := KB.R) (q := KB.qv) (H := KB.hk) (ob := KB.ob) (M := 20000) (loose := KB.loose) (d := KB.dL) (kwd := []) KB.ob_eq KB.run KB.g3 KB.g4 KB.g5 KB.g6 KB.g7 KB.g8 KB.g9 KB.gwi KB.gcl
